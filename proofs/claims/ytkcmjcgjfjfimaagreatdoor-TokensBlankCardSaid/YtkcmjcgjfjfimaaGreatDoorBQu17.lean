/- Texts that TokensQuoteLaw leans on, merged: what the functions of the program answer. -/
import Derived.Test.YtkcmjcgjfjfimaaGreatDoorBQu16
section
namespace Go.Proofs.YtkcmjcgjfjfimaaGreatDoor.tkw
open Go Go.RowKit Go.Maps utfp utfw ucdp setp setw prp tkp
theorem ixqcb11a9a6 : ∀ u, (Instr.index 142 (.agg #[.string ⟨#[60]⟩, .string ⟨#[62]⟩, .int .i64 10, .int .i64 1, .int .i64 0, .string ⟨#[80, 60]⟩, .string ⟨#[62]⟩, .int .i64 10, .int .i64 1, .int .i64 0, .string ⟨#[39]⟩, .string ⟨#[39]⟩, .int .i64 10, .int .i64 1, .int .i64 0, .string ⟨#[38]⟩, .string ⟨#[41]⟩, .int .i64 12, .int .i64 0, .int .i64 3, .string ⟨#[80, 62]⟩, .string ⟨#[41]⟩, .int .i64 12, .int .i64 0, .int .i64 3, .string ⟨#[80, 61]⟩, .string ⟨#[41]⟩, .int .i64 11, .int .i64 0, .int .i64 3]) (.int .i64 0)).run Tryz.prog u = .ok (.agg #[.string ⟨#[60]⟩, .string ⟨#[62]⟩, .int .i64 10, .int .i64 1, .int .i64 0]) u := fun u => by kernel_rfl
theorem ixq023288a3 : ∀ u, (Instr.index 142 (.agg #[.string ⟨#[60]⟩, .string ⟨#[62]⟩, .int .i64 10, .int .i64 1, .int .i64 0, .string ⟨#[80, 60]⟩, .string ⟨#[62]⟩, .int .i64 10, .int .i64 1, .int .i64 0, .string ⟨#[39]⟩, .string ⟨#[39]⟩, .int .i64 10, .int .i64 1, .int .i64 0, .string ⟨#[38]⟩, .string ⟨#[41]⟩, .int .i64 12, .int .i64 0, .int .i64 3, .string ⟨#[80, 62]⟩, .string ⟨#[41]⟩, .int .i64 12, .int .i64 0, .int .i64 3, .string ⟨#[80, 61]⟩, .string ⟨#[41]⟩, .int .i64 11, .int .i64 0, .int .i64 3]) (.int .i64 1)).run Tryz.prog u = .ok (.agg #[.string ⟨#[80, 60]⟩, .string ⟨#[62]⟩, .int .i64 10, .int .i64 1, .int .i64 0]) u := fun u => by kernel_rfl
def NaAt (w : World) : Prop := ∃ ty fr, w.heap[4]? = some (.cells #[.string ⟨#[60]⟩, .string ⟨#[62]⟩, .int .i64 10, .int .i64 1, .int .i64 0, .string ⟨#[80, 60]⟩, .string ⟨#[62]⟩, .int .i64 10, .int .i64 1, .int .i64 0, .string ⟨#[39]⟩, .string ⟨#[39]⟩, .int .i64 10, .int .i64 1, .int .i64 0, .string ⟨#[38]⟩, .string ⟨#[41]⟩, .int .i64 12, .int .i64 0, .int .i64 3, .string ⟨#[80, 62]⟩, .string ⟨#[41]⟩, .int .i64 12, .int .i64 0, .int .i64 3, .string ⟨#[80, 61]⟩, .string ⟨#[41]⟩, .int .i64 11, .int .i64 0, .int .i64 3] ty fr)
set_option maxRecDepth 100000 in
set_option maxHeartbeats 8000000 in
theorem naming_0 {C : Cf} {w : World} {a f : Nat} {T : Rw} (h : LX C w a f T) (hna : NaAt w) (h0 : C.p.has [60] a = true) : Calls Tryz.prog 100 #[.pointer (some ⟨C.L, 0, none⟩)] w (RP C w (C.p.naming f a namingsT) (QOk C w a f T)) := by
 have hs : C.p.naming f a namingsT = (if (C.p.name (a + 1)).1 = C.p.n then .error (20, (C.p.n : Int))
   else if (C.p.name (a + 1)).2 = false ∨ C.p.has [62] (C.p.name (a + 1)).1 = false then .error (27, (f : Int))
   else .ok (some ({ kind := 10, n := 1, m := 0, name := C.p.sub (a + 1) (C.p.name (a + 1)).1 }, (C.p.name (a + 1)).1 + 1))) := by
   unfold namingsT
   rw [Pt.naming, if_pos h0]; rfl
 obtain ⟨⟨e, ok⟩, hnm⟩ : ∃ d, C.p.name (a + 1) = d := ⟨_, rfl⟩
 rw [hnm] at hs
 simp only at hs
 have HN := Lib.hid hnm
 have HNE := Lib.hid (fun (hh : (a + 1) ≤ C.p.n) => name_ge (p := C.p) hh)
 rw [hnm] at HNE
 have HSI := Lib.hid hs
 clear hnm hs
 have H0 := Lib.hid h0
 clear h0
 have ix0 := ixqcb11a9a6
 obtain ⟨ty, fr, hna⟩ := hna
 have tl := h.tl
 have hk0 := Kept.refl w.heap.size C.L w
 have hB := h.hb
 go_enter Tryz.func100, Tryz.ntmps100
 go_wp2_with (refine wpList_load_row rfl 142 _ rfl 4 rfl ty _ fr _ hna Tryz.underlying142 rfl (by kernel_rfl) ?_)
 clear hna
 refine wp_loop_rounds 7 ?_
 rw [rounds_succ]
 go_wp2_with fail
 have hbA := below_al w (.cells #[.string ⟨#[60]⟩, .string ⟨#[62]⟩, .int .i64 10, .int .i64 1, .int .i64 0] 141)
 have hxa := h.below hbA
 have hka := hk0.then (Kept.of_below (L := C.L) hbA)
 refine Calls.mono (take_y hxa ⟨#[60]⟩ [60] 1 rfl rfl (by decide) H0.out) ?_
 rintro e9 w9 ⟨rfl, hx9, hkn⟩
 have hk9 := hka.then hkn
 have hlt := h.cells.lt
 have HG9 := Lib.hid ((hkn.block w.heap.size (by rw [World.size_alloc]; omega) (by omega)).trans (heap_alloc_new w _))
 have hg9 : w.heap.size < w9.heap.size := by have := hkn.size; rw [World.size_alloc] at this; omega
 clear hkn
 go_wp2_with fail
 have nge := HNE.out hx9.an
 refine Calls.mono (name_any hx9) ?_
 intro e10 w10 hr
 rw [HN.out] at hr
 obtain ⟨rfl, hx10, hkn⟩ := hr
 have hk10 := hk9.then hkn
 have HG10 := Lib.hid ((hkn.block w.heap.size hg9 (by omega)).trans HG9.out)
 have hg10 : w.heap.size < w10.heap.size := by have := hkn.size; omega
 clear hkn
 go_wp2_with fail
 refine Calls.mono (ended_any hx10) ?_
 rintro e11 w11 ⟨rfl, q11, rfl⟩
 have hx11 := hx10.drewN q11
 have hk11 := hk10.drewN q11
 have c1 : (w10.drewN q11).cell? ⟨w.heap.size, 1, none⟩ = some (.string ⟨#[62]⟩) := by show w10.cell? _ = _; simp [World.cell?, HG10.out]
 by_cases hen : e = C.p.n
 · have HS := Lib.hid (show C.p.naming f a namingsT = .error (C.p.er 20 f) by rw [HSI.out, if_pos hen]; rfl)
   rw [show decide (e = C.p.n) = true by simpa using hen]
   clear hen
   go_wp2_with fail
   refine Calls.mono (fail_any hx11 20) ?_
   rintro e19 w19 ⟨rfl, hkn⟩
   exact ⟨rfl, rp_err HS.out ⟨rfl, (hk11.mono hB).trans hkn⟩⟩
 · rw [show decide (e = C.p.n) = false by simpa using hen]
   have HSJ := Lib.hid (HSI.out.trans (if_neg hen))
   clear hen
   cases ok with
   | false =>
     have HS := Lib.hid (show C.p.naming f a namingsT = .error (C.p.er 27 f) by rw [HSJ.out, if_pos (Or.inl rfl)]; rfl)
     go_wp2_with fail
     refine Calls.mono (fail_any hx11 27) ?_
     rintro e19 w19 ⟨rfl, hkn⟩
     exact ⟨rfl, rp_err HS.out ⟨rfl, (hk11.mono hB).trans hkn⟩⟩
   | true =>
     cases hz : C.p.has [62] e with
     | false =>
       have HS := Lib.hid (show C.p.naming f a namingsT = .error (C.p.er 27 f) by rw [HSJ.out, if_pos (Or.inr hz)]; rfl)
       go_wp2_with fail
       refine Calls.mono (take_n hx11 ⟨#[62]⟩ [62] rfl (by decide) hz) ?_
       rintro e12 w12 ⟨rfl, hx12, hkn⟩
       have hk12 := hk11.then hkn
       clear hkn hz
       go_wp2_with fail
       refine Calls.mono (fail_any hx12 27) ?_
       rintro e19 w19 ⟨rfl, hkn⟩
       exact ⟨rfl, rp_err HS.out ⟨rfl, (hk12.mono hB).trans hkn⟩⟩
     | true =>
       have HS := Lib.hid (show C.p.naming f a namingsT = .ok (some ({ kind := 10, n := 1, m := 0, name := C.p.sub (a + 1) e }, e + 1)) by rw [HSJ.out, if_neg (by simp [hz])])
       go_wp2_with fail
       refine Calls.mono (take_y hx11 ⟨#[62]⟩ [62] 1 rfl rfl (by decide) hz) ?_
       rintro e12 w12 ⟨rfl, hx12, hkn⟩
       have hk12 := hk11.then hkn
       have HG12 := Lib.hid ((hkn.block w.heap.size hg10 (by omega)).trans (show (w10.drewN q11).heap[w.heap.size]? = _ from HG10.out))
       have c2 : w12.cell? ⟨w.heap.size, 2, none⟩ = some (.int .i64 10) := by simp [World.cell?, HG12.out]
       have c3 : w12.cell? ⟨w.heap.size, 3, none⟩ = some (.int .i64 1) := by simp [World.cell?, HG12.out]
       have c4 : w12.cell? ⟨w.heap.size, 4, none⟩ = some (.int .i64 0) := by simp [World.cell?, HG12.out]
       clear hkn hz
       go_wp2_with fail
       refine Calls.mono (put_any hx12 (.slice none 0 0) { kind := 10, n := 1, m := 0, name := C.p.sub (a + 1) e } (ownR_nil _ _) (by omega)) ?_
       rintro e13 w13 ⟨rfl, hx13, hkn⟩
       go_wp2_with fail
       go_ret
       exact rp_ok HS.out ⟨rfl, hx13, (hk12.mono hB).trans hkn⟩
set_option maxRecDepth 100000 in
set_option maxHeartbeats 8000000 in
theorem naming_1 {C : Cf} {w : World} {a f : Nat} {T : Rw} (h : LX C w a f T) (hna : NaAt w) (h0 : C.p.has [60] a = false) (h1 : C.p.has [80, 60] a = true) : Calls Tryz.prog 100 #[.pointer (some ⟨C.L, 0, none⟩)] w (RP C w (C.p.naming f a namingsT) (QOk C w a f T)) := by
 have hs : C.p.naming f a namingsT = (if (C.p.name (a + 2)).1 = C.p.n then .error (20, (C.p.n : Int))
   else if (C.p.name (a + 2)).2 = false ∨ C.p.has [62] (C.p.name (a + 2)).1 = false then .error (27, (f : Int))
   else .ok (some ({ kind := 10, n := 1, m := 0, name := C.p.sub (a + 2) (C.p.name (a + 2)).1 }, (C.p.name (a + 2)).1 + 1))) := by
   unfold namingsT
   rw [Pt.naming, if_neg (by simp [h0])]; rw [Pt.naming, if_pos h1]; rfl
 obtain ⟨⟨e, ok⟩, hnm⟩ : ∃ d, C.p.name (a + 2) = d := ⟨_, rfl⟩
 rw [hnm] at hs
 simp only at hs
 have HN := Lib.hid hnm
 have HNE := Lib.hid (fun (hh : (a + 2) ≤ C.p.n) => name_ge (p := C.p) hh)
 rw [hnm] at HNE
 have HSI := Lib.hid hs
 clear hnm hs
 have H0 := Lib.hid h0
 clear h0
 have H1 := Lib.hid h1
 clear h1
 have ix0 := ixqcb11a9a6
 have ix1 := ixq023288a3
 obtain ⟨ty, fr, hna⟩ := hna
 have tl := h.tl
 have hk0 := Kept.refl w.heap.size C.L w
 have hB := h.hb
 go_enter Tryz.func100, Tryz.ntmps100
 go_wp2_with (refine wpList_load_row rfl 142 _ rfl 4 rfl ty _ fr _ hna Tryz.underlying142 rfl (by kernel_rfl) ?_)
 clear hna
 refine wp_loop_rounds 7 ?_
 rw [rounds_succ]
 go_wp2_with fail
 have hbA := below_al w (.cells #[.string ⟨#[60]⟩, .string ⟨#[62]⟩, .int .i64 10, .int .i64 1, .int .i64 0] 141)
 have hxa := h.below hbA
 have hka := hk0.then (Kept.of_below (L := C.L) hbA)
 refine Calls.mono (take_n hxa ⟨#[60]⟩ [60] rfl (by decide) H0.out) ?_
 rintro e1 w1 ⟨rfl, hx1, hkn⟩
 have hk1 := hka.then hkn
 clear hkn hbA hxa hka
 go_wp2_with fail
 rw [rounds_succ]
 go_wp2_with fail
 have hbA := below_al w1 (.cells #[.string ⟨#[80, 60]⟩, .string ⟨#[62]⟩, .int .i64 10, .int .i64 1, .int .i64 0] 141)
 have hxa := hx1.below hbA
 have hka := hk1.then (Kept.of_below (L := C.L) hbA)
 refine Calls.mono (take_y hxa ⟨#[80, 60]⟩ [80, 60] 2 rfl rfl (by decide) H1.out) ?_
 rintro e9 w9 ⟨rfl, hx9, hkn⟩
 have hk9 := hka.then hkn
 have hlt := hx1.cells.lt
 have HG9 := Lib.hid ((hkn.block w1.heap.size (by rw [World.size_alloc]; omega) (by omega)).trans (heap_alloc_new w1 _))
 have hg9 : w1.heap.size < w9.heap.size := by have := hkn.size; rw [World.size_alloc] at this; omega
 clear hkn
 go_wp2_with fail
 have nge := HNE.out hx9.an
 refine Calls.mono (name_any hx9) ?_
 intro e10 w10 hr
 rw [HN.out] at hr
 obtain ⟨rfl, hx10, hkn⟩ := hr
 have hk10 := hk9.then hkn
 have HG10 := Lib.hid ((hkn.block w1.heap.size hg9 (by omega)).trans HG9.out)
 have hg10 : w1.heap.size < w10.heap.size := by have := hkn.size; omega
 clear hkn
 go_wp2_with fail
 refine Calls.mono (ended_any hx10) ?_
 rintro e11 w11 ⟨rfl, q11, rfl⟩
 have hx11 := hx10.drewN q11
 have hk11 := hk10.drewN q11
 have c1 : (w10.drewN q11).cell? ⟨w1.heap.size, 1, none⟩ = some (.string ⟨#[62]⟩) := by show w10.cell? _ = _; simp [World.cell?, HG10.out]
 by_cases hen : e = C.p.n
 · have HS := Lib.hid (show C.p.naming f a namingsT = .error (C.p.er 20 f) by rw [HSI.out, if_pos hen]; rfl)
   rw [show decide (e = C.p.n) = true by simpa using hen]
   clear hen
   go_wp2_with fail
   refine Calls.mono (fail_any hx11 20) ?_
   rintro e19 w19 ⟨rfl, hkn⟩
   exact ⟨rfl, rp_err HS.out ⟨rfl, (hk11.mono hB).trans hkn⟩⟩
 · rw [show decide (e = C.p.n) = false by simpa using hen]
   have HSJ := Lib.hid (HSI.out.trans (if_neg hen))
   clear hen
   cases ok with
   | false =>
     have HS := Lib.hid (show C.p.naming f a namingsT = .error (C.p.er 27 f) by rw [HSJ.out, if_pos (Or.inl rfl)]; rfl)
     go_wp2_with fail
     refine Calls.mono (fail_any hx11 27) ?_
     rintro e19 w19 ⟨rfl, hkn⟩
     exact ⟨rfl, rp_err HS.out ⟨rfl, (hk11.mono hB).trans hkn⟩⟩
   | true =>
     cases hz : C.p.has [62] e with
     | false =>
       have HS := Lib.hid (show C.p.naming f a namingsT = .error (C.p.er 27 f) by rw [HSJ.out, if_pos (Or.inr hz)]; rfl)
       go_wp2_with fail
       refine Calls.mono (take_n hx11 ⟨#[62]⟩ [62] rfl (by decide) hz) ?_
       rintro e12 w12 ⟨rfl, hx12, hkn⟩
       have hk12 := hk11.then hkn
       clear hkn hz
       go_wp2_with fail
       refine Calls.mono (fail_any hx12 27) ?_
       rintro e19 w19 ⟨rfl, hkn⟩
       exact ⟨rfl, rp_err HS.out ⟨rfl, (hk12.mono hB).trans hkn⟩⟩
     | true =>
       have HS := Lib.hid (show C.p.naming f a namingsT = .ok (some ({ kind := 10, n := 1, m := 0, name := C.p.sub (a + 2) e }, e + 1)) by rw [HSJ.out, if_neg (by simp [hz])])
       go_wp2_with fail
       refine Calls.mono (take_y hx11 ⟨#[62]⟩ [62] 1 rfl rfl (by decide) hz) ?_
       rintro e12 w12 ⟨rfl, hx12, hkn⟩
       have hk12 := hk11.then hkn
       have HG12 := Lib.hid ((hkn.block w1.heap.size hg10 (by omega)).trans (show (w10.drewN q11).heap[w1.heap.size]? = _ from HG10.out))
       have c2 : w12.cell? ⟨w1.heap.size, 2, none⟩ = some (.int .i64 10) := by simp [World.cell?, HG12.out]
       have c3 : w12.cell? ⟨w1.heap.size, 3, none⟩ = some (.int .i64 1) := by simp [World.cell?, HG12.out]
       have c4 : w12.cell? ⟨w1.heap.size, 4, none⟩ = some (.int .i64 0) := by simp [World.cell?, HG12.out]
       clear hkn hz
       go_wp2_with fail
       refine Calls.mono (put_any hx12 (.slice none 0 0) { kind := 10, n := 1, m := 0, name := C.p.sub (a + 2) e } (ownR_nil _ _) (by omega)) ?_
       rintro e13 w13 ⟨rfl, hx13, hkn⟩
       go_wp2_with fail
       go_ret
       exact rp_ok HS.out ⟨rfl, hx13, (hk12.mono hB).trans hkn⟩
set_option maxRecDepth 100000 in
set_option maxHeartbeats 8000000 in
theorem naming_2 {C : Cf} {w : World} {a f : Nat} {T : Rw} (h : LX C w a f T) (hna : NaAt w) (h0 : C.p.has [60] a = false) (h1 : C.p.has [80, 60] a = false) (h2 : C.p.has [39] a = true) : Calls Tryz.prog 100 #[.pointer (some ⟨C.L, 0, none⟩)] w (RP C w (C.p.naming f a namingsT) (QOk C w a f T)) := by
 have hs : C.p.naming f a namingsT = (if (C.p.name (a + 1)).1 = C.p.n then .error (20, (C.p.n : Int))
   else if (C.p.name (a + 1)).2 = false ∨ C.p.has [39] (C.p.name (a + 1)).1 = false then .error (27, (f : Int))
   else .ok (some ({ kind := 10, n := 1, m := 0, name := C.p.sub (a + 1) (C.p.name (a + 1)).1 }, (C.p.name (a + 1)).1 + 1))) := by
   unfold namingsT
   rw [Pt.naming, if_neg (by simp [h0])]; rw [Pt.naming, if_neg (by simp [h1])]; rw [Pt.naming, if_pos h2]; rfl
 obtain ⟨⟨e, ok⟩, hnm⟩ : ∃ d, C.p.name (a + 1) = d := ⟨_, rfl⟩
 rw [hnm] at hs
 simp only at hs
 have HN := Lib.hid hnm
 have HNE := Lib.hid (fun (hh : (a + 1) ≤ C.p.n) => name_ge (p := C.p) hh)
 rw [hnm] at HNE
 have HSI := Lib.hid hs
 clear hnm hs
 have H0 := Lib.hid h0
 clear h0
 have H1 := Lib.hid h1
 clear h1
 have H2 := Lib.hid h2
 clear h2
 have ix0 := ixqcb11a9a6
 have ix1 := ixq023288a3
 have ix2 : ∀ u, (Instr.index 142 (.agg #[.string ⟨#[60]⟩, .string ⟨#[62]⟩, .int .i64 10, .int .i64 1, .int .i64 0, .string ⟨#[80, 60]⟩, .string ⟨#[62]⟩, .int .i64 10, .int .i64 1, .int .i64 0, .string ⟨#[39]⟩, .string ⟨#[39]⟩, .int .i64 10, .int .i64 1, .int .i64 0, .string ⟨#[38]⟩, .string ⟨#[41]⟩, .int .i64 12, .int .i64 0, .int .i64 3, .string ⟨#[80, 62]⟩, .string ⟨#[41]⟩, .int .i64 12, .int .i64 0, .int .i64 3, .string ⟨#[80, 61]⟩, .string ⟨#[41]⟩, .int .i64 11, .int .i64 0, .int .i64 3]) (.int .i64 2)).run Tryz.prog u = .ok (.agg #[.string ⟨#[39]⟩, .string ⟨#[39]⟩, .int .i64 10, .int .i64 1, .int .i64 0]) u := fun u => by kernel_rfl
 obtain ⟨ty, fr, hna⟩ := hna
 have tl := h.tl
 have hk0 := Kept.refl w.heap.size C.L w
 have hB := h.hb
 go_enter Tryz.func100, Tryz.ntmps100
 go_wp2_with (refine wpList_load_row rfl 142 _ rfl 4 rfl ty _ fr _ hna Tryz.underlying142 rfl (by kernel_rfl) ?_)
 clear hna
 refine wp_loop_rounds 7 ?_
 rw [rounds_succ]
 go_wp2_with fail
 have hbA := below_al w (.cells #[.string ⟨#[60]⟩, .string ⟨#[62]⟩, .int .i64 10, .int .i64 1, .int .i64 0] 141)
 have hxa := h.below hbA
 have hka := hk0.then (Kept.of_below (L := C.L) hbA)
 refine Calls.mono (take_n hxa ⟨#[60]⟩ [60] rfl (by decide) H0.out) ?_
 rintro e1 w1 ⟨rfl, hx1, hkn⟩
 have hk1 := hka.then hkn
 clear hkn hbA hxa hka
 go_wp2_with fail
 rw [rounds_succ]
 go_wp2_with fail
 have hbA := below_al w1 (.cells #[.string ⟨#[80, 60]⟩, .string ⟨#[62]⟩, .int .i64 10, .int .i64 1, .int .i64 0] 141)
 have hxa := hx1.below hbA
 have hka := hk1.then (Kept.of_below (L := C.L) hbA)
 refine Calls.mono (take_n hxa ⟨#[80, 60]⟩ [80, 60] rfl (by decide) H1.out) ?_
 rintro e2 w2 ⟨rfl, hx2, hkn⟩
 have hk2 := hka.then hkn
 clear hkn hbA hxa hka
 go_wp2_with fail
 rw [rounds_succ]
 go_wp2_with fail
 have hbA := below_al w2 (.cells #[.string ⟨#[39]⟩, .string ⟨#[39]⟩, .int .i64 10, .int .i64 1, .int .i64 0] 141)
 have hxa := hx2.below hbA
 have hka := hk2.then (Kept.of_below (L := C.L) hbA)
 refine Calls.mono (take_y hxa ⟨#[39]⟩ [39] 1 rfl rfl (by decide) H2.out) ?_
 rintro e9 w9 ⟨rfl, hx9, hkn⟩
 have hk9 := hka.then hkn
 have hlt := hx2.cells.lt
 have HG9 := Lib.hid ((hkn.block w2.heap.size (by rw [World.size_alloc]; omega) (by omega)).trans (heap_alloc_new w2 _))
 have hg9 : w2.heap.size < w9.heap.size := by have := hkn.size; rw [World.size_alloc] at this; omega
 clear hkn
 go_wp2_with fail
 have nge := HNE.out hx9.an
 refine Calls.mono (name_any hx9) ?_
 intro e10 w10 hr
 rw [HN.out] at hr
 obtain ⟨rfl, hx10, hkn⟩ := hr
 have hk10 := hk9.then hkn
 have HG10 := Lib.hid ((hkn.block w2.heap.size hg9 (by omega)).trans HG9.out)
 have hg10 : w2.heap.size < w10.heap.size := by have := hkn.size; omega
 clear hkn
 go_wp2_with fail
 refine Calls.mono (ended_any hx10) ?_
 rintro e11 w11 ⟨rfl, q11, rfl⟩
 have hx11 := hx10.drewN q11
 have hk11 := hk10.drewN q11
 have c1 : (w10.drewN q11).cell? ⟨w2.heap.size, 1, none⟩ = some (.string ⟨#[39]⟩) := by show w10.cell? _ = _; simp [World.cell?, HG10.out]
 by_cases hen : e = C.p.n
 · have HS := Lib.hid (show C.p.naming f a namingsT = .error (C.p.er 20 f) by rw [HSI.out, if_pos hen]; rfl)
   rw [show decide (e = C.p.n) = true by simpa using hen]
   clear hen
   go_wp2_with fail
   refine Calls.mono (fail_any hx11 20) ?_
   rintro e19 w19 ⟨rfl, hkn⟩
   exact ⟨rfl, rp_err HS.out ⟨rfl, (hk11.mono hB).trans hkn⟩⟩
 · rw [show decide (e = C.p.n) = false by simpa using hen]
   have HSJ := Lib.hid (HSI.out.trans (if_neg hen))
   clear hen
   cases ok with
   | false =>
     have HS := Lib.hid (show C.p.naming f a namingsT = .error (C.p.er 27 f) by rw [HSJ.out, if_pos (Or.inl rfl)]; rfl)
     go_wp2_with fail
     refine Calls.mono (fail_any hx11 27) ?_
     rintro e19 w19 ⟨rfl, hkn⟩
     exact ⟨rfl, rp_err HS.out ⟨rfl, (hk11.mono hB).trans hkn⟩⟩
   | true =>
     cases hz : C.p.has [39] e with
     | false =>
       have HS := Lib.hid (show C.p.naming f a namingsT = .error (C.p.er 27 f) by rw [HSJ.out, if_pos (Or.inr hz)]; rfl)
       go_wp2_with fail
       refine Calls.mono (take_n hx11 ⟨#[39]⟩ [39] rfl (by decide) hz) ?_
       rintro e12 w12 ⟨rfl, hx12, hkn⟩
       have hk12 := hk11.then hkn
       clear hkn hz
       go_wp2_with fail
       refine Calls.mono (fail_any hx12 27) ?_
       rintro e19 w19 ⟨rfl, hkn⟩
       exact ⟨rfl, rp_err HS.out ⟨rfl, (hk12.mono hB).trans hkn⟩⟩
     | true =>
       have HS := Lib.hid (show C.p.naming f a namingsT = .ok (some ({ kind := 10, n := 1, m := 0, name := C.p.sub (a + 1) e }, e + 1)) by rw [HSJ.out, if_neg (by simp [hz])])
       go_wp2_with fail
       refine Calls.mono (take_y hx11 ⟨#[39]⟩ [39] 1 rfl rfl (by decide) hz) ?_
       rintro e12 w12 ⟨rfl, hx12, hkn⟩
       have hk12 := hk11.then hkn
       have HG12 := Lib.hid ((hkn.block w2.heap.size hg10 (by omega)).trans (show (w10.drewN q11).heap[w2.heap.size]? = _ from HG10.out))
       have c2 : w12.cell? ⟨w2.heap.size, 2, none⟩ = some (.int .i64 10) := by simp [World.cell?, HG12.out]
       have c3 : w12.cell? ⟨w2.heap.size, 3, none⟩ = some (.int .i64 1) := by simp [World.cell?, HG12.out]
       have c4 : w12.cell? ⟨w2.heap.size, 4, none⟩ = some (.int .i64 0) := by simp [World.cell?, HG12.out]
       clear hkn hz
       go_wp2_with fail
       refine Calls.mono (put_any hx12 (.slice none 0 0) { kind := 10, n := 1, m := 0, name := C.p.sub (a + 1) e } (ownR_nil _ _) (by omega)) ?_
       rintro e13 w13 ⟨rfl, hx13, hkn⟩
       go_wp2_with fail
       go_ret
       exact rp_ok HS.out ⟨rfl, hx13, (hk12.mono hB).trans hkn⟩
end Go.Proofs.YtkcmjcgjfjfimaaGreatDoor.tkw
end
section
namespace Go.Proofs.YtkcmjcgjfjfimaaGreatDoor.tkw
open Go Go.RowKit Go.Maps utfp utfw ucdp setp setw prp tkp
theorem ixqeee58a7f : ∀ u, (Instr.index 142 (.agg #[.string ⟨#[60]⟩, .string ⟨#[62]⟩, .int .i64 10, .int .i64 1, .int .i64 0, .string ⟨#[80, 60]⟩, .string ⟨#[62]⟩, .int .i64 10, .int .i64 1, .int .i64 0, .string ⟨#[39]⟩, .string ⟨#[39]⟩, .int .i64 10, .int .i64 1, .int .i64 0, .string ⟨#[38]⟩, .string ⟨#[41]⟩, .int .i64 12, .int .i64 0, .int .i64 3, .string ⟨#[80, 62]⟩, .string ⟨#[41]⟩, .int .i64 12, .int .i64 0, .int .i64 3, .string ⟨#[80, 61]⟩, .string ⟨#[41]⟩, .int .i64 11, .int .i64 0, .int .i64 3]) (.int .i64 0)).run Tryz.prog u = .ok (.agg #[.string ⟨#[60]⟩, .string ⟨#[62]⟩, .int .i64 10, .int .i64 1, .int .i64 0]) u := fun u => by kernel_rfl
theorem ixq25beaae2 : ∀ u, (Instr.index 142 (.agg #[.string ⟨#[60]⟩, .string ⟨#[62]⟩, .int .i64 10, .int .i64 1, .int .i64 0, .string ⟨#[80, 60]⟩, .string ⟨#[62]⟩, .int .i64 10, .int .i64 1, .int .i64 0, .string ⟨#[39]⟩, .string ⟨#[39]⟩, .int .i64 10, .int .i64 1, .int .i64 0, .string ⟨#[38]⟩, .string ⟨#[41]⟩, .int .i64 12, .int .i64 0, .int .i64 3, .string ⟨#[80, 62]⟩, .string ⟨#[41]⟩, .int .i64 12, .int .i64 0, .int .i64 3, .string ⟨#[80, 61]⟩, .string ⟨#[41]⟩, .int .i64 11, .int .i64 0, .int .i64 3]) (.int .i64 1)).run Tryz.prog u = .ok (.agg #[.string ⟨#[80, 60]⟩, .string ⟨#[62]⟩, .int .i64 10, .int .i64 1, .int .i64 0]) u := fun u => by kernel_rfl
theorem ixqd0c129c7 : ∀ u, (Instr.index 142 (.agg #[.string ⟨#[60]⟩, .string ⟨#[62]⟩, .int .i64 10, .int .i64 1, .int .i64 0, .string ⟨#[80, 60]⟩, .string ⟨#[62]⟩, .int .i64 10, .int .i64 1, .int .i64 0, .string ⟨#[39]⟩, .string ⟨#[39]⟩, .int .i64 10, .int .i64 1, .int .i64 0, .string ⟨#[38]⟩, .string ⟨#[41]⟩, .int .i64 12, .int .i64 0, .int .i64 3, .string ⟨#[80, 62]⟩, .string ⟨#[41]⟩, .int .i64 12, .int .i64 0, .int .i64 3, .string ⟨#[80, 61]⟩, .string ⟨#[41]⟩, .int .i64 11, .int .i64 0, .int .i64 3]) (.int .i64 2)).run Tryz.prog u = .ok (.agg #[.string ⟨#[39]⟩, .string ⟨#[39]⟩, .int .i64 10, .int .i64 1, .int .i64 0]) u := fun u => by kernel_rfl
theorem ixq6b7de023 : ∀ u, (Instr.index 142 (.agg #[.string ⟨#[60]⟩, .string ⟨#[62]⟩, .int .i64 10, .int .i64 1, .int .i64 0, .string ⟨#[80, 60]⟩, .string ⟨#[62]⟩, .int .i64 10, .int .i64 1, .int .i64 0, .string ⟨#[39]⟩, .string ⟨#[39]⟩, .int .i64 10, .int .i64 1, .int .i64 0, .string ⟨#[38]⟩, .string ⟨#[41]⟩, .int .i64 12, .int .i64 0, .int .i64 3, .string ⟨#[80, 62]⟩, .string ⟨#[41]⟩, .int .i64 12, .int .i64 0, .int .i64 3, .string ⟨#[80, 61]⟩, .string ⟨#[41]⟩, .int .i64 11, .int .i64 0, .int .i64 3]) (.int .i64 3)).run Tryz.prog u = .ok (.agg #[.string ⟨#[38]⟩, .string ⟨#[41]⟩, .int .i64 12, .int .i64 0, .int .i64 3]) u := fun u => by kernel_rfl
theorem ixq503c47b4 : ∀ u, (Instr.index 142 (.agg #[.string ⟨#[60]⟩, .string ⟨#[62]⟩, .int .i64 10, .int .i64 1, .int .i64 0, .string ⟨#[80, 60]⟩, .string ⟨#[62]⟩, .int .i64 10, .int .i64 1, .int .i64 0, .string ⟨#[39]⟩, .string ⟨#[39]⟩, .int .i64 10, .int .i64 1, .int .i64 0, .string ⟨#[38]⟩, .string ⟨#[41]⟩, .int .i64 12, .int .i64 0, .int .i64 3, .string ⟨#[80, 62]⟩, .string ⟨#[41]⟩, .int .i64 12, .int .i64 0, .int .i64 3, .string ⟨#[80, 61]⟩, .string ⟨#[41]⟩, .int .i64 11, .int .i64 0, .int .i64 3]) (.int .i64 4)).run Tryz.prog u = .ok (.agg #[.string ⟨#[80, 62]⟩, .string ⟨#[41]⟩, .int .i64 12, .int .i64 0, .int .i64 3]) u := fun u => by kernel_rfl
theorem ixqcb5873fb : ∀ u, (Instr.index 142 (.agg #[.string ⟨#[60]⟩, .string ⟨#[62]⟩, .int .i64 10, .int .i64 1, .int .i64 0, .string ⟨#[80, 60]⟩, .string ⟨#[62]⟩, .int .i64 10, .int .i64 1, .int .i64 0, .string ⟨#[39]⟩, .string ⟨#[39]⟩, .int .i64 10, .int .i64 1, .int .i64 0, .string ⟨#[38]⟩, .string ⟨#[41]⟩, .int .i64 12, .int .i64 0, .int .i64 3, .string ⟨#[80, 62]⟩, .string ⟨#[41]⟩, .int .i64 12, .int .i64 0, .int .i64 3, .string ⟨#[80, 61]⟩, .string ⟨#[41]⟩, .int .i64 11, .int .i64 0, .int .i64 3]) (.int .i64 5)).run Tryz.prog u = .ok (.agg #[.string ⟨#[80, 61]⟩, .string ⟨#[41]⟩, .int .i64 11, .int .i64 0, .int .i64 3]) u := fun u => by kernel_rfl
set_option maxRecDepth 100000 in
set_option maxHeartbeats 8000000 in
theorem naming_3 {C : Cf} {w : World} {a f : Nat} {T : Rw} (h : LX C w a f T) (hna : NaAt w) (h0 : C.p.has [60] a = false) (h1 : C.p.has [80, 60] a = false) (h2 : C.p.has [39] a = false) (h3 : C.p.has [38] a = true) : Calls Tryz.prog 100 #[.pointer (some ⟨C.L, 0, none⟩)] w (RP C w (C.p.naming f a namingsT) (QOk C w a f T)) := by
 have hs : C.p.naming f a namingsT = (if (C.p.name (a + 1)).1 = C.p.n then .error (20, (C.p.n : Int))
   else if (C.p.name (a + 1)).2 = false ∨ C.p.has [41] (C.p.name (a + 1)).1 = false then .error (27, (f : Int))
   else .ok (some ({ kind := 12, n := 0, m := 3, name := C.p.sub (a + 1) (C.p.name (a + 1)).1 }, (C.p.name (a + 1)).1 + 1))) := by
   unfold namingsT
   rw [Pt.naming, if_neg (by simp [h0])]; rw [Pt.naming, if_neg (by simp [h1])]; rw [Pt.naming, if_neg (by simp [h2])]; rw [Pt.naming, if_pos h3]; rfl
 obtain ⟨⟨e, ok⟩, hnm⟩ : ∃ d, C.p.name (a + 1) = d := ⟨_, rfl⟩
 rw [hnm] at hs
 simp only at hs
 have HN := Lib.hid hnm
 have HNE := Lib.hid (fun (hh : (a + 1) ≤ C.p.n) => name_ge (p := C.p) hh)
 rw [hnm] at HNE
 have HSI := Lib.hid hs
 clear hnm hs
 have H0 := Lib.hid h0
 clear h0
 have H1 := Lib.hid h1
 clear h1
 have H2 := Lib.hid h2
 clear h2
 have H3 := Lib.hid h3
 clear h3
 have ix0 := ixqeee58a7f
 have ix1 := ixq25beaae2
 have ix2 := ixqd0c129c7
 have ix3 := ixq6b7de023
 obtain ⟨ty, fr, hna⟩ := hna
 have tl := h.tl
 have hk0 := Kept.refl w.heap.size C.L w
 have hB := h.hb
 go_enter Tryz.func100, Tryz.ntmps100
 go_wp2_with (refine wpList_load_row rfl 142 _ rfl 4 rfl ty _ fr _ hna Tryz.underlying142 rfl (by kernel_rfl) ?_)
 clear hna
 refine wp_loop_rounds 7 ?_
 rw [rounds_succ]
 go_wp2_with fail
 have hbA := below_al w (.cells #[.string ⟨#[60]⟩, .string ⟨#[62]⟩, .int .i64 10, .int .i64 1, .int .i64 0] 141)
 have hxa := h.below hbA
 have hka := hk0.then (Kept.of_below (L := C.L) hbA)
 refine Calls.mono (take_n hxa ⟨#[60]⟩ [60] rfl (by decide) H0.out) ?_
 rintro e1 w1 ⟨rfl, hx1, hkn⟩
 have hk1 := hka.then hkn
 clear hkn hbA hxa hka
 go_wp2_with fail
 rw [rounds_succ]
 go_wp2_with fail
 have hbA := below_al w1 (.cells #[.string ⟨#[80, 60]⟩, .string ⟨#[62]⟩, .int .i64 10, .int .i64 1, .int .i64 0] 141)
 have hxa := hx1.below hbA
 have hka := hk1.then (Kept.of_below (L := C.L) hbA)
 refine Calls.mono (take_n hxa ⟨#[80, 60]⟩ [80, 60] rfl (by decide) H1.out) ?_
 rintro e2 w2 ⟨rfl, hx2, hkn⟩
 have hk2 := hka.then hkn
 clear hkn hbA hxa hka
 go_wp2_with fail
 rw [rounds_succ]
 go_wp2_with fail
 have hbA := below_al w2 (.cells #[.string ⟨#[39]⟩, .string ⟨#[39]⟩, .int .i64 10, .int .i64 1, .int .i64 0] 141)
 have hxa := hx2.below hbA
 have hka := hk2.then (Kept.of_below (L := C.L) hbA)
 refine Calls.mono (take_n hxa ⟨#[39]⟩ [39] rfl (by decide) H2.out) ?_
 rintro e3 w3 ⟨rfl, hx3, hkn⟩
 have hk3 := hka.then hkn
 clear hkn hbA hxa hka
 go_wp2_with fail
 rw [rounds_succ]
 go_wp2_with fail
 have hbA := below_al w3 (.cells #[.string ⟨#[38]⟩, .string ⟨#[41]⟩, .int .i64 12, .int .i64 0, .int .i64 3] 141)
 have hxa := hx3.below hbA
 have hka := hk3.then (Kept.of_below (L := C.L) hbA)
 refine Calls.mono (take_y hxa ⟨#[38]⟩ [38] 1 rfl rfl (by decide) H3.out) ?_
 rintro e9 w9 ⟨rfl, hx9, hkn⟩
 have hk9 := hka.then hkn
 have hlt := hx3.cells.lt
 have HG9 := Lib.hid ((hkn.block w3.heap.size (by rw [World.size_alloc]; omega) (by omega)).trans (heap_alloc_new w3 _))
 have hg9 : w3.heap.size < w9.heap.size := by have := hkn.size; rw [World.size_alloc] at this; omega
 clear hkn
 go_wp2_with fail
 have nge := HNE.out hx9.an
 refine Calls.mono (name_any hx9) ?_
 intro e10 w10 hr
 rw [HN.out] at hr
 obtain ⟨rfl, hx10, hkn⟩ := hr
 have hk10 := hk9.then hkn
 have HG10 := Lib.hid ((hkn.block w3.heap.size hg9 (by omega)).trans HG9.out)
 have hg10 : w3.heap.size < w10.heap.size := by have := hkn.size; omega
 clear hkn
 go_wp2_with fail
 refine Calls.mono (ended_any hx10) ?_
 rintro e11 w11 ⟨rfl, q11, rfl⟩
 have hx11 := hx10.drewN q11
 have hk11 := hk10.drewN q11
 have c1 : (w10.drewN q11).cell? ⟨w3.heap.size, 1, none⟩ = some (.string ⟨#[41]⟩) := by show w10.cell? _ = _; simp [World.cell?, HG10.out]
 by_cases hen : e = C.p.n
 · have HS := Lib.hid (show C.p.naming f a namingsT = .error (C.p.er 20 f) by rw [HSI.out, if_pos hen]; rfl)
   rw [show decide (e = C.p.n) = true by simpa using hen]
   clear hen
   go_wp2_with fail
   refine Calls.mono (fail_any hx11 20) ?_
   rintro e19 w19 ⟨rfl, hkn⟩
   exact ⟨rfl, rp_err HS.out ⟨rfl, (hk11.mono hB).trans hkn⟩⟩
 · rw [show decide (e = C.p.n) = false by simpa using hen]
   have HSJ := Lib.hid (HSI.out.trans (if_neg hen))
   clear hen
   cases ok with
   | false =>
     have HS := Lib.hid (show C.p.naming f a namingsT = .error (C.p.er 27 f) by rw [HSJ.out, if_pos (Or.inl rfl)]; rfl)
     go_wp2_with fail
     refine Calls.mono (fail_any hx11 27) ?_
     rintro e19 w19 ⟨rfl, hkn⟩
     exact ⟨rfl, rp_err HS.out ⟨rfl, (hk11.mono hB).trans hkn⟩⟩
   | true =>
     cases hz : C.p.has [41] e with
     | false =>
       have HS := Lib.hid (show C.p.naming f a namingsT = .error (C.p.er 27 f) by rw [HSJ.out, if_pos (Or.inr hz)]; rfl)
       go_wp2_with fail
       refine Calls.mono (take_n hx11 ⟨#[41]⟩ [41] rfl (by decide) hz) ?_
       rintro e12 w12 ⟨rfl, hx12, hkn⟩
       have hk12 := hk11.then hkn
       clear hkn hz
       go_wp2_with fail
       refine Calls.mono (fail_any hx12 27) ?_
       rintro e19 w19 ⟨rfl, hkn⟩
       exact ⟨rfl, rp_err HS.out ⟨rfl, (hk12.mono hB).trans hkn⟩⟩
     | true =>
       have HS := Lib.hid (show C.p.naming f a namingsT = .ok (some ({ kind := 12, n := 0, m := 3, name := C.p.sub (a + 1) e }, e + 1)) by rw [HSJ.out, if_neg (by simp [hz])])
       go_wp2_with fail
       refine Calls.mono (take_y hx11 ⟨#[41]⟩ [41] 1 rfl rfl (by decide) hz) ?_
       rintro e12 w12 ⟨rfl, hx12, hkn⟩
       have hk12 := hk11.then hkn
       have HG12 := Lib.hid ((hkn.block w3.heap.size hg10 (by omega)).trans (show (w10.drewN q11).heap[w3.heap.size]? = _ from HG10.out))
       have c2 : w12.cell? ⟨w3.heap.size, 2, none⟩ = some (.int .i64 12) := by simp [World.cell?, HG12.out]
       have c3 : w12.cell? ⟨w3.heap.size, 3, none⟩ = some (.int .i64 0) := by simp [World.cell?, HG12.out]
       have c4 : w12.cell? ⟨w3.heap.size, 4, none⟩ = some (.int .i64 3) := by simp [World.cell?, HG12.out]
       clear hkn hz
       go_wp2_with fail
       refine Calls.mono (put_any hx12 (.slice none 0 0) { kind := 12, n := 0, m := 3, name := C.p.sub (a + 1) e } (ownR_nil _ _) (by omega)) ?_
       rintro e13 w13 ⟨rfl, hx13, hkn⟩
       go_wp2_with fail
       go_ret
       exact rp_ok HS.out ⟨rfl, hx13, (hk12.mono hB).trans hkn⟩
set_option maxRecDepth 100000 in
set_option maxHeartbeats 8000000 in
theorem naming_4 {C : Cf} {w : World} {a f : Nat} {T : Rw} (h : LX C w a f T) (hna : NaAt w) (h0 : C.p.has [60] a = false) (h1 : C.p.has [80, 60] a = false) (h2 : C.p.has [39] a = false) (h3 : C.p.has [38] a = false) (h4 : C.p.has [80, 62] a = true) : Calls Tryz.prog 100 #[.pointer (some ⟨C.L, 0, none⟩)] w (RP C w (C.p.naming f a namingsT) (QOk C w a f T)) := by
 have hs : C.p.naming f a namingsT = (if (C.p.name (a + 2)).1 = C.p.n then .error (20, (C.p.n : Int))
   else if (C.p.name (a + 2)).2 = false ∨ C.p.has [41] (C.p.name (a + 2)).1 = false then .error (27, (f : Int))
   else .ok (some ({ kind := 12, n := 0, m := 3, name := C.p.sub (a + 2) (C.p.name (a + 2)).1 }, (C.p.name (a + 2)).1 + 1))) := by
   unfold namingsT
   rw [Pt.naming, if_neg (by simp [h0])]; rw [Pt.naming, if_neg (by simp [h1])]; rw [Pt.naming, if_neg (by simp [h2])]; rw [Pt.naming, if_neg (by simp [h3])]; rw [Pt.naming, if_pos h4]; rfl
 obtain ⟨⟨e, ok⟩, hnm⟩ : ∃ d, C.p.name (a + 2) = d := ⟨_, rfl⟩
 rw [hnm] at hs
 simp only at hs
 have HN := Lib.hid hnm
 have HNE := Lib.hid (fun (hh : (a + 2) ≤ C.p.n) => name_ge (p := C.p) hh)
 rw [hnm] at HNE
 have HSI := Lib.hid hs
 clear hnm hs
 have H0 := Lib.hid h0
 clear h0
 have H1 := Lib.hid h1
 clear h1
 have H2 := Lib.hid h2
 clear h2
 have H3 := Lib.hid h3
 clear h3
 have H4 := Lib.hid h4
 clear h4
 have ix0 := ixqeee58a7f
 have ix1 := ixq25beaae2
 have ix2 := ixqd0c129c7
 have ix3 := ixq6b7de023
 have ix4 := ixq503c47b4
 obtain ⟨ty, fr, hna⟩ := hna
 have tl := h.tl
 have hk0 := Kept.refl w.heap.size C.L w
 have hB := h.hb
 go_enter Tryz.func100, Tryz.ntmps100
 go_wp2_with (refine wpList_load_row rfl 142 _ rfl 4 rfl ty _ fr _ hna Tryz.underlying142 rfl (by kernel_rfl) ?_)
 clear hna
 refine wp_loop_rounds 7 ?_
 rw [rounds_succ]
 go_wp2_with fail
 have hbA := below_al w (.cells #[.string ⟨#[60]⟩, .string ⟨#[62]⟩, .int .i64 10, .int .i64 1, .int .i64 0] 141)
 have hxa := h.below hbA
 have hka := hk0.then (Kept.of_below (L := C.L) hbA)
 refine Calls.mono (take_n hxa ⟨#[60]⟩ [60] rfl (by decide) H0.out) ?_
 rintro e1 w1 ⟨rfl, hx1, hkn⟩
 have hk1 := hka.then hkn
 clear hkn hbA hxa hka
 go_wp2_with fail
 rw [rounds_succ]
 go_wp2_with fail
 have hbA := below_al w1 (.cells #[.string ⟨#[80, 60]⟩, .string ⟨#[62]⟩, .int .i64 10, .int .i64 1, .int .i64 0] 141)
 have hxa := hx1.below hbA
 have hka := hk1.then (Kept.of_below (L := C.L) hbA)
 refine Calls.mono (take_n hxa ⟨#[80, 60]⟩ [80, 60] rfl (by decide) H1.out) ?_
 rintro e2 w2 ⟨rfl, hx2, hkn⟩
 have hk2 := hka.then hkn
 clear hkn hbA hxa hka
 go_wp2_with fail
 rw [rounds_succ]
 go_wp2_with fail
 have hbA := below_al w2 (.cells #[.string ⟨#[39]⟩, .string ⟨#[39]⟩, .int .i64 10, .int .i64 1, .int .i64 0] 141)
 have hxa := hx2.below hbA
 have hka := hk2.then (Kept.of_below (L := C.L) hbA)
 refine Calls.mono (take_n hxa ⟨#[39]⟩ [39] rfl (by decide) H2.out) ?_
 rintro e3 w3 ⟨rfl, hx3, hkn⟩
 have hk3 := hka.then hkn
 clear hkn hbA hxa hka
 go_wp2_with fail
 rw [rounds_succ]
 go_wp2_with fail
 have hbA := below_al w3 (.cells #[.string ⟨#[38]⟩, .string ⟨#[41]⟩, .int .i64 12, .int .i64 0, .int .i64 3] 141)
 have hxa := hx3.below hbA
 have hka := hk3.then (Kept.of_below (L := C.L) hbA)
 refine Calls.mono (take_n hxa ⟨#[38]⟩ [38] rfl (by decide) H3.out) ?_
 rintro e4 w4 ⟨rfl, hx4, hkn⟩
 have hk4 := hka.then hkn
 clear hkn hbA hxa hka
 go_wp2_with fail
 rw [rounds_succ]
 go_wp2_with fail
 have hbA := below_al w4 (.cells #[.string ⟨#[80, 62]⟩, .string ⟨#[41]⟩, .int .i64 12, .int .i64 0, .int .i64 3] 141)
 have hxa := hx4.below hbA
 have hka := hk4.then (Kept.of_below (L := C.L) hbA)
 refine Calls.mono (take_y hxa ⟨#[80, 62]⟩ [80, 62] 2 rfl rfl (by decide) H4.out) ?_
 rintro e9 w9 ⟨rfl, hx9, hkn⟩
 have hk9 := hka.then hkn
 have hlt := hx4.cells.lt
 have HG9 := Lib.hid ((hkn.block w4.heap.size (by rw [World.size_alloc]; omega) (by omega)).trans (heap_alloc_new w4 _))
 have hg9 : w4.heap.size < w9.heap.size := by have := hkn.size; rw [World.size_alloc] at this; omega
 clear hkn
 go_wp2_with fail
 have nge := HNE.out hx9.an
 refine Calls.mono (name_any hx9) ?_
 intro e10 w10 hr
 rw [HN.out] at hr
 obtain ⟨rfl, hx10, hkn⟩ := hr
 have hk10 := hk9.then hkn
 have HG10 := Lib.hid ((hkn.block w4.heap.size hg9 (by omega)).trans HG9.out)
 have hg10 : w4.heap.size < w10.heap.size := by have := hkn.size; omega
 clear hkn
 go_wp2_with fail
 refine Calls.mono (ended_any hx10) ?_
 rintro e11 w11 ⟨rfl, q11, rfl⟩
 have hx11 := hx10.drewN q11
 have hk11 := hk10.drewN q11
 have c1 : (w10.drewN q11).cell? ⟨w4.heap.size, 1, none⟩ = some (.string ⟨#[41]⟩) := by show w10.cell? _ = _; simp [World.cell?, HG10.out]
 by_cases hen : e = C.p.n
 · have HS := Lib.hid (show C.p.naming f a namingsT = .error (C.p.er 20 f) by rw [HSI.out, if_pos hen]; rfl)
   rw [show decide (e = C.p.n) = true by simpa using hen]
   clear hen
   go_wp2_with fail
   refine Calls.mono (fail_any hx11 20) ?_
   rintro e19 w19 ⟨rfl, hkn⟩
   exact ⟨rfl, rp_err HS.out ⟨rfl, (hk11.mono hB).trans hkn⟩⟩
 · rw [show decide (e = C.p.n) = false by simpa using hen]
   have HSJ := Lib.hid (HSI.out.trans (if_neg hen))
   clear hen
   cases ok with
   | false =>
     have HS := Lib.hid (show C.p.naming f a namingsT = .error (C.p.er 27 f) by rw [HSJ.out, if_pos (Or.inl rfl)]; rfl)
     go_wp2_with fail
     refine Calls.mono (fail_any hx11 27) ?_
     rintro e19 w19 ⟨rfl, hkn⟩
     exact ⟨rfl, rp_err HS.out ⟨rfl, (hk11.mono hB).trans hkn⟩⟩
   | true =>
     cases hz : C.p.has [41] e with
     | false =>
       have HS := Lib.hid (show C.p.naming f a namingsT = .error (C.p.er 27 f) by rw [HSJ.out, if_pos (Or.inr hz)]; rfl)
       go_wp2_with fail
       refine Calls.mono (take_n hx11 ⟨#[41]⟩ [41] rfl (by decide) hz) ?_
       rintro e12 w12 ⟨rfl, hx12, hkn⟩
       have hk12 := hk11.then hkn
       clear hkn hz
       go_wp2_with fail
       refine Calls.mono (fail_any hx12 27) ?_
       rintro e19 w19 ⟨rfl, hkn⟩
       exact ⟨rfl, rp_err HS.out ⟨rfl, (hk12.mono hB).trans hkn⟩⟩
     | true =>
       have HS := Lib.hid (show C.p.naming f a namingsT = .ok (some ({ kind := 12, n := 0, m := 3, name := C.p.sub (a + 2) e }, e + 1)) by rw [HSJ.out, if_neg (by simp [hz])])
       go_wp2_with fail
       refine Calls.mono (take_y hx11 ⟨#[41]⟩ [41] 1 rfl rfl (by decide) hz) ?_
       rintro e12 w12 ⟨rfl, hx12, hkn⟩
       have hk12 := hk11.then hkn
       have HG12 := Lib.hid ((hkn.block w4.heap.size hg10 (by omega)).trans (show (w10.drewN q11).heap[w4.heap.size]? = _ from HG10.out))
       have c2 : w12.cell? ⟨w4.heap.size, 2, none⟩ = some (.int .i64 12) := by simp [World.cell?, HG12.out]
       have c3 : w12.cell? ⟨w4.heap.size, 3, none⟩ = some (.int .i64 0) := by simp [World.cell?, HG12.out]
       have c4 : w12.cell? ⟨w4.heap.size, 4, none⟩ = some (.int .i64 3) := by simp [World.cell?, HG12.out]
       clear hkn hz
       go_wp2_with fail
       refine Calls.mono (put_any hx12 (.slice none 0 0) { kind := 12, n := 0, m := 3, name := C.p.sub (a + 2) e } (ownR_nil _ _) (by omega)) ?_
       rintro e13 w13 ⟨rfl, hx13, hkn⟩
       go_wp2_with fail
       go_ret
       exact rp_ok HS.out ⟨rfl, hx13, (hk12.mono hB).trans hkn⟩
set_option maxRecDepth 100000 in
set_option maxHeartbeats 8000000 in
theorem naming_5 {C : Cf} {w : World} {a f : Nat} {T : Rw} (h : LX C w a f T) (hna : NaAt w) (h0 : C.p.has [60] a = false) (h1 : C.p.has [80, 60] a = false) (h2 : C.p.has [39] a = false) (h3 : C.p.has [38] a = false) (h4 : C.p.has [80, 62] a = false) (h5 : C.p.has [80, 61] a = true) : Calls Tryz.prog 100 #[.pointer (some ⟨C.L, 0, none⟩)] w (RP C w (C.p.naming f a namingsT) (QOk C w a f T)) := by
 have hs : C.p.naming f a namingsT = (if (C.p.name (a + 2)).1 = C.p.n then .error (20, (C.p.n : Int))
   else if (C.p.name (a + 2)).2 = false ∨ C.p.has [41] (C.p.name (a + 2)).1 = false then .error (27, (f : Int))
   else .ok (some ({ kind := 11, n := 0, m := 3, name := C.p.sub (a + 2) (C.p.name (a + 2)).1 }, (C.p.name (a + 2)).1 + 1))) := by
   unfold namingsT
   rw [Pt.naming, if_neg (by simp [h0])]; rw [Pt.naming, if_neg (by simp [h1])]; rw [Pt.naming, if_neg (by simp [h2])]; rw [Pt.naming, if_neg (by simp [h3])]; rw [Pt.naming, if_neg (by simp [h4])]; rw [Pt.naming, if_pos h5]; rfl
 obtain ⟨⟨e, ok⟩, hnm⟩ : ∃ d, C.p.name (a + 2) = d := ⟨_, rfl⟩
 rw [hnm] at hs
 simp only at hs
 have HN := Lib.hid hnm
 have HNE := Lib.hid (fun (hh : (a + 2) ≤ C.p.n) => name_ge (p := C.p) hh)
 rw [hnm] at HNE
 have HSI := Lib.hid hs
 clear hnm hs
 have H0 := Lib.hid h0
 clear h0
 have H1 := Lib.hid h1
 clear h1
 have H2 := Lib.hid h2
 clear h2
 have H3 := Lib.hid h3
 clear h3
 have H4 := Lib.hid h4
 clear h4
 have H5 := Lib.hid h5
 clear h5
 have ix0 := ixqeee58a7f
 have ix1 := ixq25beaae2
 have ix2 := ixqd0c129c7
 have ix3 := ixq6b7de023
 have ix4 := ixq503c47b4
 have ix5 := ixqcb5873fb
 obtain ⟨ty, fr, hna⟩ := hna
 have tl := h.tl
 have hk0 := Kept.refl w.heap.size C.L w
 have hB := h.hb
 go_enter Tryz.func100, Tryz.ntmps100
 go_wp2_with (refine wpList_load_row rfl 142 _ rfl 4 rfl ty _ fr _ hna Tryz.underlying142 rfl (by kernel_rfl) ?_)
 clear hna
 refine wp_loop_rounds 7 ?_
 rw [rounds_succ]
 go_wp2_with fail
 have hbA := below_al w (.cells #[.string ⟨#[60]⟩, .string ⟨#[62]⟩, .int .i64 10, .int .i64 1, .int .i64 0] 141)
 have hxa := h.below hbA
 have hka := hk0.then (Kept.of_below (L := C.L) hbA)
 refine Calls.mono (take_n hxa ⟨#[60]⟩ [60] rfl (by decide) H0.out) ?_
 rintro e1 w1 ⟨rfl, hx1, hkn⟩
 have hk1 := hka.then hkn
 clear hkn hbA hxa hka
 go_wp2_with fail
 rw [rounds_succ]
 go_wp2_with fail
 have hbA := below_al w1 (.cells #[.string ⟨#[80, 60]⟩, .string ⟨#[62]⟩, .int .i64 10, .int .i64 1, .int .i64 0] 141)
 have hxa := hx1.below hbA
 have hka := hk1.then (Kept.of_below (L := C.L) hbA)
 refine Calls.mono (take_n hxa ⟨#[80, 60]⟩ [80, 60] rfl (by decide) H1.out) ?_
 rintro e2 w2 ⟨rfl, hx2, hkn⟩
 have hk2 := hka.then hkn
 clear hkn hbA hxa hka
 go_wp2_with fail
 rw [rounds_succ]
 go_wp2_with fail
 have hbA := below_al w2 (.cells #[.string ⟨#[39]⟩, .string ⟨#[39]⟩, .int .i64 10, .int .i64 1, .int .i64 0] 141)
 have hxa := hx2.below hbA
 have hka := hk2.then (Kept.of_below (L := C.L) hbA)
 refine Calls.mono (take_n hxa ⟨#[39]⟩ [39] rfl (by decide) H2.out) ?_
 rintro e3 w3 ⟨rfl, hx3, hkn⟩
 have hk3 := hka.then hkn
 clear hkn hbA hxa hka
 go_wp2_with fail
 rw [rounds_succ]
 go_wp2_with fail
 have hbA := below_al w3 (.cells #[.string ⟨#[38]⟩, .string ⟨#[41]⟩, .int .i64 12, .int .i64 0, .int .i64 3] 141)
 have hxa := hx3.below hbA
 have hka := hk3.then (Kept.of_below (L := C.L) hbA)
 refine Calls.mono (take_n hxa ⟨#[38]⟩ [38] rfl (by decide) H3.out) ?_
 rintro e4 w4 ⟨rfl, hx4, hkn⟩
 have hk4 := hka.then hkn
 clear hkn hbA hxa hka
 go_wp2_with fail
 rw [rounds_succ]
 go_wp2_with fail
 have hbA := below_al w4 (.cells #[.string ⟨#[80, 62]⟩, .string ⟨#[41]⟩, .int .i64 12, .int .i64 0, .int .i64 3] 141)
 have hxa := hx4.below hbA
 have hka := hk4.then (Kept.of_below (L := C.L) hbA)
 refine Calls.mono (take_n hxa ⟨#[80, 62]⟩ [80, 62] rfl (by decide) H4.out) ?_
 rintro e5 w5 ⟨rfl, hx5, hkn⟩
 have hk5 := hka.then hkn
 clear hkn hbA hxa hka
 go_wp2_with fail
 rw [rounds_succ]
 go_wp2_with fail
 have hbA := below_al w5 (.cells #[.string ⟨#[80, 61]⟩, .string ⟨#[41]⟩, .int .i64 11, .int .i64 0, .int .i64 3] 141)
 have hxa := hx5.below hbA
 have hka := hk5.then (Kept.of_below (L := C.L) hbA)
 refine Calls.mono (take_y hxa ⟨#[80, 61]⟩ [80, 61] 2 rfl rfl (by decide) H5.out) ?_
 rintro e9 w9 ⟨rfl, hx9, hkn⟩
 have hk9 := hka.then hkn
 have hlt := hx5.cells.lt
 have HG9 := Lib.hid ((hkn.block w5.heap.size (by rw [World.size_alloc]; omega) (by omega)).trans (heap_alloc_new w5 _))
 have hg9 : w5.heap.size < w9.heap.size := by have := hkn.size; rw [World.size_alloc] at this; omega
 clear hkn
 go_wp2_with fail
 have nge := HNE.out hx9.an
 refine Calls.mono (name_any hx9) ?_
 intro e10 w10 hr
 rw [HN.out] at hr
 obtain ⟨rfl, hx10, hkn⟩ := hr
 have hk10 := hk9.then hkn
 have HG10 := Lib.hid ((hkn.block w5.heap.size hg9 (by omega)).trans HG9.out)
 have hg10 : w5.heap.size < w10.heap.size := by have := hkn.size; omega
 clear hkn
 go_wp2_with fail
 refine Calls.mono (ended_any hx10) ?_
 rintro e11 w11 ⟨rfl, q11, rfl⟩
 have hx11 := hx10.drewN q11
 have hk11 := hk10.drewN q11
 have c1 : (w10.drewN q11).cell? ⟨w5.heap.size, 1, none⟩ = some (.string ⟨#[41]⟩) := by show w10.cell? _ = _; simp [World.cell?, HG10.out]
 by_cases hen : e = C.p.n
 · have HS := Lib.hid (show C.p.naming f a namingsT = .error (C.p.er 20 f) by rw [HSI.out, if_pos hen]; rfl)
   rw [show decide (e = C.p.n) = true by simpa using hen]
   clear hen
   go_wp2_with fail
   refine Calls.mono (fail_any hx11 20) ?_
   rintro e19 w19 ⟨rfl, hkn⟩
   exact ⟨rfl, rp_err HS.out ⟨rfl, (hk11.mono hB).trans hkn⟩⟩
 · rw [show decide (e = C.p.n) = false by simpa using hen]
   have HSJ := Lib.hid (HSI.out.trans (if_neg hen))
   clear hen
   cases ok with
   | false =>
     have HS := Lib.hid (show C.p.naming f a namingsT = .error (C.p.er 27 f) by rw [HSJ.out, if_pos (Or.inl rfl)]; rfl)
     go_wp2_with fail
     refine Calls.mono (fail_any hx11 27) ?_
     rintro e19 w19 ⟨rfl, hkn⟩
     exact ⟨rfl, rp_err HS.out ⟨rfl, (hk11.mono hB).trans hkn⟩⟩
   | true =>
     cases hz : C.p.has [41] e with
     | false =>
       have HS := Lib.hid (show C.p.naming f a namingsT = .error (C.p.er 27 f) by rw [HSJ.out, if_pos (Or.inr hz)]; rfl)
       go_wp2_with fail
       refine Calls.mono (take_n hx11 ⟨#[41]⟩ [41] rfl (by decide) hz) ?_
       rintro e12 w12 ⟨rfl, hx12, hkn⟩
       have hk12 := hk11.then hkn
       clear hkn hz
       go_wp2_with fail
       refine Calls.mono (fail_any hx12 27) ?_
       rintro e19 w19 ⟨rfl, hkn⟩
       exact ⟨rfl, rp_err HS.out ⟨rfl, (hk12.mono hB).trans hkn⟩⟩
     | true =>
       have HS := Lib.hid (show C.p.naming f a namingsT = .ok (some ({ kind := 11, n := 0, m := 3, name := C.p.sub (a + 2) e }, e + 1)) by rw [HSJ.out, if_neg (by simp [hz])])
       go_wp2_with fail
       refine Calls.mono (take_y hx11 ⟨#[41]⟩ [41] 1 rfl rfl (by decide) hz) ?_
       rintro e12 w12 ⟨rfl, hx12, hkn⟩
       have hk12 := hk11.then hkn
       have HG12 := Lib.hid ((hkn.block w5.heap.size hg10 (by omega)).trans (show (w10.drewN q11).heap[w5.heap.size]? = _ from HG10.out))
       have c2 : w12.cell? ⟨w5.heap.size, 2, none⟩ = some (.int .i64 11) := by simp [World.cell?, HG12.out]
       have c3 : w12.cell? ⟨w5.heap.size, 3, none⟩ = some (.int .i64 0) := by simp [World.cell?, HG12.out]
       have c4 : w12.cell? ⟨w5.heap.size, 4, none⟩ = some (.int .i64 3) := by simp [World.cell?, HG12.out]
       clear hkn hz
       go_wp2_with fail
       refine Calls.mono (put_any hx12 (.slice none 0 0) { kind := 11, n := 0, m := 3, name := C.p.sub (a + 2) e } (ownR_nil _ _) (by omega)) ?_
       rintro e13 w13 ⟨rfl, hx13, hkn⟩
       go_wp2_with fail
       go_ret
       exact rp_ok HS.out ⟨rfl, hx13, (hk12.mono hB).trans hkn⟩
set_option maxRecDepth 100000 in
set_option maxHeartbeats 8000000 in
theorem naming_6 {C : Cf} {w : World} {a f : Nat} {T : Rw} (h : LX C w a f T) (hna : NaAt w) (h0 : C.p.has [60] a = false) (h1 : C.p.has [80, 60] a = false) (h2 : C.p.has [39] a = false) (h3 : C.p.has [38] a = false) (h4 : C.p.has [80, 62] a = false) (h5 : C.p.has [80, 61] a = false) : Calls Tryz.prog 100 #[.pointer (some ⟨C.L, 0, none⟩)] w (RP C w (C.p.naming f a namingsT) (QOk C w a f T)) := by
 have HS := Lib.hid (show C.p.naming f a namingsT = .ok none by unfold namingsT; rw [Pt.naming, if_neg (by simp [h0])]; rw [Pt.naming, if_neg (by simp [h1])]; rw [Pt.naming, if_neg (by simp [h2])]; rw [Pt.naming, if_neg (by simp [h3])]; rw [Pt.naming, if_neg (by simp [h4])]; rw [Pt.naming, if_neg (by simp [h5])]; rfl)
 have H0 := Lib.hid h0
 clear h0
 have H1 := Lib.hid h1
 clear h1
 have H2 := Lib.hid h2
 clear h2
 have H3 := Lib.hid h3
 clear h3
 have H4 := Lib.hid h4
 clear h4
 have H5 := Lib.hid h5
 clear h5
 have ix0 := ixqeee58a7f
 have ix1 := ixq25beaae2
 have ix2 := ixqd0c129c7
 have ix3 := ixq6b7de023
 have ix4 := ixq503c47b4
 have ix5 := ixqcb5873fb
 obtain ⟨ty, fr, hna⟩ := hna
 have tl := h.tl
 have hk0 := Kept.refl w.heap.size C.L w
 have hB := h.hb
 go_enter Tryz.func100, Tryz.ntmps100
 go_wp2_with (refine wpList_load_row rfl 142 _ rfl 4 rfl ty _ fr _ hna Tryz.underlying142 rfl (by kernel_rfl) ?_)
 clear hna
 refine wp_loop_rounds 7 ?_
 rw [rounds_succ]
 go_wp2_with fail
 have hbA := below_al w (.cells #[.string ⟨#[60]⟩, .string ⟨#[62]⟩, .int .i64 10, .int .i64 1, .int .i64 0] 141)
 have hxa := h.below hbA
 have hka := hk0.then (Kept.of_below (L := C.L) hbA)
 refine Calls.mono (take_n hxa ⟨#[60]⟩ [60] rfl (by decide) H0.out) ?_
 rintro e1 w1 ⟨rfl, hx1, hkn⟩
 have hk1 := hka.then hkn
 clear hkn hbA hxa hka
 go_wp2_with fail
 rw [rounds_succ]
 go_wp2_with fail
 have hbA := below_al w1 (.cells #[.string ⟨#[80, 60]⟩, .string ⟨#[62]⟩, .int .i64 10, .int .i64 1, .int .i64 0] 141)
 have hxa := hx1.below hbA
 have hka := hk1.then (Kept.of_below (L := C.L) hbA)
 refine Calls.mono (take_n hxa ⟨#[80, 60]⟩ [80, 60] rfl (by decide) H1.out) ?_
 rintro e2 w2 ⟨rfl, hx2, hkn⟩
 have hk2 := hka.then hkn
 clear hkn hbA hxa hka
 go_wp2_with fail
 rw [rounds_succ]
 go_wp2_with fail
 have hbA := below_al w2 (.cells #[.string ⟨#[39]⟩, .string ⟨#[39]⟩, .int .i64 10, .int .i64 1, .int .i64 0] 141)
 have hxa := hx2.below hbA
 have hka := hk2.then (Kept.of_below (L := C.L) hbA)
 refine Calls.mono (take_n hxa ⟨#[39]⟩ [39] rfl (by decide) H2.out) ?_
 rintro e3 w3 ⟨rfl, hx3, hkn⟩
 have hk3 := hka.then hkn
 clear hkn hbA hxa hka
 go_wp2_with fail
 rw [rounds_succ]
 go_wp2_with fail
 have hbA := below_al w3 (.cells #[.string ⟨#[38]⟩, .string ⟨#[41]⟩, .int .i64 12, .int .i64 0, .int .i64 3] 141)
 have hxa := hx3.below hbA
 have hka := hk3.then (Kept.of_below (L := C.L) hbA)
 refine Calls.mono (take_n hxa ⟨#[38]⟩ [38] rfl (by decide) H3.out) ?_
 rintro e4 w4 ⟨rfl, hx4, hkn⟩
 have hk4 := hka.then hkn
 clear hkn hbA hxa hka
 go_wp2_with fail
 rw [rounds_succ]
 go_wp2_with fail
 have hbA := below_al w4 (.cells #[.string ⟨#[80, 62]⟩, .string ⟨#[41]⟩, .int .i64 12, .int .i64 0, .int .i64 3] 141)
 have hxa := hx4.below hbA
 have hka := hk4.then (Kept.of_below (L := C.L) hbA)
 refine Calls.mono (take_n hxa ⟨#[80, 62]⟩ [80, 62] rfl (by decide) H4.out) ?_
 rintro e5 w5 ⟨rfl, hx5, hkn⟩
 have hk5 := hka.then hkn
 clear hkn hbA hxa hka
 go_wp2_with fail
 rw [rounds_succ]
 go_wp2_with fail
 have hbA := below_al w5 (.cells #[.string ⟨#[80, 61]⟩, .string ⟨#[41]⟩, .int .i64 11, .int .i64 0, .int .i64 3] 141)
 have hxa := hx5.below hbA
 have hka := hk5.then (Kept.of_below (L := C.L) hbA)
 refine Calls.mono (take_n hxa ⟨#[80, 61]⟩ [80, 61] rfl (by decide) H5.out) ?_
 rintro e6 w6 ⟨rfl, hx6, hkn⟩
 have hk6 := hka.then hkn
 clear hkn hbA hxa hka
 go_wp2_with fail
 rw [rounds_succ]
 go_wp2_with fail
 go_ret
 exact rp_ok HS.out ⟨rfl, hx6, hk6⟩
theorem naming_any {C : Cf} {w : World} {a f : Nat} {T : Rw} (h : LX C w a f T) (hna : NaAt w) : Calls Tryz.prog 100 #[.pointer (some ⟨C.L, 0, none⟩)] w (RP C w (C.p.naming f a namingsT) (QOk C w a f T)) := by
 cases h0 : C.p.has [60] a with
 | true => exact naming_0 h hna h0
 | false =>
   cases h1 : C.p.has [80, 60] a with
   | true => exact naming_1 h hna h0 h1
   | false =>
     cases h2 : C.p.has [39] a with
     | true => exact naming_2 h hna h0 h1 h2
     | false =>
       cases h3 : C.p.has [38] a with
       | true => exact naming_3 h hna h0 h1 h2 h3
       | false =>
         cases h4 : C.p.has [80, 62] a with
         | true => exact naming_4 h hna h0 h1 h2 h3 h4
         | false =>
           cases h5 : C.p.has [80, 61] a with
           | true => exact naming_5 h hna h0 h1 h2 h3 h4 h5
           | false =>
             exact naming_6 h hna h0 h1 h2 h3 h4 h5
end Go.Proofs.YtkcmjcgjfjfimaaGreatDoor.tkw
end
