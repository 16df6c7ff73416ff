/- Texts that TokensQuoteLaw leans on, merged: what the functions of the program answer. -/
import Derived.Test.YtkcmjcgjfjfimaaGreatDoorBQu12
section
namespace Go.Proofs.YtkcmjcgjfjfimaaGreatDoor.tkw
open Go Go.RowKit Go.Maps utfp utfw ucdp setp setw prp tkp
def QdRel (C : Cf) (w : World) (T : Rw) (R : List Tk × Nat) (wr : World) : Prop :=
 ∃ L b f' k v, C.p.n - b ≤ k ∧ (L ++ (C.p.quoted k b).1, (C.p.quoted k b).2) = R ∧ LX C wr b f' ⟨T.l ++ L, v⟩ ∧ Kept C.base C.L w wr
theorem quoted_end {p : Pt} (k : Nat) : p.quoted k p.n = ([], p.n) := by
 cases k with
 | zero => rfl
 | succ k => rw [Pt.quoted, if_pos rfl]
theorem quoted_E {p : Pt} {k b : Nat} (hk : 1 ≤ k) (hb : ¬ b = p.n) (h : p.has [92, 69] b = true) : p.quoted k b = ([], b + 2) := by
 obtain ⟨j, rfl⟩ : ∃ j, k = j + 1 := ⟨k - 1, by omega⟩
 rw [Pt.quoted, if_neg hb, if_pos h]
theorem quoted_step {p : Pt} {k b : Nat} (hk : 1 ≤ k) (hb : ¬ b = p.n) (h : p.has [92, 69] b = false) : ∃ j, k = j + 1 ∧ p.quoted k b = (lay { kind := 1, c := (p.char b).1 } b (p.char b).2 :: (p.quoted j (p.char b).2).1, (p.quoted j (p.char b).2).2) := by
 obtain ⟨j, rfl⟩ : ∃ j, k = j + 1 := ⟨k - 1, by omega⟩
 exact ⟨j, rfl, by rw [Pt.quoted, if_neg hb, if_neg (by simp [h])]⟩
set_option maxRecDepth 100000 in
set_option maxHeartbeats 4000000 in
theorem quoted_any {C : Cf} {w : World} {a f : Nat} {T : Rw} (h : LX C w a f T) : Calls Tryz.prog 65 #[.pointer (some ⟨C.L, 0, none⟩)] w (PtOk C w T (C.p.quoted (C.p.n - a) a)) := by
 have hg := Lib.hid h.sl.1
 have hB := h.hb
 obtain ⟨R, hR⟩ : ∃ R, C.p.quoted (C.p.n - a) a = R := ⟨_, rfl⟩
 rw [hR]
 have HR := Lib.hid hR
 have HX := Lib.hid h
 clear hR h
 go_enter Tryz.func65, Tryz.ntmps65
 go_wp2_with fail
 go_loopw [2] (fun _ wr => QdRel C w T R wr) (fun _ wr => C.p.n - (intOf ((wr.cell? ⟨C.L, 1, none⟩).getD (.int .i64 0))).toNat)
 case atStart => exact ⟨[], a, f, _, T.v, Nat.le_refl _, by rw [HR.out]; rfl, by rw [List.append_nil]; exact HX.out, Kept.refl _ _ _⟩
 case round =>
   obtain ⟨L, b, f', k, v, hk, hr, hx, hkp⟩ := hrel
   have an := hx.an
   have HM := Lib.hid (show (intOf ((wr.cell? ⟨C.L, 1, none⟩).getD (.int .i64 0))).toNat = b by rw [hx.cells.c1]; exact Int.toNat_natCast _)
   have HXR := Lib.hid hx
   have HK := Lib.hid hkp
   clear hkp hx
   by_cases hb : b = C.p.n
   · have HA := Lib.hid (show decide (b = C.p.n) = true by simpa using hb)
     have HQ := Lib.hid (show (L, b) = R by rw [← hr, hb, quoted_end]; simp)
     clear hr hb
     go_wp2_with fail
     refine Calls.mono (ended_any HXR.out) ?_
     rintro e1 w1 ⟨rfl, q1, rfl⟩
     rw [HA.out]
     go_wp2_with fail
     go_end0
     rw [← HQ.out]
     exact ⟨rfl, f', v, HXR.out.drewN _, HK.out.drewN _⟩
   · have HA := Lib.hid (show decide (b = C.p.n) = false by simpa using hb)
     cases h2 : C.p.has [92, 69] b with
     | true =>
       have HQ := Lib.hid (show (L, b + 2) = R by rw [← hr, quoted_E (by omega) hb h2]; simp)
       have H2 := Lib.hid h2
       clear hr hb h2
       go_wp2_with fail
       refine Calls.mono (ended_any HXR.out) ?_
       rintro e1 w1 ⟨rfl, q1, rfl⟩
       rw [HA.out]
       go_wp2_with fail
       refine Calls.mono (take_y (HXR.out.drewN q1) ⟨#[92, 69]⟩ [92, 69] 2 rfl rfl (by decide) H2.out) ?_
       rintro e2 w2 ⟨rfl, hx2, hkn⟩
       go_wp2_with fail
       go_end0
       rw [← HQ.out]
       have hb2 := HK.out.size
       exact ⟨rfl, f', v, hx2, (HK.out.drewN q1).trans (hkn.mono (Nat.le_trans hB hb2))⟩
     | false =>
       obtain ⟨j, hj1, hj2⟩ := quoted_step (k := k) (by omega) hb h2
       have hcp := char_pure hg.out an
       obtain ⟨_, p2, p3, p4⟩ := hcp
       have hlt := p4 (by omega)
       obtain ⟨c, hc⟩ : ∃ c, (C.p.char b).1 = c := ⟨_, rfl⟩
       obtain ⟨b2, hb2⟩ : ∃ b2, (C.p.char b).2 = b2 := ⟨_, rfl⟩
       rw [hc, hb2] at hj2
       rw [hb2] at p2 p3 hlt
       have HJ := Lib.hid (show ((L ++ [lay { kind := 1, c := c } b b2]) ++ (C.p.quoted j b2).1, (C.p.quoted j b2).2) = R by rw [← hr, hj2]; simp)
       have H2 := Lib.hid h2
       have HC := Lib.hid hc
       have HB2 := Lib.hid hb2
       clear hr hb h2 hj2 hc hb2 p4
       go_wp2_with fail
       refine Calls.mono (ended_any HXR.out) ?_
       rintro e1 w1 ⟨rfl, q1, rfl⟩
       rw [HA.out]
       go_wp2_with fail
       refine Calls.mono (take_n (HXR.out.drewN q1) ⟨#[92, 69]⟩ [92, 69] rfl (by decide) H2.out) ?_
       rintro e2 w2 ⟨rfl, hx2, hkn⟩
       have hk2 := (HK.out.drewN q1).trans (hkn.mono (Nat.le_trans hB HK.out.size))
       have d1 := hx2.cells.c1
       have d2 := hx2.cells.c2
       have fz := hx2.cells.fz 2
       have hx3 := hx2.from an
       have hk3 := hk2.setCell 2 (.int .i64 b)
       have tl := hx2.tl
       clear hkn hk2 hx2
       go_wp2_with fail
       refine Calls.mono (char_any hx3) ?_
       intro e4 w4 hr
       rw [HB2.out, HC.out] at hr
       obtain ⟨rfl, hx4, hkn⟩ := hr
       have hk4 := hk3.trans (hkn.mono hx3.hb)
       clear hkn d1 d2 fz
       go_wp2_with fail
       refine Calls.mono (put_any hx4 (.slice none 0 0) { kind := 1, c := c } (ownR_nil _ _) (by omega)) ?_
       rintro e5 w5 ⟨rfl, ⟨tv, hx5⟩, hkn⟩
       have HX5 := Lib.hid hx5
       have HK5 := Lib.hid (hk4.trans hkn)
       have HM2 := Lib.hid (show (intOf ((w5.cell? ⟨C.L, 1, none⟩).getD (.int .i64 0))).toNat = b2 by rw [hx5.cells.c1]; exact Int.toNat_natCast _)
       clear hx5 hkn hk4 hx4 hk3 hx3
       go_wp2_with fail
       go_roundw
       case rel => exact ⟨L ++ [lay { kind := 1, c := c } b b2], b2, b, j, tv, by omega, HJ.out, by rw [← List.append_assoc]; exact HX5.out, HK5.out⟩
       case measure =>
         rw [HM.out, HM2.out]
         omega
theorem signed_gt {p : Pt} {f a : Nat} {n m : Int} {b : Nat} (ha : a ≤ p.n) (h : p.signed f a = .ok (some (n, m, b))) : a < b ∧ b ≤ p.n ∧ 0 ≤ n ∧ n ≤ 255 := by
 have h1 := sign_bd ha
 unfold Pt.signed at h
 split at h
 · exact absurd h (by simp)
 · rename_i k b2 hk
   have := number_bd h1.2 hk
   split at h
   · exact absurd h (by simp)
   · simp only [Except.ok.injEq, Option.some.injEq, Prod.mk.injEq] at h
     omega
theorem quotes_ge {p : Pt} {a : Nat} : a ≤ (p.quotes a).2.2 := by
 unfold Pt.quotes
 repeat' split
 all_goals simp
theorem name_ge {p : Pt} {a : Nat} (ha : a ≤ p.n) : a ≤ (p.name a).1 ∧ (p.name a).1 ≤ p.n := by
 have := run_bd (p := p) (fits := isWrd) (k := 1000) ha
 exact ⟨this.1, this.2.1⟩
set_option maxRecDepth 100000 in
set_option maxHeartbeats 4000000 in
theorem nback_0 {C : Cf} {w : World} {a f : Nat} {T : Rw} (h : LX C w a f T) {q : Nat} (hq : C.p.quotes a = (12, [62], q)) : Calls Tryz.prog 67 #[.pointer (some ⟨C.L, 0, none⟩)] w (RP C w (tkp.one f (C.p.nback f a)) (PtOk C w T)) := by
 have hq2 : (C.p.quotes a).2.2 = q := by rw [hq]
 have hge := quotes_ge (p := C.p) (a := a)
 rw [hq2] at hge
 have hs : C.p.nback f a = if (C.p.name q).2 = false ∨ ([62] : List UInt8) = [] ∨ C.p.has [62] (C.p.name q).1 = false then .error (27, (f : Int)) else .ok ({ kind := 11, m := 3, name := C.p.sub q (C.p.name q).1 }, (C.p.name q).1 + 1) := by
   unfold Pt.nback
   rw [hq]
   rfl
 obtain ⟨⟨e, ok⟩, hn⟩ : ∃ d, C.p.name q = d := ⟨_, rfl⟩
 rw [hn] at hs
 simp only at hs
 have HN := Lib.hid hn
 have HQ := Lib.hid hq
 have HNE := Lib.hid (fun (hh : q ≤ C.p.n) => name_ge (p := C.p) hh)
 rw [hn] at HNE
 clear hn hq hq2
 have hk0 := Kept.refl w.heap.size C.L w
 have hB := h.hb
 cases ok with
 | false =>
   have HS := Lib.hid (show tkp.one f (C.p.nback f a) = .error (C.p.er 27 f) by rw [hs, if_pos (Or.inl rfl)]; rfl)
   clear hs
   go_enter Tryz.func67, Tryz.ntmps67
   go_wp2_with fail
   refine Calls.mono (quotes_any h) ?_
   intro e1 w1 hr
   rw [HQ.out] at hr
   obtain ⟨rfl, hx1, hkn⟩ := hr
   have hk1 := hk0.then hkn
   have hbA := below_al w1 (.cells (tkR (.slice none 0 0) { kind := 12 }) 30)
   have hx2 := hx1.below hbA
   have hk2 := hk1.then (Kept.of_below (L := C.L) hbA)
   clear hkn hbA
   unfold tkR
   go_wp2_with fail
   refine Calls.mono (name_any hx2) ?_
   intro e3 w3 hr
   rw [HN.out] at hr
   obtain ⟨rfl, hx3, hkn⟩ := hr
   have hk3 := hk2.then hkn
   have tl3 := hx3.tl
   have nge := HNE.out hx2.an
   clear hkn
   go_wp2_with fail
   refine Calls.mono (fail_any hx3 27) ?_
   rintro e9 w9 ⟨rfl, hkn⟩
   exact ⟨rfl, rp_err HS.out ⟨rfl, (hk3.mono hB).trans hkn⟩⟩
 | true =>
   cases h3 : C.p.has [62] e with
   | false =>
     have HS := Lib.hid (show tkp.one f (C.p.nback f a) = .error (C.p.er 27 f) by rw [hs, if_pos (Or.inr (Or.inr h3))]; rfl)
     clear hs
     have H3 := Lib.hid h3
     clear h3
     go_enter Tryz.func67, Tryz.ntmps67
     go_wp2_with fail
     refine Calls.mono (quotes_any h) ?_
     intro e1 w1 hr
     rw [HQ.out] at hr
     obtain ⟨rfl, hx1, hkn⟩ := hr
     have hk1 := hk0.then hkn
     have hbA := below_al w1 (.cells (tkR (.slice none 0 0) { kind := 12 }) 30)
     have hx2 := hx1.below hbA
     have hk2 := hk1.then (Kept.of_below (L := C.L) hbA)
     clear hkn hbA
     unfold tkR
     go_wp2_with fail
     refine Calls.mono (name_any hx2) ?_
     intro e3 w3 hr
     rw [HN.out] at hr
     obtain ⟨rfl, hx3, hkn⟩ := hr
     have hk3 := hk2.then hkn
     have tl3 := hx3.tl
     have nge := HNE.out hx2.an
     clear hkn
     go_wp2_with fail
     refine Calls.mono (take_n hx3 ⟨#[62]⟩ [62] rfl (by decide) H3.out) ?_
     rintro e4 w4 ⟨rfl, hx4, hkn⟩
     have hk4 := hk3.then hkn
     clear hkn
     go_wp2_with fail
     refine Calls.mono (fail_any hx4 27) ?_
     rintro e9 w9 ⟨rfl, hkn⟩
     exact ⟨rfl, rp_err HS.out ⟨rfl, (hk4.mono hB).trans hkn⟩⟩
   | true =>
     have HS := Lib.hid (show tkp.one f (C.p.nback f a) = .ok ([lay { kind := 11, m := 3, name := C.p.sub q e } f (e + 1)], e + 1) by rw [hs, if_neg (by simp [h3])]; rfl)
     have H3 := Lib.hid h3
     clear hs h3
     go_enter Tryz.func67, Tryz.ntmps67
     go_wp2_with fail
     refine Calls.mono (quotes_any h) ?_
     intro e1 w1 hr
     rw [HQ.out] at hr
     obtain ⟨rfl, hx1, hkn⟩ := hr
     have hk1 := hk0.then hkn
     have hbA := below_al w1 (.cells (tkR (.slice none 0 0) { kind := 12 }) 30)
     have hx2 := hx1.below hbA
     have hk2 := hk1.then (Kept.of_below (L := C.L) hbA)
     clear hkn hbA
     unfold tkR
     go_wp2_with fail
     refine Calls.mono (name_any hx2) ?_
     intro e3 w3 hr
     rw [HN.out] at hr
     obtain ⟨rfl, hx3, hkn⟩ := hr
     have hk3 := hk2.then hkn
     have tl3 := hx3.tl
     have nge := HNE.out hx2.an
     clear hkn
     go_wp2_with fail
     refine Calls.mono (take_y hx3 ⟨#[62]⟩ [62] 1 rfl rfl (by decide) H3.out) ?_
     rintro e4 w4 ⟨rfl, hx4, hkn⟩
     have hk4 := hk3.then hkn
     clear hkn
     go_wp2_with fail
     refine Calls.mono (put_any hx4 (.slice none 0 0) { kind := 11, m := 3, name := C.p.sub q e } (ownR_nil _ _) (by omega)) ?_
     intro e5 w5 hr
     have HP := Lib.hid (ptOk_put hr (hk4.mono hB))
     obtain ⟨rfl, _, _⟩ := hr
     go_wp2_with fail
     go_end0
     exact rp_ok HS.out HP.out
set_option maxRecDepth 100000 in
set_option maxHeartbeats 4000000 in
theorem nback_1 {C : Cf} {w : World} {a f : Nat} {T : Rw} (h : LX C w a f T) {q : Nat} (hq : C.p.quotes a = (12, [39], q)) : Calls Tryz.prog 67 #[.pointer (some ⟨C.L, 0, none⟩)] w (RP C w (tkp.one f (C.p.nback f a)) (PtOk C w T)) := by
 have hq2 : (C.p.quotes a).2.2 = q := by rw [hq]
 have hge := quotes_ge (p := C.p) (a := a)
 rw [hq2] at hge
 have hs : C.p.nback f a = if (C.p.name q).2 = false ∨ ([39] : List UInt8) = [] ∨ C.p.has [39] (C.p.name q).1 = false then .error (27, (f : Int)) else .ok ({ kind := 11, m := 3, name := C.p.sub q (C.p.name q).1 }, (C.p.name q).1 + 1) := by
   unfold Pt.nback
   rw [hq]
   rfl
 obtain ⟨⟨e, ok⟩, hn⟩ : ∃ d, C.p.name q = d := ⟨_, rfl⟩
 rw [hn] at hs
 simp only at hs
 have HN := Lib.hid hn
 have HQ := Lib.hid hq
 have HNE := Lib.hid (fun (hh : q ≤ C.p.n) => name_ge (p := C.p) hh)
 rw [hn] at HNE
 clear hn hq hq2
 have hk0 := Kept.refl w.heap.size C.L w
 have hB := h.hb
 cases ok with
 | false =>
   have HS := Lib.hid (show tkp.one f (C.p.nback f a) = .error (C.p.er 27 f) by rw [hs, if_pos (Or.inl rfl)]; rfl)
   clear hs
   go_enter Tryz.func67, Tryz.ntmps67
   go_wp2_with fail
   refine Calls.mono (quotes_any h) ?_
   intro e1 w1 hr
   rw [HQ.out] at hr
   obtain ⟨rfl, hx1, hkn⟩ := hr
   have hk1 := hk0.then hkn
   have hbA := below_al w1 (.cells (tkR (.slice none 0 0) { kind := 12 }) 30)
   have hx2 := hx1.below hbA
   have hk2 := hk1.then (Kept.of_below (L := C.L) hbA)
   clear hkn hbA
   unfold tkR
   go_wp2_with fail
   refine Calls.mono (name_any hx2) ?_
   intro e3 w3 hr
   rw [HN.out] at hr
   obtain ⟨rfl, hx3, hkn⟩ := hr
   have hk3 := hk2.then hkn
   have tl3 := hx3.tl
   have nge := HNE.out hx2.an
   clear hkn
   go_wp2_with fail
   refine Calls.mono (fail_any hx3 27) ?_
   rintro e9 w9 ⟨rfl, hkn⟩
   exact ⟨rfl, rp_err HS.out ⟨rfl, (hk3.mono hB).trans hkn⟩⟩
 | true =>
   cases h3 : C.p.has [39] e with
   | false =>
     have HS := Lib.hid (show tkp.one f (C.p.nback f a) = .error (C.p.er 27 f) by rw [hs, if_pos (Or.inr (Or.inr h3))]; rfl)
     clear hs
     have H3 := Lib.hid h3
     clear h3
     go_enter Tryz.func67, Tryz.ntmps67
     go_wp2_with fail
     refine Calls.mono (quotes_any h) ?_
     intro e1 w1 hr
     rw [HQ.out] at hr
     obtain ⟨rfl, hx1, hkn⟩ := hr
     have hk1 := hk0.then hkn
     have hbA := below_al w1 (.cells (tkR (.slice none 0 0) { kind := 12 }) 30)
     have hx2 := hx1.below hbA
     have hk2 := hk1.then (Kept.of_below (L := C.L) hbA)
     clear hkn hbA
     unfold tkR
     go_wp2_with fail
     refine Calls.mono (name_any hx2) ?_
     intro e3 w3 hr
     rw [HN.out] at hr
     obtain ⟨rfl, hx3, hkn⟩ := hr
     have hk3 := hk2.then hkn
     have tl3 := hx3.tl
     have nge := HNE.out hx2.an
     clear hkn
     go_wp2_with fail
     refine Calls.mono (take_n hx3 ⟨#[39]⟩ [39] rfl (by decide) H3.out) ?_
     rintro e4 w4 ⟨rfl, hx4, hkn⟩
     have hk4 := hk3.then hkn
     clear hkn
     go_wp2_with fail
     refine Calls.mono (fail_any hx4 27) ?_
     rintro e9 w9 ⟨rfl, hkn⟩
     exact ⟨rfl, rp_err HS.out ⟨rfl, (hk4.mono hB).trans hkn⟩⟩
   | true =>
     have HS := Lib.hid (show tkp.one f (C.p.nback f a) = .ok ([lay { kind := 11, m := 3, name := C.p.sub q e } f (e + 1)], e + 1) by rw [hs, if_neg (by simp [h3])]; rfl)
     have H3 := Lib.hid h3
     clear hs h3
     go_enter Tryz.func67, Tryz.ntmps67
     go_wp2_with fail
     refine Calls.mono (quotes_any h) ?_
     intro e1 w1 hr
     rw [HQ.out] at hr
     obtain ⟨rfl, hx1, hkn⟩ := hr
     have hk1 := hk0.then hkn
     have hbA := below_al w1 (.cells (tkR (.slice none 0 0) { kind := 12 }) 30)
     have hx2 := hx1.below hbA
     have hk2 := hk1.then (Kept.of_below (L := C.L) hbA)
     clear hkn hbA
     unfold tkR
     go_wp2_with fail
     refine Calls.mono (name_any hx2) ?_
     intro e3 w3 hr
     rw [HN.out] at hr
     obtain ⟨rfl, hx3, hkn⟩ := hr
     have hk3 := hk2.then hkn
     have tl3 := hx3.tl
     have nge := HNE.out hx2.an
     clear hkn
     go_wp2_with fail
     refine Calls.mono (take_y hx3 ⟨#[39]⟩ [39] 1 rfl rfl (by decide) H3.out) ?_
     rintro e4 w4 ⟨rfl, hx4, hkn⟩
     have hk4 := hk3.then hkn
     clear hkn
     go_wp2_with fail
     refine Calls.mono (put_any hx4 (.slice none 0 0) { kind := 11, m := 3, name := C.p.sub q e } (ownR_nil _ _) (by omega)) ?_
     intro e5 w5 hr
     have HP := Lib.hid (ptOk_put hr (hk4.mono hB))
     obtain ⟨rfl, _, _⟩ := hr
     go_wp2_with fail
     go_end0
     exact rp_ok HS.out HP.out
set_option maxRecDepth 100000 in
set_option maxHeartbeats 4000000 in
theorem nback_2 {C : Cf} {w : World} {a f : Nat} {T : Rw} (h : LX C w a f T) {q : Nat} (hq : C.p.quotes a = (11, [125], q)) : Calls Tryz.prog 67 #[.pointer (some ⟨C.L, 0, none⟩)] w (RP C w (tkp.one f (C.p.nback f a)) (PtOk C w T)) := by
 have hq2 : (C.p.quotes a).2.2 = q := by rw [hq]
 have hge := quotes_ge (p := C.p) (a := a)
 rw [hq2] at hge
 have hs : C.p.nback f a = if (C.p.name q).2 = false ∨ ([125] : List UInt8) = [] ∨ C.p.has [125] (C.p.name q).1 = false then .error (27, (f : Int)) else .ok ({ kind := 11, m := 3, name := C.p.sub q (C.p.name q).1 }, (C.p.name q).1 + 1) := by
   unfold Pt.nback
   rw [hq]
   rfl
 obtain ⟨⟨e, ok⟩, hn⟩ : ∃ d, C.p.name q = d := ⟨_, rfl⟩
 rw [hn] at hs
 simp only at hs
 have HN := Lib.hid hn
 have HQ := Lib.hid hq
 have HNE := Lib.hid (fun (hh : q ≤ C.p.n) => name_ge (p := C.p) hh)
 rw [hn] at HNE
 clear hn hq hq2
 have hk0 := Kept.refl w.heap.size C.L w
 have hB := h.hb
 cases ok with
 | false =>
   have HS := Lib.hid (show tkp.one f (C.p.nback f a) = .error (C.p.er 27 f) by rw [hs, if_pos (Or.inl rfl)]; rfl)
   clear hs
   go_enter Tryz.func67, Tryz.ntmps67
   go_wp2_with fail
   refine Calls.mono (quotes_any h) ?_
   intro e1 w1 hr
   rw [HQ.out] at hr
   obtain ⟨rfl, hx1, hkn⟩ := hr
   have hk1 := hk0.then hkn
   have hbA := below_al w1 (.cells (tkR (.slice none 0 0) { kind := 11 }) 30)
   have hx2 := hx1.below hbA
   have hk2 := hk1.then (Kept.of_below (L := C.L) hbA)
   clear hkn hbA
   unfold tkR
   go_wp2_with fail
   refine Calls.mono (name_any hx2) ?_
   intro e3 w3 hr
   rw [HN.out] at hr
   obtain ⟨rfl, hx3, hkn⟩ := hr
   have hk3 := hk2.then hkn
   have tl3 := hx3.tl
   have nge := HNE.out hx2.an
   clear hkn
   go_wp2_with fail
   refine Calls.mono (fail_any hx3 27) ?_
   rintro e9 w9 ⟨rfl, hkn⟩
   exact ⟨rfl, rp_err HS.out ⟨rfl, (hk3.mono hB).trans hkn⟩⟩
 | true =>
   cases h3 : C.p.has [125] e with
   | false =>
     have HS := Lib.hid (show tkp.one f (C.p.nback f a) = .error (C.p.er 27 f) by rw [hs, if_pos (Or.inr (Or.inr h3))]; rfl)
     clear hs
     have H3 := Lib.hid h3
     clear h3
     go_enter Tryz.func67, Tryz.ntmps67
     go_wp2_with fail
     refine Calls.mono (quotes_any h) ?_
     intro e1 w1 hr
     rw [HQ.out] at hr
     obtain ⟨rfl, hx1, hkn⟩ := hr
     have hk1 := hk0.then hkn
     have hbA := below_al w1 (.cells (tkR (.slice none 0 0) { kind := 11 }) 30)
     have hx2 := hx1.below hbA
     have hk2 := hk1.then (Kept.of_below (L := C.L) hbA)
     clear hkn hbA
     unfold tkR
     go_wp2_with fail
     refine Calls.mono (name_any hx2) ?_
     intro e3 w3 hr
     rw [HN.out] at hr
     obtain ⟨rfl, hx3, hkn⟩ := hr
     have hk3 := hk2.then hkn
     have tl3 := hx3.tl
     have nge := HNE.out hx2.an
     clear hkn
     go_wp2_with fail
     refine Calls.mono (take_n hx3 ⟨#[125]⟩ [125] rfl (by decide) H3.out) ?_
     rintro e4 w4 ⟨rfl, hx4, hkn⟩
     have hk4 := hk3.then hkn
     clear hkn
     go_wp2_with fail
     refine Calls.mono (fail_any hx4 27) ?_
     rintro e9 w9 ⟨rfl, hkn⟩
     exact ⟨rfl, rp_err HS.out ⟨rfl, (hk4.mono hB).trans hkn⟩⟩
   | true =>
     have HS := Lib.hid (show tkp.one f (C.p.nback f a) = .ok ([lay { kind := 11, m := 3, name := C.p.sub q e } f (e + 1)], e + 1) by rw [hs, if_neg (by simp [h3])]; rfl)
     have H3 := Lib.hid h3
     clear hs h3
     go_enter Tryz.func67, Tryz.ntmps67
     go_wp2_with fail
     refine Calls.mono (quotes_any h) ?_
     intro e1 w1 hr
     rw [HQ.out] at hr
     obtain ⟨rfl, hx1, hkn⟩ := hr
     have hk1 := hk0.then hkn
     have hbA := below_al w1 (.cells (tkR (.slice none 0 0) { kind := 11 }) 30)
     have hx2 := hx1.below hbA
     have hk2 := hk1.then (Kept.of_below (L := C.L) hbA)
     clear hkn hbA
     unfold tkR
     go_wp2_with fail
     refine Calls.mono (name_any hx2) ?_
     intro e3 w3 hr
     rw [HN.out] at hr
     obtain ⟨rfl, hx3, hkn⟩ := hr
     have hk3 := hk2.then hkn
     have tl3 := hx3.tl
     have nge := HNE.out hx2.an
     clear hkn
     go_wp2_with fail
     refine Calls.mono (take_y hx3 ⟨#[125]⟩ [125] 1 rfl rfl (by decide) H3.out) ?_
     rintro e4 w4 ⟨rfl, hx4, hkn⟩
     have hk4 := hk3.then hkn
     clear hkn
     go_wp2_with fail
     refine Calls.mono (put_any hx4 (.slice none 0 0) { kind := 11, m := 3, name := C.p.sub q e } (ownR_nil _ _) (by omega)) ?_
     intro e5 w5 hr
     have HP := Lib.hid (ptOk_put hr (hk4.mono hB))
     obtain ⟨rfl, _, _⟩ := hr
     go_wp2_with fail
     go_end0
     exact rp_ok HS.out HP.out
set_option maxRecDepth 100000 in
set_option maxHeartbeats 4000000 in
theorem nback_3 {C : Cf} {w : World} {a f : Nat} {T : Rw} (h : LX C w a f T) {q : Nat} (hq : C.p.quotes a = (11, [], q)) : Calls Tryz.prog 67 #[.pointer (some ⟨C.L, 0, none⟩)] w (RP C w (tkp.one f (C.p.nback f a)) (PtOk C w T)) := by
 have hq2 : (C.p.quotes a).2.2 = q := by rw [hq]
 have hge := quotes_ge (p := C.p) (a := a)
 rw [hq2] at hge
 have hs : C.p.nback f a = if (C.p.name q).2 = false ∨ ([] : List UInt8) = [] ∨ C.p.has [] (C.p.name q).1 = false then .error (27, (f : Int)) else .ok ({ kind := 11, m := 3, name := C.p.sub q (C.p.name q).1 }, (C.p.name q).1 + 0) := by
   unfold Pt.nback
   rw [hq]
   rfl
 obtain ⟨⟨e, ok⟩, hn⟩ : ∃ d, C.p.name q = d := ⟨_, rfl⟩
 rw [hn] at hs
 simp only at hs
 have HN := Lib.hid hn
 have HQ := Lib.hid hq
 have HNE := Lib.hid (fun (hh : q ≤ C.p.n) => name_ge (p := C.p) hh)
 rw [hn] at HNE
 clear hn hq hq2
 have hk0 := Kept.refl w.heap.size C.L w
 have hB := h.hb
 cases ok with
 | false =>
   have HS := Lib.hid (show tkp.one f (C.p.nback f a) = .error (C.p.er 27 f) by rw [hs, if_pos (Or.inl rfl)]; rfl)
   clear hs
   go_enter Tryz.func67, Tryz.ntmps67
   go_wp2_with fail
   refine Calls.mono (quotes_any h) ?_
   intro e1 w1 hr
   rw [HQ.out] at hr
   obtain ⟨rfl, hx1, hkn⟩ := hr
   have hk1 := hk0.then hkn
   have hbA := below_al w1 (.cells (tkR (.slice none 0 0) { kind := 11 }) 30)
   have hx2 := hx1.below hbA
   have hk2 := hk1.then (Kept.of_below (L := C.L) hbA)
   clear hkn hbA
   unfold tkR
   go_wp2_with fail
   refine Calls.mono (name_any hx2) ?_
   intro e3 w3 hr
   rw [HN.out] at hr
   obtain ⟨rfl, hx3, hkn⟩ := hr
   have hk3 := hk2.then hkn
   have tl3 := hx3.tl
   have nge := HNE.out hx2.an
   clear hkn
   go_wp2_with fail
   refine Calls.mono (fail_any hx3 27) ?_
   rintro e9 w9 ⟨rfl, hkn⟩
   exact ⟨rfl, rp_err HS.out ⟨rfl, (hk3.mono hB).trans hkn⟩⟩
 | true =>
   have HS := Lib.hid (show tkp.one f (C.p.nback f a) = .error (C.p.er 27 f) by rw [hs, if_pos (Or.inr (Or.inl trivial))]; rfl)
   clear hs
   go_enter Tryz.func67, Tryz.ntmps67
   go_wp2_with fail
   refine Calls.mono (quotes_any h) ?_
   intro e1 w1 hr
   rw [HQ.out] at hr
   obtain ⟨rfl, hx1, hkn⟩ := hr
   have hk1 := hk0.then hkn
   have hbA := below_al w1 (.cells (tkR (.slice none 0 0) { kind := 11 }) 30)
   have hx2 := hx1.below hbA
   have hk2 := hk1.then (Kept.of_below (L := C.L) hbA)
   clear hkn hbA
   unfold tkR
   go_wp2_with fail
   refine Calls.mono (name_any hx2) ?_
   intro e3 w3 hr
   rw [HN.out] at hr
   obtain ⟨rfl, hx3, hkn⟩ := hr
   have hk3 := hk2.then hkn
   have tl3 := hx3.tl
   have nge := HNE.out hx2.an
   clear hkn
   go_wp2_with fail
   refine Calls.mono (fail_any hx3 27) ?_
   rintro e9 w9 ⟨rfl, hkn⟩
   exact ⟨rfl, rp_err HS.out ⟨rfl, (hk3.mono hB).trans hkn⟩⟩
theorem quotes_cases (p : Pt) (a : Nat) : (∃ q, p.quotes a = (12, [62], q)) ∨ (∃ q, p.quotes a = (12, [39], q)) ∨ (∃ q, p.quotes a = (11, [125], q)) ∨ ∃ q, p.quotes a = (11, [], q) := by
 unfold Pt.quotes
 repeat' split
 · exact Or.inl ⟨_, rfl⟩
 · exact Or.inr (Or.inl ⟨_, rfl⟩)
 · exact Or.inr (Or.inr (Or.inl ⟨_, rfl⟩))
 · exact Or.inr (Or.inr (Or.inr ⟨_, rfl⟩))
theorem nback_any {C : Cf} {w : World} {a f : Nat} {T : Rw} (h : LX C w a f T) : Calls Tryz.prog 67 #[.pointer (some ⟨C.L, 0, none⟩)] w (RP C w (tkp.one f (C.p.nback f a)) (PtOk C w T)) := by
 rcases quotes_cases C.p a with ⟨q, hq⟩ | ⟨q, hq⟩ | ⟨q, hq⟩ | ⟨q, hq⟩
 · exact nback_0 h hq
 · exact nback_1 h hq
 · exact nback_2 h hq
 · exact nback_3 h hq
end Go.Proofs.YtkcmjcgjfjfimaaGreatDoor.tkw
end
