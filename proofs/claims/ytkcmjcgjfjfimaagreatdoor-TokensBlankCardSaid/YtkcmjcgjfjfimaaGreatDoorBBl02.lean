/- T -/
import Derived.Test.YtkcmjcgjfjfimaaGreatDoorBBl01
section
namespace Go.Proofs.YtkcmjcgjfjfimaaGreatDoor.tkw
open Go Go.RowKit Go.Maps utfp utfw ucdp setp setw prp tkp
variable {C : Cf} {w : World} {a f : Nat} {T : Rw}
theorem ixqf88d5de7 : ∀ u, (Instr.index 143 (.agg #[.string ⟨#[40, 63, 61]⟩, .string ⟨#[40, 63, 33]⟩, .string ⟨#[40, 63, 60, 61]⟩, .string ⟨#[40, 63, 60, 33]⟩]) (.int .i64 0)).run Tryz.prog u = .ok (.string ⟨#[40, 63, 61]⟩) u := fun u => by kernel_rfl
theorem ixqf5b7cdf1 : ∀ u, (Instr.index 143 (.agg #[.string ⟨#[40, 63, 61]⟩, .string ⟨#[40, 63, 33]⟩, .string ⟨#[40, 63, 60, 61]⟩, .string ⟨#[40, 63, 60, 33]⟩]) (.int .i64 1)).run Tryz.prog u = .ok (.string ⟨#[40, 63, 33]⟩) u := fun u => by kernel_rfl
theorem ixq5a1d8712 : ∀ u, (Instr.index 143 (.agg #[.string ⟨#[40, 63, 61]⟩, .string ⟨#[40, 63, 33]⟩, .string ⟨#[40, 63, 60, 61]⟩, .string ⟨#[40, 63, 60, 33]⟩]) (.int .i64 2)).run Tryz.prog u = .ok (.string ⟨#[40, 63, 60, 61]⟩) u := fun u => by kernel_rfl
theorem ixqb0458286 : ∀ u, (Instr.index 143 (.agg #[.string ⟨#[40, 63, 61]⟩, .string ⟨#[40, 63, 33]⟩, .string ⟨#[40, 63, 60, 61]⟩, .string ⟨#[40, 63, 60, 33]⟩]) (.int .i64 3)).run Tryz.prog u = .ok (.string ⟨#[40, 63, 60, 33]⟩) u := fun u => by kernel_rfl
set_option maxRecDepth 100000 in
set_option maxHeartbeats 4000000 in
theorem cond_0 (h : LX C w a f T) (hT : T.length + 1 ≤ a) (h0 : C.p.has [40, 63, 61] a = true) : Calls Tryz.prog 102 #[.pointer (some ⟨C.L, 0, none⟩)] w (RP C w (tkp.one f (C.p.cond f a)) (PtOk C w T)) := by
 have HS := Lib.hid (show tkp.one f (C.p.cond f a) = .ok ([lay ({ kind := 10, n := 13 } : Tk) f a], a) by unfold Pt.cond; rw [if_pos (by unfold looksT; simp [h0])]; rfl)
 have H0 := Lib.hid h0
 clear h0
 have ix0 := ixqf88d5de7
 have hgl := h.glob h.ok.lo
 have g0 : w.cell? ⟨5, 0, none⟩ = some (.string ⟨#[40, 63, 61]⟩) := hgl 0 _ rfl
 have g1 : w.cell? ⟨5, 1, none⟩ = some (.string ⟨#[40, 63, 33]⟩) := hgl 1 _ rfl
 have g2 : w.cell? ⟨5, 2, none⟩ = some (.string ⟨#[40, 63, 60, 61]⟩) := hgl 2 _ rfl
 have g3 : w.cell? ⟨5, 3, none⟩ = some (.string ⟨#[40, 63, 60, 33]⟩) := hgl 3 _ rfl
 clear hgl
 have tl := h.tl
 have hk0 := Kept.refl w.heap.size C.L w
 have hB := h.hb
 go_enter Tryz.func102, Tryz.ntmps102
 go_wp2_with fail
 clear g0 g1 g2 g3
 refine wp_loop_rounds 5 ?_
 rw [rounds_succ]
 go_wp2_with fail
 refine Calls.mono (has_any h ⟨#[40, 63, 61]⟩ (by decide)) ?_
 intro e1 w1 hr
 rw [show (⟨#[40, 63, 61]⟩ : ByteArray).data.toList = [40, 63, 61] from rfl, H0.out] at hr
 obtain ⟨rfl, hb1⟩ := hr
 have hx1 := h.below hb1
 have hk1 := hk0.then (Kept.of_below (L := C.L) hb1)
 clear hb1
 go_wp2_with fail
 refine Calls.mono (put_any hx1 (.slice none 0 0) ({ kind := 10, n := 13 } : Tk) (ownR_nil _ _) (by omega)) ?_
 intro e18 w18 hr
 have HP := Lib.hid (ptOk_put hr (hk1.mono hB))
 obtain ⟨rfl, _, _⟩ := hr
 go_wp2_with fail
 go_end0
 exact rp_ok HS.out HP.out
set_option maxRecDepth 100000 in
set_option maxHeartbeats 4000000 in
theorem cond_1 (h : LX C w a f T) (hT : T.length + 1 ≤ a) (h0 : C.p.has [40, 63, 61] a = false) (h1 : C.p.has [40, 63, 33] a = true) : Calls Tryz.prog 102 #[.pointer (some ⟨C.L, 0, none⟩)] w (RP C w (tkp.one f (C.p.cond f a)) (PtOk C w T)) := by
 have HS := Lib.hid (show tkp.one f (C.p.cond f a) = .ok ([lay ({ kind := 10, n := 13 } : Tk) f a], a) by unfold Pt.cond; rw [if_pos (by unfold looksT; simp [h0, h1])]; rfl)
 have H0 := Lib.hid h0
 have H1 := Lib.hid h1
 clear h0 h1
 have ix0 := ixqf88d5de7
 have ix1 := ixqf5b7cdf1
 have hgl := h.glob h.ok.lo
 have g0 : w.cell? ⟨5, 0, none⟩ = some (.string ⟨#[40, 63, 61]⟩) := hgl 0 _ rfl
 have g1 : w.cell? ⟨5, 1, none⟩ = some (.string ⟨#[40, 63, 33]⟩) := hgl 1 _ rfl
 have g2 : w.cell? ⟨5, 2, none⟩ = some (.string ⟨#[40, 63, 60, 61]⟩) := hgl 2 _ rfl
 have g3 : w.cell? ⟨5, 3, none⟩ = some (.string ⟨#[40, 63, 60, 33]⟩) := hgl 3 _ rfl
 clear hgl
 have tl := h.tl
 have hk0 := Kept.refl w.heap.size C.L w
 have hB := h.hb
 go_enter Tryz.func102, Tryz.ntmps102
 go_wp2_with fail
 clear g0 g1 g2 g3
 refine wp_loop_rounds 5 ?_
 rw [rounds_succ]
 go_wp2_with fail
 refine Calls.mono (has_any h ⟨#[40, 63, 61]⟩ (by decide)) ?_
 intro e1 w1 hr
 rw [show (⟨#[40, 63, 61]⟩ : ByteArray).data.toList = [40, 63, 61] from rfl, H0.out] at hr
 obtain ⟨rfl, hb1⟩ := hr
 have hx1 := h.below hb1
 have hk1 := hk0.then (Kept.of_below (L := C.L) hb1)
 clear hb1
 go_wp2_with fail
 rw [rounds_succ]
 go_wp2_with fail
 refine Calls.mono (has_any hx1 ⟨#[40, 63, 33]⟩ (by decide)) ?_
 intro e2 w2 hr
 rw [show (⟨#[40, 63, 33]⟩ : ByteArray).data.toList = [40, 63, 33] from rfl, H1.out] at hr
 obtain ⟨rfl, hb1⟩ := hr
 have hx2 := hx1.below hb1
 have hk2 := hk1.then (Kept.of_below (L := C.L) hb1)
 clear hb1
 go_wp2_with fail
 refine Calls.mono (put_any hx2 (.slice none 0 0) ({ kind := 10, n := 13 } : Tk) (ownR_nil _ _) (by omega)) ?_
 intro e18 w18 hr
 have HP := Lib.hid (ptOk_put hr (hk2.mono hB))
 obtain ⟨rfl, _, _⟩ := hr
 go_wp2_with fail
 go_end0
 exact rp_ok HS.out HP.out
set_option maxRecDepth 100000 in
set_option maxHeartbeats 4000000 in
theorem cond_2 (h : LX C w a f T) (hT : T.length + 1 ≤ a) (h0 : C.p.has [40, 63, 61] a = false) (h1 : C.p.has [40, 63, 33] a = false) (h2 : C.p.has [40, 63, 60, 61] a = true) : Calls Tryz.prog 102 #[.pointer (some ⟨C.L, 0, none⟩)] w (RP C w (tkp.one f (C.p.cond f a)) (PtOk C w T)) := by
 have HS := Lib.hid (show tkp.one f (C.p.cond f a) = .ok ([lay ({ kind := 10, n := 13 } : Tk) f a], a) by unfold Pt.cond; rw [if_pos (by unfold looksT; simp [h0, h1, h2])]; rfl)
 have H0 := Lib.hid h0
 have H1 := Lib.hid h1
 have H2 := Lib.hid h2
 clear h0 h1 h2
 have ix0 := ixqf88d5de7
 have ix1 := ixqf5b7cdf1
 have ix2 := ixq5a1d8712
 have hgl := h.glob h.ok.lo
 have g0 : w.cell? ⟨5, 0, none⟩ = some (.string ⟨#[40, 63, 61]⟩) := hgl 0 _ rfl
 have g1 : w.cell? ⟨5, 1, none⟩ = some (.string ⟨#[40, 63, 33]⟩) := hgl 1 _ rfl
 have g2 : w.cell? ⟨5, 2, none⟩ = some (.string ⟨#[40, 63, 60, 61]⟩) := hgl 2 _ rfl
 have g3 : w.cell? ⟨5, 3, none⟩ = some (.string ⟨#[40, 63, 60, 33]⟩) := hgl 3 _ rfl
 clear hgl
 have tl := h.tl
 have hk0 := Kept.refl w.heap.size C.L w
 have hB := h.hb
 go_enter Tryz.func102, Tryz.ntmps102
 go_wp2_with fail
 clear g0 g1 g2 g3
 refine wp_loop_rounds 5 ?_
 rw [rounds_succ]
 go_wp2_with fail
 refine Calls.mono (has_any h ⟨#[40, 63, 61]⟩ (by decide)) ?_
 intro e1 w1 hr
 rw [show (⟨#[40, 63, 61]⟩ : ByteArray).data.toList = [40, 63, 61] from rfl, H0.out] at hr
 obtain ⟨rfl, hb1⟩ := hr
 have hx1 := h.below hb1
 have hk1 := hk0.then (Kept.of_below (L := C.L) hb1)
 clear hb1
 go_wp2_with fail
 rw [rounds_succ]
 go_wp2_with fail
 refine Calls.mono (has_any hx1 ⟨#[40, 63, 33]⟩ (by decide)) ?_
 intro e2 w2 hr
 rw [show (⟨#[40, 63, 33]⟩ : ByteArray).data.toList = [40, 63, 33] from rfl, H1.out] at hr
 obtain ⟨rfl, hb1⟩ := hr
 have hx2 := hx1.below hb1
 have hk2 := hk1.then (Kept.of_below (L := C.L) hb1)
 clear hb1
 go_wp2_with fail
 rw [rounds_succ]
 go_wp2_with fail
 refine Calls.mono (has_any hx2 ⟨#[40, 63, 60, 61]⟩ (by decide)) ?_
 intro e3 w3 hr
 rw [show (⟨#[40, 63, 60, 61]⟩ : ByteArray).data.toList = [40, 63, 60, 61] from rfl, H2.out] at hr
 obtain ⟨rfl, hb1⟩ := hr
 have hx3 := hx2.below hb1
 have hk3 := hk2.then (Kept.of_below (L := C.L) hb1)
 clear hb1
 go_wp2_with fail
 refine Calls.mono (put_any hx3 (.slice none 0 0) ({ kind := 10, n := 13 } : Tk) (ownR_nil _ _) (by omega)) ?_
 intro e18 w18 hr
 have HP := Lib.hid (ptOk_put hr (hk3.mono hB))
 obtain ⟨rfl, _, _⟩ := hr
 go_wp2_with fail
 go_end0
 exact rp_ok HS.out HP.out
set_option maxRecDepth 100000 in
set_option maxHeartbeats 4000000 in
theorem cond_3 (h : LX C w a f T) (hT : T.length + 1 ≤ a) (h0 : C.p.has [40, 63, 61] a = false) (h1 : C.p.has [40, 63, 33] a = false) (h2 : C.p.has [40, 63, 60, 61] a = false) (h3 : C.p.has [40, 63, 60, 33] a = true) : Calls Tryz.prog 102 #[.pointer (some ⟨C.L, 0, none⟩)] w (RP C w (tkp.one f (C.p.cond f a)) (PtOk C w T)) := by
 have HS := Lib.hid (show tkp.one f (C.p.cond f a) = .ok ([lay ({ kind := 10, n := 13 } : Tk) f a], a) by unfold Pt.cond; rw [if_pos (by unfold looksT; simp [h0, h1, h2, h3])]; rfl)
 have H0 := Lib.hid h0
 have H1 := Lib.hid h1
 have H2 := Lib.hid h2
 have H3 := Lib.hid h3
 clear h0 h1 h2 h3
 have ix0 := ixqf88d5de7
 have ix1 := ixqf5b7cdf1
 have ix2 := ixq5a1d8712
 have ix3 := ixqb0458286
 have hgl := h.glob h.ok.lo
 have g0 : w.cell? ⟨5, 0, none⟩ = some (.string ⟨#[40, 63, 61]⟩) := hgl 0 _ rfl
 have g1 : w.cell? ⟨5, 1, none⟩ = some (.string ⟨#[40, 63, 33]⟩) := hgl 1 _ rfl
 have g2 : w.cell? ⟨5, 2, none⟩ = some (.string ⟨#[40, 63, 60, 61]⟩) := hgl 2 _ rfl
 have g3 : w.cell? ⟨5, 3, none⟩ = some (.string ⟨#[40, 63, 60, 33]⟩) := hgl 3 _ rfl
 clear hgl
 have tl := h.tl
 have hk0 := Kept.refl w.heap.size C.L w
 have hB := h.hb
 go_enter Tryz.func102, Tryz.ntmps102
 go_wp2_with fail
 clear g0 g1 g2 g3
 refine wp_loop_rounds 5 ?_
 rw [rounds_succ]
 go_wp2_with fail
 refine Calls.mono (has_any h ⟨#[40, 63, 61]⟩ (by decide)) ?_
 intro e1 w1 hr
 rw [show (⟨#[40, 63, 61]⟩ : ByteArray).data.toList = [40, 63, 61] from rfl, H0.out] at hr
 obtain ⟨rfl, hb1⟩ := hr
 have hx1 := h.below hb1
 have hk1 := hk0.then (Kept.of_below (L := C.L) hb1)
 clear hb1
 go_wp2_with fail
 rw [rounds_succ]
 go_wp2_with fail
 refine Calls.mono (has_any hx1 ⟨#[40, 63, 33]⟩ (by decide)) ?_
 intro e2 w2 hr
 rw [show (⟨#[40, 63, 33]⟩ : ByteArray).data.toList = [40, 63, 33] from rfl, H1.out] at hr
 obtain ⟨rfl, hb1⟩ := hr
 have hx2 := hx1.below hb1
 have hk2 := hk1.then (Kept.of_below (L := C.L) hb1)
 clear hb1
 go_wp2_with fail
 rw [rounds_succ]
 go_wp2_with fail
 refine Calls.mono (has_any hx2 ⟨#[40, 63, 60, 61]⟩ (by decide)) ?_
 intro e3 w3 hr
 rw [show (⟨#[40, 63, 60, 61]⟩ : ByteArray).data.toList = [40, 63, 60, 61] from rfl, H2.out] at hr
 obtain ⟨rfl, hb1⟩ := hr
 have hx3 := hx2.below hb1
 have hk3 := hk2.then (Kept.of_below (L := C.L) hb1)
 clear hb1
 go_wp2_with fail
 rw [rounds_succ]
 go_wp2_with fail
 refine Calls.mono (has_any hx3 ⟨#[40, 63, 60, 33]⟩ (by decide)) ?_
 intro e4 w4 hr
 rw [show (⟨#[40, 63, 60, 33]⟩ : ByteArray).data.toList = [40, 63, 60, 33] from rfl, H3.out] at hr
 obtain ⟨rfl, hb1⟩ := hr
 have hx4 := hx3.below hb1
 have hk4 := hk3.then (Kept.of_below (L := C.L) hb1)
 clear hb1
 go_wp2_with fail
 refine Calls.mono (put_any hx4 (.slice none 0 0) ({ kind := 10, n := 13 } : Tk) (ownR_nil _ _) (by omega)) ?_
 intro e18 w18 hr
 have HP := Lib.hid (ptOk_put hr (hk4.mono hB))
 obtain ⟨rfl, _, _⟩ := hr
 go_wp2_with fail
 go_end0
 exact rp_ok HS.out HP.out
set_option maxRecDepth 100000 in
set_option maxHeartbeats 8000000 in
theorem cond_4 (h : LX C w a f T) (hT : T.length + 1 ≤ a) (h0 : C.p.has [40, 63, 61] a = false) (h1 : C.p.has [40, 63, 33] a = false) (h2 : C.p.has [40, 63, 60, 61] a = false) (h3 : C.p.has [40, 63, 60, 33] a = false) (h40 : C.p.has [40] a = true) : Calls Tryz.prog 102 #[.pointer (some ⟨C.L, 0, none⟩)] w (RP C w (tkp.one f (C.p.cond f a)) (PtOk C w T)) := by
 have hs : C.p.cond f a = (match C.p.test f (a + 1) with
  | .error e => .error e
  | .ok none => .error (32, (f : Int))
  | .ok (some (t, b)) => if C.p.has [41] b = false then .error (32, (f : Int)) else if t.n = 9 ∧ t.mode = 0 then .error (25, (f : Int)) else .ok (t, b + 1)) := by
  unfold Pt.cond
  rw [if_neg (by unfold looksT; simp [h0, h1, h2, h3])]
  rfl
 have H40 := Lib.hid h40
 clear h40
 have H0 := Lib.hid h0
 have H1 := Lib.hid h1
 have H2 := Lib.hid h2
 have H3 := Lib.hid h3
 clear h0 h1 h2 h3
 cases ht : C.p.test f (a + 1) with
 | error x =>
  rw [ht] at hs
  have HS := Lib.hid (show tkp.one f (C.p.cond f a) = .error x by rw [hs]; rfl)
  have HTT := Lib.hid ht
  clear hs ht
  have ix0 := ixqf88d5de7
  have ix1 := ixqf5b7cdf1
  have ix2 := ixq5a1d8712
  have ix3 := ixqb0458286
  have hgl := h.glob h.ok.lo
  have g0 : w.cell? ⟨5, 0, none⟩ = some (.string ⟨#[40, 63, 61]⟩) := hgl 0 _ rfl
  have g1 : w.cell? ⟨5, 1, none⟩ = some (.string ⟨#[40, 63, 33]⟩) := hgl 1 _ rfl
  have g2 : w.cell? ⟨5, 2, none⟩ = some (.string ⟨#[40, 63, 60, 61]⟩) := hgl 2 _ rfl
  have g3 : w.cell? ⟨5, 3, none⟩ = some (.string ⟨#[40, 63, 60, 33]⟩) := hgl 3 _ rfl
  clear hgl
  have tl := h.tl
  have hk0 := Kept.refl w.heap.size C.L w
  have hB := h.hb
  go_enter Tryz.func102, Tryz.ntmps102
  go_wp2_with fail
  clear g0 g1 g2 g3
  refine wp_loop_rounds 5 ?_
  rw [rounds_succ]
  go_wp2_with fail
  refine Calls.mono (has_any h ⟨#[40, 63, 61]⟩ (by decide)) ?_
  intro e1 w1 hr
  rw [show (⟨#[40, 63, 61]⟩ : ByteArray).data.toList = [40, 63, 61] from rfl, H0.out] at hr
  obtain ⟨rfl, hb1⟩ := hr
  have hx1 := h.below hb1
  have hk1 := hk0.then (Kept.of_below (L := C.L) hb1)
  clear hb1
  go_wp2_with fail
  rw [rounds_succ]
  go_wp2_with fail
  refine Calls.mono (has_any hx1 ⟨#[40, 63, 33]⟩ (by decide)) ?_
  intro e2 w2 hr
  rw [show (⟨#[40, 63, 33]⟩ : ByteArray).data.toList = [40, 63, 33] from rfl, H1.out] at hr
  obtain ⟨rfl, hb1⟩ := hr
  have hx2 := hx1.below hb1
  have hk2 := hk1.then (Kept.of_below (L := C.L) hb1)
  clear hb1
  go_wp2_with fail
  rw [rounds_succ]
  go_wp2_with fail
  refine Calls.mono (has_any hx2 ⟨#[40, 63, 60, 61]⟩ (by decide)) ?_
  intro e3 w3 hr
  rw [show (⟨#[40, 63, 60, 61]⟩ : ByteArray).data.toList = [40, 63, 60, 61] from rfl, H2.out] at hr
  obtain ⟨rfl, hb1⟩ := hr
  have hx3 := hx2.below hb1
  have hk3 := hk2.then (Kept.of_below (L := C.L) hb1)
  clear hb1
  go_wp2_with fail
  rw [rounds_succ]
  go_wp2_with fail
  refine Calls.mono (has_any hx3 ⟨#[40, 63, 60, 33]⟩ (by decide)) ?_
  intro e4 w4 hr
  rw [show (⟨#[40, 63, 60, 33]⟩ : ByteArray).data.toList = [40, 63, 60, 33] from rfl, H3.out] at hr
  obtain ⟨rfl, hb1⟩ := hr
  have hx4 := hx3.below hb1
  have hk4 := hk3.then (Kept.of_below (L := C.L) hb1)
  clear hb1
  go_wp2_with fail
  rw [rounds_succ]
  go_wp2_with fail
  refine Calls.mono (take_y hx4 ⟨#[40]⟩ [40] 1 rfl rfl (by decide) H40.out) ?_
  rintro e5 w5 ⟨rfl, hx5, hkn⟩
  have hk5 := hk4.then hkn
  clear hkn
  go_wp2_with fail
  refine Calls.mono (test_any hx5) ?_
  intro e6 w6 hr
  rw [HTT.out] at hr
  obtain ⟨rfl, hkn⟩ := hr
  exact ⟨rfl, rp_err HS.out ⟨rfl, (hk5.mono hB).trans hkn⟩⟩
 | ok o =>
  cases o with
  | none =>
   rw [ht] at hs
   have HS := Lib.hid (show tkp.one f (C.p.cond f a) = .error (C.p.er 32 f) by rw [hs]; rfl)
   have HTT := Lib.hid ht
   clear hs ht
   have ix0 := ixqf88d5de7
   have ix1 := ixqf5b7cdf1
   have ix2 := ixq5a1d8712
   have ix3 := ixqb0458286
   have hgl := h.glob h.ok.lo
   have g0 : w.cell? ⟨5, 0, none⟩ = some (.string ⟨#[40, 63, 61]⟩) := hgl 0 _ rfl
   have g1 : w.cell? ⟨5, 1, none⟩ = some (.string ⟨#[40, 63, 33]⟩) := hgl 1 _ rfl
   have g2 : w.cell? ⟨5, 2, none⟩ = some (.string ⟨#[40, 63, 60, 61]⟩) := hgl 2 _ rfl
   have g3 : w.cell? ⟨5, 3, none⟩ = some (.string ⟨#[40, 63, 60, 33]⟩) := hgl 3 _ rfl
   clear hgl
   have tl := h.tl
   have hk0 := Kept.refl w.heap.size C.L w
   have hB := h.hb
   go_enter Tryz.func102, Tryz.ntmps102
   go_wp2_with fail
   clear g0 g1 g2 g3
   refine wp_loop_rounds 5 ?_
   rw [rounds_succ]
   go_wp2_with fail
   refine Calls.mono (has_any h ⟨#[40, 63, 61]⟩ (by decide)) ?_
   intro e1 w1 hr
   rw [show (⟨#[40, 63, 61]⟩ : ByteArray).data.toList = [40, 63, 61] from rfl, H0.out] at hr
   obtain ⟨rfl, hb1⟩ := hr
   have hx1 := h.below hb1
   have hk1 := hk0.then (Kept.of_below (L := C.L) hb1)
   clear hb1
   go_wp2_with fail
   rw [rounds_succ]
   go_wp2_with fail
   refine Calls.mono (has_any hx1 ⟨#[40, 63, 33]⟩ (by decide)) ?_
   intro e2 w2 hr
   rw [show (⟨#[40, 63, 33]⟩ : ByteArray).data.toList = [40, 63, 33] from rfl, H1.out] at hr
   obtain ⟨rfl, hb1⟩ := hr
   have hx2 := hx1.below hb1
   have hk2 := hk1.then (Kept.of_below (L := C.L) hb1)
   clear hb1
   go_wp2_with fail
   rw [rounds_succ]
   go_wp2_with fail
   refine Calls.mono (has_any hx2 ⟨#[40, 63, 60, 61]⟩ (by decide)) ?_
   intro e3 w3 hr
   rw [show (⟨#[40, 63, 60, 61]⟩ : ByteArray).data.toList = [40, 63, 60, 61] from rfl, H2.out] at hr
   obtain ⟨rfl, hb1⟩ := hr
   have hx3 := hx2.below hb1
   have hk3 := hk2.then (Kept.of_below (L := C.L) hb1)
   clear hb1
   go_wp2_with fail
   rw [rounds_succ]
   go_wp2_with fail
   refine Calls.mono (has_any hx3 ⟨#[40, 63, 60, 33]⟩ (by decide)) ?_
   intro e4 w4 hr
   rw [show (⟨#[40, 63, 60, 33]⟩ : ByteArray).data.toList = [40, 63, 60, 33] from rfl, H3.out] at hr
   obtain ⟨rfl, hb1⟩ := hr
   have hx4 := hx3.below hb1
   have hk4 := hk3.then (Kept.of_below (L := C.L) hb1)
   clear hb1
   go_wp2_with fail
   rw [rounds_succ]
   go_wp2_with fail
   refine Calls.mono (take_y hx4 ⟨#[40]⟩ [40] 1 rfl rfl (by decide) H40.out) ?_
   rintro e5 w5 ⟨rfl, hx5, hkn⟩
   have hk5 := hk4.then hkn
   clear hkn
   go_wp2_with fail
   refine Calls.mono (test_any hx5) ?_
   intro e6 w6 hr
   rw [HTT.out] at hr
   obtain ⟨t0, b0, v6, rfl, ho, hx6, hkn⟩ := hr
   obtain ⟨x6, y6, rfl⟩ := ownR_len ho
   have hk6 := hk5.then hkn
   have hbA := below_al w6 (.cells (tkR (.slice x6 t0.set.length y6) t0) 30)
   have hx7 := hx6.below hbA
   have hk7 := hk6.then (Kept.of_below (L := C.L) hbA)
   have HO7 : Hid (OwnR (w6.alloc (.cells (tkR (.slice x6 t0.set.length y6) t0) 30)) w5.heap.size (.slice x6 t0.set.length y6) t0.set) := Lib.hid ⟨World.ownsRow.alloc ho.1 _, ho.2⟩
   have hlt6 := hx6.cells.lt
   clear hkn ho hbA
   unfold tkR
   go_wp2_with fail
   refine Calls.mono (fail_any hx7 32) ?_
   rintro e19 w19 ⟨rfl, hkn⟩
   exact ⟨rfl, rp_err HS.out ⟨rfl, (hk7.mono hB).trans hkn⟩⟩
  | some r =>
   obtain ⟨⟨kd, at0, to0, c, set, neg, n, m, mode, name, on, off⟩, b⟩ := r
   rw [ht] at hs
   simp only at hs
   have HTT := Lib.hid ht
   clear ht
   cases h41 : C.p.has [41] b with
   | false =>
    have HS := Lib.hid (show tkp.one f (C.p.cond f a) = .error (C.p.er 32 f) by rw [hs, if_pos h41]; rfl)
    have H41 := Lib.hid h41
    clear hs h41
    have ix0 := ixqf88d5de7
    have ix1 := ixqf5b7cdf1
    have ix2 := ixq5a1d8712
    have ix3 := ixqb0458286
    have hgl := h.glob h.ok.lo
    have g0 : w.cell? ⟨5, 0, none⟩ = some (.string ⟨#[40, 63, 61]⟩) := hgl 0 _ rfl
    have g1 : w.cell? ⟨5, 1, none⟩ = some (.string ⟨#[40, 63, 33]⟩) := hgl 1 _ rfl
    have g2 : w.cell? ⟨5, 2, none⟩ = some (.string ⟨#[40, 63, 60, 61]⟩) := hgl 2 _ rfl
    have g3 : w.cell? ⟨5, 3, none⟩ = some (.string ⟨#[40, 63, 60, 33]⟩) := hgl 3 _ rfl
    clear hgl
    have tl := h.tl
    have hk0 := Kept.refl w.heap.size C.L w
    have hB := h.hb
    go_enter Tryz.func102, Tryz.ntmps102
    go_wp2_with fail
    clear g0 g1 g2 g3
    refine wp_loop_rounds 5 ?_
    rw [rounds_succ]
    go_wp2_with fail
    refine Calls.mono (has_any h ⟨#[40, 63, 61]⟩ (by decide)) ?_
    intro e1 w1 hr
    rw [show (⟨#[40, 63, 61]⟩ : ByteArray).data.toList = [40, 63, 61] from rfl, H0.out] at hr
    obtain ⟨rfl, hb1⟩ := hr
    have hx1 := h.below hb1
    have hk1 := hk0.then (Kept.of_below (L := C.L) hb1)
    clear hb1
    go_wp2_with fail
    rw [rounds_succ]
    go_wp2_with fail
    refine Calls.mono (has_any hx1 ⟨#[40, 63, 33]⟩ (by decide)) ?_
    intro e2 w2 hr
    rw [show (⟨#[40, 63, 33]⟩ : ByteArray).data.toList = [40, 63, 33] from rfl, H1.out] at hr
    obtain ⟨rfl, hb1⟩ := hr
    have hx2 := hx1.below hb1
    have hk2 := hk1.then (Kept.of_below (L := C.L) hb1)
    clear hb1
    go_wp2_with fail
    rw [rounds_succ]
    go_wp2_with fail
    refine Calls.mono (has_any hx2 ⟨#[40, 63, 60, 61]⟩ (by decide)) ?_
    intro e3 w3 hr
    rw [show (⟨#[40, 63, 60, 61]⟩ : ByteArray).data.toList = [40, 63, 60, 61] from rfl, H2.out] at hr
    obtain ⟨rfl, hb1⟩ := hr
    have hx3 := hx2.below hb1
    have hk3 := hk2.then (Kept.of_below (L := C.L) hb1)
    clear hb1
    go_wp2_with fail
    rw [rounds_succ]
    go_wp2_with fail
    refine Calls.mono (has_any hx3 ⟨#[40, 63, 60, 33]⟩ (by decide)) ?_
    intro e4 w4 hr
    rw [show (⟨#[40, 63, 60, 33]⟩ : ByteArray).data.toList = [40, 63, 60, 33] from rfl, H3.out] at hr
    obtain ⟨rfl, hb1⟩ := hr
    have hx4 := hx3.below hb1
    have hk4 := hk3.then (Kept.of_below (L := C.L) hb1)
    clear hb1
    go_wp2_with fail
    rw [rounds_succ]
    go_wp2_with fail
    refine Calls.mono (take_y hx4 ⟨#[40]⟩ [40] 1 rfl rfl (by decide) H40.out) ?_
    rintro e5 w5 ⟨rfl, hx5, hkn⟩
    have hk5 := hk4.then hkn
    clear hkn
    go_wp2_with fail
    refine Calls.mono (test_any hx5) ?_
    intro e6 w6 hr
    rw [HTT.out] at hr
    obtain ⟨v6, rfl, ho, hx6, hkn⟩ := hr
    obtain ⟨x6, y6, rfl⟩ := ownR_len ho
    have hk6 := hk5.then hkn
    have hbA := below_al w6 (.cells (tkR (.slice x6 set.length y6) (⟨kd, at0, to0, c, set, neg, n, m, mode, name, on, off⟩ : Tk)) 30)
    have hx7 := hx6.below hbA
    have hk7 := hk6.then (Kept.of_below (L := C.L) hbA)
    have HO7 : Hid (OwnR (w6.alloc (.cells (tkR (.slice x6 set.length y6) (⟨kd, at0, to0, c, set, neg, n, m, mode, name, on, off⟩ : Tk)) 30)) w5.heap.size (.slice x6 set.length y6) set) := Lib.hid ⟨World.ownsRow.alloc ho.1 _, ho.2⟩
    have hlt6 := hx6.cells.lt
    clear hkn ho hbA
    unfold tkR
    go_wp2_with fail
    refine Calls.mono (take_n hx7 ⟨#[41]⟩ [41] rfl (by decide) H41.out) ?_
    rintro e8 w8 ⟨rfl, hx8, hkn⟩
    have hk8 := hk7.then hkn
    clear hkn
    go_wp2_with fail
    refine Calls.mono (fail_any hx8 32) ?_
    rintro e19 w19 ⟨rfl, hkn⟩
    exact ⟨rfl, rp_err HS.out ⟨rfl, (hk8.mono hB).trans hkn⟩⟩
   | true =>
    rw [if_neg (by simp [h41])] at hs
    have H41 := Lib.hid h41
    clear h41
    by_cases hn : n = 9
    ·subst hn
     by_cases hmo : mode = 0
     ·subst hmo
      have HS := Lib.hid (show tkp.one f (C.p.cond f a) = .error (C.p.er 25 f) by rw [hs, if_pos ⟨rfl, rfl⟩]; rfl)
      clear hs
      have ix0 := ixqf88d5de7
      have ix1 := ixqf5b7cdf1
      have ix2 := ixq5a1d8712
      have ix3 := ixqb0458286
      have hgl := h.glob h.ok.lo
      have g0 : w.cell? ⟨5, 0, none⟩ = some (.string ⟨#[40, 63, 61]⟩) := hgl 0 _ rfl
      have g1 : w.cell? ⟨5, 1, none⟩ = some (.string ⟨#[40, 63, 33]⟩) := hgl 1 _ rfl
      have g2 : w.cell? ⟨5, 2, none⟩ = some (.string ⟨#[40, 63, 60, 61]⟩) := hgl 2 _ rfl
      have g3 : w.cell? ⟨5, 3, none⟩ = some (.string ⟨#[40, 63, 60, 33]⟩) := hgl 3 _ rfl
      clear hgl
      have tl := h.tl
      have hk0 := Kept.refl w.heap.size C.L w
      have hB := h.hb
      go_enter Tryz.func102, Tryz.ntmps102
      go_wp2_with fail
      clear g0 g1 g2 g3
      refine wp_loop_rounds 5 ?_
      rw [rounds_succ]
      go_wp2_with fail
      refine Calls.mono (has_any h ⟨#[40, 63, 61]⟩ (by decide)) ?_
      intro e1 w1 hr
      rw [show (⟨#[40, 63, 61]⟩ : ByteArray).data.toList = [40, 63, 61] from rfl, H0.out] at hr
      obtain ⟨rfl, hb1⟩ := hr
      have hx1 := h.below hb1
      have hk1 := hk0.then (Kept.of_below (L := C.L) hb1)
      clear hb1
      go_wp2_with fail
      rw [rounds_succ]
      go_wp2_with fail
      refine Calls.mono (has_any hx1 ⟨#[40, 63, 33]⟩ (by decide)) ?_
      intro e2 w2 hr
      rw [show (⟨#[40, 63, 33]⟩ : ByteArray).data.toList = [40, 63, 33] from rfl, H1.out] at hr
      obtain ⟨rfl, hb1⟩ := hr
      have hx2 := hx1.below hb1
      have hk2 := hk1.then (Kept.of_below (L := C.L) hb1)
      clear hb1
      go_wp2_with fail
      rw [rounds_succ]
      go_wp2_with fail
      refine Calls.mono (has_any hx2 ⟨#[40, 63, 60, 61]⟩ (by decide)) ?_
      intro e3 w3 hr
      rw [show (⟨#[40, 63, 60, 61]⟩ : ByteArray).data.toList = [40, 63, 60, 61] from rfl, H2.out] at hr
      obtain ⟨rfl, hb1⟩ := hr
      have hx3 := hx2.below hb1
      have hk3 := hk2.then (Kept.of_below (L := C.L) hb1)
      clear hb1
      go_wp2_with fail
      rw [rounds_succ]
      go_wp2_with fail
      refine Calls.mono (has_any hx3 ⟨#[40, 63, 60, 33]⟩ (by decide)) ?_
      intro e4 w4 hr
      rw [show (⟨#[40, 63, 60, 33]⟩ : ByteArray).data.toList = [40, 63, 60, 33] from rfl, H3.out] at hr
      obtain ⟨rfl, hb1⟩ := hr
      have hx4 := hx3.below hb1
      have hk4 := hk3.then (Kept.of_below (L := C.L) hb1)
      clear hb1
      go_wp2_with fail
      rw [rounds_succ]
      go_wp2_with fail
      refine Calls.mono (take_y hx4 ⟨#[40]⟩ [40] 1 rfl rfl (by decide) H40.out) ?_
      rintro e5 w5 ⟨rfl, hx5, hkn⟩
      have hk5 := hk4.then hkn
      clear hkn
      go_wp2_with fail
      refine Calls.mono (test_any hx5) ?_
      intro e6 w6 hr
      rw [HTT.out] at hr
      obtain ⟨v6, rfl, ho, hx6, hkn⟩ := hr
      obtain ⟨x6, y6, rfl⟩ := ownR_len ho
      have hk6 := hk5.then hkn
      have hbA := below_al w6 (.cells (tkR (.slice x6 set.length y6) (⟨kd, at0, to0, c, set, neg, 9, m, 0, name, on, off⟩ : Tk)) 30)
      have hx7 := hx6.below hbA
      have hk7 := hk6.then (Kept.of_below (L := C.L) hbA)
      have HO7 : Hid (OwnR (w6.alloc (.cells (tkR (.slice x6 set.length y6) (⟨kd, at0, to0, c, set, neg, 9, m, 0, name, on, off⟩ : Tk)) 30)) w5.heap.size (.slice x6 set.length y6) set) := Lib.hid ⟨World.ownsRow.alloc ho.1 _, ho.2⟩
      have hlt6 := hx6.cells.lt
      clear hkn ho hbA
      unfold tkR
      go_wp2_with fail
      have tl7 := hx7.tl
      refine Calls.mono (take_y hx7 ⟨#[41]⟩ [41] 1 rfl rfl (by decide) H41.out) ?_
      rintro e8 w8 ⟨rfl, hx8, hkn⟩
      have hk8 := hk7.then hkn
      have HO8 := Lib.hid (ownR_kept HO7.out hkn (by have := hk5.size; have := h.cells.lt; omega))
      have HG8 := Lib.hid ((hkn.block w6.heap.size (by rw [World.size_alloc]; omega) (by omega)).trans (heap_alloc_new w6 _))
      have c6 : w8.cell? ⟨w6.heap.size, 6, none⟩ = some (.int .i64 9) := by simp [World.cell?, HG8.out, tkR]
      have c8 : w8.cell? ⟨w6.heap.size, 8, none⟩ = some (.int .i64 0) := by simp [World.cell?, HG8.out, tkR]
      clear hkn
      go_wp2_with fail
      refine Calls.mono (fail_any hx8 25) ?_
      rintro e19 w19 ⟨rfl, hkn⟩
      exact ⟨rfl, rp_err HS.out ⟨rfl, (hk8.mono hB).trans hkn⟩⟩
     ·have hb0 : (mode == 0) = false := by simpa using hmo
      have HS := Lib.hid (show tkp.one f (C.p.cond f a) = .ok ([lay (⟨kd, at0, to0, c, set, neg, 9, m, mode, name, on, off⟩ : Tk) f (b + 1)], b + 1) by rw [hs, if_neg (by simp [hmo])]; rfl)
      clear hs hmo
      have ix0 := ixqf88d5de7
      have ix1 := ixqf5b7cdf1
      have ix2 := ixq5a1d8712
      have ix3 := ixqb0458286
      have hgl := h.glob h.ok.lo
      have g0 : w.cell? ⟨5, 0, none⟩ = some (.string ⟨#[40, 63, 61]⟩) := hgl 0 _ rfl
      have g1 : w.cell? ⟨5, 1, none⟩ = some (.string ⟨#[40, 63, 33]⟩) := hgl 1 _ rfl
      have g2 : w.cell? ⟨5, 2, none⟩ = some (.string ⟨#[40, 63, 60, 61]⟩) := hgl 2 _ rfl
      have g3 : w.cell? ⟨5, 3, none⟩ = some (.string ⟨#[40, 63, 60, 33]⟩) := hgl 3 _ rfl
      clear hgl
      have tl := h.tl
      have hk0 := Kept.refl w.heap.size C.L w
      have hB := h.hb
      go_enter Tryz.func102, Tryz.ntmps102
      go_wp2_with fail
      clear g0 g1 g2 g3
      refine wp_loop_rounds 5 ?_
      rw [rounds_succ]
      go_wp2_with fail
      refine Calls.mono (has_any h ⟨#[40, 63, 61]⟩ (by decide)) ?_
      intro e1 w1 hr
      rw [show (⟨#[40, 63, 61]⟩ : ByteArray).data.toList = [40, 63, 61] from rfl, H0.out] at hr
      obtain ⟨rfl, hb1⟩ := hr
      have hx1 := h.below hb1
      have hk1 := hk0.then (Kept.of_below (L := C.L) hb1)
      clear hb1
      go_wp2_with fail
      rw [rounds_succ]
      go_wp2_with fail
      refine Calls.mono (has_any hx1 ⟨#[40, 63, 33]⟩ (by decide)) ?_
      intro e2 w2 hr
      rw [show (⟨#[40, 63, 33]⟩ : ByteArray).data.toList = [40, 63, 33] from rfl, H1.out] at hr
      obtain ⟨rfl, hb1⟩ := hr
      have hx2 := hx1.below hb1
      have hk2 := hk1.then (Kept.of_below (L := C.L) hb1)
      clear hb1
      go_wp2_with fail
      rw [rounds_succ]
      go_wp2_with fail
      refine Calls.mono (has_any hx2 ⟨#[40, 63, 60, 61]⟩ (by decide)) ?_
      intro e3 w3 hr
      rw [show (⟨#[40, 63, 60, 61]⟩ : ByteArray).data.toList = [40, 63, 60, 61] from rfl, H2.out] at hr
      obtain ⟨rfl, hb1⟩ := hr
      have hx3 := hx2.below hb1
      have hk3 := hk2.then (Kept.of_below (L := C.L) hb1)
      clear hb1
      go_wp2_with fail
      rw [rounds_succ]
      go_wp2_with fail
      refine Calls.mono (has_any hx3 ⟨#[40, 63, 60, 33]⟩ (by decide)) ?_
      intro e4 w4 hr
      rw [show (⟨#[40, 63, 60, 33]⟩ : ByteArray).data.toList = [40, 63, 60, 33] from rfl, H3.out] at hr
      obtain ⟨rfl, hb1⟩ := hr
      have hx4 := hx3.below hb1
      have hk4 := hk3.then (Kept.of_below (L := C.L) hb1)
      clear hb1
      go_wp2_with fail
      rw [rounds_succ]
      go_wp2_with fail
      refine Calls.mono (take_y hx4 ⟨#[40]⟩ [40] 1 rfl rfl (by decide) H40.out) ?_
      rintro e5 w5 ⟨rfl, hx5, hkn⟩
      have hk5 := hk4.then hkn
      clear hkn
      go_wp2_with fail
      refine Calls.mono (test_any hx5) ?_
      intro e6 w6 hr
      rw [HTT.out] at hr
      obtain ⟨v6, rfl, ho, hx6, hkn⟩ := hr
      obtain ⟨x6, y6, rfl⟩ := ownR_len ho
      have hk6 := hk5.then hkn
      have hbA := below_al w6 (.cells (tkR (.slice x6 set.length y6) (⟨kd, at0, to0, c, set, neg, 9, m, mode, name, on, off⟩ : Tk)) 30)
      have hx7 := hx6.below hbA
      have hk7 := hk6.then (Kept.of_below (L := C.L) hbA)
      have HO7 : Hid (OwnR (w6.alloc (.cells (tkR (.slice x6 set.length y6) (⟨kd, at0, to0, c, set, neg, 9, m, mode, name, on, off⟩ : Tk)) 30)) w5.heap.size (.slice x6 set.length y6) set) := Lib.hid ⟨World.ownsRow.alloc ho.1 _, ho.2⟩
      have hlt6 := hx6.cells.lt
      clear hkn ho hbA
      unfold tkR
      go_wp2_with fail
      have tl7 := hx7.tl
      refine Calls.mono (take_y hx7 ⟨#[41]⟩ [41] 1 rfl rfl (by decide) H41.out) ?_
      rintro e8 w8 ⟨rfl, hx8, hkn⟩
      have hk8 := hk7.then hkn
      have HO8 := Lib.hid (ownR_kept HO7.out hkn (by have := hk5.size; have := h.cells.lt; omega))
      have HG8 := Lib.hid ((hkn.block w6.heap.size (by rw [World.size_alloc]; omega) (by omega)).trans (heap_alloc_new w6 _))
      have c6 : w8.cell? ⟨w6.heap.size, 6, none⟩ = some (.int .i64 9) := by simp [World.cell?, HG8.out, tkR]
      have c8 : w8.cell? ⟨w6.heap.size, 8, none⟩ = some (.int .i64 mode) := by simp [World.cell?, HG8.out, tkR]
      clear hkn
      go_wp2_with (refine wpList_load_tok rfl _ rfl w6.heap.size rfl (tkR (.slice x6 set.length y6) (⟨kd, at0, to0, c, set, neg, 9, m, mode, name, on, off⟩ : Tk)) HG8.out rfl ?_)
      refine Calls.mono (put_any hx8 (.slice x6 set.length y6) (⟨kd, at0, to0, c, set, neg, 9, m, mode, name, on, off⟩ : Tk) (ownR_base HO8.out (Nat.le_trans hB hk5.size)) (by omega)) ?_
      intro e18 w18 hr
      have HP := Lib.hid (ptOk_put hr (hk8.mono hB))
      obtain ⟨rfl, _, _⟩ := hr
      go_wp2_with fail
      go_end0
      exact rp_ok HS.out HP.out
    ·have hb9 : (n == 9) = false := by simpa using hn
     have HS := Lib.hid (show tkp.one f (C.p.cond f a) = .ok ([lay (⟨kd, at0, to0, c, set, neg, n, m, mode, name, on, off⟩ : Tk) f (b + 1)], b + 1) by rw [hs, if_neg (by simp [hn])]; rfl)
     clear hs hn
     have ix0 := ixqf88d5de7
     have ix1 := ixqf5b7cdf1
     have ix2 := ixq5a1d8712
     have ix3 := ixqb0458286
     have hgl := h.glob h.ok.lo
     have g0 : w.cell? ⟨5, 0, none⟩ = some (.string ⟨#[40, 63, 61]⟩) := hgl 0 _ rfl
     have g1 : w.cell? ⟨5, 1, none⟩ = some (.string ⟨#[40, 63, 33]⟩) := hgl 1 _ rfl
     have g2 : w.cell? ⟨5, 2, none⟩ = some (.string ⟨#[40, 63, 60, 61]⟩) := hgl 2 _ rfl
     have g3 : w.cell? ⟨5, 3, none⟩ = some (.string ⟨#[40, 63, 60, 33]⟩) := hgl 3 _ rfl
     clear hgl
     have tl := h.tl
     have hk0 := Kept.refl w.heap.size C.L w
     have hB := h.hb
     go_enter Tryz.func102, Tryz.ntmps102
     go_wp2_with fail
     clear g0 g1 g2 g3
     refine wp_loop_rounds 5 ?_
     rw [rounds_succ]
     go_wp2_with fail
     refine Calls.mono (has_any h ⟨#[40, 63, 61]⟩ (by decide)) ?_
     intro e1 w1 hr
     rw [show (⟨#[40, 63, 61]⟩ : ByteArray).data.toList = [40, 63, 61] from rfl, H0.out] at hr
     obtain ⟨rfl, hb1⟩ := hr
     have hx1 := h.below hb1
     have hk1 := hk0.then (Kept.of_below (L := C.L) hb1)
     clear hb1
     go_wp2_with fail
     rw [rounds_succ]
     go_wp2_with fail
     refine Calls.mono (has_any hx1 ⟨#[40, 63, 33]⟩ (by decide)) ?_
     intro e2 w2 hr
     rw [show (⟨#[40, 63, 33]⟩ : ByteArray).data.toList = [40, 63, 33] from rfl, H1.out] at hr
     obtain ⟨rfl, hb1⟩ := hr
     have hx2 := hx1.below hb1
     have hk2 := hk1.then (Kept.of_below (L := C.L) hb1)
     clear hb1
     go_wp2_with fail
     rw [rounds_succ]
     go_wp2_with fail
     refine Calls.mono (has_any hx2 ⟨#[40, 63, 60, 61]⟩ (by decide)) ?_
     intro e3 w3 hr
     rw [show (⟨#[40, 63, 60, 61]⟩ : ByteArray).data.toList = [40, 63, 60, 61] from rfl, H2.out] at hr
     obtain ⟨rfl, hb1⟩ := hr
     have hx3 := hx2.below hb1
     have hk3 := hk2.then (Kept.of_below (L := C.L) hb1)
     clear hb1
     go_wp2_with fail
     rw [rounds_succ]
     go_wp2_with fail
     refine Calls.mono (has_any hx3 ⟨#[40, 63, 60, 33]⟩ (by decide)) ?_
     intro e4 w4 hr
     rw [show (⟨#[40, 63, 60, 33]⟩ : ByteArray).data.toList = [40, 63, 60, 33] from rfl, H3.out] at hr
     obtain ⟨rfl, hb1⟩ := hr
     have hx4 := hx3.below hb1
     have hk4 := hk3.then (Kept.of_below (L := C.L) hb1)
     clear hb1
     go_wp2_with fail
     rw [rounds_succ]
     go_wp2_with fail
     refine Calls.mono (take_y hx4 ⟨#[40]⟩ [40] 1 rfl rfl (by decide) H40.out) ?_
     rintro e5 w5 ⟨rfl, hx5, hkn⟩
     have hk5 := hk4.then hkn
     clear hkn
     go_wp2_with fail
     refine Calls.mono (test_any hx5) ?_
     intro e6 w6 hr
     rw [HTT.out] at hr
     obtain ⟨v6, rfl, ho, hx6, hkn⟩ := hr
     obtain ⟨x6, y6, rfl⟩ := ownR_len ho
     have hk6 := hk5.then hkn
     have hbA := below_al w6 (.cells (tkR (.slice x6 set.length y6) (⟨kd, at0, to0, c, set, neg, n, m, mode, name, on, off⟩ : Tk)) 30)
     have hx7 := hx6.below hbA
     have hk7 := hk6.then (Kept.of_below (L := C.L) hbA)
     have HO7 : Hid (OwnR (w6.alloc (.cells (tkR (.slice x6 set.length y6) (⟨kd, at0, to0, c, set, neg, n, m, mode, name, on, off⟩ : Tk)) 30)) w5.heap.size (.slice x6 set.length y6) set) := Lib.hid ⟨World.ownsRow.alloc ho.1 _, ho.2⟩
     have hlt6 := hx6.cells.lt
     clear hkn ho hbA
     unfold tkR
     go_wp2_with fail
     have tl7 := hx7.tl
     refine Calls.mono (take_y hx7 ⟨#[41]⟩ [41] 1 rfl rfl (by decide) H41.out) ?_
     rintro e8 w8 ⟨rfl, hx8, hkn⟩
     have hk8 := hk7.then hkn
     have HO8 := Lib.hid (ownR_kept HO7.out hkn (by have := hk5.size; have := h.cells.lt; omega))
     have HG8 := Lib.hid ((hkn.block w6.heap.size (by rw [World.size_alloc]; omega) (by omega)).trans (heap_alloc_new w6 _))
     have c6 : w8.cell? ⟨w6.heap.size, 6, none⟩ = some (.int .i64 n) := by simp [World.cell?, HG8.out, tkR]
     have c8 : w8.cell? ⟨w6.heap.size, 8, none⟩ = some (.int .i64 mode) := by simp [World.cell?, HG8.out, tkR]
     clear hkn
     go_wp2_with (refine wpList_load_tok rfl _ rfl w6.heap.size rfl (tkR (.slice x6 set.length y6) (⟨kd, at0, to0, c, set, neg, n, m, mode, name, on, off⟩ : Tk)) HG8.out rfl ?_)
     refine Calls.mono (put_any hx8 (.slice x6 set.length y6) (⟨kd, at0, to0, c, set, neg, n, m, mode, name, on, off⟩ : Tk) (ownR_base HO8.out (Nat.le_trans hB hk5.size)) (by omega)) ?_
     intro e18 w18 hr
     have HP := Lib.hid (ptOk_put hr (hk8.mono hB))
     obtain ⟨rfl, _, _⟩ := hr
     go_wp2_with fail
     go_end0
     exact rp_ok HS.out HP.out
theorem cond_any (h : LX C w a f T) (hT : T.length + 1 ≤ a) (h40 : C.p.has [40] a = true) : Calls Tryz.prog 102 #[.pointer (some ⟨C.L, 0, none⟩)] w (RP C w (tkp.one f (C.p.cond f a)) (PtOk C w T)) := by
 cases h0 : C.p.has [40, 63, 61] a with
 | true => exact cond_0 h hT h0
 | false =>
  cases h1 : C.p.has [40, 63, 33] a with
  | true => exact cond_1 h hT h0 h1
  | false =>
   cases h2 : C.p.has [40, 63, 60, 61] a with
   | true => exact cond_2 h hT h0 h1 h2
   | false =>
    cases h3 : C.p.has [40, 63, 60, 33] a with
    | true => exact cond_3 h hT h0 h1 h2 h3
    | false =>
     exact cond_4 h hT h0 h1 h2 h3 h40
end Go.Proofs.YtkcmjcgjfjfimaaGreatDoor.tkw
end
