/- T -/
import Derived.Test.YtkcmjcgjfjfimaaGreatDoorBBl04
section
namespace Go.Proofs.YtkcmjcgjfjfimaaGreatDoor.tkw
open Go Go.RowKit Go.Maps utfp utfw ucdp setp setw prp tkp
variable {C : Cf} {w : World} {a f : Nat} {T : Rw}
def VeAt (w : World) : Prop := ∃ ty fr, w.heap[2]? = some (.cells #[.string ⟨#[65, 67, 67, 69, 80, 84]⟩, .int .i64 1, .int .i64 0, .string ⟨#[70, 65, 73, 76]⟩, .int .i64 2, .int .i64 0, .string ⟨#[70]⟩, .int .i64 2, .int .i64 0, .string ⟨#[67, 79, 77, 77, 73, 84]⟩, .int .i64 3, .int .i64 1, .string ⟨#[80, 82, 85, 78, 69]⟩, .int .i64 4, .int .i64 1, .string ⟨#[83, 75, 73, 80]⟩, .int .i64 5, .int .i64 1, .string ⟨#[84, 72, 69, 78]⟩, .int .i64 6, .int .i64 1, .string ⟨#[77, 65, 82, 75]⟩, .int .i64 7, .int .i64 2, .string ⟨#[]⟩, .int .i64 7, .int .i64 2] ty fr)
theorem veAt_of (h : LX C w a f T) (hve : VeAt C.w0) : VeAt w := by
 obtain ⟨ty, fr, e⟩ := hve
 refine ⟨ty, fr, (h.old.block _ ?_).trans e⟩
 rcases Nat.lt_or_ge 2 C.w0.heap.size with hh | hh
 ·exact hh
 ·rw [Array.getElem?_eq_none hh] at e
  cases e
theorem word_n {s : ByteArray} {l : List UInt8} (h : ¬ s = ⟨l.toArray⟩) : (s.toList == l) = false := by
 have e : (⟨l.toArray⟩ : ByteArray).toList = l := by rw [Lib.toList_data]
 have := prw.beqS s ⟨l.toArray⟩
 rw [e] at this
 rw [this]
 simpa using h
theorem word_y {s : ByteArray} {l : List UInt8} (h : s = ⟨l.toArray⟩) : (s.toList == l) = true := by
 have e : (⟨l.toArray⟩ : ByteArray).toList = l := by rw [Lib.toList_data]
 have := prw.beqS s ⟨l.toArray⟩
 rw [e] at this
 rw [this]
 simpa using h
theorem bz560 (w : World) : Below w.heap.size w (w.alloc (.cells #[.string ⟨#[65, 67, 67, 69, 80, 84]⟩, .int .i64 1, .int .i64 0] 117)) := below_al w _
theorem kz560 {L : Nat} (w : World) : Kept w.heap.size L w (w.alloc (.cells #[.string ⟨#[65, 67, 67, 69, 80, 84]⟩, .int .i64 1, .int .i64 0] 117)) := Kept.of_below (below_al w _)
theorem bz561 (w : World) : Below w.heap.size w (w.alloc (.cells #[.string ⟨#[70, 65, 73, 76]⟩, .int .i64 2, .int .i64 0] 117)) := below_al w _
theorem kz561 {L : Nat} (w : World) : Kept w.heap.size L w (w.alloc (.cells #[.string ⟨#[70, 65, 73, 76]⟩, .int .i64 2, .int .i64 0] 117)) := Kept.of_below (below_al w _)
theorem bz562 (w : World) : Below w.heap.size w (w.alloc (.cells #[.string ⟨#[70]⟩, .int .i64 2, .int .i64 0] 117)) := below_al w _
theorem kz562 {L : Nat} (w : World) : Kept w.heap.size L w (w.alloc (.cells #[.string ⟨#[70]⟩, .int .i64 2, .int .i64 0] 117)) := Kept.of_below (below_al w _)
theorem bz563 (w : World) : Below w.heap.size w (w.alloc (.cells #[.string ⟨#[67, 79, 77, 77, 73, 84]⟩, .int .i64 3, .int .i64 1] 117)) := below_al w _
theorem kz563 {L : Nat} (w : World) : Kept w.heap.size L w (w.alloc (.cells #[.string ⟨#[67, 79, 77, 77, 73, 84]⟩, .int .i64 3, .int .i64 1] 117)) := Kept.of_below (below_al w _)
theorem bz564 (w : World) : Below w.heap.size w (w.alloc (.cells #[.string ⟨#[80, 82, 85, 78, 69]⟩, .int .i64 4, .int .i64 1] 117)) := below_al w _
theorem kz564 {L : Nat} (w : World) : Kept w.heap.size L w (w.alloc (.cells #[.string ⟨#[80, 82, 85, 78, 69]⟩, .int .i64 4, .int .i64 1] 117)) := Kept.of_below (below_al w _)
theorem bz565 (w : World) : Below w.heap.size w (w.alloc (.cells #[.string ⟨#[83, 75, 73, 80]⟩, .int .i64 5, .int .i64 1] 117)) := below_al w _
theorem kz565 {L : Nat} (w : World) : Kept w.heap.size L w (w.alloc (.cells #[.string ⟨#[83, 75, 73, 80]⟩, .int .i64 5, .int .i64 1] 117)) := Kept.of_below (below_al w _)
theorem bz566 (w : World) : Below w.heap.size w (w.alloc (.cells #[.string ⟨#[84, 72, 69, 78]⟩, .int .i64 6, .int .i64 1] 117)) := below_al w _
theorem kz566 {L : Nat} (w : World) : Kept w.heap.size L w (w.alloc (.cells #[.string ⟨#[84, 72, 69, 78]⟩, .int .i64 6, .int .i64 1] 117)) := Kept.of_below (below_al w _)
theorem bz567 (w : World) : Below w.heap.size w (w.alloc (.cells #[.string ⟨#[77, 65, 82, 75]⟩, .int .i64 7, .int .i64 2] 117)) := below_al w _
theorem kz567 {L : Nat} (w : World) : Kept w.heap.size L w (w.alloc (.cells #[.string ⟨#[77, 65, 82, 75]⟩, .int .i64 7, .int .i64 2] 117)) := Kept.of_below (below_al w _)
theorem bz568 (w : World) : Below w.heap.size w (w.alloc (.cells #[.string ⟨#[]⟩, .int .i64 7, .int .i64 2] 117)) := below_al w _
theorem kz568 {L : Nat} (w : World) : Kept w.heap.size L w (w.alloc (.cells #[.string ⟨#[]⟩, .int .i64 7, .int .i64 2] 117)) := Kept.of_below (below_al w _)
theorem wn0 {s : ByteArray} (h : ¬ s = ⟨#[]⟩) : (s.toList == []) = false := word_n h
theorem wn1 {s : ByteArray} (h : ¬ s = ⟨#[65, 67, 67, 69, 80, 84]⟩) : (s.toList == [65, 67, 67, 69, 80, 84]) = false := word_n h
theorem wn2 {s : ByteArray} (h : ¬ s = ⟨#[70, 65, 73, 76]⟩) : (s.toList == [70, 65, 73, 76]) = false := word_n h
theorem wn3 {s : ByteArray} (h : ¬ s = ⟨#[70]⟩) : (s.toList == [70]) = false := word_n h
theorem wn4 {s : ByteArray} (h : ¬ s = ⟨#[67, 79, 77, 77, 73, 84]⟩) : (s.toList == [67, 79, 77, 77, 73, 84]) = false := word_n h
theorem wn5 {s : ByteArray} (h : ¬ s = ⟨#[80, 82, 85, 78, 69]⟩) : (s.toList == [80, 82, 85, 78, 69]) = false := word_n h
theorem wn6 {s : ByteArray} (h : ¬ s = ⟨#[83, 75, 73, 80]⟩) : (s.toList == [83, 75, 73, 80]) = false := word_n h
theorem wn7 {s : ByteArray} (h : ¬ s = ⟨#[84, 72, 69, 78]⟩) : (s.toList == [84, 72, 69, 78]) = false := word_n h
theorem wn8 {s : ByteArray} (h : ¬ s = ⟨#[77, 65, 82, 75]⟩) : (s.toList == [77, 65, 82, 75]) = false := word_n h
theorem emp_n {s : ByteArray} (h : ¬ s = ⟨#[]⟩) : s.toList.isEmpty = false := by
 have := wn0 h
 cases hs : s.toList with
 | nil => rw [hs] at this; exact absurd this (by decide)
 | cons x l => rfl
theorem emp_y {s : ByteArray} (h : s = ⟨#[]⟩) : s.toList.isEmpty = true := by
 subst h
 rw [show (⟨#[]⟩ : ByteArray).toList = [] from Lib.toList_data _]
 rfl
theorem vix_0 : ∀ u, (Instr.index 118 (.agg #[.string ⟨#[65, 67, 67, 69, 80, 84]⟩, .int .i64 1, .int .i64 0, .string ⟨#[70, 65, 73, 76]⟩, .int .i64 2, .int .i64 0, .string ⟨#[70]⟩, .int .i64 2, .int .i64 0, .string ⟨#[67, 79, 77, 77, 73, 84]⟩, .int .i64 3, .int .i64 1, .string ⟨#[80, 82, 85, 78, 69]⟩, .int .i64 4, .int .i64 1, .string ⟨#[83, 75, 73, 80]⟩, .int .i64 5, .int .i64 1, .string ⟨#[84, 72, 69, 78]⟩, .int .i64 6, .int .i64 1, .string ⟨#[77, 65, 82, 75]⟩, .int .i64 7, .int .i64 2, .string ⟨#[]⟩, .int .i64 7, .int .i64 2]) (.int .i64 0)).run Tryz.prog u = .ok (.agg #[.string ⟨#[65, 67, 67, 69, 80, 84]⟩, .int .i64 1, .int .i64 0]) u := fun u => by kernel_rfl
theorem vix_1 : ∀ u, (Instr.index 118 (.agg #[.string ⟨#[65, 67, 67, 69, 80, 84]⟩, .int .i64 1, .int .i64 0, .string ⟨#[70, 65, 73, 76]⟩, .int .i64 2, .int .i64 0, .string ⟨#[70]⟩, .int .i64 2, .int .i64 0, .string ⟨#[67, 79, 77, 77, 73, 84]⟩, .int .i64 3, .int .i64 1, .string ⟨#[80, 82, 85, 78, 69]⟩, .int .i64 4, .int .i64 1, .string ⟨#[83, 75, 73, 80]⟩, .int .i64 5, .int .i64 1, .string ⟨#[84, 72, 69, 78]⟩, .int .i64 6, .int .i64 1, .string ⟨#[77, 65, 82, 75]⟩, .int .i64 7, .int .i64 2, .string ⟨#[]⟩, .int .i64 7, .int .i64 2]) (.int .i64 1)).run Tryz.prog u = .ok (.agg #[.string ⟨#[70, 65, 73, 76]⟩, .int .i64 2, .int .i64 0]) u := fun u => by kernel_rfl
theorem vix_2 : ∀ u, (Instr.index 118 (.agg #[.string ⟨#[65, 67, 67, 69, 80, 84]⟩, .int .i64 1, .int .i64 0, .string ⟨#[70, 65, 73, 76]⟩, .int .i64 2, .int .i64 0, .string ⟨#[70]⟩, .int .i64 2, .int .i64 0, .string ⟨#[67, 79, 77, 77, 73, 84]⟩, .int .i64 3, .int .i64 1, .string ⟨#[80, 82, 85, 78, 69]⟩, .int .i64 4, .int .i64 1, .string ⟨#[83, 75, 73, 80]⟩, .int .i64 5, .int .i64 1, .string ⟨#[84, 72, 69, 78]⟩, .int .i64 6, .int .i64 1, .string ⟨#[77, 65, 82, 75]⟩, .int .i64 7, .int .i64 2, .string ⟨#[]⟩, .int .i64 7, .int .i64 2]) (.int .i64 2)).run Tryz.prog u = .ok (.agg #[.string ⟨#[70]⟩, .int .i64 2, .int .i64 0]) u := fun u => by kernel_rfl
theorem vix_3 : ∀ u, (Instr.index 118 (.agg #[.string ⟨#[65, 67, 67, 69, 80, 84]⟩, .int .i64 1, .int .i64 0, .string ⟨#[70, 65, 73, 76]⟩, .int .i64 2, .int .i64 0, .string ⟨#[70]⟩, .int .i64 2, .int .i64 0, .string ⟨#[67, 79, 77, 77, 73, 84]⟩, .int .i64 3, .int .i64 1, .string ⟨#[80, 82, 85, 78, 69]⟩, .int .i64 4, .int .i64 1, .string ⟨#[83, 75, 73, 80]⟩, .int .i64 5, .int .i64 1, .string ⟨#[84, 72, 69, 78]⟩, .int .i64 6, .int .i64 1, .string ⟨#[77, 65, 82, 75]⟩, .int .i64 7, .int .i64 2, .string ⟨#[]⟩, .int .i64 7, .int .i64 2]) (.int .i64 3)).run Tryz.prog u = .ok (.agg #[.string ⟨#[67, 79, 77, 77, 73, 84]⟩, .int .i64 3, .int .i64 1]) u := fun u => by kernel_rfl
theorem vix_4 : ∀ u, (Instr.index 118 (.agg #[.string ⟨#[65, 67, 67, 69, 80, 84]⟩, .int .i64 1, .int .i64 0, .string ⟨#[70, 65, 73, 76]⟩, .int .i64 2, .int .i64 0, .string ⟨#[70]⟩, .int .i64 2, .int .i64 0, .string ⟨#[67, 79, 77, 77, 73, 84]⟩, .int .i64 3, .int .i64 1, .string ⟨#[80, 82, 85, 78, 69]⟩, .int .i64 4, .int .i64 1, .string ⟨#[83, 75, 73, 80]⟩, .int .i64 5, .int .i64 1, .string ⟨#[84, 72, 69, 78]⟩, .int .i64 6, .int .i64 1, .string ⟨#[77, 65, 82, 75]⟩, .int .i64 7, .int .i64 2, .string ⟨#[]⟩, .int .i64 7, .int .i64 2]) (.int .i64 4)).run Tryz.prog u = .ok (.agg #[.string ⟨#[80, 82, 85, 78, 69]⟩, .int .i64 4, .int .i64 1]) u := fun u => by kernel_rfl
theorem vix_5 : ∀ u, (Instr.index 118 (.agg #[.string ⟨#[65, 67, 67, 69, 80, 84]⟩, .int .i64 1, .int .i64 0, .string ⟨#[70, 65, 73, 76]⟩, .int .i64 2, .int .i64 0, .string ⟨#[70]⟩, .int .i64 2, .int .i64 0, .string ⟨#[67, 79, 77, 77, 73, 84]⟩, .int .i64 3, .int .i64 1, .string ⟨#[80, 82, 85, 78, 69]⟩, .int .i64 4, .int .i64 1, .string ⟨#[83, 75, 73, 80]⟩, .int .i64 5, .int .i64 1, .string ⟨#[84, 72, 69, 78]⟩, .int .i64 6, .int .i64 1, .string ⟨#[77, 65, 82, 75]⟩, .int .i64 7, .int .i64 2, .string ⟨#[]⟩, .int .i64 7, .int .i64 2]) (.int .i64 5)).run Tryz.prog u = .ok (.agg #[.string ⟨#[83, 75, 73, 80]⟩, .int .i64 5, .int .i64 1]) u := fun u => by kernel_rfl
theorem vix_6 : ∀ u, (Instr.index 118 (.agg #[.string ⟨#[65, 67, 67, 69, 80, 84]⟩, .int .i64 1, .int .i64 0, .string ⟨#[70, 65, 73, 76]⟩, .int .i64 2, .int .i64 0, .string ⟨#[70]⟩, .int .i64 2, .int .i64 0, .string ⟨#[67, 79, 77, 77, 73, 84]⟩, .int .i64 3, .int .i64 1, .string ⟨#[80, 82, 85, 78, 69]⟩, .int .i64 4, .int .i64 1, .string ⟨#[83, 75, 73, 80]⟩, .int .i64 5, .int .i64 1, .string ⟨#[84, 72, 69, 78]⟩, .int .i64 6, .int .i64 1, .string ⟨#[77, 65, 82, 75]⟩, .int .i64 7, .int .i64 2, .string ⟨#[]⟩, .int .i64 7, .int .i64 2]) (.int .i64 6)).run Tryz.prog u = .ok (.agg #[.string ⟨#[84, 72, 69, 78]⟩, .int .i64 6, .int .i64 1]) u := fun u => by kernel_rfl
theorem vix_7 : ∀ u, (Instr.index 118 (.agg #[.string ⟨#[65, 67, 67, 69, 80, 84]⟩, .int .i64 1, .int .i64 0, .string ⟨#[70, 65, 73, 76]⟩, .int .i64 2, .int .i64 0, .string ⟨#[70]⟩, .int .i64 2, .int .i64 0, .string ⟨#[67, 79, 77, 77, 73, 84]⟩, .int .i64 3, .int .i64 1, .string ⟨#[80, 82, 85, 78, 69]⟩, .int .i64 4, .int .i64 1, .string ⟨#[83, 75, 73, 80]⟩, .int .i64 5, .int .i64 1, .string ⟨#[84, 72, 69, 78]⟩, .int .i64 6, .int .i64 1, .string ⟨#[77, 65, 82, 75]⟩, .int .i64 7, .int .i64 2, .string ⟨#[]⟩, .int .i64 7, .int .i64 2]) (.int .i64 7)).run Tryz.prog u = .ok (.agg #[.string ⟨#[77, 65, 82, 75]⟩, .int .i64 7, .int .i64 2]) u := fun u => by kernel_rfl
theorem vix_8 : ∀ u, (Instr.index 118 (.agg #[.string ⟨#[65, 67, 67, 69, 80, 84]⟩, .int .i64 1, .int .i64 0, .string ⟨#[70, 65, 73, 76]⟩, .int .i64 2, .int .i64 0, .string ⟨#[70]⟩, .int .i64 2, .int .i64 0, .string ⟨#[67, 79, 77, 77, 73, 84]⟩, .int .i64 3, .int .i64 1, .string ⟨#[80, 82, 85, 78, 69]⟩, .int .i64 4, .int .i64 1, .string ⟨#[83, 75, 73, 80]⟩, .int .i64 5, .int .i64 1, .string ⟨#[84, 72, 69, 78]⟩, .int .i64 6, .int .i64 1, .string ⟨#[77, 65, 82, 75]⟩, .int .i64 7, .int .i64 2, .string ⟨#[]⟩, .int .i64 7, .int .i64 2]) (.int .i64 8)).run Tryz.prog u = .ok (.agg #[.string ⟨#[]⟩, .int .i64 7, .int .i64 2]) u := fun u => by kernel_rfl
set_option maxRecDepth 100000 in
set_option maxHeartbeats 4000000 in
theorem verb_0_u (h : LX C w a f T) (hve : VeAt C.w0) {i : Nat} (hu : C.p.until 41 a = some i) (hf : C.p.find 58 (i - a) a = none) (n0 : (C.p.sub a i) = ⟨#[65, 67, 67, 69, 80, 84]⟩) : Calls Tryz.prog 73 #[.pointer (some ⟨C.L, 0, none⟩)] w (RP C w (tkp.one f (C.p.verb f a)) (PtOk C w T)) := by
 have hvf : verbF (C.p.sub a i) ⟨#[]⟩ false verbsT = some 1 := by unfold verbsT; rw [verbF, if_pos n0]; simp
 have hs : C.p.verb f a = .ok ({ kind := 13, n := 1, name := ⟨#[]⟩ }, i + 1) := by
  unfold Pt.verb
  simp only [hu, hf]
  rw [show ((none : Option Nat).isSome) = false from rfl, hvf]
 have HS := Lib.hid (show tkp.one f (C.p.verb f a) = .ok ([lay { kind := 13, n := 1, name := ⟨#[]⟩ } f (i + 1)], i + 1) by rw [hs]; rfl)
 have bd := find_bd hu
 have hn := h.ok.n
 have tl := h.tl
 have an := h.an
 have hg := h.sl.1
 obtain ⟨wd, hwd⟩ : ∃ wd, (C.p.sub a i) = wd := ⟨_, rfl⟩
 rw [hwd] at n0
 have b0 := word_y (l := [65, 67, 67, 69, 80, 84]) n0
 have HWD := Lib.hid hwd
 have HU := Lib.hid hu
 have HF := Lib.hid hf
 clear hs hu hf hvf hwd n0
 have ix0 := vix_0
 have hk0 := Kept.refl w.heap.size C.L w
 have hB := h.hb
 go_enter Tryz.func73, Tryz.ntmps73
 go_wp2_with fail
 refine Calls.mono (until_any h 41) ?_
 intro e1 w1 hr
 rw [show ((41 : UInt8).toNat : Int) = 41 from rfl, HU.out] at hr
 obtain ⟨rfl, hx1, hkn⟩ := hr
 have hk1 := hk0.then hkn
 clear hkn
 go_wp2_with fail
 refine Calls.mono (cutStr_any hg a i 58 w1 (by omega)) ?_
 intro e2 w2 hr
 rw [show ((58 : UInt8).toNat : Int) = 58 from rfl, HF.out] at hr
 obtain ⟨⟨q2, rfl⟩, he2⟩ := hr
 simp only at he2
 subst he2
 have hx2 := hx1.drewN q2
 have hk2 := hk1.drewN q2
 generalize w1.drewN q2 = w2 at *
 rw [HWD.out]
 obtain ⟨ty, fr, hve2⟩ := veAt_of hx2 hve
 go_wp2_with (refine wpList_load_row rfl 118 _ rfl 2 rfl ty _ fr _ hve2 Tryz.underlying118 rfl (by kernel_rfl) ?_)
 clear hve2
 refine wp_loop_rounds 10 ?_
 rw [rounds_succ]
 go_wp2_with fail
 have hx3 := hx2.below (bz560 _)
 have hk3 := hk2.then (kz560 _)
 refine Calls.mono (put_any hx3 (.slice none 0 0) { kind := 13, n := 1, name := ⟨#[]⟩ } (ownR_nil _ _) (by omega)) ?_
 intro e18 w18 hr
 have HPP := Lib.hid (ptOk_put hr (hk3.mono hB))
 obtain ⟨rfl, _, _⟩ := hr
 go_wp2_with fail
 go_end0
 exact rp_ok HS.out HPP.out
set_option maxRecDepth 100000 in
set_option maxHeartbeats 4000000 in
theorem verb_0_n (h : LX C w a f T) (hve : VeAt C.w0) {i : Nat} (hu : C.p.until 41 a = some i) {j : Nat} (hf : C.p.find 58 (i - a) a = some j) (n0 : (C.p.sub a j) = ⟨#[65, 67, 67, 69, 80, 84]⟩) : Calls Tryz.prog 73 #[.pointer (some ⟨C.L, 0, none⟩)] w (RP C w (tkp.one f (C.p.verb f a)) (PtOk C w T)) := by
 have hvf : verbF (C.p.sub a j) (C.p.sub (j + 1) i) true verbsT = none := by unfold verbsT; rw [verbF, if_pos n0]; simp
 have hs : C.p.verb f a = .error (28, (f : Int)) := by
  unfold Pt.verb
  simp only [hu, hf]
  rw [show ((some j : Option Nat).isSome) = true from rfl, hvf]
 have HS := Lib.hid (show tkp.one f (C.p.verb f a) = .error (C.p.er 28 f) by rw [hs]; rfl)
 have bd := find_bd hu
 have hn := h.ok.n
 have tl := h.tl
 have an := h.an
 have hg := h.sl.1
 obtain ⟨wd, hwd⟩ : ∃ wd, (C.p.sub a j) = wd := ⟨_, rfl⟩
 rw [hwd] at n0
 have b0 := word_y (l := [65, 67, 67, 69, 80, 84]) n0
 obtain ⟨nm, hnm⟩ : ∃ nm, C.p.sub (j + 1) i = nm := ⟨_, rfl⟩
 have HNM := Lib.hid hnm
 have HWD := Lib.hid hwd
 have HU := Lib.hid hu
 have HF := Lib.hid hf
 clear hs hu hf hvf hwd n0 hnm
 have ix0 := vix_0
 have hk0 := Kept.refl w.heap.size C.L w
 have hB := h.hb
 go_enter Tryz.func73, Tryz.ntmps73
 go_wp2_with fail
 refine Calls.mono (until_any h 41) ?_
 intro e1 w1 hr
 rw [show ((41 : UInt8).toNat : Int) = 41 from rfl, HU.out] at hr
 obtain ⟨rfl, hx1, hkn⟩ := hr
 have hk1 := hk0.then hkn
 clear hkn
 go_wp2_with fail
 refine Calls.mono (cutStr_any hg a i 58 w1 (by omega)) ?_
 intro e2 w2 hr
 rw [show ((58 : UInt8).toNat : Int) = 58 from rfl, HF.out] at hr
 obtain ⟨⟨q2, rfl⟩, he2⟩ := hr
 simp only at he2
 subst he2
 have hx2 := hx1.drewN q2
 have hk2 := hk1.drewN q2
 generalize w1.drewN q2 = w2 at *
 rw [HWD.out]
 rw [HNM.out]
 obtain ⟨ty, fr, hve2⟩ := veAt_of hx2 hve
 go_wp2_with (refine wpList_load_row rfl 118 _ rfl 2 rfl ty _ fr _ hve2 Tryz.underlying118 rfl (by kernel_rfl) ?_)
 clear hve2
 refine wp_loop_rounds 10 ?_
 rw [rounds_succ]
 go_wp2_with fail
 have hx3 := hx2.below (bz560 _)
 have hk3 := hk2.then (kz560 _)
 refine Calls.mono (fail_any hx3 28) ?_
 rintro e19 w19 ⟨rfl, hkn⟩
 exact ⟨rfl, rp_err HS.out ⟨rfl, (hk3.mono hB).trans hkn⟩⟩
set_option maxRecDepth 100000 in
set_option maxHeartbeats 4000000 in
theorem verb_1_u (h : LX C w a f T) (hve : VeAt C.w0) {i : Nat} (hu : C.p.until 41 a = some i) (hf : C.p.find 58 (i - a) a = none) (n0 : ¬ (C.p.sub a i) = ⟨#[65, 67, 67, 69, 80, 84]⟩) (n1 : (C.p.sub a i) = ⟨#[70, 65, 73, 76]⟩) : Calls Tryz.prog 73 #[.pointer (some ⟨C.L, 0, none⟩)] w (RP C w (tkp.one f (C.p.verb f a)) (PtOk C w T)) := by
 have hvf : verbF (C.p.sub a i) ⟨#[]⟩ false verbsT = some 2 := by unfold verbsT; rw [verbF, if_neg n0]; rw [verbF, if_pos n1]; simp
 have hs : C.p.verb f a = .ok ({ kind := 13, n := 2, name := ⟨#[]⟩ }, i + 1) := by
  unfold Pt.verb
  simp only [hu, hf]
  rw [show ((none : Option Nat).isSome) = false from rfl, hvf]
 have HS := Lib.hid (show tkp.one f (C.p.verb f a) = .ok ([lay { kind := 13, n := 2, name := ⟨#[]⟩ } f (i + 1)], i + 1) by rw [hs]; rfl)
 have bd := find_bd hu
 have hn := h.ok.n
 have tl := h.tl
 have an := h.an
 have hg := h.sl.1
 obtain ⟨wd, hwd⟩ : ∃ wd, (C.p.sub a i) = wd := ⟨_, rfl⟩
 rw [hwd] at n0 n1
 have b0 := wn1 n0
 have b1 := word_y (l := [70, 65, 73, 76]) n1
 have HWD := Lib.hid hwd
 have HU := Lib.hid hu
 have HF := Lib.hid hf
 clear hs hu hf hvf hwd n0 n1
 have ix0 := vix_0
 have ix1 := vix_1
 have hk0 := Kept.refl w.heap.size C.L w
 have hB := h.hb
 go_enter Tryz.func73, Tryz.ntmps73
 go_wp2_with fail
 refine Calls.mono (until_any h 41) ?_
 intro e1 w1 hr
 rw [show ((41 : UInt8).toNat : Int) = 41 from rfl, HU.out] at hr
 obtain ⟨rfl, hx1, hkn⟩ := hr
 have hk1 := hk0.then hkn
 clear hkn
 go_wp2_with fail
 refine Calls.mono (cutStr_any hg a i 58 w1 (by omega)) ?_
 intro e2 w2 hr
 rw [show ((58 : UInt8).toNat : Int) = 58 from rfl, HF.out] at hr
 obtain ⟨⟨q2, rfl⟩, he2⟩ := hr
 simp only at he2
 subst he2
 have hx2 := hx1.drewN q2
 have hk2 := hk1.drewN q2
 generalize w1.drewN q2 = w2 at *
 rw [HWD.out]
 obtain ⟨ty, fr, hve2⟩ := veAt_of hx2 hve
 go_wp2_with (refine wpList_load_row rfl 118 _ rfl 2 rfl ty _ fr _ hve2 Tryz.underlying118 rfl (by kernel_rfl) ?_)
 clear hve2
 refine wp_loop_rounds 10 ?_
 rw [rounds_succ]
 go_wp2_with fail
 rw [rounds_succ]
 go_wp2_with fail
 have hx3 := hx2.below (bz560 _)
 have hk3 := hk2.then (kz560 _)
 have hx4 := hx3.below (bz561 _)
 have hk4 := hk3.then (kz561 _)
 refine Calls.mono (put_any hx4 (.slice none 0 0) { kind := 13, n := 2, name := ⟨#[]⟩ } (ownR_nil _ _) (by omega)) ?_
 intro e18 w18 hr
 have HPP := Lib.hid (ptOk_put hr (hk4.mono hB))
 obtain ⟨rfl, _, _⟩ := hr
 go_wp2_with fail
 go_end0
 exact rp_ok HS.out HPP.out
set_option maxRecDepth 100000 in
set_option maxHeartbeats 4000000 in
theorem verb_1_n (h : LX C w a f T) (hve : VeAt C.w0) {i : Nat} (hu : C.p.until 41 a = some i) {j : Nat} (hf : C.p.find 58 (i - a) a = some j) (n0 : ¬ (C.p.sub a j) = ⟨#[65, 67, 67, 69, 80, 84]⟩) (n1 : (C.p.sub a j) = ⟨#[70, 65, 73, 76]⟩) : Calls Tryz.prog 73 #[.pointer (some ⟨C.L, 0, none⟩)] w (RP C w (tkp.one f (C.p.verb f a)) (PtOk C w T)) := by
 have hvf : verbF (C.p.sub a j) (C.p.sub (j + 1) i) true verbsT = none := by unfold verbsT; rw [verbF, if_neg n0]; rw [verbF, if_pos n1]; simp
 have hs : C.p.verb f a = .error (28, (f : Int)) := by
  unfold Pt.verb
  simp only [hu, hf]
  rw [show ((some j : Option Nat).isSome) = true from rfl, hvf]
 have HS := Lib.hid (show tkp.one f (C.p.verb f a) = .error (C.p.er 28 f) by rw [hs]; rfl)
 have bd := find_bd hu
 have hn := h.ok.n
 have tl := h.tl
 have an := h.an
 have hg := h.sl.1
 obtain ⟨wd, hwd⟩ : ∃ wd, (C.p.sub a j) = wd := ⟨_, rfl⟩
 rw [hwd] at n0 n1
 have b0 := wn1 n0
 have b1 := word_y (l := [70, 65, 73, 76]) n1
 obtain ⟨nm, hnm⟩ : ∃ nm, C.p.sub (j + 1) i = nm := ⟨_, rfl⟩
 have HNM := Lib.hid hnm
 have HWD := Lib.hid hwd
 have HU := Lib.hid hu
 have HF := Lib.hid hf
 clear hs hu hf hvf hwd n0 n1 hnm
 have ix0 := vix_0
 have ix1 := vix_1
 have hk0 := Kept.refl w.heap.size C.L w
 have hB := h.hb
 go_enter Tryz.func73, Tryz.ntmps73
 go_wp2_with fail
 refine Calls.mono (until_any h 41) ?_
 intro e1 w1 hr
 rw [show ((41 : UInt8).toNat : Int) = 41 from rfl, HU.out] at hr
 obtain ⟨rfl, hx1, hkn⟩ := hr
 have hk1 := hk0.then hkn
 clear hkn
 go_wp2_with fail
 refine Calls.mono (cutStr_any hg a i 58 w1 (by omega)) ?_
 intro e2 w2 hr
 rw [show ((58 : UInt8).toNat : Int) = 58 from rfl, HF.out] at hr
 obtain ⟨⟨q2, rfl⟩, he2⟩ := hr
 simp only at he2
 subst he2
 have hx2 := hx1.drewN q2
 have hk2 := hk1.drewN q2
 generalize w1.drewN q2 = w2 at *
 rw [HWD.out]
 rw [HNM.out]
 obtain ⟨ty, fr, hve2⟩ := veAt_of hx2 hve
 go_wp2_with (refine wpList_load_row rfl 118 _ rfl 2 rfl ty _ fr _ hve2 Tryz.underlying118 rfl (by kernel_rfl) ?_)
 clear hve2
 refine wp_loop_rounds 10 ?_
 rw [rounds_succ]
 go_wp2_with fail
 rw [rounds_succ]
 go_wp2_with fail
 have hx3 := hx2.below (bz560 _)
 have hk3 := hk2.then (kz560 _)
 have hx4 := hx3.below (bz561 _)
 have hk4 := hk3.then (kz561 _)
 refine Calls.mono (fail_any hx4 28) ?_
 rintro e19 w19 ⟨rfl, hkn⟩
 exact ⟨rfl, rp_err HS.out ⟨rfl, (hk4.mono hB).trans hkn⟩⟩
set_option maxRecDepth 100000 in
set_option maxHeartbeats 4000000 in
theorem verb_2_u (h : LX C w a f T) (hve : VeAt C.w0) {i : Nat} (hu : C.p.until 41 a = some i) (hf : C.p.find 58 (i - a) a = none) (n0 : ¬ (C.p.sub a i) = ⟨#[65, 67, 67, 69, 80, 84]⟩) (n1 : ¬ (C.p.sub a i) = ⟨#[70, 65, 73, 76]⟩) (n2 : (C.p.sub a i) = ⟨#[70]⟩) : Calls Tryz.prog 73 #[.pointer (some ⟨C.L, 0, none⟩)] w (RP C w (tkp.one f (C.p.verb f a)) (PtOk C w T)) := by
 have hvf : verbF (C.p.sub a i) ⟨#[]⟩ false verbsT = some 2 := by unfold verbsT; rw [verbF, if_neg n0]; rw [verbF, if_neg n1]; rw [verbF, if_pos n2]; simp
 have hs : C.p.verb f a = .ok ({ kind := 13, n := 2, name := ⟨#[]⟩ }, i + 1) := by
  unfold Pt.verb
  simp only [hu, hf]
  rw [show ((none : Option Nat).isSome) = false from rfl, hvf]
 have HS := Lib.hid (show tkp.one f (C.p.verb f a) = .ok ([lay { kind := 13, n := 2, name := ⟨#[]⟩ } f (i + 1)], i + 1) by rw [hs]; rfl)
 have bd := find_bd hu
 have hn := h.ok.n
 have tl := h.tl
 have an := h.an
 have hg := h.sl.1
 obtain ⟨wd, hwd⟩ : ∃ wd, (C.p.sub a i) = wd := ⟨_, rfl⟩
 rw [hwd] at n0 n1 n2
 have b0 := wn1 n0
 have b1 := wn2 n1
 have b2 := word_y (l := [70]) n2
 have HWD := Lib.hid hwd
 have HU := Lib.hid hu
 have HF := Lib.hid hf
 clear hs hu hf hvf hwd n0 n1 n2
 have ix0 := vix_0
 have ix1 := vix_1
 have ix2 := vix_2
 have hk0 := Kept.refl w.heap.size C.L w
 have hB := h.hb
 go_enter Tryz.func73, Tryz.ntmps73
 go_wp2_with fail
 refine Calls.mono (until_any h 41) ?_
 intro e1 w1 hr
 rw [show ((41 : UInt8).toNat : Int) = 41 from rfl, HU.out] at hr
 obtain ⟨rfl, hx1, hkn⟩ := hr
 have hk1 := hk0.then hkn
 clear hkn
 go_wp2_with fail
 refine Calls.mono (cutStr_any hg a i 58 w1 (by omega)) ?_
 intro e2 w2 hr
 rw [show ((58 : UInt8).toNat : Int) = 58 from rfl, HF.out] at hr
 obtain ⟨⟨q2, rfl⟩, he2⟩ := hr
 simp only at he2
 subst he2
 have hx2 := hx1.drewN q2
 have hk2 := hk1.drewN q2
 generalize w1.drewN q2 = w2 at *
 rw [HWD.out]
 obtain ⟨ty, fr, hve2⟩ := veAt_of hx2 hve
 go_wp2_with (refine wpList_load_row rfl 118 _ rfl 2 rfl ty _ fr _ hve2 Tryz.underlying118 rfl (by kernel_rfl) ?_)
 clear hve2
 refine wp_loop_rounds 10 ?_
 iterate 3 (rw [rounds_succ]; go_wp2_with fail)
 have hx3 := hx2.below (bz560 _)
 have hk3 := hk2.then (kz560 _)
 have hx4 := hx3.below (bz561 _)
 have hk4 := hk3.then (kz561 _)
 have hx5 := hx4.below (bz562 _)
 have hk5 := hk4.then (kz562 _)
 refine Calls.mono (put_any hx5 (.slice none 0 0) { kind := 13, n := 2, name := ⟨#[]⟩ } (ownR_nil _ _) (by omega)) ?_
 intro e18 w18 hr
 have HPP := Lib.hid (ptOk_put hr (hk5.mono hB))
 obtain ⟨rfl, _, _⟩ := hr
 go_wp2_with fail
 go_end0
 exact rp_ok HS.out HPP.out
set_option maxRecDepth 100000 in
set_option maxHeartbeats 4000000 in
theorem verb_2_n (h : LX C w a f T) (hve : VeAt C.w0) {i : Nat} (hu : C.p.until 41 a = some i) {j : Nat} (hf : C.p.find 58 (i - a) a = some j) (n0 : ¬ (C.p.sub a j) = ⟨#[65, 67, 67, 69, 80, 84]⟩) (n1 : ¬ (C.p.sub a j) = ⟨#[70, 65, 73, 76]⟩) (n2 : (C.p.sub a j) = ⟨#[70]⟩) : Calls Tryz.prog 73 #[.pointer (some ⟨C.L, 0, none⟩)] w (RP C w (tkp.one f (C.p.verb f a)) (PtOk C w T)) := by
 have hvf : verbF (C.p.sub a j) (C.p.sub (j + 1) i) true verbsT = none := by unfold verbsT; rw [verbF, if_neg n0]; rw [verbF, if_neg n1]; rw [verbF, if_pos n2]; simp
 have hs : C.p.verb f a = .error (28, (f : Int)) := by
  unfold Pt.verb
  simp only [hu, hf]
  rw [show ((some j : Option Nat).isSome) = true from rfl, hvf]
 have HS := Lib.hid (show tkp.one f (C.p.verb f a) = .error (C.p.er 28 f) by rw [hs]; rfl)
 have bd := find_bd hu
 have hn := h.ok.n
 have tl := h.tl
 have an := h.an
 have hg := h.sl.1
 obtain ⟨wd, hwd⟩ : ∃ wd, (C.p.sub a j) = wd := ⟨_, rfl⟩
 rw [hwd] at n0 n1 n2
 have b0 := wn1 n0
 have b1 := wn2 n1
 have b2 := word_y (l := [70]) n2
 obtain ⟨nm, hnm⟩ : ∃ nm, C.p.sub (j + 1) i = nm := ⟨_, rfl⟩
 have HNM := Lib.hid hnm
 have HWD := Lib.hid hwd
 have HU := Lib.hid hu
 have HF := Lib.hid hf
 clear hs hu hf hvf hwd n0 n1 n2 hnm
 have ix0 := vix_0
 have ix1 := vix_1
 have ix2 := vix_2
 have hk0 := Kept.refl w.heap.size C.L w
 have hB := h.hb
 go_enter Tryz.func73, Tryz.ntmps73
 go_wp2_with fail
 refine Calls.mono (until_any h 41) ?_
 intro e1 w1 hr
 rw [show ((41 : UInt8).toNat : Int) = 41 from rfl, HU.out] at hr
 obtain ⟨rfl, hx1, hkn⟩ := hr
 have hk1 := hk0.then hkn
 clear hkn
 go_wp2_with fail
 refine Calls.mono (cutStr_any hg a i 58 w1 (by omega)) ?_
 intro e2 w2 hr
 rw [show ((58 : UInt8).toNat : Int) = 58 from rfl, HF.out] at hr
 obtain ⟨⟨q2, rfl⟩, he2⟩ := hr
 simp only at he2
 subst he2
 have hx2 := hx1.drewN q2
 have hk2 := hk1.drewN q2
 generalize w1.drewN q2 = w2 at *
 rw [HWD.out]
 rw [HNM.out]
 obtain ⟨ty, fr, hve2⟩ := veAt_of hx2 hve
 go_wp2_with (refine wpList_load_row rfl 118 _ rfl 2 rfl ty _ fr _ hve2 Tryz.underlying118 rfl (by kernel_rfl) ?_)
 clear hve2
 refine wp_loop_rounds 10 ?_
 iterate 3 (rw [rounds_succ]; go_wp2_with fail)
 have hx3 := hx2.below (bz560 _)
 have hk3 := hk2.then (kz560 _)
 have hx4 := hx3.below (bz561 _)
 have hk4 := hk3.then (kz561 _)
 have hx5 := hx4.below (bz562 _)
 have hk5 := hk4.then (kz562 _)
 refine Calls.mono (fail_any hx5 28) ?_
 rintro e19 w19 ⟨rfl, hkn⟩
 exact ⟨rfl, rp_err HS.out ⟨rfl, (hk5.mono hB).trans hkn⟩⟩
set_option maxRecDepth 100000 in
set_option maxHeartbeats 4000000 in
theorem verb_3_u (h : LX C w a f T) (hve : VeAt C.w0) {i : Nat} (hu : C.p.until 41 a = some i) (hf : C.p.find 58 (i - a) a = none) (n0 : ¬ (C.p.sub a i) = ⟨#[65, 67, 67, 69, 80, 84]⟩) (n1 : ¬ (C.p.sub a i) = ⟨#[70, 65, 73, 76]⟩) (n2 : ¬ (C.p.sub a i) = ⟨#[70]⟩) (n3 : (C.p.sub a i) = ⟨#[67, 79, 77, 77, 73, 84]⟩) : Calls Tryz.prog 73 #[.pointer (some ⟨C.L, 0, none⟩)] w (RP C w (tkp.one f (C.p.verb f a)) (PtOk C w T)) := by
 have hvf : verbF (C.p.sub a i) ⟨#[]⟩ false verbsT = some 3 := by unfold verbsT; rw [verbF, if_neg n0]; rw [verbF, if_neg n1]; rw [verbF, if_neg n2]; rw [verbF, if_pos n3]; simp
 have hs : C.p.verb f a = .ok ({ kind := 13, n := 3, name := ⟨#[]⟩ }, i + 1) := by
  unfold Pt.verb
  simp only [hu, hf]
  rw [show ((none : Option Nat).isSome) = false from rfl, hvf]
 have HS := Lib.hid (show tkp.one f (C.p.verb f a) = .ok ([lay { kind := 13, n := 3, name := ⟨#[]⟩ } f (i + 1)], i + 1) by rw [hs]; rfl)
 have bd := find_bd hu
 have hn := h.ok.n
 have tl := h.tl
 have an := h.an
 have hg := h.sl.1
 obtain ⟨wd, hwd⟩ : ∃ wd, (C.p.sub a i) = wd := ⟨_, rfl⟩
 rw [hwd] at n0 n1 n2 n3
 have b0 := wn1 n0
 have b1 := wn2 n1
 have b2 := wn3 n2
 have b3 := word_y (l := [67, 79, 77, 77, 73, 84]) n3
 have HWD := Lib.hid hwd
 have HU := Lib.hid hu
 have HF := Lib.hid hf
 clear hs hu hf hvf hwd n0 n1 n2 n3
 have ix0 := vix_0
 have ix1 := vix_1
 have ix2 := vix_2
 have ix3 := vix_3
 have hk0 := Kept.refl w.heap.size C.L w
 have hB := h.hb
 go_enter Tryz.func73, Tryz.ntmps73
 go_wp2_with fail
 refine Calls.mono (until_any h 41) ?_
 intro e1 w1 hr
 rw [show ((41 : UInt8).toNat : Int) = 41 from rfl, HU.out] at hr
 obtain ⟨rfl, hx1, hkn⟩ := hr
 have hk1 := hk0.then hkn
 clear hkn
 go_wp2_with fail
 refine Calls.mono (cutStr_any hg a i 58 w1 (by omega)) ?_
 intro e2 w2 hr
 rw [show ((58 : UInt8).toNat : Int) = 58 from rfl, HF.out] at hr
 obtain ⟨⟨q2, rfl⟩, he2⟩ := hr
 simp only at he2
 subst he2
 have hx2 := hx1.drewN q2
 have hk2 := hk1.drewN q2
 generalize w1.drewN q2 = w2 at *
 rw [HWD.out]
 obtain ⟨ty, fr, hve2⟩ := veAt_of hx2 hve
 go_wp2_with (refine wpList_load_row rfl 118 _ rfl 2 rfl ty _ fr _ hve2 Tryz.underlying118 rfl (by kernel_rfl) ?_)
 clear hve2
 refine wp_loop_rounds 10 ?_
 iterate 4 (rw [rounds_succ]; go_wp2_with fail)
 have hx3 := hx2.below (bz560 _)
 have hk3 := hk2.then (kz560 _)
 have hx4 := hx3.below (bz561 _)
 have hk4 := hk3.then (kz561 _)
 have hx5 := hx4.below (bz562 _)
 have hk5 := hk4.then (kz562 _)
 have hx6 := hx5.below (bz563 _)
 have hk6 := hk5.then (kz563 _)
 refine Calls.mono (put_any hx6 (.slice none 0 0) { kind := 13, n := 3, name := ⟨#[]⟩ } (ownR_nil _ _) (by omega)) ?_
 intro e18 w18 hr
 have HPP := Lib.hid (ptOk_put hr (hk6.mono hB))
 obtain ⟨rfl, _, _⟩ := hr
 go_wp2_with fail
 go_end0
 exact rp_ok HS.out HPP.out
set_option maxRecDepth 100000 in
set_option maxHeartbeats 4000000 in
theorem verb_3_ne (h : LX C w a f T) (hve : VeAt C.w0) {i : Nat} (hu : C.p.until 41 a = some i) {j : Nat} (hf : C.p.find 58 (i - a) a = some j) (n0 : ¬ (C.p.sub a j) = ⟨#[65, 67, 67, 69, 80, 84]⟩) (n1 : ¬ (C.p.sub a j) = ⟨#[70, 65, 73, 76]⟩) (n2 : ¬ (C.p.sub a j) = ⟨#[70]⟩) (n3 : (C.p.sub a j) = ⟨#[67, 79, 77, 77, 73, 84]⟩) (he : C.p.sub (j + 1) i = ⟨#[]⟩) : Calls Tryz.prog 73 #[.pointer (some ⟨C.L, 0, none⟩)] w (RP C w (tkp.one f (C.p.verb f a)) (PtOk C w T)) := by
 have hvf : verbF (C.p.sub a j) (C.p.sub (j + 1) i) true verbsT = none := by unfold verbsT; rw [verbF, if_neg n0]; rw [verbF, if_neg n1]; rw [verbF, if_neg n2]; rw [verbF, if_pos n3]; simp [he]
 have hs : C.p.verb f a = .error (28, (f : Int)) := by
  unfold Pt.verb
  simp only [hu, hf]
  rw [show ((some j : Option Nat).isSome) = true from rfl, hvf]
 have HS := Lib.hid (show tkp.one f (C.p.verb f a) = .error (C.p.er 28 f) by rw [hs]; rfl)
 have bd := find_bd hu
 have hn := h.ok.n
 have tl := h.tl
 have an := h.an
 have hg := h.sl.1
 obtain ⟨wd, hwd⟩ : ∃ wd, (C.p.sub a j) = wd := ⟨_, rfl⟩
 rw [hwd] at n0 n1 n2 n3
 have b0 := wn1 n0
 have b1 := wn2 n1
 have b2 := wn3 n2
 have b3 := word_y (l := [67, 79, 77, 77, 73, 84]) n3
 obtain ⟨nm, hnm⟩ : ∃ nm, C.p.sub (j + 1) i = nm := ⟨_, rfl⟩
 have HNM := Lib.hid hnm
 rw [hnm] at he
 have c0 := word_y (l := []) he
 have c1 := emp_y he
 have HWD := Lib.hid hwd
 have HU := Lib.hid hu
 have HF := Lib.hid hf
 clear hs hu hf hvf hwd n0 n1 n2 n3 hnm he
 have ix0 := vix_0
 have ix1 := vix_1
 have ix2 := vix_2
 have ix3 := vix_3
 have hk0 := Kept.refl w.heap.size C.L w
 have hB := h.hb
 go_enter Tryz.func73, Tryz.ntmps73
 go_wp2_with fail
 refine Calls.mono (until_any h 41) ?_
 intro e1 w1 hr
 rw [show ((41 : UInt8).toNat : Int) = 41 from rfl, HU.out] at hr
 obtain ⟨rfl, hx1, hkn⟩ := hr
 have hk1 := hk0.then hkn
 clear hkn
 go_wp2_with fail
 refine Calls.mono (cutStr_any hg a i 58 w1 (by omega)) ?_
 intro e2 w2 hr
 rw [show ((58 : UInt8).toNat : Int) = 58 from rfl, HF.out] at hr
 obtain ⟨⟨q2, rfl⟩, he2⟩ := hr
 simp only at he2
 subst he2
 have hx2 := hx1.drewN q2
 have hk2 := hk1.drewN q2
 generalize w1.drewN q2 = w2 at *
 rw [HWD.out]
 rw [HNM.out]
 obtain ⟨ty, fr, hve2⟩ := veAt_of hx2 hve
 go_wp2_with (refine wpList_load_row rfl 118 _ rfl 2 rfl ty _ fr _ hve2 Tryz.underlying118 rfl (by kernel_rfl) ?_)
 clear hve2
 refine wp_loop_rounds 10 ?_
 iterate 4 (rw [rounds_succ]; go_wp2_with fail)
 have hx3 := hx2.below (bz560 _)
 have hk3 := hk2.then (kz560 _)
 have hx4 := hx3.below (bz561 _)
 have hk4 := hk3.then (kz561 _)
 have hx5 := hx4.below (bz562 _)
 have hk5 := hk4.then (kz562 _)
 have hx6 := hx5.below (bz563 _)
 have hk6 := hk5.then (kz563 _)
 refine Calls.mono (fail_any hx6 28) ?_
 rintro e19 w19 ⟨rfl, hkn⟩
 exact ⟨rfl, rp_err HS.out ⟨rfl, (hk6.mono hB).trans hkn⟩⟩
set_option maxRecDepth 100000 in
set_option maxHeartbeats 4000000 in
theorem verb_3_nx (h : LX C w a f T) (hve : VeAt C.w0) {i : Nat} (hu : C.p.until 41 a = some i) {j : Nat} (hf : C.p.find 58 (i - a) a = some j) (n0 : ¬ (C.p.sub a j) = ⟨#[65, 67, 67, 69, 80, 84]⟩) (n1 : ¬ (C.p.sub a j) = ⟨#[70, 65, 73, 76]⟩) (n2 : ¬ (C.p.sub a j) = ⟨#[70]⟩) (n3 : (C.p.sub a j) = ⟨#[67, 79, 77, 77, 73, 84]⟩) (he : ¬ C.p.sub (j + 1) i = ⟨#[]⟩) : Calls Tryz.prog 73 #[.pointer (some ⟨C.L, 0, none⟩)] w (RP C w (tkp.one f (C.p.verb f a)) (PtOk C w T)) := by
 have hvf : verbF (C.p.sub a j) (C.p.sub (j + 1) i) true verbsT = some 3 := by unfold verbsT; rw [verbF, if_neg n0]; rw [verbF, if_neg n1]; rw [verbF, if_neg n2]; rw [verbF, if_pos n3]; simp [he]
 have hs : C.p.verb f a = .ok ({ kind := 13, n := 3, name := (C.p.sub (j + 1) i) }, i + 1) := by
  unfold Pt.verb
  simp only [hu, hf]
  rw [show ((some j : Option Nat).isSome) = true from rfl, hvf]
 have HS := Lib.hid (show tkp.one f (C.p.verb f a) = .ok ([lay { kind := 13, n := 3, name := (C.p.sub (j + 1) i) } f (i + 1)], i + 1) by rw [hs]; rfl)
 have bd := find_bd hu
 have hn := h.ok.n
 have tl := h.tl
 have an := h.an
 have hg := h.sl.1
 obtain ⟨wd, hwd⟩ : ∃ wd, (C.p.sub a j) = wd := ⟨_, rfl⟩
 rw [hwd] at n0 n1 n2 n3
 have b0 := wn1 n0
 have b1 := wn2 n1
 have b2 := wn3 n2
 have b3 := word_y (l := [67, 79, 77, 77, 73, 84]) n3
 obtain ⟨nm, hnm⟩ : ∃ nm, C.p.sub (j + 1) i = nm := ⟨_, rfl⟩
 have HNM := Lib.hid hnm
 rw [hnm] at he
 have c0 := wn0 he
 have c1 := emp_n he
 have HWD := Lib.hid hwd
 have HU := Lib.hid hu
 have HF := Lib.hid hf
 clear hs hu hf hvf hwd n0 n1 n2 n3 hnm he
 have ix0 := vix_0
 have ix1 := vix_1
 have ix2 := vix_2
 have ix3 := vix_3
 have hk0 := Kept.refl w.heap.size C.L w
 have hB := h.hb
 go_enter Tryz.func73, Tryz.ntmps73
 go_wp2_with fail
 refine Calls.mono (until_any h 41) ?_
 intro e1 w1 hr
 rw [show ((41 : UInt8).toNat : Int) = 41 from rfl, HU.out] at hr
 obtain ⟨rfl, hx1, hkn⟩ := hr
 have hk1 := hk0.then hkn
 clear hkn
 go_wp2_with fail
 refine Calls.mono (cutStr_any hg a i 58 w1 (by omega)) ?_
 intro e2 w2 hr
 rw [show ((58 : UInt8).toNat : Int) = 58 from rfl, HF.out] at hr
 obtain ⟨⟨q2, rfl⟩, he2⟩ := hr
 simp only at he2
 subst he2
 have hx2 := hx1.drewN q2
 have hk2 := hk1.drewN q2
 generalize w1.drewN q2 = w2 at *
 rw [HWD.out]
 rw [HNM.out]
 obtain ⟨ty, fr, hve2⟩ := veAt_of hx2 hve
 go_wp2_with (refine wpList_load_row rfl 118 _ rfl 2 rfl ty _ fr _ hve2 Tryz.underlying118 rfl (by kernel_rfl) ?_)
 clear hve2
 refine wp_loop_rounds 10 ?_
 iterate 4 (rw [rounds_succ]; go_wp2_with fail)
 have hx3 := hx2.below (bz560 _)
 have hk3 := hk2.then (kz560 _)
 have hx4 := hx3.below (bz561 _)
 have hk4 := hk3.then (kz561 _)
 have hx5 := hx4.below (bz562 _)
 have hk5 := hk4.then (kz562 _)
 have hx6 := hx5.below (bz563 _)
 have hk6 := hk5.then (kz563 _)
 refine Calls.mono (put_any hx6 (.slice none 0 0) { kind := 13, n := 3, name := nm } (ownR_nil _ _) (by omega)) ?_
 intro e18 w18 hr
 have HPP := Lib.hid (ptOk_put hr (hk6.mono hB))
 obtain ⟨rfl, _, _⟩ := hr
 go_wp2_with fail
 go_end0
 rw [HNM.out] at HS
 exact rp_ok HS.out HPP.out
set_option maxRecDepth 100000 in
set_option maxHeartbeats 4000000 in
theorem verb_4_u (h : LX C w a f T) (hve : VeAt C.w0) {i : Nat} (hu : C.p.until 41 a = some i) (hf : C.p.find 58 (i - a) a = none) (n0 : ¬ (C.p.sub a i) = ⟨#[65, 67, 67, 69, 80, 84]⟩) (n1 : ¬ (C.p.sub a i) = ⟨#[70, 65, 73, 76]⟩) (n2 : ¬ (C.p.sub a i) = ⟨#[70]⟩) (n3 : ¬ (C.p.sub a i) = ⟨#[67, 79, 77, 77, 73, 84]⟩) (n4 : (C.p.sub a i) = ⟨#[80, 82, 85, 78, 69]⟩) : Calls Tryz.prog 73 #[.pointer (some ⟨C.L, 0, none⟩)] w (RP C w (tkp.one f (C.p.verb f a)) (PtOk C w T)) := by
 have hvf : verbF (C.p.sub a i) ⟨#[]⟩ false verbsT = some 4 := by unfold verbsT; rw [verbF, if_neg n0]; rw [verbF, if_neg n1]; rw [verbF, if_neg n2]; rw [verbF, if_neg n3]; rw [verbF, if_pos n4]; simp
 have hs : C.p.verb f a = .ok ({ kind := 13, n := 4, name := ⟨#[]⟩ }, i + 1) := by
  unfold Pt.verb
  simp only [hu, hf]
  rw [show ((none : Option Nat).isSome) = false from rfl, hvf]
 have HS := Lib.hid (show tkp.one f (C.p.verb f a) = .ok ([lay { kind := 13, n := 4, name := ⟨#[]⟩ } f (i + 1)], i + 1) by rw [hs]; rfl)
 have bd := find_bd hu
 have hn := h.ok.n
 have tl := h.tl
 have an := h.an
 have hg := h.sl.1
 obtain ⟨wd, hwd⟩ : ∃ wd, (C.p.sub a i) = wd := ⟨_, rfl⟩
 rw [hwd] at n0 n1 n2 n3 n4
 have b0 := wn1 n0
 have b1 := wn2 n1
 have b2 := wn3 n2
 have b3 := wn4 n3
 have b4 := word_y (l := [80, 82, 85, 78, 69]) n4
 have HWD := Lib.hid hwd
 have HU := Lib.hid hu
 have HF := Lib.hid hf
 clear hs hu hf hvf hwd n0 n1 n2 n3 n4
 have ix0 := vix_0
 have ix1 := vix_1
 have ix2 := vix_2
 have ix3 := vix_3
 have ix4 := vix_4
 have hk0 := Kept.refl w.heap.size C.L w
 have hB := h.hb
 go_enter Tryz.func73, Tryz.ntmps73
 go_wp2_with fail
 refine Calls.mono (until_any h 41) ?_
 intro e1 w1 hr
 rw [show ((41 : UInt8).toNat : Int) = 41 from rfl, HU.out] at hr
 obtain ⟨rfl, hx1, hkn⟩ := hr
 have hk1 := hk0.then hkn
 clear hkn
 go_wp2_with fail
 refine Calls.mono (cutStr_any hg a i 58 w1 (by omega)) ?_
 intro e2 w2 hr
 rw [show ((58 : UInt8).toNat : Int) = 58 from rfl, HF.out] at hr
 obtain ⟨⟨q2, rfl⟩, he2⟩ := hr
 simp only at he2
 subst he2
 have hx2 := hx1.drewN q2
 have hk2 := hk1.drewN q2
 generalize w1.drewN q2 = w2 at *
 rw [HWD.out]
 obtain ⟨ty, fr, hve2⟩ := veAt_of hx2 hve
 go_wp2_with (refine wpList_load_row rfl 118 _ rfl 2 rfl ty _ fr _ hve2 Tryz.underlying118 rfl (by kernel_rfl) ?_)
 clear hve2
 refine wp_loop_rounds 10 ?_
 iterate 5 (rw [rounds_succ]; go_wp2_with fail)
 have hx3 := hx2.below (bz560 _)
 have hk3 := hk2.then (kz560 _)
 have hx4 := hx3.below (bz561 _)
 have hk4 := hk3.then (kz561 _)
 have hx5 := hx4.below (bz562 _)
 have hk5 := hk4.then (kz562 _)
 have hx6 := hx5.below (bz563 _)
 have hk6 := hk5.then (kz563 _)
 have hx7 := hx6.below (bz564 _)
 have hk7 := hk6.then (kz564 _)
 refine Calls.mono (put_any hx7 (.slice none 0 0) { kind := 13, n := 4, name := ⟨#[]⟩ } (ownR_nil _ _) (by omega)) ?_
 intro e18 w18 hr
 have HPP := Lib.hid (ptOk_put hr (hk7.mono hB))
 obtain ⟨rfl, _, _⟩ := hr
 go_wp2_with fail
 go_end0
 exact rp_ok HS.out HPP.out
set_option maxRecDepth 100000 in
set_option maxHeartbeats 4000000 in
theorem verb_4_ne (h : LX C w a f T) (hve : VeAt C.w0) {i : Nat} (hu : C.p.until 41 a = some i) {j : Nat} (hf : C.p.find 58 (i - a) a = some j) (n0 : ¬ (C.p.sub a j) = ⟨#[65, 67, 67, 69, 80, 84]⟩) (n1 : ¬ (C.p.sub a j) = ⟨#[70, 65, 73, 76]⟩) (n2 : ¬ (C.p.sub a j) = ⟨#[70]⟩) (n3 : ¬ (C.p.sub a j) = ⟨#[67, 79, 77, 77, 73, 84]⟩) (n4 : (C.p.sub a j) = ⟨#[80, 82, 85, 78, 69]⟩) (he : C.p.sub (j + 1) i = ⟨#[]⟩) : Calls Tryz.prog 73 #[.pointer (some ⟨C.L, 0, none⟩)] w (RP C w (tkp.one f (C.p.verb f a)) (PtOk C w T)) := by
 have hvf : verbF (C.p.sub a j) (C.p.sub (j + 1) i) true verbsT = none := by unfold verbsT; rw [verbF, if_neg n0]; rw [verbF, if_neg n1]; rw [verbF, if_neg n2]; rw [verbF, if_neg n3]; rw [verbF, if_pos n4]; simp [he]
 have hs : C.p.verb f a = .error (28, (f : Int)) := by
  unfold Pt.verb
  simp only [hu, hf]
  rw [show ((some j : Option Nat).isSome) = true from rfl, hvf]
 have HS := Lib.hid (show tkp.one f (C.p.verb f a) = .error (C.p.er 28 f) by rw [hs]; rfl)
 have bd := find_bd hu
 have hn := h.ok.n
 have tl := h.tl
 have an := h.an
 have hg := h.sl.1
 obtain ⟨wd, hwd⟩ : ∃ wd, (C.p.sub a j) = wd := ⟨_, rfl⟩
 rw [hwd] at n0 n1 n2 n3 n4
 have b0 := wn1 n0
 have b1 := wn2 n1
 have b2 := wn3 n2
 have b3 := wn4 n3
 have b4 := word_y (l := [80, 82, 85, 78, 69]) n4
 obtain ⟨nm, hnm⟩ : ∃ nm, C.p.sub (j + 1) i = nm := ⟨_, rfl⟩
 have HNM := Lib.hid hnm
 rw [hnm] at he
 have c0 := word_y (l := []) he
 have c1 := emp_y he
 have HWD := Lib.hid hwd
 have HU := Lib.hid hu
 have HF := Lib.hid hf
 clear hs hu hf hvf hwd n0 n1 n2 n3 n4 hnm he
 have ix0 := vix_0
 have ix1 := vix_1
 have ix2 := vix_2
 have ix3 := vix_3
 have ix4 := vix_4
 have hk0 := Kept.refl w.heap.size C.L w
 have hB := h.hb
 go_enter Tryz.func73, Tryz.ntmps73
 go_wp2_with fail
 refine Calls.mono (until_any h 41) ?_
 intro e1 w1 hr
 rw [show ((41 : UInt8).toNat : Int) = 41 from rfl, HU.out] at hr
 obtain ⟨rfl, hx1, hkn⟩ := hr
 have hk1 := hk0.then hkn
 clear hkn
 go_wp2_with fail
 refine Calls.mono (cutStr_any hg a i 58 w1 (by omega)) ?_
 intro e2 w2 hr
 rw [show ((58 : UInt8).toNat : Int) = 58 from rfl, HF.out] at hr
 obtain ⟨⟨q2, rfl⟩, he2⟩ := hr
 simp only at he2
 subst he2
 have hx2 := hx1.drewN q2
 have hk2 := hk1.drewN q2
 generalize w1.drewN q2 = w2 at *
 rw [HWD.out]
 rw [HNM.out]
 obtain ⟨ty, fr, hve2⟩ := veAt_of hx2 hve
 go_wp2_with (refine wpList_load_row rfl 118 _ rfl 2 rfl ty _ fr _ hve2 Tryz.underlying118 rfl (by kernel_rfl) ?_)
 clear hve2
 refine wp_loop_rounds 10 ?_
 iterate 5 (rw [rounds_succ]; go_wp2_with fail)
 have hx3 := hx2.below (bz560 _)
 have hk3 := hk2.then (kz560 _)
 have hx4 := hx3.below (bz561 _)
 have hk4 := hk3.then (kz561 _)
 have hx5 := hx4.below (bz562 _)
 have hk5 := hk4.then (kz562 _)
 have hx6 := hx5.below (bz563 _)
 have hk6 := hk5.then (kz563 _)
 have hx7 := hx6.below (bz564 _)
 have hk7 := hk6.then (kz564 _)
 refine Calls.mono (fail_any hx7 28) ?_
 rintro e19 w19 ⟨rfl, hkn⟩
 exact ⟨rfl, rp_err HS.out ⟨rfl, (hk7.mono hB).trans hkn⟩⟩
set_option maxRecDepth 100000 in
set_option maxHeartbeats 4000000 in
theorem verb_4_nx (h : LX C w a f T) (hve : VeAt C.w0) {i : Nat} (hu : C.p.until 41 a = some i) {j : Nat} (hf : C.p.find 58 (i - a) a = some j) (n0 : ¬ (C.p.sub a j) = ⟨#[65, 67, 67, 69, 80, 84]⟩) (n1 : ¬ (C.p.sub a j) = ⟨#[70, 65, 73, 76]⟩) (n2 : ¬ (C.p.sub a j) = ⟨#[70]⟩) (n3 : ¬ (C.p.sub a j) = ⟨#[67, 79, 77, 77, 73, 84]⟩) (n4 : (C.p.sub a j) = ⟨#[80, 82, 85, 78, 69]⟩) (he : ¬ C.p.sub (j + 1) i = ⟨#[]⟩) : Calls Tryz.prog 73 #[.pointer (some ⟨C.L, 0, none⟩)] w (RP C w (tkp.one f (C.p.verb f a)) (PtOk C w T)) := by
 have hvf : verbF (C.p.sub a j) (C.p.sub (j + 1) i) true verbsT = some 4 := by unfold verbsT; rw [verbF, if_neg n0]; rw [verbF, if_neg n1]; rw [verbF, if_neg n2]; rw [verbF, if_neg n3]; rw [verbF, if_pos n4]; simp [he]
 have hs : C.p.verb f a = .ok ({ kind := 13, n := 4, name := (C.p.sub (j + 1) i) }, i + 1) := by
  unfold Pt.verb
  simp only [hu, hf]
  rw [show ((some j : Option Nat).isSome) = true from rfl, hvf]
 have HS := Lib.hid (show tkp.one f (C.p.verb f a) = .ok ([lay { kind := 13, n := 4, name := (C.p.sub (j + 1) i) } f (i + 1)], i + 1) by rw [hs]; rfl)
 have bd := find_bd hu
 have hn := h.ok.n
 have tl := h.tl
 have an := h.an
 have hg := h.sl.1
 obtain ⟨wd, hwd⟩ : ∃ wd, (C.p.sub a j) = wd := ⟨_, rfl⟩
 rw [hwd] at n0 n1 n2 n3 n4
 have b0 := wn1 n0
 have b1 := wn2 n1
 have b2 := wn3 n2
 have b3 := wn4 n3
 have b4 := word_y (l := [80, 82, 85, 78, 69]) n4
 obtain ⟨nm, hnm⟩ : ∃ nm, C.p.sub (j + 1) i = nm := ⟨_, rfl⟩
 have HNM := Lib.hid hnm
 rw [hnm] at he
 have c0 := wn0 he
 have c1 := emp_n he
 have HWD := Lib.hid hwd
 have HU := Lib.hid hu
 have HF := Lib.hid hf
 clear hs hu hf hvf hwd n0 n1 n2 n3 n4 hnm he
 have ix0 := vix_0
 have ix1 := vix_1
 have ix2 := vix_2
 have ix3 := vix_3
 have ix4 := vix_4
 have hk0 := Kept.refl w.heap.size C.L w
 have hB := h.hb
 go_enter Tryz.func73, Tryz.ntmps73
 go_wp2_with fail
 refine Calls.mono (until_any h 41) ?_
 intro e1 w1 hr
 rw [show ((41 : UInt8).toNat : Int) = 41 from rfl, HU.out] at hr
 obtain ⟨rfl, hx1, hkn⟩ := hr
 have hk1 := hk0.then hkn
 clear hkn
 go_wp2_with fail
 refine Calls.mono (cutStr_any hg a i 58 w1 (by omega)) ?_
 intro e2 w2 hr
 rw [show ((58 : UInt8).toNat : Int) = 58 from rfl, HF.out] at hr
 obtain ⟨⟨q2, rfl⟩, he2⟩ := hr
 simp only at he2
 subst he2
 have hx2 := hx1.drewN q2
 have hk2 := hk1.drewN q2
 generalize w1.drewN q2 = w2 at *
 rw [HWD.out]
 rw [HNM.out]
 obtain ⟨ty, fr, hve2⟩ := veAt_of hx2 hve
 go_wp2_with (refine wpList_load_row rfl 118 _ rfl 2 rfl ty _ fr _ hve2 Tryz.underlying118 rfl (by kernel_rfl) ?_)
 clear hve2
 refine wp_loop_rounds 10 ?_
 iterate 5 (rw [rounds_succ]; go_wp2_with fail)
 have hx3 := hx2.below (bz560 _)
 have hk3 := hk2.then (kz560 _)
 have hx4 := hx3.below (bz561 _)
 have hk4 := hk3.then (kz561 _)
 have hx5 := hx4.below (bz562 _)
 have hk5 := hk4.then (kz562 _)
 have hx6 := hx5.below (bz563 _)
 have hk6 := hk5.then (kz563 _)
 have hx7 := hx6.below (bz564 _)
 have hk7 := hk6.then (kz564 _)
 refine Calls.mono (put_any hx7 (.slice none 0 0) { kind := 13, n := 4, name := nm } (ownR_nil _ _) (by omega)) ?_
 intro e18 w18 hr
 have HPP := Lib.hid (ptOk_put hr (hk7.mono hB))
 obtain ⟨rfl, _, _⟩ := hr
 go_wp2_with fail
 go_end0
 rw [HNM.out] at HS
 exact rp_ok HS.out HPP.out
set_option maxRecDepth 100000 in
set_option maxHeartbeats 4000000 in
theorem verb_5_u (h : LX C w a f T) (hve : VeAt C.w0) {i : Nat} (hu : C.p.until 41 a = some i) (hf : C.p.find 58 (i - a) a = none) (n0 : ¬ (C.p.sub a i) = ⟨#[65, 67, 67, 69, 80, 84]⟩) (n1 : ¬ (C.p.sub a i) = ⟨#[70, 65, 73, 76]⟩) (n2 : ¬ (C.p.sub a i) = ⟨#[70]⟩) (n3 : ¬ (C.p.sub a i) = ⟨#[67, 79, 77, 77, 73, 84]⟩) (n4 : ¬ (C.p.sub a i) = ⟨#[80, 82, 85, 78, 69]⟩) (n5 : (C.p.sub a i) = ⟨#[83, 75, 73, 80]⟩) : Calls Tryz.prog 73 #[.pointer (some ⟨C.L, 0, none⟩)] w (RP C w (tkp.one f (C.p.verb f a)) (PtOk C w T)) := by
 have hvf : verbF (C.p.sub a i) ⟨#[]⟩ false verbsT = some 5 := by unfold verbsT; rw [verbF, if_neg n0]; rw [verbF, if_neg n1]; rw [verbF, if_neg n2]; rw [verbF, if_neg n3]; rw [verbF, if_neg n4]; rw [verbF, if_pos n5]; simp
 have hs : C.p.verb f a = .ok ({ kind := 13, n := 5, name := ⟨#[]⟩ }, i + 1) := by
  unfold Pt.verb
  simp only [hu, hf]
  rw [show ((none : Option Nat).isSome) = false from rfl, hvf]
 have HS := Lib.hid (show tkp.one f (C.p.verb f a) = .ok ([lay { kind := 13, n := 5, name := ⟨#[]⟩ } f (i + 1)], i + 1) by rw [hs]; rfl)
 have bd := find_bd hu
 have hn := h.ok.n
 have tl := h.tl
 have an := h.an
 have hg := h.sl.1
 obtain ⟨wd, hwd⟩ : ∃ wd, (C.p.sub a i) = wd := ⟨_, rfl⟩
 rw [hwd] at n0 n1 n2 n3 n4 n5
 have b0 := wn1 n0
 have b1 := wn2 n1
 have b2 := wn3 n2
 have b3 := wn4 n3
 have b4 := wn5 n4
 have b5 := word_y (l := [83, 75, 73, 80]) n5
 have HWD := Lib.hid hwd
 have HU := Lib.hid hu
 have HF := Lib.hid hf
 clear hs hu hf hvf hwd n0 n1 n2 n3 n4 n5
 have ix0 := vix_0
 have ix1 := vix_1
 have ix2 := vix_2
 have ix3 := vix_3
 have ix4 := vix_4
 have ix5 := vix_5
 have hk0 := Kept.refl w.heap.size C.L w
 have hB := h.hb
 go_enter Tryz.func73, Tryz.ntmps73
 go_wp2_with fail
 refine Calls.mono (until_any h 41) ?_
 intro e1 w1 hr
 rw [show ((41 : UInt8).toNat : Int) = 41 from rfl, HU.out] at hr
 obtain ⟨rfl, hx1, hkn⟩ := hr
 have hk1 := hk0.then hkn
 clear hkn
 go_wp2_with fail
 refine Calls.mono (cutStr_any hg a i 58 w1 (by omega)) ?_
 intro e2 w2 hr
 rw [show ((58 : UInt8).toNat : Int) = 58 from rfl, HF.out] at hr
 obtain ⟨⟨q2, rfl⟩, he2⟩ := hr
 simp only at he2
 subst he2
 have hx2 := hx1.drewN q2
 have hk2 := hk1.drewN q2
 generalize w1.drewN q2 = w2 at *
 rw [HWD.out]
 obtain ⟨ty, fr, hve2⟩ := veAt_of hx2 hve
 go_wp2_with (refine wpList_load_row rfl 118 _ rfl 2 rfl ty _ fr _ hve2 Tryz.underlying118 rfl (by kernel_rfl) ?_)
 clear hve2
 refine wp_loop_rounds 10 ?_
 iterate 6 (rw [rounds_succ]; go_wp2_with fail)
 have hx3 := hx2.below (bz560 _)
 have hk3 := hk2.then (kz560 _)
 have hx4 := hx3.below (bz561 _)
 have hk4 := hk3.then (kz561 _)
 have hx5 := hx4.below (bz562 _)
 have hk5 := hk4.then (kz562 _)
 have hx6 := hx5.below (bz563 _)
 have hk6 := hk5.then (kz563 _)
 have hx7 := hx6.below (bz564 _)
 have hk7 := hk6.then (kz564 _)
 have hx8 := hx7.below (bz565 _)
 have hk8 := hk7.then (kz565 _)
 refine Calls.mono (put_any hx8 (.slice none 0 0) { kind := 13, n := 5, name := ⟨#[]⟩ } (ownR_nil _ _) (by omega)) ?_
 intro e18 w18 hr
 have HPP := Lib.hid (ptOk_put hr (hk8.mono hB))
 obtain ⟨rfl, _, _⟩ := hr
 go_wp2_with fail
 go_end0
 exact rp_ok HS.out HPP.out
set_option maxRecDepth 100000 in
set_option maxHeartbeats 4000000 in
theorem verb_5_ne (h : LX C w a f T) (hve : VeAt C.w0) {i : Nat} (hu : C.p.until 41 a = some i) {j : Nat} (hf : C.p.find 58 (i - a) a = some j) (n0 : ¬ (C.p.sub a j) = ⟨#[65, 67, 67, 69, 80, 84]⟩) (n1 : ¬ (C.p.sub a j) = ⟨#[70, 65, 73, 76]⟩) (n2 : ¬ (C.p.sub a j) = ⟨#[70]⟩) (n3 : ¬ (C.p.sub a j) = ⟨#[67, 79, 77, 77, 73, 84]⟩) (n4 : ¬ (C.p.sub a j) = ⟨#[80, 82, 85, 78, 69]⟩) (n5 : (C.p.sub a j) = ⟨#[83, 75, 73, 80]⟩) (he : C.p.sub (j + 1) i = ⟨#[]⟩) : Calls Tryz.prog 73 #[.pointer (some ⟨C.L, 0, none⟩)] w (RP C w (tkp.one f (C.p.verb f a)) (PtOk C w T)) := by
 have hvf : verbF (C.p.sub a j) (C.p.sub (j + 1) i) true verbsT = none := by unfold verbsT; rw [verbF, if_neg n0]; rw [verbF, if_neg n1]; rw [verbF, if_neg n2]; rw [verbF, if_neg n3]; rw [verbF, if_neg n4]; rw [verbF, if_pos n5]; simp [he]
 have hs : C.p.verb f a = .error (28, (f : Int)) := by
  unfold Pt.verb
  simp only [hu, hf]
  rw [show ((some j : Option Nat).isSome) = true from rfl, hvf]
 have HS := Lib.hid (show tkp.one f (C.p.verb f a) = .error (C.p.er 28 f) by rw [hs]; rfl)
 have bd := find_bd hu
 have hn := h.ok.n
 have tl := h.tl
 have an := h.an
 have hg := h.sl.1
 obtain ⟨wd, hwd⟩ : ∃ wd, (C.p.sub a j) = wd := ⟨_, rfl⟩
 rw [hwd] at n0 n1 n2 n3 n4 n5
 have b0 := wn1 n0
 have b1 := wn2 n1
 have b2 := wn3 n2
 have b3 := wn4 n3
 have b4 := wn5 n4
 have b5 := word_y (l := [83, 75, 73, 80]) n5
 obtain ⟨nm, hnm⟩ : ∃ nm, C.p.sub (j + 1) i = nm := ⟨_, rfl⟩
 have HNM := Lib.hid hnm
 rw [hnm] at he
 have c0 := word_y (l := []) he
 have c1 := emp_y he
 have HWD := Lib.hid hwd
 have HU := Lib.hid hu
 have HF := Lib.hid hf
 clear hs hu hf hvf hwd n0 n1 n2 n3 n4 n5 hnm he
 have ix0 := vix_0
 have ix1 := vix_1
 have ix2 := vix_2
 have ix3 := vix_3
 have ix4 := vix_4
 have ix5 := vix_5
 have hk0 := Kept.refl w.heap.size C.L w
 have hB := h.hb
 go_enter Tryz.func73, Tryz.ntmps73
 go_wp2_with fail
 refine Calls.mono (until_any h 41) ?_
 intro e1 w1 hr
 rw [show ((41 : UInt8).toNat : Int) = 41 from rfl, HU.out] at hr
 obtain ⟨rfl, hx1, hkn⟩ := hr
 have hk1 := hk0.then hkn
 clear hkn
 go_wp2_with fail
 refine Calls.mono (cutStr_any hg a i 58 w1 (by omega)) ?_
 intro e2 w2 hr
 rw [show ((58 : UInt8).toNat : Int) = 58 from rfl, HF.out] at hr
 obtain ⟨⟨q2, rfl⟩, he2⟩ := hr
 simp only at he2
 subst he2
 have hx2 := hx1.drewN q2
 have hk2 := hk1.drewN q2
 generalize w1.drewN q2 = w2 at *
 rw [HWD.out]
 rw [HNM.out]
 obtain ⟨ty, fr, hve2⟩ := veAt_of hx2 hve
 go_wp2_with (refine wpList_load_row rfl 118 _ rfl 2 rfl ty _ fr _ hve2 Tryz.underlying118 rfl (by kernel_rfl) ?_)
 clear hve2
 refine wp_loop_rounds 10 ?_
 iterate 6 (rw [rounds_succ]; go_wp2_with fail)
 have hx3 := hx2.below (bz560 _)
 have hk3 := hk2.then (kz560 _)
 have hx4 := hx3.below (bz561 _)
 have hk4 := hk3.then (kz561 _)
 have hx5 := hx4.below (bz562 _)
 have hk5 := hk4.then (kz562 _)
 have hx6 := hx5.below (bz563 _)
 have hk6 := hk5.then (kz563 _)
 have hx7 := hx6.below (bz564 _)
 have hk7 := hk6.then (kz564 _)
 have hx8 := hx7.below (bz565 _)
 have hk8 := hk7.then (kz565 _)
 refine Calls.mono (fail_any hx8 28) ?_
 rintro e19 w19 ⟨rfl, hkn⟩
 exact ⟨rfl, rp_err HS.out ⟨rfl, (hk8.mono hB).trans hkn⟩⟩
set_option maxRecDepth 100000 in
set_option maxHeartbeats 4000000 in
theorem verb_5_nx (h : LX C w a f T) (hve : VeAt C.w0) {i : Nat} (hu : C.p.until 41 a = some i) {j : Nat} (hf : C.p.find 58 (i - a) a = some j) (n0 : ¬ (C.p.sub a j) = ⟨#[65, 67, 67, 69, 80, 84]⟩) (n1 : ¬ (C.p.sub a j) = ⟨#[70, 65, 73, 76]⟩) (n2 : ¬ (C.p.sub a j) = ⟨#[70]⟩) (n3 : ¬ (C.p.sub a j) = ⟨#[67, 79, 77, 77, 73, 84]⟩) (n4 : ¬ (C.p.sub a j) = ⟨#[80, 82, 85, 78, 69]⟩) (n5 : (C.p.sub a j) = ⟨#[83, 75, 73, 80]⟩) (he : ¬ C.p.sub (j + 1) i = ⟨#[]⟩) : Calls Tryz.prog 73 #[.pointer (some ⟨C.L, 0, none⟩)] w (RP C w (tkp.one f (C.p.verb f a)) (PtOk C w T)) := by
 have hvf : verbF (C.p.sub a j) (C.p.sub (j + 1) i) true verbsT = some 5 := by unfold verbsT; rw [verbF, if_neg n0]; rw [verbF, if_neg n1]; rw [verbF, if_neg n2]; rw [verbF, if_neg n3]; rw [verbF, if_neg n4]; rw [verbF, if_pos n5]; simp [he]
 have hs : C.p.verb f a = .ok ({ kind := 13, n := 5, name := (C.p.sub (j + 1) i) }, i + 1) := by
  unfold Pt.verb
  simp only [hu, hf]
  rw [show ((some j : Option Nat).isSome) = true from rfl, hvf]
 have HS := Lib.hid (show tkp.one f (C.p.verb f a) = .ok ([lay { kind := 13, n := 5, name := (C.p.sub (j + 1) i) } f (i + 1)], i + 1) by rw [hs]; rfl)
 have bd := find_bd hu
 have hn := h.ok.n
 have tl := h.tl
 have an := h.an
 have hg := h.sl.1
 obtain ⟨wd, hwd⟩ : ∃ wd, (C.p.sub a j) = wd := ⟨_, rfl⟩
 rw [hwd] at n0 n1 n2 n3 n4 n5
 have b0 := wn1 n0
 have b1 := wn2 n1
 have b2 := wn3 n2
 have b3 := wn4 n3
 have b4 := wn5 n4
 have b5 := word_y (l := [83, 75, 73, 80]) n5
 obtain ⟨nm, hnm⟩ : ∃ nm, C.p.sub (j + 1) i = nm := ⟨_, rfl⟩
 have HNM := Lib.hid hnm
 rw [hnm] at he
 have c0 := wn0 he
 have c1 := emp_n he
 have HWD := Lib.hid hwd
 have HU := Lib.hid hu
 have HF := Lib.hid hf
 clear hs hu hf hvf hwd n0 n1 n2 n3 n4 n5 hnm he
 have ix0 := vix_0
 have ix1 := vix_1
 have ix2 := vix_2
 have ix3 := vix_3
 have ix4 := vix_4
 have ix5 := vix_5
 have hk0 := Kept.refl w.heap.size C.L w
 have hB := h.hb
 go_enter Tryz.func73, Tryz.ntmps73
 go_wp2_with fail
 refine Calls.mono (until_any h 41) ?_
 intro e1 w1 hr
 rw [show ((41 : UInt8).toNat : Int) = 41 from rfl, HU.out] at hr
 obtain ⟨rfl, hx1, hkn⟩ := hr
 have hk1 := hk0.then hkn
 clear hkn
 go_wp2_with fail
 refine Calls.mono (cutStr_any hg a i 58 w1 (by omega)) ?_
 intro e2 w2 hr
 rw [show ((58 : UInt8).toNat : Int) = 58 from rfl, HF.out] at hr
 obtain ⟨⟨q2, rfl⟩, he2⟩ := hr
 simp only at he2
 subst he2
 have hx2 := hx1.drewN q2
 have hk2 := hk1.drewN q2
 generalize w1.drewN q2 = w2 at *
 rw [HWD.out]
 rw [HNM.out]
 obtain ⟨ty, fr, hve2⟩ := veAt_of hx2 hve
 go_wp2_with (refine wpList_load_row rfl 118 _ rfl 2 rfl ty _ fr _ hve2 Tryz.underlying118 rfl (by kernel_rfl) ?_)
 clear hve2
 refine wp_loop_rounds 10 ?_
 iterate 6 (rw [rounds_succ]; go_wp2_with fail)
 have hx3 := hx2.below (bz560 _)
 have hk3 := hk2.then (kz560 _)
 have hx4 := hx3.below (bz561 _)
 have hk4 := hk3.then (kz561 _)
 have hx5 := hx4.below (bz562 _)
 have hk5 := hk4.then (kz562 _)
 have hx6 := hx5.below (bz563 _)
 have hk6 := hk5.then (kz563 _)
 have hx7 := hx6.below (bz564 _)
 have hk7 := hk6.then (kz564 _)
 have hx8 := hx7.below (bz565 _)
 have hk8 := hk7.then (kz565 _)
 refine Calls.mono (put_any hx8 (.slice none 0 0) { kind := 13, n := 5, name := nm } (ownR_nil _ _) (by omega)) ?_
 intro e18 w18 hr
 have HPP := Lib.hid (ptOk_put hr (hk8.mono hB))
 obtain ⟨rfl, _, _⟩ := hr
 go_wp2_with fail
 go_end0
 rw [HNM.out] at HS
 exact rp_ok HS.out HPP.out
set_option maxRecDepth 100000 in
set_option maxHeartbeats 4000000 in
theorem verb_6_u (h : LX C w a f T) (hve : VeAt C.w0) {i : Nat} (hu : C.p.until 41 a = some i) (hf : C.p.find 58 (i - a) a = none) (n0 : ¬ (C.p.sub a i) = ⟨#[65, 67, 67, 69, 80, 84]⟩) (n1 : ¬ (C.p.sub a i) = ⟨#[70, 65, 73, 76]⟩) (n2 : ¬ (C.p.sub a i) = ⟨#[70]⟩) (n3 : ¬ (C.p.sub a i) = ⟨#[67, 79, 77, 77, 73, 84]⟩) (n4 : ¬ (C.p.sub a i) = ⟨#[80, 82, 85, 78, 69]⟩) (n5 : ¬ (C.p.sub a i) = ⟨#[83, 75, 73, 80]⟩) (n6 : (C.p.sub a i) = ⟨#[84, 72, 69, 78]⟩) : Calls Tryz.prog 73 #[.pointer (some ⟨C.L, 0, none⟩)] w (RP C w (tkp.one f (C.p.verb f a)) (PtOk C w T)) := by
 have hvf : verbF (C.p.sub a i) ⟨#[]⟩ false verbsT = some 6 := by unfold verbsT; rw [verbF, if_neg n0]; rw [verbF, if_neg n1]; rw [verbF, if_neg n2]; rw [verbF, if_neg n3]; rw [verbF, if_neg n4]; rw [verbF, if_neg n5]; rw [verbF, if_pos n6]; simp
 have hs : C.p.verb f a = .ok ({ kind := 13, n := 6, name := ⟨#[]⟩ }, i + 1) := by
  unfold Pt.verb
  simp only [hu, hf]
  rw [show ((none : Option Nat).isSome) = false from rfl, hvf]
 have HS := Lib.hid (show tkp.one f (C.p.verb f a) = .ok ([lay { kind := 13, n := 6, name := ⟨#[]⟩ } f (i + 1)], i + 1) by rw [hs]; rfl)
 have bd := find_bd hu
 have hn := h.ok.n
 have tl := h.tl
 have an := h.an
 have hg := h.sl.1
 obtain ⟨wd, hwd⟩ : ∃ wd, (C.p.sub a i) = wd := ⟨_, rfl⟩
 rw [hwd] at n0 n1 n2 n3 n4 n5 n6
 have b0 := wn1 n0
 have b1 := wn2 n1
 have b2 := wn3 n2
 have b3 := wn4 n3
 have b4 := wn5 n4
 have b5 := wn6 n5
 have b6 := word_y (l := [84, 72, 69, 78]) n6
 have HWD := Lib.hid hwd
 have HU := Lib.hid hu
 have HF := Lib.hid hf
 clear hs hu hf hvf hwd n0 n1 n2 n3 n4 n5 n6
 have ix0 := vix_0
 have ix1 := vix_1
 have ix2 := vix_2
 have ix3 := vix_3
 have ix4 := vix_4
 have ix5 := vix_5
 have ix6 := vix_6
 have hk0 := Kept.refl w.heap.size C.L w
 have hB := h.hb
 go_enter Tryz.func73, Tryz.ntmps73
 go_wp2_with fail
 refine Calls.mono (until_any h 41) ?_
 intro e1 w1 hr
 rw [show ((41 : UInt8).toNat : Int) = 41 from rfl, HU.out] at hr
 obtain ⟨rfl, hx1, hkn⟩ := hr
 have hk1 := hk0.then hkn
 clear hkn
 go_wp2_with fail
 refine Calls.mono (cutStr_any hg a i 58 w1 (by omega)) ?_
 intro e2 w2 hr
 rw [show ((58 : UInt8).toNat : Int) = 58 from rfl, HF.out] at hr
 obtain ⟨⟨q2, rfl⟩, he2⟩ := hr
 simp only at he2
 subst he2
 have hx2 := hx1.drewN q2
 have hk2 := hk1.drewN q2
 generalize w1.drewN q2 = w2 at *
 rw [HWD.out]
 obtain ⟨ty, fr, hve2⟩ := veAt_of hx2 hve
 go_wp2_with (refine wpList_load_row rfl 118 _ rfl 2 rfl ty _ fr _ hve2 Tryz.underlying118 rfl (by kernel_rfl) ?_)
 clear hve2
 refine wp_loop_rounds 10 ?_
 iterate 7 (rw [rounds_succ]; go_wp2_with fail)
 have hx3 := hx2.below (bz560 _)
 have hk3 := hk2.then (kz560 _)
 have hx4 := hx3.below (bz561 _)
 have hk4 := hk3.then (kz561 _)
 have hx5 := hx4.below (bz562 _)
 have hk5 := hk4.then (kz562 _)
 have hx6 := hx5.below (bz563 _)
 have hk6 := hk5.then (kz563 _)
 have hx7 := hx6.below (bz564 _)
 have hk7 := hk6.then (kz564 _)
 have hx8 := hx7.below (bz565 _)
 have hk8 := hk7.then (kz565 _)
 have hx9 := hx8.below (bz566 _)
 have hk9 := hk8.then (kz566 _)
 refine Calls.mono (put_any hx9 (.slice none 0 0) { kind := 13, n := 6, name := ⟨#[]⟩ } (ownR_nil _ _) (by omega)) ?_
 intro e18 w18 hr
 have HPP := Lib.hid (ptOk_put hr (hk9.mono hB))
 obtain ⟨rfl, _, _⟩ := hr
 go_wp2_with fail
 go_end0
 exact rp_ok HS.out HPP.out
set_option maxRecDepth 100000 in
set_option maxHeartbeats 4000000 in
theorem verb_6_ne (h : LX C w a f T) (hve : VeAt C.w0) {i : Nat} (hu : C.p.until 41 a = some i) {j : Nat} (hf : C.p.find 58 (i - a) a = some j) (n0 : ¬ (C.p.sub a j) = ⟨#[65, 67, 67, 69, 80, 84]⟩) (n1 : ¬ (C.p.sub a j) = ⟨#[70, 65, 73, 76]⟩) (n2 : ¬ (C.p.sub a j) = ⟨#[70]⟩) (n3 : ¬ (C.p.sub a j) = ⟨#[67, 79, 77, 77, 73, 84]⟩) (n4 : ¬ (C.p.sub a j) = ⟨#[80, 82, 85, 78, 69]⟩) (n5 : ¬ (C.p.sub a j) = ⟨#[83, 75, 73, 80]⟩) (n6 : (C.p.sub a j) = ⟨#[84, 72, 69, 78]⟩) (he : C.p.sub (j + 1) i = ⟨#[]⟩) : Calls Tryz.prog 73 #[.pointer (some ⟨C.L, 0, none⟩)] w (RP C w (tkp.one f (C.p.verb f a)) (PtOk C w T)) := by
 have hvf : verbF (C.p.sub a j) (C.p.sub (j + 1) i) true verbsT = none := by unfold verbsT; rw [verbF, if_neg n0]; rw [verbF, if_neg n1]; rw [verbF, if_neg n2]; rw [verbF, if_neg n3]; rw [verbF, if_neg n4]; rw [verbF, if_neg n5]; rw [verbF, if_pos n6]; simp [he]
 have hs : C.p.verb f a = .error (28, (f : Int)) := by
  unfold Pt.verb
  simp only [hu, hf]
  rw [show ((some j : Option Nat).isSome) = true from rfl, hvf]
 have HS := Lib.hid (show tkp.one f (C.p.verb f a) = .error (C.p.er 28 f) by rw [hs]; rfl)
 have bd := find_bd hu
 have hn := h.ok.n
 have tl := h.tl
 have an := h.an
 have hg := h.sl.1
 obtain ⟨wd, hwd⟩ : ∃ wd, (C.p.sub a j) = wd := ⟨_, rfl⟩
 rw [hwd] at n0 n1 n2 n3 n4 n5 n6
 have b0 := wn1 n0
 have b1 := wn2 n1
 have b2 := wn3 n2
 have b3 := wn4 n3
 have b4 := wn5 n4
 have b5 := wn6 n5
 have b6 := word_y (l := [84, 72, 69, 78]) n6
 obtain ⟨nm, hnm⟩ : ∃ nm, C.p.sub (j + 1) i = nm := ⟨_, rfl⟩
 have HNM := Lib.hid hnm
 rw [hnm] at he
 have c0 := word_y (l := []) he
 have c1 := emp_y he
 have HWD := Lib.hid hwd
 have HU := Lib.hid hu
 have HF := Lib.hid hf
 clear hs hu hf hvf hwd n0 n1 n2 n3 n4 n5 n6 hnm he
 have ix0 := vix_0
 have ix1 := vix_1
 have ix2 := vix_2
 have ix3 := vix_3
 have ix4 := vix_4
 have ix5 := vix_5
 have ix6 := vix_6
 have hk0 := Kept.refl w.heap.size C.L w
 have hB := h.hb
 go_enter Tryz.func73, Tryz.ntmps73
 go_wp2_with fail
 refine Calls.mono (until_any h 41) ?_
 intro e1 w1 hr
 rw [show ((41 : UInt8).toNat : Int) = 41 from rfl, HU.out] at hr
 obtain ⟨rfl, hx1, hkn⟩ := hr
 have hk1 := hk0.then hkn
 clear hkn
 go_wp2_with fail
 refine Calls.mono (cutStr_any hg a i 58 w1 (by omega)) ?_
 intro e2 w2 hr
 rw [show ((58 : UInt8).toNat : Int) = 58 from rfl, HF.out] at hr
 obtain ⟨⟨q2, rfl⟩, he2⟩ := hr
 simp only at he2
 subst he2
 have hx2 := hx1.drewN q2
 have hk2 := hk1.drewN q2
 generalize w1.drewN q2 = w2 at *
 rw [HWD.out]
 rw [HNM.out]
 obtain ⟨ty, fr, hve2⟩ := veAt_of hx2 hve
 go_wp2_with (refine wpList_load_row rfl 118 _ rfl 2 rfl ty _ fr _ hve2 Tryz.underlying118 rfl (by kernel_rfl) ?_)
 clear hve2
 refine wp_loop_rounds 10 ?_
 iterate 7 (rw [rounds_succ]; go_wp2_with fail)
 have hx3 := hx2.below (bz560 _)
 have hk3 := hk2.then (kz560 _)
 have hx4 := hx3.below (bz561 _)
 have hk4 := hk3.then (kz561 _)
 have hx5 := hx4.below (bz562 _)
 have hk5 := hk4.then (kz562 _)
 have hx6 := hx5.below (bz563 _)
 have hk6 := hk5.then (kz563 _)
 have hx7 := hx6.below (bz564 _)
 have hk7 := hk6.then (kz564 _)
 have hx8 := hx7.below (bz565 _)
 have hk8 := hk7.then (kz565 _)
 have hx9 := hx8.below (bz566 _)
 have hk9 := hk8.then (kz566 _)
 refine Calls.mono (fail_any hx9 28) ?_
 rintro e19 w19 ⟨rfl, hkn⟩
 exact ⟨rfl, rp_err HS.out ⟨rfl, (hk9.mono hB).trans hkn⟩⟩
set_option maxRecDepth 100000 in
set_option maxHeartbeats 4000000 in
theorem verb_6_nx (h : LX C w a f T) (hve : VeAt C.w0) {i : Nat} (hu : C.p.until 41 a = some i) {j : Nat} (hf : C.p.find 58 (i - a) a = some j) (n0 : ¬ (C.p.sub a j) = ⟨#[65, 67, 67, 69, 80, 84]⟩) (n1 : ¬ (C.p.sub a j) = ⟨#[70, 65, 73, 76]⟩) (n2 : ¬ (C.p.sub a j) = ⟨#[70]⟩) (n3 : ¬ (C.p.sub a j) = ⟨#[67, 79, 77, 77, 73, 84]⟩) (n4 : ¬ (C.p.sub a j) = ⟨#[80, 82, 85, 78, 69]⟩) (n5 : ¬ (C.p.sub a j) = ⟨#[83, 75, 73, 80]⟩) (n6 : (C.p.sub a j) = ⟨#[84, 72, 69, 78]⟩) (he : ¬ C.p.sub (j + 1) i = ⟨#[]⟩) : Calls Tryz.prog 73 #[.pointer (some ⟨C.L, 0, none⟩)] w (RP C w (tkp.one f (C.p.verb f a)) (PtOk C w T)) := by
 have hvf : verbF (C.p.sub a j) (C.p.sub (j + 1) i) true verbsT = some 6 := by unfold verbsT; rw [verbF, if_neg n0]; rw [verbF, if_neg n1]; rw [verbF, if_neg n2]; rw [verbF, if_neg n3]; rw [verbF, if_neg n4]; rw [verbF, if_neg n5]; rw [verbF, if_pos n6]; simp [he]
 have hs : C.p.verb f a = .ok ({ kind := 13, n := 6, name := (C.p.sub (j + 1) i) }, i + 1) := by
  unfold Pt.verb
  simp only [hu, hf]
  rw [show ((some j : Option Nat).isSome) = true from rfl, hvf]
 have HS := Lib.hid (show tkp.one f (C.p.verb f a) = .ok ([lay { kind := 13, n := 6, name := (C.p.sub (j + 1) i) } f (i + 1)], i + 1) by rw [hs]; rfl)
 have bd := find_bd hu
 have hn := h.ok.n
 have tl := h.tl
 have an := h.an
 have hg := h.sl.1
 obtain ⟨wd, hwd⟩ : ∃ wd, (C.p.sub a j) = wd := ⟨_, rfl⟩
 rw [hwd] at n0 n1 n2 n3 n4 n5 n6
 have b0 := wn1 n0
 have b1 := wn2 n1
 have b2 := wn3 n2
 have b3 := wn4 n3
 have b4 := wn5 n4
 have b5 := wn6 n5
 have b6 := word_y (l := [84, 72, 69, 78]) n6
 obtain ⟨nm, hnm⟩ : ∃ nm, C.p.sub (j + 1) i = nm := ⟨_, rfl⟩
 have HNM := Lib.hid hnm
 rw [hnm] at he
 have c0 := wn0 he
 have c1 := emp_n he
 have HWD := Lib.hid hwd
 have HU := Lib.hid hu
 have HF := Lib.hid hf
 clear hs hu hf hvf hwd n0 n1 n2 n3 n4 n5 n6 hnm he
 have ix0 := vix_0
 have ix1 := vix_1
 have ix2 := vix_2
 have ix3 := vix_3
 have ix4 := vix_4
 have ix5 := vix_5
 have ix6 := vix_6
 have hk0 := Kept.refl w.heap.size C.L w
 have hB := h.hb
 go_enter Tryz.func73, Tryz.ntmps73
 go_wp2_with fail
 refine Calls.mono (until_any h 41) ?_
 intro e1 w1 hr
 rw [show ((41 : UInt8).toNat : Int) = 41 from rfl, HU.out] at hr
 obtain ⟨rfl, hx1, hkn⟩ := hr
 have hk1 := hk0.then hkn
 clear hkn
 go_wp2_with fail
 refine Calls.mono (cutStr_any hg a i 58 w1 (by omega)) ?_
 intro e2 w2 hr
 rw [show ((58 : UInt8).toNat : Int) = 58 from rfl, HF.out] at hr
 obtain ⟨⟨q2, rfl⟩, he2⟩ := hr
 simp only at he2
 subst he2
 have hx2 := hx1.drewN q2
 have hk2 := hk1.drewN q2
 generalize w1.drewN q2 = w2 at *
 rw [HWD.out]
 rw [HNM.out]
 obtain ⟨ty, fr, hve2⟩ := veAt_of hx2 hve
 go_wp2_with (refine wpList_load_row rfl 118 _ rfl 2 rfl ty _ fr _ hve2 Tryz.underlying118 rfl (by kernel_rfl) ?_)
 clear hve2
 refine wp_loop_rounds 10 ?_
 iterate 7 (rw [rounds_succ]; go_wp2_with fail)
 have hx3 := hx2.below (bz560 _)
 have hk3 := hk2.then (kz560 _)
 have hx4 := hx3.below (bz561 _)
 have hk4 := hk3.then (kz561 _)
 have hx5 := hx4.below (bz562 _)
 have hk5 := hk4.then (kz562 _)
 have hx6 := hx5.below (bz563 _)
 have hk6 := hk5.then (kz563 _)
 have hx7 := hx6.below (bz564 _)
 have hk7 := hk6.then (kz564 _)
 have hx8 := hx7.below (bz565 _)
 have hk8 := hk7.then (kz565 _)
 have hx9 := hx8.below (bz566 _)
 have hk9 := hk8.then (kz566 _)
 refine Calls.mono (put_any hx9 (.slice none 0 0) { kind := 13, n := 6, name := nm } (ownR_nil _ _) (by omega)) ?_
 intro e18 w18 hr
 have HPP := Lib.hid (ptOk_put hr (hk9.mono hB))
 obtain ⟨rfl, _, _⟩ := hr
 go_wp2_with fail
 go_end0
 rw [HNM.out] at HS
 exact rp_ok HS.out HPP.out
set_option maxRecDepth 100000 in
set_option maxHeartbeats 4000000 in
theorem verb_7_u (h : LX C w a f T) (hve : VeAt C.w0) {i : Nat} (hu : C.p.until 41 a = some i) (hf : C.p.find 58 (i - a) a = none) (n0 : ¬ (C.p.sub a i) = ⟨#[65, 67, 67, 69, 80, 84]⟩) (n1 : ¬ (C.p.sub a i) = ⟨#[70, 65, 73, 76]⟩) (n2 : ¬ (C.p.sub a i) = ⟨#[70]⟩) (n3 : ¬ (C.p.sub a i) = ⟨#[67, 79, 77, 77, 73, 84]⟩) (n4 : ¬ (C.p.sub a i) = ⟨#[80, 82, 85, 78, 69]⟩) (n5 : ¬ (C.p.sub a i) = ⟨#[83, 75, 73, 80]⟩) (n6 : ¬ (C.p.sub a i) = ⟨#[84, 72, 69, 78]⟩) (n7 : (C.p.sub a i) = ⟨#[77, 65, 82, 75]⟩) : Calls Tryz.prog 73 #[.pointer (some ⟨C.L, 0, none⟩)] w (RP C w (tkp.one f (C.p.verb f a)) (PtOk C w T)) := by
 have hvf : verbF (C.p.sub a i) ⟨#[]⟩ false verbsT = none := by unfold verbsT; rw [verbF, if_neg n0]; rw [verbF, if_neg n1]; rw [verbF, if_neg n2]; rw [verbF, if_neg n3]; rw [verbF, if_neg n4]; rw [verbF, if_neg n5]; rw [verbF, if_neg n6]; rw [verbF, if_pos n7]; simp
 have hs : C.p.verb f a = .error (28, (f : Int)) := by
  unfold Pt.verb
  simp only [hu, hf]
  rw [show ((none : Option Nat).isSome) = false from rfl, hvf]
 have HS := Lib.hid (show tkp.one f (C.p.verb f a) = .error (C.p.er 28 f) by rw [hs]; rfl)
 have bd := find_bd hu
 have hn := h.ok.n
 have tl := h.tl
 have an := h.an
 have hg := h.sl.1
 obtain ⟨wd, hwd⟩ : ∃ wd, (C.p.sub a i) = wd := ⟨_, rfl⟩
 rw [hwd] at n0 n1 n2 n3 n4 n5 n6 n7
 have b0 := wn1 n0
 have b1 := wn2 n1
 have b2 := wn3 n2
 have b3 := wn4 n3
 have b4 := wn5 n4
 have b5 := wn6 n5
 have b6 := wn7 n6
 have b7 := word_y (l := [77, 65, 82, 75]) n7
 have HWD := Lib.hid hwd
 have HU := Lib.hid hu
 have HF := Lib.hid hf
 clear hs hu hf hvf hwd n0 n1 n2 n3 n4 n5 n6 n7
 have ix0 := vix_0
 have ix1 := vix_1
 have ix2 := vix_2
 have ix3 := vix_3
 have ix4 := vix_4
 have ix5 := vix_5
 have ix6 := vix_6
 have ix7 := vix_7
 have hk0 := Kept.refl w.heap.size C.L w
 have hB := h.hb
 go_enter Tryz.func73, Tryz.ntmps73
 go_wp2_with fail
 refine Calls.mono (until_any h 41) ?_
 intro e1 w1 hr
 rw [show ((41 : UInt8).toNat : Int) = 41 from rfl, HU.out] at hr
 obtain ⟨rfl, hx1, hkn⟩ := hr
 have hk1 := hk0.then hkn
 clear hkn
 go_wp2_with fail
 refine Calls.mono (cutStr_any hg a i 58 w1 (by omega)) ?_
 intro e2 w2 hr
 rw [show ((58 : UInt8).toNat : Int) = 58 from rfl, HF.out] at hr
 obtain ⟨⟨q2, rfl⟩, he2⟩ := hr
 simp only at he2
 subst he2
 have hx2 := hx1.drewN q2
 have hk2 := hk1.drewN q2
 generalize w1.drewN q2 = w2 at *
 rw [HWD.out]
 obtain ⟨ty, fr, hve2⟩ := veAt_of hx2 hve
 go_wp2_with (refine wpList_load_row rfl 118 _ rfl 2 rfl ty _ fr _ hve2 Tryz.underlying118 rfl (by kernel_rfl) ?_)
 clear hve2
 refine wp_loop_rounds 10 ?_
 iterate 8 (rw [rounds_succ]; go_wp2_with fail)
 have hx3 := hx2.below (bz560 _)
 have hk3 := hk2.then (kz560 _)
 have hx4 := hx3.below (bz561 _)
 have hk4 := hk3.then (kz561 _)
 have hx5 := hx4.below (bz562 _)
 have hk5 := hk4.then (kz562 _)
 have hx6 := hx5.below (bz563 _)
 have hk6 := hk5.then (kz563 _)
 have hx7 := hx6.below (bz564 _)
 have hk7 := hk6.then (kz564 _)
 have hx8 := hx7.below (bz565 _)
 have hk8 := hk7.then (kz565 _)
 have hx9 := hx8.below (bz566 _)
 have hk9 := hk8.then (kz566 _)
 have hx10 := hx9.below (bz567 _)
 have hk10 := hk9.then (kz567 _)
 refine Calls.mono (fail_any hx10 28) ?_
 rintro e19 w19 ⟨rfl, hkn⟩
 exact ⟨rfl, rp_err HS.out ⟨rfl, (hk10.mono hB).trans hkn⟩⟩
set_option maxRecDepth 100000 in
set_option maxHeartbeats 4000000 in
theorem verb_7_ne (h : LX C w a f T) (hve : VeAt C.w0) {i : Nat} (hu : C.p.until 41 a = some i) {j : Nat} (hf : C.p.find 58 (i - a) a = some j) (n0 : ¬ (C.p.sub a j) = ⟨#[65, 67, 67, 69, 80, 84]⟩) (n1 : ¬ (C.p.sub a j) = ⟨#[70, 65, 73, 76]⟩) (n2 : ¬ (C.p.sub a j) = ⟨#[70]⟩) (n3 : ¬ (C.p.sub a j) = ⟨#[67, 79, 77, 77, 73, 84]⟩) (n4 : ¬ (C.p.sub a j) = ⟨#[80, 82, 85, 78, 69]⟩) (n5 : ¬ (C.p.sub a j) = ⟨#[83, 75, 73, 80]⟩) (n6 : ¬ (C.p.sub a j) = ⟨#[84, 72, 69, 78]⟩) (n7 : (C.p.sub a j) = ⟨#[77, 65, 82, 75]⟩) (he : C.p.sub (j + 1) i = ⟨#[]⟩) : Calls Tryz.prog 73 #[.pointer (some ⟨C.L, 0, none⟩)] w (RP C w (tkp.one f (C.p.verb f a)) (PtOk C w T)) := by
 have hvf : verbF (C.p.sub a j) (C.p.sub (j + 1) i) true verbsT = none := by unfold verbsT; rw [verbF, if_neg n0]; rw [verbF, if_neg n1]; rw [verbF, if_neg n2]; rw [verbF, if_neg n3]; rw [verbF, if_neg n4]; rw [verbF, if_neg n5]; rw [verbF, if_neg n6]; rw [verbF, if_pos n7]; simp [he]
 have hs : C.p.verb f a = .error (28, (f : Int)) := by
  unfold Pt.verb
  simp only [hu, hf]
  rw [show ((some j : Option Nat).isSome) = true from rfl, hvf]
 have HS := Lib.hid (show tkp.one f (C.p.verb f a) = .error (C.p.er 28 f) by rw [hs]; rfl)
 have bd := find_bd hu
 have hn := h.ok.n
 have tl := h.tl
 have an := h.an
 have hg := h.sl.1
 obtain ⟨wd, hwd⟩ : ∃ wd, (C.p.sub a j) = wd := ⟨_, rfl⟩
 rw [hwd] at n0 n1 n2 n3 n4 n5 n6 n7
 have b0 := wn1 n0
 have b1 := wn2 n1
 have b2 := wn3 n2
 have b3 := wn4 n3
 have b4 := wn5 n4
 have b5 := wn6 n5
 have b6 := wn7 n6
 have b7 := word_y (l := [77, 65, 82, 75]) n7
 obtain ⟨nm, hnm⟩ : ∃ nm, C.p.sub (j + 1) i = nm := ⟨_, rfl⟩
 have HNM := Lib.hid hnm
 rw [hnm] at he
 have c0 := word_y (l := []) he
 have c1 := emp_y he
 have HWD := Lib.hid hwd
 have HU := Lib.hid hu
 have HF := Lib.hid hf
 clear hs hu hf hvf hwd n0 n1 n2 n3 n4 n5 n6 n7 hnm he
 have ix0 := vix_0
 have ix1 := vix_1
 have ix2 := vix_2
 have ix3 := vix_3
 have ix4 := vix_4
 have ix5 := vix_5
 have ix6 := vix_6
 have ix7 := vix_7
 have hk0 := Kept.refl w.heap.size C.L w
 have hB := h.hb
 go_enter Tryz.func73, Tryz.ntmps73
 go_wp2_with fail
 refine Calls.mono (until_any h 41) ?_
 intro e1 w1 hr
 rw [show ((41 : UInt8).toNat : Int) = 41 from rfl, HU.out] at hr
 obtain ⟨rfl, hx1, hkn⟩ := hr
 have hk1 := hk0.then hkn
 clear hkn
 go_wp2_with fail
 refine Calls.mono (cutStr_any hg a i 58 w1 (by omega)) ?_
 intro e2 w2 hr
 rw [show ((58 : UInt8).toNat : Int) = 58 from rfl, HF.out] at hr
 obtain ⟨⟨q2, rfl⟩, he2⟩ := hr
 simp only at he2
 subst he2
 have hx2 := hx1.drewN q2
 have hk2 := hk1.drewN q2
 generalize w1.drewN q2 = w2 at *
 rw [HWD.out]
 rw [HNM.out]
 obtain ⟨ty, fr, hve2⟩ := veAt_of hx2 hve
 go_wp2_with (refine wpList_load_row rfl 118 _ rfl 2 rfl ty _ fr _ hve2 Tryz.underlying118 rfl (by kernel_rfl) ?_)
 clear hve2
 refine wp_loop_rounds 10 ?_
 iterate 8 (rw [rounds_succ]; go_wp2_with fail)
 have hx3 := hx2.below (bz560 _)
 have hk3 := hk2.then (kz560 _)
 have hx4 := hx3.below (bz561 _)
 have hk4 := hk3.then (kz561 _)
 have hx5 := hx4.below (bz562 _)
 have hk5 := hk4.then (kz562 _)
 have hx6 := hx5.below (bz563 _)
 have hk6 := hk5.then (kz563 _)
 have hx7 := hx6.below (bz564 _)
 have hk7 := hk6.then (kz564 _)
 have hx8 := hx7.below (bz565 _)
 have hk8 := hk7.then (kz565 _)
 have hx9 := hx8.below (bz566 _)
 have hk9 := hk8.then (kz566 _)
 have hx10 := hx9.below (bz567 _)
 have hk10 := hk9.then (kz567 _)
 refine Calls.mono (fail_any hx10 28) ?_
 rintro e19 w19 ⟨rfl, hkn⟩
 exact ⟨rfl, rp_err HS.out ⟨rfl, (hk10.mono hB).trans hkn⟩⟩
set_option maxRecDepth 100000 in
set_option maxHeartbeats 4000000 in
theorem verb_7_nx (h : LX C w a f T) (hve : VeAt C.w0) {i : Nat} (hu : C.p.until 41 a = some i) {j : Nat} (hf : C.p.find 58 (i - a) a = some j) (n0 : ¬ (C.p.sub a j) = ⟨#[65, 67, 67, 69, 80, 84]⟩) (n1 : ¬ (C.p.sub a j) = ⟨#[70, 65, 73, 76]⟩) (n2 : ¬ (C.p.sub a j) = ⟨#[70]⟩) (n3 : ¬ (C.p.sub a j) = ⟨#[67, 79, 77, 77, 73, 84]⟩) (n4 : ¬ (C.p.sub a j) = ⟨#[80, 82, 85, 78, 69]⟩) (n5 : ¬ (C.p.sub a j) = ⟨#[83, 75, 73, 80]⟩) (n6 : ¬ (C.p.sub a j) = ⟨#[84, 72, 69, 78]⟩) (n7 : (C.p.sub a j) = ⟨#[77, 65, 82, 75]⟩) (he : ¬ C.p.sub (j + 1) i = ⟨#[]⟩) : Calls Tryz.prog 73 #[.pointer (some ⟨C.L, 0, none⟩)] w (RP C w (tkp.one f (C.p.verb f a)) (PtOk C w T)) := by
 have hvf : verbF (C.p.sub a j) (C.p.sub (j + 1) i) true verbsT = some 7 := by unfold verbsT; rw [verbF, if_neg n0]; rw [verbF, if_neg n1]; rw [verbF, if_neg n2]; rw [verbF, if_neg n3]; rw [verbF, if_neg n4]; rw [verbF, if_neg n5]; rw [verbF, if_neg n6]; rw [verbF, if_pos n7]; simp [he]
 have hs : C.p.verb f a = .ok ({ kind := 13, n := 7, name := (C.p.sub (j + 1) i) }, i + 1) := by
  unfold Pt.verb
  simp only [hu, hf]
  rw [show ((some j : Option Nat).isSome) = true from rfl, hvf]
 have HS := Lib.hid (show tkp.one f (C.p.verb f a) = .ok ([lay { kind := 13, n := 7, name := (C.p.sub (j + 1) i) } f (i + 1)], i + 1) by rw [hs]; rfl)
 have bd := find_bd hu
 have hn := h.ok.n
 have tl := h.tl
 have an := h.an
 have hg := h.sl.1
 obtain ⟨wd, hwd⟩ : ∃ wd, (C.p.sub a j) = wd := ⟨_, rfl⟩
 rw [hwd] at n0 n1 n2 n3 n4 n5 n6 n7
 have b0 := wn1 n0
 have b1 := wn2 n1
 have b2 := wn3 n2
 have b3 := wn4 n3
 have b4 := wn5 n4
 have b5 := wn6 n5
 have b6 := wn7 n6
 have b7 := word_y (l := [77, 65, 82, 75]) n7
 obtain ⟨nm, hnm⟩ : ∃ nm, C.p.sub (j + 1) i = nm := ⟨_, rfl⟩
 have HNM := Lib.hid hnm
 rw [hnm] at he
 have c0 := wn0 he
 have c1 := emp_n he
 have HWD := Lib.hid hwd
 have HU := Lib.hid hu
 have HF := Lib.hid hf
 clear hs hu hf hvf hwd n0 n1 n2 n3 n4 n5 n6 n7 hnm he
 have ix0 := vix_0
 have ix1 := vix_1
 have ix2 := vix_2
 have ix3 := vix_3
 have ix4 := vix_4
 have ix5 := vix_5
 have ix6 := vix_6
 have ix7 := vix_7
 have hk0 := Kept.refl w.heap.size C.L w
 have hB := h.hb
 go_enter Tryz.func73, Tryz.ntmps73
 go_wp2_with fail
 refine Calls.mono (until_any h 41) ?_
 intro e1 w1 hr
 rw [show ((41 : UInt8).toNat : Int) = 41 from rfl, HU.out] at hr
 obtain ⟨rfl, hx1, hkn⟩ := hr
 have hk1 := hk0.then hkn
 clear hkn
 go_wp2_with fail
 refine Calls.mono (cutStr_any hg a i 58 w1 (by omega)) ?_
 intro e2 w2 hr
 rw [show ((58 : UInt8).toNat : Int) = 58 from rfl, HF.out] at hr
 obtain ⟨⟨q2, rfl⟩, he2⟩ := hr
 simp only at he2
 subst he2
 have hx2 := hx1.drewN q2
 have hk2 := hk1.drewN q2
 generalize w1.drewN q2 = w2 at *
 rw [HWD.out]
 rw [HNM.out]
 obtain ⟨ty, fr, hve2⟩ := veAt_of hx2 hve
 go_wp2_with (refine wpList_load_row rfl 118 _ rfl 2 rfl ty _ fr _ hve2 Tryz.underlying118 rfl (by kernel_rfl) ?_)
 clear hve2
 refine wp_loop_rounds 10 ?_
 iterate 8 (rw [rounds_succ]; go_wp2_with fail)
 have hx3 := hx2.below (bz560 _)
 have hk3 := hk2.then (kz560 _)
 have hx4 := hx3.below (bz561 _)
 have hk4 := hk3.then (kz561 _)
 have hx5 := hx4.below (bz562 _)
 have hk5 := hk4.then (kz562 _)
 have hx6 := hx5.below (bz563 _)
 have hk6 := hk5.then (kz563 _)
 have hx7 := hx6.below (bz564 _)
 have hk7 := hk6.then (kz564 _)
 have hx8 := hx7.below (bz565 _)
 have hk8 := hk7.then (kz565 _)
 have hx9 := hx8.below (bz566 _)
 have hk9 := hk8.then (kz566 _)
 have hx10 := hx9.below (bz567 _)
 have hk10 := hk9.then (kz567 _)
 refine Calls.mono (put_any hx10 (.slice none 0 0) { kind := 13, n := 7, name := nm } (ownR_nil _ _) (by omega)) ?_
 intro e18 w18 hr
 have HPP := Lib.hid (ptOk_put hr (hk10.mono hB))
 obtain ⟨rfl, _, _⟩ := hr
 go_wp2_with fail
 go_end0
 rw [HNM.out] at HS
 exact rp_ok HS.out HPP.out
set_option maxRecDepth 100000 in
set_option maxHeartbeats 4000000 in
theorem verb_8_u (h : LX C w a f T) (hve : VeAt C.w0) {i : Nat} (hu : C.p.until 41 a = some i) (hf : C.p.find 58 (i - a) a = none) (n0 : ¬ (C.p.sub a i) = ⟨#[65, 67, 67, 69, 80, 84]⟩) (n1 : ¬ (C.p.sub a i) = ⟨#[70, 65, 73, 76]⟩) (n2 : ¬ (C.p.sub a i) = ⟨#[70]⟩) (n3 : ¬ (C.p.sub a i) = ⟨#[67, 79, 77, 77, 73, 84]⟩) (n4 : ¬ (C.p.sub a i) = ⟨#[80, 82, 85, 78, 69]⟩) (n5 : ¬ (C.p.sub a i) = ⟨#[83, 75, 73, 80]⟩) (n6 : ¬ (C.p.sub a i) = ⟨#[84, 72, 69, 78]⟩) (n7 : ¬ (C.p.sub a i) = ⟨#[77, 65, 82, 75]⟩) (n8 : (C.p.sub a i) = ⟨#[]⟩) : Calls Tryz.prog 73 #[.pointer (some ⟨C.L, 0, none⟩)] w (RP C w (tkp.one f (C.p.verb f a)) (PtOk C w T)) := by
 have hvf : verbF (C.p.sub a i) ⟨#[]⟩ false verbsT = none := by unfold verbsT; rw [verbF, if_neg n0]; rw [verbF, if_neg n1]; rw [verbF, if_neg n2]; rw [verbF, if_neg n3]; rw [verbF, if_neg n4]; rw [verbF, if_neg n5]; rw [verbF, if_neg n6]; rw [verbF, if_neg n7]; rw [verbF, if_pos n8]; simp
 have hs : C.p.verb f a = .error (28, (f : Int)) := by
  unfold Pt.verb
  simp only [hu, hf]
  rw [show ((none : Option Nat).isSome) = false from rfl, hvf]
 have HS := Lib.hid (show tkp.one f (C.p.verb f a) = .error (C.p.er 28 f) by rw [hs]; rfl)
 have bd := find_bd hu
 have hn := h.ok.n
 have tl := h.tl
 have an := h.an
 have hg := h.sl.1
 obtain ⟨wd, hwd⟩ : ∃ wd, (C.p.sub a i) = wd := ⟨_, rfl⟩
 rw [hwd] at n0 n1 n2 n3 n4 n5 n6 n7 n8
 have b0 := wn1 n0
 have b1 := wn2 n1
 have b2 := wn3 n2
 have b3 := wn4 n3
 have b4 := wn5 n4
 have b5 := wn6 n5
 have b6 := wn7 n6
 have b7 := wn8 n7
 have b8 := word_y (l := []) n8
 have b9 := emp_y n8
 have HWD := Lib.hid hwd
 have HU := Lib.hid hu
 have HF := Lib.hid hf
 clear hs hu hf hvf hwd n0 n1 n2 n3 n4 n5 n6 n7 n8
 have ix0 := vix_0
 have ix1 := vix_1
 have ix2 := vix_2
 have ix3 := vix_3
 have ix4 := vix_4
 have ix5 := vix_5
 have ix6 := vix_6
 have ix7 := vix_7
 have ix8 := vix_8
 have hk0 := Kept.refl w.heap.size C.L w
 have hB := h.hb
 go_enter Tryz.func73, Tryz.ntmps73
 go_wp2_with fail
 refine Calls.mono (until_any h 41) ?_
 intro e1 w1 hr
 rw [show ((41 : UInt8).toNat : Int) = 41 from rfl, HU.out] at hr
 obtain ⟨rfl, hx1, hkn⟩ := hr
 have hk1 := hk0.then hkn
 clear hkn
 go_wp2_with fail
 refine Calls.mono (cutStr_any hg a i 58 w1 (by omega)) ?_
 intro e2 w2 hr
 rw [show ((58 : UInt8).toNat : Int) = 58 from rfl, HF.out] at hr
 obtain ⟨⟨q2, rfl⟩, he2⟩ := hr
 simp only at he2
 subst he2
 have hx2 := hx1.drewN q2
 have hk2 := hk1.drewN q2
 generalize w1.drewN q2 = w2 at *
 rw [HWD.out]
 obtain ⟨ty, fr, hve2⟩ := veAt_of hx2 hve
 go_wp2_with (refine wpList_load_row rfl 118 _ rfl 2 rfl ty _ fr _ hve2 Tryz.underlying118 rfl (by kernel_rfl) ?_)
 clear hve2
 refine wp_loop_rounds 10 ?_
 iterate 9 (rw [rounds_succ]; go_wp2_with fail)
 have hx3 := hx2.below (bz560 _)
 have hk3 := hk2.then (kz560 _)
 have hx4 := hx3.below (bz561 _)
 have hk4 := hk3.then (kz561 _)
 have hx5 := hx4.below (bz562 _)
 have hk5 := hk4.then (kz562 _)
 have hx6 := hx5.below (bz563 _)
 have hk6 := hk5.then (kz563 _)
 have hx7 := hx6.below (bz564 _)
 have hk7 := hk6.then (kz564 _)
 have hx8 := hx7.below (bz565 _)
 have hk8 := hk7.then (kz565 _)
 have hx9 := hx8.below (bz566 _)
 have hk9 := hk8.then (kz566 _)
 have hx10 := hx9.below (bz567 _)
 have hk10 := hk9.then (kz567 _)
 have hx11 := hx10.below (bz568 _)
 have hk11 := hk10.then (kz568 _)
 refine Calls.mono (fail_any hx11 28) ?_
 rintro e19 w19 ⟨rfl, hkn⟩
 exact ⟨rfl, rp_err HS.out ⟨rfl, (hk11.mono hB).trans hkn⟩⟩
set_option maxRecDepth 100000 in
set_option maxHeartbeats 4000000 in
theorem verb_8_ne (h : LX C w a f T) (hve : VeAt C.w0) {i : Nat} (hu : C.p.until 41 a = some i) {j : Nat} (hf : C.p.find 58 (i - a) a = some j) (n0 : ¬ (C.p.sub a j) = ⟨#[65, 67, 67, 69, 80, 84]⟩) (n1 : ¬ (C.p.sub a j) = ⟨#[70, 65, 73, 76]⟩) (n2 : ¬ (C.p.sub a j) = ⟨#[70]⟩) (n3 : ¬ (C.p.sub a j) = ⟨#[67, 79, 77, 77, 73, 84]⟩) (n4 : ¬ (C.p.sub a j) = ⟨#[80, 82, 85, 78, 69]⟩) (n5 : ¬ (C.p.sub a j) = ⟨#[83, 75, 73, 80]⟩) (n6 : ¬ (C.p.sub a j) = ⟨#[84, 72, 69, 78]⟩) (n7 : ¬ (C.p.sub a j) = ⟨#[77, 65, 82, 75]⟩) (n8 : (C.p.sub a j) = ⟨#[]⟩) (he : C.p.sub (j + 1) i = ⟨#[]⟩) : Calls Tryz.prog 73 #[.pointer (some ⟨C.L, 0, none⟩)] w (RP C w (tkp.one f (C.p.verb f a)) (PtOk C w T)) := by
 have hvf : verbF (C.p.sub a j) (C.p.sub (j + 1) i) true verbsT = none := by unfold verbsT; rw [verbF, if_neg n0]; rw [verbF, if_neg n1]; rw [verbF, if_neg n2]; rw [verbF, if_neg n3]; rw [verbF, if_neg n4]; rw [verbF, if_neg n5]; rw [verbF, if_neg n6]; rw [verbF, if_neg n7]; rw [verbF, if_pos n8]; simp [he]
 have hs : C.p.verb f a = .error (28, (f : Int)) := by
  unfold Pt.verb
  simp only [hu, hf]
  rw [show ((some j : Option Nat).isSome) = true from rfl, hvf]
 have HS := Lib.hid (show tkp.one f (C.p.verb f a) = .error (C.p.er 28 f) by rw [hs]; rfl)
 have bd := find_bd hu
 have hn := h.ok.n
 have tl := h.tl
 have an := h.an
 have hg := h.sl.1
 obtain ⟨wd, hwd⟩ : ∃ wd, (C.p.sub a j) = wd := ⟨_, rfl⟩
 rw [hwd] at n0 n1 n2 n3 n4 n5 n6 n7 n8
 have b0 := wn1 n0
 have b1 := wn2 n1
 have b2 := wn3 n2
 have b3 := wn4 n3
 have b4 := wn5 n4
 have b5 := wn6 n5
 have b6 := wn7 n6
 have b7 := wn8 n7
 have b8 := word_y (l := []) n8
 have b9 := emp_y n8
 obtain ⟨nm, hnm⟩ : ∃ nm, C.p.sub (j + 1) i = nm := ⟨_, rfl⟩
 have HNM := Lib.hid hnm
 rw [hnm] at he
 have c0 := word_y (l := []) he
 have c1 := emp_y he
 have HWD := Lib.hid hwd
 have HU := Lib.hid hu
 have HF := Lib.hid hf
 clear hs hu hf hvf hwd n0 n1 n2 n3 n4 n5 n6 n7 n8 hnm he
 have ix0 := vix_0
 have ix1 := vix_1
 have ix2 := vix_2
 have ix3 := vix_3
 have ix4 := vix_4
 have ix5 := vix_5
 have ix6 := vix_6
 have ix7 := vix_7
 have ix8 := vix_8
 have hk0 := Kept.refl w.heap.size C.L w
 have hB := h.hb
 go_enter Tryz.func73, Tryz.ntmps73
 go_wp2_with fail
 refine Calls.mono (until_any h 41) ?_
 intro e1 w1 hr
 rw [show ((41 : UInt8).toNat : Int) = 41 from rfl, HU.out] at hr
 obtain ⟨rfl, hx1, hkn⟩ := hr
 have hk1 := hk0.then hkn
 clear hkn
 go_wp2_with fail
 refine Calls.mono (cutStr_any hg a i 58 w1 (by omega)) ?_
 intro e2 w2 hr
 rw [show ((58 : UInt8).toNat : Int) = 58 from rfl, HF.out] at hr
 obtain ⟨⟨q2, rfl⟩, he2⟩ := hr
 simp only at he2
 subst he2
 have hx2 := hx1.drewN q2
 have hk2 := hk1.drewN q2
 generalize w1.drewN q2 = w2 at *
 rw [HWD.out]
 rw [HNM.out]
 obtain ⟨ty, fr, hve2⟩ := veAt_of hx2 hve
 go_wp2_with (refine wpList_load_row rfl 118 _ rfl 2 rfl ty _ fr _ hve2 Tryz.underlying118 rfl (by kernel_rfl) ?_)
 clear hve2
 refine wp_loop_rounds 10 ?_
 iterate 9 (rw [rounds_succ]; go_wp2_with fail)
 have hx3 := hx2.below (bz560 _)
 have hk3 := hk2.then (kz560 _)
 have hx4 := hx3.below (bz561 _)
 have hk4 := hk3.then (kz561 _)
 have hx5 := hx4.below (bz562 _)
 have hk5 := hk4.then (kz562 _)
 have hx6 := hx5.below (bz563 _)
 have hk6 := hk5.then (kz563 _)
 have hx7 := hx6.below (bz564 _)
 have hk7 := hk6.then (kz564 _)
 have hx8 := hx7.below (bz565 _)
 have hk8 := hk7.then (kz565 _)
 have hx9 := hx8.below (bz566 _)
 have hk9 := hk8.then (kz566 _)
 have hx10 := hx9.below (bz567 _)
 have hk10 := hk9.then (kz567 _)
 have hx11 := hx10.below (bz568 _)
 have hk11 := hk10.then (kz568 _)
 refine Calls.mono (fail_any hx11 28) ?_
 rintro e19 w19 ⟨rfl, hkn⟩
 exact ⟨rfl, rp_err HS.out ⟨rfl, (hk11.mono hB).trans hkn⟩⟩
set_option maxRecDepth 100000 in
set_option maxHeartbeats 4000000 in
theorem verb_8_nx (h : LX C w a f T) (hve : VeAt C.w0) {i : Nat} (hu : C.p.until 41 a = some i) {j : Nat} (hf : C.p.find 58 (i - a) a = some j) (n0 : ¬ (C.p.sub a j) = ⟨#[65, 67, 67, 69, 80, 84]⟩) (n1 : ¬ (C.p.sub a j) = ⟨#[70, 65, 73, 76]⟩) (n2 : ¬ (C.p.sub a j) = ⟨#[70]⟩) (n3 : ¬ (C.p.sub a j) = ⟨#[67, 79, 77, 77, 73, 84]⟩) (n4 : ¬ (C.p.sub a j) = ⟨#[80, 82, 85, 78, 69]⟩) (n5 : ¬ (C.p.sub a j) = ⟨#[83, 75, 73, 80]⟩) (n6 : ¬ (C.p.sub a j) = ⟨#[84, 72, 69, 78]⟩) (n7 : ¬ (C.p.sub a j) = ⟨#[77, 65, 82, 75]⟩) (n8 : (C.p.sub a j) = ⟨#[]⟩) (he : ¬ C.p.sub (j + 1) i = ⟨#[]⟩) : Calls Tryz.prog 73 #[.pointer (some ⟨C.L, 0, none⟩)] w (RP C w (tkp.one f (C.p.verb f a)) (PtOk C w T)) := by
 have hvf : verbF (C.p.sub a j) (C.p.sub (j + 1) i) true verbsT = some 7 := by unfold verbsT; rw [verbF, if_neg n0]; rw [verbF, if_neg n1]; rw [verbF, if_neg n2]; rw [verbF, if_neg n3]; rw [verbF, if_neg n4]; rw [verbF, if_neg n5]; rw [verbF, if_neg n6]; rw [verbF, if_neg n7]; rw [verbF, if_pos n8]; simp [he]
 have hs : C.p.verb f a = .ok ({ kind := 13, n := 7, name := (C.p.sub (j + 1) i) }, i + 1) := by
  unfold Pt.verb
  simp only [hu, hf]
  rw [show ((some j : Option Nat).isSome) = true from rfl, hvf]
 have HS := Lib.hid (show tkp.one f (C.p.verb f a) = .ok ([lay { kind := 13, n := 7, name := (C.p.sub (j + 1) i) } f (i + 1)], i + 1) by rw [hs]; rfl)
 have bd := find_bd hu
 have hn := h.ok.n
 have tl := h.tl
 have an := h.an
 have hg := h.sl.1
 obtain ⟨wd, hwd⟩ : ∃ wd, (C.p.sub a j) = wd := ⟨_, rfl⟩
 rw [hwd] at n0 n1 n2 n3 n4 n5 n6 n7 n8
 have b0 := wn1 n0
 have b1 := wn2 n1
 have b2 := wn3 n2
 have b3 := wn4 n3
 have b4 := wn5 n4
 have b5 := wn6 n5
 have b6 := wn7 n6
 have b7 := wn8 n7
 have b8 := word_y (l := []) n8
 have b9 := emp_y n8
 obtain ⟨nm, hnm⟩ : ∃ nm, C.p.sub (j + 1) i = nm := ⟨_, rfl⟩
 have HNM := Lib.hid hnm
 rw [hnm] at he
 have c0 := wn0 he
 have c1 := emp_n he
 have HWD := Lib.hid hwd
 have HU := Lib.hid hu
 have HF := Lib.hid hf
 clear hs hu hf hvf hwd n0 n1 n2 n3 n4 n5 n6 n7 n8 hnm he
 have ix0 := vix_0
 have ix1 := vix_1
 have ix2 := vix_2
 have ix3 := vix_3
 have ix4 := vix_4
 have ix5 := vix_5
 have ix6 := vix_6
 have ix7 := vix_7
 have ix8 := vix_8
 have hk0 := Kept.refl w.heap.size C.L w
 have hB := h.hb
 go_enter Tryz.func73, Tryz.ntmps73
 go_wp2_with fail
 refine Calls.mono (until_any h 41) ?_
 intro e1 w1 hr
 rw [show ((41 : UInt8).toNat : Int) = 41 from rfl, HU.out] at hr
 obtain ⟨rfl, hx1, hkn⟩ := hr
 have hk1 := hk0.then hkn
 clear hkn
 go_wp2_with fail
 refine Calls.mono (cutStr_any hg a i 58 w1 (by omega)) ?_
 intro e2 w2 hr
 rw [show ((58 : UInt8).toNat : Int) = 58 from rfl, HF.out] at hr
 obtain ⟨⟨q2, rfl⟩, he2⟩ := hr
 simp only at he2
 subst he2
 have hx2 := hx1.drewN q2
 have hk2 := hk1.drewN q2
 generalize w1.drewN q2 = w2 at *
 rw [HWD.out]
 rw [HNM.out]
 obtain ⟨ty, fr, hve2⟩ := veAt_of hx2 hve
 go_wp2_with (refine wpList_load_row rfl 118 _ rfl 2 rfl ty _ fr _ hve2 Tryz.underlying118 rfl (by kernel_rfl) ?_)
 clear hve2
 refine wp_loop_rounds 10 ?_
 iterate 9 (rw [rounds_succ]; go_wp2_with fail)
 have hx3 := hx2.below (bz560 _)
 have hk3 := hk2.then (kz560 _)
 have hx4 := hx3.below (bz561 _)
 have hk4 := hk3.then (kz561 _)
 have hx5 := hx4.below (bz562 _)
 have hk5 := hk4.then (kz562 _)
 have hx6 := hx5.below (bz563 _)
 have hk6 := hk5.then (kz563 _)
 have hx7 := hx6.below (bz564 _)
 have hk7 := hk6.then (kz564 _)
 have hx8 := hx7.below (bz565 _)
 have hk8 := hk7.then (kz565 _)
 have hx9 := hx8.below (bz566 _)
 have hk9 := hk8.then (kz566 _)
 have hx10 := hx9.below (bz567 _)
 have hk10 := hk9.then (kz567 _)
 have hx11 := hx10.below (bz568 _)
 have hk11 := hk10.then (kz568 _)
 refine Calls.mono (put_any hx11 (.slice none 0 0) { kind := 13, n := 7, name := nm } (ownR_nil _ _) (by omega)) ?_
 intro e18 w18 hr
 have HPP := Lib.hid (ptOk_put hr (hk11.mono hB))
 obtain ⟨rfl, _, _⟩ := hr
 go_wp2_with fail
 go_end0
 rw [HNM.out] at HS
 exact rp_ok HS.out HPP.out
set_option maxRecDepth 100000 in
set_option maxHeartbeats 4000000 in
theorem verb_9_u (h : LX C w a f T) (hve : VeAt C.w0) {i : Nat} (hu : C.p.until 41 a = some i) (hf : C.p.find 58 (i - a) a = none) (n0 : ¬ (C.p.sub a i) = ⟨#[65, 67, 67, 69, 80, 84]⟩) (n1 : ¬ (C.p.sub a i) = ⟨#[70, 65, 73, 76]⟩) (n2 : ¬ (C.p.sub a i) = ⟨#[70]⟩) (n3 : ¬ (C.p.sub a i) = ⟨#[67, 79, 77, 77, 73, 84]⟩) (n4 : ¬ (C.p.sub a i) = ⟨#[80, 82, 85, 78, 69]⟩) (n5 : ¬ (C.p.sub a i) = ⟨#[83, 75, 73, 80]⟩) (n6 : ¬ (C.p.sub a i) = ⟨#[84, 72, 69, 78]⟩) (n7 : ¬ (C.p.sub a i) = ⟨#[77, 65, 82, 75]⟩) (n8 : ¬ (C.p.sub a i) = ⟨#[]⟩) : Calls Tryz.prog 73 #[.pointer (some ⟨C.L, 0, none⟩)] w (RP C w (tkp.one f (C.p.verb f a)) (PtOk C w T)) := by
 have hvf : verbF (C.p.sub a i) ⟨#[]⟩ false verbsT = none := by unfold verbsT; rw [verbF, if_neg n0]; rw [verbF, if_neg n1]; rw [verbF, if_neg n2]; rw [verbF, if_neg n3]; rw [verbF, if_neg n4]; rw [verbF, if_neg n5]; rw [verbF, if_neg n6]; rw [verbF, if_neg n7]; rw [verbF, if_neg n8]; rfl
 have hs : C.p.verb f a = .error (28, (f : Int)) := by
  unfold Pt.verb
  simp only [hu, hf]
  rw [show ((none : Option Nat).isSome) = false from rfl, hvf]
 have HS := Lib.hid (show tkp.one f (C.p.verb f a) = .error (C.p.er 28 f) by rw [hs]; rfl)
 have bd := find_bd hu
 have hn := h.ok.n
 have tl := h.tl
 have an := h.an
 have hg := h.sl.1
 obtain ⟨wd, hwd⟩ : ∃ wd, (C.p.sub a i) = wd := ⟨_, rfl⟩
 rw [hwd] at n0 n1 n2 n3 n4 n5 n6 n7 n8
 have b0 := wn1 n0
 have b1 := wn2 n1
 have b2 := wn3 n2
 have b3 := wn4 n3
 have b4 := wn5 n4
 have b5 := wn6 n5
 have b6 := wn7 n6
 have b7 := wn8 n7
 have b8 := wn0 n8
 have b9 := emp_n n8
 have HWD := Lib.hid hwd
 have HU := Lib.hid hu
 have HF := Lib.hid hf
 clear hs hu hf hvf hwd n0 n1 n2 n3 n4 n5 n6 n7 n8
 have ix0 := vix_0
 have ix1 := vix_1
 have ix2 := vix_2
 have ix3 := vix_3
 have ix4 := vix_4
 have ix5 := vix_5
 have ix6 := vix_6
 have ix7 := vix_7
 have ix8 := vix_8
 have hk0 := Kept.refl w.heap.size C.L w
 have hB := h.hb
 go_enter Tryz.func73, Tryz.ntmps73
 go_wp2_with fail
 refine Calls.mono (until_any h 41) ?_
 intro e1 w1 hr
 rw [show ((41 : UInt8).toNat : Int) = 41 from rfl, HU.out] at hr
 obtain ⟨rfl, hx1, hkn⟩ := hr
 have hk1 := hk0.then hkn
 clear hkn
 go_wp2_with fail
 refine Calls.mono (cutStr_any hg a i 58 w1 (by omega)) ?_
 intro e2 w2 hr
 rw [show ((58 : UInt8).toNat : Int) = 58 from rfl, HF.out] at hr
 obtain ⟨⟨q2, rfl⟩, he2⟩ := hr
 simp only at he2
 subst he2
 have hx2 := hx1.drewN q2
 have hk2 := hk1.drewN q2
 generalize w1.drewN q2 = w2 at *
 rw [HWD.out]
 obtain ⟨ty, fr, hve2⟩ := veAt_of hx2 hve
 go_wp2_with (refine wpList_load_row rfl 118 _ rfl 2 rfl ty _ fr _ hve2 Tryz.underlying118 rfl (by kernel_rfl) ?_)
 clear hve2
 refine wp_loop_rounds 10 ?_
 iterate 10 (rw [rounds_succ]; go_wp2_with fail)
 have hx3 := hx2.below (bz560 _)
 have hk3 := hk2.then (kz560 _)
 have hx4 := hx3.below (bz561 _)
 have hk4 := hk3.then (kz561 _)
 have hx5 := hx4.below (bz562 _)
 have hk5 := hk4.then (kz562 _)
 have hx6 := hx5.below (bz563 _)
 have hk6 := hk5.then (kz563 _)
 have hx7 := hx6.below (bz564 _)
 have hk7 := hk6.then (kz564 _)
 have hx8 := hx7.below (bz565 _)
 have hk8 := hk7.then (kz565 _)
 have hx9 := hx8.below (bz566 _)
 have hk9 := hk8.then (kz566 _)
 have hx10 := hx9.below (bz567 _)
 have hk10 := hk9.then (kz567 _)
 have hx11 := hx10.below (bz568 _)
 have hk11 := hk10.then (kz568 _)
 refine Calls.mono (fail_any hx11 28) ?_
 rintro e19 w19 ⟨rfl, hkn⟩
 exact ⟨rfl, rp_err HS.out ⟨rfl, (hk11.mono hB).trans hkn⟩⟩
set_option maxRecDepth 100000 in
set_option maxHeartbeats 4000000 in
theorem verb_9_n (h : LX C w a f T) (hve : VeAt C.w0) {i : Nat} (hu : C.p.until 41 a = some i) {j : Nat} (hf : C.p.find 58 (i - a) a = some j) (n0 : ¬ (C.p.sub a j) = ⟨#[65, 67, 67, 69, 80, 84]⟩) (n1 : ¬ (C.p.sub a j) = ⟨#[70, 65, 73, 76]⟩) (n2 : ¬ (C.p.sub a j) = ⟨#[70]⟩) (n3 : ¬ (C.p.sub a j) = ⟨#[67, 79, 77, 77, 73, 84]⟩) (n4 : ¬ (C.p.sub a j) = ⟨#[80, 82, 85, 78, 69]⟩) (n5 : ¬ (C.p.sub a j) = ⟨#[83, 75, 73, 80]⟩) (n6 : ¬ (C.p.sub a j) = ⟨#[84, 72, 69, 78]⟩) (n7 : ¬ (C.p.sub a j) = ⟨#[77, 65, 82, 75]⟩) (n8 : ¬ (C.p.sub a j) = ⟨#[]⟩) : Calls Tryz.prog 73 #[.pointer (some ⟨C.L, 0, none⟩)] w (RP C w (tkp.one f (C.p.verb f a)) (PtOk C w T)) := by
 have hvf : verbF (C.p.sub a j) (C.p.sub (j + 1) i) true verbsT = none := by unfold verbsT; rw [verbF, if_neg n0]; rw [verbF, if_neg n1]; rw [verbF, if_neg n2]; rw [verbF, if_neg n3]; rw [verbF, if_neg n4]; rw [verbF, if_neg n5]; rw [verbF, if_neg n6]; rw [verbF, if_neg n7]; rw [verbF, if_neg n8]; rfl
 have hs : C.p.verb f a = .error (28, (f : Int)) := by
  unfold Pt.verb
  simp only [hu, hf]
  rw [show ((some j : Option Nat).isSome) = true from rfl, hvf]
 have HS := Lib.hid (show tkp.one f (C.p.verb f a) = .error (C.p.er 28 f) by rw [hs]; rfl)
 have bd := find_bd hu
 have hn := h.ok.n
 have tl := h.tl
 have an := h.an
 have hg := h.sl.1
 obtain ⟨wd, hwd⟩ : ∃ wd, (C.p.sub a j) = wd := ⟨_, rfl⟩
 rw [hwd] at n0 n1 n2 n3 n4 n5 n6 n7 n8
 have b0 := wn1 n0
 have b1 := wn2 n1
 have b2 := wn3 n2
 have b3 := wn4 n3
 have b4 := wn5 n4
 have b5 := wn6 n5
 have b6 := wn7 n6
 have b7 := wn8 n7
 have b8 := wn0 n8
 have b9 := emp_n n8
 obtain ⟨nm, hnm⟩ : ∃ nm, C.p.sub (j + 1) i = nm := ⟨_, rfl⟩
 have HNM := Lib.hid hnm
 have HWD := Lib.hid hwd
 have HU := Lib.hid hu
 have HF := Lib.hid hf
 clear hs hu hf hvf hwd n0 n1 n2 n3 n4 n5 n6 n7 n8 hnm
 have ix0 := vix_0
 have ix1 := vix_1
 have ix2 := vix_2
 have ix3 := vix_3
 have ix4 := vix_4
 have ix5 := vix_5
 have ix6 := vix_6
 have ix7 := vix_7
 have ix8 := vix_8
 have hk0 := Kept.refl w.heap.size C.L w
 have hB := h.hb
 go_enter Tryz.func73, Tryz.ntmps73
 go_wp2_with fail
 refine Calls.mono (until_any h 41) ?_
 intro e1 w1 hr
 rw [show ((41 : UInt8).toNat : Int) = 41 from rfl, HU.out] at hr
 obtain ⟨rfl, hx1, hkn⟩ := hr
 have hk1 := hk0.then hkn
 clear hkn
 go_wp2_with fail
 refine Calls.mono (cutStr_any hg a i 58 w1 (by omega)) ?_
 intro e2 w2 hr
 rw [show ((58 : UInt8).toNat : Int) = 58 from rfl, HF.out] at hr
 obtain ⟨⟨q2, rfl⟩, he2⟩ := hr
 simp only at he2
 subst he2
 have hx2 := hx1.drewN q2
 have hk2 := hk1.drewN q2
 generalize w1.drewN q2 = w2 at *
 rw [HWD.out]
 rw [HNM.out]
 obtain ⟨ty, fr, hve2⟩ := veAt_of hx2 hve
 go_wp2_with (refine wpList_load_row rfl 118 _ rfl 2 rfl ty _ fr _ hve2 Tryz.underlying118 rfl (by kernel_rfl) ?_)
 clear hve2
 refine wp_loop_rounds 10 ?_
 iterate 10 (rw [rounds_succ]; go_wp2_with fail)
 have hx3 := hx2.below (bz560 _)
 have hk3 := hk2.then (kz560 _)
 have hx4 := hx3.below (bz561 _)
 have hk4 := hk3.then (kz561 _)
 have hx5 := hx4.below (bz562 _)
 have hk5 := hk4.then (kz562 _)
 have hx6 := hx5.below (bz563 _)
 have hk6 := hk5.then (kz563 _)
 have hx7 := hx6.below (bz564 _)
 have hk7 := hk6.then (kz564 _)
 have hx8 := hx7.below (bz565 _)
 have hk8 := hk7.then (kz565 _)
 have hx9 := hx8.below (bz566 _)
 have hk9 := hk8.then (kz566 _)
 have hx10 := hx9.below (bz567 _)
 have hk10 := hk9.then (kz567 _)
 have hx11 := hx10.below (bz568 _)
 have hk11 := hk10.then (kz568 _)
 refine Calls.mono (fail_any hx11 28) ?_
 rintro e19 w19 ⟨rfl, hkn⟩
 exact ⟨rfl, rp_err HS.out ⟨rfl, (hk11.mono hB).trans hkn⟩⟩
set_option maxRecDepth 100000 in
set_option maxHeartbeats 2000000 in
theorem verb_z (h : LX C w a f T) (hu : C.p.until 41 a = none) : Calls Tryz.prog 73 #[.pointer (some ⟨C.L, 0, none⟩)] w (RP C w (tkp.one f (C.p.verb f a)) (PtOk C w T)) := by
 have HS := Lib.hid (show tkp.one f (C.p.verb f a) = .error (C.p.er 20 f) by unfold Pt.verb; simp only [hu]; rfl)
 have HU := Lib.hid hu
 clear hu
 have hk0 := Kept.refl w.heap.size C.L w
 have hB := h.hb
 go_enter Tryz.func73, Tryz.ntmps73
 go_wp2_with fail
 refine Calls.mono (until_any h 41) ?_
 intro e1 w1 hr
 rw [show ((41 : UInt8).toNat : Int) = 41 from rfl, HU.out] at hr
 obtain ⟨rfl, hx1, hkn⟩ := hr
 have hk1 := hk0.then hkn
 clear hkn
 go_wp2_with fail
 refine Calls.mono (fail_any hx1 20) ?_
 rintro e19 w19 ⟨rfl, hkn⟩
 exact ⟨rfl, rp_err HS.out ⟨rfl, (hk1.mono hB).trans hkn⟩⟩
theorem verb_any (h : LX C w a f T) (hve : VeAt C.w0) : Calls Tryz.prog 73 #[.pointer (some ⟨C.L, 0, none⟩)] w (RP C w (tkp.one f (C.p.verb f a)) (PtOk C w T)) := by
 cases hu : C.p.until 41 a with
 | none => exact verb_z h hu
 | some i =>
  cases hf : C.p.find 58 (i - a) a with
  | none =>
   by_cases n0 : C.p.sub a i = ⟨#[65, 67, 67, 69, 80, 84]⟩
   ·exact verb_0_u h hve hu hf n0
   by_cases n1 : C.p.sub a i = ⟨#[70, 65, 73, 76]⟩
   ·exact verb_1_u h hve hu hf n0 n1
   by_cases n2 : C.p.sub a i = ⟨#[70]⟩
   ·exact verb_2_u h hve hu hf n0 n1 n2
   by_cases n3 : C.p.sub a i = ⟨#[67, 79, 77, 77, 73, 84]⟩
   ·exact verb_3_u h hve hu hf n0 n1 n2 n3
   by_cases n4 : C.p.sub a i = ⟨#[80, 82, 85, 78, 69]⟩
   ·exact verb_4_u h hve hu hf n0 n1 n2 n3 n4
   by_cases n5 : C.p.sub a i = ⟨#[83, 75, 73, 80]⟩
   ·exact verb_5_u h hve hu hf n0 n1 n2 n3 n4 n5
   by_cases n6 : C.p.sub a i = ⟨#[84, 72, 69, 78]⟩
   ·exact verb_6_u h hve hu hf n0 n1 n2 n3 n4 n5 n6
   by_cases n7 : C.p.sub a i = ⟨#[77, 65, 82, 75]⟩
   ·exact verb_7_u h hve hu hf n0 n1 n2 n3 n4 n5 n6 n7
   by_cases n8 : C.p.sub a i = ⟨#[]⟩
   ·exact verb_8_u h hve hu hf n0 n1 n2 n3 n4 n5 n6 n7 n8
   exact verb_9_u h hve hu hf n0 n1 n2 n3 n4 n5 n6 n7 n8
  | some j =>
   by_cases n0 : C.p.sub a j = ⟨#[65, 67, 67, 69, 80, 84]⟩
   ·exact verb_0_n h hve hu hf n0
   by_cases n1 : C.p.sub a j = ⟨#[70, 65, 73, 76]⟩
   ·exact verb_1_n h hve hu hf n0 n1
   by_cases n2 : C.p.sub a j = ⟨#[70]⟩
   ·exact verb_2_n h hve hu hf n0 n1 n2
   by_cases n3 : C.p.sub a j = ⟨#[67, 79, 77, 77, 73, 84]⟩
   ·by_cases he : C.p.sub (j + 1) i = ⟨#[]⟩
    ·exact verb_3_ne h hve hu hf n0 n1 n2 n3 he
    ·exact verb_3_nx h hve hu hf n0 n1 n2 n3 he
   by_cases n4 : C.p.sub a j = ⟨#[80, 82, 85, 78, 69]⟩
   ·by_cases he : C.p.sub (j + 1) i = ⟨#[]⟩
    ·exact verb_4_ne h hve hu hf n0 n1 n2 n3 n4 he
    ·exact verb_4_nx h hve hu hf n0 n1 n2 n3 n4 he
   by_cases n5 : C.p.sub a j = ⟨#[83, 75, 73, 80]⟩
   ·by_cases he : C.p.sub (j + 1) i = ⟨#[]⟩
    ·exact verb_5_ne h hve hu hf n0 n1 n2 n3 n4 n5 he
    ·exact verb_5_nx h hve hu hf n0 n1 n2 n3 n4 n5 he
   by_cases n6 : C.p.sub a j = ⟨#[84, 72, 69, 78]⟩
   ·by_cases he : C.p.sub (j + 1) i = ⟨#[]⟩
    ·exact verb_6_ne h hve hu hf n0 n1 n2 n3 n4 n5 n6 he
    ·exact verb_6_nx h hve hu hf n0 n1 n2 n3 n4 n5 n6 he
   by_cases n7 : C.p.sub a j = ⟨#[77, 65, 82, 75]⟩
   ·by_cases he : C.p.sub (j + 1) i = ⟨#[]⟩
    ·exact verb_7_ne h hve hu hf n0 n1 n2 n3 n4 n5 n6 n7 he
    ·exact verb_7_nx h hve hu hf n0 n1 n2 n3 n4 n5 n6 n7 he
   by_cases n8 : C.p.sub a j = ⟨#[]⟩
   ·by_cases he : C.p.sub (j + 1) i = ⟨#[]⟩
    ·exact verb_8_ne h hve hu hf n0 n1 n2 n3 n4 n5 n6 n7 n8 he
    ·exact verb_8_nx h hve hu hf n0 n1 n2 n3 n4 n5 n6 n7 n8 he
   exact verb_9_n h hve hu hf n0 n1 n2 n3 n4 n5 n6 n7 n8
theorem verbOk {C : Cf} (hve : VeAt C.w0) : VerbOk C := fun _ _ _ _ h _ => verb_any h hve
end Go.Proofs.YtkcmjcgjfjfimaaGreatDoor.tkw
end
