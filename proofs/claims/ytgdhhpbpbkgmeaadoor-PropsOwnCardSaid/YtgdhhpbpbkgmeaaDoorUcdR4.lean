/- The contracts of the document's Others and Same. -/
import Derived.Test.YtgdhhpbpbkgmeaaDoorUcdR3
import Derived.Test.YtgdhhpbpbkgmeaaDoorUcdW5
import Derived.Deep.QuietTactic
import Derived.BigQuiet
namespace Go.Proofs.YtgdhhpbpbkgmeaaDoor.ucdw
open Go Go.RowKit Go.Proofs.YtgdhhpbpbkgmeaaDoor.bulk Go.Proofs.YtgdhhpbpbkgmeaaDoor.ucdp

theorem intsB_two {x y : Int} {w w' : World} (hb : Below w.heap.size w w') (T : TypeId) : IntsB [x, y] w (.returned (.slice (some ⟨w'.heap.size, 0, none⟩) 2 2)) (w'.alloc (.cells #[.int .i64 x, .int .i64 y] T)) := by
  refine ⟨_, rfl, Or.inr ⟨by simp, _, 2, rfl, hb.size, by simp, by simp, by omega, fun i hi => ?_⟩, below_trans hb (below_alloc _ _)⟩
  have h0 : i = 0 ∨ i = 1 := by simp at hi; omega
  rcases h0 with rfl | rfl <;> simp
theorem intsB_one' {l : List Int} {x : Int} {n : Nat} {w w' : World} (h : l = [x]) (hb : Below w.heap.size w w') (hn : n = w'.heap.size) (T : TypeId) : IntsB l w (.returned (.slice (some ⟨n, 0, none⟩) 1 1)) (w'.alloc (.cells #[.int .i64 x] T)) := by
  subst hn; exact intsB_one h hb T
theorem others_f_low {c : Int} (h1 : 65 ≤ c) (h2 : c ≤ 90) : othersP c false = [c + 32] := by unfold othersP; rw [if_pos rfl, if_pos ⟨h1, h2⟩]
theorem others_f_high {c : Int} (h1 : 97 ≤ c) (h2 : c ≤ 122) : othersP c false = [c - 32] := by unfold othersP; rw [if_pos rfl, if_neg (by omega), if_pos ⟨h1, h2⟩]
theorem others_f_none {c : Int} (h1 : ¬ (65 ≤ c ∧ c ≤ 90)) (h2 : ¬ (97 ≤ c ∧ c ≤ 122)) : othersP c false = [] := by unfold othersP; rw [if_pos rfl, if_neg h1, if_neg h2]

set_option maxHeartbeats 2000000 in
theorem rothers_f (c : Int) (w : World) : Calls Tryd.prog 50 #[.int .i64 c, .bool false] w (IntsB (othersP c false) w) := by
  have h : (65 ≤ c ∧ c ≤ 90) ∨ (97 ≤ c ∧ c ≤ 122) ∨ c < 65 ∨ (90 < c ∧ c < 97) ∨ 122 < c := by omega
  rcases h with ⟨h1, h2⟩ | ⟨h1, h2⟩ | h | ⟨h1, h2⟩ | h
  · have HE := Lib.hid (others_f_low h1 h2)
    go_enter Tryd.func50, Tryd.ntmps50
    go_wp2_with fail
    go_ret
    exact intsB_one HE.out (Below.refl _ _) _
  · have HE := Lib.hid (others_f_high h1 h2)
    go_enter Tryd.func50, Tryd.ntmps50
    go_wp2_with fail
    go_ret
    exact intsB_one HE.out (Below.refl _ _) _
  · have HE := Lib.hid (others_f_none (c := c) (by omega) (by omega))
    go_enter Tryd.func50, Tryd.ntmps50
    go_wp2_with fail
    go_ret
    exact intsB_nil HE.out (Below.refl _ _)
  · have HE := Lib.hid (others_f_none (c := c) (by omega) (by omega))
    go_enter Tryd.func50, Tryd.ntmps50
    go_wp2_with fail
    go_ret
    exact intsB_nil HE.out (Below.refl _ _)
  · have HE := Lib.hid (others_f_none (c := c) (by omega) (by omega))
    go_enter Tryd.func50, Tryd.ntmps50
    go_wp2_with fail
    go_ret
    exact intsB_nil HE.out (Below.refl _ _)
set_option maxRecDepth 100000 in
set_option maxHeartbeats 4000000 in
theorem rothers_t0 (c : Int) (w : World) (hS : Single c) : Calls Tryd.prog 50 #[.int .i64 c, .bool true] w (IntsB (othersP c true) w) := by
  have hE := others_single hS
  obtain ⟨a, b, hF⟩ := of_vals c w
  have hs := shift_bd c
  have hp := @shift_small c
  obtain ⟨⟨k, s, o⟩, hr⟩ : ∃ r, cls c = r := ⟨_, rfl⟩
  rw [hr] at hE hF hs hp
  simp only at hE hF hs hp
  obtain ⟨hs1, hs2⟩ := hs
  have HF := Lib.hid hF
  have HE := Lib.hid hE
  have Hp := Lib.hid hp
  clear hF hr hE hp
  obtain ⟨q1, q2, q3, q4, q5, q6, q7, q8, q9, q10, q11, q12⟩ := hS
  have e1 : (c == 75) = false := by simpa using q1
  have e2 : (c == 107) = false := by simpa using q2
  have e3 : (c == 8490) = false := by simpa using q3
  have e4 : (c == 83) = false := by simpa using q4
  have e5 : (c == 115) = false := by simpa using q5
  have e6 : (c == 383) = false := by simpa using q6
  have e7 : (c == 181) = false := by simpa using q7
  have e8 : (c == 924) = false := by simpa using q8
  have e9 : (c == 956) = false := by simpa using q9
  have e10 : (c == 931) = false := by simpa using q10
  have e11 : (c == 962) = false := by simpa using q11
  have e12 : (c == 963) = false := by simpa using q12
  clear q1 q2 q3 q4 q5 q6 q7 q8 q9 q10 q11 q12
  go_enter Tryd.func50, Tryd.ntmps50
  go_wp2_with fail
  refine HF.out.mono ?_
  rintro e w1 ⟨rfl, hb1⟩
  by_cases h0 : o = 0
  · subst h0
    have HE0 := Lib.hid (HE.out.trans (if_pos rfl))
    go_wp2_with fail
    go_ret
    exact intsB_nil HE0.out (below_trans hb1 (below_alloc _ _))
  · have HE0 := Lib.hid (HE.out.trans (if_neg h0))
    have h0b : (o != 0) = true := by simpa using h0
    obtain ⟨hp1, hp2⟩ := Hp.out h0
    clear h0
    go_wp2_with fail
    go_ret
    exact intsB_one' HE0.out (below_trans hb1 (below_alloc _ _)) (by simp) _
set_option maxRecDepth 100000 in
set_option maxHeartbeats 4000000 in
theorem rothers_m75 (w : World) : Calls Tryd.prog 50 #[.int .i64 75, .bool true] w (IntsB [107, 8490] w) := by
  go_enter Tryd.func50, Tryd.ntmps50
  go_wp2_with fail
  go_ret
  exact intsB_two (Below.refl _ _) _
set_option maxRecDepth 100000 in
set_option maxHeartbeats 4000000 in
theorem rothers_m107 (w : World) : Calls Tryd.prog 50 #[.int .i64 107, .bool true] w (IntsB [75, 8490] w) := by
  go_enter Tryd.func50, Tryd.ntmps50
  go_wp2_with fail
  go_ret
  exact intsB_two (Below.refl _ _) _
set_option maxRecDepth 100000 in
set_option maxHeartbeats 4000000 in
theorem rothers_m8490 (w : World) : Calls Tryd.prog 50 #[.int .i64 8490, .bool true] w (IntsB [75, 107] w) := by
  go_enter Tryd.func50, Tryd.ntmps50
  go_wp2_with fail
  go_ret
  exact intsB_two (Below.refl _ _) _
set_option maxRecDepth 100000 in
set_option maxHeartbeats 4000000 in
theorem rothers_m83 (w : World) : Calls Tryd.prog 50 #[.int .i64 83, .bool true] w (IntsB [115, 383] w) := by
  go_enter Tryd.func50, Tryd.ntmps50
  go_wp2_with fail
  go_ret
  exact intsB_two (Below.refl _ _) _
set_option maxRecDepth 100000 in
set_option maxHeartbeats 4000000 in
theorem rothers_m115 (w : World) : Calls Tryd.prog 50 #[.int .i64 115, .bool true] w (IntsB [83, 383] w) := by
  go_enter Tryd.func50, Tryd.ntmps50
  go_wp2_with fail
  go_ret
  exact intsB_two (Below.refl _ _) _
set_option maxRecDepth 100000 in
set_option maxHeartbeats 4000000 in
theorem rothers_m383 (w : World) : Calls Tryd.prog 50 #[.int .i64 383, .bool true] w (IntsB [83, 115] w) := by
  go_enter Tryd.func50, Tryd.ntmps50
  go_wp2_with fail
  go_ret
  exact intsB_two (Below.refl _ _) _
set_option maxRecDepth 100000 in
set_option maxHeartbeats 4000000 in
theorem rothers_m181 (w : World) : Calls Tryd.prog 50 #[.int .i64 181, .bool true] w (IntsB [924, 956] w) := by
  go_enter Tryd.func50, Tryd.ntmps50
  go_wp2_with fail
  go_ret
  exact intsB_two (Below.refl _ _) _
set_option maxRecDepth 100000 in
set_option maxHeartbeats 4000000 in
theorem rothers_m924 (w : World) : Calls Tryd.prog 50 #[.int .i64 924, .bool true] w (IntsB [181, 956] w) := by
  go_enter Tryd.func50, Tryd.ntmps50
  go_wp2_with fail
  go_ret
  exact intsB_two (Below.refl _ _) _
set_option maxRecDepth 100000 in
set_option maxHeartbeats 4000000 in
theorem rothers_m956 (w : World) : Calls Tryd.prog 50 #[.int .i64 956, .bool true] w (IntsB [181, 924] w) := by
  go_enter Tryd.func50, Tryd.ntmps50
  go_wp2_with fail
  go_ret
  exact intsB_two (Below.refl _ _) _
set_option maxRecDepth 100000 in
set_option maxHeartbeats 4000000 in
theorem rothers_m931 (w : World) : Calls Tryd.prog 50 #[.int .i64 931, .bool true] w (IntsB [962, 963] w) := by
  go_enter Tryd.func50, Tryd.ntmps50
  go_wp2_with fail
  go_ret
  exact intsB_two (Below.refl _ _) _
set_option maxRecDepth 100000 in
set_option maxHeartbeats 4000000 in
theorem rothers_m962 (w : World) : Calls Tryd.prog 50 #[.int .i64 962, .bool true] w (IntsB [931, 963] w) := by
  go_enter Tryd.func50, Tryd.ntmps50
  go_wp2_with fail
  go_ret
  exact intsB_two (Below.refl _ _) _
set_option maxRecDepth 100000 in
set_option maxHeartbeats 4000000 in
theorem rothers_m963 (w : World) : Calls Tryd.prog 50 #[.int .i64 963, .bool true] w (IntsB [931, 962] w) := by
  go_enter Tryd.func50, Tryd.ntmps50
  go_wp2_with fail
  go_ret
  exact intsB_two (Below.refl _ _) _

theorem rothers_any (c : Int) (u : Bool) (w : World) : Calls Tryd.prog 50 #[.int .i64 c, .bool u] w (IntsB (othersP c u) w) := by
  cases u with
  | false => exact rothers_f c w
  | true =>
    by_cases e75 : c = 75
    · subst e75
      exact rothers_m75 w
    by_cases e107 : c = 107
    · subst e107
      exact rothers_m107 w
    by_cases e8490 : c = 8490
    · subst e8490
      exact rothers_m8490 w
    by_cases e83 : c = 83
    · subst e83
      exact rothers_m83 w
    by_cases e115 : c = 115
    · subst e115
      exact rothers_m115 w
    by_cases e383 : c = 383
    · subst e383
      exact rothers_m383 w
    by_cases e181 : c = 181
    · subst e181
      exact rothers_m181 w
    by_cases e924 : c = 924
    · subst e924
      exact rothers_m924 w
    by_cases e956 : c = 956
    · subst e956
      exact rothers_m956 w
    by_cases e931 : c = 931
    · subst e931
      exact rothers_m931 w
    by_cases e962 : c = 962
    · subst e962
      exact rothers_m962 w
    by_cases e963 : c = 963
    · subst e963
      exact rothers_m963 w
    exact rothers_t0 c w ⟨e75, e107, e8490, e83, e115, e383, e181, e924, e956, e931, e962, e963⟩
end Go.Proofs.YtgdhhpbpbkgmeaaDoor.ucdw
