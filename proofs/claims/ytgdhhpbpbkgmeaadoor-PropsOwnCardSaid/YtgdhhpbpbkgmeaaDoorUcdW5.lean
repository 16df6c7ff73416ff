/- The contract of package ucd's Others: the document's other cases, in new memory. -/
import Derived.Test.YtgdhhpbpbkgmeaaDoorUcdW4
import Derived.Deep.QuietTactic
namespace Go.Proofs.YtgdhhpbpbkgmeaaDoor.ucdw
open Go Go.RowKit Go.Proofs.YtgdhhpbpbkgmeaaDoor.bulk Go.Proofs.YtgdhhpbpbkgmeaaDoor.ucdp

/-- the sets of three, one behind the other -/
def threes : List Int := [75, 107, 8490, 83, 115, 383, 181, 924, 956, 931, 962, 963]
/-- the table of package ucd holds the sets of three -/
def Tab3 (w : World) : Prop := ∀ i, i < 12 → w.cell? ⟨0, i, none⟩ = some (.int .i64 (threes.getD i 0))
theorem below_tab {w w' : World} (h : Below w.heap.size w w') (hT : Tab3 w) : Tab3 w' := fun i hi => below_cell h (hT i hi)
theorem others_great {c : Int} (h : 127 < c) : othersP c false = [] := by
  unfold othersP
  rw [if_pos rfl, if_neg (by omega), if_neg (by omega)]
theorem others_small {c : Int} (h : c ≤ 127) : othersP c false = if (cls c).2.2 = 0 then [] else [c + (cls c).2.2] := by
  by_cases h0 : c < 0
  · have hs : (cls c).2.2 = 0 := by
      apply Classical.byContradiction
      intro h
      have := shift_small h
      omega
    unfold othersP
    rw [if_pos rfl, if_neg (by omega), if_neg (by omega), if_pos hs]
  · have all : ∀ i : Fin 128, othersP (i.val : Int) false = if (cls (i.val : Int)).2.2 = 0 then [] else [(i.val : Int) + (cls (i.val : Int)).2.2] := by decide +kernel
    have := all ⟨c.toNat, by omega⟩
    rw [show ((c.toNat : Nat) : Int) = c by omega] at this
    exact this
theorem intsB_nil {l : List Int} {w w' : World} (h : l = []) (hb : Below w.heap.size w w') : IntsB l w (.returned (.slice none 0 0)) w' := by
  subst h
  exact ⟨_, rfl, Or.inl ⟨rfl, rfl⟩, hb⟩
theorem intsB_one {l : List Int} {x : Int} {w w' : World} (h : l = [x]) (hb : Below w.heap.size w w') (T : TypeId) : IntsB l w (.returned (.slice (some ⟨w'.heap.size, 0, none⟩) 1 1)) (w'.alloc (.cells #[.int .i64 x] T)) := by
  subst h
  refine ⟨_, rfl, Or.inr ⟨by simp, _, 1, rfl, hb.size, by simp, by simp, by omega, fun i hi => ?_⟩, below_trans hb (below_alloc _ _)⟩
  have h0 : i = 0 := by simpa using hi
  subst h0
  simp

theorem intsAt_mono {b b' : Nat} {w : World} {v : Value} {l : List Int} (h : b ≤ b') (hv : IntsAt b' w v l) : IntsAt b w v l := by
  rcases hv with hv | ⟨hl, g, cap, e, hg, r⟩
  · exact Or.inl hv
  · exact Or.inr ⟨hl, g, cap, e, Nat.le_trans h hg, r⟩

theorem intsAt_below {b : Nat} {w w' : World} {v : Value} {l : List Int} (h : Below w.heap.size w w') (hv : IntsAt b w v l) : IntsAt b w' v l := by
  rcases hv with hv | ⟨hl, g, cap, e, hg, hg2, h3, h4, hc⟩
  · exact Or.inl hv
  · exact Or.inr ⟨hl, g, cap, e, hg, Nat.lt_of_lt_of_le hg2 h.size, h3, h4, fun i hi => below_cell h (hc i hi)⟩
theorem below_drewN {w w' : World} (h : Below w.heap.size w w') (n : Nat) : Below w.heap.size w (w'.drewN n) := ⟨h.os, h.tape, h.output, h.size, h.block⟩
theorem ints_two {b : Nat} {w : World} {v : Value} {x y : Int} (h : IntsAt b w v [x, y]) : ∃ g cap : Nat, v = .slice (some ⟨g, 0, none⟩) 2 cap ∧ 2 ≤ cap ∧ cap ≤ 9223372036854775807 ∧ w.cell? ⟨g, 0, none⟩ = some (.int .i64 x) ∧ w.cell? ⟨g, 1, none⟩ = some (.int .i64 y) := by
  rcases h with ⟨h, _⟩ | ⟨_, g, cap, e, _, _, h3, h4, hc⟩
  · cases h
  · exact ⟨g, cap, e, h3, h4, hc 0 (by simp), hc 1 (by simp)⟩
theorem ints_one {b : Nat} {w : World} {v : Value} {x : Int} (h : IntsAt b w v [x]) : ∃ g cap : Nat, v = .slice (some ⟨g, 0, none⟩) 1 cap ∧ 1 ≤ cap ∧ cap ≤ 9223372036854775807 ∧ w.cell? ⟨g, 0, none⟩ = some (.int .i64 x) := by
  rcases h with ⟨h, _⟩ | ⟨_, g, cap, e, _, _, h3, h4, hc⟩
  · cases h
  · exact ⟨g, cap, e, h3, h4, hc 0 (by simp)⟩
theorem ints_none {b : Nat} {w : World} {v : Value} (h : IntsAt b w v []) : v = .slice none 0 0 := by
  rcases h with ⟨_, h⟩ | ⟨h, _⟩
  · exact h
  · exact absurd rfl h
theorem ints_head {b : Nat} {w : World} {v : Value} {x : Int} {l : List Int} (h : IntsAt b w v (x :: l)) : ∃ g n cap : Nat, v = .slice (some ⟨g, 0, none⟩) n cap ∧ 1 ≤ n ∧ n ≤ cap ∧ cap ≤ 9223372036854775807 ∧ w.cell? ⟨g, 0, none⟩ = some (.int .i64 x) := by
  rcases h with ⟨h, _⟩ | ⟨_, g, cap, e, _, _, h3, h4, hc⟩
  · cases h
  · exact ⟨g, _, cap, e, by simp, h3, h4, hc 0 (by simp)⟩

set_option maxRecDepth 100000 in
set_option maxHeartbeats 2000000 in
theorem others_f1 (c : Int) (w : World) (h : 127 < c) : Calls Tryd.prog 48 #[.int .i64 c, .bool false] w (IntsB (othersP c false) w) := by
  have HE := Lib.hid (others_great h)
  go_enter Tryd.func48, Tryd.ntmps48
  go_wp2_with fail
  go_ret
  exact intsB_nil HE.out (Below.refl _ _)
set_option maxRecDepth 100000 in
set_option maxHeartbeats 2000000 in
theorem others_f2 (c : Int) (w : World) (h : c ≤ 127) (h1 : -9223372036854775808 ≤ c) : Calls Tryd.prog 48 #[.int .i64 c, .bool false] w (IntsB (othersP c false) w) := by
  have hE := others_small h
  have hF := find_any c w h1 (by omega)
  have hs := shift_bd c
  have hp := @shift_small c
  have hf := field3
  obtain ⟨⟨k, s, o⟩, hr⟩ : ∃ r, cls c = r := ⟨_, rfl⟩
  rw [hr] at hE hF hs hp
  simp only at hE hs hp
  obtain ⟨hs1, hs2⟩ := hs
  have HF := Lib.hid hF
  clear hF hr
  by_cases h0 : o = 0
  · subst h0
    rw [if_pos rfl] at hE
    have HE := Lib.hid hE
    clear hE hp
    go_enter Tryd.func48, Tryd.ntmps48
    go_wp2_with fail
    refine HF.out.mono ?_
    rintro e w1 ⟨t, rfl, hb1⟩
    go_wp2_with fail
    go_ret
    exact intsB_nil HE.out hb1
  · rw [if_neg h0] at hE
    have HE := Lib.hid hE
    have hp1 := hp h0
    obtain ⟨hp1, hp2⟩ := hp1
    have h0b : (o != 0) = true := by simpa using h0
    clear hE hp h0
    go_enter Tryd.func48, Tryd.ntmps48
    go_wp2_with fail
    refine HF.out.mono ?_
    rintro e w1 ⟨t, rfl, hb1⟩
    go_wp2_with fail
    go_ret
    exact intsB_one HE.out hb1 _
end Go.Proofs.YtgdhhpbpbkgmeaaDoor.ucdw
