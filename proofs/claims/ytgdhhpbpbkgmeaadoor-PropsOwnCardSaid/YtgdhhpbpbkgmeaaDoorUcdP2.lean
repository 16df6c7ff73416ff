/- Layer 2, plain: who has other cases, and what they have in common. -/
import Derived.Test.YtgdhhpbpbkgmeaaDoorUcdPure
namespace Go.Proofs.YtgdhhpbpbkgmeaaDoor.ucdp

theorem others_where {c : Int} {u : Bool} (h : othersP c u ≠ []) : (0 ≤ c ∧ c < 1104) ∨ c = 8490 := by
  cases u with
  | false =>
    by_cases a : 65 ≤ c ∧ c ≤ 90
    · omega
    · by_cases b : 97 ≤ c ∧ c ≤ 122
      · omega
      · exfalso
        apply h
        unfold othersP
        rw [if_pos rfl, if_neg a, if_neg b]
  | true =>
    by_cases hs : Single c
    · rw [others_single hs] at h
      have : (cls c).2.2 ≠ 0 := fun e => h (if_pos e)
      exact Or.inl (shift_small this)
    · unfold Single at hs
      omega
/-- a property of the numbers that have other cases, looked up one by one -/
theorem others_all {P : Int → Bool → Bool} (all : ((List.range 1104).all fun i => P (i : Int) true && P (i : Int) false) = true) (last : P 8490 true = true) (last2 : P 8490 false = true) {c : Int} {u : Bool} (h : othersP c u ≠ []) : P c u = true := by
  rcases others_where h with ⟨h1, h2⟩ | rfl
  · have := List.all_eq_true.1 all c.toNat (by simp; omega)
    rw [show ((c.toNat : Nat) : Int) = c by omega, Bool.and_eq_true] at this
    cases u
    · exact this.2
    · exact this.1
  · cases u
    · exact last2
    · exact last
/-- the first of the other cases, and the number: letters, of one script but around 181 -/
def letterB (c : Int) (u : Bool) : Bool := match othersP c u with
  | [] => true
  | x :: _ => (u && (c == 181 || c == 924 || c == 956)) || (((cls c).1 == 10 && (cls x).1 == 13 || ((cls c).1 == 13 && (cls x).1 == 10 || (cls c).1 == 10 && (cls x).1 == 10)) && (cls c).2.1 == (cls x).2.1)
theorem letter_all : ((List.range 1104).all fun i => letterB (i : Int) true && letterB (i : Int) false) = true := by decide +kernel
theorem letter_cases {c x : Int} {l : List Int} {u : Bool} (h : othersP c u = x :: l) :
    (u = true ∧ (c = 181 ∨ c = 924 ∨ c = 956)) ∨ (((cls c).1 = 10 ∧ (cls x).1 = 13 ∨ (cls c).1 = 13 ∧ (cls x).1 = 10 ∨ (cls c).1 = 10 ∧ (cls x).1 = 10) ∧ (cls c).2.1 = (cls x).2.1) := by
  have := others_all (P := letterB) letter_all (by decide +kernel) (by decide +kernel) (c := c) (u := u) (by rw [h]; simp)
  unfold letterB at this
  rw [h] at this
  simp only [Bool.or_eq_true, Bool.and_eq_true, beq_iff_eq] at this
  rcases this with ⟨a, b⟩ | ⟨a, b⟩
  · exact Or.inl ⟨a, by omega⟩
  · exact Or.inr ⟨a, b⟩
/-- other cases lie near -/
def headB (c : Int) (u : Bool) : Bool := (othersP c u).all fun x => decide (0 ≤ x) && decide (x ≤ 8490)
theorem head_all : ((List.range 1104).all fun i => headB (i : Int) true && headB (i : Int) false) = true := by decide +kernel
theorem others_mem {c x : Int} {u : Bool} (h : x ∈ othersP c u) : 0 ≤ x ∧ x ≤ 8490 := by
  have := others_all (P := headB) head_all (by decide +kernel) (by decide +kernel) (c := c) (u := u) (List.ne_nil_of_mem h)
  have := List.all_eq_true.1 this x h
  simpa using this
theorem others_head {c x : Int} {l : List Int} {u : Bool} (h : othersP c u = x :: l) : 0 ≤ x ∧ x ≤ 8490 := others_mem (by rw [h]; simp)
end Go.Proofs.YtgdhhpbpbkgmeaaDoor.ucdp
