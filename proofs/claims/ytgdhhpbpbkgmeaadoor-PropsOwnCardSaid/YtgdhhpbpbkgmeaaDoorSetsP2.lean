/- Sets with all other cases: plain mathematics, no program. -/
import Derived.Test.YtgdhhpbpbkgmeaaDoorSetsPure
import Derived.Test.YtgdhhpbpbkgmeaaDoorUcdP2
namespace Go.Proofs.YtgdhhpbpbkgmeaaDoor.setp
open Go.Proofs.YtgdhhpbpbkgmeaaDoor.ucdp

theorem others_last {c : Int} {u : Bool} (h : othersP c u ≠ []) : 0 ≤ c ∧ c ≤ 8490 := by
  have := others_where h
  omega
theorem others_len (c : Int) (u : Bool) : (othersP c u).length ≤ 2 := by
  have ite_len : ∀ {p : Prop} [Decidable p] {a b : List Int}, a.length ≤ 2 → b.length ≤ 2 → (if p then a else b).length ≤ 2 := by
    intro p _ a b ha hb
    split
    · exact ha
    · exact hb
  unfold othersP
  repeat' (first | exact Nat.le_refl _ | exact Nat.zero_le _ | exact Nat.le_succ _ | apply ite_len)

/-- a set's elements, and other cases of those of which P holds, and some more -/
def KInv (S : List Rg) (u : Bool) (P : Int → Prop) (more : List Int) (D : List Rg) : Prop :=
  InR D ∧ ∀ c, Has D c ↔ Has S c ∨ (∃ d, P d ∧ c ∈ othersP d u) ∨ c ∈ more
theorem kinv_iff {S : List Rg} {u : Bool} {P Q : Int → Prop} {l m : List Int} {D : List Rg} (h : KInv S u P l D) (he : ∀ c, ((∃ d, P d ∧ c ∈ othersP d u) ∨ c ∈ l) ↔ ((∃ d, Q d ∧ c ∈ othersP d u) ∨ c ∈ m)) : KInv S u Q m D :=
  ⟨h.1, fun c => by rw [h.2, he]⟩
theorem kinv_add {S : List Rg} {u : Bool} {P : Int → Prop} {l : List Int} {D : List Rg} {j : Nat} (hj : j < l.length) (hl : ∀ x ∈ l, 0 ≤ x ∧ x ≤ 8490) (h : KInv S u P (l.take j) D) : KInv S u P (l.take (j + 1)) (addP D l[j] l[j]) := by
  have hx := hl _ (List.getElem_mem hj)
  refine ⟨addP_inR h.1 hx.1 (by omega), fun c => ?_⟩
  rw [addP_has, h.2, List.take_succ_eq_append_getElem hj, List.mem_append, List.mem_singleton]
  constructor
  · rintro ((a | a | a) | a)
    · exact Or.inl a
    · exact Or.inr (Or.inl a)
    · exact Or.inr (Or.inr (Or.inl a))
    · exact Or.inr (Or.inr (Or.inr (by omega)))
  · rintro (a | a | a | a)
    · exact Or.inl (Or.inl a)
    · exact Or.inl (Or.inr (Or.inl a))
    · exact Or.inl (Or.inr (Or.inr a))
    · exact Or.inr ⟨by omega, by omega⟩
/-- those whose other cases are there when the ranges ahead of the k-th are done, and the k-th up to x -/
def Done (S : List Rg) (k : Nat) (x0 x : Int) (d : Int) : Prop := (Has (S.take k) d ∧ d ≤ 8490) ∨ (x0 ≤ d ∧ d < x)
theorem kinv_start (S : List Rg) (u : Bool) (h : Canon S) : KInv S u (Done S 0 0 0) [] S := by
  refine ⟨h.2, fun c => ⟨Or.inl, ?_⟩⟩
  rintro (a | ⟨d, hd, _⟩ | a)
  · exact a
  · rcases hd with ⟨a, _⟩ | a
    · simp [Has] at a
    · omega
  · cases a
theorem kinv_zero (S : List Rg) (u : Bool) (h : Canon S) : KInv S u (fun d => Has (S.take 0) d ∧ d ≤ 8490) [] S := by
  refine ⟨h.2, fun c => ⟨Or.inl, ?_⟩⟩
  rintro (a | ⟨d, hd, _⟩ | a)
  · exact a
  · exact absurd hd.1 (by simp [Has])
  · cases a
/-- the k-th range begins -/
theorem kinv_begin {S : List Rg} {u : Bool} {k : Nat} {x0 : Int} {D : List Rg} (h : KInv S u (fun d => Has (S.take k) d ∧ d ≤ 8490) [] D) : KInv S u (Done S k x0 x0) [] D := by
  refine kinv_iff h fun c => ?_
  have e : ∀ d, (Has (S.take k) d ∧ d ≤ 8490) ↔ Done S k x0 x0 d := fun d => ⟨Or.inl, fun a => a.elim id fun b => by omega⟩
  simp only [e]
/-- the other cases of one number are there -/
theorem kinv_next {S : List Rg} {u : Bool} {k : Nat} {x0 x : Int} {D : List Rg} (hx : x0 ≤ x) (h : KInv S u (Done S k x0 x) (othersP x u) D) : KInv S u (Done S k x0 (x + 1)) [] D := by
  refine kinv_iff h fun c => ?_
  constructor
  · rintro (⟨d, a, b⟩ | a)
    · refine Or.inl ⟨d, ?_, b⟩
      rcases a with a | a
      · exact Or.inl a
      · exact Or.inr ⟨a.1, by omega⟩
    · exact Or.inl ⟨x, Or.inr ⟨hx, by omega⟩, a⟩
  · rintro (⟨d, a, b⟩ | a)
    · rcases a with a | a
      · exact Or.inl ⟨d, Or.inl a, b⟩
      · by_cases e : d = x
        · subst e
          exact Or.inr b
        · exact Or.inl ⟨d, Or.inr ⟨a.1, by omega⟩, b⟩
    · cases a
/-- the k-th range is done -/
theorem kinv_done {S : List Rg} {u : Bool} {k : Nat} (hk : k < S.length) {x : Int} {D : List Rg} (hx : S[k].1 ≤ x) (hx2 : x ≤ S[k].1 ∨ x ≤ min S[k].2 8490 + 1) (hx3 : ¬ x ≤ min S[k].2 8490) (h : KInv S u (Done S k S[k].1 x) [] D) : KInv S u (fun d => Has (S.take (k + 1)) d ∧ d ≤ 8490) [] D := by
  refine kinv_iff h fun c => ?_
  have e : ∀ d, Done S k S[k].1 x d ↔ (Has (S.take (k + 1)) d ∧ d ≤ 8490) := by
    intro d
    rw [has_take hk]
    constructor
    · rintro (a | a)
      · exact ⟨Or.inl a.1, a.2⟩
      · exact ⟨Or.inr (by omega), by omega⟩
    · rintro ⟨a | a, b⟩
      · exact Or.inl ⟨a, b⟩
      · exact Or.inr ⟨a.1, by omega⟩
  simp only [e]
theorem kinv_end {S : List Rg} {u : Bool} {D : List Rg} (h : KInv S u (fun d => Has (S.take S.length) d ∧ d ≤ 8490) [] D) (c : Int) : Has D c ↔ Has S c ∨ ∃ d, Has S d ∧ c ∈ othersP d u := by
  rw [h.2, List.take_length]
  constructor
  · rintro (a | ⟨d, a, b⟩ | a)
    · exact Or.inl a
    · exact Or.inr ⟨d, a.1, b⟩
    · cases a
  · rintro (a | ⟨d, a, b⟩)
    · exact Or.inl a
    · exact Or.inr (Or.inl ⟨d, ⟨a, (others_last (List.ne_nil_of_mem b)).2⟩, b⟩)
end Go.Proofs.YtgdhhpbpbkgmeaaDoor.setp
