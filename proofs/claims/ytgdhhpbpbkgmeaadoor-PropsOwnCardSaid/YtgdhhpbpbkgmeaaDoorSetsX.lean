/- What the laws on sets have in common: sets in variables of their own, ranges in memory. -/
import Derived.Test.YtgdhhpbpbkgmeaaDoorSetsW7
namespace Go.Proofs.YtgdhhpbpbkgmeaaDoor.setw
open Go Go.RowKit Go.Shelf Go.Proofs.YtgdhhpbpbkgmeaaDoor.bulk Go.Proofs.YtgdhhpbpbkgmeaaDoor.ucdp Go.Proofs.YtgdhhpbpbkgmeaaDoor.ucdw Go.Proofs.YtgdhhpbpbkgmeaaDoor.setp Go.Proofs.YtgdhhpbpbkgmeaaDoor.flt Go.Proofs.YtgdhhpbpbkgmeaaDoor.setl

/-- a set in a variable of its own -/
def SC (S : List Rg) (b : Nat) (v : Value) (wi : World) : Prop := wi.cell? ⟨b, 0, none⟩ = some v ∧ ZsAt 0 wi v S
theorem sc_on {S : List Rg} {b : Nat} {v : Value} {wi wj : World} (h : SC S b v wi) (hb : Below wi.heap.size wi wj) : SC S b v wj := ⟨below_cell hb h.1, zsAt_below h.2 hb⟩
theorem sc_new {S : List Rg} {base : Nat} {v : Value} {w : World} (h : ZsAt base w v S) (T : TypeId) : SC S w.heap.size v (w.alloc (.cells #[v] T)) :=
  ⟨(cell_new w v T).1, zsAt_mono (zsAt_below h (below_alloc _ _)) (Nat.zero_le _)⟩
/-- plainly: a number in a set is all that both have -/
theorem has_pure {S U : List Rg} {c m : Int} (hS : ∀ x, Has S x → 0 ≤ x ∧ x ≤ m) (hU : Canon U) (h : ∀ x, Has U x ↔ Has S x ∧ Has [(c, c)] x ∧ 0 ≤ x ∧ x ≤ m) (hm : m ≤ 1114111) : tot U = if hasB S c = true then 1 else 0 := by
  by_cases hc : hasB S c = true
  · rw [if_pos hc]
    have hH := hasB_iff.1 hc
    have hb := hS c hH
    have : U = [(c, c)] := canon_ext hU ⟨List.pairwise_singleton _ _, inR_one hb.1 (Int.le_refl _) (by omega)⟩ fun x => by
      rw [h x]
      simp only [has_one]
      constructor
      · exact fun a => a.2.1
      · intro a
        have e : x = c := by omega
        subst e
        exact ⟨hH, a, hb⟩
    rw [this]
    simp [tot]
  · rw [if_neg hc]
    have : U = [] := canon_ext hU canon_nil fun x => by
      rw [h x]
      constructor
      · rintro ⟨a, b, _⟩
        rw [has_one] at b
        have e : x = c := by simp only at b; omega
        subst e
        exact absurd (hasB_iff.2 a) hc
      · exact fun a => absurd a (has_nil _)
    rw [this]
    rfl
/-- sets in variables of their own, in a world in which nothing of what was there has turned -/
def ST (w : World) (L : List (Nat × Value × List Rg)) (wi : World) : Prop := Below w.heap.size w wi ∧ ∀ x ∈ L, SC x.2.2 x.1 x.2.1 wi
theorem st_on {w wi wj : World} {L : List (Nat × Value × List Rg)} (h : ST w L wi) (hb : Below wi.heap.size wi wj) : ST w L wj := ⟨below_trans h.1 hb, fun x hx => sc_on (h.2 x hx) hb⟩
theorem st_nil {w wi : World} (h : Below w.heap.size w wi) : ST w [] wi := ⟨h, fun x hx => by cases hx⟩
theorem st_push {w wi wj : World} {L : List (Nat × Value × List Rg)} {base : Nat} {v : Value} {S : List Rg} (h : ST w L wi) (hb : Below wi.heap.size wi wj) (hz : ZsAt base wj v S) (T : TypeId) : ST w ((wj.heap.size, v, S) :: L) (wj.alloc (.cells #[v] T)) := by
  refine ⟨below_trans (below_trans h.1 hb) (below_alloc _ _), fun x hx => ?_⟩
  rcases List.mem_cons.1 hx with rfl | hx
  · exact sc_new hz T
  · exact sc_on (sc_on (h.2 x hx) hb) (below_alloc _ _)
theorem st_cell {w wi : World} {L : List (Nat × Value × List Rg)} {b : Nat} {v : Value} {S : List Rg} (h : ST w L wi) (hx : (b, v, S) ∈ L) : wi.cell? ⟨b, 0, none⟩ = some v := (h.2 _ hx).1
theorem st_z {w wi : World} {L : List (Nat × Value × List Rg)} {b : Nat} {v : Value} {S : List Rg} (h : ST w L wi) (hx : (b, v, S) ∈ L) : ZsAt 0 wi v S := (h.2 _ hx).2

/-- a set is stored into a variable that was laid before the set was reckoned -/
theorem st_late2 {w w0 wj : World} {L : List (Nat × Value × List Rg)} {base b : Nat} {v v0 : Value} {S : List Rg} (h : ST w L w0) (hb : Below w0.heap.size w0 wj) (kc : wj.cell? ⟨b, 0, none⟩ = some v0) (hz : ZsAt base wj v S) (hlt : b < base) (hle : w0.heap.size ≤ b := by omega) : ST w ((b, v, S) :: L) (wj.setCell ⟨b, 0, none⟩ v) := by
  have h2 := st_on h (hb.setCell (p := ⟨b, 0, none⟩) hle v)
  refine ⟨h2.1, fun x hx => ?_⟩
  rcases List.mem_cons.1 hx with rfl | hx
  · exact ⟨World.cell?_setCell_same _ _ _ kc, zsAt_mono (zsAt_set hz hlt _) (Nat.zero_le _)⟩
  · exact h2.2 x hx

end Go.Proofs.YtgdhhpbpbkgmeaaDoor.setw
