/- What the rows of layer 3 have in common: slices of ranges, and of numbers, that came in. -/
import Derived.Test.YtgdhhpbpbkgmeaaDoorSetsRs
import Derived.Test.YtgdhhpbpbkgmeaaDoorUcdRow
import Derived.Deep.SlicePairs
namespace Go.Proofs.YtgdhhpbpbkgmeaaDoor.setw
open Go Go.RowKit Go.ChangeShapes Go.WideShapes Go.ChangeAt Go.Proofs.YtgdhhpbpbkgmeaaDoor.ucdp Go.Proofs.YtgdhhpbpbkgmeaaDoor.ucdw Go.Proofs.YtgdhhpbpbkgmeaaDoor.setp

theorem cellsRange : Tryd.prog.cellsOf 52 = 2 := by kernel_rfl
theorem recRanges : Tryd.prog.readableRec 22 = true := by kernel_rfl
theorem rowRanges : (22 : TypeId) < Tryd.prog.types.size := of_decide_eq_true (by kernel_rfl)
theorem recInts : Tryd.prog.readableRec 23 = true := by kernel_rfl
theorem rowInts : (23 : TypeId) < Tryd.prog.types.size := of_decide_eq_true (by kernel_rfl)
theorem plain_of_cell {w : World} {a : Addr} {v : Value} (h : w.cell? (a.add 0) = some v) : a.spot = none := by
  obtain ⟨b, off, spot⟩ := a
  cases spot with
  | none => rfl
  | some s =>
    exfalso
    have : ((⟨b, off, some s⟩ : Addr).add 0).spot.isSome = true := by unfold Addr.add; split <;> simp_all
    unfold World.cell? at h
    split at h
    · simp [this] at h
    · simp at h
set_option maxRecDepth 100000 in
/-- a slice of ranges that came in -/
theorem open_ranges {H : Type} {enc : TypeId × Value → H} {W : World} {base : Nat} {v : Value} {d : DataW H} {ps : List MemPlace} (hval : Value.okWide Tryd.prog W .any base 22 v)
    (h : DataW.Trod enc Tryd.prog W 0 (fun _ => true) true 22 v d ps) : ∃ l, RsAt W v l := by
  obtain ⟨a0, len, cap, rfl⟩ := okWide_slice Tryd.underlying22 hval
  obtain ⟨fuel, hf⟩ := h
  have he := Tryd.underlying52
  rcases Go.Deep.open_slice_pairs Tryd.underlying22 he cellsRange rfl rfl cellsInt cellsInt hf with ⟨hcs, _⟩ | ⟨a, len', cap', m, n, V0, V1, D0, D1, P0, P1, hcs, _, hl, hm, hmm, hx, hcell⟩
  · simp [Value.cells] at hcs
    obtain ⟨rfl, rfl, rfl⟩ := hcs
    exact ⟨[], fun r hr => (by cases hr), Or.inl ⟨rfl, _, _, rfl, by omega⟩⟩
  · simp [Value.cells] at hcs
    obtain ⟨rfl, rfl, rfl⟩ := hcs
    simp only [if_true] at hmm
    unfold maxLen at hm
    by_cases h0 : len = 0
    · subst h0
      exact ⟨[], fun r hr => (by cases hr), Or.inl ⟨rfl, _, _, rfl, by omega⟩⟩
    · have hp := plain_of_cell (by simpa using (hcell 0 (by omega)).1)
      obtain ⟨b, off, spot⟩ := a
      simp only at hp
      subst hp
      have each : ∀ i, i < len → ∃ r : Int × Int, W.cell? ⟨b, off + i * 2, none⟩ = some (.int .i64 r.1) ∧ W.cell? ⟨b, off + i * 2 + 1, none⟩ = some (.int .i64 r.2) ∧ (-9223372036854775808 ≤ r.1 ∧ r.1 ≤ 9223372036854775807) ∧ (-9223372036854775808 ≤ r.2 ∧ r.2 ≤ 9223372036854775807) := by
        intro i hi
        obtain ⟨c1, c2, t1, t2⟩ := hcell i (by omega)
        obtain ⟨x, hx1, _, hw1⟩ := DataW.trod_int Tryd.underlying3 t1
        obtain ⟨y, hy1, _, hw2⟩ := DataW.trod_int Tryd.underlying3 t2
        have e1 : (⟨b, off, none⟩ : Addr).add (i * 2) = ⟨b, off + i * 2, none⟩ := by unfold Addr.add; split <;> simp_all
        have e2 : (⟨b, off, none⟩ : Addr).add (i * 2 + 1) = ⟨b, off + i * 2 + 1, none⟩ := by unfold Addr.add; split <;> simp_all [Nat.add_assoc]
        rw [e1] at c1
        rw [e2] at c2
        have v1 : V0 i = .int .i64 x := by simpa using hx1
        have v2 : V1 i = .int .i64 y := by simpa using hy1
        exact ⟨(x, y), by rw [c1, v1], by rw [c2, v2], wf_int hw1, wf_int hw2⟩
      obtain ⟨q, hq⟩ := Go.Deep.choose_lt each
      refine ⟨(List.range len).map q, fun r hr => ?_, Or.inr ⟨fun h => h0 (by simpa using h), b, off, cap, by simp, by simp; omega, by omega, fun i hi => ?_⟩⟩
      · obtain ⟨i, hi, rfl⟩ := List.mem_map.1 hr
        have := hq i (List.mem_range.1 hi)
        exact ⟨this.2.2.1, this.2.2.2⟩
      · have hi2 : i < len := by simpa using hi
        have := hq i hi2
        simp only [List.getElem_map, List.getElem_range]
        exact ⟨this.1, this.2.1⟩
end Go.Proofs.YtgdhhpbpbkgmeaaDoor.setw
