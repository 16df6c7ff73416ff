/- What the rows of layer 2 have in common: the table of the sets of three out of the rows' list. -/
import Derived.Test.YtgdhhpbpbkgmeaaDoorUcdW5
import Derived.Test.YtgdhhpbpbkgmeaaDoorCards
import Derived.Test.YtgdhhpbpbkgmeaaDoorTie
import Derived.Deep.DeepHandedRow
import Derived.Lib.LaidTab
import Derived.Stop.LaidErr
import Derived.Carry
import Derived.SizedLaws
namespace Go.Proofs.YtgdhhpbpbkgmeaaDoor.ucdw
open Go Go.RowKit Go.ChangeShapes Go.WideShapes Go.ChangeAt Go.Proofs.YtgdhhpbpbkgmeaaDoor.ucdp

theorem own : ownKnob Tryd.prog.godebug = none := by kernel_rfl
theorem laidOut : laidOutB Tryd.prog = true := by kernel_rfl
theorem gThrees : Tryd.prog.globalNamed "lurcher/ucd.threes" = some 0 := by kernel_rfl
theorem gThreesType : (Tryd.prog.globals[0]?).map (·.type) = some 89 := by kernel_rfl
theorem cellsThrees : Tryd.prog.cellsOf 89 = 12 := by kernel_rfl
theorem cellsThree : Tryd.prog.cellsOf 88 = 3 := by kernel_rfl
theorem cellsInt : Tryd.prog.cellsOf 3 = 1 := by kernel_rfl

/-- an array of arrays of integers, cell for cell -/
theorem cells_of_tab2 {H : Type} {enc : TypeId × Value → H} {P : Program} {w : World} {base : Nat} {sp : Nat → Bool} {held : Bool} {fuel : Nat} {t e i : TypeId} {n m : Nat} {k : IntKind} {cs : List Value} {zss : List (List Int)} {p : List MemPlace}
    (ht : P.underlying t = some (.array n e)) (he : P.underlying e = some (.array m i)) (hi : P.underlying i = some (.int k)) (hci : P.cellsOf i = 1) (hce : P.cellsOf e = m)
    (h : DataW.trod enc P w base sp held fuel t cs = some (.agg (zss.map fun zs => Lib.tabData k zs), p)) :
    ∀ a b, a < n → b < m → cs[a * m + b]? = ((zss.getD a []).map fun z => Value.int k z)[b]? := by
  cases fuel with
  | zero => simp [DataW.trod] at h
  | succ fuel =>
    simp only [DataW.trod, ht, hce] at h
    split at h
    · rename_i hl
      obtain ⟨xs, hm, hx⟩ := Option.map_eq_some_iff.1 h
      have hxs : xs.map (·.1) = zss.map fun zs => (Lib.tabData k zs : DataW H) := by
        have := congrArg Prod.fst hx
        simpa using this
      intro a b ha hb
      obtain ⟨y, hy, hf⟩ := Lib.mapM_at hm a a (by simp [ha])
      have h2 : (xs.map (·.1))[a]? = some y.1 := by simp [hy]
      rw [hxs] at h2
      simp only [List.getElem?_map, Option.map_eq_some_iff] at h2
      obtain ⟨zs, hz, hz2⟩ := h2
      have hf2 : DataW.trod enc P w base sp held fuel e ((cs.drop (a * m)).take m) = some (Lib.tabData k zs, y.2) := by
        rw [hz2]; exact hf
      have hc := Lib.cells_of_tab he hi hci hce hf2
      have h1 : cs[a * m + b]? = ((cs.drop (a * m)).take m)[b]? := by
        rw [List.getElem?_take, if_pos hb, List.getElem?_drop]
      rw [h1, hc]
      simp [List.getD, hz]
    · cases h
/-- the list of every row of this layer -/
def laidList : List (String × DataW Unit) := [("lurcher/ucd.threes", Rows.laid_lurcher_ucd_threes)]
theorem tab3_of {W : World} (h : laidMetH Tryd.prog laidList W) : Tab3 W := by
  have h1 : laidMet Tryd.prog laidList W := h
  obtain ⟨ps, ⟨g', t', cs, fuel, p, q, hg', ht', hvar, hd, _, _⟩, _⟩ := h1
  obtain rfl := Option.some.inj (gThrees.symm.trans hg')
  obtain rfl := Option.some.inj (gThreesType.symm.trans ht')
  have hd2 : DataW.trod _ Tryd.prog W _ _ _ fuel 89 cs.toList = some (.agg (([[75, 107, 8490], [83, 115, 383], [181, 924, 956], [931, 962, 963]] : List (List Int)).map fun zs => Lib.tabData .i64 zs), p) := hd
  have hc := cells_of_tab2 Tryd.underlying89 Tryd.underlying88 Tryd.underlying3 cellsInt cellsThree hd2
  intro i hi
  have e := World.var?_cell gThrees hvar i
  rw [e]
  have h2 := hc (i / 3) (i % 3) (by omega) (by omega)
  rw [show i / 3 * 3 + i % 3 = i by omega] at h2
  rw [← Array.getElem?_toList, h2]
  have hall : ∀ j : Fin 12, ((([[75, 107, 8490], [83, 115, 383], [181, 924, 956], [931, 962, 963]] : List (List Int)).getD (j.val / 3) [])[j.val % 3]?) = some (threes.getD j.val 0) := by decide
  rw [List.getElem?_map, hall ⟨i, hi⟩]
  rfl
/-- a variable's cells, laid -/
def layCells (l : List Int) : Obj → Obj
  | .cells _ t frozen => .cells (l.map (Value.int .i64)).toArray t frozen
  | o => o
theorem wf_int {n : Int} (h : (Lit.int .i64 n).wf = true) : -9223372036854775808 ≤ n ∧ n ≤ 9223372036854775807 := by
  have h2 : IntKind.i64.min ≤ n ∧ n ≤ IntKind.i64.max := by simpa [Lit.wf] using h
  rw [show IntKind.i64.min = -9223372036854775808 by decide, show IntKind.i64.max = 9223372036854775807 by decide] at h2
  exact h2
end Go.Proofs.YtgdhhpbpbkgmeaaDoor.ucdw
