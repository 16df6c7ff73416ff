/- What the rows of layer 4 have in common: the table of package props out of the rows' list. -/
import Derived.Test.YtgdhhpbpbkgmeaaDoorPropsW3
import Derived.Test.YtgdhhpbpbkgmeaaDoorCards
import Derived.Test.YtgdhhpbpbkgmeaaDoorTie
import Derived.Deep.DeepHandedRow
import Derived.Lib.LaidTab
import Derived.Stop.LaidErr
import Derived.Carry
import Derived.SizedLaws
import Derived.ChangeMaps5
namespace Go.Proofs.YtgdhhpbpbkgmeaaDoor.prr
open Go Go.RowKit Go.ChangeShapes Go.WideShapes Go.ChangeAt Go.Proofs.YtgdhhpbpbkgmeaaDoor.prp Go.Proofs.YtgdhhpbpbkgmeaaDoor.prw

theorem own : ownKnob Tryd.prog.godebug = none := by kernel_rfl
theorem laidOut : laidOutB Tryd.prog = true := by kernel_rfl
theorem gStarts : Tryd.prog.globalNamed "lurcher/props.starts" = some 1 := by kernel_rfl
theorem gStartsType : (Tryd.prog.globals[1]?).map (·.type) = some 95 := by kernel_rfl
theorem cellsStarts : Tryd.prog.cellsOf 95 = 94 := by kernel_rfl
theorem cellsInt : Tryd.prog.cellsOf 3 = 1 := by kernel_rfl
/-- the list of every row of this layer -/
def laidList : List (String × DataW Unit) := [("lurcher/props.starts", Rows.laid_lurcher_props_starts)]
theorem tabS_of {W : World} (h : laidMetH Tryd.prog laidList W) : TabS W := by
  have h1 : laidMet Tryd.prog laidList W := h
  have T1 : Lib.TabIs Tryd.prog W "lurcher/props.starts" .i64 starts := Lib.tabIs_of_head (rest := []) gStarts gStartsType Tryd.underlying95 Tryd.underlying3 cellsInt cellsStarts h1
  intro i hi
  rw [T1.cell gStarts i (by simpa [starts] using hi)]
  rfl
/-- a variable's cells, laid -/
def layCells (l : List Int) : Obj → Obj
  | .cells _ t frozen => .cells (l.map (Value.int .i64)).toArray t frozen
  | o => o
theorem wf_int {n : Int} (h : (Lit.int .i64 n).wf = true) : -9223372036854775808 ≤ n ∧ n ≤ 9223372036854775807 := by
  have h2 : IntKind.i64.min ≤ n ∧ n ≤ IntKind.i64.max := by simpa [Lit.wf] using h
  rw [show IntKind.i64.min = -9223372036854775808 by decide, show IntKind.i64.max = 9223372036854775807 by decide] at h2
  exact h2
end Go.Proofs.YtgdhhpbpbkgmeaaDoor.prr
