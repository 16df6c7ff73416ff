/- The contracts of the document's table, as the statements lay it: low, high, Table. -/
import Derived.Test.YtgdhhpbpbkgmeaaDoorUcdW4
namespace Go.Proofs.YtgdhhpbpbkgmeaaDoor.ucdw
open Go Go.RowKit Go.Proofs.YtgdhhpbpbkgmeaaDoor.bulk Go.Proofs.YtgdhhpbpbkgmeaaDoor.ucdp

/-- a row's cells -/
def refC (r : Int × Int × Nat × Nat × Int) : List Value := [.int .i64 r.1, .int .i64 r.2.1, .string (catB r.2.2.1), .string (scrB r.2.2.2.1), .int .i64 r.2.2.2.2]
def refCs (l : List (Int × Int × Nat × Nat × Int)) : List Value := l.flatMap refC
/-- new rows -/
def RowsNew (l : List (Int × Int × Nat × Nat × Int)) (w : World) (e : Ending) (w' : World) : Prop := e = .returned (.slice (some ⟨w.heap.size, 0, none⟩) l.length l.length) ∧ w' = w.alloc (.cells (refCs l).toArray 78)

set_option maxRecDepth 100000 in
set_option maxHeartbeats 4000000 in
theorem low_any (w : World) : Calls Tryd.prog 76 #[] w (RowsNew low w) := by
  go_enter Tryd.func76, Tryd.ntmps76
  go_upto_region 1 with (fail)
  refine wp_region_list ?_
  refine wpList_bulk_x 30 (w.alloc (.cells (refCs low).toArray 78)) (by kernel_rfl) ?_
  generalize hA : acts _ _ _ _ = A
  have e1 : A.eval (.tmp 30) = .slice (some ⟨w.heap.size, 0, none⟩) 29 29 := by rw [← hA]; kernel_rfl
  have ez : A.tmps.size = 31 := by rw [← hA]; kernel_rfl
  have ed : A.defers = [] := by rw [← hA]; kernel_rfl
  clear hA
  show wpList _ _ _ [_] _ _
  refine wpList_value rfl (run_assign rfl e1) ?_
  have e0 := eval_put_same (a := A) (d := 0) (v := .slice (some ⟨w.heap.size, 0, none⟩) 29 29) (by omega)
  have ed2 : (A.put (some 0) (.slice (some ⟨w.heap.size, 0, none⟩) 29 29)).defers = [] := ed
  generalize A.put (some 0) (.slice (some ⟨w.heap.size, 0, none⟩) 29 29) = B at *
  refine wpList_nil ?_
  go_step
  go_step
  go_step
  refine bodyPost_ret (results_tmp rfl _ _ _) ed2 ⟨?_, rfl⟩
  rw [getD_of_eval e0]
  rfl

set_option maxRecDepth 100000 in
set_option maxHeartbeats 4000000 in
theorem high_any (w : World) : Calls Tryd.prog 77 #[] w (RowsNew high w) := by
  go_enter Tryd.func77, Tryd.ntmps77
  go_upto_region 1 with (fail)
  refine wp_region_list ?_
  refine wpList_bulk_x 53 (w.alloc (.cells (refCs high).toArray 78)) (by kernel_rfl) ?_
  generalize hA : acts _ _ _ _ = A
  have e1 : A.eval (.tmp 53) = .slice (some ⟨w.heap.size, 0, none⟩) 52 52 := by rw [← hA]; kernel_rfl
  have ez : A.tmps.size = 54 := by rw [← hA]; kernel_rfl
  have ed : A.defers = [] := by rw [← hA]; kernel_rfl
  clear hA
  show wpList _ _ _ [_] _ _
  refine wpList_value rfl (run_assign rfl e1) ?_
  have e0 := eval_put_same (a := A) (d := 0) (v := .slice (some ⟨w.heap.size, 0, none⟩) 52 52) (by omega)
  have ed2 : (A.put (some 0) (.slice (some ⟨w.heap.size, 0, none⟩) 52 52)).defers = [] := ed
  generalize A.put (some 0) (.slice (some ⟨w.heap.size, 0, none⟩) 52 52) = B at *
  refine wpList_nil ?_
  go_step
  go_step
  go_step
  refine bodyPost_ret (results_tmp rfl _ _ _) ed2 ⟨?_, rfl⟩
  rw [getD_of_eval e0]
  rfl
end Go.Proofs.YtgdhhpbpbkgmeaaDoor.ucdw
