/- The contract of package ucd's inner function 'at': the row of the table at two places. -/
import Derived.Test.YtgdhhpbpbkgmeaaDoorBulk
import Derived.Test.YtgdhhpbpbkgmeaaDoorUcdPure
import Derived.Deep.DeepCutAuto
import Derived.Deep.CutBlock
namespace Go.Proofs.YtgdhhpbpbkgmeaaDoor.ucdw
open Go Go.RowKit Go.Proofs.YtgdhhpbpbkgmeaaDoor.bulk Go.Proofs.YtgdhhpbpbkgmeaaDoor.ucdp

/-- a row's cells -/
def rowC (r : Int × Nat × Nat × Int) : List Value := [.int .i64 r.1, .string (catB r.2.1), .string (scrB r.2.2.1), .int .i64 r.2.2.2]
/-- a row as a value -/
def rowV (r : Int × Nat × Nat × Int) : Value := .agg #[.int .i64 r.1, .string (catB r.2.1), .string (scrB r.2.2.1), .int .i64 r.2.2.2]
def blkV (l : List (Int × Nat × Nat × Int)) : Value := .agg (l.flatMap rowC).toArray
def tabV : Value := .agg (tab.flatMap fun l => l.flatMap rowC).toArray

theorem idx_blk (b : Nat) (hb : b < 9) (w : World) : (Instr.index 114 tabV (.int .i64 b)).run Tryd.prog w = .ok (blkV (tab.getD b [])) w := by
  have h : b = 0 ∨ b = 1 ∨ b = 2 ∨ b = 3 ∨ b = 4 ∨ b = 5 ∨ b = 6 ∨ b = 7 ∨ b = 8 := by omega
  rcases h with rfl | rfl | rfl | rfl | rfl | rfl | rfl | rfl | rfl <;> (show _ = _; kernel_rfl)
theorem idx_row (b p : Nat) (hb : b < 9) (hp : p < 11) (w : World) : (Instr.index 113 (blkV (tab.getD b [])) (.int .i64 p)).run Tryd.prog w = .ok (rowV (tabAt b p)) w := by
  have h : b = 0 ∨ b = 1 ∨ b = 2 ∨ b = 3 ∨ b = 4 ∨ b = 5 ∨ b = 6 ∨ b = 7 ∨ b = 8 := by omega
  have k : p = 0 ∨ p = 1 ∨ p = 2 ∨ p = 3 ∨ p = 4 ∨ p = 5 ∨ p = 6 ∨ p = 7 ∨ p = 8 ∨ p = 9 ∨ p = 10 := by omega
  rcases h with rfl | rfl | rfl | rfl | rfl | rfl | rfl | rfl | rfl <;>
  rcases k with rfl | rfl | rfl | rfl | rfl | rfl | rfl | rfl | rfl | rfl | rfl <;> (show _ = _; kernel_rfl)
/-- a row, and a world in which nothing of what was there has turned -/
def RowPost (r : Int × Nat × Nat × Int) (w : World) (e : Ending) (w' : World) : Prop := e = .returned (rowV r) ∧ Below w.heap.size w w'

set_option maxRecDepth 100000 in
set_option maxHeartbeats 4000000 in
theorem at_any (b p : Nat) (hb : b < 9) (hp : p < 11) (w : World) : Calls Tryd.prog 83 #[.int .i64 b, .int .i64 p] w (RowPost (tabAt b p) w) := by
  go_enter Tryd.func83, Tryd.ntmps83
  go_upto_region 1 with (fail)
  refine wp_region_list ?_
  refine wpList_bulk_w 109 (by kernel_rfl) ?_
  generalize hA : acts _ _ _ _ = A
  have e0 : A.eval (.tmp 0) = .int .i64 b := by rw [← hA]; kernel_rfl
  have e1 : A.eval (.tmp 1) = .int .i64 p := by rw [← hA]; kernel_rfl
  have e4 : A.eval (.tmp 4) = .pointer (some ⟨w.heap.size, 0, none⟩) := by rw [← hA]; kernel_rfl
  have e113 : A.eval (.tmp 113) = tabV := by rw [← hA]; kernel_rfl
  have ez : A.tmps.size = 118 := by rw [← hA]; kernel_rfl
  have ed : A.defers = [] := by rw [← hA]; kernel_rfl
  clear hA
  show wpList _ _ _ [_, _, _, _, _] _ _
  refine wpList_value rfl (run_move rfl e0) ?_
  refine wpList_value rfl (run_index rfl ((eval_put_other (by decide)).trans e113) (eval_put_same (by omega)) (idx_blk b hb _)) ?_
  refine wpList_value rfl (run_move rfl ((eval_put_other (by decide)).trans ((eval_put_other (by decide)).trans e1))) ?_
  refine wpList_value rfl (run_index rfl ((eval_put_other (by decide)).trans (eval_put_same (by simp only [size_put]; omega))) (eval_put_same (by simp only [size_put]; omega)) (idx_row b p hb hp _)) ?_
  have a4 := (eval_put_other (a := ((A.put (some 114) (.int .i64 b)).put (some 115) (blkV (tab.getD b []))).put (some 116) (.int .i64 p)) (d := 117) (v := rowV (tabAt b p)) (t := 4) (by decide)).trans ((eval_put_other (by decide)).trans ((eval_put_other (by decide)).trans ((eval_put_other (by decide)).trans e4)))
  have a117 := eval_put_same (a := ((A.put (some 114) (.int .i64 b)).put (some 115) (blkV (tab.getD b []))).put (some 116) (.int .i64 p)) (d := 117) (v := rowV (tabAt b p)) (by simp only [size_put]; omega)
  have az : ((((A.put (some 114) (.int .i64 b)).put (some 115) (blkV (tab.getD b []))).put (some 116) (.int .i64 p)).put (some 117) (rowV (tabAt b p))).tmps.size = 118 := by simp only [size_put]; exact ez
  have ad : ((((A.put (some 114) (.int .i64 b)).put (some 115) (blkV (tab.getD b []))).put (some 116) (.int .i64 p)).put (some 117) (rowV (tabAt b p))).defers = [] := ed
  show wpList _ _ _ _ ((((A.put (some 114) (.int .i64 b)).put (some 115) (blkV (tab.getD b []))).put (some 116) (.int .i64 p)).put (some 117) (rowV (tabAt b p))) _
  generalize (((A.put (some 114) (.int .i64 b)).put (some 115) (blkV (tab.getD b []))).put (some 116) (.int .i64 p)).put (some 117) (rowV (tabAt b p)) = B at *
  clear e0 e1 e4 e113 ez ed
  generalize tabAt b p = r at *
  unfold rowV at a117
  have c4 := tmps_of az (by decide) a4
  have c117 := tmps_of az (by decide) a117
  clear a4 a117
  go_step
  go_step
  go_step
  go_step
  go_step
  go_step
  go_step
  refine bodyPost_ret (v := rowV r) (by simp [results, Tryd.results83, go_sem, c4, az, rowV]) ad ⟨rfl, (Below.refl _ _).alloc (Nat.le_refl _) _⟩
end Go.Proofs.YtgdhhpbpbkgmeaaDoor.ucdw
