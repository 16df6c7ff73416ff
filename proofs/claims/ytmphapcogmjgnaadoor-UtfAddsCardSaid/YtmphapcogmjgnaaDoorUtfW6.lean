/- The contract of the statements' own look at layer 1, 'awake': it is true. -/
import Derived.Test.YtmphapcogmjgnaaDoorUtfW3
namespace Go.Proofs.YtmphapcogmjgnaaDoor.utfw
open Go Go.RowKit Go.Proofs.YtmphapcogmjgnaaDoor.utfp

/-- a truth value, and a world in which nothing of what was there has turned -/
def BoolB (r : Bool) (w : World) (e : Ending) (w' : World) : Prop := e = .returned (.bool r) ∧ Below w.heap.size w w'
theorem two_of {r : Int × Int} {a b : Int} (hr : r = (a, b)) {w0 w : World} {f : FuncId} {args : Array Value} (hw : Below w0.heap.size w0 w) (h : Calls Tryd.prog f args w (TwoPost r w)) :
    Calls Tryd.prog f args w fun e w' => e = .returned (.tuple #[.int .i64 a, .int .i64 b]) ∧ Below w0.heap.size w0 w' := by
  refine h.mono fun e w' ⟨he, hd⟩ => ?_
  rw [hr] at he
  exact ⟨he, below_trans hw (drawn_below hd)⟩
theorem awk_next (w : World) (hT : Tabs w) : Calls Tryd.prog 13 #[.slice (some ⟨w.heap.size, 0, none⟩) 2 2, .int .i64 0, .bool true] (w.alloc (.cells #[.int .u8 195, .int .u8 169] 5))
    fun e w' => e = .returned (.tuple #[.int .i64 233, .int .i64 2]) ∧ Below w.heap.size w w' :=
  two_of (by decide +kernel) ((Below.refl _ _).alloc (Nat.le_refl _) _) (next_any _ 2 (at_ [195, 169]) 0 true _ (sl_alloc w 5 [195, 169] (by simp) (by simp)) (below_tabs ((Below.refl _ _).alloc (Nat.le_refl _) _) hT))
theorem awk_prev (w : World) (hT : Tabs w) : Calls Tryd.prog 15 #[.slice (some ⟨w.heap.size, 0, none⟩) 2 2, .int .i64 2, .bool true] (w.alloc (.cells #[.int .u8 195, .int .u8 169] 5))
    fun e w' => e = .returned (.tuple #[.int .i64 233, .int .i64 0]) ∧ Below w.heap.size w w' :=
  two_of (by decide +kernel) ((Below.refl _ _).alloc (Nat.le_refl _) _) (prev_any _ 2 (at_ [195, 169]) 2 true _ (sl_alloc w 5 [195, 169] (by simp) (by simp)) (below_tabs ((Below.refl _ _).alloc (Nat.le_refl _) _) hT))
theorem awk_valid (w : World) (hT : Tabs w) : Calls Tryd.prog 11 #[.slice (some ⟨w.heap.size, 0, none⟩) 3 3] (w.alloc (.cells #[.int .u8 237, .int .u8 160, .int .u8 128] 5))
    fun e w' => e = .returned (.tuple #[.int .i64 0, .bool false]) ∧ Below w.heap.size w w' := by
  refine (valid_any _ 3 (at_ [237, 160, 128]) _ (sl_alloc w 5 [237, 160, 128] (by simp) (by simp)) (below_tabs ((Below.refl _ _).alloc (Nat.le_refl _) _) hT)).mono fun e w' ⟨he, hd⟩ => ?_
  rw [show validP (at_ [237, 160, 128]) 3 = (0, false) by decide +kernel] at he
  exact ⟨he, below_trans ((Below.refl _ _).alloc (Nat.le_refl _) _) (drawn_below hd)⟩
theorem awk_count (w : World) (hT : Tabs w) : Calls Tryd.prog 18 #[.slice (some ⟨w.heap.size, 0, none⟩) 2 2, .bool false] (w.alloc (.cells #[.int .u8 195, .int .u8 169] 5))
    fun e w' => e = .returned (.int .i64 2) ∧ Below w.heap.size w w' := by
  refine (count_any _ 2 (at_ [195, 169]) false _ (sl_alloc w 5 [195, 169] (by simp) (by simp)) (below_tabs ((Below.refl _ _).alloc (Nat.le_refl _) _) hT)).mono fun e w' ⟨he, hd⟩ => ?_
  rw [countP_false] at he
  exact ⟨he, below_trans ((Below.refl _ _).alloc (Nat.le_refl _) _) (drawn_below hd)⟩

set_option maxRecDepth 100000 in
set_option maxHeartbeats 2000000 in
theorem awake_any (w : World) (hT : Tabs w) : Calls Tryd.prog 10 #[] w (BoolB true w) := by
  go_enter Tryd.func10, Tryd.ntmps10
  go_wp2_with fail
  refine (awk_next w hT).mono ?_
  rintro e w1 ⟨rfl, hb1⟩
  have hT1 := below_tabs hb1 hT
  go_wp2_with fail
  refine (awk_prev w1 hT1).mono ?_
  rintro e w2 ⟨rfl, hb2⟩
  have hT2 := below_tabs hb2 hT1
  go_wp2_with fail
  refine (awk_valid w2 hT2).mono ?_
  rintro e w3 ⟨rfl, hb3⟩
  have hT3 := below_tabs hb3 hT2
  go_wp2_with fail
  refine (awk_count w3 hT3).mono ?_
  rintro e w4 ⟨rfl, hb4⟩
  go_wp2_with fail
  go_ret
  exact ⟨rfl, below_trans (below_trans (below_trans hb1 hb2) hb3) hb4⟩
end Go.Proofs.YtmphapcogmjgnaaDoor.utfw
