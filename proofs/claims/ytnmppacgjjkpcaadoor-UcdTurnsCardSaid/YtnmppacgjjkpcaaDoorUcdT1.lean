/- A walk of the law UcdTurns. -/
import Derived.Test.YtnmppacgjjkpcaaDoorUcdR5
import Derived.Test.YtnmppacgjjkpcaaDoorUcdP2
import Derived.Deep.QuietTactic
import Derived.BigQuiet
namespace Go.Proofs.YtnmppacgjjkpcaaDoor.ucdw
open Go Go.RowKit Go.Proofs.YtnmppacgjjkpcaaDoor.bulk Go.Proofs.YtnmppacgjjkpcaaDoor.ucdp

set_option maxRecDepth 100000 in
set_option maxHeartbeats 4000000 in
theorem turns_75 (w : World) (hT : Tab3 w) : Calls Tryd.prog 5 #[.int .i64 75, .bool true] w (BoolB true w) := by
  have H0 := Lib.hid (awake_any w hT)
  have HO := Lib.hid (fun w1 (hb : Below w.heap.size w w1) => others_m75 w1 (below_tab hb hT))
  have HX := Lib.hid (fun w1 (hb : Below w.heap.size w w1) => others_m107 w1 (below_tab hb hT))
  have HY := Lib.hid (fun w1 (hb : Below w.heap.size w w1) => others_m8490 w1 (below_tab hb hT))
  clear hT
  go_enter Tryd.func5, Tryd.ntmps5
  go_wp2_with fail
  refine H0.out.mono ?_
  rintro e w1 ⟨rfl, hw1⟩
  go_wp2_with fail
  refine (HO.out _ hw1).mono ?_
  rintro e w2 ⟨v, rfl, hv, hb2⟩
  obtain ⟨g, cap, rfl, k1, k2, c0, c1⟩ := ints_two hv
  have hw2 := below_trans hw1 hb2
  clear hv hb2 hw1
  go_wp2_with fail
  refine wp_loop_rounds 3 ?_
  rw [rounds_succ]
  go_wp2_with fail
  refine (HX.out _ hw2).mono ?_
  rintro e w3 ⟨v3, rfl, hv3, hb3⟩
  obtain ⟨g3, cap3, rfl, k3, k4, d0, d1⟩ := ints_two hv3
  have hw3 := below_trans hw2 hb3
  have e0 := below_cell hb3 c0
  have e1 := below_cell hb3 c1
  clear hv3 hb3 hw2 c0 c1
  go_wp2_with fail
  refine wp_loop_rounds 3 ?_
  rw [rounds_succ]
  go_wp2_with fail
  rw [rounds_succ]
  go_wp2_with fail
  rw [rounds_succ]
  go_wp2_with fail
  go_quiet (fail)
  go_wp2_with fail
  rw [rounds_succ]
  go_wp2_with fail
  refine (HY.out _ (below_drewN hw3 _)).mono ?_
  rintro e w4 ⟨v4, rfl, hv4, hb4⟩
  obtain ⟨g4, cap4, rfl, k5, k6, f0, f1⟩ := ints_two hv4
  have hw4 := below_trans (below_drewN hw3 _) hb4
  have i0 := below_cell hb4 ((World.cell?_drewN ..).trans e0)
  have i1 := below_cell hb4 ((World.cell?_drewN ..).trans e1)
  clear hv4 hb4 hw3 e0 e1 d0 d1
  go_wp2_with fail
  refine wp_loop_rounds 3 ?_
  rw [rounds_succ]
  go_wp2_with fail
  rw [rounds_succ]
  go_wp2_with fail
  rw [rounds_succ]
  go_wp2_with fail
  go_quiet (fail)
  go_wp2_with fail
  rw [rounds_succ]
  go_wp2_with fail
  go_ret
  exact ⟨rfl, below_drewN hw4 _⟩

set_option maxRecDepth 100000 in
set_option maxHeartbeats 4000000 in
theorem turns_107 (w : World) (hT : Tab3 w) : Calls Tryd.prog 5 #[.int .i64 107, .bool true] w (BoolB true w) := by
  have H0 := Lib.hid (awake_any w hT)
  have HO := Lib.hid (fun w1 (hb : Below w.heap.size w w1) => others_m107 w1 (below_tab hb hT))
  have HX := Lib.hid (fun w1 (hb : Below w.heap.size w w1) => others_m75 w1 (below_tab hb hT))
  have HY := Lib.hid (fun w1 (hb : Below w.heap.size w w1) => others_m8490 w1 (below_tab hb hT))
  clear hT
  go_enter Tryd.func5, Tryd.ntmps5
  go_wp2_with fail
  refine H0.out.mono ?_
  rintro e w1 ⟨rfl, hw1⟩
  go_wp2_with fail
  refine (HO.out _ hw1).mono ?_
  rintro e w2 ⟨v, rfl, hv, hb2⟩
  obtain ⟨g, cap, rfl, k1, k2, c0, c1⟩ := ints_two hv
  have hw2 := below_trans hw1 hb2
  clear hv hb2 hw1
  go_wp2_with fail
  refine wp_loop_rounds 3 ?_
  rw [rounds_succ]
  go_wp2_with fail
  refine (HX.out _ hw2).mono ?_
  rintro e w3 ⟨v3, rfl, hv3, hb3⟩
  obtain ⟨g3, cap3, rfl, k3, k4, d0, d1⟩ := ints_two hv3
  have hw3 := below_trans hw2 hb3
  have e0 := below_cell hb3 c0
  have e1 := below_cell hb3 c1
  clear hv3 hb3 hw2 c0 c1
  go_wp2_with fail
  refine wp_loop_rounds 3 ?_
  rw [rounds_succ]
  go_wp2_with fail
  rw [rounds_succ]
  go_wp2_with fail
  rw [rounds_succ]
  go_wp2_with fail
  go_quiet (fail)
  go_wp2_with fail
  rw [rounds_succ]
  go_wp2_with fail
  refine (HY.out _ (below_drewN hw3 _)).mono ?_
  rintro e w4 ⟨v4, rfl, hv4, hb4⟩
  obtain ⟨g4, cap4, rfl, k5, k6, f0, f1⟩ := ints_two hv4
  have hw4 := below_trans (below_drewN hw3 _) hb4
  have i0 := below_cell hb4 ((World.cell?_drewN ..).trans e0)
  have i1 := below_cell hb4 ((World.cell?_drewN ..).trans e1)
  clear hv4 hb4 hw3 e0 e1 d0 d1
  go_wp2_with fail
  refine wp_loop_rounds 3 ?_
  rw [rounds_succ]
  go_wp2_with fail
  rw [rounds_succ]
  go_wp2_with fail
  rw [rounds_succ]
  go_wp2_with fail
  go_quiet (fail)
  go_wp2_with fail
  rw [rounds_succ]
  go_wp2_with fail
  go_ret
  exact ⟨rfl, below_drewN hw4 _⟩

set_option maxRecDepth 100000 in
set_option maxHeartbeats 4000000 in
theorem turns_8490 (w : World) (hT : Tab3 w) : Calls Tryd.prog 5 #[.int .i64 8490, .bool true] w (BoolB true w) := by
  have H0 := Lib.hid (awake_any w hT)
  have HO := Lib.hid (fun w1 (hb : Below w.heap.size w w1) => others_m8490 w1 (below_tab hb hT))
  have HX := Lib.hid (fun w1 (hb : Below w.heap.size w w1) => others_m75 w1 (below_tab hb hT))
  have HY := Lib.hid (fun w1 (hb : Below w.heap.size w w1) => others_m107 w1 (below_tab hb hT))
  clear hT
  go_enter Tryd.func5, Tryd.ntmps5
  go_wp2_with fail
  refine H0.out.mono ?_
  rintro e w1 ⟨rfl, hw1⟩
  go_wp2_with fail
  refine (HO.out _ hw1).mono ?_
  rintro e w2 ⟨v, rfl, hv, hb2⟩
  obtain ⟨g, cap, rfl, k1, k2, c0, c1⟩ := ints_two hv
  have hw2 := below_trans hw1 hb2
  clear hv hb2 hw1
  go_wp2_with fail
  refine wp_loop_rounds 3 ?_
  rw [rounds_succ]
  go_wp2_with fail
  refine (HX.out _ hw2).mono ?_
  rintro e w3 ⟨v3, rfl, hv3, hb3⟩
  obtain ⟨g3, cap3, rfl, k3, k4, d0, d1⟩ := ints_two hv3
  have hw3 := below_trans hw2 hb3
  have e0 := below_cell hb3 c0
  have e1 := below_cell hb3 c1
  clear hv3 hb3 hw2 c0 c1
  go_wp2_with fail
  refine wp_loop_rounds 3 ?_
  rw [rounds_succ]
  go_wp2_with fail
  rw [rounds_succ]
  go_wp2_with fail
  rw [rounds_succ]
  go_wp2_with fail
  go_quiet (fail)
  go_wp2_with fail
  rw [rounds_succ]
  go_wp2_with fail
  refine (HY.out _ (below_drewN hw3 _)).mono ?_
  rintro e w4 ⟨v4, rfl, hv4, hb4⟩
  obtain ⟨g4, cap4, rfl, k5, k6, f0, f1⟩ := ints_two hv4
  have hw4 := below_trans (below_drewN hw3 _) hb4
  have i0 := below_cell hb4 ((World.cell?_drewN ..).trans e0)
  have i1 := below_cell hb4 ((World.cell?_drewN ..).trans e1)
  clear hv4 hb4 hw3 e0 e1 d0 d1
  go_wp2_with fail
  refine wp_loop_rounds 3 ?_
  rw [rounds_succ]
  go_wp2_with fail
  rw [rounds_succ]
  go_wp2_with fail
  rw [rounds_succ]
  go_wp2_with fail
  go_quiet (fail)
  go_wp2_with fail
  rw [rounds_succ]
  go_wp2_with fail
  go_ret
  exact ⟨rfl, below_drewN hw4 _⟩
end Go.Proofs.YtnmppacgjjkpcaaDoor.ucdw
