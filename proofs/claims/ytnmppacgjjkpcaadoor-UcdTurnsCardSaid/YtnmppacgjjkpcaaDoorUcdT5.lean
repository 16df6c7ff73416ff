/- A walk of the law UcdTurns. -/
import Derived.Test.YtnmppacgjjkpcaaDoorUcdR5
import Derived.Test.YtnmppacgjjkpcaaDoorUcdP2
import Derived.Deep.QuietTactic
import Derived.BigQuiet
namespace Go.Proofs.YtnmppacgjjkpcaaDoor.ucdw
open Go Go.RowKit Go.Proofs.YtnmppacgjjkpcaaDoor.bulk Go.Proofs.YtnmppacgjjkpcaaDoor.ucdp

set_option maxRecDepth 100000 in
set_option maxHeartbeats 4000000 in
theorem turns_none (c : Int) (u : Bool) (w : World) (h1 : -9223372036854775808 ≤ c) (h2 : c ≤ 9223372036854775807) (hE : othersP c u = []) (hT : Tab3 w) : Calls Tryd.prog 5 #[.int .i64 c, .bool u] w (BoolB true w) := by
  have H0 := Lib.hid (awake_any w hT)
  have HO := Lib.hid (fun w1 (hb : Below w.heap.size w w1) => (hE ▸ others_any c u w1 h1 h2 (below_tab hb hT) : Calls _ _ _ w1 (IntsB [] w1)))
  clear hT hE
  go_enter Tryd.func5, Tryd.ntmps5
  go_wp2_with fail
  refine H0.out.mono ?_
  rintro e w1 ⟨rfl, hw1⟩
  go_wp2_with fail
  refine (HO.out _ hw1).mono ?_
  rintro e w2 ⟨v, rfl, hv, hb2⟩
  obtain rfl := ints_none hv
  have hw2 := below_trans hw1 hb2
  clear hv hb2 hw1
  go_wp2_with fail
  refine wp_loop_rounds 1 ?_
  rw [rounds_succ]
  go_wp2_with fail
  go_ret
  exact ⟨rfl, hw2⟩

set_option maxRecDepth 100000 in
set_option maxHeartbeats 4000000 in
theorem turns_one (c x : Int) (u : Bool) (w : World) (h1 : -9223372036854775808 ≤ c) (h2 : c ≤ 9223372036854775807) (x1 : 0 ≤ x) (x2 : x ≤ 8490) (hE : othersP c u = [x]) (hX : othersP x u = [c]) (hn : (x == c) = false) (hT : Tab3 w) :
    Calls Tryd.prog 5 #[.int .i64 c, .bool u] w (BoolB true w) := by
  have H0 := Lib.hid (awake_any w hT)
  have HO := Lib.hid (fun w1 (hb : Below w.heap.size w w1) => (hE ▸ others_any c u w1 h1 h2 (below_tab hb hT) : Calls _ _ _ w1 (IntsB [x] w1)))
  have HX := Lib.hid (fun w1 (hb : Below w.heap.size w w1) => (hX ▸ others_any x u w1 (by omega) (by omega) (below_tab hb hT) : Calls _ _ _ w1 (IntsB [c] w1)))
  have hc : (c == c) = true := by simp
  clear hT hE hX
  go_enter Tryd.func5, Tryd.ntmps5
  go_wp2_with fail
  refine H0.out.mono ?_
  rintro e w1 ⟨rfl, hw1⟩
  go_wp2_with fail
  refine (HO.out _ hw1).mono ?_
  rintro e w2 ⟨v, rfl, hv, hb2⟩
  obtain ⟨g, cap, rfl, k1, k2, c0⟩ := ints_one hv
  have hw2 := below_trans hw1 hb2
  clear hv hb2 hw1
  go_wp2_with fail
  refine wp_loop_rounds 2 ?_
  rw [rounds_succ]
  go_wp2_with fail
  refine (HX.out _ hw2).mono ?_
  rintro e w3 ⟨v3, rfl, hv3, hb3⟩
  obtain ⟨g3, cap3, rfl, k3, k4, d0⟩ := ints_one hv3
  have hw3 := below_trans hw2 hb3
  have e0 := below_cell hb3 c0
  clear hv3 hb3 hw2 c0
  go_wp2_with fail
  refine wp_loop_rounds 2 ?_
  rw [rounds_succ]
  go_wp2_with fail
  rw [rounds_succ]
  go_wp2_with fail
  go_quiet (fail)
  go_wp2_with fail
  rw [rounds_succ]
  go_wp2_with fail
  go_ret
  exact ⟨rfl, below_drewN hw3 _⟩
end Go.Proofs.YtnmppacgjjkpcaaDoor.ucdw
