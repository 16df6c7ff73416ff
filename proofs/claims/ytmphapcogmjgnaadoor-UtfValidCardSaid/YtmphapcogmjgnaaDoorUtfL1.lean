/- The walk of the law UtfValid: where the first sequence begins that is none is the document's answer. -/
import Derived.Test.YtmphapcogmjgnaaDoorUtfW4
import Derived.Test.YtmphapcogmjgnaaDoorUtfW6
namespace Go.Proofs.YtmphapcogmjgnaaDoor.utfw
open Go Go.RowKit Go.Proofs.YtmphapcogmjgnaaDoor.utfp
set_option maxHeartbeats 1000000 in
theorem valid_law (v : Value) (n : Nat) (g : Nat → Int) (w : World) (hv : Sl w v n g) (hT : Tabs w) : Calls Tryd.prog 3 #[v] w (BoolB true w) := by
  have H1 := Lib.hid (fun w1 (hb : Below w.heap.size w w1) => valid_any v n g w1 (below_sl hb hv) (below_tabs hb hT))
  have H2 := Lib.hid (fun w1 (hb : Below w.heap.size w w1) => rvalid_any v n g w1 (below_sl hb hv))
  have H0 := Lib.hid (awake_any w hT)
  generalize validP g n = r at *
  obtain ⟨a, b⟩ := r
  clear hv hT
  go_enter Tryd.func3, Tryd.ntmps3
  go_wp2_with fail
  refine H0.out.mono ?_
  rintro e w1 ⟨rfl, hb1⟩
  go_wp2_with fail
  refine (H1.out w1 hb1).mono ?_
  rintro e w2 ⟨rfl, hd2⟩
  have hb2 := below_trans hb1 (drawn_below hd2)
  go_wp2_with fail
  refine (H2.out w2 hb2).mono ?_
  rintro e w3 ⟨rfl, hb3⟩
  go_wp2_with fail
  go_ret
  exact ⟨rfl, below_trans hb2 hb3⟩
end Go.Proofs.YtmphapcogmjgnaaDoor.utfw
