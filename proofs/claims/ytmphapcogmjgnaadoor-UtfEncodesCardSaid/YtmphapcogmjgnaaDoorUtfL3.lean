/- The walk of the law UtfEncodes: the bytes of any number are the document's, or it is refused. -/
import Derived.Test.YtmphapcogmjgnaaDoorUtfL2
namespace Go.Proofs.YtmphapcogmjgnaaDoor.utfw
open Go Go.RowKit Go.Proofs.YtmphapcogmjgnaaDoor.utfp
set_option maxHeartbeats 1000000 in
theorem encodes_law (c : Int) (_wc : (Lit.int .i64 c).wf = true) (u : Bool) (w : World) (hT : Tabs w) : Calls Tryd.prog 6 #[.int .i64 c, .bool u] w (BoolB true w) := by
  have H1 := Lib.hid (fun w1 (hb : Below w.heap.size w w1) => encode_any c u w1 (below_tabs hb hT))
  have H2 := Lib.hid (fun w1 => rencode_any c u w1)
  have H0 := Lib.hid (awake_any w hT)
  unfold EncPost at *
  generalize encP u c = l at *
  generalize (if l = [] then (1 : Int) else 0) = k at *
  clear hT
  go_enter Tryd.func6, Tryd.ntmps6
  go_wp2_with fail
  refine H0.out.mono ?_
  rintro e w1 ⟨rfl, hb1⟩
  go_wp2_with fail
  refine (H1.out w1 hb1).mono ?_
  rintro e w2 ⟨v2, rfl, hs2, hb2⟩
  go_wp2_with fail
  refine (H2.out w2).mono ?_
  rintro e w3 ⟨v3, rfl, hs3, hb3⟩
  have c2 := conv_sl (below_sl hb3 hs2)
  have c3 := conv_sl hs3
  go_wp2_with fail
  go_ret
  exact ⟨rfl, below_trans (below_trans hb1 hb2) hb3⟩
end Go.Proofs.YtmphapcogmjgnaaDoor.utfw
