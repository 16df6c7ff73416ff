/- The walk of the law UcdLetters. -/
import Derived.Test.YtnmppacgjjkpcaaDoorUcdM1
import Derived.Test.YtnmppacgjjkpcaaDoorUcdM2
import Derived.Test.YtnmppacgjjkpcaaDoorUcdM3
import Derived.Test.YtnmppacgjjkpcaaDoorUcdM4
import Derived.Test.YtnmppacgjjkpcaaDoorUcdM5
import Derived.Test.YtnmppacgjjkpcaaDoorUcdM6
import Derived.Test.YtnmppacgjjkpcaaDoorUcdP2
namespace Go.Proofs.YtnmppacgjjkpcaaDoor.ucdw
open Go Go.RowKit Go.Proofs.YtnmppacgjjkpcaaDoor.bulk Go.Proofs.YtnmppacgjjkpcaaDoor.ucdp

set_option maxRecDepth 100000 in
set_option maxHeartbeats 4000000 in
theorem letters_none (c : Int) (u : Bool) (w : World) (h1 : -9223372036854775808 ≤ c) (h2 : c ≤ 9223372036854775807) (hE : othersP c u = []) (hT : Tab3 w) : Calls Tryd.prog 6 #[.int .i64 c, .bool u] w (BoolB true w) := by
  have H0 := Lib.hid (awake_any w hT)
  have HO := Lib.hid (fun w1 (hb : Below w.heap.size w w1) => (hE ▸ others_any c u w1 h1 h2 (below_tab hb hT) : Calls _ _ _ w1 (IntsB [] w1)))
  clear hT hE
  go_enter Tryd.func6, Tryd.ntmps6
  go_wp2_with fail
  refine H0.out.mono ?_
  rintro e w1 ⟨rfl, hw1⟩
  go_wp2_with fail
  refine (HO.out _ hw1).mono ?_
  rintro e w2 ⟨v, rfl, hv, hb2⟩
  obtain rfl := ints_none hv
  have hw2 := below_trans hw1 hb2
  clear hv
  go_wp2_with fail
  go_ret
  exact ⟨rfl, hw2⟩

theorem letters_law (c : Int) (u : Bool) (w : World) (h1 : -9223372036854775808 ≤ c) (h2 : c ≤ 9223372036854775807) (hT : Tab3 w) : Calls Tryd.prog 6 #[.int .i64 c, .bool u] w (BoolB true w) := by
  obtain ⟨l, hl⟩ : ∃ l, othersP c u = l := ⟨_, rfl⟩
  cases l with
  | nil => exact letters_none c u w h1 h2 hl hT
  | cons x l =>
    have hx := others_head hl
    rcases letter_cases hl with ⟨rfl, rfl | rfl | rfl⟩ | ⟨hk, hs⟩
    · exact letters_181 w hT
    · exact letters_924 w hT
    · exact letters_956 w hT
    · rcases hk with ⟨a, b⟩ | ⟨a, b⟩ | ⟨a, b⟩
      · exact letters_ul c x l u _ w h1 h2 (by omega) (by omega) hl (by rw [a]; rfl) (by rw [b]; rfl) (by rw [hs]) rfl hT
      · exact letters_lu c x l u _ w h1 h2 (by omega) (by omega) hl (by rw [a]; rfl) (by rw [b]; rfl) (by rw [hs]) rfl hT
      · exact letters_uu c x l u _ w h1 h2 (by omega) (by omega) hl (by rw [a]; rfl) (by rw [b]; rfl) (by rw [hs]) rfl hT
end Go.Proofs.YtnmppacgjjkpcaaDoor.ucdw
