/- The contracts of package ucd's Category and Script: what the document's table says. -/
import Derived.Test.YtgdhhpbpbkgmeaaDoorUcdW3
namespace Go.Proofs.YtgdhhpbpbkgmeaaDoor.ucdw
open Go Go.RowKit Go.Proofs.YtgdhhpbpbkgmeaaDoor.bulk Go.Proofs.YtgdhhpbpbkgmeaaDoor.ucdp

set_option maxHeartbeats 400000 in
theorem category_any (c : Int) (w : World) (h1 : -9223372036854775808 ≤ c) (h2 : c ≤ 9223372036854775807) : Calls Tryd.prog 59 #[.int .i64 c] w (StrB (catB (cls c).1) w) := by
  have HF := Lib.hid (find_any c w h1 h2)
  have hf := field1
  clear h1 h2
  go_enter Tryd.func59, Tryd.ntmps59
  go_wp2_with fail
  refine HF.out.mono ?_
  rintro e w1 ⟨t, rfl, hb1⟩
  go_wp2_with fail
  go_ret
  exact ⟨rfl, hb1⟩
set_option maxHeartbeats 400000 in
theorem script_any (c : Int) (w : World) (h1 : -9223372036854775808 ≤ c) (h2 : c ≤ 9223372036854775807) : Calls Tryd.prog 63 #[.int .i64 c] w (StrB (scrB (cls c).2.1) w) := by
  have HF := Lib.hid (find_any c w h1 h2)
  have hf := field2
  clear h1 h2
  go_enter Tryd.func63, Tryd.ntmps63
  go_wp2_with fail
  refine HF.out.mono ?_
  rintro e w1 ⟨t, rfl, hb1⟩
  go_wp2_with fail
  go_ret
  exact ⟨rfl, hb1⟩
end Go.Proofs.YtgdhhpbpbkgmeaaDoor.ucdw
