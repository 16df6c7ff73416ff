/- The walk of the law PropsNames. -/
import Derived.Test.YtgdhhpbpbkgmeaaDoorPropsD2
import Derived.Test.YtgdhhpbpbkgmeaaDoorPropsA
namespace Go.Proofs.YtgdhhpbpbkgmeaaDoor.prw
open Go Go.RowKit Go.Proofs.YtgdhhpbpbkgmeaaDoor.bulk Go.Proofs.YtgdhhpbpbkgmeaaDoor.ucdp Go.Proofs.YtgdhhpbpbkgmeaaDoor.setp Go.Proofs.YtgdhhpbpbkgmeaaDoor.setw Go.Proofs.YtgdhhpbpbkgmeaaDoor.prp Go.Proofs.YtgdhhpbpbkgmeaaDoor.prd
open Go.Proofs.YtgdhhpbpbkgmeaaDoor.ucdw (below_trans)

set_option maxRecDepth 100000 in
set_option maxHeartbeats 4000000 in
theorem names_law (n : ByteArray) (w : World) (hn : n.size ≤ maxLen) (hT : TabS w) : Calls Tryd.prog 8 #[.string n] w (BolB true w) := by
  have HA := Lib.hid (awake_any w hT)
  have HP := Lib.hid (fun u (h : Below w.heap.size w u) => property_any n u hn (tabS_below h hT))
  have HR := Lib.hid (fun u => dprop_any n u)
  clear hn hT
  go_enter Tryd.func8, Tryd.ntmps8
  go_wp2_with fail
  refine HA.out.mono ?_
  rintro e w1 ⟨rfl, hb1⟩
  have HB1 := Lib.hid hb1
  clear hb1
  go_wp2_with fail
  refine (HP.out _ HB1.out).mono ?_
  rintro e w2 ⟨v, R, rfl, hS, hh, ho, hb2⟩
  have HO := Lib.hid (rs_own ho (wf_canon hS.2))
  have HS := Lib.hid hS
  have HH := Lib.hid hh
  have HB2 := Lib.hid (below_trans HB1.out hb2)
  clear ho hb2 hS hh
  go_wp2_with fail
  refine (HR.out _).mono ?_
  rintro e w3 ⟨v2, R2, rfl, hS2, hh2, hr, hb3⟩
  obtain rfl : R2 = R := canon_ext hS2 HS.out fun c => (hh2 c).trans (HH.out c).symm
  have HSa := Lib.hid (rsame_any v v2 R2 R2 w3 (rsAt_below HO.out hb3) hr (by have := canon_len hS2; omega) (by have := canon_len hS2; omega))
  rw [decide_eq_true rfl] at HSa
  have HB3 := Lib.hid (below_trans HB2.out hb3)
  clear hr hb3 hS2 hh2
  generalize isP n = p at *
  cases p <;>
  · go_wp2_with fail
    refine HSa.out.mono ?_
    rintro e w4 ⟨rfl, q, rfl⟩
    go_wp2_with fail
    go_ret
    exact ⟨rfl, below_dn HB3.out _⟩
end Go.Proofs.YtgdhhpbpbkgmeaaDoor.prw
