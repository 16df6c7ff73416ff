/- The contract of layer 4's awake. -/
import Derived.Test.YtgdhhpbpbkgmeaaDoorPropsW7
namespace Go.Proofs.YtgdhhpbpbkgmeaaDoor.prw
open Go Go.RowKit Go.Proofs.YtgdhhpbpbkgmeaaDoor.bulk Go.Proofs.YtgdhhpbpbkgmeaaDoor.ucdp Go.Proofs.YtgdhhpbpbkgmeaaDoor.ucdw Go.Proofs.YtgdhhpbpbkgmeaaDoor.setp Go.Proofs.YtgdhhpbpbkgmeaaDoor.setw Go.Proofs.YtgdhhpbpbkgmeaaDoor.prp

/-- what a property has, out of the table of numbers at which something changes -/
theorem prop_wl (n : ByteArray) {S : List Rg} (h : ∀ c, Has S c ↔ 0 ≤ c ∧ c ≤ 1114111 ∧ propP n c = true) (c : Int) : Has S c ↔ Has (wl (fun c => propP n c) 93) c ∧ 0 ≤ c ∧ c ≤ 1114111 := by
  rw [h]
  exact (wl_all (hp n) c).symm
theorem cyr_set {S : List Rg} (hS : Canon S) (h : ∀ c, Has S c ↔ 0 ≤ c ∧ c ≤ 1114111 ∧ propP ⟨#[67, 121, 114, 105, 108, 108, 105, 99]⟩ c = true) : S = [(1040, 1103)] := by
  have e : wl (fun c => propP ⟨#[67, 121, 114, 105, 108, 108, 105, 99]⟩ c) 93 = [(1040, 1071), (1072, 1103)] := by decide +kernel
  refine canon_ext hS (canon_of (by decide +kernel)) fun c => ?_
  rw [prop_wl _ h, e, has_cons, has_one, has_one]
  simp only
  omega
theorem pos_blank (w : World) : Calls Tryd.prog 29 #[.string ⟨#[98, 108, 97, 110, 107]⟩] w (RB2 [(9, 9), (32, 32)] true w) := by
  have h := pos_any ⟨#[98, 108, 97, 110, 107]⟩ w (by unfold maxLen; decide)
  rw [show posixP ⟨#[98, 108, 97, 110, 107]⟩ = [(9, 9), (32, 32)] by decide +kernel, show posixB ⟨#[98, 108, 97, 110, 107]⟩ = true by decide +kernel] at h
  exact h
theorem esc_h (w : World) : Calls Tryd.prog 31 #[.int .i64 104] w (RB2 [(9, 9), (32, 32), (160, 160), (8192, 8202)] true w) := esc_any 104 w
theorem prop_cyr (w : World) (hT : TabS w) : Calls Tryd.prog 33 #[.string ⟨#[67, 121, 114, 105, 108, 108, 105, 99]⟩] w (RB2 [(1040, 1103)] true w) := by
  refine (property_any ⟨#[67, 121, 114, 105, 108, 108, 105, 99]⟩ w (by unfold maxLen; decide) hT).mono ?_
  rintro e w' ⟨v, S, rfl, hS, hh, ho, hb⟩
  obtain rfl := cyr_set hS hh
  exact ⟨v, by rw [show isP ⟨#[67, 121, 114, 105, 108, 108, 105, 99]⟩ = true by decide +kernel], ho, hb⟩
theorem prop_lm (w : World) (hT : TabS w) : Calls Tryd.prog 33 #[.string ⟨#[76, 109]⟩] w fun e w' => (∃ v, e = .returned (.tuple #[v, .bool false])) ∧ Below w.heap.size w w' := by
  refine (property_any ⟨#[76, 109]⟩ w (by unfold maxLen; decide) hT).mono ?_
  rintro e w' ⟨v, S, rfl, hS, hh, ho, hb⟩
  exact ⟨⟨v, by rw [show isP ⟨#[76, 109]⟩ = false by decide +kernel]⟩, hb⟩

set_option maxRecDepth 100000 in
set_option maxHeartbeats 8000000 in
theorem awake_any (w : World) (hT : TabS w) : Calls Tryd.prog 28 #[] w (BolB true w) := by
  have HT := Lib.hid hT
  clear hT
  have H1 := Lib.hid (pos_blank w)
  go_enter Tryd.func28, Tryd.ntmps28
  go_wp2_with fail
  refine H1.out.mono ?_
  rintro e w1 ⟨v1, rfl, ho1, hb1⟩
  obtain ⟨g1, q1, rfl, _, hl1, hm1, hc1⟩ := ownR_slice ho1 (by simp)
  have A1 := Lib.hid (hc1 1 (by decide)).1
  have HB1 := Lib.hid hb1
  clear ho1 hb1 hc1
  have H2 := Lib.hid (esc_h w1)
  go_wp2_with fail
  refine H2.out.mono ?_
  rintro e w2 ⟨v2, rfl, ho2, hb2⟩
  obtain ⟨g2, q2, rfl, _, hl2, hm2, hc2⟩ := ownR_slice ho2 (by simp)
  have A2 := Lib.hid (hc2 3 (by decide)).2
  have A12 := Lib.hid (below_cell hb2 A1.out)
  have HB2 := Lib.hid (below_trans HB1.out hb2)
  clear ho2 hb2 hc2
  have H3 := Lib.hid (prop_cyr w2 (tabS_below HB2.out HT.out))
  go_wp2_with fail
  refine H3.out.mono ?_
  rintro e w3 ⟨v3, rfl, ho3, hb3⟩
  obtain ⟨g3, q3, rfl, _, hl3, hm3, hc3⟩ := ownR_slice ho3 (by simp)
  have A3 := Lib.hid (hc3 0 (by decide)).1
  have A4 := Lib.hid (hc3 0 (by decide)).2
  have A13 := Lib.hid (below_cell hb3 A12.out)
  have A23 := Lib.hid (below_cell hb3 A2.out)
  have HB3 := Lib.hid (below_trans HB2.out hb3)
  clear ho3 hb3 hc3
  have H4 := Lib.hid (prop_lm w3 (tabS_below HB3.out HT.out))
  go_wp2_with fail
  refine H4.out.mono ?_
  rintro e w4 ⟨⟨v4, rfl⟩, hb4⟩
  have d1 := below_cell hb4 A13.out
  have d2 := below_cell hb4 A23.out
  have d3 := below_cell hb4 A3.out
  have d4 := below_cell hb4 A4.out
  have HB4 := Lib.hid (below_trans HB3.out hb4)
  clear hb4
  simp only [List.getElem_cons_zero, List.getElem_cons_succ, Nat.reduceMul, Nat.reduceAdd, Nat.zero_mul, Nat.zero_add] at d1 d2 d3 d4
  go_wp2_with fail
  go_ret
  exact ⟨rfl, HB4.out⟩
end Go.Proofs.YtgdhhpbpbkgmeaaDoor.prw
