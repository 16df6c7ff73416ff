/- The walk of the law SetsJoins. (Written by gen/joins.py.) -/
import Derived.Test.YtgdhhpbpbkgmeaaDoorSetsJ4
import Derived.Test.YtgdhhpbpbkgmeaaDoorSetsJ31
import Derived.Test.YtgdhhpbpbkgmeaaDoorSetsJ32
import Derived.Test.YtgdhhpbpbkgmeaaDoorSetsA
import Derived.Test.YtgdhhpbpbkgmeaaDoorSetsX
namespace Go.Proofs.YtgdhhpbpbkgmeaaDoor.setw
open Go Go.RowKit Go.Shelf Go.Proofs.YtgdhhpbpbkgmeaaDoor.bulk Go.Proofs.YtgdhhpbpbkgmeaaDoor.ucdp Go.Proofs.YtgdhhpbpbkgmeaaDoor.ucdw Go.Proofs.YtgdhhpbpbkgmeaaDoor.setp Go.Proofs.YtgdhhpbpbkgmeaaDoor.flt Go.Proofs.YtgdhhpbpbkgmeaaDoor.setl

set_option maxRecDepth 100000 in
set_option maxHeartbeats 8000000 in
theorem joins_law (v1 v2 : Value) (l1 l2 : List Rg) (most : Int) (w : World) (hv1 : RsAt w v1 l1) (hv2 : RsAt w v2 l2) (h1 : -9223372036854775808 ≤ most) (h2 : most ≤ 9223372036854775807) (hT : Tab3 w) :
    Calls Tryd.prog 4 #[v1, v2, .int .i64 most] w (BoolB true w) := by
  have H0 := Lib.hid (awake_any w hT)
  have HV1 := Lib.hid hv1
  have HV2 := Lib.hid hv2
  have HM1 := Lib.hid h1
  have HM2 := Lib.hid h2
  obtain ⟨a1, q1, rfl⟩ := rsAt_len hv1
  obtain ⟨a2, q2, rfl⟩ := rsAt_len hv2
  clear hv1 hv2 hT h1 h2
  by_cases hbig : (200 : Int) < l1.length
  · go_enter Tryd.func4, Tryd.ntmps4
    go_wp2_with fail
    refine H0.out.mono ?_
    rintro e w1 ⟨rfl, hb1⟩
    go_wp2_with fail
    go_ret
    exact ⟨rfl, hb1⟩
  by_cases hbig2 : (200 : Int) < l2.length
  · go_enter Tryd.func4, Tryd.ntmps4
    go_wp2_with fail
    refine H0.out.mono ?_
    rintro e w1 ⟨rfl, hb1⟩
    go_wp2_with fail
    go_ret
    exact ⟨rfl, hb1⟩
  have HL1 := Lib.hid (show l1.length ≤ 100000 by omega)
  have HL2 := Lib.hid (show l2.length ≤ 100000 by omega)
  go_enter Tryd.func4, Tryd.ntmps4
  go_wp2_with fail
  refine H0.out.mono ?_
  rintro e w1 ⟨rfl, hb1⟩
  have HB1 := Lib.hid hb1
  clear hb1
  go_wp2_with fail
  refine (new_any _ l1 1114111 w1 (rsAt_below HV1.out HB1.out) (by have := HL1.out; omega) (by decide) (by decide)).mono ?_
  rintro e w2 ⟨v3, S, rfl, hS, hh, hz, hb2⟩
  obtain ⟨gs, cs, rfl⟩ := zsAt_len hz
  have HST := Lib.hid (st_push (st_nil HB1.out) hb2 hz 27)
  have HS := Lib.hid hS
  have HSh := Lib.hid hh
  clear hS hh hz hb2
  go_wp2_with fail
  generalize hbs : w2.heap.size = bs at *
  generalize w2.alloc _ = w3 at *
  refine (new_any _ l2 1114111 w3 (rsAt_below HV2.out HST.out.1) (by have := HL2.out; omega) (by decide) (by decide)).mono ?_
  rintro e w4 ⟨v4, T, rfl, hT, hh, hz, hb2⟩
  obtain ⟨gt, ct, rfl⟩ := zsAt_len hz
  have HST4 := Lib.hid (st_push HST.out hb2 hz 27)
  have HT := Lib.hid hT
  have HTh := Lib.hid hh
  have d1 := st_cell (b := bs) (v := .slice gs S.length cs) (S := S) HST4.out (by simp)
  clear hT hh hz hb2 HST hbs
  go_wp2_with fail
  clear d1
  generalize hbt : w4.heap.size = bt at *
  generalize w4.alloc _ = w5 at *
  have d0 := st_cell (b := bt) (v := .slice gt T.length ct) (S := T) HST4.out (by simp)
  have d1 := st_cell (b := bs) (v := .slice gs S.length cs) (S := S) HST4.out (by simp)
  refine (union_any (.slice gs S.length cs) (.slice gt T.length ct) S T 0 0 w5 HS.out HT.out (st_z (b := bs) HST4.out (by simp)) (st_z (b := bt) HST4.out (by simp))).mono ?_
  rintro e w6 ⟨vU, U, rfl, hX, hh, hz, hb2⟩
  obtain ⟨gu, cu, rfl⟩ := zsAt_len hz
  have HST6 := Lib.hid (st_push HST4.out hb2 hz 27)
  have HU := Lib.hid hX
  have HUh := Lib.hid hh
  clear hX hh hz hb2 HST4 d0 d1
  go_upto_region 9 with (fail)
  generalize hbU : w6.heap.size = bu at *
  generalize w6.alloc _ = w7 at *
  clear hbU
  have d0 := st_cell (b := bu) (v := .slice gu U.length cu) (S := U) HST6.out (by simp)
  have d1 := st_cell (b := bt) (v := .slice gt T.length ct) (S := T) HST6.out (by simp)
  have d2 := st_cell (b := bs) (v := .slice gs S.length cs) (S := S) HST6.out (by simp)
  go_wp2_with fail
  refine (meet_any (.slice gs S.length cs) (.slice gt T.length ct) S T 0 0 w7 HS.out HT.out (st_z (b := bs) HST6.out (by simp)) (st_z (b := bt) HST6.out (by simp))).mono ?_
  rintro e w8 ⟨vM, M, rfl, hX, hh, hz, hb2⟩
  obtain ⟨gm, cm, rfl⟩ := zsAt_len hz
  have HST8 := Lib.hid (st_push HST6.out hb2 hz 27)
  have HM := Lib.hid hX
  have HMh := Lib.hid hh
  clear hX hh hz hb2 HST6 d0 d1 d2
  go_upto_region 10 with (fail)
  generalize hbM : w8.heap.size = bm at *
  generalize w8.alloc _ = w9 at *
  clear hbM
  have d0 := st_cell (b := bm) (v := .slice gm M.length cm) (S := M) HST8.out (by simp)
  have d1 := st_cell (b := bu) (v := .slice gu U.length cu) (S := U) HST8.out (by simp)
  have d2 := st_cell (b := bt) (v := .slice gt T.length ct) (S := T) HST8.out (by simp)
  have d3 := st_cell (b := bs) (v := .slice gs S.length cs) (S := S) HST8.out (by simp)
  go_wp2_with fail
  refine (not_any (.slice gs S.length cs) S 0 most w9 HS.out (st_z (b := bs) HST8.out (by simp)) HM1.out HM2.out).mono ?_
  rintro e w10 ⟨vN, N, rfl, hX, hh, hz, hb2⟩
  obtain ⟨gn, cn, rfl⟩ := zsAt_len hz
  have HST10 := Lib.hid (st_push HST8.out hb2 hz 27)
  have HN := Lib.hid hX
  have HNh := Lib.hid hh
  clear hX hh hz hb2 HST8 d0 d1 d2 d3
  go_upto_region 11 with (fail)
  generalize hbN : w10.heap.size = bn at *
  generalize w10.alloc _ = w11 at *
  clear hbN
  have d0 := st_cell (b := bu) (v := .slice gu U.length cu) (S := U) HST10.out (by simp)
  go_wp2_with fail
  refine (ranges_any (.slice gu U.length cu) U 0 w11 HU.out (st_z (b := bu) HST10.out (by simp))).mono ?_
  rintro e w12 ⟨vUr, rfl, ho, hb⟩
  have HRU := Lib.hid (rs_own ho (wf_canon HU.out.2))
  have HST12 := Lib.hid (st_on HST10.out hb)
  clear ho hb HST10 d0
  go_wp2_with fail
  refine (join0_any (.slice a1 l1.length q1) (.slice a2 l2.length q2) l1 l2 1114111 w12 (rsAt_below HV1.out HST12.out.1) (rsAt_below HV2.out HST12.out.1) HL1.out HL2.out (by decide) (by decide)).mono ?_
  rintro e w13 ⟨vUj, WU, rfl, hW, hh, ho, hb⟩
  obtain rfl : U = WU := j_union HU.out hW HSh.out HTh.out HUh.out hh
  have HSa := Lib.hid (rsame_any vUr vUj U U w13 (rsAt_below HRU.out hb) (rs_own ho (wf_canon hW.2)) (by have := canon_len hW; omega) (by have := canon_len hW; omega))
  rw [decide_eq_true rfl] at HSa
  have HST13 := Lib.hid (st_on HST12.out hb)
  clear hW hh ho hb HST12 HRU
  go_wp2_with fail
  refine HSa.out.mono ?_
  rintro e w14 ⟨rfl, q, rfl⟩
  have HST14 := Lib.hid (st_on HST13.out (below_drewN (Below.refl _ _) q))
  generalize w13.drewN q = w14 at *
  clear HSa HST13
  have d0 := st_cell (b := bm) (v := .slice gm M.length cm) (S := M) HST14.out (by simp)
  go_wp2_with fail
  refine (ranges_any (.slice gm M.length cm) M 0 w14 HM.out (st_z (b := bm) HST14.out (by simp))).mono ?_
  rintro e w15 ⟨vMr, rfl, ho, hb⟩
  have HRM := Lib.hid (rs_own ho (wf_canon HM.out.2))
  have HST15 := Lib.hid (st_on HST14.out hb)
  clear ho hb HST14 d0
  go_wp2_with fail
  refine (join1_any (.slice a1 l1.length q1) (.slice a2 l2.length q2) l1 l2 1114111 w15 (rsAt_below HV1.out HST15.out.1) (rsAt_below HV2.out HST15.out.1) HL1.out HL2.out (by decide) (by decide)).mono ?_
  rintro e w16 ⟨vMj, WM, rfl, hW, hh, ho, hb⟩
  obtain rfl : M = WM := j_meet HM.out hW HSh.out HTh.out HMh.out hh
  have HSa := Lib.hid (rsame_any vMr vMj M M w16 (rsAt_below HRM.out hb) (rs_own ho (wf_canon hW.2)) (by have := canon_len hW; omega) (by have := canon_len hW; omega))
  rw [decide_eq_true rfl] at HSa
  have HST16 := Lib.hid (st_on HST15.out hb)
  clear hW hh ho hb HST15 HRM
  go_wp2_with fail
  refine HSa.out.mono ?_
  rintro e w17 ⟨rfl, q, rfl⟩
  have HST17 := Lib.hid (st_on HST16.out (below_drewN (Below.refl _ _) q))
  generalize w16.drewN q = w17 at *
  clear HSa HST16
  have d0 := st_cell (b := bn) (v := .slice gn N.length cn) (S := N) HST17.out (by simp)
  go_wp2_with fail
  refine (ranges_any (.slice gn N.length cn) N 0 w17 HN.out (st_z (b := bn) HST17.out (by simp))).mono ?_
  rintro e w18 ⟨vNr, rfl, ho, hb⟩
  have HRN := Lib.hid (rs_own ho (wf_canon HN.out.2))
  have HST18 := Lib.hid (st_on HST17.out hb)
  clear ho hb HST17 d0
  go_wp2_with fail
  refine (join2_any (.slice a1 l1.length q1) (.slice none 0 0) l1 [] most w18 (rsAt_below HV1.out HST18.out.1) (rs_nil _) HL1.out (by simp) HM1.out HM2.out).mono ?_
  rintro e w19 ⟨vNj, WN, rfl, hW, hh, ho, hb⟩
  obtain rfl : N = WN := j_not HN.out hW HSh.out HNh.out hh
  have HSa := Lib.hid (rsame_any vNr vNj N N w19 (rsAt_below HRN.out hb) (rs_own ho (wf_canon hW.2)) (by have := canon_len hW; omega) (by have := canon_len hW; omega))
  rw [decide_eq_true rfl] at HSa
  have HST19 := Lib.hid (st_on HST18.out hb)
  clear hW hh ho hb HST18 HRN
  go_wp2_with fail
  refine HSa.out.mono ?_
  rintro e w20 ⟨rfl, q, rfl⟩
  have HST20 := Lib.hid (st_on HST19.out (below_drewN (Below.refl _ _) q))
  generalize w19.drewN q = w20 at *
  clear HSa HST19
  go_upto_region 14 with (fail)
  go_cut [16] (fun v w' => v = .bool (decide (S = T)) ∧ ST w [(bn, .slice gn N.length cn, N), (bm, .slice gm M.length cm, M), (bu, .slice gu U.length cu, U), (bt, .slice gt T.length ct, T), (bs, .slice gs S.length cs, S)] w')
  case first =>
    have hst := HST20.out
    have HK : Hid (∀ wi, Below w20.heap.size w20 wi → ST w [(bn, .slice gn N.length cn, N), (bm, .slice gm M.length cm, M), (bu, .slice gu U.length cu, U), (bt, .slice gt T.length ct, T), (bs, .slice gs S.length cs, S)] wi) := fun wi h => st_on hst h
    have h0 : Below w20.heap.size w20 w20.drew := below_drew _
    refine wp_region_held_drew (S := fun w' => Below w20.heap.size w20 w') (by kernel_rfl) h0 (fun hHeld => ?_)
    refine wpAnyH_take (i := 0) (v := ?_) rfl (by kernel_rfl) (by kernel_rfl) (by kernel_rfl) (fun _ _ _ h => h) (Or.inl ⟨by rfl, ?_⟩) (by assumption) ?_
    rotate_left
    · intro w' hSw
      have d1 := st_cell (b := bs) (v := .slice gs S.length cs) (S := S) (HK.out _ hSw) (by simp)
      have d2 := st_cell (b := bt) (v := .slice gt T.length ct) (S := T) (HK.out _ hSw) (by simp)
      go_simp
      try rfl
    simp only [Act.put, List.setIfInBounds_toArray, List.set_cons_zero, List.set_cons_succ, List.getElem_toArray, List.getElem_cons_zero]
    refine wpAnyH_take (i := 2) (v := ?_) rfl (by kernel_rfl) (by kernel_rfl) (by kernel_rfl) (fun _ _ _ h => h) (Or.inl ⟨by rfl, ?_⟩) (by assumption) ?_
    rotate_left
    · intro w' hSw
      have d1 := st_cell (b := bs) (v := .slice gs S.length cs) (S := S) (HK.out _ hSw) (by simp)
      have d2 := st_cell (b := bt) (v := .slice gt T.length ct) (S := T) (HK.out _ hSw) (by simp)
      go_simp
      try rfl
    simp only [Act.put, List.setIfInBounds_toArray, List.set_cons_zero, List.set_cons_succ, List.getElem_toArray, List.getElem_cons_succ, List.getElem_cons_zero]
    refine wpAnyH_ready (rs := [1]) (by kernel_rfl) (by simp) ?_
    refine AllReadyH.cons rfl (fun K hK => ?_) AllReadyH.nil
    go_simp
    refine (ranges_any (.slice gs S.length cs) S 0 _ HS.out (st_z (b := bs) (HK.out _ h0) (by simp))).mono ?_
    rintro e x1 ⟨vSf, rfl, hoS, hbSf⟩
    have h1 : Below w20.heap.size w20 x1 := (h0).trans (hbSf.mono (h0).size)
    refine hK.out _ _ h1 (fun hHeld => ?_)
    clear hK K
    try simp only [Act.put, List.setIfInBounds_toArray, List.set_cons_zero, List.set_cons_succ, List.getElem_toArray, List.getElem_cons_succ, List.getElem_cons_zero]
    refine wpAnyH_ready (rs := [3]) (by kernel_rfl) (by simp) ?_
    refine AllReadyH.cons rfl (fun K hK => ?_) AllReadyH.nil
    go_simp
    refine (ranges_any (.slice gt T.length ct) T 0 _ HT.out (st_z (b := bt) (HK.out _ h1) (by simp))).mono ?_
    rintro e x2 ⟨vTf, rfl, hoT, hbTf⟩
    have h2 : Below w20.heap.size w20 x2 := (h1).trans (hbTf.mono (h1).size)
    refine hK.out _ _ h2 (fun hHeld => ?_)
    clear hK K
    try simp only [Act.put, List.setIfInBounds_toArray, List.set_cons_zero, List.set_cons_succ, List.getElem_toArray, List.getElem_cons_succ, List.getElem_cons_zero]
    refine wpAnyH_ready (rs := [4]) (by kernel_rfl) (by simp) ?_
    refine AllReadyH.cons rfl (fun K hK => ?_) AllReadyH.nil
    go_simp
    have hrS := rsAt_below (rs_own hoS (wf_canon HS.out.2)) hbTf
    have hrT := rs_own hoT (wf_canon HT.out.2)
    refine (rsame_any vSf vTf S T _ hrS hrT (by have := canon_len HS.out; omega) (by have := canon_len HT.out; omega)).mono ?_
    rintro e x3 ⟨rfl, q, rfl⟩
    have h3 := below_draws h2 q
    refine hK.out _ _ h3 (fun hHeld => ?_)
    clear hK K
    try simp only [Act.put, List.setIfInBounds_toArray, List.set_cons_zero, List.set_cons_succ, List.getElem_toArray, List.getElem_cons_succ, List.getElem_cons_zero]
    refine wpAnyH_take (i := 5) (v := ?_) rfl (by kernel_rfl) (by kernel_rfl) (by kernel_rfl) (fun _ _ _ h => h) (Or.inl ⟨by rfl, ?_⟩) (by assumption) ?_
    rotate_left
    · intro w' hSw
      go_simp
      try rfl
    simp only [Act.put, List.setIfInBounds_toArray, List.set_cons_zero, List.set_cons_succ, List.getElem_toArray, List.getElem_cons_succ, List.getElem_cons_zero]
    refine wpAnyH_done (by kernel_rfl) ?_ _
    go_wp2_with fail
    go_meet
    exact ⟨rfl, HK.out _ h3⟩
  case rest =>
    obtain ⟨rfl, hst⟩ := hcut
    have HSX := Lib.hid hst
    clear hst
    have d1 := st_cell (b := bs) (v := .slice gs S.length cs) (S := S) HSX.out (by simp)
    have d2 := st_cell (b := bt) (v := .slice gt T.length ct) (S := T) HSX.out (by simp)
    go_wp2_with fail
    refine (same_any (.slice gs S.length cs) (.slice gt T.length ct) S T 0 0 wc HS.out HT.out (st_z (b := bs) HSX.out (by simp)) (st_z (b := bt) HSX.out (by simp))).mono ?_
    rintro e w99 ⟨rfl, hb⟩
    have HF := Lib.hid (below_trans HSX.out.1 hb)
    clear hb d1 d2
    go_wp2_with fail
    go_ret
    exact ⟨by simp, HF.out⟩
end Go.Proofs.YtgdhhpbpbkgmeaaDoor.setw
