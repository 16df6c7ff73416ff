/- The walk of the law SetsMakes. (Written by gen/makes.py.) -/
import Derived.Test.YtgdhhpbpbkgmeaaDoorSetsJ4
import Derived.Test.YtgdhhpbpbkgmeaaDoorSetsNs
import Derived.Test.YtgdhhpbpbkgmeaaDoorSetsA
import Derived.Test.YtgdhhpbpbkgmeaaDoorSetsX
namespace Go.Proofs.YtgdhhpbpbkgmeaaDoor.setw
open Go Go.RowKit Go.Shelf Go.Proofs.YtgdhhpbpbkgmeaaDoor.bulk Go.Proofs.YtgdhhpbpbkgmeaaDoor.ucdp Go.Proofs.YtgdhhpbpbkgmeaaDoor.ucdw Go.Proofs.YtgdhhpbpbkgmeaaDoor.setp Go.Proofs.YtgdhhpbpbkgmeaaDoor.flt Go.Proofs.YtgdhhpbpbkgmeaaDoor.setl

/-- how far the law's loop has come -/
def MRel (n : Nat) (w8 : World) (i : Value) (wr : World) : Prop := ∃ k : Nat, k ≤ n ∧ i = .int .i64 k ∧ Below w8.heap.size w8 wr
theorem canon_len2_from : ∀ {S : List Rg} {lo : Int}, Canon S → (∀ r ∈ S, lo ≤ r.1) → lo ≤ 1114113 → lo + 2 * S.length ≤ 1114113
  | [], lo, _, _, h => by simpa using h
  | r :: S, lo, h, hl, _ => by
    have hr := h.2 r (List.mem_cons_self ..)
    have h1 := hl r (List.mem_cons_self ..)
    have := canon_len2_from (lo := r.2 + 2) (canon_tail h) (fun x hx => by have := (List.pairwise_cons.1 h.1).1 x hx; omega) (by omega)
    simp only [List.length_cons]
    omega
/-- a set has no more than so many ranges: there is a gap between each two -/
theorem canon_len2 {S : List Rg} (h : Canon S) : S.length ≤ 600000 := by
  have := canon_len2_from (lo := 0) h (fun r hr => (h.2 r hr).1) (by omega)
  omega
theorem makes_same {S S' : List Rg} (hS : Canon S) (hS' : Canon S') (h : ∀ c, Has S' c ↔ Has S c ∧ 0 ≤ c ∧ c ≤ min 1114111 1114111) : S' = S :=
  canon_ext hS' hS fun c => by
    rw [h]
    constructor
    · exact fun a => a.1
    · intro a
      have := has_bd hS.2 a
      exact ⟨a, by omega, by omega⟩
set_option maxRecDepth 100000 in
set_option maxHeartbeats 8000000 in
theorem makes_law (v1 v3 : Value) (l : List Rg) (ns : List Int) (most : Int) (w : World) (hv1 : RsAt w v1 l) (hv3 : NsAt w v3 ns) (h1 : -9223372036854775808 ≤ most) (h2 : most ≤ 9223372036854775807) (hT : Tab3 w) :
    Calls Tryd.prog 3 #[v1, .int .i64 most, v3] w (BoolB true w) := by
  have H0 := Lib.hid (awake_any w hT)
  have HV1 := Lib.hid hv1
  have HV3 := Lib.hid hv3
  have HM1 := Lib.hid h1
  have HM2 := Lib.hid h2
  obtain ⟨a1, q1, rfl⟩ := rsAt_len hv1
  obtain ⟨a3, q3, rfl, hn3⟩ := nsAt_len hv3
  clear hv1 hv3 hT h1 h2
  by_cases hbig : (200 : Int) < l.length
  · go_enter Tryd.func3, Tryd.ntmps3
    go_wp2_with fail
    refine H0.out.mono ?_
    rintro e w1 ⟨rfl, hb1⟩
    go_wp2_with fail
    go_ret
    exact ⟨rfl, hb1⟩
  have HL1 := Lib.hid (show l.length ≤ 100000 by omega)
  go_enter Tryd.func3, Tryd.ntmps3
  go_wp2_with fail
  refine H0.out.mono ?_
  rintro e w1 ⟨rfl, hb1⟩
  have HB1 := Lib.hid hb1
  clear hb1
  go_wp2_with fail
  refine (new_any _ l most w1 (rsAt_below HV1.out HB1.out) (by have := HL1.out; omega) HM1.out HM2.out).mono ?_
  rintro e w2 ⟨v3, S, rfl, hS, hh, hz, hb2⟩
  obtain ⟨gs, cs, rfl⟩ := zsAt_len hz
  have HST := Lib.hid (st_push (st_nil HB1.out) hb2 hz 27)
  have HS := Lib.hid hS
  have HSh := Lib.hid hh
  clear hS hh hz hb2
  go_upto_region 7 with (fail)
  generalize hbs : w2.heap.size = bs at *
  generalize w2.alloc _ = w3 at *
  clear hbs
  go_wp2_with fail
  refine (rnew_any _ l most w3 (rsAt_below HV1.out HST.out.1) HL1.out HM1.out HM2.out).mono ?_
  rintro e w4 ⟨v4, S', rfl, hS', hh', ho, hb4⟩
  obtain rfl : S' = S := canon_ext hS' HS.out fun c => (hh' c).trans (HSh.out c).symm
  have hln := canon_len2 hS'
  have HST4 := Lib.hid (st_on HST.out hb4)
  have HR := Lib.hid (rs_own ho (wf_canon hS'.2))
  have d0 := st_cell (b := bs) (v := .slice gs S'.length cs) (S := S') HST4.out (by simp)
  obtain ⟨a4, q4, rfl⟩ := rsAt_len HR.out
  clear hS' hh' ho hb4 HST
  go_wp2_with fail
  refine (ranges_any (.slice gs S'.length cs) S' 0 w4 HS.out (st_z (b := bs) HST4.out (by simp))).mono ?_
  rintro e w5 ⟨v5, rfl, ho5, hb5⟩
  have HSa := Lib.hid (rsame_any v5 _ S' S' w5 (rs_own ho5 (wf_canon HS.out.2)) (rsAt_below HR.out hb5) (by omega) (by omega))
  rw [decide_eq_true rfl] at HSa
  have HST5 := Lib.hid (st_on HST4.out hb5)
  have HR5 := Lib.hid (rsAt_below HR.out hb5)
  clear ho5 hb5 d0 HST4 HR
  go_wp2_with fail
  refine HSa.out.mono ?_
  rintro e w6 ⟨rfl, q, rfl⟩
  have HST6 := Lib.hid (st_on HST5.out (below_drewN (Below.refl _ _) q))
  have HR6 := Lib.hid (rsAt_below HR5.out (below_drewN (Below.refl _ _) q))
  generalize w5.drewN q = w6 at *
  have d0 := st_cell (b := bs) (v := .slice gs S'.length cs) (S := S') HST6.out (by simp)
  clear HSa HST5 HR5
  go_wp2_with fail
  refine (count_any (.slice gs S'.length cs) S' 0 w6 HS.out (st_z (b := bs) HST6.out (by simp))).mono ?_
  rintro e w7 ⟨rfl, hb7⟩
  have HCt := Lib.hid (rcount_any (.slice a4 S'.length q4) S' w7 HS.out (rsAt_below HR6.out hb7))
  have HST7 := Lib.hid (st_on HST6.out hb7)
  have HR7 := Lib.hid (rsAt_below HR6.out hb7)
  clear hb7 d0 HST6 HR6
  go_wp2_with fail
  refine HCt.out.mono ?_
  rintro e w8 ⟨rfl, q, rfl⟩
  have HST8 := Lib.hid (st_on HST7.out (below_drewN (Below.refl _ _) q))
  have HR8 := Lib.hid (rsAt_below HR7.out (below_drewN (Below.refl _ _) q))
  generalize w7.drewN q = w8 at *
  clear HCt HST7 HR7
  generalize tot S' = tt at *
  go_wp2_with fail
  go_loopw [10] (fun i wr => MRel ns.length w8 i wr) (fun i _ => ns.length - (intOf i).toNat)
  case atStart => exact ⟨0, Nat.zero_le _, rfl, Below.refl _ _⟩
  case round =>
    obtain ⟨k, hk, rfl, hb⟩ := hrel
    have HB := Lib.hid hb
    have HSTr := Lib.hid (st_on HST8.out hb)
    have HRr := Lib.hid (rsAt_below HR8.out hb)
    clear hb
    by_cases hlt : k < ns.length
    · obtain ⟨hwf, ⟨h0, _⟩ | ⟨_, bn, off, cap', hv, hc1, hc2, hc⟩⟩ := HV3.out
      · subst h0; simp at hlt
      cases hv
      have hx := hc k hlt
      have HX := Lib.hid hx
      have hki : (k : Int) < (ns.length : Int) := by omega
      have hwx := hwf _ (List.getElem_mem hlt)
      generalize ns[k] = x at *
      clear hc hwf hx
      have HHas := Lib.hid (fun u (h : Below wr.heap.size wr u) => has_any (.slice gs S'.length cs) S' 0 x u HS.out (st_z (b := bs) (st_on HSTr.out h) (by simp)))
      have HIn := Lib.hid (fun u (h : Below wr.heap.size wr u) => rin_any (.slice a4 S'.length q4) S' x u (rsAt_below HRr.out h) (by omega))
      generalize hasB S' x = p at *
      go_upto_region 13 with (fail)
      go_cut [53] from 35 to 53 (fun v w' => v = .bool false ∧ Below wr.heap.size wr w')
      case first =>
        have h0 : Below wr.heap.size wr wr.drew := below_drew _
        have HK : Hid (∀ wi, Below wr.heap.size wr wi → wi.cell? ⟨bs, 0, none⟩ = some (.slice gs S'.length cs) ∧ wi.cell? ⟨bn, off + k, none⟩ = some (.int .i64 x)) := fun wi h => ⟨st_cell (b := bs) (v := .slice gs S'.length cs) (S := S') (st_on HSTr.out h) (by simp), below_cell (below_trans HSTr.out.1 h) HX.out⟩
        refine wp_region_held_drew (S := fun w' => Below wr.heap.size wr w') (by kernel_rfl) h0 (fun hHeld => ?_)
        refine wpAnyH_take (i := 0) (v := ?_) rfl (by kernel_rfl) (by kernel_rfl) (by kernel_rfl) (fun _ _ _ h => h) (Or.inl ⟨by rfl, ?_⟩) (by assumption) ?_
        rotate_left
        · intro w' hSw
          obtain ⟨d1, d2⟩ := HK.out _ hSw
          go_simp
          try rfl
        simp only [Act.put, List.setIfInBounds_toArray, List.set_cons_zero, List.set_cons_succ, List.getElem_toArray, List.getElem_cons_zero]
        refine wpAnyH_take (i := 1) (v := ?_) rfl (by kernel_rfl) (by kernel_rfl) (by kernel_rfl) (fun _ _ _ h => h) (Or.inl ⟨by rfl, ?_⟩) (by assumption) ?_
        rotate_left
        · intro w' hSw
          obtain ⟨d1, d2⟩ := HK.out _ hSw
          go_simp
          try rfl
        simp only [Act.put, List.setIfInBounds_toArray, List.set_cons_zero, List.set_cons_succ, List.getElem_toArray, List.getElem_cons_succ, List.getElem_cons_zero]
        refine wpAnyH_take (i := 2) (v := ?_) rfl (by kernel_rfl) (by kernel_rfl) (by kernel_rfl) (fun _ _ _ h => h) (Or.inl ⟨by rfl, ?_⟩) (by assumption) ?_
        rotate_left
        · intro w' hSw
          obtain ⟨d1, d2⟩ := HK.out _ hSw
          go_simp
          try rfl
        simp only [Act.put, List.setIfInBounds_toArray, List.set_cons_zero, List.set_cons_succ, List.getElem_toArray, List.getElem_cons_succ, List.getElem_cons_zero]
        refine wpAnyH_take (i := 3) (v := ?_) rfl (by kernel_rfl) (by kernel_rfl) (by kernel_rfl) (fun _ _ _ h => h) (Or.inl ⟨by rfl, ?_⟩) (by assumption) ?_
        rotate_left
        · intro w' hSw
          obtain ⟨d1, d2⟩ := HK.out _ hSw
          go_simp
          try rfl
        simp only [Act.put, List.setIfInBounds_toArray, List.set_cons_zero, List.set_cons_succ, List.getElem_toArray, List.getElem_cons_succ, List.getElem_cons_zero]
        refine wpAnyH_take (i := 4) (v := ?_) rfl (by kernel_rfl) (by kernel_rfl) (by kernel_rfl) (fun _ _ _ h => h) (Or.inl ⟨by rfl, ?_⟩) (by assumption) ?_
        rotate_left
        · intro w' hSw
          obtain ⟨d1, d2⟩ := HK.out _ hSw
          go_simp
          try rfl
        simp only [Act.put, List.setIfInBounds_toArray, List.set_cons_zero, List.set_cons_succ, List.getElem_toArray, List.getElem_cons_succ, List.getElem_cons_zero]
        refine wpAnyH_take (i := 6) (v := ?_) rfl (by kernel_rfl) (by kernel_rfl) (by kernel_rfl) (fun _ _ _ h => h) (Or.inl ⟨by rfl, ?_⟩) (by assumption) ?_
        rotate_left
        · intro w' hSw
          obtain ⟨d1, d2⟩ := HK.out _ hSw
          go_simp
          try rfl
        simp only [Act.put, List.setIfInBounds_toArray, List.set_cons_zero, List.set_cons_succ, List.getElem_toArray, List.getElem_cons_succ, List.getElem_cons_zero]
        refine wpAnyH_take (i := 7) (v := ?_) rfl (by kernel_rfl) (by kernel_rfl) (by kernel_rfl) (fun _ _ _ h => h) (Or.inl ⟨by rfl, ?_⟩) (by assumption) ?_
        rotate_left
        · intro w' hSw
          obtain ⟨d1, d2⟩ := HK.out _ hSw
          go_simp
          try rfl
        simp only [Act.put, List.setIfInBounds_toArray, List.set_cons_zero, List.set_cons_succ, List.getElem_toArray, List.getElem_cons_succ, List.getElem_cons_zero]
        refine wpAnyH_take (i := 8) (v := ?_) rfl (by kernel_rfl) (by kernel_rfl) (by kernel_rfl) (fun _ _ _ h => h) (Or.inl ⟨by rfl, ?_⟩) (by assumption) ?_
        rotate_left
        · intro w' hSw
          obtain ⟨d1, d2⟩ := HK.out _ hSw
          go_simp
          try rfl
        simp only [Act.put, List.setIfInBounds_toArray, List.set_cons_zero, List.set_cons_succ, List.getElem_toArray, List.getElem_cons_succ, List.getElem_cons_zero]
        refine wpAnyH_take (i := 9) (v := ?_) rfl (by kernel_rfl) (by kernel_rfl) (by kernel_rfl) (fun _ _ _ h => h) (Or.inl ⟨by rfl, ?_⟩) (by assumption) ?_
        rotate_left
        · intro w' hSw
          obtain ⟨d1, d2⟩ := HK.out _ hSw
          go_simp
          try rfl
        simp only [Act.put, List.setIfInBounds_toArray, List.set_cons_zero, List.set_cons_succ, List.getElem_toArray, List.getElem_cons_succ, List.getElem_cons_zero]
        refine wpAnyH_take (i := 10) (v := ?_) rfl (by kernel_rfl) (by kernel_rfl) (by kernel_rfl) (fun _ _ _ h => h) (Or.inl ⟨by rfl, ?_⟩) (by assumption) ?_
        rotate_left
        · intro w' hSw
          obtain ⟨d1, d2⟩ := HK.out _ hSw
          go_simp
          try rfl
        simp only [Act.put, List.setIfInBounds_toArray, List.set_cons_zero, List.set_cons_succ, List.getElem_toArray, List.getElem_cons_succ, List.getElem_cons_zero]
        refine wpAnyH_ready (rs := [5]) (by kernel_rfl) (by simp) ?_
        refine AllReadyH.cons rfl (fun K hK => ?_) AllReadyH.nil
        go_simp
        refine (HHas.out _ h0).mono ?_
        rintro e x1 ⟨rfl, hb1⟩
        have h1 : Below wr.heap.size wr x1 := h0.trans (hb1.mono h0.size)
        refine hK.out _ _ h1 (fun hHeld => ?_)
        clear hK K
        try simp only [Act.put, List.setIfInBounds_toArray, List.set_cons_zero, List.set_cons_succ, List.getElem_toArray, List.getElem_cons_succ, List.getElem_cons_zero]
        refine wpAnyH_ready (rs := [11]) (by kernel_rfl) (by simp) ?_
        refine AllReadyH.cons rfl (fun K hK => ?_) AllReadyH.nil
        go_simp
        refine (HIn.out _ h1).mono ?_
        rintro e x2 ⟨rfl, hx2⟩
        have h2 : Below wr.heap.size wr x2 := by rw [hx2]; exact h1
        refine hK.out _ _ h2 (fun hHeld => ?_)
        clear hK K
        try simp only [Act.put, List.setIfInBounds_toArray, List.set_cons_zero, List.set_cons_succ, List.getElem_toArray, List.getElem_cons_succ, List.getElem_cons_zero]
        refine wpAnyH_take (i := 12) (v := ?_) rfl (by kernel_rfl) (by kernel_rfl) (by kernel_rfl) (fun _ _ _ h => h) (Or.inl ⟨by rfl, ?_⟩) (by assumption) ?_
        rotate_left
        · intro w' hSw
          obtain ⟨d1, d2⟩ := HK.out _ hSw
          go_simp
          try rfl
        simp only [Act.put, List.setIfInBounds_toArray, List.set_cons_zero, List.set_cons_succ, List.getElem_toArray, List.getElem_cons_succ, List.getElem_cons_zero]
        refine wpAnyH_done (by kernel_rfl) ?_ _
        go_wp2_with fail
        go_meet
        exact ⟨by simp, h2⟩
      case rest =>
        obtain ⟨rfl, hbc⟩ := hcut
        have HBc := Lib.hid (below_trans HB.out hbc)
        clear hbc
        go_wp2_with fail
        go_roundw
        case rel => exact ⟨k + 1, by omega, by go_num, HBc.out⟩
        case measure => simp [intOf]; omega
    · obtain rfl : k = ns.length := by omega
      go_upto_region 15 with (fail)
      have h0 : Below wr.heap.size wr wr.drew := below_drew _
      have HK : Hid (∀ wi, Below wr.heap.size wr wi → wi.cell? ⟨bs, 0, none⟩ = some (.slice gs S'.length cs)) := fun wi h => st_cell (b := bs) (v := .slice gs S'.length cs) (S := S') (st_on HSTr.out h) (by simp)
      refine wp_region_held_drew (S := fun w' => Below wr.heap.size wr w') (by kernel_rfl) h0 (fun hHeld => ?_)
      refine wpAnyH_take (i := 0) (v := ?_) rfl (by kernel_rfl) (by kernel_rfl) (by kernel_rfl) (fun _ _ _ h => h) (Or.inl ⟨by rfl, ?_⟩) (by assumption) ?_
      rotate_left
      · intro w' hSw
        have d1 := HK.out _ hSw
        go_simp
        try rfl
      simp only [Act.put, List.setIfInBounds_toArray, List.set_cons_zero, List.set_cons_succ, List.getElem_toArray, List.getElem_cons_zero]
      refine wpAnyH_take (i := 1) (v := ?_) rfl (by kernel_rfl) (by kernel_rfl) (by kernel_rfl) (fun _ _ _ h => h) (Or.inl ⟨by rfl, ?_⟩) (by assumption) ?_
      rotate_left
      · intro w' hSw
        have d1 := HK.out _ hSw
        go_simp
        try rfl
      simp only [Act.put, List.setIfInBounds_toArray, List.set_cons_zero, List.set_cons_succ, List.getElem_toArray, List.getElem_cons_succ, List.getElem_cons_zero]
      refine wpAnyH_ready (rs := [2]) (by kernel_rfl) (by simp) ?_
      refine AllReadyH.cons rfl (fun K hK => ?_) AllReadyH.nil
      go_simp
      refine (new_any _ S' 1114111 _ (rsAt_below HRr.out h0) (by omega) (by decide) (by decide)).mono ?_
      rintro e x1 ⟨vn, S2, rfl, hS2, hh2, hz2, hb1⟩
      obtain rfl := makes_same HS.out hS2 hh2
      obtain ⟨gn, cn, rfl⟩ := zsAt_len hz2
      have h1 : Below wr.heap.size wr x1 := h0.trans (hb1.mono h0.size)
      refine hK.out _ _ h1 (fun hHeld => ?_)
      clear hK K
      try simp only [Act.put, List.setIfInBounds_toArray, List.set_cons_zero, List.set_cons_succ, List.getElem_toArray, List.getElem_cons_succ, List.getElem_cons_zero]
      refine wpAnyH_ready (rs := [3]) (by kernel_rfl) (by simp) ?_
      refine AllReadyH.cons rfl (fun K hK => ?_) AllReadyH.nil
      go_simp
      refine (same_any (.slice gs S2.length cs) (.slice gn S2.length cn) S2 S2 0 _ x1 HS.out hS2 (st_z (b := bs) (st_on HSTr.out h1) (by simp)) hz2).mono ?_
      rintro e x2 ⟨rfl, hb2⟩
      have h2 : Below wr.heap.size wr x2 := h1.trans (hb2.mono h1.size)
      refine hK.out _ _ h2 (fun hHeld => ?_)
      clear hK K
      refine wpAnyH_take (i := 4) (v := ?_) rfl (by kernel_rfl) (by kernel_rfl) (by kernel_rfl) (fun _ _ _ h => h) (Or.inl ⟨by rfl, ?_⟩) (by assumption) ?_
      rotate_left
      · intro w' hSw
        have d1 := HK.out _ hSw
        go_simp
        try rfl
      simp only [Act.put, List.setIfInBounds_toArray, List.set_cons_zero, List.set_cons_succ, List.getElem_toArray, List.getElem_cons_succ, List.getElem_cons_zero]
      refine wpAnyH_done (by kernel_rfl) ?_ _
      go_wp2_with fail
      go_ret
      exact ⟨by simp, below_trans HSTr.out.1 h2⟩
end Go.Proofs.YtgdhhpbpbkgmeaaDoor.setw
