/- The contract of the document's Join, of kind 0. (Written by gen/join.py.) -/
import Derived.Test.YtgdhhpbpbkgmeaaDoorSetsJ3
import Derived.Deep.RegionHeld3
import Derived.Deep.DeepCutAuto
namespace Go.Proofs.YtgdhhpbpbkgmeaaDoor.setw
open Go Go.RowKit Go.Proofs.YtgdhhpbpbkgmeaaDoor.bulk Go.Proofs.YtgdhhpbpbkgmeaaDoor.ucdp Go.Proofs.YtgdhhpbpbkgmeaaDoor.ucdw Go.Proofs.YtgdhhpbpbkgmeaaDoor.setp

set_option maxRecDepth 100000 in
set_option maxHeartbeats 4000000 in
theorem join0w_any (v1 v2 : Value) (l1 l2 : List Rg) (most : Int) (w : World) (hv1 : RsAt w v1 l1) (hv2 : RsAt w v2 l2) (hl1 : l1.length ≤ 600000) (hl2 : l2.length ≤ 400000) (h1 : -9223372036854775808 ≤ most) (h2 : most ≤ 9223372036854775807) :
    Calls Tryd.prog 25 #[.int .i64 0, v1, v2, .int .i64 most] w (JoinB 0 l1 l2 (min most 1114111) w) := by
  have HV1 := Lib.hid hv1
  have HV2 := Lib.hid hv2
  obtain ⟨a1, q1, rfl⟩ := rsAt_len hv1
  obtain ⟨a2, q2, rfl⟩ := rsAt_len hv2
  have HL := Lib.hid (show ([] : List Rg).length + l1.length ≤ 100000000 by simp; omega)
  have HL2 := Lib.hid (show ([] ++ l1 : List Rg).length + l2.length ≤ 100000000 by simp; omega)
  have HL3 := Lib.hid (show ([] ++ l1 ++ l2 : List Rg).length ≤ 1000000 by simp; omega)
  have HL4 := Lib.hid hl1
  have HL5 := Lib.hid hl2
  have HM := Lib.hid h1
  have HM2 := Lib.hid h2
  clear hv1 hv2 hl1 hl2 h1 h2
  go_enter Tryd.func25, Tryd.ntmps25
  go_wp2_with (first
    | (at_builtin; refine wpList_append_rs rfl _ _ rfl w.heap.size (.slice none 0 0) [] rfl (ownR_nil _ _) _ l1 rfl HV1.out HL.out (Nat.le_refl _) ?_; intro va wa hoa hba; have HOa := Lib.hid hoa; have HBa := Lib.hid (hba _ _ (Below.refl _ _) (Nat.le_refl _)); clear hoa hba)
    | (at_builtin; refine wpList_append_rs rfl _ _ rfl w.heap.size va ([] ++ l1) rfl HOa.out _ l2 rfl (rsAt_below HV2.out HBa.out) HL2.out HBa.out.size ?_; intro vb wb hob hbb; have HOb := Lib.hid hob; have HBb := Lib.hid (hbb _ _ HBa.out (Nat.le_refl _)); clear hob hbb))
  refine (edges_any vb ([] ++ l1 ++ l2) most wb (rs_own HOb.out (fun r hr => by rw [List.nil_append] at hr; exact (List.mem_append.1 hr).elim (fun h => HV1.out.1 r h) (fun h => HV2.out.1 r h))) HL3.out HM.out HM2.out).mono ?_
  rintro e w4 ⟨ve, E, rfl, hE, hEd, hb4⟩
  rw [List.nil_append] at hEd
  obtain ⟨ae, qe, rfl⟩ := intsAt_len hE
  have HE := Lib.hid hE
  have HD := Lib.hid hEd
  have HB4 := Lib.hid (HBb.out.trans (hb4.mono HBb.out.size))
  have hEl : E.length ≤ 3000000 := by
    rcases hEd with ⟨h, _⟩ | ⟨_, h⟩
    · rw [h]; simp
    · have := h.2.2
      have := HL4.out
      have := HL5.out
      simp only [List.length_append] at *
      omega
  clear hE hEd hb4
  go_wp2_with fail
  go_loopw [11, 12] (fun v i wr => JoRel 0 l1 l2 E w4 v i wr) (fun _ i _ => E.length - (intOf i).toNat)
  case atStart => exact ⟨0, [], Or.inr rfl, rfl, ownR_nil _ _, ji_start HD.out, Below.refl _ _⟩
  case round =>
    obtain ⟨k, O, hk, rfl, ho, hJ, hb⟩ := hrel
    have HO := Lib.hid ho
    have HJ := Lib.hid hJ
    have HB := Lib.hid hb
    have HK := Lib.hid hk
    have HBw := Lib.hid (HB4.out.trans (hb.mono HB4.out.size))
    have HF1 := Lib.hid (rsAt_below HV1.out HBw.out)
    have HF2 := Lib.hid (rsAt_below HV2.out HBw.out)
    have hwk : IntKind.i64.wrap ((k : Int) + 1) = (k : Int) + 1 := IntWalk.i64_in _ (by omega)
    clear ho hJ hb hk
    by_cases hlt : k + 1 < E.length
    · have hlti : (k : Int) + 1 < (E.length : Int) := by omega
      have hki : (k : Int) < (E.length : Int) := by omega
      have hk0 : (0 : Int) ≤ (k : Int) + 1 := by omega
      rcases HE.out with ⟨h0, _⟩ | ⟨_, b, cap, hve, _, hbb, _, _, hc⟩
      · rw [h0] at hlt; simp at hlt
      cases hve
      have hm : 0 ≤ min most 1114111 := by
        rcases HD.out with ⟨h, _⟩ | ⟨h, _⟩
        · rw [h] at hlt; simp at hlt
        · exact h
      have hEP : EP (EQ (l1 ++ l2) (min most 1114111)) (2 * (l1 ++ l2).length + 2) E := by
        rcases HD.out with ⟨h, _⟩ | ⟨_, h⟩
        · rw [h] at hlt; simp at hlt
        · exact h
      have c01 := hc k (by omega)
      have c02 := hc (k + 1) hlt
      rw [show E.getD k 0 = E[k] by simp [List.getD, show k < E.length by omega]] at c01
      rw [show E.getD (k + 1) 0 = E[k + 1] by simp [List.getD, hlt]] at c02
      have c1 := below_cell HB.out c01
      have c2 := below_cell HB.out c02
      have C1 := Lib.hid c01
      have C2 := Lib.hid c02
      clear c01 c02
      have bd1 := edge_bd hm hEP (List.getElem_mem (show k < E.length by omega))
      have bd2 := edge_bd hm hEP (List.getElem_mem hlt)
      have HO1 := Lib.hid (fun hq => ji_out hm hEP hlt HJ.out hq)
      have HO2 := Lib.hid (fun hq hl => ji_app hm (by omega) hEP hlt HJ.out hq hl)
      have HO3 := Lib.hid (fun (hq : qB 0 l1 l2 E[k] = true) (W0 : List Rg) (p r : Int) (h : O = W0 ++ [(p, r)]) (hr : r + 1 = E[k]) => ji_mrg hm (by omega) hEP hlt HJ.out hq h hr)
      have HI1 := Lib.hid (rin_any _ l1 E[k] wr HF1.out (by have := HL4.out; omega))
      have HI2 := Lib.hid (rin_any _ l2 E[k] wr HF2.out (by have := HL5.out; omega))
      have hE1 : E[k] ≤ 1114112 := by omega
      have hE2 : E[k + 1] ≤ 1114112 := by omega
      have hE3 : 0 ≤ E[k] := bd1.1
      have hE4 : 0 ≤ E[k + 1] := bd2.1
      clear hc bd1 bd2 hm hEP
      unfold qB at HO1 HO2 HO3
      generalize E[k] = x at *
      generalize E[k + 1] = y at *
      generalize hasB l1 x = p1 at *
      generalize hasB l2 x = p2 at *
      have hwy : IntKind.i64.wrap (y - 1) = y - 1 := IntWalk.i64_in _ (by omega)
      go_wp2_with fail
      refine HI1.out.mono ?_
      rintro e wr ⟨rfl, rfl⟩
      go_wp2_with fail
      refine HI2.out.mono ?_
      rintro e wr ⟨rfl, rfl⟩
      go_upto_region 11 with (fail)
      go_cut [15] from 25 to 103 (fun c wx => c = .bool (inP 0 p1 p2) ∧ wx = wr)
      case first =>
        cases p1 <;> cases p2 <;> (go_wp2_with fail; go_meet; exact ⟨rfl, rfl⟩)
      case rest =>
        obtain ⟨rfl, rfl⟩ := hcut
        cases hq : inP 0 p1 p2
        · have HJ1 := Lib.hid (HO1.out hq)
          go_wp2_with fail
          go_roundw
          case rel => exact ⟨k + 1, O, Or.inl hlt, by go_num, HO.out, HJ1.out, HB.out⟩
          case measure => simp [intOf]; omega
        · rcases List.eq_nil_or_concat O with hO | ⟨W0, ⟨p, r⟩, hO⟩
          · subst hO
            obtain rfl := HO.out.2 rfl
            have HJ1 := Lib.hid (HO2.out hq (fun W0 r h => by have := congrArg List.length h; simp at this))
            go_wp2_with fail
            go_quiet (fail)
            go_wp2_with fail
            generalize hwq : World.drewN _ _ = wq
            obtain ⟨h0, hoq⟩ : Below w4.heap.size w4 wq.drew ∧ OwnR wq.drew w4.heap.size (.slice none 0 0) ([]) := by
              rw [← hwq]
              exact ⟨(below_draws HB.out _).drew, HO.out⟩
            clear hwq
            have HOQ := Lib.hid hoq
            clear hoq
            refine wp_region_held_drew (S := fun w' => Below w4.heap.size w4 w') (by kernel_rfl) h0 (fun hHeld => ?_)
            refine wpAnyH_take (i := 0) (v := ?_) rfl (by kernel_rfl) (by kernel_rfl) (by kernel_rfl) (fun _ _ _ h => h) (Or.inl ⟨by rfl, ?_⟩) (by assumption) ?_
            rotate_left
            · intro w' hSw
              have d1 := below_cell hSw C1.out
              have d2 := below_cell hSw C2.out
              go_simp
              try rfl
            simp only [Act.put, List.setIfInBounds_toArray, List.set_cons_zero, List.set_cons_succ, List.getElem_toArray, List.getElem_cons_zero]
            refine wpAnyH_take (i := 1) (v := ?_) rfl (by kernel_rfl) (by kernel_rfl) (by kernel_rfl) (fun _ _ _ h => h) (Or.inl ⟨by rfl, ?_⟩) (by assumption) ?_
            rotate_left
            · intro w' hSw
              have d1 := below_cell hSw C1.out
              have d2 := below_cell hSw C2.out
              go_simp
              try rfl
            simp only [Act.put, List.setIfInBounds_toArray, List.set_cons_zero, List.set_cons_succ, List.getElem_toArray, List.getElem_cons_succ, List.getElem_cons_zero]
            refine wpAnyH_take (i := 2) (v := ?_) rfl (by kernel_rfl) (by kernel_rfl) (by kernel_rfl) (fun _ _ _ h => h) (Or.inl ⟨by rfl, ?_⟩) (by assumption) ?_
            rotate_left
            · intro w' hSw
              have d1 := below_cell hSw C1.out
              have d2 := below_cell hSw C2.out
              go_simp
              try rfl
            simp only [Act.put, List.setIfInBounds_toArray, List.set_cons_zero, List.set_cons_succ, List.getElem_toArray, List.getElem_cons_succ, List.getElem_cons_zero]
            refine wpAnyH_take (i := 3) (v := ?_) rfl (by kernel_rfl) (by kernel_rfl) (by kernel_rfl) (fun _ _ _ h => h) (Or.inl ⟨by rfl, ?_⟩) (by assumption) ?_
            rotate_left
            · intro w' hSw
              have d1 := below_cell hSw C1.out
              have d2 := below_cell hSw C2.out
              go_simp
              try rfl
            simp only [Act.put, List.setIfInBounds_toArray, List.set_cons_zero, List.set_cons_succ, List.getElem_toArray, List.getElem_cons_succ, List.getElem_cons_zero]
            refine wpAnyH_take (i := 4) (v := ?_) rfl (by kernel_rfl) (by kernel_rfl) (by kernel_rfl) (fun _ _ _ h => h) (Or.inl ⟨by rfl, ?_⟩) (by assumption) ?_
            rotate_left
            · intro w' hSw
              have d1 := below_cell hSw C1.out
              have d2 := below_cell hSw C2.out
              go_simp
              try rfl
            simp only [Act.put, List.setIfInBounds_toArray, List.set_cons_zero, List.set_cons_succ, List.getElem_toArray, List.getElem_cons_succ, List.getElem_cons_zero]
            refine wpAnyH_take (i := 5) (v := ?_) rfl (by kernel_rfl) (by kernel_rfl) (by kernel_rfl) (fun _ _ _ h => h) (Or.inl ⟨by rfl, ?_⟩) (by assumption) ?_
            rotate_left
            · intro w' hSw
              have d1 := below_cell hSw C1.out
              have d2 := below_cell hSw C2.out
              go_simp
              try rfl
            simp only [Act.put, List.setIfInBounds_toArray, List.set_cons_zero, List.set_cons_succ, List.getElem_toArray, List.getElem_cons_succ, List.getElem_cons_zero]
            refine wpAnyH_take (i := 6) (v := ?_) rfl (by kernel_rfl) (by kernel_rfl) (by kernel_rfl) (fun _ _ _ h => h) (Or.inl ⟨by rfl, ?_⟩) (by assumption) ?_
            rotate_left
            · intro w' hSw
              have d1 := below_cell hSw C1.out
              have d2 := below_cell hSw C2.out
              go_simp
              try rfl
            simp only [Act.put, List.setIfInBounds_toArray, List.set_cons_zero, List.set_cons_succ, List.getElem_toArray, List.getElem_cons_succ, List.getElem_cons_zero]
            refine wpAnyH_take (i := 7) (v := ?_) rfl (by kernel_rfl) (by kernel_rfl) (by kernel_rfl) (fun _ _ _ h => h) (Or.inl ⟨by rfl, ?_⟩) (by assumption) ?_
            rotate_left
            · intro w' hSw
              have d1 := below_cell hSw C1.out
              have d2 := below_cell hSw C2.out
              go_simp
              try rfl
            simp only [Act.put, List.setIfInBounds_toArray, List.set_cons_zero, List.set_cons_succ, List.getElem_toArray, List.getElem_cons_succ, List.getElem_cons_zero]
            refine wpAnyH_take (i := 8) (v := ?_) rfl (by kernel_rfl) (by kernel_rfl) (by kernel_rfl) (fun _ _ _ h => h) (Or.inl ⟨by rfl, ?_⟩) (by assumption) ?_
            rotate_left
            · intro w' hSw
              have d1 := below_cell hSw C1.out
              have d2 := below_cell hSw C2.out
              go_simp
              try rfl
            simp only [Act.put, List.setIfInBounds_toArray, List.set_cons_zero, List.set_cons_succ, List.getElem_toArray, List.getElem_cons_succ, List.getElem_cons_zero]
            refine wpAnyH_take (i := 9) (v := ?_) rfl (by kernel_rfl) (by kernel_rfl) (by kernel_rfl) (fun _ _ _ h => h) (Or.inl ⟨by rfl, ?_⟩) (by assumption) ?_
            rotate_left
            · intro w' hSw
              have d1 := below_cell hSw C1.out
              have d2 := below_cell hSw C2.out
              go_simp
              try rfl
            simp only [Act.put, List.setIfInBounds_toArray, List.set_cons_zero, List.set_cons_succ, List.getElem_toArray, List.getElem_cons_succ, List.getElem_cons_zero]
            refine wpAnyH_take (i := 10) (v := ?_) rfl (by kernel_rfl) (by kernel_rfl) (by kernel_rfl) (fun _ _ _ h => h) (Or.inl ⟨by rfl, ?_⟩) (by assumption) ?_
            rotate_left
            · intro w' hSw
              have d1 := below_cell hSw C1.out
              have d2 := below_cell hSw C2.out
              go_simp
              try rfl
            simp only [Act.put, List.setIfInBounds_toArray, List.set_cons_zero, List.set_cons_succ, List.getElem_toArray, List.getElem_cons_succ, List.getElem_cons_zero]
            refine wpAnyH_take (i := 11) (v := ?_) rfl (by kernel_rfl) (by kernel_rfl) (by kernel_rfl) (fun _ _ _ h => h) (Or.inl ⟨by rfl, ?_⟩) (by assumption) ?_
            rotate_left
            · intro w' hSw
              have d1 := below_cell hSw C1.out
              have d2 := below_cell hSw C2.out
              go_simp
              try rfl
            simp only [Act.put, List.setIfInBounds_toArray, List.set_cons_zero, List.set_cons_succ, List.getElem_toArray, List.getElem_cons_succ, List.getElem_cons_zero]
            refine wpAnyH_ready (rs := [12]) (by kernel_rfl) (by simp) ?_
            refine AllReadyH.cons rfl (fun K hK => ?_) AllReadyH.nil
            go_simp
            have hA : Below w4.heap.size w4 ((wq.alloc (Obj.cells #[Value.int IntKind.i64 x, Value.int IntKind.i64 (y - 1)] 52)).drew) := (h0.alloc h0.size _)
            refine hK.out _ _ hA (fun hHeld => ?_)
            clear hK K hA
            try simp only [Act.put, List.setIfInBounds_toArray, List.set_cons_zero, List.set_cons_succ, List.getElem_toArray, List.getElem_cons_succ, List.getElem_cons_zero]
            refine wpAnyH_ready (rs := [13]) (by kernel_rfl) (by simp) ?_
            refine AllReadyH.cons rfl (fun K hK => ?_) AllReadyH.nil
            refine held_append_r (w := wq.drew) rfl _ _ rfl w4.heap.size _ ([]) rfl HOQ.out x (y - 1) _ rfl rfl rfl (by simp) h0.size ?_
            intro va2 wa2 hoa hba
            have HOA := Lib.hid hoa
            have HBA := Lib.hid (hba _ _ h0 (Nat.le_refl _))
            clear hoa hba
            refine hK.out _ _ HBA.out (fun hHeld => ?_)
            clear hK K
            try simp only [Act.put, List.setIfInBounds_toArray, List.set_cons_zero, List.set_cons_succ, List.getElem_toArray, List.getElem_cons_succ, List.getElem_cons_zero]
            refine wpAnyH_take (i := 14) (v := ?_) rfl (by kernel_rfl) (by kernel_rfl) (by kernel_rfl) (fun _ _ _ h => h) (Or.inl ⟨by rfl, ?_⟩) (by assumption) ?_
            rotate_left
            · intro w' hSw
              go_simp
              try rfl
            simp only [Act.put, List.setIfInBounds_toArray, List.set_cons_zero, List.set_cons_succ, List.getElem_toArray, List.getElem_cons_succ, List.getElem_cons_zero]
            refine wpAnyH_done (by kernel_rfl) ?_ _
            go_wp2_with fail
            go_roundw
            case rel => exact ⟨k + 1, [] ++ [(x, y - 1)], Or.inl hlt, by go_num, HOA.out, HJ1.out, HBA.out⟩
            case measure => simp [intOf]; omega
          · subst hO
            rw [List.concat_eq_append] at *
            obtain ⟨g, cw, hv, hg1, hg3, hg4, hcw⟩ := ownR_slice HO.out (by simp)
            have hce := hcw W0.length (by simp)
            have hlen : (W0 ++ [(p, r)]).length = W0.length + 1 := by simp
            have hr := HJ.out.1.2 (p, r) (by simp)
            have HLn := Lib.hid (show (W0 ++ [(p, r)]).length ≤ 100000000 by have := HJ.out.2.2; omega)
            rw [hlen] at hv hg3
            simp only [List.getElem_concat_length] at hce
            obtain ⟨hce1, hce2⟩ := hce
            obtain ⟨hr0, hr1, hr2⟩ := hr
            simp only at hr0 hr1 hr2
            obtain ⟨m, hm⟩ : ∃ m, W0.length = m := ⟨_, rfl⟩
            have HMm := Lib.hid hm
            rw [hm] at hv hg3 hce1 hce2
            subst hv
            have hix : (m : Int) < (m : Int) + 1 := by omega
            have hwr : IntKind.i64.wrap (r + 1) = r + 1 := IntWalk.i64_in _ (by omega)
            clear hcw hlen hm
            by_cases hj : r + 1 = x
            · have HJ1 := Lib.hid (HO3.out hq W0 p r rfl hj)
              go_wp2_with fail
              go_quiet (fail)
              generalize hwq : World.drewN _ _ = wq
              obtain ⟨h0, hoq, hc2, hd1, hd2⟩ : Below w4.heap.size w4 wq ∧ OwnR wq w4.heap.size (.slice (some ⟨g, 0, none⟩) (m + 1) cw) (W0 ++ [(p, r)]) ∧ wq.cell? ⟨b, k + 1, none⟩ = some (.int .i64 y) ∧ wq.cell? ⟨g, m * 2, none⟩ = some (.int .i64 p) ∧ wq.cell? ⟨g, m * 2 + 1, none⟩ = some (.int .i64 r) := by
                rw [← hwq]
                exact ⟨below_draws HB.out _, HO.out, c2, hce1, hce2⟩
              clear hwq
              obtain ⟨hn1, hn2, hn3⟩ := ownR_last (z := y - 1) HMm.out hoq
              have HN := Lib.hid hn1
              have HNB := Lib.hid (hn3 _ _ h0 (Nat.le_refl _))
              clear hn1 hn3 hoq h0
              go_wp2_with fail
              go_roundw
              case rel => exact ⟨k + 1, W0 ++ [(p, y - 1)], Or.inl hlt, by go_num, HN.out, HJ1.out, HNB.out⟩
              case measure => simp [intOf]; omega
            · have HJ1 := Lib.hid (HO2.out hq (fun W1 r1 h => by
                obtain ⟨_, h2⟩ := List.append_inj' h rfl
                obtain rfl := (List.cons.inj h2).1
                exact hj))
              have hjb : (r + 1 == x) = false := by simp [hj]
              go_wp2_with fail
              go_quiet (fail)
              go_wp2_with fail
              generalize hwq : World.drewN _ _ = wq
              obtain ⟨h0, hoq⟩ : Below w4.heap.size w4 wq.drew ∧ OwnR wq.drew w4.heap.size (.slice (some ⟨g, 0, none⟩) (m + 1) cw) ((W0 ++ [(p, r)])) := by
                rw [← hwq]
                exact ⟨(below_draws HB.out _).drew, HO.out⟩
              clear hwq
              have HOQ := Lib.hid hoq
              clear hoq
              refine wp_region_held_drew (S := fun w' => Below w4.heap.size w4 w') (by kernel_rfl) h0 (fun hHeld => ?_)
              refine wpAnyH_take (i := 0) (v := ?_) rfl (by kernel_rfl) (by kernel_rfl) (by kernel_rfl) (fun _ _ _ h => h) (Or.inl ⟨by rfl, ?_⟩) (by assumption) ?_
              rotate_left
              · intro w' hSw
                have d1 := below_cell hSw C1.out
                have d2 := below_cell hSw C2.out
                go_simp
                try rfl
              simp only [Act.put, List.setIfInBounds_toArray, List.set_cons_zero, List.set_cons_succ, List.getElem_toArray, List.getElem_cons_zero]
              refine wpAnyH_take (i := 1) (v := ?_) rfl (by kernel_rfl) (by kernel_rfl) (by kernel_rfl) (fun _ _ _ h => h) (Or.inl ⟨by rfl, ?_⟩) (by assumption) ?_
              rotate_left
              · intro w' hSw
                have d1 := below_cell hSw C1.out
                have d2 := below_cell hSw C2.out
                go_simp
                try rfl
              simp only [Act.put, List.setIfInBounds_toArray, List.set_cons_zero, List.set_cons_succ, List.getElem_toArray, List.getElem_cons_succ, List.getElem_cons_zero]
              refine wpAnyH_take (i := 2) (v := ?_) rfl (by kernel_rfl) (by kernel_rfl) (by kernel_rfl) (fun _ _ _ h => h) (Or.inl ⟨by rfl, ?_⟩) (by assumption) ?_
              rotate_left
              · intro w' hSw
                have d1 := below_cell hSw C1.out
                have d2 := below_cell hSw C2.out
                go_simp
                try rfl
              simp only [Act.put, List.setIfInBounds_toArray, List.set_cons_zero, List.set_cons_succ, List.getElem_toArray, List.getElem_cons_succ, List.getElem_cons_zero]
              refine wpAnyH_take (i := 3) (v := ?_) rfl (by kernel_rfl) (by kernel_rfl) (by kernel_rfl) (fun _ _ _ h => h) (Or.inl ⟨by rfl, ?_⟩) (by assumption) ?_
              rotate_left
              · intro w' hSw
                have d1 := below_cell hSw C1.out
                have d2 := below_cell hSw C2.out
                go_simp
                try rfl
              simp only [Act.put, List.setIfInBounds_toArray, List.set_cons_zero, List.set_cons_succ, List.getElem_toArray, List.getElem_cons_succ, List.getElem_cons_zero]
              refine wpAnyH_take (i := 4) (v := ?_) rfl (by kernel_rfl) (by kernel_rfl) (by kernel_rfl) (fun _ _ _ h => h) (Or.inl ⟨by rfl, ?_⟩) (by assumption) ?_
              rotate_left
              · intro w' hSw
                have d1 := below_cell hSw C1.out
                have d2 := below_cell hSw C2.out
                go_simp
                try rfl
              simp only [Act.put, List.setIfInBounds_toArray, List.set_cons_zero, List.set_cons_succ, List.getElem_toArray, List.getElem_cons_succ, List.getElem_cons_zero]
              refine wpAnyH_take (i := 5) (v := ?_) rfl (by kernel_rfl) (by kernel_rfl) (by kernel_rfl) (fun _ _ _ h => h) (Or.inl ⟨by rfl, ?_⟩) (by assumption) ?_
              rotate_left
              · intro w' hSw
                have d1 := below_cell hSw C1.out
                have d2 := below_cell hSw C2.out
                go_simp
                try rfl
              simp only [Act.put, List.setIfInBounds_toArray, List.set_cons_zero, List.set_cons_succ, List.getElem_toArray, List.getElem_cons_succ, List.getElem_cons_zero]
              refine wpAnyH_take (i := 6) (v := ?_) rfl (by kernel_rfl) (by kernel_rfl) (by kernel_rfl) (fun _ _ _ h => h) (Or.inl ⟨by rfl, ?_⟩) (by assumption) ?_
              rotate_left
              · intro w' hSw
                have d1 := below_cell hSw C1.out
                have d2 := below_cell hSw C2.out
                go_simp
                try rfl
              simp only [Act.put, List.setIfInBounds_toArray, List.set_cons_zero, List.set_cons_succ, List.getElem_toArray, List.getElem_cons_succ, List.getElem_cons_zero]
              refine wpAnyH_take (i := 7) (v := ?_) rfl (by kernel_rfl) (by kernel_rfl) (by kernel_rfl) (fun _ _ _ h => h) (Or.inl ⟨by rfl, ?_⟩) (by assumption) ?_
              rotate_left
              · intro w' hSw
                have d1 := below_cell hSw C1.out
                have d2 := below_cell hSw C2.out
                go_simp
                try rfl
              simp only [Act.put, List.setIfInBounds_toArray, List.set_cons_zero, List.set_cons_succ, List.getElem_toArray, List.getElem_cons_succ, List.getElem_cons_zero]
              refine wpAnyH_take (i := 8) (v := ?_) rfl (by kernel_rfl) (by kernel_rfl) (by kernel_rfl) (fun _ _ _ h => h) (Or.inl ⟨by rfl, ?_⟩) (by assumption) ?_
              rotate_left
              · intro w' hSw
                have d1 := below_cell hSw C1.out
                have d2 := below_cell hSw C2.out
                go_simp
                try rfl
              simp only [Act.put, List.setIfInBounds_toArray, List.set_cons_zero, List.set_cons_succ, List.getElem_toArray, List.getElem_cons_succ, List.getElem_cons_zero]
              refine wpAnyH_take (i := 9) (v := ?_) rfl (by kernel_rfl) (by kernel_rfl) (by kernel_rfl) (fun _ _ _ h => h) (Or.inl ⟨by rfl, ?_⟩) (by assumption) ?_
              rotate_left
              · intro w' hSw
                have d1 := below_cell hSw C1.out
                have d2 := below_cell hSw C2.out
                go_simp
                try rfl
              simp only [Act.put, List.setIfInBounds_toArray, List.set_cons_zero, List.set_cons_succ, List.getElem_toArray, List.getElem_cons_succ, List.getElem_cons_zero]
              refine wpAnyH_take (i := 10) (v := ?_) rfl (by kernel_rfl) (by kernel_rfl) (by kernel_rfl) (fun _ _ _ h => h) (Or.inl ⟨by rfl, ?_⟩) (by assumption) ?_
              rotate_left
              · intro w' hSw
                have d1 := below_cell hSw C1.out
                have d2 := below_cell hSw C2.out
                go_simp
                try rfl
              simp only [Act.put, List.setIfInBounds_toArray, List.set_cons_zero, List.set_cons_succ, List.getElem_toArray, List.getElem_cons_succ, List.getElem_cons_zero]
              refine wpAnyH_take (i := 11) (v := ?_) rfl (by kernel_rfl) (by kernel_rfl) (by kernel_rfl) (fun _ _ _ h => h) (Or.inl ⟨by rfl, ?_⟩) (by assumption) ?_
              rotate_left
              · intro w' hSw
                have d1 := below_cell hSw C1.out
                have d2 := below_cell hSw C2.out
                go_simp
                try rfl
              simp only [Act.put, List.setIfInBounds_toArray, List.set_cons_zero, List.set_cons_succ, List.getElem_toArray, List.getElem_cons_succ, List.getElem_cons_zero]
              refine wpAnyH_ready (rs := [12]) (by kernel_rfl) (by simp) ?_
              refine AllReadyH.cons rfl (fun K hK => ?_) AllReadyH.nil
              go_simp
              have hA : Below w4.heap.size w4 ((wq.alloc (Obj.cells #[Value.int IntKind.i64 x, Value.int IntKind.i64 (y - 1)] 52)).drew) := (h0.alloc h0.size _)
              refine hK.out _ _ hA (fun hHeld => ?_)
              clear hK K hA
              try simp only [Act.put, List.setIfInBounds_toArray, List.set_cons_zero, List.set_cons_succ, List.getElem_toArray, List.getElem_cons_succ, List.getElem_cons_zero]
              refine wpAnyH_ready (rs := [13]) (by kernel_rfl) (by simp) ?_
              refine AllReadyH.cons rfl (fun K hK => ?_) AllReadyH.nil
              refine held_append_r (w := wq.drew) rfl _ _ rfl w4.heap.size _ ((W0 ++ [(p, r)])) rfl HOQ.out x (y - 1) _ rfl rfl rfl (HLn.out) h0.size ?_
              intro va2 wa2 hoa hba
              have HOA := Lib.hid hoa
              have HBA := Lib.hid (hba _ _ h0 (Nat.le_refl _))
              clear hoa hba
              refine hK.out _ _ HBA.out (fun hHeld => ?_)
              clear hK K
              try simp only [Act.put, List.setIfInBounds_toArray, List.set_cons_zero, List.set_cons_succ, List.getElem_toArray, List.getElem_cons_succ, List.getElem_cons_zero]
              refine wpAnyH_take (i := 14) (v := ?_) rfl (by kernel_rfl) (by kernel_rfl) (by kernel_rfl) (fun _ _ _ h => h) (Or.inl ⟨by rfl, ?_⟩) (by assumption) ?_
              rotate_left
              · intro w' hSw
                go_simp
                try rfl
              simp only [Act.put, List.setIfInBounds_toArray, List.set_cons_zero, List.set_cons_succ, List.getElem_toArray, List.getElem_cons_succ, List.getElem_cons_zero]
              refine wpAnyH_done (by kernel_rfl) ?_ _
              go_wp2_with fail
              go_roundw
              case rel => exact ⟨k + 1, (W0 ++ [(p, r)]) ++ [(x, y - 1)], Or.inl hlt, by go_num, HOA.out, HJ1.out, HBA.out⟩
              case measure => simp [intOf]; omega
    · go_wp2_with fail
      go_ret
      have he := ji_end HD.out HJ.out HK.out hlt
      exact ⟨_, O, rfl, he.1, he.2, ownR_mono HO.out HB4.out.size, HBw.out⟩
end Go.Proofs.YtgdhhpbpbkgmeaaDoor.setw
