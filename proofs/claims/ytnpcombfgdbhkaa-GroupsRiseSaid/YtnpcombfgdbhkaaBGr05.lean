/- T -/
import Derived.Deep.DeepCutAuto
import Derived.Deep.RegionHeld3
import Derived.IntWalk
import Derived.Test.YtnpcombfgdbhkaaBGr03
set_option maxHeartbeats 16000000
set_option maxRecDepth 1000000
namespace Go.Proofs.Ytnpcombfgdbhkaa
section
namespace setw
open sq
open Go Go.RowKit bulk ucdp ucdw setp
theorem join2_any (v1 v2 : Value) (l1 l2 : List Rg) (most : Int) (w : World) (hv1 : RsAt w v1 l1) (hv2 : RsAt w v2 l2) (hl1 : l1.length ≤ 100000) (hl2 : l2.length ≤ 100000) (h1 : -9223372036854775808 ≤ most) (h2 : most ≤ 9223372036854775807) :
 Calls Try.prog 73 #[.int .i64 2, v1, v2, .int .i64 most] w (JoinB 2 l1 l2 (min most 1114111) w) := by
 have HV1 := xH hv1;have HV2 := xH hv2;obtain ⟨a1, q1, rfl⟩ := jg hv1;obtain ⟨a2, q2, rfl⟩ := jg hv2;have HL := xH (show ([] : List Rg).length + l1.length ≤ 100000000 by simp; omega);have HL2 := xH (show ([] ++ l1 : List Rg).length + l2.length ≤ 100000000 by simp; omega);have HL3 := xH (show ([] ++ l1 ++ l2 : List Rg).length ≤ 1000000 by simp; omega);have HL4 := xH hl1;have HL5 := xH hl2;have HM := xH h1;have HM2 := xH h2;clear hv1 hv2 hl1 hl2 h1 h2;go_enter Try.func73, Try.ntmps73;go_wp2_with (first
  | (at_builtin; refine jb rfl _ _ rfl w.heap.size (.slice none 0 0) [] rfl (qm _ _) _ l1 rfl HV1.out HL.out (xL _) ?_; intro va wa hoa hba; have HOa := xH hoa; have HBa := xH (hba _ _ (Below.refl _ _) (xL _)); clear hoa hba)
  | (at_builtin; refine jb rfl _ _ rfl w.heap.size va ([] ++ l1) rfl HOa.out _ l2 rfl (jl HV2.out HBa.out) HL2.out HBa.out.size ?_; intro vb wb hob hbb; have HOb := xH hob; have HBb := xH (hbb _ _ HBa.out (xL _)); clear hob hbb))
 refine (edges_any vb ([] ++ l1 ++ l2) most wb (vP HOb.out (fun r hr => by rw [List.nil_append] at hr; exact (List.mem_append.1 hr).elim (fun h => HV1.out.1 r h) (fun h => HV2.out.1 r h))) HL3.out HM.out HM2.out).mono ?_;rintro e w4 ⟨ve, E, rfl, hE, hEd, hb4⟩;rw [List.nil_append] at hEd;obtain ⟨ae, qe, rfl⟩ := intsAt_len hE;have HE := xH hE;have HD := xH hEd;have HB4 := xH (HBb.out.trans (hb4.mono HBb.out.size));have hEl : E.length ≤ 1000000 := by
  rcases hEd with ⟨h, _⟩ | ⟨_, h⟩
  ·rw [h]; simp
  ·have := h.2.2;have := HL4.out;have := HL5.out;simp only [List.length_append] at *;omega
 clear hE hEd hb4;go_wp2_with fail
 go_loopw [11, 12] (fun v i wr => JoRel 2 l1 l2 E w4 v i wr) (fun _ i _ => E.length - (intOf i).toNat)
 case atStart => exact ⟨0, [], Or.inr rfl, rfl, qm _ _, ji_start HD.out, Below.refl _ _⟩
 case round =>
  obtain ⟨k, O, hk, rfl, ho, hJ, hb⟩ := hrel;have HO := xH ho;have HJ := xH hJ;have HB := xH hb;have HK := xH hk;have HBw := xH (HB4.out.trans (hb.mono HB4.out.size));have HF1 := xH (jl HV1.out HBw.out);have HF2 := xH (jl HV2.out HBw.out);have hwk : IntKind.i64.wrap ((k : Int) + 1) = (k : Int) + 1 := IntWalk.i64_in _ (by omega);clear ho hJ hb hk;by_cases hlt : k + 1 < E.length
  ·have hlti : (k : Int) + 1 < (E.length : Int) := by omega
   have hki : (k : Int) < (E.length : Int) := by omega
   have hk0 : (0 : Int) ≤ (k : Int) + 1 := by omega
   rcases HE.out with ⟨h0, _⟩ | ⟨_, b, cap, hve, _, hbb, _, _, hc⟩
   ·rw [h0] at hlt; simp at hlt
   cases hve;have hm : 0 ≤ min most 1114111 := by
    rcases HD.out with ⟨h, _⟩ | ⟨h, _⟩
    ·rw [h] at hlt; simp at hlt
    ·exact h
   have hEP : EP (EQ (l1 ++ l2) (min most 1114111)) (2 * (l1 ++ l2).length + 2) E := by
    rcases HD.out with ⟨h, _⟩ | ⟨_, h⟩
    ·rw [h] at hlt; simp at hlt
    ·exact h
   have c01 := hc k (by omega);have c02 := hc (k + 1) hlt;rw [show E.getD k 0 = E[k] by simp [List.getD, show k < E.length by omega]] at c01;rw [show E.getD (k + 1) 0 = E[k + 1] by simp [List.getD, hlt]] at c02;have c1 := qf HB.out c01;have c2 := qf HB.out c02;have C1 := xH c01;have C2 := xH c02;clear c01 c02;have bd1 := yh hm hEP (List.getElem_mem (show k < E.length by omega));have bd2 := yh hm hEP (List.getElem_mem hlt);have HO1 := xH (fun hq => ji_out hm hEP hlt HJ.out hq);have HO2 := xH (fun hq hl => ji_app hm (by omega) hEP hlt HJ.out hq hl);have HO3 := xH (fun (hq : qB 2 l1 l2 E[k] = true) (W0 : List Rg) (p r : Int) (h : O = W0 ++ [(p, r)]) (hr : r + 1 = E[k]) => ji_mrg hm (by omega) hEP hlt HJ.out hq h hr);have HI1 := xH (rin_any _ l1 E[k] wr HF1.out (by have := HL4.out; omega));have HI2 := xH (rin_any _ l2 E[k] wr HF2.out (by have := HL5.out; omega));have hE1 : E[k] ≤ 1114112 := by omega
   have hE2 : E[k + 1] ≤ 1114112 := by omega
   have hE3 : 0 ≤ E[k] := bd1.1;have hE4 : 0 ≤ E[k + 1] := bd2.1;clear hc bd1 bd2 hm hEP;unfold qB at HO1 HO2 HO3;generalize E[k] = x at *;generalize E[k + 1] = y at *;generalize hasB l1 x = p1 at *;generalize hasB l2 x = p2 at *;have hwy : IntKind.i64.wrap (y - 1) = y - 1 := IntWalk.i64_in _ (by omega);go_wp2_with fail
   refine HI1.out.mono ?_;rintro e wr ⟨rfl, rfl⟩;go_wp2_with fail
   refine HI2.out.mono ?_;rintro e wr ⟨rfl, rfl⟩;go_upto_region 11 with (fail)
   go_cut [15] from 25 to 103 (fun c wx => c = .bool (p1 || p2) ∧ wx = wr)
   case first =>
    cases p1 <;> cases p2 <;> (go_wp2_with fail; go_meet; exact ⟨rfl, rfl⟩)
   case rest =>
    obtain ⟨rfl, rfl⟩ := hcut;go_upto_region 15 with (fail)
    go_cut [15] from 25 to 103 (fun c wx => c = .bool (inP 2 p1 p2) ∧ wx = wc)
    case first =>
     cases p1 <;> cases p2 <;> (go_wp2_with fail; go_meet; exact ⟨rfl, rfl⟩)
    case rest =>
    obtain ⟨rfl, rfl⟩ := hcut;cases hq : inP 2 p1 p2
    ·have HJ1 := xH (HO1.out hq);go_wp2_with fail
     go_roundw
     case rel => exact ⟨k + 1, O, Or.inl hlt, by go_num, HO.out, HJ1.out, HB.out⟩
     case measure => simp [intOf]; omega
    ·rcases List.eq_nil_or_concat O with hO | ⟨W0, ⟨p, r⟩, hO⟩
     ·subst hO;obtain rfl := HO.out.2 rfl;have HJ1 := xH (HO2.out hq (fun W0 r h => by have := congrArg List.length h; simp at this));go_wp2_with fail
      go_quiet (fail)
      go_wp2_with fail
      generalize hwq : World.drewN _ _ = wq;obtain ⟨h0, hoq⟩ : Below w4.heap.size w4 wq.drew ∧ OwnR wq.drew w4.heap.size (.slice none 0 0) ([]) := by rw [← hwq];exact ⟨(below_draws HB.out _).drew, HO.out⟩
      clear hwq;have HOQ := xH hoq;clear hoq;refine wp_region_held_drew (S := fun w' => Below w4.heap.size w4 w') (by kernel_rfl) h0 (fun hHeld => ?_);refine xT 0 rfl ?_ ?_ ?_;rotate_left
      ·intro w' hSw;have d1 := qf hSw C1.out;have d2 := qf hSw C2.out;go_simp;try rfl
      simp only [xS];refine xT 1 rfl ?_ ?_ ?_;rotate_left
      ·intro w' hSw;have d1 := qf hSw C1.out;have d2 := qf hSw C2.out;go_simp;try rfl
      simp only [xS];refine xT 2 rfl ?_ ?_ ?_;rotate_left
      ·intro w' hSw;have d1 := qf hSw C1.out;have d2 := qf hSw C2.out;go_simp;try rfl
      simp only [xS];refine xT 3 rfl ?_ ?_ ?_;rotate_left
      ·intro w' hSw;have d1 := qf hSw C1.out;have d2 := qf hSw C2.out;go_simp;try rfl
      simp only [xS];refine xT 4 rfl ?_ ?_ ?_;rotate_left
      ·intro w' hSw;have d1 := qf hSw C1.out;have d2 := qf hSw C2.out;go_simp;try rfl
      simp only [xS];refine xT 5 rfl ?_ ?_ ?_;rotate_left
      ·intro w' hSw;have d1 := qf hSw C1.out;have d2 := qf hSw C2.out;go_simp;try rfl
      simp only [xS];refine xT 6 rfl ?_ ?_ ?_;rotate_left
      ·intro w' hSw;have d1 := qf hSw C1.out;have d2 := qf hSw C2.out;go_simp;try rfl
      simp only [xS];refine xT 7 rfl ?_ ?_ ?_;rotate_left
      ·intro w' hSw;have d1 := qf hSw C1.out;have d2 := qf hSw C2.out;go_simp;try rfl
      simp only [xS];refine xT 8 rfl ?_ ?_ ?_;rotate_left
      ·intro w' hSw;have d1 := qf hSw C1.out;have d2 := qf hSw C2.out;go_simp;try rfl
      simp only [xS];refine xT 9 rfl ?_ ?_ ?_;rotate_left
      ·intro w' hSw;have d1 := qf hSw C1.out;have d2 := qf hSw C2.out;go_simp;try rfl
      simp only [xS];refine xT 10 rfl ?_ ?_ ?_;rotate_left
      ·intro w' hSw;have d1 := qf hSw C1.out;have d2 := qf hSw C2.out;go_simp;try rfl
      simp only [xS];refine xT 11 rfl ?_ ?_ ?_;rotate_left
      ·intro w' hSw;have d1 := qf hSw C1.out;have d2 := qf hSw C2.out;go_simp;try rfl
      simp only [xS];refine xD 12 rfl (fun K hK => ?_);go_simp;have hA : Below w4.heap.size w4 ((wq.alloc (Obj.cells #[Value.int IntKind.i64 x, Value.int IntKind.i64 (y - 1)] 65)).drew) := (h0.alloc h0.size _);refine hK.out _ _ hA (fun hHeld => ?_);clear hK K hA;try simp only [xS]
      refine xD 13 rfl (fun K hK => ?_);refine zK (w := wq.drew) rfl _ _ rfl w4.heap.size _ ([]) rfl HOQ.out x (y - 1) _ rfl rfl rfl (by simp) h0.size ?_;intro va2 wa2 hoa hba;have HOA := xH hoa;have HBA := xH (hba _ _ h0 (xL _));clear hoa hba;refine hK.out _ _ HBA.out (fun hHeld => ?_);clear hK K;try simp only [xS]
      refine xT 14 rfl ?_ ?_ ?_;rotate_left
      ·intro w' hSw;go_simp;try rfl
      simp only [xS];refine wpAnyH_done (by kernel_rfl) ?_ _;go_wp2_with fail
      go_roundw
      case rel => exact ⟨k + 1, [] ++ [(x, y - 1)], Or.inl hlt, by go_num, HOA.out, HJ1.out, HBA.out⟩
      case measure => simp [intOf]; omega
     ·subst hO;rw [List.concat_eq_append] at *;obtain ⟨g, cw, hv, hg1, hg3, hg4, hcw⟩ := ownR_slice HO.out (by simp);have hce := hcw W0.length (by simp);have hlen : (W0 ++ [(p, r)]).length = W0.length + 1 := by simp
      have hr := HJ.out.1.2 (p, r) (by simp);have HLn := xH (show (W0 ++ [(p, r)]).length ≤ 100000000 by have := HJ.out.2.2; omega);rw [hlen] at hv hg3;simp only [List.getElem_concat_length] at hce;obtain ⟨hce1, hce2⟩ := hce;obtain ⟨hr0, hr1, hr2⟩ := hr;simp only at hr0 hr1 hr2;obtain ⟨m, hm⟩ : ∃ m, W0.length = m := ⟨_, rfl⟩;have HMm := xH hm;rw [hm] at hv hg3 hce1 hce2;subst hv;have hix : (m : Int) < (m : Int) + 1 := by omega
      have hwr : IntKind.i64.wrap (r + 1) = r + 1 := IntWalk.i64_in _ (by omega);clear hcw hlen hm;by_cases hj : r + 1 = x
      ·have HJ1 := xH (HO3.out hq W0 p r rfl hj);go_wp2_with fail
       go_quiet (fail)
       generalize hwq : World.drewN _ _ = wq;obtain ⟨h0, hoq, hc2, hd1, hd2⟩ : Below w4.heap.size w4 wq ∧ OwnR wq w4.heap.size (.slice (some ⟨g, 0, none⟩) (m + 1) cw) (W0 ++ [(p, r)]) ∧ wq.cell? ⟨b, k + 1, none⟩ = some (.int .i64 y) ∧ wq.cell? ⟨g, m * 2, none⟩ = some (.int .i64 p) ∧ wq.cell? ⟨g, m * 2 + 1, none⟩ = some (.int .i64 r) := by rw [← hwq];exact ⟨below_draws HB.out _, HO.out, c2, hce1, hce2⟩
       clear hwq;obtain ⟨hn1, hn2, hn3⟩ := ownR_last (z := y - 1) HMm.out hoq;have HN := xH hn1;have HNB := xH (hn3 _ _ h0 (xL _));clear hn1 hn3 hoq h0;go_wp2_with fail
       go_roundw
       case rel => exact ⟨k + 1, W0 ++ [(p, y - 1)], Or.inl hlt, by go_num, HN.out, HJ1.out, HNB.out⟩
       case measure => simp [intOf]; omega
      ·have HJ1 := xH (HO2.out hq (fun W1 r1 h => by obtain ⟨_, h2⟩ := List.append_inj' h rfl;obtain rfl := (List.cons.inj h2).1;exact hj))
       have hjb : (r + 1 == x) = false := by simp [hj]
       go_wp2_with fail
       go_quiet (fail)
       go_wp2_with fail
       generalize hwq : World.drewN _ _ = wq;obtain ⟨h0, hoq⟩ : Below w4.heap.size w4 wq.drew ∧ OwnR wq.drew w4.heap.size (.slice (some ⟨g, 0, none⟩) (m + 1) cw) ((W0 ++ [(p, r)])) := by rw [← hwq];exact ⟨(below_draws HB.out _).drew, HO.out⟩
       clear hwq;have HOQ := xH hoq;clear hoq;refine wp_region_held_drew (S := fun w' => Below w4.heap.size w4 w') (by kernel_rfl) h0 (fun hHeld => ?_);refine xT 0 rfl ?_ ?_ ?_;rotate_left
       ·intro w' hSw;have d1 := qf hSw C1.out;have d2 := qf hSw C2.out;go_simp;try rfl
       simp only [xS];refine xT 1 rfl ?_ ?_ ?_;rotate_left
       ·intro w' hSw;have d1 := qf hSw C1.out;have d2 := qf hSw C2.out;go_simp;try rfl
       simp only [xS];refine xT 2 rfl ?_ ?_ ?_;rotate_left
       ·intro w' hSw;have d1 := qf hSw C1.out;have d2 := qf hSw C2.out;go_simp;try rfl
       simp only [xS];refine xT 3 rfl ?_ ?_ ?_;rotate_left
       ·intro w' hSw;have d1 := qf hSw C1.out;have d2 := qf hSw C2.out;go_simp;try rfl
       simp only [xS];refine xT 4 rfl ?_ ?_ ?_;rotate_left
       ·intro w' hSw;have d1 := qf hSw C1.out;have d2 := qf hSw C2.out;go_simp;try rfl
       simp only [xS];refine xT 5 rfl ?_ ?_ ?_;rotate_left
       ·intro w' hSw;have d1 := qf hSw C1.out;have d2 := qf hSw C2.out;go_simp;try rfl
       simp only [xS];refine xT 6 rfl ?_ ?_ ?_;rotate_left
       ·intro w' hSw;have d1 := qf hSw C1.out;have d2 := qf hSw C2.out;go_simp;try rfl
       simp only [xS];refine xT 7 rfl ?_ ?_ ?_;rotate_left
       ·intro w' hSw;have d1 := qf hSw C1.out;have d2 := qf hSw C2.out;go_simp;try rfl
       simp only [xS];refine xT 8 rfl ?_ ?_ ?_;rotate_left
       ·intro w' hSw;have d1 := qf hSw C1.out;have d2 := qf hSw C2.out;go_simp;try rfl
       simp only [xS];refine xT 9 rfl ?_ ?_ ?_;rotate_left
       ·intro w' hSw;have d1 := qf hSw C1.out;have d2 := qf hSw C2.out;go_simp;try rfl
       simp only [xS];refine xT 10 rfl ?_ ?_ ?_;rotate_left
       ·intro w' hSw;have d1 := qf hSw C1.out;have d2 := qf hSw C2.out;go_simp;try rfl
       simp only [xS];refine xT 11 rfl ?_ ?_ ?_;rotate_left
       ·intro w' hSw;have d1 := qf hSw C1.out;have d2 := qf hSw C2.out;go_simp;try rfl
       simp only [xS];refine xD 12 rfl (fun K hK => ?_);go_simp;have hA : Below w4.heap.size w4 ((wq.alloc (Obj.cells #[Value.int IntKind.i64 x, Value.int IntKind.i64 (y - 1)] 65)).drew) := (h0.alloc h0.size _);refine hK.out _ _ hA (fun hHeld => ?_);clear hK K hA;try simp only [xS]
       refine xD 13 rfl (fun K hK => ?_);refine zK (w := wq.drew) rfl _ _ rfl w4.heap.size _ ((W0 ++ [(p, r)])) rfl HOQ.out x (y - 1) _ rfl rfl rfl (HLn.out) h0.size ?_;intro va2 wa2 hoa hba;have HOA := xH hoa;have HBA := xH (hba _ _ h0 (xL _));clear hoa hba;refine hK.out _ _ HBA.out (fun hHeld => ?_);clear hK K;try simp only [xS]
       refine xT 14 rfl ?_ ?_ ?_;rotate_left
       ·intro w' hSw;go_simp;try rfl
       simp only [xS];refine wpAnyH_done (by kernel_rfl) ?_ _;go_wp2_with fail
       go_roundw
       case rel => exact ⟨k + 1, (W0 ++ [(p, r)]) ++ [(x, y - 1)], Or.inl hlt, by go_num, HOA.out, HJ1.out, HBA.out⟩
       case measure => simp [intOf]; omega
  ·go_wp2_with fail
   go_ret
   have he := ji_end HD.out HJ.out HK.out hlt;exact ⟨_, O, rfl, he.1, he.2, ownR_mono HO.out HB4.out.size, HBw.out⟩
theorem join0_any (v1 v2 : Value) (l1 l2 : List Rg) (most : Int) (w : World) (hv1 : RsAt w v1 l1) (hv2 : RsAt w v2 l2) (hl1 : l1.length ≤ 100000) (hl2 : l2.length ≤ 100000) (h1 : -9223372036854775808 ≤ most) (h2 : most ≤ 9223372036854775807) :
 Calls Try.prog 73 #[.int .i64 0, v1, v2, .int .i64 most] w (JoinB 0 l1 l2 (min most 1114111) w) := by
 have HV1 := xH hv1;have HV2 := xH hv2;obtain ⟨a1, q1, rfl⟩ := jg hv1;obtain ⟨a2, q2, rfl⟩ := jg hv2;have HL := xH (show ([] : List Rg).length + l1.length ≤ 100000000 by simp; omega);have HL2 := xH (show ([] ++ l1 : List Rg).length + l2.length ≤ 100000000 by simp; omega);have HL3 := xH (show ([] ++ l1 ++ l2 : List Rg).length ≤ 1000000 by simp; omega);have HL4 := xH hl1;have HL5 := xH hl2;have HM := xH h1;have HM2 := xH h2;clear hv1 hv2 hl1 hl2 h1 h2;go_enter Try.func73, Try.ntmps73;go_wp2_with (first
  | (at_builtin; refine jb rfl _ _ rfl w.heap.size (.slice none 0 0) [] rfl (qm _ _) _ l1 rfl HV1.out HL.out (xL _) ?_; intro va wa hoa hba; have HOa := xH hoa; have HBa := xH (hba _ _ (Below.refl _ _) (xL _)); clear hoa hba)
  | (at_builtin; refine jb rfl _ _ rfl w.heap.size va ([] ++ l1) rfl HOa.out _ l2 rfl (jl HV2.out HBa.out) HL2.out HBa.out.size ?_; intro vb wb hob hbb; have HOb := xH hob; have HBb := xH (hbb _ _ HBa.out (xL _)); clear hob hbb))
 refine (edges_any vb ([] ++ l1 ++ l2) most wb (vP HOb.out (fun r hr => by rw [List.nil_append] at hr; exact (List.mem_append.1 hr).elim (fun h => HV1.out.1 r h) (fun h => HV2.out.1 r h))) HL3.out HM.out HM2.out).mono ?_;rintro e w4 ⟨ve, E, rfl, hE, hEd, hb4⟩;rw [List.nil_append] at hEd;obtain ⟨ae, qe, rfl⟩ := intsAt_len hE;have HE := xH hE;have HD := xH hEd;have HB4 := xH (HBb.out.trans (hb4.mono HBb.out.size));have hEl : E.length ≤ 1000000 := by
  rcases hEd with ⟨h, _⟩ | ⟨_, h⟩
  ·rw [h]; simp
  ·have := h.2.2;have := HL4.out;have := HL5.out;simp only [List.length_append] at *;omega
 clear hE hEd hb4;go_wp2_with fail
 go_loopw [11, 12] (fun v i wr => JoRel 0 l1 l2 E w4 v i wr) (fun _ i _ => E.length - (intOf i).toNat)
 case atStart => exact ⟨0, [], Or.inr rfl, rfl, qm _ _, ji_start HD.out, Below.refl _ _⟩
 case round =>
  obtain ⟨k, O, hk, rfl, ho, hJ, hb⟩ := hrel;have HO := xH ho;have HJ := xH hJ;have HB := xH hb;have HK := xH hk;have HBw := xH (HB4.out.trans (hb.mono HB4.out.size));have HF1 := xH (jl HV1.out HBw.out);have HF2 := xH (jl HV2.out HBw.out);have hwk : IntKind.i64.wrap ((k : Int) + 1) = (k : Int) + 1 := IntWalk.i64_in _ (by omega);clear ho hJ hb hk;by_cases hlt : k + 1 < E.length
  ·have hlti : (k : Int) + 1 < (E.length : Int) := by omega
   have hki : (k : Int) < (E.length : Int) := by omega
   have hk0 : (0 : Int) ≤ (k : Int) + 1 := by omega
   rcases HE.out with ⟨h0, _⟩ | ⟨_, b, cap, hve, _, hbb, _, _, hc⟩
   ·rw [h0] at hlt; simp at hlt
   cases hve;have hm : 0 ≤ min most 1114111 := by
    rcases HD.out with ⟨h, _⟩ | ⟨h, _⟩
    ·rw [h] at hlt; simp at hlt
    ·exact h
   have hEP : EP (EQ (l1 ++ l2) (min most 1114111)) (2 * (l1 ++ l2).length + 2) E := by
    rcases HD.out with ⟨h, _⟩ | ⟨_, h⟩
    ·rw [h] at hlt; simp at hlt
    ·exact h
   have c01 := hc k (by omega);have c02 := hc (k + 1) hlt;rw [show E.getD k 0 = E[k] by simp [List.getD, show k < E.length by omega]] at c01;rw [show E.getD (k + 1) 0 = E[k + 1] by simp [List.getD, hlt]] at c02;have c1 := qf HB.out c01;have c2 := qf HB.out c02;have C1 := xH c01;have C2 := xH c02;clear c01 c02;have bd1 := yh hm hEP (List.getElem_mem (show k < E.length by omega));have bd2 := yh hm hEP (List.getElem_mem hlt);have HO1 := xH (fun hq => ji_out hm hEP hlt HJ.out hq);have HO2 := xH (fun hq hl => ji_app hm (by omega) hEP hlt HJ.out hq hl);have HO3 := xH (fun (hq : qB 0 l1 l2 E[k] = true) (W0 : List Rg) (p r : Int) (h : O = W0 ++ [(p, r)]) (hr : r + 1 = E[k]) => ji_mrg hm (by omega) hEP hlt HJ.out hq h hr);have HI1 := xH (rin_any _ l1 E[k] wr HF1.out (by have := HL4.out; omega));have HI2 := xH (rin_any _ l2 E[k] wr HF2.out (by have := HL5.out; omega));have hE1 : E[k] ≤ 1114112 := by omega
   have hE2 : E[k + 1] ≤ 1114112 := by omega
   have hE3 : 0 ≤ E[k] := bd1.1;have hE4 : 0 ≤ E[k + 1] := bd2.1;clear hc bd1 bd2 hm hEP;unfold qB at HO1 HO2 HO3;generalize E[k] = x at *;generalize E[k + 1] = y at *;generalize hasB l1 x = p1 at *;generalize hasB l2 x = p2 at *;have hwy : IntKind.i64.wrap (y - 1) = y - 1 := IntWalk.i64_in _ (by omega);go_wp2_with fail
   refine HI1.out.mono ?_;rintro e wr ⟨rfl, rfl⟩;go_wp2_with fail
   refine HI2.out.mono ?_;rintro e wr ⟨rfl, rfl⟩;go_upto_region 11 with (fail)
   go_cut [15] from 25 to 103 (fun c wx => c = .bool (inP 0 p1 p2) ∧ wx = wr)
   case first =>
    cases p1 <;> cases p2 <;> (go_wp2_with fail; go_meet; exact ⟨rfl, rfl⟩)
   case rest =>
    obtain ⟨rfl, rfl⟩ := hcut;cases hq : inP 0 p1 p2
    ·have HJ1 := xH (HO1.out hq);go_wp2_with fail
     go_roundw
     case rel => exact ⟨k + 1, O, Or.inl hlt, by go_num, HO.out, HJ1.out, HB.out⟩
     case measure => simp [intOf]; omega
    ·rcases List.eq_nil_or_concat O with hO | ⟨W0, ⟨p, r⟩, hO⟩
     ·subst hO;obtain rfl := HO.out.2 rfl;have HJ1 := xH (HO2.out hq (fun W0 r h => by have := congrArg List.length h; simp at this));go_wp2_with fail
      go_quiet (fail)
      go_wp2_with fail
      generalize hwq : World.drewN _ _ = wq;obtain ⟨h0, hoq⟩ : Below w4.heap.size w4 wq.drew ∧ OwnR wq.drew w4.heap.size (.slice none 0 0) ([]) := by rw [← hwq];exact ⟨(below_draws HB.out _).drew, HO.out⟩
      clear hwq;have HOQ := xH hoq;clear hoq;refine wp_region_held_drew (S := fun w' => Below w4.heap.size w4 w') (by kernel_rfl) h0 (fun hHeld => ?_);refine xT 0 rfl ?_ ?_ ?_;rotate_left
      ·intro w' hSw;have d1 := qf hSw C1.out;have d2 := qf hSw C2.out;go_simp;try rfl
      simp only [xS];refine xT 1 rfl ?_ ?_ ?_;rotate_left
      ·intro w' hSw;have d1 := qf hSw C1.out;have d2 := qf hSw C2.out;go_simp;try rfl
      simp only [xS];refine xT 2 rfl ?_ ?_ ?_;rotate_left
      ·intro w' hSw;have d1 := qf hSw C1.out;have d2 := qf hSw C2.out;go_simp;try rfl
      simp only [xS];refine xT 3 rfl ?_ ?_ ?_;rotate_left
      ·intro w' hSw;have d1 := qf hSw C1.out;have d2 := qf hSw C2.out;go_simp;try rfl
      simp only [xS];refine xT 4 rfl ?_ ?_ ?_;rotate_left
      ·intro w' hSw;have d1 := qf hSw C1.out;have d2 := qf hSw C2.out;go_simp;try rfl
      simp only [xS];refine xT 5 rfl ?_ ?_ ?_;rotate_left
      ·intro w' hSw;have d1 := qf hSw C1.out;have d2 := qf hSw C2.out;go_simp;try rfl
      simp only [xS];refine xT 6 rfl ?_ ?_ ?_;rotate_left
      ·intro w' hSw;have d1 := qf hSw C1.out;have d2 := qf hSw C2.out;go_simp;try rfl
      simp only [xS];refine xT 7 rfl ?_ ?_ ?_;rotate_left
      ·intro w' hSw;have d1 := qf hSw C1.out;have d2 := qf hSw C2.out;go_simp;try rfl
      simp only [xS];refine xT 8 rfl ?_ ?_ ?_;rotate_left
      ·intro w' hSw;have d1 := qf hSw C1.out;have d2 := qf hSw C2.out;go_simp;try rfl
      simp only [xS];refine xT 9 rfl ?_ ?_ ?_;rotate_left
      ·intro w' hSw;have d1 := qf hSw C1.out;have d2 := qf hSw C2.out;go_simp;try rfl
      simp only [xS];refine xT 10 rfl ?_ ?_ ?_;rotate_left
      ·intro w' hSw;have d1 := qf hSw C1.out;have d2 := qf hSw C2.out;go_simp;try rfl
      simp only [xS];refine xT 11 rfl ?_ ?_ ?_;rotate_left
      ·intro w' hSw;have d1 := qf hSw C1.out;have d2 := qf hSw C2.out;go_simp;try rfl
      simp only [xS];refine xD 12 rfl (fun K hK => ?_);go_simp;have hA : Below w4.heap.size w4 ((wq.alloc (Obj.cells #[Value.int IntKind.i64 x, Value.int IntKind.i64 (y - 1)] 65)).drew) := (h0.alloc h0.size _);refine hK.out _ _ hA (fun hHeld => ?_);clear hK K hA;try simp only [xS]
      refine xD 13 rfl (fun K hK => ?_);refine zK (w := wq.drew) rfl _ _ rfl w4.heap.size _ ([]) rfl HOQ.out x (y - 1) _ rfl rfl rfl (by simp) h0.size ?_;intro va2 wa2 hoa hba;have HOA := xH hoa;have HBA := xH (hba _ _ h0 (xL _));clear hoa hba;refine hK.out _ _ HBA.out (fun hHeld => ?_);clear hK K;try simp only [xS]
      refine xT 14 rfl ?_ ?_ ?_;rotate_left
      ·intro w' hSw;go_simp;try rfl
      simp only [xS];refine wpAnyH_done (by kernel_rfl) ?_ _;go_wp2_with fail
      go_roundw
      case rel => exact ⟨k + 1, [] ++ [(x, y - 1)], Or.inl hlt, by go_num, HOA.out, HJ1.out, HBA.out⟩
      case measure => simp [intOf]; omega
     ·subst hO;rw [List.concat_eq_append] at *;obtain ⟨g, cw, hv, hg1, hg3, hg4, hcw⟩ := ownR_slice HO.out (by simp);have hce := hcw W0.length (by simp);have hlen : (W0 ++ [(p, r)]).length = W0.length + 1 := by simp
      have hr := HJ.out.1.2 (p, r) (by simp);have HLn := xH (show (W0 ++ [(p, r)]).length ≤ 100000000 by have := HJ.out.2.2; omega);rw [hlen] at hv hg3;simp only [List.getElem_concat_length] at hce;obtain ⟨hce1, hce2⟩ := hce;obtain ⟨hr0, hr1, hr2⟩ := hr;simp only at hr0 hr1 hr2;obtain ⟨m, hm⟩ : ∃ m, W0.length = m := ⟨_, rfl⟩;have HMm := xH hm;rw [hm] at hv hg3 hce1 hce2;subst hv;have hix : (m : Int) < (m : Int) + 1 := by omega
      have hwr : IntKind.i64.wrap (r + 1) = r + 1 := IntWalk.i64_in _ (by omega);clear hcw hlen hm;by_cases hj : r + 1 = x
      ·have HJ1 := xH (HO3.out hq W0 p r rfl hj);go_wp2_with fail
       go_quiet (fail)
       generalize hwq : World.drewN _ _ = wq;obtain ⟨h0, hoq, hc2, hd1, hd2⟩ : Below w4.heap.size w4 wq ∧ OwnR wq w4.heap.size (.slice (some ⟨g, 0, none⟩) (m + 1) cw) (W0 ++ [(p, r)]) ∧ wq.cell? ⟨b, k + 1, none⟩ = some (.int .i64 y) ∧ wq.cell? ⟨g, m * 2, none⟩ = some (.int .i64 p) ∧ wq.cell? ⟨g, m * 2 + 1, none⟩ = some (.int .i64 r) := by rw [← hwq];exact ⟨below_draws HB.out _, HO.out, c2, hce1, hce2⟩
       clear hwq;obtain ⟨hn1, hn2, hn3⟩ := ownR_last (z := y - 1) HMm.out hoq;have HN := xH hn1;have HNB := xH (hn3 _ _ h0 (xL _));clear hn1 hn3 hoq h0;go_wp2_with fail
       go_roundw
       case rel => exact ⟨k + 1, W0 ++ [(p, y - 1)], Or.inl hlt, by go_num, HN.out, HJ1.out, HNB.out⟩
       case measure => simp [intOf]; omega
      ·have HJ1 := xH (HO2.out hq (fun W1 r1 h => by obtain ⟨_, h2⟩ := List.append_inj' h rfl;obtain rfl := (List.cons.inj h2).1;exact hj))
       have hjb : (r + 1 == x) = false := by simp [hj]
       go_wp2_with fail
       go_quiet (fail)
       go_wp2_with fail
       generalize hwq : World.drewN _ _ = wq;obtain ⟨h0, hoq⟩ : Below w4.heap.size w4 wq.drew ∧ OwnR wq.drew w4.heap.size (.slice (some ⟨g, 0, none⟩) (m + 1) cw) ((W0 ++ [(p, r)])) := by rw [← hwq];exact ⟨(below_draws HB.out _).drew, HO.out⟩
       clear hwq;have HOQ := xH hoq;clear hoq;refine wp_region_held_drew (S := fun w' => Below w4.heap.size w4 w') (by kernel_rfl) h0 (fun hHeld => ?_);refine xT 0 rfl ?_ ?_ ?_;rotate_left
       ·intro w' hSw;have d1 := qf hSw C1.out;have d2 := qf hSw C2.out;go_simp;try rfl
       simp only [xS];refine xT 1 rfl ?_ ?_ ?_;rotate_left
       ·intro w' hSw;have d1 := qf hSw C1.out;have d2 := qf hSw C2.out;go_simp;try rfl
       simp only [xS];refine xT 2 rfl ?_ ?_ ?_;rotate_left
       ·intro w' hSw;have d1 := qf hSw C1.out;have d2 := qf hSw C2.out;go_simp;try rfl
       simp only [xS];refine xT 3 rfl ?_ ?_ ?_;rotate_left
       ·intro w' hSw;have d1 := qf hSw C1.out;have d2 := qf hSw C2.out;go_simp;try rfl
       simp only [xS];refine xT 4 rfl ?_ ?_ ?_;rotate_left
       ·intro w' hSw;have d1 := qf hSw C1.out;have d2 := qf hSw C2.out;go_simp;try rfl
       simp only [xS];refine xT 5 rfl ?_ ?_ ?_;rotate_left
       ·intro w' hSw;have d1 := qf hSw C1.out;have d2 := qf hSw C2.out;go_simp;try rfl
       simp only [xS];refine xT 6 rfl ?_ ?_ ?_;rotate_left
       ·intro w' hSw;have d1 := qf hSw C1.out;have d2 := qf hSw C2.out;go_simp;try rfl
       simp only [xS];refine xT 7 rfl ?_ ?_ ?_;rotate_left
       ·intro w' hSw;have d1 := qf hSw C1.out;have d2 := qf hSw C2.out;go_simp;try rfl
       simp only [xS];refine xT 8 rfl ?_ ?_ ?_;rotate_left
       ·intro w' hSw;have d1 := qf hSw C1.out;have d2 := qf hSw C2.out;go_simp;try rfl
       simp only [xS];refine xT 9 rfl ?_ ?_ ?_;rotate_left
       ·intro w' hSw;have d1 := qf hSw C1.out;have d2 := qf hSw C2.out;go_simp;try rfl
       simp only [xS];refine xT 10 rfl ?_ ?_ ?_;rotate_left
       ·intro w' hSw;have d1 := qf hSw C1.out;have d2 := qf hSw C2.out;go_simp;try rfl
       simp only [xS];refine xT 11 rfl ?_ ?_ ?_;rotate_left
       ·intro w' hSw;have d1 := qf hSw C1.out;have d2 := qf hSw C2.out;go_simp;try rfl
       simp only [xS];refine xD 12 rfl (fun K hK => ?_);go_simp;have hA : Below w4.heap.size w4 ((wq.alloc (Obj.cells #[Value.int IntKind.i64 x, Value.int IntKind.i64 (y - 1)] 65)).drew) := (h0.alloc h0.size _);refine hK.out _ _ hA (fun hHeld => ?_);clear hK K hA;try simp only [xS]
       refine xD 13 rfl (fun K hK => ?_);refine zK (w := wq.drew) rfl _ _ rfl w4.heap.size _ ((W0 ++ [(p, r)])) rfl HOQ.out x (y - 1) _ rfl rfl rfl (HLn.out) h0.size ?_;intro va2 wa2 hoa hba;have HOA := xH hoa;have HBA := xH (hba _ _ h0 (xL _));clear hoa hba;refine hK.out _ _ HBA.out (fun hHeld => ?_);clear hK K;try simp only [xS]
       refine xT 14 rfl ?_ ?_ ?_;rotate_left
       ·intro w' hSw;go_simp;try rfl
       simp only [xS];refine wpAnyH_done (by kernel_rfl) ?_ _;go_wp2_with fail
       go_roundw
       case rel => exact ⟨k + 1, (W0 ++ [(p, r)]) ++ [(x, y - 1)], Or.inl hlt, by go_num, HOA.out, HJ1.out, HBA.out⟩
       case measure => simp [intOf]; omega
  ·go_wp2_with fail
   go_ret
   have he := ji_end HD.out HJ.out HK.out hlt;exact ⟨_, O, rfl, he.1, he.2, ownR_mono HO.out HB4.out.size, HBw.out⟩
theorem qB_union (a b : List Rg) (c : Int) : qB 0 a b c = true ↔ Has a c ∨ Has b c := by unfold qB inP;simp [zX]
theorem qB_not (a b : List Rg) (c : Int) : qB 2 a b c = true ↔ ¬ Has a c := by unfold qB inP;rw [← zX];simp
theorem rs_nil (w : World) : RsAt w (.slice none 0 0) [] := ⟨fun r hr => (by cases hr), Or.inl ⟨rfl, none, 0, rfl, by omega⟩⟩
def DocS (q : Int → Prop) (w : World) (e : Ending) (w' : World) : Prop := ∃ v S, e = .returned v ∧ Canon S ∧ (∀ c, Has S c ↔ q c) ∧ OwnR w' w.heap.size v S ∧ Below w.heap.size w w'
theorem rnew_any (v : Value) (l : List Rg) (most : Int) (w : World) (hv : RsAt w v l) (hl : l.length ≤ 100000) (h1 : -9223372036854775808 ≤ most) (h2 : most ≤ 9223372036854775807) :
 Calls Try.prog 47 #[v, .int .i64 most] w (DocS (fun c => Has l c ∧ 0 ≤ c ∧ c ≤ min most 1114111) w) := by
 have HJ := xH (join0_any v (.slice none 0 0) l [] most w hv (rs_nil w) hl (by simp) h1 h2);clear hv;go_enter Try.func47, Try.ntmps47;go_wp2_with fail
 refine HJ.out.mono ?_;rintro e w1 ⟨v1, S, rfl, hS, hh, ho, hb⟩;have HS := xH hS;have HH := xH hh;have HO := xH ho;clear hS hh ho;go_wp2_with fail
 go_ret
 refine ⟨_, S, rfl, HS.out, fun c => ?_, HO.out, hb⟩;rw [HH.out, qB_union];constructor
 ·rintro ⟨a, b, c | c⟩
  ·exact ⟨c, a, b⟩
  ·exact absurd c (has_nil _)
 ·rintro ⟨a, b, c⟩;exact ⟨b, c, Or.inl a⟩
theorem join0w_any (v1 v2 : Value) (l1 l2 : List Rg) (most : Int) (w : World) (hv1 : RsAt w v1 l1) (hv2 : RsAt w v2 l2) (hl1 : l1.length ≤ 600000) (hl2 : l2.length ≤ 400000) (h1 : -9223372036854775808 ≤ most) (h2 : most ≤ 9223372036854775807) :
 Calls Try.prog 73 #[.int .i64 0, v1, v2, .int .i64 most] w (JoinB 0 l1 l2 (min most 1114111) w) := by
 have HV1 := xH hv1;have HV2 := xH hv2;obtain ⟨a1, q1, rfl⟩ := jg hv1;obtain ⟨a2, q2, rfl⟩ := jg hv2;have HL := xH (show ([] : List Rg).length + l1.length ≤ 100000000 by simp; omega);have HL2 := xH (show ([] ++ l1 : List Rg).length + l2.length ≤ 100000000 by simp; omega);have HL3 := xH (show ([] ++ l1 ++ l2 : List Rg).length ≤ 1000000 by simp; omega);have HL4 := xH hl1;have HL5 := xH hl2;have HM := xH h1;have HM2 := xH h2;clear hv1 hv2 hl1 hl2 h1 h2;go_enter Try.func73, Try.ntmps73;go_wp2_with (first
  | (at_builtin; refine jb rfl _ _ rfl w.heap.size (.slice none 0 0) [] rfl (qm _ _) _ l1 rfl HV1.out HL.out (xL _) ?_; intro va wa hoa hba; have HOa := xH hoa; have HBa := xH (hba _ _ (Below.refl _ _) (xL _)); clear hoa hba)
  | (at_builtin; refine jb rfl _ _ rfl w.heap.size va ([] ++ l1) rfl HOa.out _ l2 rfl (jl HV2.out HBa.out) HL2.out HBa.out.size ?_; intro vb wb hob hbb; have HOb := xH hob; have HBb := xH (hbb _ _ HBa.out (xL _)); clear hob hbb))
 refine (edges_any vb ([] ++ l1 ++ l2) most wb (vP HOb.out (fun r hr => by rw [List.nil_append] at hr; exact (List.mem_append.1 hr).elim (fun h => HV1.out.1 r h) (fun h => HV2.out.1 r h))) HL3.out HM.out HM2.out).mono ?_;rintro e w4 ⟨ve, E, rfl, hE, hEd, hb4⟩;rw [List.nil_append] at hEd;obtain ⟨ae, qe, rfl⟩ := intsAt_len hE;have HE := xH hE;have HD := xH hEd;have HB4 := xH (HBb.out.trans (hb4.mono HBb.out.size));have hEl : E.length ≤ 3000000 := by
  rcases hEd with ⟨h, _⟩ | ⟨_, h⟩
  ·rw [h]; simp
  ·have := h.2.2;have := HL4.out;have := HL5.out;simp only [List.length_append] at *;omega
 clear hE hEd hb4;go_wp2_with fail
 go_loopw [11, 12] (fun v i wr => JoRel 0 l1 l2 E w4 v i wr) (fun _ i _ => E.length - (intOf i).toNat)
 case atStart => exact ⟨0, [], Or.inr rfl, rfl, qm _ _, ji_start HD.out, Below.refl _ _⟩
 case round =>
  obtain ⟨k, O, hk, rfl, ho, hJ, hb⟩ := hrel;have HO := xH ho;have HJ := xH hJ;have HB := xH hb;have HK := xH hk;have HBw := xH (HB4.out.trans (hb.mono HB4.out.size));have HF1 := xH (jl HV1.out HBw.out);have HF2 := xH (jl HV2.out HBw.out);have hwk : IntKind.i64.wrap ((k : Int) + 1) = (k : Int) + 1 := IntWalk.i64_in _ (by omega);clear ho hJ hb hk;by_cases hlt : k + 1 < E.length
  ·have hlti : (k : Int) + 1 < (E.length : Int) := by omega
   have hki : (k : Int) < (E.length : Int) := by omega
   have hk0 : (0 : Int) ≤ (k : Int) + 1 := by omega
   rcases HE.out with ⟨h0, _⟩ | ⟨_, b, cap, hve, _, hbb, _, _, hc⟩
   ·rw [h0] at hlt; simp at hlt
   cases hve;have hm : 0 ≤ min most 1114111 := by
    rcases HD.out with ⟨h, _⟩ | ⟨h, _⟩
    ·rw [h] at hlt; simp at hlt
    ·exact h
   have hEP : EP (EQ (l1 ++ l2) (min most 1114111)) (2 * (l1 ++ l2).length + 2) E := by
    rcases HD.out with ⟨h, _⟩ | ⟨_, h⟩
    ·rw [h] at hlt; simp at hlt
    ·exact h
   have c01 := hc k (by omega);have c02 := hc (k + 1) hlt;rw [show E.getD k 0 = E[k] by simp [List.getD, show k < E.length by omega]] at c01;rw [show E.getD (k + 1) 0 = E[k + 1] by simp [List.getD, hlt]] at c02;have c1 := qf HB.out c01;have c2 := qf HB.out c02;have C1 := xH c01;have C2 := xH c02;clear c01 c02;have bd1 := yh hm hEP (List.getElem_mem (show k < E.length by omega));have bd2 := yh hm hEP (List.getElem_mem hlt);have HO1 := xH (fun hq => ji_out hm hEP hlt HJ.out hq);have HO2 := xH (fun hq hl => ji_app hm (by omega) hEP hlt HJ.out hq hl);have HO3 := xH (fun (hq : qB 0 l1 l2 E[k] = true) (W0 : List Rg) (p r : Int) (h : O = W0 ++ [(p, r)]) (hr : r + 1 = E[k]) => ji_mrg hm (by omega) hEP hlt HJ.out hq h hr);have HI1 := xH (rin_any _ l1 E[k] wr HF1.out (by have := HL4.out; omega));have HI2 := xH (rin_any _ l2 E[k] wr HF2.out (by have := HL5.out; omega));have hE1 : E[k] ≤ 1114112 := by omega
   have hE2 : E[k + 1] ≤ 1114112 := by omega
   have hE3 : 0 ≤ E[k] := bd1.1;have hE4 : 0 ≤ E[k + 1] := bd2.1;clear hc bd1 bd2 hm hEP;unfold qB at HO1 HO2 HO3;generalize E[k] = x at *;generalize E[k + 1] = y at *;generalize hasB l1 x = p1 at *;generalize hasB l2 x = p2 at *;have hwy : IntKind.i64.wrap (y - 1) = y - 1 := IntWalk.i64_in _ (by omega);go_wp2_with fail
   refine HI1.out.mono ?_;rintro e wr ⟨rfl, rfl⟩;go_wp2_with fail
   refine HI2.out.mono ?_;rintro e wr ⟨rfl, rfl⟩;go_upto_region 11 with (fail)
   go_cut [15] from 25 to 103 (fun c wx => c = .bool (inP 0 p1 p2) ∧ wx = wr)
   case first =>
    cases p1 <;> cases p2 <;> (go_wp2_with fail; go_meet; exact ⟨rfl, rfl⟩)
   case rest =>
    obtain ⟨rfl, rfl⟩ := hcut;cases hq : inP 0 p1 p2
    ·have HJ1 := xH (HO1.out hq);go_wp2_with fail
     go_roundw
     case rel => exact ⟨k + 1, O, Or.inl hlt, by go_num, HO.out, HJ1.out, HB.out⟩
     case measure => simp [intOf]; omega
    ·rcases List.eq_nil_or_concat O with hO | ⟨W0, ⟨p, r⟩, hO⟩
     ·subst hO;obtain rfl := HO.out.2 rfl;have HJ1 := xH (HO2.out hq (fun W0 r h => by have := congrArg List.length h; simp at this));go_wp2_with fail
      go_quiet (fail)
      go_wp2_with fail
      generalize hwq : World.drewN _ _ = wq;obtain ⟨h0, hoq⟩ : Below w4.heap.size w4 wq.drew ∧ OwnR wq.drew w4.heap.size (.slice none 0 0) ([]) := by rw [← hwq];exact ⟨(below_draws HB.out _).drew, HO.out⟩
      clear hwq;have HOQ := xH hoq;clear hoq;refine wp_region_held_drew (S := fun w' => Below w4.heap.size w4 w') (by kernel_rfl) h0 (fun hHeld => ?_);refine xT 0 rfl ?_ ?_ ?_;rotate_left
      ·intro w' hSw;have d1 := qf hSw C1.out;have d2 := qf hSw C2.out;go_simp;try rfl
      simp only [xS];refine xT 1 rfl ?_ ?_ ?_;rotate_left
      ·intro w' hSw;have d1 := qf hSw C1.out;have d2 := qf hSw C2.out;go_simp;try rfl
      simp only [xS];refine xT 2 rfl ?_ ?_ ?_;rotate_left
      ·intro w' hSw;have d1 := qf hSw C1.out;have d2 := qf hSw C2.out;go_simp;try rfl
      simp only [xS];refine xT 3 rfl ?_ ?_ ?_;rotate_left
      ·intro w' hSw;have d1 := qf hSw C1.out;have d2 := qf hSw C2.out;go_simp;try rfl
      simp only [xS];refine xT 4 rfl ?_ ?_ ?_;rotate_left
      ·intro w' hSw;have d1 := qf hSw C1.out;have d2 := qf hSw C2.out;go_simp;try rfl
      simp only [xS];refine xT 5 rfl ?_ ?_ ?_;rotate_left
      ·intro w' hSw;have d1 := qf hSw C1.out;have d2 := qf hSw C2.out;go_simp;try rfl
      simp only [xS];refine xT 6 rfl ?_ ?_ ?_;rotate_left
      ·intro w' hSw;have d1 := qf hSw C1.out;have d2 := qf hSw C2.out;go_simp;try rfl
      simp only [xS];refine xT 7 rfl ?_ ?_ ?_;rotate_left
      ·intro w' hSw;have d1 := qf hSw C1.out;have d2 := qf hSw C2.out;go_simp;try rfl
      simp only [xS];refine xT 8 rfl ?_ ?_ ?_;rotate_left
      ·intro w' hSw;have d1 := qf hSw C1.out;have d2 := qf hSw C2.out;go_simp;try rfl
      simp only [xS];refine xT 9 rfl ?_ ?_ ?_;rotate_left
      ·intro w' hSw;have d1 := qf hSw C1.out;have d2 := qf hSw C2.out;go_simp;try rfl
      simp only [xS];refine xT 10 rfl ?_ ?_ ?_;rotate_left
      ·intro w' hSw;have d1 := qf hSw C1.out;have d2 := qf hSw C2.out;go_simp;try rfl
      simp only [xS];refine xT 11 rfl ?_ ?_ ?_;rotate_left
      ·intro w' hSw;have d1 := qf hSw C1.out;have d2 := qf hSw C2.out;go_simp;try rfl
      simp only [xS];refine xD 12 rfl (fun K hK => ?_);go_simp;have hA : Below w4.heap.size w4 ((wq.alloc (Obj.cells #[Value.int IntKind.i64 x, Value.int IntKind.i64 (y - 1)] 65)).drew) := (h0.alloc h0.size _);refine hK.out _ _ hA (fun hHeld => ?_);clear hK K hA;try simp only [xS]
      refine xD 13 rfl (fun K hK => ?_);refine zK (w := wq.drew) rfl _ _ rfl w4.heap.size _ ([]) rfl HOQ.out x (y - 1) _ rfl rfl rfl (by simp) h0.size ?_;intro va2 wa2 hoa hba;have HOA := xH hoa;have HBA := xH (hba _ _ h0 (xL _));clear hoa hba;refine hK.out _ _ HBA.out (fun hHeld => ?_);clear hK K;try simp only [xS]
      refine xT 14 rfl ?_ ?_ ?_;rotate_left
      ·intro w' hSw;go_simp;try rfl
      simp only [xS];refine wpAnyH_done (by kernel_rfl) ?_ _;go_wp2_with fail
      go_roundw
      case rel => exact ⟨k + 1, [] ++ [(x, y - 1)], Or.inl hlt, by go_num, HOA.out, HJ1.out, HBA.out⟩
      case measure => simp [intOf]; omega
     ·subst hO;rw [List.concat_eq_append] at *;obtain ⟨g, cw, hv, hg1, hg3, hg4, hcw⟩ := ownR_slice HO.out (by simp);have hce := hcw W0.length (by simp);have hlen : (W0 ++ [(p, r)]).length = W0.length + 1 := by simp
      have hr := HJ.out.1.2 (p, r) (by simp);have HLn := xH (show (W0 ++ [(p, r)]).length ≤ 100000000 by have := HJ.out.2.2; omega);rw [hlen] at hv hg3;simp only [List.getElem_concat_length] at hce;obtain ⟨hce1, hce2⟩ := hce;obtain ⟨hr0, hr1, hr2⟩ := hr;simp only at hr0 hr1 hr2;obtain ⟨m, hm⟩ : ∃ m, W0.length = m := ⟨_, rfl⟩;have HMm := xH hm;rw [hm] at hv hg3 hce1 hce2;subst hv;have hix : (m : Int) < (m : Int) + 1 := by omega
      have hwr : IntKind.i64.wrap (r + 1) = r + 1 := IntWalk.i64_in _ (by omega);clear hcw hlen hm;by_cases hj : r + 1 = x
      ·have HJ1 := xH (HO3.out hq W0 p r rfl hj);go_wp2_with fail
       go_quiet (fail)
       generalize hwq : World.drewN _ _ = wq;obtain ⟨h0, hoq, hc2, hd1, hd2⟩ : Below w4.heap.size w4 wq ∧ OwnR wq w4.heap.size (.slice (some ⟨g, 0, none⟩) (m + 1) cw) (W0 ++ [(p, r)]) ∧ wq.cell? ⟨b, k + 1, none⟩ = some (.int .i64 y) ∧ wq.cell? ⟨g, m * 2, none⟩ = some (.int .i64 p) ∧ wq.cell? ⟨g, m * 2 + 1, none⟩ = some (.int .i64 r) := by rw [← hwq];exact ⟨below_draws HB.out _, HO.out, c2, hce1, hce2⟩
       clear hwq;obtain ⟨hn1, hn2, hn3⟩ := ownR_last (z := y - 1) HMm.out hoq;have HN := xH hn1;have HNB := xH (hn3 _ _ h0 (xL _));clear hn1 hn3 hoq h0;go_wp2_with fail
       go_roundw
       case rel => exact ⟨k + 1, W0 ++ [(p, y - 1)], Or.inl hlt, by go_num, HN.out, HJ1.out, HNB.out⟩
       case measure => simp [intOf]; omega
      ·have HJ1 := xH (HO2.out hq (fun W1 r1 h => by obtain ⟨_, h2⟩ := List.append_inj' h rfl;obtain rfl := (List.cons.inj h2).1;exact hj))
       have hjb : (r + 1 == x) = false := by simp [hj]
       go_wp2_with fail
       go_quiet (fail)
       go_wp2_with fail
       generalize hwq : World.drewN _ _ = wq;obtain ⟨h0, hoq⟩ : Below w4.heap.size w4 wq.drew ∧ OwnR wq.drew w4.heap.size (.slice (some ⟨g, 0, none⟩) (m + 1) cw) ((W0 ++ [(p, r)])) := by rw [← hwq];exact ⟨(below_draws HB.out _).drew, HO.out⟩
       clear hwq;have HOQ := xH hoq;clear hoq;refine wp_region_held_drew (S := fun w' => Below w4.heap.size w4 w') (by kernel_rfl) h0 (fun hHeld => ?_);refine xT 0 rfl ?_ ?_ ?_;rotate_left
       ·intro w' hSw;have d1 := qf hSw C1.out;have d2 := qf hSw C2.out;go_simp;try rfl
       simp only [xS];refine xT 1 rfl ?_ ?_ ?_;rotate_left
       ·intro w' hSw;have d1 := qf hSw C1.out;have d2 := qf hSw C2.out;go_simp;try rfl
       simp only [xS];refine xT 2 rfl ?_ ?_ ?_;rotate_left
       ·intro w' hSw;have d1 := qf hSw C1.out;have d2 := qf hSw C2.out;go_simp;try rfl
       simp only [xS];refine xT 3 rfl ?_ ?_ ?_;rotate_left
       ·intro w' hSw;have d1 := qf hSw C1.out;have d2 := qf hSw C2.out;go_simp;try rfl
       simp only [xS];refine xT 4 rfl ?_ ?_ ?_;rotate_left
       ·intro w' hSw;have d1 := qf hSw C1.out;have d2 := qf hSw C2.out;go_simp;try rfl
       simp only [xS];refine xT 5 rfl ?_ ?_ ?_;rotate_left
       ·intro w' hSw;have d1 := qf hSw C1.out;have d2 := qf hSw C2.out;go_simp;try rfl
       simp only [xS];refine xT 6 rfl ?_ ?_ ?_;rotate_left
       ·intro w' hSw;have d1 := qf hSw C1.out;have d2 := qf hSw C2.out;go_simp;try rfl
       simp only [xS];refine xT 7 rfl ?_ ?_ ?_;rotate_left
       ·intro w' hSw;have d1 := qf hSw C1.out;have d2 := qf hSw C2.out;go_simp;try rfl
       simp only [xS];refine xT 8 rfl ?_ ?_ ?_;rotate_left
       ·intro w' hSw;have d1 := qf hSw C1.out;have d2 := qf hSw C2.out;go_simp;try rfl
       simp only [xS];refine xT 9 rfl ?_ ?_ ?_;rotate_left
       ·intro w' hSw;have d1 := qf hSw C1.out;have d2 := qf hSw C2.out;go_simp;try rfl
       simp only [xS];refine xT 10 rfl ?_ ?_ ?_;rotate_left
       ·intro w' hSw;have d1 := qf hSw C1.out;have d2 := qf hSw C2.out;go_simp;try rfl
       simp only [xS];refine xT 11 rfl ?_ ?_ ?_;rotate_left
       ·intro w' hSw;have d1 := qf hSw C1.out;have d2 := qf hSw C2.out;go_simp;try rfl
       simp only [xS];refine xD 12 rfl (fun K hK => ?_);go_simp;have hA : Below w4.heap.size w4 ((wq.alloc (Obj.cells #[Value.int IntKind.i64 x, Value.int IntKind.i64 (y - 1)] 65)).drew) := (h0.alloc h0.size _);refine hK.out _ _ hA (fun hHeld => ?_);clear hK K hA;try simp only [xS]
       refine xD 13 rfl (fun K hK => ?_);refine zK (w := wq.drew) rfl _ _ rfl w4.heap.size _ ((W0 ++ [(p, r)])) rfl HOQ.out x (y - 1) _ rfl rfl rfl (HLn.out) h0.size ?_;intro va2 wa2 hoa hba;have HOA := xH hoa;have HBA := xH (hba _ _ h0 (xL _));clear hoa hba;refine hK.out _ _ HBA.out (fun hHeld => ?_);clear hK K;try simp only [xS]
       refine xT 14 rfl ?_ ?_ ?_;rotate_left
       ·intro w' hSw;go_simp;try rfl
       simp only [xS];refine wpAnyH_done (by kernel_rfl) ?_ _;go_wp2_with fail
       go_roundw
       case rel => exact ⟨k + 1, (W0 ++ [(p, r)]) ++ [(x, y - 1)], Or.inl hlt, by go_num, HOA.out, HJ1.out, HBA.out⟩
       case measure => simp [intOf]; omega
  ·go_wp2_with fail
   go_ret
   have he := ji_end HD.out HJ.out HK.out hlt;exact ⟨_, O, rfl, he.1, he.2, ownR_mono HO.out HB4.out.size, HBw.out⟩
end setw
end
section
namespace ucdw
open sq
open Go Go.RowKit bulk ucdp
def refC (r : Int × Int × Nat × Nat × Int) : List Value := [.int .i64 r.1, .int .i64 r.2.1, .string (catB r.2.2.1), .string (scrB r.2.2.2.1), .int .i64 r.2.2.2.2]
def refCs (l : List (Int × Int × Nat × Nat × Int)) : List Value := l.flatMap refC
def RowsNew (l : List (Int × Int × Nat × Nat × Int)) (w : World) (e : Ending) (w' : World) : Prop := e = .returned (.slice (some ⟨w.heap.size, 0, none⟩) l.length l.length) ∧ w' = w.alloc (.cells (refCs l).toArray 137)
theorem low_any (w : World) : Calls Try.prog 89 #[] w (RowsNew low w) := by
 go_enter Try.func89, Try.ntmps89;go_upto_region 1 with (fail)
 refine wp_region_list ?_;refine wpList_bulk_x 30 (w.alloc (.cells (refCs low).toArray 137)) (by kernel_rfl) ?_;generalize hA : acts _ _ _ _ = A;have e1 : A.eval (.tmp 30) = .slice (some ⟨w.heap.size, 0, none⟩) 29 29 := by rw [← hA]; kernel_rfl
 have ez : A.tmps.size = 31 := by rw [← hA]; kernel_rfl
 have ed : A.defers = [] := by rw [← hA]; kernel_rfl
 clear hA;show wpList _ _ _ [_] _ _;refine wpList_value rfl (run_assign rfl e1) ?_;have e0 := eval_put_same (a := A) (d := 0) (v := .slice (some ⟨w.heap.size, 0, none⟩) 29 29) (by omega);have ed2 : (A.put (some 0) (.slice (some ⟨w.heap.size, 0, none⟩) 29 29)).defers = [] := ed;generalize A.put (some 0) (.slice (some ⟨w.heap.size, 0, none⟩) 29 29) = B at *;refine wpList_nil ?_
 go_step
 go_step
 go_step
 refine xB (results_tmp rfl _ _ _) ed2 ⟨?_, rfl⟩;rw [getD_of_eval e0];rfl
theorem high_any (w : World) : Calls Try.prog 90 #[] w (RowsNew high w) := by
 go_enter Try.func90, Try.ntmps90;go_upto_region 1 with (fail)
 refine wp_region_list ?_;refine wpList_bulk_x 53 (w.alloc (.cells (refCs high).toArray 137)) (by kernel_rfl) ?_;generalize hA : acts _ _ _ _ = A;have e1 : A.eval (.tmp 53) = .slice (some ⟨w.heap.size, 0, none⟩) 52 52 := by rw [← hA]; kernel_rfl
 have ez : A.tmps.size = 54 := by rw [← hA]; kernel_rfl
 have ed : A.defers = [] := by rw [← hA]; kernel_rfl
 clear hA;show wpList _ _ _ [_] _ _;refine wpList_value rfl (run_assign rfl e1) ?_;have e0 := eval_put_same (a := A) (d := 0) (v := .slice (some ⟨w.heap.size, 0, none⟩) 52 52) (by omega);have ed2 : (A.put (some 0) (.slice (some ⟨w.heap.size, 0, none⟩) 52 52)).defers = [] := ed;generalize A.put (some 0) (.slice (some ⟨w.heap.size, 0, none⟩) 52 52) = B at *;refine wpList_nil ?_
 go_step
 go_step
 go_step
 refine xB (results_tmp rfl _ _ _) ed2 ⟨?_, rfl⟩;rw [getD_of_eval e0];rfl
theorem infoRow : (Try.prog.info? 137).map (fun i => (i.zero, i.size, i.bytes)) = some (some (.agg #[.int .i64 0, .int .i64 0, .string ⟨#[]⟩, .string ⟨#[]⟩, .int .i64 0]), 5, 56) := by kernel_rfl
theorem refCs_len (l : List (Int × Int × Nat × Nat × Int)) : (refCs l).length = l.length * 5 := by
 induction l with
 | nil => rfl
 | cons r l ih =>
  unfold refCs at ih ⊢;rw [List.flatMap_cons, List.length_append, ih];simp [refC]; omega
theorem refCs_one {l : List (Int × Int × Nat × Nat × Int)} {u : Value} (h : u ∈ refCs l) : u.oneCell' = true := by unfold refCs at h;obtain ⟨r, _, hr⟩ := List.mem_flatMap.1 h;simp only [refC, List.mem_cons, List.not_mem_nil, or_false] at hr;rcases hr with rfl | rfl | rfl | rfl | rfl <;> rfl
def OwnR (w : World) (base : Nat) (v : Value) (D : List (Int × Int × Nat × Nat × Int)) : Prop := w.ownsRow base 137 5 v D.length (refCs D)
theorem qm (w : World) (base : Nat) : OwnR w base (.slice none 0 0) [] := World.ownsRow_nil w base _ 5
theorem refCs_app (l l' : List (Int × Int × Nat × Nat × Int)) : refCs (l ++ l') = refCs l ++ refCs l' := by simp [refCs]
theorem wpList_append_r {ops : Array Oper} {rest : List Oper} {o : Oper} {a : Act} {w : World} {Q : Exit → Act → World → Prop} (hgd : o.guard = none) (s x : Operand)
 (ho : o.op = .call { callee := .builtin .append, args := #[s, x], argTypes := #[134, 134] }) (base : Nat) (v : Value) (D N : List (Int × Int × Nat × Nat × Int)) (hs : a.eval s = v) (hown : OwnR w base v D)
 (B n : Nat) (hn : n = N.length) (hx : a.eval x = .slice (some ⟨B, 0, none⟩) n n) (hB : B = w.heap.size) (hlen : D.length ≤ 4000) (hlen2 : N.length ≤ 4000) (hbase : base ≤ w.heap.size)
 (h : ∀ v' w', OwnR w' base v' (D ++ N) → (∀ B w1, Below B w1 w → B ≤ base → Below B w1 w') → wpList Try.prog ops Q rest (a.put o.dst v') w') :
 wpList Try.prog ops Q (o :: rest) a (w.alloc (.cells (refCs N).toArray 137)) := by
 subst hB;subst hn;obtain ⟨i0, hi, hz0, hz1, hz2⟩ := info_parts infoRow;refine wpList_append_own _ hgd s x _ ho base 137 i0 (.agg #[.int .i64 0, .int .i64 0, .string ⟨#[]⟩, .string ⟨#[]⟩, .int .i64 0]) 5 56 Try.underlying134 hi hz0 hz1 hz2 rfl (by decide) v _ _ hs (World.ownsRow.alloc hown _) ⟨w.heap.size, 0, none⟩ N.length N.length (refCs N) hx (refCs_len N) ?_ (fun u hu => refCs_one hu) (by unfold maxLen; omega) (by omega) (by rw [World.size_alloc]; omega) ?_
 ·intro j u hj;have hplain : (⟨w.heap.size, 0, none⟩ : Addr).add j = ⟨w.heap.size, 0 + j, none⟩ := by unfold Addr.add; split <;> simp_all
  rw [hplain, World.cell?_alloc_new];simpa using hj
 ·intro v' w' hown' hgr _;refine h v' w' ?_ (fun B w1 hb hB => (hb.alloc (by have := hb.size; omega) _).grown hgr (by rw [World.size_alloc]; omega) (fun k hk => ?_))
  ·unfold OwnR;rw [refCs_app];simpa using hown'
  ·have := (World.ownsRow.lt hown) k hk;omega
def TabB (w : World) (e : Ending) (w' : World) : Prop := ∃ v, e = .returned v ∧ OwnR w' w.heap.size v rows ∧ Below w.heap.size w w'
theorem table_any (w : World) : Calls Try.prog 86 #[] w (TabB w) := by
 have HL := xH low_any;have HH := xH high_any;have n1 := xH (show 29 = low.length from rfl);have n2 := xH (show 52 = high.length from rfl);have n3 := xH (show low.length ≤ 4000 by decide);have n4 := xH (show high.length ≤ 4000 by decide);go_enter Try.func86, Try.ntmps86;go_wp2_with fail
 refine (HL.out _).mono ?_;rintro e w1 ⟨rfl, rfl⟩;go_wp2_with (at_builtin; refine wpList_append_r rfl _ _ rfl w.heap.size (.slice none 0 0) [] low rfl (qm _ _) _ _ rfl rfl rfl (by simp) n3.out (xL _) ?_; intro va wa hoa hba; have HOa := xH hoa; have hwa := hba _ _ (Below.refl w.heap.size w) (xL _); clear hoa hba)
 refine (HH.out _).mono ?_;rintro e w1 ⟨rfl, rfl⟩;go_wp2_with (at_builtin; refine wpList_append_r rfl _ _ rfl w.heap.size va ([] ++ low) high rfl HOa.out _ _ rfl rfl rfl n3.out n4.out hwa.size ?_; intro vb wb hob hbb; have HOb := xH hob; have hwb := hbb _ _ hwa (xL _); clear hob hbb)
 go_ret
 exact ⟨_, rfl, HOb.out, hwb⟩
def ofP (c : Int) : Int × Int × Nat × Nat × Int := if c < 0 ∨ 1114111 < c then (0, 0, 0, 0, 0) else match rows.find? (inRow c) with
 | some r => r
 | none => (c, c, 20, 3, 0)
theorem of_cls (c : Int) : (ofP c).2.2 = cls c := by
 unfold ofP cls;split
 ·rfl
 ·cases rows.find? (inRow c) <;> rfl
def refV (r : Int × Int × Nat × Nat × Int) : Value := .agg #[.int .i64 r.1, .int .i64 r.2.1, .string (catB r.2.2.1), .string (scrB r.2.2.2.1), .int .i64 r.2.2.2.2]
def RefB (r : Int × Int × Nat × Nat × Int) (w : World) (e : Ending) (w' : World) : Prop := e = .returned (refV r) ∧ Below w.heap.size w w'
def rk (k : Nat) : Int × Int × Nat × Nat × Int := rows.getD k (0, 0, 0, 0, 0)
theorem refCs_at {l : List (Int × Int × Nat × Nat × Int)} {k f : Nat} (hk : k < l.length) (hf : f < 5) : (refCs l)[k * 5 + f]? = (refC (l.getD k (0, 0, 0, 0, 0)))[f]? := by
 induction l generalizing k with
 | nil => simp at hk
 | cons r l ih =>
  have hlen : (refC r).length = 5 := rfl;unfold refCs;rw [List.flatMap_cons];cases k with
  | zero =>
   rw [List.getElem?_append_left (by omega)];simp
  | succ k =>
   rw [List.getElem?_append_right (by omega), hlen, show (k + 1) * 5 + f - 5 = k * 5 + f by omega];exact ih (by simpa using hk)
theorem ownR_open {w : World} {base : Nat} {v : Value} (h : OwnR w base v rows) : ∃ g cap : Nat, v = .slice (some ⟨g, 0, none⟩) 81 cap ∧ base ≤ g ∧ g < w.heap.size ∧ 81 ≤ cap ∧ cap ≤ 9223372036854775807 ∧ ∀ k f, k < 81 → f < 5 → w.cell? ⟨g, k * 5 + f, none⟩ = (refC (rk k))[f]? := by
 have h' := h;obtain ⟨_, h2⟩ := h;rcases h2 with ⟨_, hn⟩ | ⟨g, cap, cur, hv, hg, hh, hnc, hcm, hcs, ht⟩
 ·exact absurd hn (by decide)
 ·unfold maxLen at hcm;have hlt : g < w.heap.size := by
   rcases Nat.lt_or_ge g w.heap.size with h | h
   ·exact h
   ·rw [Array.getElem?_eq_none h] at hh; cases hh
  refine ⟨g, cap, hv, hg, hlt, hnc, by omega, fun k f hk hf => ?_⟩;unfold OwnR at h';rw [hv] at h';have hL : (refCs rows).length = 405 := by rw [refCs_len]; rfl
  rw [h'.cellAt (k * 5 + f) (by omega)];exact refCs_at (l := rows) (k := k) (f := f) hk hf
theorem of_out {c : Int} (h : c < 0 ∨ 1114111 < c) : ofP c = (0, 0, 0, 0, 0) := by unfold ofP; rw [if_pos h]
theorem of_in {c : Int} {k : Nat} (h1 : 0 ≤ c) (h2 : c ≤ 1114111) (hk : k < 81) (hb : ∀ j, j < k → inRow c (rk j) = false) (hi : inRow c (rk k) = true) : ofP c = rk k := by
 unfold ofP;rw [if_neg (by omega)];have : rows.find? (inRow c) = some (rk k) := by
  have hl : rows.length = 81 := rfl;rw [List.find?_eq_some_iff_getElem];refine ⟨hi, k, by omega, ?_, fun j hj => ?_⟩
  ·unfold rk; simp [List.getD, hl, hk]
  ·have := hb j hj;unfold rk at this;have hj2 : j < rows.length := by omega
   simp only [List.getD, List.getElem?_eq_getElem hj2, Option.getD_some] at this;simp [this]
 rw [this]
theorem of_none {c : Int} (h1 : 0 ≤ c) (h2 : c ≤ 1114111) (hb : ∀ j, j < 81 → inRow c (rk j) = false) : ofP c = (c, c, 20, 3, 0) := by
 unfold ofP;rw [if_neg (by omega)];have : rows.find? (inRow c) = none := by rw [List.find?_eq_none];intro r hr;obtain ⟨j, hj, e⟩ := List.mem_iff_getElem.1 hr;have := hb j hj;unfold rk at this;simp only [List.getD, List.getElem?_eq_getElem hj, Option.getD_some] at this;rw [← e];simp [this]
 rw [this]
theorem of_any (c : Int) (w : World) : Calls Try.prog 87 #[.int .i64 c] w (RefB (ofP c) w) := by
 by_cases h0 : c < 0 ∨ 1114111 < c
 ·have HE := xH (of_out h0);rcases h0 with h0 | h0
  all_goals
   go_enter Try.func87, Try.ntmps87;go_wp2_with fail
   refine xB (v := refV (0, 0, 0, 0, 0)) (by simp [results, Try.results87, go_sem, refV, catB, scrB]) rfl ⟨by rw [HE.out], ?_⟩;exact qg _ _
 ·have h1 : 0 ≤ c := by omega
  have h2 : c ≤ 1114111 := by omega
  have HI := xH (fun k hk hb hi => of_in (c := c) (k := k) h1 h2 hk hb hi);have HN := xH (fun hb => of_none (c := c) h1 h2 hb);have HT := xH table_any;clear h0;go_enter Try.func87, Try.ntmps87;go_wp2_with fail
  refine (HT.out _).mono ?_;rintro e w1 ⟨v, rfl, ho, hb1⟩;obtain ⟨g, cap, rfl, hg, hg2, hcap, hcap2, hcell⟩ := ownR_open ho;have HC := xH hcell;have Hg := xH hg;have c0 := (hb1.cell (p := ⟨w.heap.size, 0, none⟩) (by simp)).trans (show _ = some (.int .i64 0) by simp);have c1 := (hb1.cell (p := ⟨w.heap.size, 1, none⟩) (by simp)).trans (show _ = some (.int .i64 0) by simp);have c2 := (hb1.cell (p := ⟨w.heap.size, 2, none⟩) (by simp)).trans (show _ = some (.string ⟨#[]⟩) by simp);have c3 := (hb1.cell (p := ⟨w.heap.size, 3, none⟩) (by simp)).trans (show _ = some (.string ⟨#[]⟩) by simp);have c4 := (hb1.cell (p := ⟨w.heap.size, 4, none⟩) (by simp)).trans (show _ = some (.int .i64 0) by simp);have f0 := (hb1.frozen (p := ⟨w.heap.size, 0, none⟩) (by simp)).trans (show _ = false by simp);have f1 := (hb1.frozen (p := ⟨w.heap.size, 1, none⟩) (by simp)).trans (show _ = false by simp);have f2 := (hb1.frozen (p := ⟨w.heap.size, 2, none⟩) (by simp)).trans (show _ = false by simp);have f3 := (hb1.frozen (p := ⟨w.heap.size, 3, none⟩) (by simp)).trans (show _ = false by simp);have f4 := (hb1.frozen (p := ⟨w.heap.size, 4, none⟩) (by simp)).trans (show _ = false by simp);have hB := qi (qg w _) hb1;clear hcell ho hb1 hg;go_wp2_with fail
  go_loop [4] (fun i => ∃ k : Nat, k ≤ 81 ∧ i = .int .i64 k ∧ Hid (∀ j, j < k → inRow c (rk j) = false)) (fun i => 81 - (intOf i).toNat)
  case atStart => exact ⟨0, Nat.zero_le _, rfl, xH (fun j h => by omega)⟩
  case round =>
   obtain ⟨k, hk, rfl, HR⟩ := hrel;by_cases hlt : k < 81
   ·have r0 := HC.out k 0 hlt (by decide);have r1 := HC.out k 1 hlt (by decide);have r2 := HC.out k 2 hlt (by decide);have r3 := HC.out k 3 hlt (by decide);have r4 := HC.out k 4 hlt (by decide);have HIk := xH (HI.out k hlt HR.out);have HS := xH (show inRow c (rk k) = false → ∀ j, j < k + 1 → inRow c (rk j) = false by
     intro h j hj;by_cases e : j = k
     ·subst e; exact h
     ·exact HR.out j (by omega))
    have HW := xH (show ∀ r, rk k = r → inRow c r = (decide (r.1 ≤ c) && decide (c ≤ r.2.1)) by intro r hr; rfl);obtain ⟨⟨a, b, x, y, z⟩, hr⟩ : ∃ r, rk k = r := ⟨_, rfl⟩;have HWr := xH (HW.out _ hr);rw [hr] at r0 r1 r2 r3 r4 HIk HS;simp only [refC, List.getElem?_cons_zero, List.getElem?_cons_succ, Nat.add_zero] at r0 r1 r2 r3 r4;clear hr HW;by_cases ha : a ≤ c
    ·by_cases hbc : c ≤ b
     ·have HO := xH (HIk.out (by unfold inRow; simp [ha, hbc]));go_wp2_with fail
      refine xB (v := refV (a, b, x, y, z)) (by simp [results, Try.results87, go_sem, refV, c0, c1, c2, c3, c4]) rfl ⟨by rw [HO.out], ?_⟩;exact ((((hB.setCell (by simp) _).setCell (by simp) _).setCell (by simp) _).setCell (by simp) _).setCell (by simp) _
     ·have HR2 := xH (HS.out (by unfold inRow; simp [hbc]));go_wp2_with fail
      go_round
      case rel => exact ⟨k + 1, by omega, by go_num, HR2⟩
      case measure => simp [intOf]; omega
    ·have HR2 := xH (HS.out (by unfold inRow; simp [ha]));go_wp2_with fail
     go_round
     case rel => exact ⟨k + 1, by omega, by go_num, HR2⟩
     case measure => simp [intOf]; omega
   ·obtain rfl : k = 81 := by omega
    have HO := xH (HN.out HR.out);go_wp2_with fail
    refine xB (v := refV (c, c, 20, 3, 0)) (by simp [results, Try.results87, go_sem, refV, catB, scrB, c0, c1, c2, c3, c4]) rfl ⟨by rw [HO.out], ?_⟩;exact ((((hB.setCell (by simp) _).setCell (by simp) _).setCell (by simp) _).setCell (by simp) _).setCell (by simp) _
theorem of_vals (c : Int) (w : World) : ∃ a b : Int, Calls Try.prog 87 #[.int .i64 c] w fun e w' => e = .returned (.agg #[.int .i64 a, .int .i64 b, .string (catB (cls c).1), .string (scrB (cls c).2.1), .int .i64 (cls c).2.2]) ∧ Below w.heap.size w w' :=
 ⟨(ofP c).1, (ofP c).2.1, by have := of_any c w; rw [← of_cls]; exact this⟩
end ucdw
end
end Go.Proofs.Ytnpcombfgdbhkaa
