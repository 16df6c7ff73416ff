/- T -/
import Derived.BigQuiet
import Derived.Deep.DeepCutAuto
import Derived.Deep.QuietTactic
import Derived.Deep.RegionHeld3
import Derived.IntWalk
import Derived.Maps.AppendAt
import Derived.Test.YtikjhfmmfpeaoaaGreatDoorBFc07
set_option maxHeartbeats 16000000
set_option maxRecDepth 1000000
section
namespace Go.Proofs.YtikjhfmmfpeaoaaGreatDoor.setw
open sq
open Go Go.RowKit bulk ucdp ucdw setp
theorem qB_union (a b : List Rg) (c : Int) : qB 0 a b c = true ↔ Has a c ∨ Has b c := by unfold qB inP;simp [zX]
theorem qB_not (a b : List Rg) (c : Int) : qB 2 a b c = true ↔ ¬ Has a c := by unfold qB inP;rw [← zX];simp
theorem rs_nil (w : World) : RsAt w (.slice none 0 0) [] := ⟨fun r hr => (by cases hr), Or.inl ⟨rfl, none, 0, rfl, by omega⟩⟩
def DocS (q : Int → Prop) (w : World) (e : Ending) (w' : World) : Prop := ∃ v S, e = .returned v ∧ Canon S ∧ (∀ c, Has S c ↔ q c) ∧ OwnR w' w.heap.size v S ∧ Below w.heap.size w w'
end Go.Proofs.YtikjhfmmfpeaoaaGreatDoor.setw
end
section
namespace Go.Proofs.YtikjhfmmfpeaoaaGreatDoor.setw
open sq
open Go Go.RowKit bulk ucdp ucdw setp
theorem join0w_any (v1 v2 : Value) (l1 l2 : List Rg) (most : Int) (w : World) (hv1 : RsAt w v1 l1) (hv2 : RsAt w v2 l2) (hl1 : l1.length ≤ 600000) (hl2 : l2.length ≤ 400000) (h1 : -9223372036854775808 ≤ most) (h2 : most ≤ 9223372036854775807) :
 Calls Tryz.prog 58 #[.int .i64 0, v1, v2, .int .i64 most] w (JoinB 0 l1 l2 (min most 1114111) w) := by
 have HV1 := xH hv1;have HV2 := xH hv2;obtain ⟨a1, q1, rfl⟩ := jg hv1;obtain ⟨a2, q2, rfl⟩ := jg hv2;have HL := xH (show ([] : List Rg).length + l1.length ≤ 100000000 by simp; omega);have HL2 := xH (show ([] ++ l1 : List Rg).length + l2.length ≤ 100000000 by simp; omega);have HL3 := xH (show ([] ++ l1 ++ l2 : List Rg).length ≤ 1000000 by simp; omega);have HL4 := xH hl1;have HL5 := xH hl2;have HM := xH h1;have HM2 := xH h2;clear hv1 hv2 hl1 hl2 h1 h2;go_enter Tryz.func58, Tryz.ntmps58;go_wp2_with (first
  | (at_builtin; refine jb rfl _ _ rfl w.heap.size (.slice none 0 0) [] rfl (qm _ _) _ l1 rfl HV1.out HL.out (Nat.le_refl _) ?_; intro va wa hoa hba; have HOa := xH hoa; have HBa := xH (hba _ _ (Below.refl _ _) (Nat.le_refl _)); clear hoa hba)
  | (at_builtin; refine jb rfl _ _ rfl w.heap.size va ([] ++ l1) rfl HOa.out _ l2 rfl (jl HV2.out HBa.out) HL2.out HBa.out.size ?_; intro vb wb hob hbb; have HOb := xH hob; have HBb := xH (hbb _ _ HBa.out (Nat.le_refl _)); clear hob hbb))
 refine (edges_any vb ([] ++ l1 ++ l2) most wb (vP HOb.out (fun r hr => by rw [List.nil_append] at hr; exact (List.mem_append.1 hr).elim (fun h => HV1.out.1 r h) (fun h => HV2.out.1 r h))) HL3.out HM.out HM2.out).mono ?_;rintro e w4 ⟨ve, E, rfl, hE, hEd, hb4⟩;rw [List.nil_append] at hEd;obtain ⟨ae, qe, rfl⟩ := intsAt_len hE;have HE := xH hE;have HD := xH hEd;have HB4 := xH (HBb.out.trans (hb4.mono HBb.out.size));have hEl : E.length ≤ 3000000 := by
  rcases hEd with ⟨h, _⟩ | ⟨_, h⟩
  ·rw [h]; simp
  ·have := h.2.2;have := HL4.out;have := HL5.out;simp only [List.length_append] at *;omega
 clear hE hEd hb4;go_wp2_with fail
 go_loopw [11, 12] (fun v i wr => JoRel 0 l1 l2 E w4 v i wr) (fun _ i _ => E.length - (intOf i).toNat)
 case atStart => exact ⟨0, [], Or.inr rfl, rfl, qm _ _, ji_start HD.out, Below.refl _ _⟩
 case round =>
  obtain ⟨k, O, hk, rfl, ho, hJ, hb⟩ := hrel;have HO := xH ho;have HJ := xH hJ;have HB := xH hb;have HK := xH hk;have HBw := xH (HB4.out.trans (hb.mono HB4.out.size));have HF1 := xH (jl HV1.out HBw.out);have HF2 := xH (jl HV2.out HBw.out);have hwk : IntKind.i64.wrap ((k : Int) + 1) = (k : Int) + 1 := IntWalk.i64_in _ (by omega);clear ho hJ hb hk;by_cases hlt : k + 1 < E.length
  ·have hlti : (k : Int) + 1 < (E.length : Int) := by omega
   have hki : (k : Int) < (E.length : Int) := by omega
   have hk0 : (0 : Int) ≤ (k : Int) + 1 := by omega
   rcases HE.out with ⟨h0, _⟩ | ⟨_, b, cap, hve, _, hbb, _, _, hc⟩
   ·rw [h0] at hlt; simp at hlt
   cases hve;have hm : 0 ≤ min most 1114111 := by
    rcases HD.out with ⟨h, _⟩ | ⟨h, _⟩
    ·rw [h] at hlt; simp at hlt
    ·exact h
   have hEP : EP (EQ (l1 ++ l2) (min most 1114111)) (2 * (l1 ++ l2).length + 2) E := by
    rcases HD.out with ⟨h, _⟩ | ⟨_, h⟩
    ·rw [h] at hlt; simp at hlt
    ·exact h
   have c01 := hc k (by omega);have c02 := hc (k + 1) hlt;rw [show E.getD k 0 = E[k] by simp [List.getD, show k < E.length by omega]] at c01;rw [show E.getD (k + 1) 0 = E[k + 1] by simp [List.getD, hlt]] at c02;have c1 := qf HB.out c01;have c2 := qf HB.out c02;have C1 := xH c01;have C2 := xH c02;clear c01 c02;have bd1 := yh hm hEP (List.getElem_mem (show k < E.length by omega));have bd2 := yh hm hEP (List.getElem_mem hlt);have HO1 := xH (fun hq => ji_out hm hEP hlt HJ.out hq);have HO2 := xH (fun hq hl => ji_app hm (by omega) hEP hlt HJ.out hq hl);have HO3 := xH (fun (hq : qB 0 l1 l2 E[k] = true) (W0 : List Rg) (p r : Int) (h : O = W0 ++ [(p, r)]) (hr : r + 1 = E[k]) => ji_mrg hm (by omega) hEP hlt HJ.out hq h hr);have HI1 := xH (rin_any _ l1 E[k] wr HF1.out (by have := HL4.out; omega));have HI2 := xH (rin_any _ l2 E[k] wr HF2.out (by have := HL5.out; omega));have hE1 : E[k] ≤ 1114112 := by omega
   have hE2 : E[k + 1] ≤ 1114112 := by omega
   have hE3 : 0 ≤ E[k] := bd1.1;have hE4 : 0 ≤ E[k + 1] := bd2.1;clear hc bd1 bd2 hm hEP;unfold qB at HO1 HO2 HO3;generalize E[k] = x at *;generalize E[k + 1] = y at *;generalize hasB l1 x = p1 at *;generalize hasB l2 x = p2 at *;have hwy : IntKind.i64.wrap (y - 1) = y - 1 := IntWalk.i64_in _ (by omega);go_wp2_with fail
   refine HI1.out.mono ?_;rintro e wr ⟨rfl, rfl⟩;go_wp2_with fail
   refine HI2.out.mono ?_;rintro e wr ⟨rfl, rfl⟩;go_upto_region 11 with (fail)
   go_cut [15] from 25 to 103 (fun c wx => c = .bool (inP 0 p1 p2) ∧ wx = wr)
   case first =>
    cases p1 <;> cases p2 <;> (go_wp2_with fail; go_meet; exact ⟨rfl, rfl⟩)
   case rest =>
    obtain ⟨rfl, rfl⟩ := hcut;cases hq : inP 0 p1 p2
    ·have HJ1 := xH (HO1.out hq);go_wp2_with fail
     go_roundw
     case rel => exact ⟨k + 1, O, Or.inl hlt, by go_num, HO.out, HJ1.out, HB.out⟩
     case measure => simp [intOf]; omega
    ·rcases List.eq_nil_or_concat O with hO | ⟨W0, ⟨p, r⟩, hO⟩
     ·subst hO;obtain rfl := HO.out.2 rfl;have HJ1 := xH (HO2.out hq (fun W0 r h => by have := congrArg List.length h; simp at this));go_wp2_with fail
      go_quiet (fail)
      go_wp2_with fail
      generalize hwq : World.drewN _ _ = wq;obtain ⟨h0, hoq⟩ : Below w4.heap.size w4 wq.drew ∧ OwnR wq.drew w4.heap.size (.slice none 0 0) ([]) := by rw [← hwq];exact ⟨(below_draws HB.out _).drew, HO.out⟩
      clear hwq;have HOQ := xH hoq;clear hoq;refine wp_region_held_drew (S := fun w' => Below w4.heap.size w4 w') (by kernel_rfl) h0 (fun hHeld => ?_);refine xT 0 rfl ?_ ?_ ?_;rotate_left
      ·intro w' hSw;have d1 := qf hSw C1.out;have d2 := qf hSw C2.out;go_simp;try rfl
      simp only [xS];refine xT 1 rfl ?_ ?_ ?_;rotate_left
      ·intro w' hSw;have d1 := qf hSw C1.out;have d2 := qf hSw C2.out;go_simp;try rfl
      simp only [xS];refine xT 2 rfl ?_ ?_ ?_;rotate_left
      ·intro w' hSw;have d1 := qf hSw C1.out;have d2 := qf hSw C2.out;go_simp;try rfl
      simp only [xS];refine xT 3 rfl ?_ ?_ ?_;rotate_left
      ·intro w' hSw;have d1 := qf hSw C1.out;have d2 := qf hSw C2.out;go_simp;try rfl
      simp only [xS];refine xT 4 rfl ?_ ?_ ?_;rotate_left
      ·intro w' hSw;have d1 := qf hSw C1.out;have d2 := qf hSw C2.out;go_simp;try rfl
      simp only [xS];refine xT 5 rfl ?_ ?_ ?_;rotate_left
      ·intro w' hSw;have d1 := qf hSw C1.out;have d2 := qf hSw C2.out;go_simp;try rfl
      simp only [xS];refine xT 6 rfl ?_ ?_ ?_;rotate_left
      ·intro w' hSw;have d1 := qf hSw C1.out;have d2 := qf hSw C2.out;go_simp;try rfl
      simp only [xS];refine xT 7 rfl ?_ ?_ ?_;rotate_left
      ·intro w' hSw;have d1 := qf hSw C1.out;have d2 := qf hSw C2.out;go_simp;try rfl
      simp only [xS];refine xT 8 rfl ?_ ?_ ?_;rotate_left
      ·intro w' hSw;have d1 := qf hSw C1.out;have d2 := qf hSw C2.out;go_simp;try rfl
      simp only [xS];refine xT 9 rfl ?_ ?_ ?_;rotate_left
      ·intro w' hSw;have d1 := qf hSw C1.out;have d2 := qf hSw C2.out;go_simp;try rfl
      simp only [xS];refine xT 10 rfl ?_ ?_ ?_;rotate_left
      ·intro w' hSw;have d1 := qf hSw C1.out;have d2 := qf hSw C2.out;go_simp;try rfl
      simp only [xS];refine xT 11 rfl ?_ ?_ ?_;rotate_left
      ·intro w' hSw;have d1 := qf hSw C1.out;have d2 := qf hSw C2.out;go_simp;try rfl
      simp only [xS];refine xD 12 rfl (fun K hK => ?_);go_simp;have hA : Below w4.heap.size w4 ((wq.alloc (Obj.cells #[Value.int IntKind.i64 x, Value.int IntKind.i64 (y - 1)] 57)).drew) := (h0.alloc h0.size _);refine hK.out _ _ hA (fun hHeld => ?_);clear hK K hA;try simp only [xS]
      refine xD 13 rfl (fun K hK => ?_);refine zK (w := wq.drew) rfl _ _ rfl w4.heap.size _ ([]) rfl HOQ.out x (y - 1) _ rfl rfl rfl (by simp) h0.size ?_;intro va2 wa2 hoa hba;have HOA := xH hoa;have HBA := xH (hba _ _ h0 (Nat.le_refl _));clear hoa hba;refine hK.out _ _ HBA.out (fun hHeld => ?_);clear hK K;try simp only [xS]
      refine xT 14 rfl ?_ ?_ ?_;rotate_left
      ·intro w' hSw;go_simp;try rfl
      simp only [xS];refine wpAnyH_done (by kernel_rfl) ?_ _;go_wp2_with fail
      go_roundw
      case rel => exact ⟨k + 1, [] ++ [(x, y - 1)], Or.inl hlt, by go_num, HOA.out, HJ1.out, HBA.out⟩
      case measure => simp [intOf]; omega
     ·subst hO;rw [List.concat_eq_append] at *;obtain ⟨g, cw, hv, hg1, hg3, hg4, hcw⟩ := ownR_slice HO.out (by simp);have hce := hcw W0.length (by simp);have hlen : (W0 ++ [(p, r)]).length = W0.length + 1 := by simp
      have hr := HJ.out.1.2 (p, r) (by simp);have HLn := xH (show (W0 ++ [(p, r)]).length ≤ 100000000 by have := HJ.out.2.2; omega);rw [hlen] at hv hg3;simp only [List.getElem_concat_length] at hce;obtain ⟨hce1, hce2⟩ := hce;obtain ⟨hr0, hr1, hr2⟩ := hr;simp only at hr0 hr1 hr2;obtain ⟨m, hm⟩ : ∃ m, W0.length = m := ⟨_, rfl⟩;have HMm := xH hm;rw [hm] at hv hg3 hce1 hce2;subst hv;have hix : (m : Int) < (m : Int) + 1 := by omega
      have hwr : IntKind.i64.wrap (r + 1) = r + 1 := IntWalk.i64_in _ (by omega);clear hcw hlen hm;by_cases hj : r + 1 = x
      ·have HJ1 := xH (HO3.out hq W0 p r rfl hj);go_wp2_with fail
       go_quiet (fail)
       generalize hwq : World.drewN _ _ = wq;obtain ⟨h0, hoq, hc2, hd1, hd2⟩ : Below w4.heap.size w4 wq ∧ OwnR wq w4.heap.size (.slice (some ⟨g, 0, none⟩) (m + 1) cw) (W0 ++ [(p, r)]) ∧ wq.cell? ⟨b, k + 1, none⟩ = some (.int .i64 y) ∧ wq.cell? ⟨g, m * 2, none⟩ = some (.int .i64 p) ∧ wq.cell? ⟨g, m * 2 + 1, none⟩ = some (.int .i64 r) := by rw [← hwq];exact ⟨below_draws HB.out _, HO.out, c2, hce1, hce2⟩
       clear hwq;obtain ⟨hn1, hn2, hn3⟩ := ownR_last (z := y - 1) HMm.out hoq;have HN := xH hn1;have HNB := xH (hn3 _ _ h0 (Nat.le_refl _));clear hn1 hn3 hoq h0;go_wp2_with fail
       go_roundw
       case rel => exact ⟨k + 1, W0 ++ [(p, y - 1)], Or.inl hlt, by go_num, HN.out, HJ1.out, HNB.out⟩
       case measure => simp [intOf]; omega
      ·have HJ1 := xH (HO2.out hq (fun W1 r1 h => by obtain ⟨_, h2⟩ := List.append_inj' h rfl;obtain rfl := (List.cons.inj h2).1;exact hj))
       have hjb : (r + 1 == x) = false := by simp [hj]
       go_wp2_with fail
       go_quiet (fail)
       go_wp2_with fail
       generalize hwq : World.drewN _ _ = wq;obtain ⟨h0, hoq⟩ : Below w4.heap.size w4 wq.drew ∧ OwnR wq.drew w4.heap.size (.slice (some ⟨g, 0, none⟩) (m + 1) cw) ((W0 ++ [(p, r)])) := by rw [← hwq];exact ⟨(below_draws HB.out _).drew, HO.out⟩
       clear hwq;have HOQ := xH hoq;clear hoq;refine wp_region_held_drew (S := fun w' => Below w4.heap.size w4 w') (by kernel_rfl) h0 (fun hHeld => ?_);refine xT 0 rfl ?_ ?_ ?_;rotate_left
       ·intro w' hSw;have d1 := qf hSw C1.out;have d2 := qf hSw C2.out;go_simp;try rfl
       simp only [xS];refine xT 1 rfl ?_ ?_ ?_;rotate_left
       ·intro w' hSw;have d1 := qf hSw C1.out;have d2 := qf hSw C2.out;go_simp;try rfl
       simp only [xS];refine xT 2 rfl ?_ ?_ ?_;rotate_left
       ·intro w' hSw;have d1 := qf hSw C1.out;have d2 := qf hSw C2.out;go_simp;try rfl
       simp only [xS];refine xT 3 rfl ?_ ?_ ?_;rotate_left
       ·intro w' hSw;have d1 := qf hSw C1.out;have d2 := qf hSw C2.out;go_simp;try rfl
       simp only [xS];refine xT 4 rfl ?_ ?_ ?_;rotate_left
       ·intro w' hSw;have d1 := qf hSw C1.out;have d2 := qf hSw C2.out;go_simp;try rfl
       simp only [xS];refine xT 5 rfl ?_ ?_ ?_;rotate_left
       ·intro w' hSw;have d1 := qf hSw C1.out;have d2 := qf hSw C2.out;go_simp;try rfl
       simp only [xS];refine xT 6 rfl ?_ ?_ ?_;rotate_left
       ·intro w' hSw;have d1 := qf hSw C1.out;have d2 := qf hSw C2.out;go_simp;try rfl
       simp only [xS];refine xT 7 rfl ?_ ?_ ?_;rotate_left
       ·intro w' hSw;have d1 := qf hSw C1.out;have d2 := qf hSw C2.out;go_simp;try rfl
       simp only [xS];refine xT 8 rfl ?_ ?_ ?_;rotate_left
       ·intro w' hSw;have d1 := qf hSw C1.out;have d2 := qf hSw C2.out;go_simp;try rfl
       simp only [xS];refine xT 9 rfl ?_ ?_ ?_;rotate_left
       ·intro w' hSw;have d1 := qf hSw C1.out;have d2 := qf hSw C2.out;go_simp;try rfl
       simp only [xS];refine xT 10 rfl ?_ ?_ ?_;rotate_left
       ·intro w' hSw;have d1 := qf hSw C1.out;have d2 := qf hSw C2.out;go_simp;try rfl
       simp only [xS];refine xT 11 rfl ?_ ?_ ?_;rotate_left
       ·intro w' hSw;have d1 := qf hSw C1.out;have d2 := qf hSw C2.out;go_simp;try rfl
       simp only [xS];refine xD 12 rfl (fun K hK => ?_);go_simp;have hA : Below w4.heap.size w4 ((wq.alloc (Obj.cells #[Value.int IntKind.i64 x, Value.int IntKind.i64 (y - 1)] 57)).drew) := (h0.alloc h0.size _);refine hK.out _ _ hA (fun hHeld => ?_);clear hK K hA;try simp only [xS]
       refine xD 13 rfl (fun K hK => ?_);refine zK (w := wq.drew) rfl _ _ rfl w4.heap.size _ ((W0 ++ [(p, r)])) rfl HOQ.out x (y - 1) _ rfl rfl rfl (HLn.out) h0.size ?_;intro va2 wa2 hoa hba;have HOA := xH hoa;have HBA := xH (hba _ _ h0 (Nat.le_refl _));clear hoa hba;refine hK.out _ _ HBA.out (fun hHeld => ?_);clear hK K;try simp only [xS]
       refine xT 14 rfl ?_ ?_ ?_;rotate_left
       ·intro w' hSw;go_simp;try rfl
       simp only [xS];refine wpAnyH_done (by kernel_rfl) ?_ _;go_wp2_with fail
       go_roundw
       case rel => exact ⟨k + 1, (W0 ++ [(p, r)]) ++ [(x, y - 1)], Or.inl hlt, by go_num, HOA.out, HJ1.out, HBA.out⟩
       case measure => simp [intOf]; omega
  ·go_wp2_with fail
   go_ret
   have he := ji_end HD.out HJ.out HK.out hlt;exact ⟨_, O, rfl, he.1, he.2, ownR_mono HO.out HB4.out.size, HBw.out⟩
end Go.Proofs.YtikjhfmmfpeaoaaGreatDoor.setw
end
section
namespace Go.Proofs.YtikjhfmmfpeaoaaGreatDoor.ucdw
open sq
open Go Go.RowKit bulk ucdp
def refC (r : Int × Int × Nat × Nat × Int) : List Value := [.int .i64 r.1, .int .i64 r.2.1, .string (catB r.2.2.1), .string (scrB r.2.2.2.1), .int .i64 r.2.2.2.2]
def refCs (l : List (Int × Int × Nat × Nat × Int)) : List Value := l.flatMap refC
def RowsNew (l : List (Int × Int × Nat × Nat × Int)) (w : World) (e : Ending) (w' : World) : Prop := e = .returned (.slice (some ⟨w.heap.size, 0, none⟩) l.length l.length) ∧ w' = w.alloc (.cells (refCs l).toArray 104)
theorem low_any (w : World) : Calls Tryz.prog 100 #[] w (RowsNew low w) := by
 go_enter Tryz.func100, Tryz.ntmps100;go_upto_region 1 with (fail)
 refine wp_region_list ?_;refine wpList_bulk_x 30 (w.alloc (.cells (refCs low).toArray 104)) (by kernel_rfl) ?_;generalize hA : acts _ _ _ _ = A;have e1 : A.eval (.tmp 30) = .slice (some ⟨w.heap.size, 0, none⟩) 29 29 := by rw [← hA]; kernel_rfl
 have ez : A.tmps.size = 31 := by rw [← hA]; kernel_rfl
 have ed : A.defers = [] := by rw [← hA]; kernel_rfl
 clear hA;show wpList _ _ _ [_] _ _;refine wpList_value rfl (run_assign rfl e1) ?_;have e0 := eval_put_same (a := A) (d := 0) (v := .slice (some ⟨w.heap.size, 0, none⟩) 29 29) (by omega);have ed2 : (A.put (some 0) (.slice (some ⟨w.heap.size, 0, none⟩) 29 29)).defers = [] := ed;generalize A.put (some 0) (.slice (some ⟨w.heap.size, 0, none⟩) 29 29) = B at *;refine wpList_nil ?_
 go_step
 go_step
 go_step
 refine bodyPost_ret (results_tmp rfl _ _ _) ed2 ⟨?_, rfl⟩;rw [getD_of_eval e0];rfl
theorem high_any (w : World) : Calls Tryz.prog 101 #[] w (RowsNew high w) := by
 go_enter Tryz.func101, Tryz.ntmps101;go_upto_region 1 with (fail)
 refine wp_region_list ?_;refine wpList_bulk_x 53 (w.alloc (.cells (refCs high).toArray 104)) (by kernel_rfl) ?_;generalize hA : acts _ _ _ _ = A;have e1 : A.eval (.tmp 53) = .slice (some ⟨w.heap.size, 0, none⟩) 52 52 := by rw [← hA]; kernel_rfl
 have ez : A.tmps.size = 54 := by rw [← hA]; kernel_rfl
 have ed : A.defers = [] := by rw [← hA]; kernel_rfl
 clear hA;show wpList _ _ _ [_] _ _;refine wpList_value rfl (run_assign rfl e1) ?_;have e0 := eval_put_same (a := A) (d := 0) (v := .slice (some ⟨w.heap.size, 0, none⟩) 52 52) (by omega);have ed2 : (A.put (some 0) (.slice (some ⟨w.heap.size, 0, none⟩) 52 52)).defers = [] := ed;generalize A.put (some 0) (.slice (some ⟨w.heap.size, 0, none⟩) 52 52) = B at *;refine wpList_nil ?_
 go_step
 go_step
 go_step
 refine bodyPost_ret (results_tmp rfl _ _ _) ed2 ⟨?_, rfl⟩;rw [getD_of_eval e0];rfl
end Go.Proofs.YtikjhfmmfpeaoaaGreatDoor.ucdw
end
section
namespace Go.Proofs.YtikjhfmmfpeaoaaGreatDoor.ucdw
open sq
open Go Go.RowKit bulk ucdp
theorem infoRow : (Tryz.prog.info? 104).map (fun i => (i.zero, i.size, i.bytes)) = some (some (.agg #[.int .i64 0, .int .i64 0, .string ⟨#[]⟩, .string ⟨#[]⟩, .int .i64 0]), 5, 56) := by kernel_rfl
theorem refCs_len (l : List (Int × Int × Nat × Nat × Int)) : (refCs l).length = l.length * 5 := by
 induction l with
 | nil => rfl
 | cons r l ih =>
  unfold refCs at ih ⊢;rw [List.flatMap_cons, List.length_append, ih];simp [refC]; omega
theorem refCs_one {l : List (Int × Int × Nat × Nat × Int)} {u : Value} (h : u ∈ refCs l) : u.oneCell' = true := by unfold refCs at h;obtain ⟨r, _, hr⟩ := List.mem_flatMap.1 h;simp only [refC, List.mem_cons, List.not_mem_nil, or_false] at hr;rcases hr with rfl | rfl | rfl | rfl | rfl <;> rfl
def OwnR (w : World) (base : Nat) (v : Value) (D : List (Int × Int × Nat × Nat × Int)) : Prop := w.ownsRow base 104 5 v D.length (refCs D)
theorem qm (w : World) (base : Nat) : OwnR w base (.slice none 0 0) [] := World.ownsRow_nil w base _ 5
theorem refCs_app (l l' : List (Int × Int × Nat × Nat × Int)) : refCs (l ++ l') = refCs l ++ refCs l' := by simp [refCs]
theorem wpList_append_r {ops : Array Oper} {rest : List Oper} {o : Oper} {a : Act} {w : World} {Q : Exit → Act → World → Prop} (hgd : o.guard = none) (s x : Operand)
 (ho : o.op = .call { callee := .builtin .append, args := #[s, x], argTypes := #[125, 125] }) (base : Nat) (v : Value) (D N : List (Int × Int × Nat × Nat × Int)) (hs : a.eval s = v) (hown : OwnR w base v D)
 (B n : Nat) (hn : n = N.length) (hx : a.eval x = .slice (some ⟨B, 0, none⟩) n n) (hB : B = w.heap.size) (hlen : D.length ≤ 4000) (hlen2 : N.length ≤ 4000) (hbase : base ≤ w.heap.size)
 (h : ∀ v' w', OwnR w' base v' (D ++ N) → (∀ B w1, Below B w1 w → B ≤ base → Below B w1 w') → wpList Tryz.prog ops Q rest (a.put o.dst v') w') :
 wpList Tryz.prog ops Q (o :: rest) a (w.alloc (.cells (refCs N).toArray 104)) := by
 subst hB;subst hn;obtain ⟨i0, hi, hz0, hz1, hz2⟩ := info_parts infoRow;refine wpList_append_own _ hgd s x _ ho base 104 i0 (.agg #[.int .i64 0, .int .i64 0, .string ⟨#[]⟩, .string ⟨#[]⟩, .int .i64 0]) 5 56 Tryz.underlying125 hi hz0 hz1 hz2 rfl (by decide) v _ _ hs (World.ownsRow.alloc hown _) ⟨w.heap.size, 0, none⟩ N.length N.length (refCs N) hx (refCs_len N) ?_ (fun u hu => refCs_one hu) (by unfold maxLen; omega) (by omega) (by rw [World.size_alloc]; omega) ?_
 ·intro j u hj;have hplain : (⟨w.heap.size, 0, none⟩ : Addr).add j = ⟨w.heap.size, 0 + j, none⟩ := by unfold Addr.add; split <;> simp_all
  rw [hplain, World.cell?_alloc_new];simpa using hj
 ·intro v' w' hown' hgr _;refine h v' w' ?_ (fun B w1 hb hB => (hb.alloc (by have := hb.size; omega) _).grown hgr (by rw [World.size_alloc]; omega) (fun k hk => ?_))
  ·unfold OwnR;rw [refCs_app];simpa using hown'
  ·have := (World.ownsRow.lt hown) k hk;omega
def TabB (w : World) (e : Ending) (w' : World) : Prop := ∃ v, e = .returned v ∧ OwnR w' w.heap.size v rows ∧ Below w.heap.size w w'
theorem table_any (w : World) : Calls Tryz.prog 87 #[] w (TabB w) := by
 have HL := xH low_any;have HH := xH high_any;have n1 := xH (show 29 = low.length from rfl);have n2 := xH (show 52 = high.length from rfl);have n3 := xH (show low.length ≤ 4000 by decide);have n4 := xH (show high.length ≤ 4000 by decide);go_enter Tryz.func87, Tryz.ntmps87;go_wp2_with fail
 refine (HL.out _).mono ?_;rintro e w1 ⟨rfl, rfl⟩;go_wp2_with (at_builtin; refine wpList_append_r rfl _ _ rfl w.heap.size (.slice none 0 0) [] low rfl (qm _ _) _ _ rfl rfl rfl (by simp) n3.out (Nat.le_refl _) ?_; intro va wa hoa hba; have HOa := xH hoa; have hwa := hba _ _ (Below.refl w.heap.size w) (Nat.le_refl _); clear hoa hba)
 refine (HH.out _).mono ?_;rintro e w1 ⟨rfl, rfl⟩;go_wp2_with (at_builtin; refine wpList_append_r rfl _ _ rfl w.heap.size va ([] ++ low) high rfl HOa.out _ _ rfl rfl rfl n3.out n4.out hwa.size ?_; intro vb wb hob hbb; have HOb := xH hob; have hwb := hbb _ _ hwa (Nat.le_refl _); clear hob hbb)
 go_ret
 exact ⟨_, rfl, HOb.out, hwb⟩
def rk (k : Nat) : Int × Int × Nat × Nat × Int := rows.getD k (0, 0, 0, 0, 0)
theorem refCs_at {l : List (Int × Int × Nat × Nat × Int)} {k f : Nat} (hk : k < l.length) (hf : f < 5) : (refCs l)[k * 5 + f]? = (refC (l.getD k (0, 0, 0, 0, 0)))[f]? := by
 induction l generalizing k with
 | nil => simp at hk
 | cons r l ih =>
  have hlen : (refC r).length = 5 := rfl;unfold refCs;rw [List.flatMap_cons];cases k with
  | zero =>
   rw [List.getElem?_append_left (by omega)];simp
  | succ k =>
   rw [List.getElem?_append_right (by omega), hlen, show (k + 1) * 5 + f - 5 = k * 5 + f by omega];exact ih (by simpa using hk)
theorem ownR_open {w : World} {base : Nat} {v : Value} (h : OwnR w base v rows) : ∃ g cap : Nat, v = .slice (some ⟨g, 0, none⟩) 81 cap ∧ base ≤ g ∧ g < w.heap.size ∧ 81 ≤ cap ∧ cap ≤ 9223372036854775807 ∧ ∀ k f, k < 81 → f < 5 → w.cell? ⟨g, k * 5 + f, none⟩ = (refC (rk k))[f]? := by
 have h' := h;obtain ⟨_, h2⟩ := h;rcases h2 with ⟨_, hn⟩ | ⟨g, cap, cur, hv, hg, hh, hnc, hcm, hcs, ht⟩
 ·exact absurd hn (by decide)
 ·unfold maxLen at hcm;have hlt : g < w.heap.size := by
   rcases Nat.lt_or_ge g w.heap.size with h | h
   ·exact h
   ·rw [Array.getElem?_eq_none h] at hh; cases hh
  refine ⟨g, cap, hv, hg, hlt, hnc, by omega, fun k f hk hf => ?_⟩;unfold OwnR at h';rw [hv] at h';have hL : (refCs rows).length = 405 := by rw [refCs_len]; rfl
  rw [h'.cellAt (k * 5 + f) (by omega)];exact refCs_at (l := rows) (k := k) (f := f) hk hf
end Go.Proofs.YtikjhfmmfpeaoaaGreatDoor.ucdw
end
section
namespace Go.Proofs.YtikjhfmmfpeaoaaGreatDoor.setw
open sq
open Go Go.RowKit bulk ucdp ucdw setp
def dups (l : List Int) : List Rg := l.map fun x => (x, x)
end Go.Proofs.YtikjhfmmfpeaoaaGreatDoor.setw
end
section
namespace Go.Proofs.YtikjhfmmfpeaoaaGreatDoor.setw
open sq
open Go Go.RowKit bulk ucdp ucdw setp
theorem dups_has (L : List Int) (c : Int) : Has (dups L) c ↔ c ∈ L := by
 unfold dups Has;constructor
 ·rintro ⟨r, hr, a, b⟩;obtain ⟨x, hx, rfl⟩ := List.mem_map.1 hr;have : c = x := by simp only at a b; omega
  rw [this];exact hx
 ·intro h;exact ⟨(c, c), List.mem_map.2 ⟨c, h, rfl⟩, Int.le_refl _, Int.le_refl _⟩
def caseL (l : List Rg) (u : Bool) : Nat → List Rg
 | 0 => l
 | k + 1 => if hasB l k = true then caseL l u k ++ dups (jy k u) else caseL l u k
theorem caseL_succ (l : List Rg) (u : Bool) (k : Nat) : caseL l u (k + 1) = if hasB l k = true then caseL l u k ++ dups (jy k u) else caseL l u k := rfl
theorem caseL_has (l : List Rg) (u : Bool) (c : Int) : ∀ k : Nat, Has (caseL l u k) c ↔ Has l c ∨ ∃ d : Int, 0 ≤ d ∧ d < k ∧ Has l d ∧ c ∈ jy d u
 | 0 => by
  simp only [caseL];constructor
  ·exact Or.inl
  ·rintro (h | ⟨d, h0, h1, _⟩)
   ·exact h
   ·omega
 | k + 1 => by
  have ih := caseL_has l u c k;rw [caseL_succ];by_cases hk : hasB l k = true
  ·rw [if_pos hk, zo, ih, dups_has];constructor
   ·rintro ((h | ⟨d, h0, h1, h2⟩) | h)
    ·exact Or.inl h
    ·exact Or.inr ⟨d, h0, by omega, h2⟩
    ·exact Or.inr ⟨k, by omega, by omega, zX.1 hk, h⟩
   ·rintro (h | ⟨d, h0, h1, h2, h3⟩)
    ·exact Or.inl (Or.inl h)
    ·by_cases hd : d = k
     ·subst hd; exact Or.inr h3
     ·exact Or.inl (Or.inr ⟨d, h0, by omega, h2, h3⟩)
  ·rw [if_neg hk, ih];constructor
   ·rintro (h | ⟨d, h0, h1, h2⟩)
    ·exact Or.inl h
    ·exact Or.inr ⟨d, h0, by omega, h2⟩
   ·rintro (h | ⟨d, h0, h1, h2, h3⟩)
    ·exact Or.inl h
    ·by_cases hd : d = k
     ·subst hd; exact absurd (zX.2 h2) hk
     ·exact Or.inr ⟨d, h0, by omega, h2, h3⟩
def caseM (l : List Rg) (u : Bool) : List Rg := if hasB l 8490 = true then caseL l u 1201 ++ dups (jy 8490 u) else caseL l u 1201
theorem caseM_has {l : List Rg} {u : Bool} (hl : InR l) (c : Int) : (Has (caseM l u) c ∧ 0 ≤ c ∧ c ≤ min 1114111 1114111) ↔ Has l c ∨ ∃ d, Has l d ∧ c ∈ jy d u := by
 have e : Has (caseM l u) c ↔ Has l c ∨ ∃ d, Has l d ∧ c ∈ jy d u := by
  unfold caseM;by_cases hk : hasB l 8490 = true
  ·rw [if_pos hk, zo, caseL_has, dups_has];constructor
   ·rintro ((h | ⟨d, _, _, h2⟩) | h)
    ·exact Or.inl h
    ·exact Or.inr ⟨d, h2⟩
    ·exact Or.inr ⟨8490, zX.1 hk, h⟩
   ·rintro (h | ⟨d, h2, h3⟩)
    ·exact Or.inl (Or.inl h)
    ·rcases others_where (c := d) (u := u) (fun e => by rw [e] at h3; cases h3) with h | h
     ·exact Or.inl (Or.inr ⟨d, h.1, by omega, h2, h3⟩)
     ·subst h; exact Or.inr h3
  ·rw [if_neg hk, caseL_has];constructor
   ·rintro (h | ⟨d, _, _, h2⟩)
    ·exact Or.inl h
    ·exact Or.inr ⟨d, h2⟩
   ·rintro (h | ⟨d, h2, h3⟩)
    ·exact Or.inl h
    ·rcases others_where (c := d) (u := u) (fun e => by rw [e] at h3; cases h3) with h | h
     ·exact Or.inr ⟨d, h.1, by omega, h2, h3⟩
     ·subst h; exact absurd (zX.2 h2) hk
 rw [e];constructor
 ·exact fun h => h.1
 ·intro h;refine ⟨h, ?_⟩;rcases h with h | ⟨d, _, h⟩
  ·have := has_bd hl h; omega
  ·have := others_mem h; omega
theorem zZ (v : Value) (l : List Rg) (most : Int) (w : World) (hv : RsAt w v l) (hl : l.length ≤ 600000) (h1 : -9223372036854775808 ≤ most) (h2 : most ≤ 9223372036854775807) :
 Calls Tryz.prog 34 #[v, .int .i64 most] w (DocS (fun c => Has l c ∧ 0 ≤ c ∧ c ≤ min most 1114111) w) := by
 have HJ := xH (join0w_any v (.slice none 0 0) l [] most w hv (rs_nil w) hl (by simp) h1 h2);clear hv;go_enter Tryz.func34, Tryz.ntmps34;go_wp2_with fail
 refine HJ.out.mono ?_;rintro e w1 ⟨v1, S, rfl, hS, hh, ho, hb⟩;have HS := xH hS;have HH := xH hh;have HO := xH ho;clear hS hh ho;go_wp2_with fail
 go_ret
 refine ⟨_, S, rfl, HS.out, fun c => ?_, HO.out, hb⟩;rw [HH.out, qB_union];constructor
 ·rintro ⟨a, b, c | c⟩
  ·exact ⟨c, a, b⟩
  ·exact absurd c (has_nil _)
 ·rintro ⟨a, b, c⟩;exact ⟨b, c, Or.inl a⟩
end Go.Proofs.YtikjhfmmfpeaoaaGreatDoor.setw
end
section
namespace Go.Proofs.YtikjhfmmfpeaoaaGreatDoor.rtw
open sq
open Go Go.RowKit Go.Maps utfp utfw ucdp setp setw prp tkp rtp
open tkw (sg sg_bd vJ jM qK tkR qO qM vI)
theorem yf {fn : Func} {t u v x : Tmp} (h : fn.results = #[.tmp t, .tmp u, .tmp v, .tmp x]) (tmps : Array Value) (P : Program) (w : World) :
 (results fn tmps).run P w = .ok (.tuple #[tmps.getD t undef, tmps.getD u undef, tmps.getD v undef, tmps.getD x undef]) w := by
 simp [results, h]
theorem qE {fn : Func} {t u v x y : Tmp} (h : fn.results = #[.tmp t, .tmp u, .tmp v, .tmp x, .tmp y]) (tmps : Array Value) (P : Program) (w : World) :
 (results fn tmps).run P w = .ok (.tuple #[tmps.getD t undef, tmps.getD u undef, tmps.getD v undef, tmps.getD x undef, tmps.getD y undef]) w := by
 simp [results, h]
theorem qj {w W : World} {B : Nat} {S : ByteArray} {p : Pt} {v : Value} {r r' : G} (h : FG w B S p W) (hr : r' = r) {k : Nat} (ho : OwnR W k v (gtS r)) (hk : B ≤ k) : GotB w r' (.returned (.agg (gtC v r))) (W.setRow (B + 1) (gtC v r)) := by subst hr;exact fg_end h ho hk
def RgB (w : World) (l : List Rg) (e : Ending) (w' : World) : Prop := ∃ v, e = .returned v ∧ OwnR w' w.heap.size v l ∧ Below w.heap.size w w'
theorem most_min (p : Pt) : min p.most 1114111 = p.most := by have := vH p; omega
theorem cut_any (S : ByteArray) (p : Pt) (w : World) (hP : Pat S p) (v : Value) (l : List Rg) (hv : RsAt w v l) (hl : l.length ≤ 600000) : Calls Tryz.prog 69 #[txV S p, v] w (RgB w (normR p.most l)) := by
 have hn := hP.n;have h2 := hP.le;have HP := xH hP;have HN := xH hn;clear hP;have hm1 := vH p;have hm2 := most_ge p;have HV := xH hv;obtain ⟨y1, y2, rfl⟩ := jg hv;clear hv;unfold txV txC;go_enter Tryz.func69, Tryz.ntmps69;go_upto_region 1 with (fail)
 generalize hW : (w.alloc _) = W;have F0 := xH (zG (S := S) (p := p) hW);obtain ⟨B, hB⟩ : ∃ B, w.heap.size = B := ⟨_, rfl⟩;rw [hB] at F0 ⊢;clear hW hB;obtain ⟨c0, c1, c2, c3⟩ := F0.out.c;have HV1 := xH (jl HV.out F0.out.bel);go_wp2_with fail
 refine Calls.mono (zZ _ l p.most _ HV1.out hl (by omega) (by omega)) ?_;rintro e w1 ⟨v1, Z, rfl, hS, hh, ho, hb⟩;have HO := xO F0.out.x ho;rw [normR_only (l := l) hm1 hS fun c => by rw [hh]; simp only [most_min]] at HO;have F1 := xH (F0.out.step hb);clear hb ho hS hh c0 c1 c2 c3;obtain ⟨a1, a2, rfl⟩ := qN HO.out;go_wp2_with fail
 go_ret
 exact ⟨_, rfl, qM HO.out (Nat.le_of_eq F1.out.hB), F1.out.bel⟩
theorem notL_only {p : Pt} {l S : List Rg} (hS : Canon S) (h : ∀ c, Has S c ↔ 0 ≤ c ∧ c ≤ min p.most 1114111 ∧ qB 2 l [] c = true) : S = notL p l :=
 notR_only (vH p) hS (ja (vH p) l) fun c => by
  rw [h, most_min, qB_not, normR_has (vH p)];constructor
  ·rintro ⟨a, b, d⟩;exact ⟨a, b, fun e => d e.1⟩
  ·rintro ⟨a, b, d⟩;exact ⟨a, b, fun e => d ⟨e, a, b⟩⟩
theorem not_any (S : ByteArray) (p : Pt) (w : World) (hP : Pat S p) (v : Value) (l : List Rg) (hv : RsAt w v l) (hl : l.length ≤ 100000) : Calls Tryz.prog 94 #[txV S p, v] w (RgB w (notL p l)) := by
 have hn := hP.n;have h2 := hP.le;have HP := xH hP;have HN := xH hn;clear hP;have hm1 := vH p;have hm2 := most_ge p;have HV := xH hv;obtain ⟨y1, y2, rfl⟩ := jg hv;clear hv;unfold txV txC;go_enter Tryz.func94, Tryz.ntmps94;go_upto_region 1 with (fail)
 generalize hW : (w.alloc _) = W;have F0 := xH (zG (S := S) (p := p) hW);obtain ⟨B, hB⟩ : ∃ B, w.heap.size = B := ⟨_, rfl⟩;rw [hB] at F0 ⊢;clear hW hB;obtain ⟨c0, c1, c2, c3⟩ := F0.out.c;have HV1 := xH (jl HV.out F0.out.bel);go_wp2_with fail
 refine Calls.mono (join2_any _ (.slice none 0 0) l [] p.most _ HV1.out (rs_nil _) hl (by decide) (by omega) (by omega)) ?_;rintro e w1 ⟨v1, Z, rfl, hS, hh, ho, hb⟩;have HO := xO F0.out.x ho;rw [notL_only hS hh] at HO;have F1 := xH (F0.out.step hb);clear hb ho hS hh c0 c1 c2 c3;obtain ⟨a1, a2, rfl⟩ := qN HO.out;go_wp2_with fail
 go_ret
 exact ⟨_, rfl, qM HO.out (Nat.le_of_eq F1.out.hB), F1.out.bel⟩
theorem has_lt {S : ByteArray} {p : Pt} (h : Pat S p) {l : List UInt8} {i : Nat} (e : p.has l i = true) : i + l.length ≤ p.n ∨ l = [] := by
 have e2 := (has_list _ (pat_g h) (pat_len h) l i).1 e;have h3 := congrArg List.length e2;rw [List.length_take, List.length_drop, ← pat_len h] at h3;rcases l with _ | ⟨c, l⟩
 ·exact Or.inr rfl
 ·simp only [List.length_cons] at h3 ⊢;omega
theorem qR {S : ByteArray} {p : Pt} (h : Pat S p) {c : UInt8} {l : List UInt8} {i : Nat} (e : p.has (c :: l) i = true) : i + (l.length + 1) ≤ p.n := by
 rcases has_lt h e with h | h
 ·exact h
 ·cases h
theorem zQ (S : ByteArray) (p : Pt) (w : World) (hP : Pat S p) (a : Nat) (ha : a ≤ p.n) : Calls Tryz.prog 76 #[txV S p, .int .i64 a] w (fun e w' => e = .returned (.tuple #[.int .i64 (sgn p a).1, .int .i64 (sgn p a).2.1, .int .i64 ((sgn p a).2.2.1 : Nat), .bool (sgn p a).2.2.2]) ∧ Below w.heap.size w w') := by
 have hn := hP.n;have h2 := hP.le;have HP := xH hP;have HN := xH hn;clear hP;rw [hn] at ha;unfold txV txC;go_enter Tryz.func76, Tryz.ntmps76;go_upto_region 1 with (fail)
 generalize hW : (w.alloc _) = W;have F0 := xH (zG (S := S) (p := p) hW);obtain ⟨B, hB⟩ : ∃ B, w.heap.size = B := ⟨_, rfl⟩;rw [hB] at F0 ⊢;clear hW hB;obtain ⟨c0, c1, c2, c3⟩ := F0.out.c;go_wp2_with fail
 refine Calls.mono (qG S p _ HP.out (a) (by omega) [45] ⟨#[45]⟩ rfl (by decide) (Or.inl (by omega))) ?_;rintro e w1 ⟨rfl, hb⟩;have F1 := xH (F0.out.step hb);clear hb c0 c1 c2 c3;obtain ⟨c0, c1, c2, c3⟩ := F1.out.c;cases h45 : p.has [45] a with
 | true =>
  have hi := qR HP.out h45;have HR0 := xH (show p.sign a = (1, a + 1) by unfold Pt.sign; simp only [h45]; rfl);have HZ := xH (show num p (a + 1) = ((num p (a + 1)).1, (num p (a + 1)).2.1, (num p (a + 1)).2.2) from rfl);go_wp2_with fail
  refine Calls.mono (vY S p _ HP.out (a + 1) (by omega)) ?_;rintro e w2 ⟨rfl, hb⟩;have F2 := xH (F1.out.step hb);clear hb c0 c1 c2 c3;obtain ⟨c0, c1, c2, c3⟩ := F2.out.c;have HR1 := xH (show sgn p a = if (num p (a + 1)).2.1 = a + 1 then (0, 1, a, false) else ((num p (a + 1)).1, 1, (num p (a + 1)).2.1, (num p (a + 1)).2.2) by unfold sgn; rw [HR0.out]);clear HZ;generalize num p (a + 1) = q at *;obtain ⟨q1, q2, q3⟩ := q;simp only at HR1;by_cases hq : q2 = a + 1
  ·have HR := xH (HR1.out.trans (if_pos hq));clear HR1;subst hq;go_wp2_with fail
   refine bodyPost_ret (yf rfl _ _ _) rfl ?_;rw [HR.out];exact ⟨rfl, F2.out.bel⟩
  ·have HR := xH (HR1.out.trans (if_neg hq));clear HR1;have hq2 : ¬ ((q2 : Nat) : Int) = ((a + 1 : Nat) : Int) := by omega
   have hq3 : ¬ ((q2 : Nat) : Int) = (a : Int) + 1 := by omega
   go_wp2_with fail
   refine bodyPost_ret (yf rfl _ _ _) rfl ?_;rw [HR.out];exact ⟨rfl, F2.out.bel⟩
 | false =>
  go_wp2_with fail
  refine Calls.mono (qG S p _ HP.out (a) (by omega) [43] ⟨#[43]⟩ rfl (by decide) (Or.inl (by omega))) ?_;rintro e w2 ⟨rfl, hb⟩;have F2 := xH (F1.out.step hb);clear hb c0 c1 c2 c3;obtain ⟨c0, c1, c2, c3⟩ := F2.out.c;cases h43 : p.has [43] a with
  | true =>
   have hi := qR HP.out h43;have HR0 := xH (show p.sign a = (2, a + 1) by unfold Pt.sign; simp only [h45, h43]; rfl);have HZ := xH (show num p (a + 1) = ((num p (a + 1)).1, (num p (a + 1)).2.1, (num p (a + 1)).2.2) from rfl);go_wp2_with fail
   refine Calls.mono (vY S p _ HP.out (a + 1) (by omega)) ?_;rintro e w3 ⟨rfl, hb⟩;have F3 := xH (F2.out.step hb);clear hb c0 c1 c2 c3;obtain ⟨c0, c1, c2, c3⟩ := F3.out.c;have HR1 := xH (show sgn p a = if (num p (a + 1)).2.1 = a + 1 then (0, 2, a, false) else ((num p (a + 1)).1, 2, (num p (a + 1)).2.1, (num p (a + 1)).2.2) by unfold sgn; rw [HR0.out]);clear HZ;generalize num p (a + 1) = q at *;obtain ⟨q1, q2, q3⟩ := q;simp only at HR1;by_cases hq : q2 = a + 1
   ·have HR := xH (HR1.out.trans (if_pos hq));clear HR1;subst hq;go_wp2_with fail
    refine bodyPost_ret (yf rfl _ _ _) rfl ?_;rw [HR.out];exact ⟨rfl, F3.out.bel⟩
   ·have HR := xH (HR1.out.trans (if_neg hq));clear HR1;have hq2 : ¬ ((q2 : Nat) : Int) = ((a + 1 : Nat) : Int) := by omega
    have hq3 : ¬ ((q2 : Nat) : Int) = (a : Int) + 1 := by omega
    go_wp2_with fail
    refine bodyPost_ret (yf rfl _ _ _) rfl ?_;rw [HR.out];exact ⟨rfl, F3.out.bel⟩
  | false =>
   have HR0 := xH (show p.sign a = (0, a) by unfold Pt.sign; simp only [h45, h43]; rfl);have HZ := xH (show num p (a) = ((num p (a)).1, (num p (a)).2.1, (num p (a)).2.2) from rfl);go_wp2_with fail
   refine Calls.mono (vY S p _ HP.out (a) (by omega)) ?_;rintro e w3 ⟨rfl, hb⟩;have F3 := xH (F2.out.step hb);clear hb c0 c1 c2 c3;obtain ⟨c0, c1, c2, c3⟩ := F3.out.c;have HR1 := xH (show sgn p a = if (num p (a)).2.1 = a then (0, 0, a, false) else ((num p (a)).1, 0, (num p (a)).2.1, (num p (a)).2.2) by unfold sgn; rw [HR0.out]);clear HZ;generalize num p (a) = q at *;obtain ⟨q1, q2, q3⟩ := q;simp only at HR1;by_cases hq : q2 = a
   ·have HR := xH (HR1.out.trans (if_pos hq));clear HR1;subst hq;go_wp2_with fail
    refine bodyPost_ret (yf rfl _ _ _) rfl ?_;rw [HR.out];exact ⟨rfl, F3.out.bel⟩
   ·have HR := xH (HR1.out.trans (if_neg hq));clear HR1;have hq2 : ¬ ((q2 : Nat) : Int) = ((a : Nat) : Int) := by omega
    have hq3 : ¬ ((q2 : Nat) : Int) = (a : Int) := by omega
    go_wp2_with fail
    refine bodyPost_ret (yf rfl _ _ _) rfl ?_;rw [HR.out];exact ⟨rfl, F3.out.bel⟩
end Go.Proofs.YtikjhfmmfpeaoaaGreatDoor.rtw
end
section
namespace Go.Proofs.YtikjhfmmfpeaoaaGreatDoor.rtw
open sq
open Go Go.RowKit Go.Maps utfp utfw ucdp setp setw prp tkp rtp
open tkw (sg sg_bd vJ jM qK tkR qO qM vI)
theorem sub_ext {S : ByteArray} {p : Pt} (h : Pat S p) {a b : Nat} (hab : a ≤ b) (hb : b ≤ p.n) : S.extract a b = p.sub a b := by
 have hz : (S.extract a b).size = b - a := by rw [ByteArray.size_extract, ← h.n]; omega
 apply toList_inj;rw [Lib.toList_data, Lib.toList_data];apply List.ext_getElem
 ·rw [Array.length_toList, Array.length_toList];exact hz.trans (tkw.sub_size p a b).symm
 ·intro i h1 h2;have h3 : i < (p.sub a b).size := by rw [Array.length_toList] at h2; exact h2
  have h4 : i < (S.extract a b).size := by rw [Array.length_toList] at h1; exact h1
  have e1 := tkw.sub_at (jS h) h3;rw [Array.getElem_toList, Array.getElem_toList];have e2 : ((S.extract a b)[i]'h4) = S[a + i]'(by rw [hz] at h4; rw [h.n] at hb; omega) := ByteArray.getElem_extract h4;have e3 := gb h (a + i) (by rw [hz] at h4; rw [h.n] at hb; omega);rw [← e2, ← e1] at e3;exact UInt8.toNat_inj.1 (Int.ofNat_inj.1 e3)
def NameRel (w : World) (B : Nat) (S : ByteArray) (p : Pt) (a : Nat) (vi : Value) (wr : World) : Prop :=
 ∃ l : Nat, a + l ≤ S.size ∧ Hid (∀ i, i < l → a + i < p.n ∧ isWrd (p.g (a + i)) = true) ∧ vi = .int .i64 ((a + l : Nat) : Int) ∧ FR w B S p wr
theorem name_of {p : Pt} {a l : Nat} (hp : p.n ≤ 1000) (h : ∀ i, i < l → a + i < p.n ∧ isWrd (p.g (a + i)) = true) (hs : a + l = p.n ∨ isWrd (p.g (a + l)) = false) : p.name a = (a + l, decide (0 < l) && !isDig (p.g a) && decide (l ≤ 32)) := by
 have hl : l ≤ 1000 := by
  rcases l with _ | l
  ·omega
  ·have := (h l (by omega)).1; omega
 have hr : p.run isWrd 1000 a = a + l := run_stop h hs hl;unfold Pt.name;rw [hr, Nat.add_sub_cancel_left]
 congr 4
 simp
theorem zh {p : Pt} {a : Nat} (h : a ≤ p.n) : a ≤ (p.name a).1 ∧ (p.name a).1 ≤ p.n := ⟨(tkw.run_bd h).1, (tkw.run_bd h).2.1⟩
def NamB (p : Pt) (a : Nat) (w : World) (e : Ending) (w' : World) : Prop := e = .returned (.tuple #[.string (p.sub a (p.name a).1), .int .i64 ((p.name a).1 : Nat), .bool (p.name a).2]) ∧ Below w.heap.size w w'
theorem wrd_let {c : Int} (h : isLet c = true) : isWrd c = true := by simp [isWrd, h]
theorem wrd_dig {c : Int} (h : isDig c = true) : isWrd c = true := by simp [isWrd, h]
theorem wrd_us : isWrd 95 = true := by decide
theorem wrd_no {c : Int} (h1 : isLet c = false) (h2 : isDig c = false) (h3 : ¬ c = 95) : isWrd c = false := by simp [isWrd, h1, h2, h3]
theorem name_any (S : ByteArray) (p : Pt) (w : World) (hP : Pat S p) (a : Nat) (ha : a ≤ p.n) : Calls Tryz.prog 66 #[txV S p, .int .i64 a] w (NamB p a w) := by
 have hn := hP.n;have h2 := hP.le;have HP := xH hP;have HN := xH hn;clear hP;rw [hn] at ha;clear hn;unfold txV txC;go_enter Tryz.func66, Tryz.ntmps66;go_upto_region 1 with (fail)
 generalize hW : (w.alloc _) = W;have F0 := xH (zG (S := S) (p := p) hW);obtain ⟨B, hB⟩ : ∃ B, w.heap.size = B := ⟨_, rfl⟩;rw [hB] at F0 ⊢;clear hW hB;obtain ⟨c0, c1, c2, c3⟩ := F0.out.c;clear c0 c1 c2 c3;go_wp2_with fail
 go_loopw [1] (fun vi wr => NameRel w B S p a vi wr) (fun vi _ => S.size - (intOf vi).toNat)
 case atStart => exact ⟨0, ha, xH (fun i h => absurd h (Nat.not_lt_zero i)), rfl, F0.out⟩
 case round =>
  obtain ⟨l, hl, hd, rfl, hF⟩ := hrel;have F1 := xH hF;clear hF;obtain ⟨c0, c1, c2, c3⟩ := F1.out.c;have hgb := gb HP.out;by_cases hlt : a + l < S.size
  ·obtain ⟨b0, b1⟩ := jS HP.out (a + l);go_wp2_with fail
   refine (letter_any _ _ b0 b1).mono ?_;rintro e w1 ⟨rfl, rfl⟩;cases hlet : isLet (p.g (a + l)) with
   | true =>
    go_wp2_with fail
    refine ⟨⟨l + 1, by omega, xH (fun i hi => by
     by_cases e : i = l
     ·subst e; exact ⟨by rw [HN.out]; exact hlt, wrd_let hlet⟩
     ·exact hd.out i (by omega)), rfl, F1.out⟩, by simp only [intOf]; omega⟩
   | false =>
    go_wp2_with fail
    refine (digit_any _ _ b0 b1).mono ?_;rintro e w1 ⟨rfl, rfl⟩;cases hdg : isDig (p.g (a + l)) with
    | true =>
     go_wp2_with fail
     refine ⟨⟨l + 1, by omega, xH (fun i hi => by
      by_cases e : i = l
      ·subst e; exact ⟨by rw [HN.out]; exact hlt, wrd_dig hdg⟩
      ·exact hd.out i (by omega)), rfl, F1.out⟩, by simp only [intOf]; omega⟩
    | false =>
     by_cases hus : p.g (a + l) = 95
     ·have hb : (p.g (a + l) == 95) = true := by simp [hus]
      go_wp2_with fail
      refine ⟨⟨l + 1, by omega, xH (fun i hi => by
       by_cases e : i = l
       ·subst e; exact ⟨by rw [HN.out]; exact hlt, by rw [hus]; exact wrd_us⟩
       ·exact hd.out i (by omega)), rfl, F1.out⟩, by simp only [intOf]; omega⟩
     ·have hb : (p.g (a + l) == 95) = false := by simp [hus]
      have HL := xH HN.out;have HNM := xH (name_of (l := l) (by rw [HN.out]; exact h2) hd.out (Or.inr (wrd_no hlet hdg hus)));have HE := xH (sub_ext HP.out (show a ≤ a + l by omega) (show a + l ≤ p.n by rw [HN.out]; omega));have hz : (p.sub a (a + l)).size = l := by rw [tkw.sub_size]; omega
      have hix : ∀ (h : 0 < (p.sub a (a + l)).size), (((p.sub a (a + l))[0]'h).toNat : Int) = p.g a := fun h => tkw.sub_at (jS HP.out) h
      have hxt : S.extract a (a + l) = p.sub a (a + l) := HE.out;obtain ⟨g0, g1⟩ := jS HP.out a;by_cases l0 : l = 0
      ·have HR := xH (show (p.name a).2 = false by rw [HNM.out]; simp [l0]);have hl0 : ¬ (0 : Int) < (l : Int) := by omega
       have hzi : ¬ (0 : Int) < ((p.sub a (a + l)).size : Int) := by omega
       have hle : l ≤ 32 := by omega
       clear l0;go_wp2_with fail
       go_ret3
       unfold NamB;rw [HR.out, HNM.out];exact ⟨rfl, F1.out.bel⟩
      by_cases l32 : l ≤ 32
      ·have l1 : 0 < l := by omega
       have l2 : (l : Int) ≤ 32 := by omega
       have hl0 : (0 : Int) < (l : Int) := by omega
       have hzi : (0 : Int) < ((p.sub a (a + l)).size : Int) := by omega
       have hzj : ((p.sub a (a + l)).size : Int) ≤ 32 := by omega
       go_wp2_with fail
       refine Calls.mono (digit_any _ _ g0 g1) ?_;rintro e w1 ⟨rfl, rfl⟩;have HR := xH (show (p.name a).2 = !isDig (p.g a) by rw [HNM.out]; simp [l1, l32]);go_wp2_with fail
       go_ret3
       unfold NamB;rw [HR.out, HNM.out];exact ⟨rfl, F1.out.bel⟩
      have HR := xH (show (p.name a).2 = false by rw [HNM.out]; simp [l32]);have l1 : 0 < l := by omega
      have l2 : ¬ (l : Int) ≤ 32 := by omega
      have hzi : (0 : Int) < ((p.sub a (a + l)).size : Int) := by omega
      have hzj : ¬ ((p.sub a (a + l)).size : Int) ≤ 32 := by omega
      go_wp2_with fail
      go_ret3
      unfold NamB;rw [HR.out, HNM.out];exact ⟨rfl, F1.out.bel⟩
  ·have HL := xH HN.out;have HNM := xH (name_of (l := l) (by rw [HN.out]; exact h2) hd.out (Or.inl (by rw [HN.out]; omega)));have HE := xH (sub_ext HP.out (show a ≤ a + l by omega) (show a + l ≤ p.n by rw [HN.out]; omega));have hz : (p.sub a (a + l)).size = l := by rw [tkw.sub_size]; omega
   have hix : ∀ (h : 0 < (p.sub a (a + l)).size), (((p.sub a (a + l))[0]'h).toNat : Int) = p.g a := fun h => tkw.sub_at (jS HP.out) h
   have hxt : S.extract a (a + l) = p.sub a (a + l) := HE.out;obtain ⟨g0, g1⟩ := jS HP.out a;by_cases l0 : l = 0
   ·have HR := xH (show (p.name a).2 = false by rw [HNM.out]; simp [l0]);have hl0 : ¬ (0 : Int) < (l : Int) := by omega
    have hzi : ¬ (0 : Int) < ((p.sub a (a + l)).size : Int) := by omega
    have hle : l ≤ 32 := by omega
    clear l0;go_wp2_with fail
    go_ret3
    unfold NamB;rw [HR.out, HNM.out];exact ⟨rfl, F1.out.bel⟩
   by_cases l32 : l ≤ 32
   ·have l1 : 0 < l := by omega
    have l2 : (l : Int) ≤ 32 := by omega
    have hl0 : (0 : Int) < (l : Int) := by omega
    have hzi : (0 : Int) < ((p.sub a (a + l)).size : Int) := by omega
    have hzj : ((p.sub a (a + l)).size : Int) ≤ 32 := by omega
    go_wp2_with fail
    refine Calls.mono (digit_any _ _ g0 g1) ?_;rintro e w1 ⟨rfl, rfl⟩;have HR := xH (show (p.name a).2 = !isDig (p.g a) by rw [HNM.out]; simp [l1, l32]);go_wp2_with fail
    go_ret3
    unfold NamB;rw [HR.out, HNM.out];exact ⟨rfl, F1.out.bel⟩
   have HR := xH (show (p.name a).2 = false by rw [HNM.out]; simp [l32]);have l1 : 0 < l := by omega
   have l2 : ¬ (l : Int) ≤ 32 := by omega
   have hzi : (0 : Int) < ((p.sub a (a + l)).size : Int) := by omega
   have hzj : ¬ ((p.sub a (a + l)).size : Int) ≤ 32 := by omega
   go_wp2_with fail
   go_ret3
   unfold NamB;rw [HR.out, HNM.out];exact ⟨rfl, F1.out.bel⟩
theorem FG.low {w W W' : World} {B : Nat} {S : ByteArray} {p : Pt} (h : FG w B S p W) (hb : Below (B + 2) W W') : FG w B S p W' :=
 ⟨⟨h.hB, h.below.trans (hb.mono (by omega)), h.x.below hb (by omega)⟩, by obtain ⟨old, h1, h2⟩ := h.g; exact ⟨old, (hb.block _ (by omega)).trans h1, h2⟩⟩
theorem FG.sz {w W : World} {B : Nat} {S : ByteArray} {p : Pt} (h : FG w B S p W) : B + 2 ≤ W.heap.size := by obtain ⟨old, h1, _⟩ := h.g;have := zi h1;omega
theorem quant_any (S : ByteArray) (p : Pt) (w : World) (hP : Pat S p) (i b : Nat) (n m : Int) (hb : b ≤ p.n) : Calls Tryz.prog 48 #[txV S p, .int .i64 i, .int .i64 b, .int .i64 n, .int .i64 m] w (GotB w (quan p i b n m)) := by
 have hn := hP.n;have h2 := hP.le;have HP := xH hP;have HN := xH hn;clear hP;rw [hn] at hb;clear hn;have hi3 : b ≤ 1000 := by omega
 have HBb := xH hb;clear hb;unfold txV txC;go_enter Tryz.func48, Tryz.ntmps48;go_upto_region 1 with (fail)
 generalize hW : (w.alloc _).alloc _ = W;have F0 := xH (fg_start (S := S) (p := p) hW);obtain ⟨B, hB⟩ : ∃ B, w.heap.size = B := ⟨_, rfl⟩;rw [hB] at F0 ⊢;clear hW hB;obtain ⟨c0, c1, c2, c3⟩ := F0.out.c;go_upto_region 2 with (fail)
 generalize hW2 : World.alloc _ _ = W2;have F1 := xH (F0.out.low (by rw [← hW2]; exact (Below.refl _ _).alloc F0.out.sz _) : FG w B S p W2);obtain ⟨T, hT⟩ : ∃ T, W.heap.size = T := ⟨_, rfl⟩;have HTB := xH (show B + 2 ≤ T by rw [← hT]; exact F0.out.sz);have HT1 : Hid (W2.heap[T]? = some (.cells (tkR (.slice none 0 0) { kind := 9, n := n, m := m }) 68 (0, 0))) := xH (by rw [← hW2, ← hT]; exact heap_alloc_new _ _);rw [hT];clear hW2 hT c0 c1 c2 c3;obtain ⟨c0, c1, c2, c3⟩ := F1.out.c;go_wp2_with fail
 refine Calls.mono (qG S p _ HP.out b (by omega) [63] ⟨#[63]⟩ rfl (by decide) (Or.inl (by rw [HN.out]; exact HBb.out))) ?_;rintro e w2 ⟨rfl, hb⟩;have F2 := xH (F1.out.step hb);have HT2 := xH ((hb.block T (zi HT1.out)).trans HT1.out);clear hb c0 c1 c2 c3;obtain ⟨c0, c1, c2, c3⟩ := F2.out.c;cases h63 : p.has [63] b with
 | true =>
  have HR := xH (show quan p i b n m = gtok { kind := 9, n := n, m := m, mode := 1 } i (b + 1) by unfold quan Pt.mode; simp only [h63]; rfl);have ct : w2.cell? ⟨T, 8, none⟩ = some (.int .i64 0) := by simp [World.cell?, HT2.out, tkR]
  have cf : w2.frozen? ⟨T, 8, none⟩ = false := by simp [World.frozen?, HT2.out]
  have HS : Hid ((w2.setCell ⟨T, 8, none⟩ (.int .i64 1)).heap[T]? = some (.cells (tkR (.slice none 0 0) { kind := 9, n := n, m := m, mode := 1 }) 68 (0, 0))) := xH (tkw.heap_set HT2.out);have F3 := xH (F2.out.low ((Below.refl _ w2).setCell (p := ⟨T, 8, none⟩) HTB.out (.int .i64 1)));clear c0 c1 c2 c3;obtain ⟨c0, c1, c2, c3⟩ := F3.out.c;go_wp2_with (refine tkw.qX rfl _ rfl T rfl _ HS.out rfl ?_)
  refine Calls.mono (qF (.slice none 0 0) ({ kind := 9, n := n, m := m, mode := 1 }) (i) (b + 1) _ (k := B) (qm _ _)) ?_;rintro e w4 ⟨rfl, ho, hb⟩;have F4 := xH (F3.out.step hb);have HO := xH ho;clear hb ho c0 c1 c2 c3;obtain ⟨old, HG, hz⟩ := xG F4;go_wp2_with (refine xR HG hz HO rfl rfl rfl rfl rfl ?_)
  refine bodyPost_ret (xE HG rfl rfl) rfl ?_;exact qj F4.out HR.out HO.out (Nat.le_refl _)
 | false =>
  go_wp2_with fail
  refine Calls.mono (qG S p _ HP.out b (by omega) [43] ⟨#[43]⟩ rfl (by decide) (Or.inl (by rw [HN.out]; exact HBb.out))) ?_;rintro e w3 ⟨rfl, hb⟩;have F3 := xH (F2.out.step hb);have HT3 := xH ((hb.block T (zi HT2.out)).trans HT2.out);clear hb c0 c1 c2 c3;obtain ⟨c0, c1, c2, c3⟩ := F3.out.c;cases h43 : p.has [43] b with
  | true =>
   have HR := xH (show quan p i b n m = gtok { kind := 9, n := n, m := m, mode := 2 } i (b + 1) by unfold quan Pt.mode; simp only [h63, h43]; rfl);have ct : w3.cell? ⟨T, 8, none⟩ = some (.int .i64 0) := by simp [World.cell?, HT3.out, tkR]
   have cf : w3.frozen? ⟨T, 8, none⟩ = false := by simp [World.frozen?, HT3.out]
   have HS : Hid ((w3.setCell ⟨T, 8, none⟩ (.int .i64 2)).heap[T]? = some (.cells (tkR (.slice none 0 0) { kind := 9, n := n, m := m, mode := 2 }) 68 (0, 0))) := xH (tkw.heap_set HT3.out);have F4 := xH (F3.out.low ((Below.refl _ w3).setCell (p := ⟨T, 8, none⟩) HTB.out (.int .i64 2)));clear c0 c1 c2 c3;obtain ⟨c0, c1, c2, c3⟩ := F4.out.c;go_wp2_with (refine tkw.qX rfl _ rfl T rfl _ HS.out rfl ?_)
   refine Calls.mono (qF (.slice none 0 0) ({ kind := 9, n := n, m := m, mode := 2 }) (i) (b + 1) _ (k := B) (qm _ _)) ?_;rintro e w5 ⟨rfl, ho, hb⟩;have F5 := xH (F4.out.step hb);have HO := xH ho;clear hb ho c0 c1 c2 c3;obtain ⟨old, HG, hz⟩ := xG F5;go_wp2_with (refine xR HG hz HO rfl rfl rfl rfl rfl ?_)
   refine bodyPost_ret (xE HG rfl rfl) rfl ?_;exact qj F5.out HR.out HO.out (Nat.le_refl _)
  | false =>
   have HR := xH (show quan p i b n m = gtok { kind := 9, n := n, m := m } i b by unfold quan Pt.mode; simp only [h63, h43]; rfl);go_wp2_with (refine tkw.qX rfl _ rfl T rfl _ HT3.out rfl ?_)
   refine Calls.mono (qF (.slice none 0 0) ({ kind := 9, n := n, m := m }) (i) (b) _ (k := B) (qm _ _)) ?_;rintro e w4 ⟨rfl, ho, hb⟩;have F4 := xH (F3.out.step hb);have HO := xH ho;clear hb ho c0 c1 c2 c3;obtain ⟨old, HG, hz⟩ := xG F4;go_wp2_with (refine xR HG hz HO rfl rfl rfl rfl rfl ?_)
   refine bodyPost_ret (xE HG rfl rfl) rfl ?_;exact qj F4.out HR.out HO.out (Nat.le_refl _)
end Go.Proofs.YtikjhfmmfpeaoaaGreatDoor.rtw
end
