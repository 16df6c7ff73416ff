/- T -/
import Derived.BigQuiet
import Derived.Carry
import Derived.Deep.DeepCutAuto
import Derived.Deep.DeepHandedRow
import Derived.Deep.QuietTactic
import Derived.Deep.RegionHeld3
import Derived.IntWalk
import Derived.Lib.BytesEntry
import Derived.Lib.LaidTab
import Derived.Maps.AppendAt
import Derived.SizedLaws
import Derived.Stop.LaidErr
import Derived.Test.YtikjhfmmfpeaoaaGreatDoorCards
import Derived.Test.YtikjhfmmfpeaoaaGreatDoorTie
import Derived.Test.YtikjhfmmfpeaoaaGreatDoorBFg08
set_option maxHeartbeats 16000000
set_option maxRecDepth 1000000
namespace Go.Proofs.YtikjhfmmfpeaoaaGreatDoor
section
namespace setw
open sq
open Go Go.RowKit bulk ucdp ucdw setp
theorem join0w_any (v1 v2 : Value) (l1 l2 : List Rg) (most : Int) (w : World) (hv1 : RsAt w v1 l1) (hv2 : RsAt w v2 l2) (hl1 : l1.length ≤ 600000) (hl2 : l2.length ≤ 400000) (h1 : -9223372036854775808 ≤ most) (h2 : most ≤ 9223372036854775807) :
 Calls Tryz.prog 58 #[.int .i64 0, v1, v2, .int .i64 most] w (JoinB 0 l1 l2 (min most 1114111) w) := by
 have HV1 := xH hv1;have HV2 := xH hv2;obtain ⟨a1, q1, rfl⟩ := jg hv1;obtain ⟨a2, q2, rfl⟩ := jg hv2;have HL := xH (show ([] : List Rg).length + l1.length ≤ 100000000 by simp; omega);have HL2 := xH (show ([] ++ l1 : List Rg).length + l2.length ≤ 100000000 by simp; omega);have HL3 := xH (show ([] ++ l1 ++ l2 : List Rg).length ≤ 1000000 by simp; omega);have HL4 := xH hl1;have HL5 := xH hl2;have HM := xH h1;have HM2 := xH h2;clear hv1 hv2 hl1 hl2 h1 h2;go_enter Tryz.func58, Tryz.ntmps58;go_wp2_with (first
  | (at_builtin; refine jb rfl _ _ rfl w.heap.size (.slice none 0 0) [] rfl (qm _ _) _ l1 rfl HV1.out HL.out (xL _) ?_; intro va wa hoa hba; have HOa := xH hoa; have HBa := xH (hba _ _ (Below.refl _ _) (xL _)); clear hoa hba)
  | (at_builtin; refine jb rfl _ _ rfl w.heap.size va ([] ++ l1) rfl HOa.out _ l2 rfl (jl HV2.out HBa.out) HL2.out HBa.out.size ?_; intro vb wb hob hbb; have HOb := xH hob; have HBb := xH (hbb _ _ HBa.out (xL _)); clear hob hbb))
 refine (edges_any vb ([] ++ l1 ++ l2) most wb (vP HOb.out (fun r hr => by rw [List.nil_append] at hr; exact (List.mem_append.1 hr).elim (fun h => HV1.out.1 r h) (fun h => HV2.out.1 r h))) HL3.out HM.out HM2.out).mono ?_;rintro e w4 ⟨ve, E, rfl, hE, hEd, hb4⟩;rw [List.nil_append] at hEd;obtain ⟨ae, qe, rfl⟩ := intsAt_len hE;have HE := xH hE;have HD := xH hEd;have HB4 := xH (HBb.out.trans (hb4.mono HBb.out.size));have hEl : E.length ≤ 3000000 := by exact z108
 clear hE hEd hb4;go_wp2_with fail
 go_loopw [11, 12] (fun v i wr => JoRel 0 l1 l2 E w4 v i wr) (fun _ i _ => E.length - (intOf i).toNat)
 case atStart => exact ⟨0, [], Or.inr rfl, rfl, qm _ _, ji_start HD.out, Below.refl _ _⟩
 case round =>
  obtain ⟨k, O, hk, rfl, ho, hJ, hb⟩ := hrel;have HO := xH ho;have HJ := xH hJ;have HB := xH hb;have HK := xH hk;have HBw := xH (HB4.out.trans (hb.mono HB4.out.size));have HF1 := xH (jl HV1.out HBw.out);have HF2 := xH (jl HV2.out HBw.out);have hwk : IntKind.i64.wrap ((k : Int) + 1) = (k : Int) + 1 := IntWalk.i64_in _ (by omega);clear ho hJ hb hk;by_cases hlt : k + 1 < E.length
  ·have hlti : (k : Int) + 1 < (E.length : Int) := by omega
   have hki : (k : Int) < (E.length : Int) := by omega
   have hk0 : (0 : Int) ≤ (k : Int) + 1 := by omega
   rcases HE.out with ⟨h0, _⟩ | ⟨_, b, cap, hve, _, hbb, _, _, hc⟩
   ·rw [h0] at hlt; simp at hlt
   cases hve;have hm : 0 ≤ min most 1114111 := by
    rcases HD.out with ⟨h, _⟩ | ⟨h, _⟩
    ·rw [h] at hlt; simp at hlt
    ·exact h
   have hEP : EP (EQ (l1 ++ l2) (min most 1114111)) (2 * (l1 ++ l2).length + 2) E := by
    rcases HD.out with ⟨h, _⟩ | ⟨_, h⟩
    ·rw [h] at hlt; simp at hlt
    ·exact h
   have c01 := hc k (by omega);have c02 := hc (k + 1) hlt;rw [show E.getD k 0 = E[k] by simp [List.getD, show k < E.length by omega]] at c01;rw [show E.getD (k + 1) 0 = E[k + 1] by simp [List.getD, hlt]] at c02;have c1 := qf HB.out c01;have c2 := qf HB.out c02;have C1 := xH c01;have C2 := xH c02;clear c01 c02;have bd1 := yh hm hEP (List.getElem_mem (show k < E.length by omega));have bd2 := yh hm hEP (List.getElem_mem hlt);have HO1 := xH (fun hq => ji_out hm hEP hlt HJ.out hq);have HO2 := xH (fun hq hl => ji_app hm (by omega) hEP hlt HJ.out hq hl);have HO3 := xH (fun (hq : qB 0 l1 l2 E[k] = true) (W0 : List Rg) (p r : Int) (h : O = W0 ++ [(p, r)]) (hr : r + 1 = E[k]) => ji_mrg hm (by omega) hEP hlt HJ.out hq h hr);have HI1 := xH (rin_any _ l1 E[k] wr HF1.out (by have := HL4.out; omega));have HI2 := xH (rin_any _ l2 E[k] wr HF2.out (by have := HL5.out; omega));have hE1 : E[k] ≤ 1114112 := by omega
   have hE2 : E[k + 1] ≤ 1114112 := by omega
   have hE3 : 0 ≤ E[k] := bd1.1;have hE4 : 0 ≤ E[k + 1] := bd2.1;clear hc bd1 bd2 hm hEP;unfold qB at HO1 HO2 HO3;generalize E[k] = x at *;generalize E[k + 1] = y at *;generalize hasB l1 x = p1 at *;generalize hasB l2 x = p2 at *;have hwy : IntKind.i64.wrap (y - 1) = y - 1 := IntWalk.i64_in _ (by omega);go_wp2_with fail
   refine HI1.out.mono ?_;rintro e wr ⟨rfl, rfl⟩;go_wp2_with fail
   refine HI2.out.mono ?_;rintro e wr ⟨rfl, rfl⟩;go_upto_region 11 with (fail)
   go_cut [15] from 25 to 103 (fun c wx => c = .bool (inP 0 p1 p2) ∧ wx = wr)
   case first =>
    cases p1 <;> cases p2 <;> (go_wp2_with fail; go_meet; exact ⟨rfl, rfl⟩)
   case rest =>
    obtain ⟨rfl, rfl⟩ := hcut;cases hq : inP 0 p1 p2
    ·have HJ1 := xH (HO1.out hq);exact z117
    ·rcases List.eq_nil_or_concat O with hO | ⟨W0, ⟨p, r⟩, hO⟩
     ·subst hO;exact z4
     ·subst hO;exact z2
  ·go_wp2_with fail
   go_ret
   have he := ji_end HD.out HJ.out HK.out hlt;exact ⟨_, O, rfl, he.1, he.2, ownR_mono HO.out HB4.out.size, HBw.out⟩
end setw
end
section
namespace ucdw
open sq
open Go Go.RowKit bulk ucdp
def refC (r : Int × Int × Nat × Nat × Int) : List Value := [.int .i64 r.1, .int .i64 r.2.1, .string (catB r.2.2.1), .string (scrB r.2.2.2.1), .int .i64 r.2.2.2.2]
def refCs (l : List (Int × Int × Nat × Nat × Int)) : List Value := l.flatMap refC
def RowsNew (l : List (Int × Int × Nat × Nat × Int)) (w : World) (e : Ending) (w' : World) : Prop := e = .returned (.slice (some ⟨w.heap.size, 0, none⟩) l.length l.length) ∧ w' = w.alloc (.cells (refCs l).toArray 104)
theorem low_any (w : World) : Calls Tryz.prog 100 #[] w (RowsNew low w) := by
 go_enter Tryz.func100, Tryz.ntmps100;go_upto_region 1 with (fail)
 refine wp_region_list ?_;refine wpList_bulk_x 30 (w.alloc (.cells (refCs low).toArray 104)) (by kernel_rfl) ?_;generalize hA : acts _ _ _ _ = A;have e1 : A.eval (.tmp 30) = .slice (some ⟨w.heap.size, 0, none⟩) 29 29 := by rw [← hA]; kernel_rfl
 have ez : A.tmps.size = 31 := by rw [← hA]; kernel_rfl
 have ed : A.defers = [] := by rw [← hA]; kernel_rfl
 clear hA;show wpList _ _ _ [_] _ _;refine wpList_value rfl (run_assign rfl e1) ?_;have e0 := eval_put_same (a := A) (d := 0) (v := .slice (some ⟨w.heap.size, 0, none⟩) 29 29) (by omega);have ed2 : (A.put (some 0) (.slice (some ⟨w.heap.size, 0, none⟩) 29 29)).defers = [] := ed;generalize A.put (some 0) (.slice (some ⟨w.heap.size, 0, none⟩) 29 29) = B at *;refine wpList_nil ?_
 go_step
 go_step
 go_step
 refine xB (results_tmp rfl _ _ _) ed2 ⟨?_, rfl⟩;rw [getD_of_eval e0];rfl
theorem high_any (w : World) : Calls Tryz.prog 101 #[] w (RowsNew high w) := by
 go_enter Tryz.func101, Tryz.ntmps101;go_upto_region 1 with (fail)
 refine wp_region_list ?_;refine wpList_bulk_x 53 (w.alloc (.cells (refCs high).toArray 104)) (by kernel_rfl) ?_;generalize hA : acts _ _ _ _ = A;have e1 : A.eval (.tmp 53) = .slice (some ⟨w.heap.size, 0, none⟩) 52 52 := by rw [← hA]; kernel_rfl
 have ez : A.tmps.size = 54 := by rw [← hA]; kernel_rfl
 have ed : A.defers = [] := by rw [← hA]; kernel_rfl
 clear hA;show wpList _ _ _ [_] _ _;refine wpList_value rfl (run_assign rfl e1) ?_;have e0 := eval_put_same (a := A) (d := 0) (v := .slice (some ⟨w.heap.size, 0, none⟩) 52 52) (by omega);have ed2 : (A.put (some 0) (.slice (some ⟨w.heap.size, 0, none⟩) 52 52)).defers = [] := ed;generalize A.put (some 0) (.slice (some ⟨w.heap.size, 0, none⟩) 52 52) = B at *;refine wpList_nil ?_
 go_step
 go_step
 go_step
 refine xB (results_tmp rfl _ _ _) ed2 ⟨?_, rfl⟩;rw [getD_of_eval e0];rfl
theorem infoRow : (Tryz.prog.info? 104).map (fun i => (i.zero, i.size, i.bytes)) = some (some (.agg #[.int .i64 0, .int .i64 0, .string ⟨#[]⟩, .string ⟨#[]⟩, .int .i64 0]), 5, 56) := by kernel_rfl
theorem refCs_len (l : List (Int × Int × Nat × Nat × Int)) : (refCs l).length = l.length * 5 := by
 induction l with
 | nil => rfl
 | cons r l ih =>
  unfold refCs at ih ⊢;rw [List.flatMap_cons, List.length_append, ih];simp [refC]; omega
theorem refCs_one {l : List (Int × Int × Nat × Nat × Int)} {u : Value} (h : u ∈ refCs l) : u.oneCell' = true := by unfold refCs at h;obtain ⟨r, _, hr⟩ := List.mem_flatMap.1 h;simp only [refC, List.mem_cons, List.not_mem_nil, or_false] at hr;rcases hr with rfl | rfl | rfl | rfl | rfl <;> rfl
def OwnR (w : World) (base : Nat) (v : Value) (D : List (Int × Int × Nat × Nat × Int)) : Prop := w.ownsRow base 104 5 v D.length (refCs D)
theorem qm (w : World) (base : Nat) : OwnR w base (.slice none 0 0) [] := World.ownsRow_nil w base _ 5
theorem refCs_app (l l' : List (Int × Int × Nat × Nat × Int)) : refCs (l ++ l') = refCs l ++ refCs l' := by simp [refCs]
theorem wpList_append_r {ops : Array Oper} {rest : List Oper} {o : Oper} {a : Act} {w : World} {Q : Exit → Act → World → Prop} (hgd : o.guard = none) (s x : Operand)
 (ho : o.op = .call { callee := .builtin .append, args := #[s, x], argTypes := #[125, 125] }) (base : Nat) (v : Value) (D N : List (Int × Int × Nat × Nat × Int)) (hs : a.eval s = v) (hown : OwnR w base v D)
 (B n : Nat) (hn : n = N.length) (hx : a.eval x = .slice (some ⟨B, 0, none⟩) n n) (hB : B = w.heap.size) (hlen : D.length ≤ 4000) (hlen2 : N.length ≤ 4000) (hbase : base ≤ w.heap.size)
 (h : ∀ v' w', OwnR w' base v' (D ++ N) → (∀ B w1, Below B w1 w → B ≤ base → Below B w1 w') → wpList Tryz.prog ops Q rest (a.put o.dst v') w') :
 wpList Tryz.prog ops Q (o :: rest) a (w.alloc (.cells (refCs N).toArray 104)) := by
 subst hB;subst hn;obtain ⟨i0, hi, hz0, hz1, hz2⟩ := info_parts infoRow;refine wpList_append_own _ hgd s x _ ho base 104 i0 (.agg #[.int .i64 0, .int .i64 0, .string ⟨#[]⟩, .string ⟨#[]⟩, .int .i64 0]) 5 56 Tryz.underlying125 hi hz0 hz1 hz2 rfl (by decide) v _ _ hs (World.ownsRow.alloc hown _) ⟨w.heap.size, 0, none⟩ N.length N.length (refCs N) hx (refCs_len N) ?_ (fun u hu => refCs_one hu) (by unfold maxLen; omega) (by omega) (by rw [World.size_alloc]; omega) ?_
 ·intro j u hj;have hplain : (⟨w.heap.size, 0, none⟩ : Addr).add j = ⟨w.heap.size, 0 + j, none⟩ := by unfold Addr.add; split <;> simp_all
  rw [hplain, World.cell?_alloc_new];simpa using hj
 ·intro v' w' hown' hgr _;refine h v' w' ?_ (fun B w1 hb hB => (hb.alloc (by have := hb.size; omega) _).grown hgr (by rw [World.size_alloc]; omega) (fun k hk => ?_))
  ·unfold OwnR;rw [refCs_app];simpa using hown'
  ·have := (World.ownsRow.lt hown) k hk;omega
def TabB (w : World) (e : Ending) (w' : World) : Prop := ∃ v, e = .returned v ∧ OwnR w' w.heap.size v rows ∧ Below w.heap.size w w'
theorem table_any (w : World) : Calls Tryz.prog 87 #[] w (TabB w) := by
 have HL := xH low_any;have HH := xH high_any;have n1 := xH (show 29 = low.length from rfl);have n2 := xH (show 52 = high.length from rfl);have n3 := xH (show low.length ≤ 4000 by decide);have n4 := xH (show high.length ≤ 4000 by decide);go_enter Tryz.func87, Tryz.ntmps87;go_wp2_with fail
 refine (HL.out _).mono ?_;rintro e w1 ⟨rfl, rfl⟩;go_wp2_with (at_builtin; refine wpList_append_r rfl _ _ rfl w.heap.size (.slice none 0 0) [] low rfl (qm _ _) _ _ rfl rfl rfl (by simp) n3.out (xL _) ?_; intro va wa hoa hba; have HOa := xH hoa; have hwa := hba _ _ (Below.refl w.heap.size w) (xL _); clear hoa hba)
 refine (HH.out _).mono ?_;rintro e w1 ⟨rfl, rfl⟩;go_wp2_with (at_builtin; refine wpList_append_r rfl _ _ rfl w.heap.size va ([] ++ low) high rfl HOa.out _ _ rfl rfl rfl n3.out n4.out hwa.size ?_; intro vb wb hob hbb; have HOb := xH hob; have hwb := hbb _ _ hwa (xL _); clear hob hbb)
 go_ret
 exact ⟨_, rfl, HOb.out, hwb⟩
def rk (k : Nat) : Int × Int × Nat × Nat × Int := rows.getD k (0, 0, 0, 0, 0)
theorem refCs_at {l : List (Int × Int × Nat × Nat × Int)} {k f : Nat} (hk : k < l.length) (hf : f < 5) : (refCs l)[k * 5 + f]? = (refC (l.getD k (0, 0, 0, 0, 0)))[f]? := by
 induction l generalizing k with
 | nil => simp at hk
 | cons r l ih =>
  have hlen : (refC r).length = 5 := rfl;unfold refCs;rw [List.flatMap_cons];cases k with
  | zero =>
   rw [List.getElem?_append_left (by omega)];simp
  | succ k =>
   rw [List.getElem?_append_right (by omega), hlen, show (k + 1) * 5 + f - 5 = k * 5 + f by omega];exact ih (by simpa using hk)
theorem ownR_open {w : World} {base : Nat} {v : Value} (h : OwnR w base v rows) : ∃ g cap : Nat, v = .slice (some ⟨g, 0, none⟩) 81 cap ∧ base ≤ g ∧ g < w.heap.size ∧ 81 ≤ cap ∧ cap ≤ 9223372036854775807 ∧ ∀ k f, k < 81 → f < 5 → w.cell? ⟨g, k * 5 + f, none⟩ = (refC (rk k))[f]? := by
 have h' := h;obtain ⟨_, h2⟩ := h;rcases h2 with ⟨_, hn⟩ | ⟨g, cap, cur, hv, hg, hh, hnc, hcm, hcs, ht⟩
 ·exact absurd hn (by decide)
 ·unfold maxLen at hcm;have hlt : g < w.heap.size := by exact z128
  refine ⟨g, cap, hv, hg, hlt, hnc, by omega, fun k f hk hf => ?_⟩;unfold OwnR at h';rw [hv] at h';have hL : (refCs rows).length = 405 := by rw [refCs_len]; rfl
  rw [h'.cellAt (k * 5 + f) (by omega)];exact refCs_at (l := rows) (k := k) (f := f) hk hf
end ucdw
end
section
namespace setw
open sq
open Go Go.RowKit bulk ucdp ucdw setp
def dups (l : List Int) : List Rg := l.map fun x => (x, x)
theorem dups_has (L : List Int) (c : Int) : Has (dups L) c ↔ c ∈ L := by
 unfold dups Has;constructor
 ·rintro ⟨r, hr, a, b⟩;obtain ⟨x, hx, rfl⟩ := List.mem_map.1 hr;have : c = x := by simp only at a b; omega
  rw [this];exact hx
 ·intro h;exact ⟨(c, c), List.mem_map.2 ⟨c, h, rfl⟩, Int.le_refl _, Int.le_refl _⟩
def caseL (l : List Rg) (u : Bool) : Nat → List Rg
 | 0 => l
 | k + 1 => if hasB l k = true then caseL l u k ++ dups (jy k u) else caseL l u k
theorem caseL_succ (l : List Rg) (u : Bool) (k : Nat) : caseL l u (k + 1) = if hasB l k = true then caseL l u k ++ dups (jy k u) else caseL l u k := rfl
theorem caseL_has (l : List Rg) (u : Bool) (c : Int) : ∀ k : Nat, Has (caseL l u k) c ↔ Has l c ∨ ∃ d : Int, 0 ≤ d ∧ d < k ∧ Has l d ∧ c ∈ jy d u
 | 0 => by
  simp only [caseL];constructor
  ·exact Or.inl
  ·rintro (h | ⟨d, h0, h1, _⟩)
   ·exact h
   ·omega
 | k + 1 => by
  have ih := caseL_has l u c k;rw [caseL_succ];by_cases hk : hasB l k = true
  ·rw [if_pos hk, zo, ih, dups_has];constructor
   ·rintro ((h | ⟨d, h0, h1, h2⟩) | h)
    ·exact Or.inl h
    ·exact Or.inr ⟨d, h0, by omega, h2⟩
    ·exact Or.inr ⟨k, by omega, by omega, zX.1 hk, h⟩
   ·rintro (h | ⟨d, h0, h1, h2, h3⟩)
    ·exact Or.inl (Or.inl h)
    ·by_cases hd : d = k
     ·subst hd; exact Or.inr h3
     ·exact Or.inl (Or.inr ⟨d, h0, by omega, h2, h3⟩)
  ·rw [if_neg hk, ih];constructor
   ·rintro (h | ⟨d, h0, h1, h2⟩)
    ·exact Or.inl h
    ·exact Or.inr ⟨d, h0, by omega, h2⟩
   ·rintro (h | ⟨d, h0, h1, h2, h3⟩)
    ·exact Or.inl h
    ·by_cases hd : d = k
     ·subst hd; exact absurd (zX.2 h2) hk
     ·exact Or.inr ⟨d, h0, by omega, h2, h3⟩
def caseM (l : List Rg) (u : Bool) : List Rg := if hasB l 8490 = true then caseL l u 1201 ++ dups (jy 8490 u) else caseL l u 1201
theorem caseM_has {l : List Rg} {u : Bool} (hl : InR l) (c : Int) : (Has (caseM l u) c ∧ 0 ≤ c ∧ c ≤ min 1114111 1114111) ↔ Has l c ∨ ∃ d, Has l d ∧ c ∈ jy d u := by
 have e : Has (caseM l u) c ↔ Has l c ∨ ∃ d, Has l d ∧ c ∈ jy d u := by
  unfold caseM;by_cases hk : hasB l 8490 = true
  ·rw [if_pos hk, zo, caseL_has, dups_has];constructor
   ·rintro ((h | ⟨d, _, _, h2⟩) | h)
    ·exact Or.inl h
    ·exact Or.inr ⟨d, h2⟩
    ·exact Or.inr ⟨8490, zX.1 hk, h⟩
   ·rintro (h | ⟨d, h2, h3⟩)
    ·exact Or.inl (Or.inl h)
    ·rcases others_where (c := d) (u := u) (fun e => by rw [e] at h3; cases h3) with h | h
     ·exact Or.inl (Or.inr ⟨d, h.1, by omega, h2, h3⟩)
     ·subst h; exact Or.inr h3
  ·rw [if_neg hk, caseL_has];constructor
   ·rintro (h | ⟨d, _, _, h2⟩)
    ·exact Or.inl h
    ·exact Or.inr ⟨d, h2⟩
   ·rintro (h | ⟨d, h2, h3⟩)
    ·exact Or.inl h
    ·rcases others_where (c := d) (u := u) (fun e => by rw [e] at h3; cases h3) with h | h
     ·exact Or.inr ⟨d, h.1, by omega, h2, h3⟩
     ·subst h; exact absurd (zX.2 h2) hk
 rw [e];constructor
 ·exact fun h => h.1
 ·intro h;refine ⟨h, ?_⟩;rcases h with h | ⟨d, _, h⟩
  ·have := has_bd hl h; omega
  ·have := others_mem h; omega
theorem zZ (v : Value) (l : List Rg) (most : Int) (w : World) (hv : RsAt w v l) (hl : l.length ≤ 600000) (h1 : -9223372036854775808 ≤ most) (h2 : most ≤ 9223372036854775807) :
 Calls Tryz.prog 34 #[v, .int .i64 most] w (DocS (fun c => Has l c ∧ 0 ≤ c ∧ c ≤ min most 1114111) w) := by
 have HJ := xH (join0w_any v (.slice none 0 0) l [] most w hv (rs_nil w) hl (by simp) h1 h2);clear hv;go_enter Tryz.func34, Tryz.ntmps34;go_wp2_with fail
 refine HJ.out.mono ?_;rintro e w1 ⟨v1, S, rfl, hS, hh, ho, hb⟩;have HS := xH hS;have HH := xH hh;have HO := xH ho;clear hS hh ho;go_wp2_with fail
 go_ret
 refine ⟨_, S, rfl, HS.out, fun c => ?_, HO.out, hb⟩;rw [HH.out, qB_union];constructor
 ·rintro ⟨a, b, c | c⟩
  ·exact ⟨c, a, b⟩
  ·exact absurd c (has_nil _)
 ·rintro ⟨a, b, c⟩;exact ⟨b, c, Or.inl a⟩
end setw
end
section
namespace rtw
open sq
open Go Go.RowKit Go.Maps utfp utfw ucdp setp setw prp tkp rtp
open tkw (sg sg_bd vJ jM qK tkR qO qM vI)
theorem yf {fn : Func} {t u v x : Tmp} (h : fn.results = #[.tmp t, .tmp u, .tmp v, .tmp x]) (tmps : Array Value) (P : Program) (w : World) :
 (results fn tmps).run P w = .ok (.tuple #[tmps.getD t undef, tmps.getD u undef, tmps.getD v undef, tmps.getD x undef]) w := by
 simp [results, h]
theorem qE {fn : Func} {t u v x y : Tmp} (h : fn.results = #[.tmp t, .tmp u, .tmp v, .tmp x, .tmp y]) (tmps : Array Value) (P : Program) (w : World) :
 (results fn tmps).run P w = .ok (.tuple #[tmps.getD t undef, tmps.getD u undef, tmps.getD v undef, tmps.getD x undef, tmps.getD y undef]) w := by
 simp [results, h]
theorem qj {w W : World} {B : Nat} {S : ByteArray} {p : Pt} {v : Value} {r r' : G} (h : FG w B S p W) (hr : r' = r) {k : Nat} (ho : OwnR W k v (gtS r)) (hk : B ≤ k) : GotB w r' (.returned (.agg (gtC v r))) (W.setRow (B + 1) (gtC v r)) := by subst hr;exact fg_end h ho hk
def RgB (w : World) (l : List Rg) (e : Ending) (w' : World) : Prop := ∃ v, e = .returned v ∧ OwnR w' w.heap.size v l ∧ Below w.heap.size w w'
theorem most_min (p : Pt) : min p.most 1114111 = p.most := by have := vH p; omega
theorem cut_any (S : ByteArray) (p : Pt) (w : World) (hP : Pat S p) (v : Value) (l : List Rg) (hv : RsAt w v l) (hl : l.length ≤ 600000) : Calls Tryz.prog 69 #[txV S p, v] w (RgB w (normR p.most l)) := by
 have hn := hP.n;have h2 := hP.le;have HP := xH hP;have HN := xH hn;clear hP;have hm1 := vH p;have hm2 := most_ge p;have HV := xH hv;obtain ⟨y1, y2, rfl⟩ := jg hv;clear hv;unfold txV txC;go_enter Tryz.func69, Tryz.ntmps69;go_upto_region 1 with (fail)
 generalize hW : (w.alloc _) = W;have F0 := xH (zG (S := S) (p := p) hW);obtain ⟨B, hB⟩ : ∃ B, w.heap.size = B := ⟨_, rfl⟩;rw [hB] at F0 ⊢;clear hW hB;obtain ⟨c0, c1, c2, c3⟩ := F0.out.c;have HV1 := xH (jl HV.out F0.out.bel);go_wp2_with fail
 refine xM (zZ _ l p.most _ HV1.out hl (by omega) (by omega)) ?_;rintro e w1 ⟨v1, Z, rfl, hS, hh, ho, hb⟩;have HO := xO F0.out.x ho;rw [normR_only (l := l) hm1 hS fun c => by rw [hh]; simp only [most_min]] at HO;exact z78
theorem notL_only {p : Pt} {l S : List Rg} (hS : Canon S) (h : ∀ c, Has S c ↔ 0 ≤ c ∧ c ≤ min p.most 1114111 ∧ qB 2 l [] c = true) : S = notL p l :=
 notR_only (vH p) hS (ja (vH p) l) fun c => by
  rw [h, most_min, qB_not, normR_has (vH p)];constructor
  ·rintro ⟨a, b, d⟩;exact ⟨a, b, fun e => d e.1⟩
  ·rintro ⟨a, b, d⟩;exact ⟨a, b, fun e => d ⟨e, a, b⟩⟩
theorem not_any (S : ByteArray) (p : Pt) (w : World) (hP : Pat S p) (v : Value) (l : List Rg) (hv : RsAt w v l) (hl : l.length ≤ 100000) : Calls Tryz.prog 94 #[txV S p, v] w (RgB w (notL p l)) := by
 have hn := hP.n;have h2 := hP.le;have HP := xH hP;have HN := xH hn;clear hP;have hm1 := vH p;have hm2 := most_ge p;have HV := xH hv;obtain ⟨y1, y2, rfl⟩ := jg hv;clear hv;unfold txV txC;go_enter Tryz.func94, Tryz.ntmps94;go_upto_region 1 with (fail)
 generalize hW : (w.alloc _) = W;have F0 := xH (zG (S := S) (p := p) hW);obtain ⟨B, hB⟩ : ∃ B, w.heap.size = B := ⟨_, rfl⟩;rw [hB] at F0 ⊢;clear hW hB;obtain ⟨c0, c1, c2, c3⟩ := F0.out.c;have HV1 := xH (jl HV.out F0.out.bel);go_wp2_with fail
 refine xM (join2_any _ (.slice none 0 0) l [] p.most _ HV1.out (rs_nil _) hl (by decide) (by omega) (by omega)) ?_;rintro e w1 ⟨v1, Z, rfl, hS, hh, ho, hb⟩;have HO := xO F0.out.x ho;rw [notL_only hS hh] at HO;exact z78
theorem has_lt {S : ByteArray} {p : Pt} (h : Pat S p) {l : List UInt8} {i : Nat} (e : p.has l i = true) : i + l.length ≤ p.n ∨ l = [] := by
 have e2 := (has_list _ (pat_g h) (pat_len h) l i).1 e;have h3 := congrArg List.length e2;rw [List.length_take, List.length_drop, ← pat_len h] at h3;rcases l with _ | ⟨c, l⟩
 ·exact Or.inr rfl
 ·simp only [List.length_cons] at h3 ⊢;omega
theorem qR {S : ByteArray} {p : Pt} (h : Pat S p) {c : UInt8} {l : List UInt8} {i : Nat} (e : p.has (c :: l) i = true) : i + (l.length + 1) ≤ p.n := by
 rcases has_lt h e with h | h
 ·exact h
 ·cases h
theorem zQ (S : ByteArray) (p : Pt) (w : World) (hP : Pat S p) (a : Nat) (ha : a ≤ p.n) : Calls Tryz.prog 76 #[txV S p, .int .i64 a] w (fun e w' => e = .returned (.tuple #[.int .i64 (sgn p a).1, .int .i64 (sgn p a).2.1, .int .i64 ((sgn p a).2.2.1 : Nat), .bool (sgn p a).2.2.2]) ∧ Below w.heap.size w w') := by
 have hn := hP.n;have h2 := hP.le;have HP := xH hP;have HN := xH hn;clear hP;rw [hn] at ha;unfold txV txC;go_enter Tryz.func76, Tryz.ntmps76;go_upto_region 1 with (fail)
 generalize hW : (w.alloc _) = W;have F0 := xH (zG (S := S) (p := p) hW);obtain ⟨B, hB⟩ : ∃ B, w.heap.size = B := ⟨_, rfl⟩;rw [hB] at F0 ⊢;clear hW hB;obtain ⟨c0, c1, c2, c3⟩ := F0.out.c;go_wp2_with fail
 refine xM (qG S p _ HP.out (a) (by omega) [45] ⟨#[45]⟩ rfl (by decide) (Or.inl (by omega))) ?_;rintro e w1 ⟨rfl, hb⟩;have F1 := xH (F0.out.step hb);clear hb c0 c1 c2 c3;obtain ⟨c0, c1, c2, c3⟩ := F1.out.c;cases h45 : p.has [45] a with
 | true =>
  have hi := qR HP.out h45;have HR0 := xH (show p.sign a = (1, a + 1) by unfold Pt.sign; simp only [h45]; rfl);have HZ := xH (show num p (a + 1) = ((num p (a + 1)).1, (num p (a + 1)).2.1, (num p (a + 1)).2.2) from rfl);go_wp2_with fail
  refine xM (vY S p _ HP.out (a + 1) (by omega)) ?_;rintro e w2 ⟨rfl, hb⟩;have F2 := xH (F1.out.step hb);clear hb c0 c1 c2 c3;obtain ⟨c0, c1, c2, c3⟩ := F2.out.c;have HR1 := xH (show sgn p a = if (num p (a + 1)).2.1 = a + 1 then (0, 1, a, false) else ((num p (a + 1)).1, 1, (num p (a + 1)).2.1, (num p (a + 1)).2.2) by unfold sgn; rw [HR0.out]);clear HZ;generalize num p (a + 1) = q at *;obtain ⟨q1, q2, q3⟩ := q;simp only at HR1;by_cases hq : q2 = a + 1
  ·have HR := xH (HR1.out.trans (if_pos hq));clear HR1;subst hq;go_wp2_with fail
   refine xB (yf rfl _ _ _) rfl ?_;rw [HR.out];exact ⟨rfl, F2.out.bel⟩
  ·have HR := xH (HR1.out.trans (if_neg hq));clear HR1;have hq2 : ¬ ((q2 : Nat) : Int) = ((a + 1 : Nat) : Int) := by omega
   have hq3 : ¬ ((q2 : Nat) : Int) = (a : Int) + 1 := by omega
   go_wp2_with fail
   refine xB (yf rfl _ _ _) rfl ?_;rw [HR.out];exact ⟨rfl, F2.out.bel⟩
 | false =>
  go_wp2_with fail
  refine xM (qG S p _ HP.out (a) (by omega) [43] ⟨#[43]⟩ rfl (by decide) (Or.inl (by omega))) ?_;rintro e w2 ⟨rfl, hb⟩;have F2 := xH (F1.out.step hb);clear hb c0 c1 c2 c3;obtain ⟨c0, c1, c2, c3⟩ := F2.out.c;cases h43 : p.has [43] a with
  | true =>
   have hi := qR HP.out h43;have HR0 := xH (show p.sign a = (2, a + 1) by unfold Pt.sign; simp only [h45, h43]; rfl);have HZ := xH (show num p (a + 1) = ((num p (a + 1)).1, (num p (a + 1)).2.1, (num p (a + 1)).2.2) from rfl);go_wp2_with fail
   refine xM (vY S p _ HP.out (a + 1) (by omega)) ?_;rintro e w3 ⟨rfl, hb⟩;have F3 := xH (F2.out.step hb);clear hb c0 c1 c2 c3;obtain ⟨c0, c1, c2, c3⟩ := F3.out.c;have HR1 := xH (show sgn p a = if (num p (a + 1)).2.1 = a + 1 then (0, 2, a, false) else ((num p (a + 1)).1, 2, (num p (a + 1)).2.1, (num p (a + 1)).2.2) by unfold sgn; rw [HR0.out]);clear HZ;generalize num p (a + 1) = q at *;obtain ⟨q1, q2, q3⟩ := q;simp only at HR1;by_cases hq : q2 = a + 1
   ·have HR := xH (HR1.out.trans (if_pos hq));clear HR1;subst hq;exact z127
   ·have HR := xH (HR1.out.trans (if_neg hq));clear HR1;have hq2 : ¬ ((q2 : Nat) : Int) = ((a + 1 : Nat) : Int) := by omega
    have hq3 : ¬ ((q2 : Nat) : Int) = (a : Int) + 1 := by omega
    exact z127
  | false =>
   have HR0 := xH (show p.sign a = (0, a) by unfold Pt.sign; simp only [h45, h43]; rfl);have HZ := xH (show num p (a) = ((num p (a)).1, (num p (a)).2.1, (num p (a)).2.2) from rfl);go_wp2_with fail
   refine xM (vY S p _ HP.out (a) (by omega)) ?_;rintro e w3 ⟨rfl, hb⟩;have F3 := xH (F2.out.step hb);clear hb c0 c1 c2 c3;obtain ⟨c0, c1, c2, c3⟩ := F3.out.c;have HR1 := xH (show sgn p a = if (num p (a)).2.1 = a then (0, 0, a, false) else ((num p (a)).1, 0, (num p (a)).2.1, (num p (a)).2.2) by unfold sgn; rw [HR0.out]);clear HZ;generalize num p (a) = q at *;obtain ⟨q1, q2, q3⟩ := q;simp only at HR1;by_cases hq : q2 = a
   ·have HR := xH (HR1.out.trans (if_pos hq));clear HR1;subst hq;exact z127
   ·have HR := xH (HR1.out.trans (if_neg hq));clear HR1;have hq2 : ¬ ((q2 : Nat) : Int) = ((a : Nat) : Int) := by omega
    have hq3 : ¬ ((q2 : Nat) : Int) = (a : Int) := by omega
    exact z127
end rtw
end
section
namespace rtw
open sq
open Go Go.RowKit rtp setp setw
open tkw (qM)
theorem yR {ops : Array Oper} {rest : List Oper} {o : Oper} {a : Act} {w : World} {Q : Exit → Act → World → Prop} {g b : Nat} {old : Array Value} {v : Value} {D : List Rg} {r : G} {x y : Operand} (HG : Hid (w.heap[g]? = some (.cells old 70 (0, 0)))) (hz : old.size = 16) (HO : Hid (OwnR w b v D))
 (h : wpList Tryz.prog ops Q rest a (w.setRow g (gtC v r))) (hgd : o.guard = none := by rfl) (hd : o.dst = none := by rfl) (ho : o.op = .store 70 x y := by rfl) (hx : a.eval x = .pointer (some ⟨g, 0, none⟩) := by rfl) (hy : a.eval y = .agg (gtC v r) := by rfl) : wpList Tryz.prog ops Q (o :: rest) a w :=
 qJ hgd hd x y ho g hx old _ HG.out hz (jw v _) (jO HO.out _) hy h
theorem yW {fn : Func} {q : Tmp} {a : Act} {w W : World} {B k : Nat} {S : ByteArray} {p : Go.Proofs.YtikjhfmmfpeaoaaGreatDoor.tkp.Pt} {old : Array Value} {v : Value} {r r' : G} (HG : Hid (W.heap[B + 1]? = some (.cells old 70 (0, 0)))) (F : Hid (FG w B S p W)) (HR : Hid (r' = r)) (HO : Hid (OwnR W k v (gtS r)))
 (hk : B ≤ k := by exact xL _) (h : fn.results = #[.cell q 70] := by rfl) (hp : a.tmps.getD q undef = .pointer (some ⟨B + 1, 0, none⟩) := by rfl) (hd : a.defers = [] := by rfl) : bodyPost Tryz.prog fn (GotB w r') .ret a (W.setRow (B + 1) (gtC v r)) :=
 xB (qW h _ _ (B + 1) _ hp (setRow_heap _ _ _ _ _ _ HG.out) (jw v _)) hd (qj F.out HR.out HO.out hk)
theorem yJ {w W W' : World} {B : Nat} {S : ByteArray} {p : Go.Proofs.YtikjhfmmfpeaoaaGreatDoor.tkp.Pt} {r : G} {e : Ending} (F : Hid (FG w B S p W)) (h : GotB W r e W') : ∃ v, e = .returned (.agg (gtC v r)) ∧ Hid (OwnR W' B v (gtS r)) ∧ Hid (FG w B S p W') ∧ ∃ old, Hid (W'.heap[B + 1]? = some (.cells old 70 (0, 0))) ∧ old.size = 16 := by obtain ⟨v, e, ho, hb⟩ := h;have F1 := F.out.step hb;obtain ⟨old, a, b⟩ := F1.g;exact ⟨v, e, xH (qM ho (Nat.le_of_lt F.out.x.lt)), xH F1, old, xH a, b⟩
end rtw
end
section
namespace ucdw
open sq
open Go Go.RowKit Go.ChangeShapes Go.WideShapes Go.ChangeAt ucdp
theorem own : ownKnob Tryz.prog.godebug = none := by kernel_rfl
theorem laidOut : laidOutB Tryz.prog = true := by kernel_rfl
theorem gThrees : Tryz.prog.globalNamed "lurcher/ucd.threes" = some 0 := by kernel_rfl
theorem gThreesType : (Tryz.prog.globals[0]?).map (·.type) = some 153 := by kernel_rfl
theorem cellsThree : Tryz.prog.cellsOf 152 = 3 := by kernel_rfl
theorem cellsInt : Tryz.prog.cellsOf 3 = 1 := by kernel_rfl
theorem cells_of_tab2 {H : Type} {enc : TypeId × Value → H} {P : Program} {w : World} {base : Nat} {sp : Nat → Bool} {held : Bool} {fuel : Nat} {t e i : TypeId} {n m : Nat} {k : IntKind} {cs : List Value} {zss : List (List Int)} {p : List MemPlace}
 (ht : P.underlying t = some (.array n e)) (he : P.underlying e = some (.array m i)) (hi : P.underlying i = some (.int k)) (hci : P.cellsOf i = 1) (hce : P.cellsOf e = m)
 (h : DataW.trod enc P w base sp held fuel t cs = some (.agg (zss.map fun zs => Lib.tabData k zs), p)) :
 ∀ a b, a < n → b < m → cs[a * m + b]? = ((zss.getD a []).map fun z => Value.int k z)[b]? := by
 cases fuel with
 | zero => simp [DataW.trod] at h
 | succ fuel =>
  simp only [DataW.trod, ht, hce] at h;split at h
  ·rename_i hl;obtain ⟨xs, hm, hx⟩ := Option.map_eq_some_iff.1 h;have hxs : xs.map (·.1) = zss.map fun zs => (Lib.tabData k zs : DataW H) := by have := congrArg Prod.fst hx;simpa using this
   intro a b ha hb;obtain ⟨y, hy, hf⟩ := Lib.mapM_at hm a a (by simp [ha]);have h2 : (xs.map (·.1))[a]? = some y.1 := by simp [hy]
   rw [hxs] at h2;simp only [List.getElem?_map, Option.map_eq_some_iff] at h2;obtain ⟨zs, hz, hz2⟩ := h2;have hf2 : DataW.trod enc P w base sp held fuel e ((cs.drop (a * m)).take m) = some (Lib.tabData k zs, y.2) := by rw [hz2]; exact hf
   have hc := Lib.cells_of_tab he hi hci hce hf2;have h1 : cs[a * m + b]? = ((cs.drop (a * m)).take m)[b]? := by rw [List.getElem?_take, if_pos hb, List.getElem?_drop]
   rw [h1, hc];simp [List.getD, hz]
  ·cases h
def laidList : List (String × DataW Unit) := [("lurcher/ucd.threes", Rows.laid_lurcher_ucd_threes)]
theorem tab3_of {W : World} (h : laidMetH Tryz.prog laidList W) : Tab3 W := by
 have h1 : laidMet Tryz.prog laidList W := h;obtain ⟨ps, ⟨g', t', cs, fuel, p, q, hg', ht', hvar, hd, _, _⟩, _⟩ := h1;obtain rfl := Option.some.inj (gThrees.symm.trans hg');obtain rfl := Option.some.inj (gThreesType.symm.trans ht');have hd2 : DataW.trod _ Tryz.prog W _ _ _ fuel 153 cs.toList = some (.agg (([[75, 107, 8490], [83, 115, 383], [181, 924, 956], [931, 962, 963]] : List (List Int)).map fun zs => Lib.tabData .i64 zs), p) := hd;have hc := cells_of_tab2 Tryz.underlying153 Tryz.underlying152 Tryz.underlying3 cellsInt cellsThree hd2;intro i hi;have e := World.var?_cell gThrees hvar i;rw [e];have h2 := hc (i / 3) (i % 3) (by omega) (by omega);rw [show i / 3 * 3 + i % 3 = i by omega] at h2;rw [← Array.getElem?_toList, h2];have hall : ∀ j : Fin 12, ((([[75, 107, 8490], [83, 115, 383], [181, 924, 956], [931, 962, 963]] : List (List Int)).getD (j.val / 3) [])[j.val % 3]?) = some (threes.getD j.val 0) := by decide
 rw [List.getElem?_map, hall ⟨i, hi⟩];rfl
def layCells (l : List Int) : Obj → Obj
 | .cells _ t frozen => .cells (l.map (Value.int .i64)).toArray t frozen
 | o => o
theorem wf_int {n : Int} (h : (Lit.int .i64 n).wf = true) : -9223372036854775808 ≤ n ∧ n ≤ 9223372036854775807 := by
 have h2 : IntKind.i64.min ≤ n ∧ n ≤ IntKind.i64.max := by simpa [Lit.wf] using h
 rw [show IntKind.i64.min = -9223372036854775808 by decide, show IntKind.i64.max = 9223372036854775807 by decide] at h2;exact h2
end ucdw
end
section
namespace flr
open sq
open Go Go.RowKit Go.ChangeShapes Go.WideShapes Go.ChangeAt utfp utfw
theorem cellsByte : Tryz.prog.cellsOf 5 = 1 := by kernel_rfl
theorem bytesByte : Tryz.prog.bytesOf 5 = 1 := by kernel_rfl
theorem recBytes : Tryz.prog.readableRec 22 = true := by kernel_rfl
theorem rowBytes : (22 : TypeId) < Tryz.prog.types.size := of_decide_eq_true (by kernel_rfl)
theorem wf_byte {n : Int} (h : (Lit.int .u8 n).wf = true) : 0 ≤ n ∧ n ≤ 255 := by
 have h2 : IntKind.u8.min ≤ n ∧ n ≤ IntKind.u8.max := by simpa [Lit.wf] using h
 rw [show IntKind.u8.min = 0 by decide, show IntKind.u8.max = 255 by decide] at h2;exact h2
theorem open_bytes {H : Type} {enc : TypeId × Value → H} {W : World} {base : Nat} {v : Value} {d : DataW H} {ps : List MemPlace} (hval : Value.okWide Tryz.prog W .any base 22 v)
 (h : DataW.Trod enc Tryz.prog W 0 (fun _ => true) true 22 v d ps) (hsz : ∀ elems spare, d = .slice elems spare → (elems.length + spare.length) * Tryz.prog.bytesOf 5 ≤ reachBytes) :
 ∃ n g, Sl W v n g := by
 obtain ⟨a0, len, cap, rfl⟩ := okWide_slice Tryz.underlying22 hval;obtain ⟨fuel, hf⟩ := h;rcases open_ints Tryz.underlying22 Tryz.underlying5 cellsByte hf with ⟨hcs, _⟩ | ⟨a, len', cap', zs, hcs, _, hl, hm, hz, hx, hcell, hwz⟩
 ·simp [Value.cells] at hcs;obtain ⟨rfl, rfl, rfl⟩ := hcs;exact ⟨0, fun _ => 0, fun _ => by simp, by simp, Or.inl ⟨rfl, _, _, rfl, by omega⟩⟩
 ·simp [Value.cells] at hcs;obtain ⟨rfl, rfl, rfl⟩ := hcs;simp only [Prod.mk.injEq] at hx;obtain ⟨rfl, _⟩ := hx;simp only [if_true] at hz;have hr := hsz _ _ rfl;rw [bytesByte] at hr;simp only [lits, List.length_map, List.length_take, List.length_drop, reachBytes] at hr;unfold maxLen at hm;have hgb : ∀ i, 0 ≤ zs.getD i 0 ∧ zs.getD i 0 ≤ 255 := by
   intro i;by_cases hi : i < zs.length
   ·simp only [List.getD, List.getElem?_eq_getElem hi, Option.getD_some];exact wf_byte (hwz _ (List.getElem_mem hi))
   ·simp [List.getD, List.getElem?_eq_none (Nat.le_of_not_lt hi)]
  by_cases h0 : len = 0
  ·subst h0;exact ⟨0, fun _ => 0, fun _ => by simp, by simp, Or.inl ⟨rfl, _, _, rfl, by omega⟩⟩
  ·obtain ⟨b, off, spot⟩ := a;have c0 := hcell 0 (by omega);cases spot with
   | some s =>
    exfalso;have : ((⟨b, off, some s⟩ : Addr).add 0).spot.isSome = true := by unfold Addr.add; split <;> simp_all
    unfold World.cell? at c0;split at c0
    ·simp [this] at c0
    ·simp at c0
   | none =>
    refine ⟨len, fun i => zs.getD i 0, hgb, by omega, Or.inr ⟨b, off, cap, rfl, ⟨hl, by omega⟩, fun i hi => ?_⟩⟩;have := hcell i (by omega);have hplain : (⟨b, off, none⟩ : Addr).add i = ⟨b, off + i, none⟩ := by unfold Addr.add; split <;> simp_all
    rw [hplain] at this;exact this
end flr
end
section
namespace rtw
open sq
open Go Go.RowKit Go.Maps utfp utfw ucdp setp setw prp tkp rtp
open tkw (sg sg_bd vJ jM qK tkR qO qM vI)
theorem sub_ext {S : ByteArray} {p : Pt} (h : Pat S p) {a b : Nat} (hab : a ≤ b) (hb : b ≤ p.n) : S.extract a b = p.sub a b := by
 have hz : (S.extract a b).size = b - a := by rw [ByteArray.size_extract, ← h.n]; omega
 apply toList_inj;rw [Lib.toList_data, Lib.toList_data];apply List.ext_getElem
 ·rw [Array.length_toList, Array.length_toList];exact hz.trans (tkw.sub_size p a b).symm
 ·intro i h1 h2;have h3 : i < (p.sub a b).size := by rw [Array.length_toList] at h2; exact h2
  have h4 : i < (S.extract a b).size := by rw [Array.length_toList] at h1; exact h1
  have e1 := tkw.sub_at (jS h) h3;rw [Array.getElem_toList, Array.getElem_toList];have e2 : ((S.extract a b)[i]'h4) = S[a + i]'(by rw [hz] at h4; rw [h.n] at hb; omega) := ByteArray.getElem_extract h4;have e3 := gb h (a + i) (by rw [hz] at h4; rw [h.n] at hb; omega);rw [← e2, ← e1] at e3;exact UInt8.toNat_inj.1 (Int.ofNat_inj.1 e3)
def NameRel (w : World) (B : Nat) (S : ByteArray) (p : Pt) (a : Nat) (vi : Value) (wr : World) : Prop :=
 ∃ l : Nat, a + l ≤ S.size ∧ Hid (∀ i, i < l → a + i < p.n ∧ isWrd (p.g (a + i)) = true) ∧ vi = .int .i64 ((a + l : Nat) : Int) ∧ FR w B S p wr
theorem name_of {p : Pt} {a l : Nat} (hp : p.n ≤ 1000) (h : ∀ i, i < l → a + i < p.n ∧ isWrd (p.g (a + i)) = true) (hs : a + l = p.n ∨ isWrd (p.g (a + l)) = false) : p.name a = (a + l, decide (0 < l) && !isDig (p.g a) && decide (l ≤ 32)) := by
 have hl : l ≤ 1000 := by
  rcases l with _ | l
  ·omega
  ·have := (h l (by omega)).1; omega
 have hr : p.run isWrd 1000 a = a + l := run_stop h hs hl;unfold Pt.name;rw [hr, Nat.add_sub_cancel_left]
 congr 4
 simp
theorem zh {p : Pt} {a : Nat} (h : a ≤ p.n) : a ≤ (p.name a).1 ∧ (p.name a).1 ≤ p.n := ⟨(tkw.run_bd h).1, (tkw.run_bd h).2.1⟩
def NamB (p : Pt) (a : Nat) (w : World) (e : Ending) (w' : World) : Prop := e = .returned (.tuple #[.string (p.sub a (p.name a).1), .int .i64 ((p.name a).1 : Nat), .bool (p.name a).2]) ∧ Below w.heap.size w w'
theorem wrd_let {c : Int} (h : isLet c = true) : isWrd c = true := by simp [isWrd, h]
theorem wrd_dig {c : Int} (h : isDig c = true) : isWrd c = true := by simp [isWrd, h]
theorem wrd_us : isWrd 95 = true := by decide
theorem wrd_no {c : Int} (h1 : isLet c = false) (h2 : isDig c = false) (h3 : ¬ c = 95) : isWrd c = false := by simp [isWrd, h1, h2, h3]
theorem name_any (S : ByteArray) (p : Pt) (w : World) (hP : Pat S p) (a : Nat) (ha : a ≤ p.n) : Calls Tryz.prog 66 #[txV S p, .int .i64 a] w (NamB p a w) := by
 have hn := hP.n;have h2 := hP.le;have HP := xH hP;have HN := xH hn;clear hP;rw [hn] at ha;clear hn;unfold txV txC;go_enter Tryz.func66, Tryz.ntmps66;go_upto_region 1 with (fail)
 generalize hW : (w.alloc _) = W;have F0 := xH (zG (S := S) (p := p) hW);obtain ⟨B, hB⟩ : ∃ B, w.heap.size = B := ⟨_, rfl⟩;rw [hB] at F0 ⊢;clear hW hB;obtain ⟨c0, c1, c2, c3⟩ := F0.out.c;clear c0 c1 c2 c3;go_wp2_with fail
 go_loopw [1] (fun vi wr => NameRel w B S p a vi wr) (fun vi _ => S.size - (intOf vi).toNat)
 case atStart => exact ⟨0, ha, xH (fun i h => absurd h (Nat.not_lt_zero i)), rfl, F0.out⟩
 case round =>
  obtain ⟨l, hl, hd, rfl, hF⟩ := hrel;have F1 := xH hF;clear hF;obtain ⟨c0, c1, c2, c3⟩ := F1.out.c;have hgb := gb HP.out;by_cases hlt : a + l < S.size
  ·obtain ⟨b0, b1⟩ := jS HP.out (a + l);go_wp2_with fail
   refine (letter_any _ _ b0 b1).mono ?_;rintro e w1 ⟨rfl, rfl⟩;cases hlet : isLet (p.g (a + l)) with
   | true =>
    go_wp2_with fail
    refine ⟨⟨l + 1, by omega, xH (fun i hi => by
     by_cases e : i = l
     ·subst e; exact ⟨by rw [HN.out]; exact hlt, wrd_let hlet⟩
     ·exact hd.out i (by omega)), rfl, F1.out⟩, by simp only [intOf]; omega⟩
   | false =>
    go_wp2_with fail
    refine (digit_any _ _ b0 b1).mono ?_;rintro e w1 ⟨rfl, rfl⟩;cases hdg : isDig (p.g (a + l)) with
    | true =>
     go_wp2_with fail
     refine ⟨⟨l + 1, by omega, xH (fun i hi => by
      by_cases e : i = l
      ·subst e; exact ⟨by rw [HN.out]; exact hlt, wrd_dig hdg⟩
      ·exact hd.out i (by omega)), rfl, F1.out⟩, by simp only [intOf]; omega⟩
    | false =>
     by_cases hus : p.g (a + l) = 95
     ·have hb : (p.g (a + l) == 95) = true := by simp [hus]
      go_wp2_with fail
      refine ⟨⟨l + 1, by omega, xH (fun i hi => by
       by_cases e : i = l
       ·subst e; exact ⟨by rw [HN.out]; exact hlt, by rw [hus]; exact wrd_us⟩
       ·exact hd.out i (by omega)), rfl, F1.out⟩, by simp only [intOf]; omega⟩
     ·have hb : (p.g (a + l) == 95) = false := by simp [hus]
      have HL := xH HN.out;have HNM := xH (name_of (l := l) (by rw [HN.out]; exact h2) hd.out (Or.inr (wrd_no hlet hdg hus)));exact z8
  ·have HL := xH HN.out;have HNM := xH (name_of (l := l) (by rw [HN.out]; exact h2) hd.out (Or.inl (by rw [HN.out]; omega)));exact z8
theorem FG.low {w W W' : World} {B : Nat} {S : ByteArray} {p : Pt} (h : FG w B S p W) (hb : Below (B + 2) W W') : FG w B S p W' :=
 ⟨⟨h.hB, h.below.trans (hb.mono (by omega)), h.x.below hb (by omega)⟩, by obtain ⟨old, h1, h2⟩ := h.g; exact ⟨old, (hb.block _ (by omega)).trans h1, h2⟩⟩
theorem FG.sz {w W : World} {B : Nat} {S : ByteArray} {p : Pt} (h : FG w B S p W) : B + 2 ≤ W.heap.size := by obtain ⟨old, h1, _⟩ := h.g;have := zi h1;omega
theorem quant_any (S : ByteArray) (p : Pt) (w : World) (hP : Pat S p) (i b : Nat) (n m : Int) (hb : b ≤ p.n) : Calls Tryz.prog 48 #[txV S p, .int .i64 i, .int .i64 b, .int .i64 n, .int .i64 m] w (GotB w (quan p i b n m)) := by
 have hn := hP.n;have h2 := hP.le;have HP := xH hP;have HN := xH hn;clear hP;rw [hn] at hb;clear hn;have hi3 : b ≤ 1000 := by omega
 have HBb := xH hb;clear hb;unfold txV txC;go_enter Tryz.func48, Tryz.ntmps48;go_upto_region 1 with (fail)
 generalize hW : (w.alloc _).alloc _ = W;have F0 := xH (fg_start (S := S) (p := p) hW);obtain ⟨B, hB⟩ : ∃ B, w.heap.size = B := ⟨_, rfl⟩;rw [hB] at F0 ⊢;clear hW hB;obtain ⟨c0, c1, c2, c3⟩ := F0.out.c;go_upto_region 2 with (fail)
 generalize hW2 : World.alloc _ _ = W2;have F1 := xH (F0.out.low (by rw [← hW2]; exact (Below.refl _ _).alloc F0.out.sz _) : FG w B S p W2);obtain ⟨T, hT⟩ : ∃ T, W.heap.size = T := ⟨_, rfl⟩;have HTB := xH (show B + 2 ≤ T by rw [← hT]; exact F0.out.sz);have HT1 : Hid (W2.heap[T]? = some (.cells (tkR (.slice none 0 0) { kind := 9, n := n, m := m }) 68 (0, 0))) := xH (by rw [← hW2, ← hT]; exact heap_alloc_new _ _);rw [hT];clear hW2 hT c0 c1 c2 c3;obtain ⟨c0, c1, c2, c3⟩ := F1.out.c;go_wp2_with fail
 refine xM (qG S p _ HP.out b (by omega) [63] ⟨#[63]⟩ rfl (by decide) (Or.inl (by rw [HN.out]; exact HBb.out))) ?_;rintro e w2 ⟨rfl, hb⟩;have F2 := xH (F1.out.step hb);have HT2 := xH ((hb.block T (zi HT1.out)).trans HT1.out);clear hb c0 c1 c2 c3;obtain ⟨c0, c1, c2, c3⟩ := F2.out.c;cases h63 : p.has [63] b with
 | true =>
  have HR := xH (show quan p i b n m = gtok { kind := 9, n := n, m := m, mode := 1 } i (b + 1) by unfold quan Pt.mode; simp only [h63]; rfl);have ct : w2.cell? ⟨T, 8, none⟩ = some (.int .i64 0) := by simp [World.cell?, HT2.out, tkR]
  have cf : w2.frozen? ⟨T, 8, none⟩ = false := by simp [World.frozen?, HT2.out]
  have HS : Hid ((w2.setCell ⟨T, 8, none⟩ (.int .i64 1)).heap[T]? = some (.cells (tkR (.slice none 0 0) { kind := 9, n := n, m := m, mode := 1 }) 68 (0, 0))) := xH (tkw.heap_set HT2.out);have F3 := xH (F2.out.low ((Below.refl _ w2).setCell (p := ⟨T, 8, none⟩) HTB.out (.int .i64 1)));clear c0 c1 c2 c3;obtain ⟨c0, c1, c2, c3⟩ := F3.out.c;go_wp2_with (refine tkw.qX rfl _ rfl T rfl _ HS.out rfl ?_)
  refine xM (qF (.slice none 0 0) ({ kind := 9, n := n, m := m, mode := 1 }) (i) (b + 1) _ (k := B) (qm _ _)) ?_;exact z67
 | false =>
  go_wp2_with fail
  refine xM (qG S p _ HP.out b (by omega) [43] ⟨#[43]⟩ rfl (by decide) (Or.inl (by rw [HN.out]; exact HBb.out))) ?_;rintro e w3 ⟨rfl, hb⟩;have F3 := xH (F2.out.step hb);have HT3 := xH ((hb.block T (zi HT2.out)).trans HT2.out);clear hb c0 c1 c2 c3;obtain ⟨c0, c1, c2, c3⟩ := F3.out.c;cases h43 : p.has [43] b with
  | true =>
   have HR := xH (show quan p i b n m = gtok { kind := 9, n := n, m := m, mode := 2 } i (b + 1) by unfold quan Pt.mode; simp only [h63, h43]; rfl);have ct : w3.cell? ⟨T, 8, none⟩ = some (.int .i64 0) := by simp [World.cell?, HT3.out, tkR]
   have cf : w3.frozen? ⟨T, 8, none⟩ = false := by simp [World.frozen?, HT3.out]
   have HS : Hid ((w3.setCell ⟨T, 8, none⟩ (.int .i64 2)).heap[T]? = some (.cells (tkR (.slice none 0 0) { kind := 9, n := n, m := m, mode := 2 }) 68 (0, 0))) := xH (tkw.heap_set HT3.out);have F4 := xH (F3.out.low ((Below.refl _ w3).setCell (p := ⟨T, 8, none⟩) HTB.out (.int .i64 2)));clear c0 c1 c2 c3;obtain ⟨c0, c1, c2, c3⟩ := F4.out.c;go_wp2_with (refine tkw.qX rfl _ rfl T rfl _ HS.out rfl ?_)
   refine xM (qF (.slice none 0 0) ({ kind := 9, n := n, m := m, mode := 2 }) (i) (b + 1) _ (k := B) (qm _ _)) ?_;exact z68
  | false =>
   have HR := xH (show quan p i b n m = gtok { kind := 9, n := n, m := m } i b by unfold quan Pt.mode; simp only [h63, h43]; rfl);go_wp2_with (refine tkw.qX rfl _ rfl T rfl _ HT3.out rfl ?_)
   refine xM (qF (.slice none 0 0) ({ kind := 9, n := n, m := m }) (i) (b) _ (k := B) (qm _ _)) ?_;exact z67
theorem run_max {p : Pt} {fits : Int → Bool} : ∀ {l k a : Nat}, (∀ i, i < l → a + i < p.n ∧ fits (p.g (a + i)) = true) → (l = k ∨ a + l = p.n ∨ fits (p.g (a + l)) = false) → l ≤ k → p.run fits k a = a + l
 | 0, k, a, h, hs, hl => by
  rcases hs with hs | hs
  ·subst hs; rfl
  ·exact run_stop h hs hl
 | l + 1, k, a, h1, h2, h3 => by obtain ⟨k, rfl⟩ : ∃ q, k = q + 1 := ⟨k - 1, by omega⟩;have h0 := h1 0 (by omega);unfold Pt.run;rw [if_pos (by simp only [Bool.and_eq_true, decide_eq_true_eq]; exact ⟨h0.1, h0.2⟩)];rw [run_max (l := l) (k := k) (a := a + 1) (fun i hi => by have := h1 (i + 1) (by omega); rwa [show a + 1 + i = a + (i + 1) by omega]) (by rcases h2 with h2 | h2 | h2; exact Or.inl (by omega); exact Or.inr (Or.inl (by omega)); exact Or.inr (Or.inr (by rwa [show a + 1 + l = a + (l + 1) by omega]))) (by omega)];omega
theorem hexV_in {c : Int} (h : zn c = true) : 0 ≤ hexV c ∧ hexV c ≤ 15 := by
 simp only [zn, isDig, Bool.or_eq_true, Bool.and_eq_true, decide_eq_true_eq] at h;unfold hexV;split
 ·omega
 ·split <;> omega
theorem hexVal_in {p : Pt} {a : Nat} : ∀ {l : Nat}, (∀ i, i < l → a + i < p.n ∧ zn (p.g (a + i)) = true) → 0 ≤ p.hexVal a l ∧ p.hexVal a l + 1 ≤ 16 ^ l
 | 0, _ => by simp [Pt.hexVal]
 | l + 1, h => by
  have ih := hexVal_in (l := l) fun i hi => h i (by omega)
  have := hexV_in (h l (by omega)).2;unfold Pt.hexVal;rw [Int.pow_succ];omega
theorem hexVal_le {p : Pt} {a l : Nat} (h : ∀ i, i < l → a + i < p.n ∧ zn (p.g (a + i)) = true) (hl : l ≤ 7) : 0 ≤ p.hexVal a l ∧ p.hexVal a l ≤ 268435455 := by
 have h1 := hexVal_in h;have h2 : (16 : Int) ^ l ≤ 268435456 := by
  obtain h | h | h | h | h | h | h | h : l = 0 ∨ l = 1 ∨ l = 2 ∨ l = 3 ∨ l = 4 ∨ l = 5 ∨ l = 6 ∨ l = 7 := by omega
  all_goals (subst h; decide)
 omega
theorem hexN_pos {c : Int} (h : zn c = true) : hexN c = hexV c := by unfold hexN; rw [if_pos h]
theorem hexN_neg {c : Int} (h : zn c = false) : hexN c = -1 := by unfold hexN; rw [if_neg (by simp [h])]
def HxB (r : Option (Int × Nat)) (w : World) (e : Ending) (w' : World) : Prop := (∃ (v : Int) (j : Nat), e = .returned (.tuple #[.int .i64 v, .int .i64 j]) ∧ j ≤ 2000 ∧ (r = none ∧ v = -1 ∨ r = some (v, j))) ∧ Below w.heap.size w w'
def HexRel (w : World) (B : Nat) (S : ByteArray) (p : Pt) (a m : Nat) (vn vi vk : Value) (wr : World) : Prop :=
 ∃ l : Nat, a + l ≤ S.size ∧ l ≤ m ∧ Hid (∀ i, i < l → a + i < p.n ∧ zn (p.g (a + i)) = true) ∧ vn = .int .i64 (p.hexVal a l) ∧ vi = .int .i64 ((a + l : Nat) : Int) ∧ vk = .int .i64 l ∧ FR w B S p wr
theorem hexd_of {p : Pt} {a l m : Nat} (h : ∀ i, i < l → a + i < p.n ∧ zn (p.g (a + i)) = true) (hs : l = m ∨ a + l = p.n ∨ zn (p.g (a + l)) = false) (hl : l ≤ m) : p.hexd m a = (p.hexVal a l, a + l) := by unfold Pt.hexd;rw [run_max h hs hl, Nat.add_sub_cancel_left]
theorem hexa_any (S : ByteArray) (p : Pt) (w : World) (hP : Pat S p) (i : Nat) (hi : i ≤ p.n) : Calls Tryz.prog 63 #[txV S p, .int .i64 i] w (HxB (hexz p i) w) := by
 have hn := hP.n;have h2 := hP.le;have HP := xH hP;have HN := xH hn;clear hP;rw [hn] at hi;clear hn;have hm1 := vH p;have hm2 := most_ge p;unfold txV txC;go_enter Tryz.func63, Tryz.ntmps63;go_upto_region 1 with (fail)
 generalize hW : (w.alloc _) = W;have F0 := xH (zG (S := S) (p := p) hW);obtain ⟨B, hB⟩ : ∃ B, w.heap.size = B := ⟨_, rfl⟩;rw [hB] at F0 ⊢;clear hW hB;obtain ⟨c0, c1, c2, c3⟩ := F0.out.c;go_wp2_with fail
 refine xM (qG S p _ HP.out (i) (by omega) [123] ⟨#[123]⟩ rfl (by decide) (Or.inl (by rw [HN.out]; exact hi))) ?_;rintro e w1 ⟨rfl, hb⟩;have F1 := xH (F0.out.step hb);clear hb c0 c1 c2 c3;obtain ⟨c0, c1, c2, c3⟩ := F1.out.c;cases h123 : p.has [123] i with
 | true =>
  have hin := qR HP.out h123;rw [HN.out] at hin;simp only [List.length_nil, Nat.zero_add] at hin;go_wp2_with fail
  go_loopw [6, 7] (fun vn vi wr => HexRel w B S p (i + 1) 7 vn vi (.int .i64 (intOf vi - (i + 1))) wr) (fun _ vi _ => S.size - (intOf vi).toNat)
  case atStart => exact ⟨0, by omega, by omega, xH (fun j h => absurd h (Nat.not_lt_zero j)), rfl, rfl, by simp [intOf], F1.out⟩
  case round =>
   obtain ⟨l, hl, hl7, hd, rfl, rfl, _, hF⟩ := hrel;have F2 := xH hF;clear hF;obtain ⟨c0, c1, c2, c3⟩ := F2.out.c;have hgb := gb HP.out;obtain ⟨hv0, hv1⟩ := hexVal_le hd.out (by omega);generalize hVV : p.hexVal (i + 1) l = V at *;have HVV := xH hVV;clear hVV;by_cases hlt : i + 1 + l < S.size
   ·obtain ⟨b0, b1⟩ := jS HP.out (i + 1 + l);go_wp2_with fail
    refine (hex_any _ _ b0 b1).mono ?_;rintro e w1 ⟨rfl, rfl⟩;cases hx : zn (p.g (i + 1 + l)) with
    | true =>
     by_cases l7 : l = 7
     ·have HD := xH (hexd_of (m := 7) hd.out (Or.inl l7) hl7);have HX := xH (show hexz p i = none by unfold hexz; rw [if_pos h123, if_pos]; rw [HD.out]; simp only; right; left; omega);have hnn := hexN_pos hx;obtain ⟨x0, x1⟩ := hexV_in hx;have hl0 : ¬ (l : Int) < 7 := by omega
      clear l7;rw [hnn];go_wp2_with fail
      go_ret2
      exact ⟨⟨-1, _, rfl, by omega, Or.inl ⟨HX.out, rfl⟩⟩, F2.out.bel⟩
     ·have hl0 : (l : Int) < 7 := by omega
      have h15 := hexV_in hx;obtain ⟨x0, x1⟩ := h15;have hnn := hexN_pos hx;have hge : (0 : Int) ≤ hexV (p.g (i + 1 + l)) := x0;rw [hnn];go_wp2_with fail
      refine (hex_any _ _ b0 b1).mono ?_;rintro e w2 ⟨rfl, rfl⟩;rw [hnn];go_wp2_with fail
      refine ⟨⟨l + 1, by omega, by omega, xH (fun j hj => by
       by_cases e : j = l
       ·subst e; exact ⟨by rw [HN.out]; exact hlt, hx⟩
       ·exact hd.out j (by omega)), ?_, ?_, ?_, F2.out⟩, by simp only [intOf]; omega⟩
      ·rw [show p.hexVal (i + 1) (l + 1) = p.hexVal (i + 1) l * 16 + hexV (p.g (i + 1 + l)) from rfl, HVV.out]
      ·congr 1
       try omega
      ·simp only [intOf]
       congr 1
       omega
    | false =>
     have hnn := hexN_neg hx;rw [hnn];have HD := xH (hexd_of (m := 7) hd.out (Or.inr (Or.inr hx)) hl7);exact z6
   ·have HD := xH (hexd_of (m := 7) hd.out (Or.inr (Or.inl (by rw [HN.out]; omega))) hl7);exact z6
 | false =>
  go_wp2_with fail
  go_loopw [1, 6, 8] (fun vi vn vk wr => HexRel w B S p i 2 vn vi vk wr) (fun vi _ _ _ => S.size - (intOf vi).toNat)
  case atStart => exact ⟨0, by omega, by omega, xH (fun j h => absurd h (Nat.not_lt_zero j)), rfl, rfl, rfl, F1.out⟩
  case round =>
   obtain ⟨l, hl, hl7, hd, rfl, rfl, rfl, hF⟩ := hrel;have F2 := xH hF;clear hF;obtain ⟨c0, c1, c2, c3⟩ := F2.out.c;have hgb := gb HP.out;obtain ⟨hv0, hv1⟩ := hexVal_le hd.out (by omega);generalize hVV : p.hexVal (i) l = V at *;have HVV := xH hVV;clear hVV;by_cases h2l : l = 2
   ·have HD := xH (hexd_of (m := 2) hd.out (Or.inl h2l) hl7);rw [HVV.out] at HD;have HR := xH (show hexz p i = hexC p (V, i + l) by unfold hexz; rw [if_neg (by simp [h123]), HD.out]);have hl2 : ¬ (l : Int) < 2 := by omega
    clear h2l;exact z10
   ·have hl2 : (l : Int) < 2 := by omega
    by_cases hlt : i + l < S.size
    ·obtain ⟨b0, b1⟩ := jS HP.out (i + l);go_wp2_with fail
     refine (hex_any _ _ b0 b1).mono ?_;rintro e w1 ⟨rfl, rfl⟩;cases hx : zn (p.g (i + l)) with
     | true =>
      have h15 := hexV_in hx;obtain ⟨x0, x1⟩ := h15;have hnn := hexN_pos hx;have hge : (0 : Int) ≤ hexV (p.g (i + l)) := x0;rw [hnn];go_wp2_with fail
      refine (hex_any _ _ b0 b1).mono ?_;rintro e w2 ⟨rfl, rfl⟩;rw [hnn];go_wp2_with fail
      refine ⟨⟨l + 1, by omega, by omega, xH (fun j hj => by
       by_cases e : j = l
       ·subst e; exact ⟨by rw [HN.out]; exact hlt, hx⟩
       ·exact hd.out j (by omega)), ?_, ?_, rfl, F2.out⟩, by simp only [intOf]; omega⟩
      ·rw [show p.hexVal (i) (l + 1) = p.hexVal (i) l * 16 + hexV (p.g (i + l)) from rfl, HVV.out]
      ·congr 1
       try omega
     | false =>
      have hnn := hexN_neg hx;have HD := xH (hexd_of (m := 2) hd.out (Or.inr (Or.inr hx)) hl7);rw [HVV.out] at HD;have HR := xH (show hexz p i = hexC p (V, i + l) by unfold hexz; rw [if_neg (by simp [h123]), HD.out]);rw [hnn];exact z10
    ·have HD := xH (hexd_of (m := 2) hd.out (Or.inr (Or.inl (by rw [HN.out]; omega))) hl7);rw [HVV.out] at HD;have HR := xH (show hexz p i = hexC p (V, i + l) by unfold hexz; rw [if_neg (by simp [h123]), HD.out]);exact z10
end rtw
end
end Go.Proofs.YtikjhfmmfpeaoaaGreatDoor
