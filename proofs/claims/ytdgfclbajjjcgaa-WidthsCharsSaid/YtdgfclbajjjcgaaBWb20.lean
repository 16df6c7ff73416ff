/- T -/
import Derived.BigRegion
import Derived.RegionTactic
import Derived.Test.YtdgfclbajjjcgaaBWb18
import Derived.Test.YtdgfclbajjjcgaaBWb19
set_option maxHeartbeats 16000000
set_option maxRecDepth 1000000
namespace Go.Proofs.Ytdgfclbajjjcgaa
section
namespace rsw
open sq
open Go.Sort Go Go.RowKit Go.Maps setp setw tkp trp trw rpp rsp
open rpw (sees jB qU fC jP FSub vw jQ app_sub jH jm own_below qp oneR zk jV qA qh jU lab_ok rg_nil ql)
theorem node_of {u : Bool} {m : Int} (hm0 : 0 ≤ m) (hm : m ≤ 1114111) : ∀ (n : Nat) (k : F), k.size < n → NodeC u m k
 | 0, _, h => by omega
 | n + 1, k, hn => by
  have hN : ∀ k' : F, k'.size < k.size → NodeC u m k' := fun k' h => node_of hm0 hm n k' (by omega)
  have hR : RowC u m k := row_of hN;intro x f w h hold hnd hok hsz;by_cases h1 : x.kind = 1
  ·exact node_lit hm0 hm x f w h hold hnd hok hsz h1
  by_cases h2 : x.kind = 2
  ·exact node_set hm0 hm x f w h hold hnd hok hsz h2
  by_cases h3 : x.kind = 3
  ·exact node_any hm0 hm x f w h hold hnd hok hsz h3
  by_cases h4 : x.kind = 4
  ·exact node_ass hm0 hm x f w h hold hnd hok hsz h4
  by_cases h6 : x.kind = 6
  ·exact node_line hm0 hm x f w h hold hnd hok hsz h6
  by_cases h7 : x.kind = 7
  ·exact node_back hm0 hm x f w h hold hnd hok hsz h7
  by_cases h11 : x.kind = 11
  ·exact node_flags hm0 hm x f w h hold hnd hok hsz h11
  by_cases h12 : x.kind = 12
  ·exact node_seq hm0 hm hN x f w h hold hnd hok hsz h12
  by_cases h13 : x.kind = 13
  ·exact node_alt hm0 hm hR x f w h hold hnd hok hsz h13
  by_cases h15 : x.kind = 15
  ·exact node_plain hm0 hm hN x f w h hold hnd hok hsz h15
  by_cases h20 : x.kind = 20
  ·exact node_rep hm0 hm hR x f w h hold hnd hok hsz h20
  exact node_oth hm0 hm hR x f w h hold hnd hok hsz ⟨h1, h2, h3, h4, h6, h7, h11, h12, h13, h15, h20⟩
def ResB (h : Nat → Bool) (r : F) (w : World) (e : Ending) (w' : World) : Prop := Below w.heap.size w w' ∧ ∃ y j, e = .returned (ndV y) ∧ NdAt (sees h w') (y, j) ∧ strip (F.one y j) = r
theorem res_any (h : Nat → Bool) (x : Lab) (k : F) (o : Int) (w : World) (hold : Old h w.heap.size) (hn : NdAt (sees h w) (x, k)) (hok : OkF (F.one x k)) (hsz : k.size ≤ 30000) : Calls Try.prog 34 #[ndV x, .int .i64 o] w (ResB h (resP (x, k) o) w) := by
 have z1 := World.size_alloc w (.cells (ndC x).toArray 27);have b1 := qg w (.cells (ndC x).toArray 27);have b2 := qg (w.alloc (.cells (ndC x).toArray 27)) (.cells zC.toArray 27);have g1 := heap_alloc_new w (.cells (ndC x).toArray 27);have g2 := heap_alloc_new (w.alloc (.cells (ndC x).toArray 27)) (.cells zC.toArray 27);have z2 := World.size_alloc (w.alloc (.cells (ndC x).toArray 27)) (.cells zC.toArray 27);rw [z1] at g2 z2;have HB := xH (qi b1 b2);have HG := xH ((b2.block _ (by omega)).trans g1);have HRV := xH g2;have HZ := xH z2;have HOLD := xH hold;have HOK := xH hok;have HN := xH hn;clear z1 b1 b2 g1 g2 z2 hn hok hold;unfold ndC zC at HB HG HRV HZ;go_enter Try.func34, Try.ntmps34;unfold ndV;go_upto_region 1 with (fail)
 generalize (w.alloc _).alloc _ = w0 at *;by_cases h32 : andI o 32 = 0
 ·have hb : (bits BinOp.and IntKind.i64 o 32 != 0) = false := by unfold andI at h32; simp [h32]
  go_upto_region 2 with (fail)
  have HR := xH (show resP (x, k) o = (nodeP false 255 (fun g => rowP false 255 k g) x k (andI o 23)).1 by unfold resP; simp [h32]);have HBW := xH (qg w0 (.cells #[.bool false, .int .i64 255] 101));have d0 : (w0.alloc (.cells #[.bool false, .int .i64 255] 101)).cell? ⟨w0.heap.size, 0, none⟩ = some (.bool false) := by unfold World.cell?; rw [heap_alloc_new]; rfl
  have d1 : (w0.alloc (.cells #[.bool false, .int .i64 255] 101)).cell? ⟨w0.heap.size, 1, none⟩ = some (.int .i64 255) := by unfold World.cell?; rw [heap_alloc_new]; rfl
  clear h32;go_upto_region 4 with (fail)
  generalize (w0.alloc (.cells #[.bool false, .int .i64 255] 101)) = w1 at *;have HB1 := xH (qi HB.out HBW.out);have HG1 := xH ((HBW.out.block _ (by have := HZ.out; omega)).trans HG.out);have HRV1 := xH ((HBW.out.block _ (by have := HZ.out; omega)).trans HRV.out);have HSZ := xH (show w.heap.size + 2 ≤ w1.heap.size by have := HBW.out.size; have := HZ.out; omega);have HNC := xH (node_of (u := false) (m := 255) (by omega) (by omega) (k.size + 1) k (Nat.lt_succ_self _) x (andI o 23) w1 (fun i => h i || decide (i = w.heap.size + 1)) (fun i hi => by
   have := HSZ.out;simp only [Bool.or_eq_true, dF] at hi;rcases hi with hi | hi
   ·have := HOLD.out i hi;omega
   ·omega) (qY (qU fun a v h1 hc => ⟨by
    have := cell_lt hc;simp only [h1, Bool.false_or, dD];omega, trw.qf HB1.out hc⟩) HN.out) HOK.out hsz)
  obtain ⟨r, hr⟩ : ∃ r, nodeP false 255 (fun g => rowP false 255 k g) x k (andI o 23) = r := ⟨_, rfl⟩;exact z6
 ·have hb : (bits BinOp.and IntKind.i64 o 32 != 0) = true := by unfold andI at h32; simp [h32]
  go_upto_region 2 with (fail)
  have HR := xH (show resP (x, k) o = (nodeP true 1114111 (fun g => rowP true 1114111 k g) x k (andI o 23)).1 by unfold resP; simp [h32]);have HBW := xH (qg w0 (.cells #[.bool true, .int .i64 1114111] 101));have d0 : (w0.alloc (.cells #[.bool true, .int .i64 1114111] 101)).cell? ⟨w0.heap.size, 0, none⟩ = some (.bool true) := by unfold World.cell?; rw [heap_alloc_new]; rfl
  have d1 : (w0.alloc (.cells #[.bool true, .int .i64 1114111] 101)).cell? ⟨w0.heap.size, 1, none⟩ = some (.int .i64 1114111) := by unfold World.cell?; rw [heap_alloc_new]; rfl
  clear h32;go_upto_region 4 with (fail)
  generalize (w0.alloc (.cells #[.bool true, .int .i64 1114111] 101)) = w1 at *;have HB1 := xH (qi HB.out HBW.out);have HG1 := xH ((HBW.out.block _ (by have := HZ.out; omega)).trans HG.out);have HRV1 := xH ((HBW.out.block _ (by have := HZ.out; omega)).trans HRV.out);have HSZ := xH (show w.heap.size + 2 ≤ w1.heap.size by have := HBW.out.size; have := HZ.out; omega);have HNC := xH (node_of (u := true) (m := 1114111) (by omega) (by omega) (k.size + 1) k (Nat.lt_succ_self _) x (andI o 23) w1 (fun i => h i || decide (i = w.heap.size + 1)) (fun i hi => by
   have := HSZ.out;simp only [Bool.or_eq_true, dF] at hi;rcases hi with hi | hi
   ·have := HOLD.out i hi;omega
   ·omega) (qY (qU fun a v h1 hc => ⟨by
    have := cell_lt hc;simp only [h1, Bool.false_or, dD];omega, trw.qf HB1.out hc⟩) HN.out) HOK.out hsz)
  obtain ⟨r, hr⟩ : ∃ r, nodeP true 1114111 (fun g => rowP true 1114111 k g) x k (andI o 23) = r := ⟨_, rfl⟩;exact z6
end rsw
end
section
namespace rtw
open sq
open Go Go.RowKit Go.Maps utfp utfw ucdp setp setw prp tkp rtp
open tkw (sg sg_bd vJ jM qK tkR qO qM vI)
open Go.Sort
def CsRel (w : World) (B : Nat) (S : ByteArray) (p : Pt) (first : Nat) (vi va : Value) (wr : World) : Prop :=
 ∃ (k m : Nat) (all : List Rg), first ≤ k ∧ k ≤ S.size ∧ S.size + 1 ≤ k + m ∧ all.length ≤ 101 * k ∧ Wf all ∧ vi = .int .i64 k ∧ Hid (OwnR wr (B + 2) va all) ∧ Hid (clsL p first m all k = clsL p first (p.n + 1 - first) [] first) ∧ Hid (FG w B S p wr)
theorem rs_first {w : World} {v : Value} {c d : Int} (h : RsAt w v [(c, d)]) : ∃ g off cap, v = .slice (some ⟨g, off, none⟩) 1 cap ∧ 1 ≤ cap ∧ cap ≤ 9223372036854775807 ∧ w.cell? ⟨g, off, none⟩ = some (.int .i64 c) := by
 obtain ⟨_, ⟨h, _⟩ | ⟨_, b, off, cap, hv, h1, h2, hc⟩⟩ := h
 ·cases h
 ·exact ⟨b, off, cap, hv, h1, h2, by simpa using (hc 0 (by simp)).1⟩
theorem item_err {p : Pt} {k : Nat} {x : Int × Int} (h : itemR p k = .error x) : x.1 ≠ 0 := by
 unfold itemR at h;split at h
 ·split at h
  ·cases h
  ·cases h; simp
 ·unfold itemC at h;split at h
  ·split at h
   ·cases h; simp
   ·unfold itemE at h;simp only at h;split at h
    ·split at h
     ·cases h; simp
     ·cases h
    ·split at h
     ·cases h
     ·split at h
      ·cases h
      ·split at h
       ·rename_i e he;have := many_err he;subst this;cases h; simp
       ·cases h
       ·split at h
        ·cases h; simp
        ·cases h
  ·cases h
theorem wf_append {a b : List Rg} (h1 : Wf a) (h2 : Wf b) : Wf (a ++ b) := fun r hr => (List.mem_append.1 hr).elim (h1 r) (h2 r)
theorem class_any (S : ByteArray) (p : Pt) (w : World) (hP : Pat S p) (f : Nat) (hf : f < p.n) : Calls Try.prog 65 #[txV S p, .int .i64 f] w (GotB w (clsR p f)) := by
 have hn := hP.n;have h2 := hP.le;have HP := xH hP;have HN := xH hn;clear hP;rw [hn] at hf;clear hn;unfold txV txC;go_enter Try.func65, Try.ntmps65;go_upto_region 1 with (fail)
 generalize hW : (w.alloc _).alloc _ = W;have F0 := xH (fg_start (S := S) (p := p) hW);obtain ⟨B, hB⟩ : ∃ B, w.heap.size = B := ⟨_, rfl⟩;rw [hB] at F0 ⊢;clear hW hB;obtain ⟨c0, c1, c2, c3⟩ := F0.out.c;go_wp2_with fail
 refine xM (qG S p _ HP.out (f + 1) (by omega) [94] ⟨#[94]⟩ rfl (by decide) (Or.inl (by rw [HN.out]; omega))) ?_;rintro e w1 ⟨rfl, hb⟩;have F1 := xH (F0.out.step hb);clear hb c0 c1 c2 c3;obtain ⟨c0, c1, c2, c3⟩ := F1.out.c;go_upto_if 24 with (fail)
 go_cut [5, 6] (fun v5 v6 wx => ∃ first : Nat, f < first ∧ first ≤ S.size ∧ v5 = .int .i64 first ∧ v6 = .bool (p.has [94] (f + 1)) ∧ Hid (FG w B S p wx) ∧ Hid (clsR p f = match clsL p first (p.n + 1 - first) [] first with | .error e => .error e | .ok (all, b) => gtok { kind := 2, set := normR p.most all, neg := p.has [94] (f + 1) } f b))
 case first =>
  cases h94 : p.has [94] (f + 1) with
  | true =>
   have hin := qR HP.out h94;rw [HN.out] at hin;simp only [dA, Nat.zero_add] at hin;go_wp2_with fail
   go_meet
   exact ⟨f + 2, by omega, by omega, by simp; omega, by rw [h94], F1, xH (by unfold clsR; rw [h94]; rfl)⟩
  | false =>
   go_wp2_with fail
   go_meet
   exact ⟨f + 1, by omega, by omega, by simp, by rw [h94], F1, xH (by unfold clsR; rw [h94]; rfl)⟩
 case rest =>
  obtain ⟨first, hf1, hf2, rfl, rfl, F2, HCL⟩ := hcut;clear F1 c0 c1 c2 c3;obtain ⟨c0, c1, c2, c3⟩ := F2.out.c;generalize p.has [94] (f + 1) = neg at *;go_wp2_with fail
  go_loopw [5, 8] (fun vi va wr => CsRel w B S p first vi va wr) (fun vi _ _ => S.size - (intOf vi).toNat)
  case atStart => exact ⟨first, S.size + 1 - first, [], by omega, by omega, by omega, by simp, fun r hr => absurd hr (by simp), rfl, xH (qm _ _), xH (by rw [HN.out]), F2⟩
  case round =>
   obtain ⟨k, m, all, hk1, hk2, hk3, hk5, hwf, rfl, HA, hcl, F3⟩ := hrel;clear F2 c0 c1 c2 c3;obtain ⟨c0, c1, c2, c3⟩ := F3.out.c;have HK5 := xH hk5;have HWF := xH hwf;clear hk5 hwf;obtain ⟨m, rfl⟩ : ∃ m', m = m' + 1 := ⟨m - 1, by omega⟩;by_cases hlt : k < S.size;case neg =>
    have HR := xH (HCL.out.trans (show _ = Except.error (20, (p.n : Int)) by rw [← hcl.out, clsL, if_pos (by rw [HN.out]; omega)]));go_wp2_with fail
    refine xM (end_any S p _ HP.out) ?_;intro e w4 h;obtain ⟨v, rfl, HO, F4, old, HG, hz⟩ := yJ F3 h;clear h c0 c1 c2 c3;go_wp2_with (refine yR HG hz HO ?_)
    exact yW HG F4 HR HO
   have hgb := gb HP.out;obtain ⟨b0, b1⟩ := jS HP.out k;by_cases hend : p.g k = 93 ∧ first < k
   ·have HR := xH (HCL.out.trans (show _ = gtok { kind := 2, set := normR p.most all, neg := neg } f (k + 1) by rw [← hcl.out, clsL, if_neg (by rw [HN.out]; omega), if_pos hend]));have b93 : (p.g k == 93) = true := by simp [hend.1]
    have hfk : (first : Int) < (k : Int) := by have := hend.2; omega
    have HRS := xH (vP HA.out HWF.out);have hal : all.length ≤ 600000 := by have := HK5.out; omega
    obtain ⟨x1, x2, rfl⟩ := qN HA.out;clear hend hcl;go_wp2_with fail
    refine xM (cut_any S p _ HP.out _ all HRS.out hal) ?_;rintro e w4 ⟨v, rfl, ho, hb⟩;have HO4 := xO F3.out.x ho;have F4 := xH (F3.out.step hb);clear hb ho c0 c1 c2 c3;obtain ⟨c0, c1, c2, c3⟩ := F4.out.c;generalize normR p.most all = R at *;obtain ⟨y1, y2, rfl⟩ := qN HO4.out;go_wp2_with fail
    refine xM (qF (.slice y1 R.length y2) ({ kind := 2, set := R, neg := neg }) (f) (k + 1) _ (k := B) (HO4.out)) ?_;rintro e w5 ⟨rfl, ho, hb⟩;have F5 := xH (F4.out.step hb);have HO := xH ho;clear hb ho c0 c1 c2 c3;obtain ⟨old, HG, hz⟩ := xG F5;go_wp2_with (refine qJ rfl rfl _ _ rfl (B + 1) rfl _ _ HG.out hz (jw (.slice y1 R.length y2) _) (jO HO.out _) rfl ?_)
    refine xB (qW rfl _ _ (B + 1) _ rfl (setRow_heap _ _ _ _ _ _ HG.out) (jw (.slice y1 R.length y2) _)) rfl ?_;exact qj F5.out HR.out HO.out (xL _)
   have HS := xH (hcl.out.symm.trans (show _ = (match rangeR p k with | .error e => Except.error e | .ok (l, to_) => clsL p first m (all ++ l) to_) by rw [clsL, if_neg (by rw [HN.out]; omega), if_neg hend]; rfl));clear hcl;have hc : (p.g k == 93) = false ∨ ((p.g k == 93) = true ∧ ¬ (first : Int) < (k : Int)) := by
    by_cases h : p.g k = 93
    ·exact Or.inr ⟨by simp [h], fun hh => hend ⟨h, by omega⟩⟩
    ·exact Or.inl (by simp [h])
   clear hend;have HM := item_any S p wr HP.out k (by rw [HN.out]; exact hlt);have HRG := xH (show rangeR p k = (match itemR p k with | .error e => Except.error e | .ok (l, single, to_) => if single = true ∧ p.has [45] to_ = true ∧ to_ + 1 < p.n ∧ p.g (to_ + 1) ≠ 93 then (match itemR p (to_ + 1) with | .error e => Except.error e | .ok (m, also, e) => if also = false ∨ loR m < loR l then Except.error (23, (k : Int)) else .ok ([(loR l, loR m)], e)) else .ok (l, to_)) from rfl);cases hm : itemR p k with
   | error x =>
    rw [hm] at HM;have HR := xH (HCL.out.trans (show _ = Except.error (x.1, x.2) by rw [HS.out, HRG.out, hm]));rcases hc with b93 | ⟨b93, hfk⟩
    all_goals
     go_wp2_with fail
     refine xM HM ?_;rintro e w4 ⟨⟨j, rfl⟩, hb⟩;have F4 := xH (F3.out.step hb);clear hb c0 c1 c2 c3;obtain ⟨c0, c1, c2, c3⟩ := F4.out.c;have hx : (x.1 != (0 : Int)) = true := by simpa using item_err hm
     have hx2 : ¬ x.1 = 0 := item_err hm;exact z83
   | ok y =>
    obtain ⟨l, single, z⟩ := y;rw [hm] at HM;obtain ⟨z1, z2, z3, z4⟩ := item_bd HP.out (by rw [HN.out]; exact hlt) hm;rw [HN.out] at z2;have HRG1 := xH (HRG.out.trans (show _ = (if single = true ∧ p.has [45] z = true ∧ z + 1 < p.n ∧ p.g (z + 1) ≠ 93 then (match itemR p (z + 1) with | .error e => Except.error e | .ok (m, also, e) => if also = false ∨ loR m < loR l then Except.error (23, (k : Int)) else .ok ([(loR l, loR m)], e)) else .ok (l, z)) by rw [hm]));clear HRG;have HNX := xH (show ∀ (l2 : List Rg) (b2 : Nat), rangeR p k = .ok (l2, b2) → clsL p first m (all ++ l2) b2 = clsL p first (p.n + 1 - first) [] first from fun l2 b2 h => by rw [HS.out, h]);have HER := xH (show ∀ (x : Int × Int), rangeR p k = .error x → clsR p f = Except.error (x.1, x.2) from fun x h => HCL.out.trans (by rw [HS.out, h]));clear HS HCL hm;rcases hc with b93 | ⟨b93, hfk⟩
    skip
    all_goals
     go_wp2_with fail
     refine xM HM ?_;rintro e w4 ⟨⟨v, rfl, hrs⟩, hb⟩;have HL4 := xH hrs;have HB4 := xH hb;have F4 := xH (F3.out.step hb);clear hb hrs c0 c1 c2 c3;obtain ⟨c0, c1, c2, c3⟩ := F4.out.c;obtain ⟨q1, q2, rfl⟩ := jg HL4.out;cases single with
     | false =>
      have HOA := xH (jG HA.out HB4.out);have hsz : B + 2 ≤ w4.heap.size := by obtain ⟨_, hg, _⟩ := F4.out.g;have := zi hg;omega
      have hll : all.length + (l).length ≤ 100000000 := by
       have := HK5.out;try simp only [] at *
       omega
      go_wp2_with (at_builtin; refine jb rfl _ _ rfl (B + 2) u8 all rfl HOA.out _ (l) rfl HL4.out hll hsz ?_; intro va2 wa hoa hba; have HOa := xH hoa; have HBa := xH (hba _ _ (Below.refl (B + 2) w4) (xL _)); clear hoa hba)
      exact ⟨⟨z, m, all ++ (l), by omega, by omega, by omega, by have := HK5.out; rw [List.length_append]; (try simp only [dB, dA] at *); omega, wf_append HWF.out HL4.out.1, rfl, HOa, xH (HNX.out _ _ (HRG1.out.trans (if_neg (by simp)))), xH (F4.out.poke HBa.out)⟩, by simp [intOf]; omega⟩
     | true =>
      obtain ⟨c, rfl⟩ := z4 rfl;obtain ⟨g1, o1, k1, hv, hk1', hk2', hc1⟩ := rs_first HL4.out;cases hv;have hwc := HL4.out.1 (c, c) (by simp);have HC1 := xH hc1;clear hc1;go_wp2_with fail
      refine xM (qG S p _ HP.out z (by omega) [45] ⟨#[45]⟩ rfl (by decide) (Or.inl (by rw [HN.out]; exact z2))) ?_;rintro e w5 ⟨rfl, hb⟩;have F5 := xH (F4.out.step hb);have HB5 := xH (HB4.out.trans (hb.mono HB4.out.size));have HL5 := xH (jl HL4.out hb);have HC5 := xH (qf hb HC1.out);clear hb c0 c1 c2 c3 HC1 HL4;obtain ⟨c0, c1, c2, c3⟩ := F5.out.c;cases h45 : p.has [45] z with
      | false =>
       have HOA := xH (jG HA.out HB5.out);have hsz : B + 2 ≤ w5.heap.size := by obtain ⟨_, hg, _⟩ := F5.out.g;have := zi hg;omega
       have hll : all.length + ([(c, c)]).length ≤ 100000000 := by
        have := HK5.out;try simp only [dB, dA] at *
        omega
       go_wp2_with (at_builtin; refine jb rfl _ _ rfl (B + 2) u8 all rfl HOA.out _ ([(c, c)]) rfl HL5.out hll hsz ?_; intro va2 wa hoa hba; have HOa := xH hoa; have HBa := xH (hba _ _ (Below.refl (B + 2) w5) (xL _)); clear hoa hba)
       exact ⟨⟨z, m, all ++ ([(c, c)]), by omega, by omega, by omega, by have := HK5.out; rw [List.length_append]; (try simp only [dB, dA] at *); omega, wf_append HWF.out HL5.out.1, rfl, HOa, xH (HNX.out _ _ (HRG1.out.trans (if_neg (by simp [h45])))), xH (F5.out.poke HBa.out)⟩, by simp [intOf]; omega⟩
      | true =>
       by_cases hz1 : z + 1 < S.size;case neg =>
        have hz1' : ¬ ((z : Int) + 1 < (S.size : Int)) := by omega
        have HOA := xH (jG HA.out HB5.out);have hsz : B + 2 ≤ w5.heap.size := by obtain ⟨_, hg, _⟩ := F5.out.g;have := zi hg;omega
        have hll : all.length + ([(c, c)]).length ≤ 100000000 := by
         have := HK5.out;try simp only [dB, dA] at *
         omega
        go_wp2_with (at_builtin; refine jb rfl _ _ rfl (B + 2) u8 all rfl HOA.out _ ([(c, c)]) rfl HL5.out hll hsz ?_; intro va2 wa hoa hba; have HOa := xH hoa; have HBa := xH (hba _ _ (Below.refl (B + 2) w5) (xL _)); clear hoa hba)
        exact ⟨⟨z, m, all ++ ([(c, c)]), by omega, by omega, by omega, by have := HK5.out; rw [List.length_append]; (try simp only [dB, dA] at *); omega, wf_append HWF.out HL5.out.1, rfl, HOa, xH (HNX.out _ _ (HRG1.out.trans (if_neg (by rw [HN.out]; exact fun h => hz1 h.2.2.1)))), xH (F5.out.poke HBa.out)⟩, by simp [intOf]; omega⟩
       have hz1' : (z : Int) + 1 < (S.size : Int) := by omega
       obtain ⟨b0', b1'⟩ := jS HP.out (z + 1);by_cases h93 : p.g (z + 1) = 93;case pos =>
        have bz : (p.g (z + 1) != 93) = false := by simp [h93]
        have HOA := xH (jG HA.out HB5.out);have hsz : B + 2 ≤ w5.heap.size := by obtain ⟨_, hg, _⟩ := F5.out.g;have := zi hg;omega
        have hll : all.length + ([(c, c)]).length ≤ 100000000 := by
         have := HK5.out;try simp only [dB, dA] at *
         omega
        go_wp2_with (at_builtin; refine jb rfl _ _ rfl (B + 2) u8 all rfl HOA.out _ ([(c, c)]) rfl HL5.out hll hsz ?_; intro va2 wa hoa hba; have HOa := xH hoa; have HBa := xH (hba _ _ (Below.refl (B + 2) w5) (xL _)); clear hoa hba)
        exact ⟨⟨z, m, all ++ ([(c, c)]), by omega, by omega, by omega, by have := HK5.out; rw [List.length_append]; (try simp only [dB, dA] at *); omega, wf_append HWF.out HL5.out.1, rfl, HOa, xH (HNX.out _ _ (HRG1.out.trans (if_neg (fun h => h.2.2.2 h93)))), xH (F5.out.poke HBa.out)⟩, by simp [intOf]; omega⟩
       have bz : (p.g (z + 1) != 93) = true := by simp [h93]
       have HRG2 := xH (HRG1.out.trans (if_pos ⟨by simp, h45, by rw [HN.out]; exact hz1, h93⟩));clear HRG1 h93;go_wp2_with fail
       have HM2 := item_any S p w5 HP.out (z + 1) (by rw [HN.out]; exact hz1);cases hm2 : itemR p (z + 1) with
       | error x =>
        rw [hm2] at HM2;have HR := xH (HER.out _ (HRG2.out.trans (show _ = Except.error x by rw [hm2])));refine xM HM2 ?_;rintro e w6 ⟨⟨j, rfl⟩, hb⟩;have F6 := xH (F5.out.step hb);clear hb c0 c1 c2 c3;obtain ⟨c0, c1, c2, c3⟩ := F6.out.c;have hx : (x.1 != (0 : Int)) = true := by simpa using item_err hm2
        have hx2 : ¬ x.1 = 0 := item_err hm2;exact z170
       | ok y =>
        obtain ⟨l2, also, j⟩ := y;rw [hm2] at HM2;obtain ⟨j1, j2, j3, j4⟩ := item_bd HP.out (by rw [HN.out]; exact hz1) hm2;rw [HN.out] at j2;have HRG3 := xH (HRG2.out.trans (show _ = (if also = false ∨ loR l2 < loR [(c, c)] then Except.error (23, (k : Int)) else .ok ([(loR [(c, c)], loR l2)], j)) by rw [hm2]));clear HRG2 hm2;refine xM HM2 ?_;rintro e w6 ⟨⟨v2, rfl, hrs⟩, hb⟩;have F6 := xH (F5.out.step hb);have HB6 := xH (HB5.out.trans (hb.mono HB5.out.size));have HL6 := xH hrs;have cc1 := qf hb HC5.out;clear hb hrs c0 c1 c2 c3 HC5 HL5;obtain ⟨c0, c1, c2, c3⟩ := F6.out.c;obtain ⟨r1, r2, rfl⟩ := jg HL6.out;cases also with
        | false =>
         have HR := xH (HER.out _ (HRG3.out.trans (if_pos (Or.inl rfl))));exact z38
        | true =>
         obtain ⟨d, rfl⟩ := j4 rfl;obtain ⟨g2, o2, k2, hv, hk3', hk4', cc2⟩ := rs_first HL6.out;cases hv;have hwd := HL6.out.1 (d, d) (by simp);by_cases hdc : d < c
         ·have HR := xH (HER.out _ (HRG3.out.trans (if_pos (Or.inr (by simpa [loR] using hdc)))));have bdc : decide (d < c) = true := by simpa using hdc
          exact z38
         ·have HX := xH (show rangeR p k = .ok ([(c, d)], j) from HRG3.out.trans (if_neg (by simpa [loR] using hdc)));have bdc : decide (d < c) = false := by simpa using hdc
          go_wp2_with fail
          go_quiet (fail)
          rename_i nq;have hbq := tkw.zI (Below.refl w6.heap.size w6) nq;have F7 := xH (F6.out.step hbq);have HB7 := xH (HB6.out.trans (hbq.mono HB6.out.size));have dd1 := qf hbq cc1;have dd2 := qf hbq cc2;generalize w6.drewN nq = w7 at *;clear c0 c1 c2 c3 cc1 cc2 hbq;obtain ⟨c0, c1, c2, c3⟩ := F7.out.c;go_wp2_with fail
          go_region
          have hb8 : Below w7.heap.size w7 (w7.alloc (.cells #[.int .i64 c, .int .i64 d] 69)).drew := (qK w7 _).trans ⟨rfl, rfl, rfl, xL _, fun _ _ => rfl⟩;have HL8 := xH (show RsAt (w7.alloc (.cells #[.int .i64 c, .int .i64 d] 69)).drew (.slice (some ⟨w7.heap.size, 0, none⟩) 1 1) [(c, d)] from jl (vP (tkw.ownR_new (x := c) (y := d) (w := w7) (b0 := 0) (Nat.zero_le _) rfl) (fun r hr => by obtain rfl := List.mem_singleton.1 hr; exact ⟨hwc.1, hwd.1⟩)) ⟨rfl, rfl, rfl, xL _, fun _ _ => rfl⟩);have F8 := xH (F7.out.step hb8);have HB8 := xH (HB7.out.trans (hb8.mono HB7.out.size));generalize (w7.alloc (.cells #[.int .i64 c, .int .i64 d] 69)).drew = w8 at *;generalize w7.heap.size = s7 at *;clear c0 c1 c2 c3 dd1 dd2 hb8;obtain ⟨c0, c1, c2, c3⟩ := F8.out.c;have HOA := xH (jG HA.out HB8.out);have hsz : B + 2 ≤ w8.heap.size := by obtain ⟨_, hg, _⟩ := F8.out.g;have := zi hg;omega
          have hll : all.length + ([(c, d)]).length ≤ 100000000 := by
           have := HK5.out;try simp only [dB, dA] at *
           omega
          go_wp2_with (at_builtin; refine jb rfl _ _ rfl (B + 2) u8 all rfl HOA.out _ ([(c, d)]) rfl HL8.out hll hsz ?_; intro va2 wa hoa hba; have HOa := xH hoa; have HBa := xH (hba _ _ (Below.refl (B + 2) w8) (xL _)); clear hoa hba)
          exact ⟨⟨j, m, all ++ ([(c, d)]), by omega, by omega, by omega, by have := HK5.out; rw [List.length_append]; (try simp only [dB, dA] at *); omega, wf_append HWF.out HL8.out.1, rfl, HOa, xH (HNX.out _ _ HX.out), xH (F8.out.poke HBa.out)⟩, by simp [intOf]; omega⟩
end rtw
end
section
namespace rtw
open sq
open Go Go.RowKit Go.Maps utfp utfw ucdp setp setw prp tkp rtp
open tkw (sg sg_bd vJ jM qK tkR qO qM vI)
theorem qQ {w w' : World} {g : Nat} {o : Obj} (h : w.heap[g]? = some o) (hb : Below w.heap.size w w') : w'.heap[g]? = some o := (hb.block g (zi h)).trans h
theorem condition_any (S : ByteArray) (p : Pt) (w : World) (hP : Pat S p) (f i : Nat) (hf : f ≤ p.n) (hi : i ≤ p.n) : Calls Try.prog 103 #[txV S p, .int .i64 f, .int .i64 i] w (GotB w (condR p f i)) := by
 have hn := hP.n;have h2 := hP.le;have HP := xH hP;have HN := xH hn;clear hP;rw [hn] at hi hf;clear hn;unfold txV txC;go_enter Try.func103, Try.ntmps103;go_upto_region 1 with (fail)
 generalize hW : (w.alloc _).alloc _ = W;have F0 := xH (fg_start (S := S) (p := p) hW);obtain ⟨B, hB⟩ : ∃ B, w.heap.size = B := ⟨_, rfl⟩;rw [hB] at F0 ⊢;clear hW hB;obtain ⟨c0, c1, c2, c3⟩ := F0.out.c;go_wp2_with fail
 refine xM (qG S p _ HP.out (i) (by omega) [63, 61] ⟨#[63, 61]⟩ rfl (by decide) (Or.inl (by rw [HN.out]; exact hi))) ?_;rintro e w1 ⟨rfl, hb⟩;have F1 := xH (F0.out.step hb);clear hb c0 c1 c2 c3;obtain ⟨c0, c1, c2, c3⟩ := F1.out.c;cases h1 : p.has [63, 61] i with
 | true =>
  have HR := xH (show condR p f i = gtok { kind := 10, n := 13 } f (f + 2) by unfold condR; rw [if_pos (by simp [h1])]);go_wp2_with fail
  refine xM (qF (.slice none 0 0) ({ kind := 10, n := 13 }) (f) (f + 2) _ (k := B) (qm _ _)) ?_;exact z69
 | false =>
  go_wp2_with fail
  refine xM (qG S p _ HP.out (i) (by omega) [63, 33] ⟨#[63, 33]⟩ rfl (by decide) (Or.inl (by rw [HN.out]; exact hi))) ?_;rintro e w2 ⟨rfl, hb⟩;have F2 := xH (F1.out.step hb);clear hb c0 c1 c2 c3;obtain ⟨c0, c1, c2, c3⟩ := F2.out.c;cases h2 : p.has [63, 33] i with
  | true =>
   have HR := xH (show condR p f i = gtok { kind := 10, n := 13 } f (f + 2) by unfold condR; rw [if_pos (by simp [h2])]);go_wp2_with fail
   refine xM (qF (.slice none 0 0) ({ kind := 10, n := 13 }) (f) (f + 2) _ (k := B) (qm _ _)) ?_;exact z70
  | false =>
   go_wp2_with fail
   refine xM (qG S p _ HP.out (i) (by omega) [63, 60, 61] ⟨#[63, 60, 61]⟩ rfl (by decide) (Or.inl (by rw [HN.out]; exact hi))) ?_;rintro e w3 ⟨rfl, hb⟩;have F3 := xH (F2.out.step hb);clear hb c0 c1 c2 c3;obtain ⟨c0, c1, c2, c3⟩ := F3.out.c;cases h3 : p.has [63, 60, 61] i with
   | true =>
    have HR := xH (show condR p f i = gtok { kind := 10, n := 13 } f (f + 2) by unfold condR; rw [if_pos (by simp [h3])]);go_wp2_with fail
    refine xM (qF (.slice none 0 0) ({ kind := 10, n := 13 }) (f) (f + 2) _ (k := B) (qm _ _)) ?_;exact z66
   | false =>
    go_wp2_with fail
    refine xM (qG S p _ HP.out (i) (by omega) [63, 60, 33] ⟨#[63, 60, 33]⟩ rfl (by decide) (Or.inl (by rw [HN.out]; exact hi))) ?_;rintro e w4 ⟨rfl, hb⟩;have F4 := xH (F3.out.step hb);clear hb c0 c1 c2 c3;obtain ⟨c0, c1, c2, c3⟩ := F4.out.c;cases h4 : p.has [63, 60, 33] i with
    | true =>
     have HR := xH (show condR p f i = gtok { kind := 10, n := 13 } f (f + 2) by unfold condR; rw [if_pos (by simp [h4])]);go_wp2_with fail
     refine xM (qF (.slice none 0 0) ({ kind := 10, n := 13 }) (f) (f + 2) _ (k := B) (qm _ _)) ?_;exact z67
    | false =>
     obtain ⟨old0, hg0, _⟩ := F4.out.g;have hlt0 := zi hg0;clear hg0;have hbw := qK w4 tkw.ob01;have hgn := heap_alloc_new w4 (.cells #[.int .i64 10, .int .i64 0, .int .i64 0, .int .i64 0, .slice none 0 0, .bool false, .int .i64 0, .int .i64 0, .int .i64 0, .string ⟨#[]⟩, .int .i64 0, .int .i64 0] 90);have d0 := qf hbw c0;have d1 := qf hbw c1;have d2 := qf hbw c2;have d3 := qf hbw c3;go_wp2_with fail
     generalize w4.alloc (.cells #[.int .i64 10, .int .i64 0, .int .i64 0, .int .i64 0, .slice none 0 0, .bool false, .int .i64 0, .int .i64 0, .int .i64 0, .string ⟨#[]⟩, .int .i64 0, .int .i64 0] 90) = w5 at *;obtain ⟨g, hg⟩ : ∃ g, w4.heap.size = g := ⟨_, rfl⟩;rw [hg] at hgn hlt0 ⊢;have HT5 : Hid (w5.heap[g]? = some (.cells (tkR (.slice none 0 0) { kind := 10 }) 90 (0, 0))) := xH hgn;have F5 := xH (F4.out.step hbw);have hBg : B + 2 ≤ g := hlt0;clear hbw hgn hg c0 c1 c2 c3 d0 d1 d2 d3 hlt0;obtain ⟨c0, c1, c2, c3⟩ := F5.out.c;refine xM (qG S p _ HP.out (i) (by omega) [60] ⟨#[60]⟩ rfl (by decide) (Or.inl (by rw [HN.out]; exact hi))) ?_;rintro e w6 ⟨rfl, hb⟩;have F6 := xH (F5.out.step hb);have HT6 := xH (qQ HT5.out hb);clear hb c0 c1 c2 c3;obtain ⟨c0, c1, c2, c3⟩ := F6.out.c;cases h60 : p.has [60] i with
     | true =>
      have hin := qR HP.out h60;rw [HN.out] at hin;simp only [dA, Nat.zero_add] at hin;have hgb := gb HP.out;obtain ⟨pb0, pb1⟩ := jS HP.out i;have hpi := ((has_byte HP.out 60 i).1 h60).2;have bpi : (p.g i != 60) = false := by rw [hpi]; decide
      clear hpi;have HE := xH (show condR p f i = condE p f { kind := 10, n := 10, name := p.sub (i + 1) (p.name (i + 1)).1 } ((p.name (i + 1)).1 + 1) ((p.name (i + 1)).2 && p.has [62] (p.name (i + 1)).1) by unfold condR; rw [if_neg (by simp [h1, h2, h3, h4]), if_pos h60]; rfl);have ct6 : w6.cell? ⟨g, 6, none⟩ = some (.int .i64 0) := by simp [World.cell?, HT6.out, tkR]
      have cf6 : w6.frozen? ⟨g, 6, none⟩ = false := by simp [World.frozen?, HT6.out]
      have hb := ((Below.refl (B + 2) w6).setCell (p := ⟨g, 6, none⟩) hBg (.int .i64 10));have Fa := xH (F6.out.poke hb);have HTa : Hid ((w6.setCell ⟨g, 6, none⟩ (.int .i64 10)).heap[g]? = some (.cells (tkR (.slice none 0 0) { kind := 10, n := 10 }) 90 (0, 0))) := xH (tkw.heap_set (o := 6) (v := .int .i64 10) HT6.out);clear hb;have ⟨d0, d1, d2, d3⟩ := Fa.out.c;go_wp2_with fail
      generalize (w6.setCell ⟨g, 6, none⟩ (.int .i64 10)) = wa at *;refine xM (name_any S p _ HP.out (i + 1) (by rw [HN.out]; omega)) ?_;rintro e w7 ⟨rfl, hb⟩;have F7 := xH (Fa.out.step hb);have HT7 := xH (qQ HTa.out hb);clear hb c0 c1 c2 c3;obtain ⟨c0, c1, c2, c3⟩ := F7.out.c;obtain ⟨m1, m2⟩ := zh (p := p) (a := i + 1) (by rw [HN.out]; omega);rw [HN.out] at m2;generalize (p.name (i + 1)).1 = z at *;generalize (p.name (i + 1)).2 = ok at *;generalize p.sub (i + 1) z = nm at *;have ct9 : w7.cell? ⟨g, 9, none⟩ = some (.string ⟨#[]⟩) := by simp [World.cell?, HT7.out, tkR]
      have cf9 : w7.frozen? ⟨g, 9, none⟩ = false := by simp [World.frozen?, HT7.out]
      cases ok with
      | false =>
       have HE2 := xH (HE.out.trans (show _ = condE p f { kind := 10, n := 10, name := nm } (z + 1) false from rfl));have hb := ((Below.refl (B + 2) w7).setCell (p := ⟨g, 9, none⟩) hBg (.string nm));have Fb := xH (F7.out.poke hb);have HTb : Hid ((w7.setCell ⟨g, 9, none⟩ (.string nm)).heap[g]? = some (.cells (tkR (.slice none 0 0) { kind := 10, n := 10, name := nm }) 90 (0, 0))) := xH (tkw.heap_set (o := 9) (v := .string nm) HT7.out);clear hb;have ⟨d0, d1, d2, d3⟩ := Fb.out.c;go_wp2_with fail
       generalize (w7.setCell ⟨g, 9, none⟩ (.string nm)) = wb at *;have HR := xH (HE2.out.trans (show _ = Except.error (32, (f : Int)) by unfold condE; rw [if_pos (Or.inl (by simp))]));refine xM (qw _ _ _) ?_;intro e w8 h;obtain ⟨v, rfl, HO, F8, old, HG, hz⟩ := yJ Fb h;clear h c0 c1 c2 c3;go_wp2_with (refine yR HG hz HO ?_)
       exact yW HG F8 HR HO
      | true =>
       have hb := ((Below.refl (B + 2) w7).setCell (p := ⟨g, 9, none⟩) hBg (.string nm));have Fb := xH (F7.out.poke hb);have HTb : Hid ((w7.setCell ⟨g, 9, none⟩ (.string nm)).heap[g]? = some (.cells (tkR (.slice none 0 0) { kind := 10, n := 10, name := nm }) 90 (0, 0))) := xH (tkw.heap_set (o := 9) (v := .string nm) HT7.out);clear hb;have ⟨d0, d1, d2, d3⟩ := Fb.out.c;go_wp2_with fail
       generalize (w7.setCell ⟨g, 9, none⟩ (.string nm)) = wb at *;refine xM (qG S p _ HP.out z (by omega) [62] ⟨#[62]⟩ rfl (by decide) (Or.inr (by simp))) ?_;rintro e w8 ⟨rfl, hb⟩;have F8 := xH (Fb.out.step hb);have HT8 := xH (qQ HTb.out hb);clear hb c0 c1 c2 c3;obtain ⟨c0, c1, c2, c3⟩ := F8.out.c;cases hz : p.has [62] z with
       | false =>
        have HE2 := xH (HE.out.trans (show _ = condE p f { kind := 10, n := 10, name := nm } (z + 1) false by rw [hz]; rfl));have HR := xH (HE2.out.trans (show _ = Except.error (32, (f : Int)) by unfold condE; rw [if_pos (Or.inl (by simp))]));exact z86
       | true =>
        have HE2 := xH (HE.out.trans (show _ = condE p f { kind := 10, n := 10, name := nm } (z + 1) true by rw [hz]; rfl));go_wp2_with fail
        refine xM (qG S p _ HP.out (z + 1) (by omega) [41] ⟨#[41]⟩ rfl (by decide) (Or.inr (by simp))) ?_;rintro e w9 ⟨rfl, hb⟩;have F9 := xH (F8.out.step hb);have HT9 := xH (qQ HT8.out hb);clear hb c0 c1 c2 c3;obtain ⟨c0, c1, c2, c3⟩ := F9.out.c;cases h41 : p.has [41] (z + 1) with
        | false =>
         have HR := xH (HE2.out.trans (show _ = Except.error (32, (f : Int)) by unfold condE; rw [if_pos (Or.inr h41)]));exact z82
        | true =>
         have HR := xH (HE2.out.trans (show _ = gtok ({ kind := 10, n := 10, name := nm }) f (z + 1 + 1) by unfold condE; rw [if_neg (by simp [h41]), if_neg (by simp)]));have ct6 : w9.cell? ⟨g, 6, none⟩ = some (.int .i64 10) := by simp [World.cell?, HT9.out, tkR]
         have cf6 : w9.frozen? ⟨g, 6, none⟩ = false := by simp [World.frozen?, HT9.out]
         go_wp2_with (refine tkw.qX rfl _ rfl g rfl _ HT9.out rfl ?_)
         refine xM (qF (.slice none 0 0) ({ kind := 10, n := 10, name := nm }) (f) (z + 1 + 1) _ (k := B) (qm _ _)) ?_;exact z65
     | false =>
      go_wp2_with fail
      refine xM (qG S p _ HP.out (i) (by omega) [39] ⟨#[39]⟩ rfl (by decide) (Or.inl (by rw [HN.out]; exact hi))) ?_;rintro e w7 ⟨rfl, hb⟩;have F7 := xH (F6.out.step hb);have HT7 := xH (qQ HT6.out hb);clear hb c0 c1 c2 c3;obtain ⟨c0, c1, c2, c3⟩ := F7.out.c;cases h39 : p.has [39] i with
      | true =>
       have hin := qR HP.out h39;rw [HN.out] at hin;simp only [dA, Nat.zero_add] at hin;have hgb := gb HP.out;obtain ⟨pb0, pb1⟩ := jS HP.out i;have hpi := ((has_byte HP.out 39 i).1 h39).2;have bpi : (p.g i != 60) = true := by rw [hpi]; decide
       clear hpi;have HE := xH (show condR p f i = condE p f { kind := 10, n := 10, name := p.sub (i + 1) (p.name (i + 1)).1 } ((p.name (i + 1)).1 + 1) ((p.name (i + 1)).2 && p.has [39] (p.name (i + 1)).1) by unfold condR; rw [if_neg (by simp [h1, h2, h3, h4]), if_neg (by simp [h60]), if_pos h39]; rfl);have ct6 : w7.cell? ⟨g, 6, none⟩ = some (.int .i64 0) := by simp [World.cell?, HT7.out, tkR]
       have cf6 : w7.frozen? ⟨g, 6, none⟩ = false := by simp [World.frozen?, HT7.out]
       have hb := ((Below.refl (B + 2) w7).setCell (p := ⟨g, 6, none⟩) hBg (.int .i64 10));have Fa := xH (F7.out.poke hb);have HTa : Hid ((w7.setCell ⟨g, 6, none⟩ (.int .i64 10)).heap[g]? = some (.cells (tkR (.slice none 0 0) { kind := 10, n := 10 }) 90 (0, 0))) := xH (tkw.heap_set (o := 6) (v := .int .i64 10) HT7.out);clear hb;have ⟨d0, d1, d2, d3⟩ := Fa.out.c;go_wp2_with fail
       generalize (w7.setCell ⟨g, 6, none⟩ (.int .i64 10)) = wa at *;refine xM (name_any S p _ HP.out (i + 1) (by rw [HN.out]; omega)) ?_;rintro e w8 ⟨rfl, hb⟩;have F8 := xH (Fa.out.step hb);have HT8 := xH (qQ HTa.out hb);clear hb c0 c1 c2 c3;obtain ⟨c0, c1, c2, c3⟩ := F8.out.c;obtain ⟨m1, m2⟩ := zh (p := p) (a := i + 1) (by rw [HN.out]; omega);rw [HN.out] at m2;generalize (p.name (i + 1)).1 = z at *;generalize (p.name (i + 1)).2 = ok at *;generalize p.sub (i + 1) z = nm at *;have ct9 : w8.cell? ⟨g, 9, none⟩ = some (.string ⟨#[]⟩) := by simp [World.cell?, HT8.out, tkR]
       have cf9 : w8.frozen? ⟨g, 9, none⟩ = false := by simp [World.frozen?, HT8.out]
       cases ok with
       | false =>
        have HE2 := xH (HE.out.trans (show _ = condE p f { kind := 10, n := 10, name := nm } (z + 1) false from rfl));have hb := ((Below.refl (B + 2) w8).setCell (p := ⟨g, 9, none⟩) hBg (.string nm));have Fb := xH (F8.out.poke hb);have HTb : Hid ((w8.setCell ⟨g, 9, none⟩ (.string nm)).heap[g]? = some (.cells (tkR (.slice none 0 0) { kind := 10, n := 10, name := nm }) 90 (0, 0))) := xH (tkw.heap_set (o := 9) (v := .string nm) HT8.out);clear hb;have ⟨d0, d1, d2, d3⟩ := Fb.out.c;go_wp2_with fail
        generalize (w8.setCell ⟨g, 9, none⟩ (.string nm)) = wb at *;have HR := xH (HE2.out.trans (show _ = Except.error (32, (f : Int)) by unfold condE; rw [if_pos (Or.inl (by simp))]));refine xM (qw _ _ _) ?_;intro e w9 h;obtain ⟨v, rfl, HO, F9, old, HG, hz⟩ := yJ Fb h;clear h c0 c1 c2 c3;go_wp2_with (refine yR HG hz HO ?_)
        exact yW HG F9 HR HO
       | true =>
        have hb := ((Below.refl (B + 2) w8).setCell (p := ⟨g, 9, none⟩) hBg (.string nm));have Fb := xH (F8.out.poke hb);have HTb : Hid ((w8.setCell ⟨g, 9, none⟩ (.string nm)).heap[g]? = some (.cells (tkR (.slice none 0 0) { kind := 10, n := 10, name := nm }) 90 (0, 0))) := xH (tkw.heap_set (o := 9) (v := .string nm) HT8.out);clear hb;have ⟨d0, d1, d2, d3⟩ := Fb.out.c;go_wp2_with fail
        generalize (w8.setCell ⟨g, 9, none⟩ (.string nm)) = wb at *;refine xM (qG S p _ HP.out z (by omega) [39] ⟨#[39]⟩ rfl (by decide) (Or.inr (by simp))) ?_;rintro e w9 ⟨rfl, hb⟩;have F9 := xH (Fb.out.step hb);have HT9 := xH (qQ HTb.out hb);clear hb c0 c1 c2 c3;obtain ⟨c0, c1, c2, c3⟩ := F9.out.c;cases hz : p.has [39] z with
        | false =>
         have HE2 := xH (HE.out.trans (show _ = condE p f { kind := 10, n := 10, name := nm } (z + 1) false by rw [hz]; rfl));have HR := xH (HE2.out.trans (show _ = Except.error (32, (f : Int)) by unfold condE; rw [if_pos (Or.inl (by simp))]));exact z82
        | true =>
         have HE2 := xH (HE.out.trans (show _ = condE p f { kind := 10, n := 10, name := nm } (z + 1) true by rw [hz]; rfl));go_wp2_with fail
         refine xM (qG S p _ HP.out (z + 1) (by omega) [41] ⟨#[41]⟩ rfl (by decide) (Or.inr (by simp))) ?_;rintro e w10 ⟨rfl, hb⟩;have F10 := xH (F9.out.step hb);have HT10 := xH (qQ HT9.out hb);clear hb c0 c1 c2 c3;obtain ⟨c0, c1, c2, c3⟩ := F10.out.c;cases h41 : p.has [41] (z + 1) with
         | false =>
          have HR := xH (HE2.out.trans (show _ = Except.error (32, (f : Int)) by unfold condE; rw [if_pos (Or.inr h41)]));go_wp2_with fail
          refine xM (qw _ _ _) ?_;exact z121
         | true =>
          have HR := xH (HE2.out.trans (show _ = gtok ({ kind := 10, n := 10, name := nm }) f (z + 1 + 1) by unfold condE; rw [if_neg (by simp [h41]), if_neg (by simp)]));have ct6 : w10.cell? ⟨g, 6, none⟩ = some (.int .i64 10) := by simp [World.cell?, HT10.out, tkR]
          have cf6 : w10.frozen? ⟨g, 6, none⟩ = false := by simp [World.frozen?, HT10.out]
          go_wp2_with (refine tkw.qX rfl _ rfl g rfl _ HT10.out rfl ?_)
          refine xM (qF (.slice none 0 0) ({ kind := 10, n := 10, name := nm }) (f) (z + 1 + 1) _ (k := B) (qm _ _)) ?_;rintro e w11 ⟨rfl, ho, hb⟩;have F11 := xH (F10.out.step hb);have HO := xH ho;clear hb ho c0 c1 c2 c3;obtain ⟨old, HG, hz⟩ := xG F11;go_wp2_with (refine yR HG hz HO ?_)
          exact yW HG F11 HR HO
      | false =>
       go_wp2_with fail
       refine xM (qG S p _ HP.out (i) (by omega) [68, 69, 70, 73, 78, 69] ⟨#[68, 69, 70, 73, 78, 69]⟩ rfl (by decide) (Or.inl (by rw [HN.out]; exact hi))) ?_;rintro e w8 ⟨rfl, hb⟩;have F8 := xH (F7.out.step hb);have HT8 := xH (qQ HT7.out hb);clear hb c0 c1 c2 c3;obtain ⟨c0, c1, c2, c3⟩ := F8.out.c;cases hD : p.has [68, 69, 70, 73, 78, 69] i with
       | true =>
        have hin := qR HP.out hD;rw [HN.out] at hin;simp only [dB, dA, Nat.zero_add] at hin;have HE := xH (show condR p f i = condE p f { kind := 10, n := 12 } (i + 6) true by unfold condR; rw [if_neg (by simp [h1, h2, h3, h4]), if_neg (by simp [h60]), if_neg (by simp [h39]), if_pos hD]);have ct6 : w8.cell? ⟨g, 6, none⟩ = some (.int .i64 0) := by simp [World.cell?, HT8.out, tkR]
        have cf6 : w8.frozen? ⟨g, 6, none⟩ = false := by simp [World.frozen?, HT8.out]
        have hb := ((Below.refl (B + 2) w8).setCell (p := ⟨g, 6, none⟩) hBg (.int .i64 12));have Fa := xH (F8.out.poke hb);have HTa : Hid ((w8.setCell ⟨g, 6, none⟩ (.int .i64 12)).heap[g]? = some (.cells (tkR (.slice none 0 0) { kind := 10, n := 12 }) 90 (0, 0))) := xH (tkw.heap_set (o := 6) (v := .int .i64 12) HT8.out);clear hb;have ⟨d0, d1, d2, d3⟩ := Fa.out.c;go_wp2_with fail
        generalize (w8.setCell ⟨g, 6, none⟩ (.int .i64 12)) = wa at *;refine xM (qG S p _ HP.out (i + 6) (by omega) [41] ⟨#[41]⟩ rfl (by decide) (Or.inr (by simp))) ?_;rintro e w9 ⟨rfl, hb⟩;have F9 := xH (Fa.out.step hb);have HT9 := xH (qQ HTa.out hb);clear hb c0 c1 c2 c3;obtain ⟨c0, c1, c2, c3⟩ := F9.out.c;cases h41 : p.has [41] (i + 6) with
        | false =>
         have HR := xH (HE.out.trans (show _ = Except.error (32, (f : Int)) by unfold condE; rw [if_pos (Or.inr h41)]));exact z82
        | true =>
         have HR := xH (HE.out.trans (show _ = gtok ({ kind := 10, n := 12 }) f (i + 6 + 1) by unfold condE; rw [if_neg (by simp [h41]), if_neg (by simp)]));have ct6 : w9.cell? ⟨g, 6, none⟩ = some (.int .i64 12) := by simp [World.cell?, HT9.out, tkR]
         have cf6 : w9.frozen? ⟨g, 6, none⟩ = false := by simp [World.frozen?, HT9.out]
         go_wp2_with (refine tkw.qX rfl _ rfl g rfl _ HT9.out rfl ?_)
         refine xM (qF (.slice none 0 0) ({ kind := 10, n := 12 }) (f) (i + 6 + 1) _ (k := B) (qm _ _)) ?_;exact z65
       | false =>
        go_wp2_with fail
        refine xM (qG S p _ HP.out (i) (by omega) [82, 38] ⟨#[82, 38]⟩ rfl (by decide) (Or.inl (by rw [HN.out]; exact hi))) ?_;rintro e w9 ⟨rfl, hb⟩;have F9 := xH (F8.out.step hb);have HT9 := xH (qQ HT8.out hb);clear hb c0 c1 c2 c3;obtain ⟨c0, c1, c2, c3⟩ := F9.out.c;cases hRA : p.has [82, 38] i with
        | true =>
         have hin := qR HP.out hRA;rw [HN.out] at hin;simp only [dB, dA, Nat.zero_add] at hin;have HE := xH (show condR p f i = condE p f { kind := 10, n := 11, m := 3, name := p.sub (i + 2) (p.name (i + 2)).1 } (p.name (i + 2)).1 (p.name (i + 2)).2 by unfold condR; rw [if_neg (by simp [h1, h2, h3, h4]), if_neg (by simp [h60]), if_neg (by simp [h39]), if_neg (by simp [hD]), if_pos hRA]);have ct6 : w9.cell? ⟨g, 6, none⟩ = some (.int .i64 0) := by simp [World.cell?, HT9.out, tkR]
         have cf6 : w9.frozen? ⟨g, 6, none⟩ = false := by simp [World.frozen?, HT9.out]
         have ct7 : w9.cell? ⟨g, 7, none⟩ = some (.int .i64 0) := by simp [World.cell?, HT9.out, tkR]
         have cf7 : w9.frozen? ⟨g, 7, none⟩ = false := by simp [World.frozen?, HT9.out]
         have hb := (((Below.refl (B + 2) w9).setCell (p := ⟨g, 6, none⟩) hBg (.int .i64 11)).setCell (p := ⟨g, 7, none⟩) hBg (.int .i64 3));have Fa := xH (F9.out.poke hb);have HTa : Hid (((w9.setCell ⟨g, 6, none⟩ (.int .i64 11)).setCell ⟨g, 7, none⟩ (.int .i64 3)).heap[g]? = some (.cells (tkR (.slice none 0 0) { kind := 10, n := 11, m := 3 }) 90 (0, 0))) := xH (tkw.heap_set (o := 7) (v := .int .i64 3) (tkw.heap_set (o := 6) (v := .int .i64 11) HT9.out));clear hb;have ⟨d0, d1, d2, d3⟩ := Fa.out.c;go_wp2_with fail
         generalize ((w9.setCell ⟨g, 6, none⟩ (.int .i64 11)).setCell ⟨g, 7, none⟩ (.int .i64 3)) = wa at *;refine xM (name_any S p _ HP.out (i + 2) (by rw [HN.out]; omega)) ?_;rintro e w10 ⟨rfl, hb⟩;have F10 := xH (Fa.out.step hb);have HT10 := xH (qQ HTa.out hb);clear hb c0 c1 c2 c3;obtain ⟨c0, c1, c2, c3⟩ := F10.out.c;obtain ⟨m1, m2⟩ := zh (p := p) (a := i + 2) (by rw [HN.out]; omega);rw [HN.out] at m2;generalize (p.name (i + 2)).1 = z at *;generalize (p.name (i + 2)).2 = ok at *;generalize p.sub (i + 2) z = nm at *;have ct9 : w10.cell? ⟨g, 9, none⟩ = some (.string ⟨#[]⟩) := by simp [World.cell?, HT10.out, tkR]
         have cf9 : w10.frozen? ⟨g, 9, none⟩ = false := by simp [World.frozen?, HT10.out]
         cases ok with
         | false =>
          have hb := ((Below.refl (B + 2) w10).setCell (p := ⟨g, 9, none⟩) hBg (.string nm));have Fb := xH (F10.out.poke hb);have HTb : Hid ((w10.setCell ⟨g, 9, none⟩ (.string nm)).heap[g]? = some (.cells (tkR (.slice none 0 0) { kind := 10, n := 11, m := 3, name := nm }) 90 (0, 0))) := xH (tkw.heap_set (o := 9) (v := .string nm) HT10.out);clear hb;have ⟨d0, d1, d2, d3⟩ := Fb.out.c;go_wp2_with fail
          generalize (w10.setCell ⟨g, 9, none⟩ (.string nm)) = wb at *;have HR := xH (HE.out.trans (show _ = Except.error (32, (f : Int)) by unfold condE; rw [if_pos (Or.inl (by simp))]));refine xM (qw _ _ _) ?_;intro e w11 h;obtain ⟨v, rfl, HO, F11, old, HG, hz⟩ := yJ Fb h;clear h c0 c1 c2 c3;go_wp2_with (refine yR HG hz HO ?_)
          exact yW HG F11 HR HO
         | true =>
          have hb := ((Below.refl (B + 2) w10).setCell (p := ⟨g, 9, none⟩) hBg (.string nm));have Fb := xH (F10.out.poke hb);have HTb : Hid ((w10.setCell ⟨g, 9, none⟩ (.string nm)).heap[g]? = some (.cells (tkR (.slice none 0 0) { kind := 10, n := 11, m := 3, name := nm }) 90 (0, 0))) := xH (tkw.heap_set (o := 9) (v := .string nm) HT10.out);clear hb;have ⟨d0, d1, d2, d3⟩ := Fb.out.c;go_wp2_with fail
          generalize (w10.setCell ⟨g, 9, none⟩ (.string nm)) = wb at *;refine xM (qG S p _ HP.out (z) (by omega) [41] ⟨#[41]⟩ rfl (by decide) (Or.inr (by simp))) ?_;rintro e w11 ⟨rfl, hb⟩;have F11 := xH (Fb.out.step hb);have HT11 := xH (qQ HTb.out hb);clear hb c0 c1 c2 c3;obtain ⟨c0, c1, c2, c3⟩ := F11.out.c;cases h41 : p.has [41] (z) with
          | false =>
           have HR := xH (HE.out.trans (show _ = Except.error (32, (f : Int)) by unfold condE; rw [if_pos (Or.inr h41)]));go_wp2_with fail
           refine xM (qw _ _ _) ?_;exact z122
          | true =>
           have HR := xH (HE.out.trans (show _ = gtok ({ kind := 10, n := 11, m := 3, name := nm }) f (z + 1) by unfold condE; rw [if_neg (by simp [h41]), if_neg (by simp)]));have ct6 : w11.cell? ⟨g, 6, none⟩ = some (.int .i64 11) := by simp [World.cell?, HT11.out, tkR]
           have cf6 : w11.frozen? ⟨g, 6, none⟩ = false := by simp [World.frozen?, HT11.out]
           go_wp2_with (refine tkw.qX rfl _ rfl g rfl _ HT11.out rfl ?_)
           refine xM (qF (.slice none 0 0) ({ kind := 10, n := 11, m := 3, name := nm }) (f) (z + 1) _ (k := B) (qm _ _)) ?_;rintro e w12 ⟨rfl, ho, hb⟩;have F12 := xH (F11.out.step hb);have HO := xH ho;clear hb ho c0 c1 c2 c3;obtain ⟨old, HG, hz⟩ := xG F12;go_wp2_with (refine yR HG hz HO ?_)
           exact yW HG F12 HR HO
        | false =>
         go_wp2_with fail
         refine xM (qG S p _ HP.out (i) (by omega) [82] ⟨#[82]⟩ rfl (by decide) (Or.inl (by rw [HN.out]; exact hi))) ?_;rintro e w10 ⟨rfl, hb⟩;have F10 := xH (F9.out.step hb);have HT10 := xH (qQ HT9.out hb);clear hb c0 c1 c2 c3;obtain ⟨c0, c1, c2, c3⟩ := F10.out.c;cases hR1 : p.has [82] i with
         | true =>
          have hin := qR HP.out hR1;rw [HN.out] at hin;simp only [dA, Nat.zero_add] at hin;have HE0 := xH (show condR p f i = (if (num p (i + 1)).2.2 = true then Except.error (25, (f : Int)) else condE p f { kind := 10, n := 11, mode := if (num p (i + 1)).2.1 = i + 1 then -1 else (num p (i + 1)).1 } (num p (i + 1)).2.1 true) by unfold condR; rw [if_neg (by simp [h1, h2, h3, h4]), if_neg (by simp [h60]), if_neg (by simp [h39]), if_neg (by simp [hD]), if_neg (by simp [hRA]), if_pos hR1]);have ct6 : w10.cell? ⟨g, 6, none⟩ = some (.int .i64 0) := by simp [World.cell?, HT10.out, tkR]
          have cf6 : w10.frozen? ⟨g, 6, none⟩ = false := by simp [World.frozen?, HT10.out]
          have hb := ((Below.refl (B + 2) w10).setCell (p := ⟨g, 6, none⟩) hBg (.int .i64 11));have Fa := xH (F10.out.poke hb);have HTa : Hid ((w10.setCell ⟨g, 6, none⟩ (.int .i64 11)).heap[g]? = some (.cells (tkR (.slice none 0 0) { kind := 10, n := 11 }) 90 (0, 0))) := xH (tkw.heap_set (o := 6) (v := .int .i64 11) HT10.out);clear hb;have ⟨d0, d1, d2, d3⟩ := Fa.out.c;go_wp2_with fail
          generalize (w10.setCell ⟨g, 6, none⟩ (.int .i64 11)) = wa at *;refine xM (vY S p _ HP.out (i + 1) (by rw [HN.out]; omega)) ?_;rintro e w11 ⟨rfl, hb⟩;have F11 := xH (Fa.out.step hb);have HT11 := xH (qQ HTa.out hb);clear hb c0 c1 c2 c3;obtain ⟨c0, c1, c2, c3⟩ := F11.out.c;obtain ⟨m1, m2⟩ := num_bd (p := p) (a := i + 1) (by rw [HN.out]; omega);rw [HN.out] at m2;generalize num p (i + 1) = q at *;obtain ⟨n, b, gr⟩ := q;simp only at m1 m2 HE0;cases gr with
          | true =>
           exact z60
          | false =>
           by_cases hb1 : b = i + 1
           ·subst hb1;have HE := xH (HE0.out.trans (show _ = condE p f { kind := 10, n := 11, mode := -1 } (i + 1) true by rw [if_neg (by simp), if_pos rfl]));have ct8 : w11.cell? ⟨g, 8, none⟩ = some (.int .i64 0) := by simp [World.cell?, HT11.out, tkR]
            have cf8 : w11.frozen? ⟨g, 8, none⟩ = false := by simp [World.frozen?, HT11.out]
            have ct8' : (w11.setCell ⟨g, 8, none⟩ (.int .i64 n)).cell? ⟨g, 8, none⟩ = some (.int .i64 n) := by have := tkw.heap_set (o := 8) (v := .int .i64 n) HT11.out;simp [World.cell?, this, tkR]
            have cf8' : (w11.setCell ⟨g, 8, none⟩ (.int .i64 n)).frozen? ⟨g, 8, none⟩ = false := by have := tkw.heap_set (o := 8) (v := .int .i64 n) HT11.out;simp [World.frozen?, this]
            have hb := (((Below.refl (B + 2) w11).setCell (p := ⟨g, 8, none⟩) hBg (.int .i64 n)).setCell (p := ⟨g, 8, none⟩) hBg (.int .i64 (-1)));have Fb := xH (F11.out.poke hb);have HTb : Hid (((w11.setCell ⟨g, 8, none⟩ (.int .i64 n)).setCell ⟨g, 8, none⟩ (.int .i64 (-1))).heap[g]? = some (.cells (tkR (.slice none 0 0) { kind := 10, n := 11, mode := -1 }) 90 (0, 0))) := xH (tkw.heap_set (o := 8) (v := .int .i64 (-1)) (tkw.heap_set (o := 8) (v := .int .i64 n) HT11.out));clear hb;have ⟨d0, d1, d2, d3⟩ := Fb.out.c;go_wp2_with fail
            generalize ((w11.setCell ⟨g, 8, none⟩ (.int .i64 n)).setCell ⟨g, 8, none⟩ (.int .i64 (-1))) = wb at *;refine xM (qG S p _ HP.out (i + 1) (by omega) [41] ⟨#[41]⟩ rfl (by decide) (Or.inr (by simp))) ?_;rintro e w12 ⟨rfl, hb⟩;have F12 := xH (Fb.out.step hb);have HT12 := xH (qQ HTb.out hb);clear hb c0 c1 c2 c3;obtain ⟨c0, c1, c2, c3⟩ := F12.out.c;cases h41 : p.has [41] (i + 1) with
            | false =>
             exact z45
            | true =>
             have HR := xH (HE.out.trans (show _ = gtok ({ kind := 10, n := 11, mode := -1 }) f (i + 1 + 1) by unfold condE; rw [if_neg (by simp [h41]), if_neg (by simp)]));have ct6 : w12.cell? ⟨g, 6, none⟩ = some (.int .i64 11) := by simp [World.cell?, HT12.out, tkR]
             have cf6 : w12.frozen? ⟨g, 6, none⟩ = false := by simp [World.frozen?, HT12.out]
             go_wp2_with (refine tkw.qX rfl _ rfl g rfl _ HT12.out rfl ?_)
             refine xM (qF (.slice none 0 0) ({ kind := 10, n := 11, mode := -1 }) (f) (i + 1 + 1) _ (k := B) (qm _ _)) ?_;exact z64
           ·have HE := xH (HE0.out.trans (show _ = condE p f { kind := 10, n := 11, mode := n } b true by rw [if_neg (by simp), if_neg hb1]));have hbi : ¬ (b : Int) = (i : Int) + 1 := by omega
            have ct8 : w11.cell? ⟨g, 8, none⟩ = some (.int .i64 0) := by simp [World.cell?, HT11.out, tkR]
            have cf8 : w11.frozen? ⟨g, 8, none⟩ = false := by simp [World.frozen?, HT11.out]
            have hb := ((Below.refl (B + 2) w11).setCell (p := ⟨g, 8, none⟩) hBg (.int .i64 n));have Fb := xH (F11.out.poke hb);have HTb : Hid ((w11.setCell ⟨g, 8, none⟩ (.int .i64 n)).heap[g]? = some (.cells (tkR (.slice none 0 0) { kind := 10, n := 11, mode := n }) 90 (0, 0))) := xH (tkw.heap_set (o := 8) (v := .int .i64 n) HT11.out);clear hb;have ⟨d0, d1, d2, d3⟩ := Fb.out.c;go_wp2_with fail
            generalize (w11.setCell ⟨g, 8, none⟩ (.int .i64 n)) = wb at *;refine xM (qG S p _ HP.out (b) (by omega) [41] ⟨#[41]⟩ rfl (by decide) (Or.inr (by simp))) ?_;rintro e w12 ⟨rfl, hb⟩;have F12 := xH (Fb.out.step hb);have HT12 := xH (qQ HTb.out hb);clear hb c0 c1 c2 c3;obtain ⟨c0, c1, c2, c3⟩ := F12.out.c;cases h41 : p.has [41] (b) with
            | false =>
             exact z45
            | true =>
             have HR := xH (HE.out.trans (show _ = gtok ({ kind := 10, n := 11, mode := n }) f (b + 1) by unfold condE; rw [if_neg (by simp [h41]), if_neg (by simp)]));have ct6 : w12.cell? ⟨g, 6, none⟩ = some (.int .i64 11) := by simp [World.cell?, HT12.out, tkR]
             have cf6 : w12.frozen? ⟨g, 6, none⟩ = false := by simp [World.frozen?, HT12.out]
             go_wp2_with (refine tkw.qX rfl _ rfl g rfl _ HT12.out rfl ?_)
             refine xM (qF (.slice none 0 0) ({ kind := 10, n := 11, mode := n }) (f) (b + 1) _ (k := B) (qm _ _)) ?_;exact z64
         | false =>
          have HE0 := xH (show condR p f i = (if (sgn p i).2.2.2 = true then Except.error (25, (f : Int)) else condE p f { kind := 10, n := 9, mode := (sgn p i).1, m := (sgn p i).2.1 } (sgn p i).2.2.1 (decide (i < (sgn p i).2.2.1))) by unfold condR; rw [if_neg (by simp [h1, h2, h3, h4]), if_neg (by simp [h60]), if_neg (by simp [h39]), if_neg (by simp [hD]), if_neg (by simp [hRA]), if_neg (by simp [hR1])]);have ct6 : w10.cell? ⟨g, 6, none⟩ = some (.int .i64 0) := by simp [World.cell?, HT10.out, tkR]
          have cf6 : w10.frozen? ⟨g, 6, none⟩ = false := by simp [World.frozen?, HT10.out]
          have hb := ((Below.refl (B + 2) w10).setCell (p := ⟨g, 6, none⟩) hBg (.int .i64 9));have Fa := xH (F10.out.poke hb);have HTa : Hid ((w10.setCell ⟨g, 6, none⟩ (.int .i64 9)).heap[g]? = some (.cells (tkR (.slice none 0 0) { kind := 10, n := 9 }) 90 (0, 0))) := xH (tkw.heap_set (o := 6) (v := .int .i64 9) HT10.out);clear hb;have ⟨d0, d1, d2, d3⟩ := Fa.out.c;go_wp2_with fail
          generalize (w10.setCell ⟨g, 6, none⟩ (.int .i64 9)) = wa at *;refine xM (zQ S p _ HP.out i (by rw [HN.out]; omega)) ?_;rintro e w11 ⟨rfl, hb⟩;have F11 := xH (Fa.out.step hb);have HT11 := xH (qQ HTa.out hb);clear hb c0 c1 c2 c3;obtain ⟨c0, c1, c2, c3⟩ := F11.out.c;obtain ⟨m1, m2⟩ := sgn_bd HP.out (a := i) (by rw [HN.out]; omega);rw [HN.out] at m2;generalize sgn p i = q at *;obtain ⟨n, m, b, gr⟩ := q;simp only at m1 m2 HE0;cases gr with
          | true =>
           exact z60
          | false =>
           have ct8 : w11.cell? ⟨g, 8, none⟩ = some (.int .i64 0) := by simp [World.cell?, HT11.out, tkR]
           have cf8 : w11.frozen? ⟨g, 8, none⟩ = false := by simp [World.frozen?, HT11.out]
           have ct7 : w11.cell? ⟨g, 7, none⟩ = some (.int .i64 0) := by simp [World.cell?, HT11.out, tkR]
           have cf7 : w11.frozen? ⟨g, 7, none⟩ = false := by simp [World.frozen?, HT11.out]
           by_cases hlt : i < b
           ·have HE := xH (HE0.out.trans (show _ = condE p f { kind := 10, n := 9, mode := n, m := m } b true by rw [if_neg (by simp), decide_eq_true hlt]));have hlti : (i : Int) < (b : Int) := by omega
            have hb := (((Below.refl (B + 2) w11).setCell (p := ⟨g, 8, none⟩) hBg (.int .i64 n)).setCell (p := ⟨g, 7, none⟩) hBg (.int .i64 m));have Fb := xH (F11.out.poke hb);have HTb : Hid (((w11.setCell ⟨g, 8, none⟩ (.int .i64 n)).setCell ⟨g, 7, none⟩ (.int .i64 m)).heap[g]? = some (.cells (tkR (.slice none 0 0) { kind := 10, n := 9, mode := n, m := m }) 90 (0, 0))) := xH (tkw.heap_set (o := 7) (v := .int .i64 m) (tkw.heap_set (o := 8) (v := .int .i64 n) HT11.out));clear hb;have ⟨d0, d1, d2, d3⟩ := Fb.out.c;go_wp2_with fail
            generalize ((w11.setCell ⟨g, 8, none⟩ (.int .i64 n)).setCell ⟨g, 7, none⟩ (.int .i64 m)) = wb at *;refine xM (qG S p _ HP.out (b) (by omega) [41] ⟨#[41]⟩ rfl (by decide) (Or.inr (by simp))) ?_;rintro e w12 ⟨rfl, hb⟩;have F12 := xH (Fb.out.step hb);have HT12 := xH (qQ HTb.out hb);clear hb c0 c1 c2 c3;obtain ⟨c0, c1, c2, c3⟩ := F12.out.c;cases h41 : p.has [41] (b) with
            | false =>
             exact z45
            | true =>
             by_cases h0 : n = 0
             ·have HR := xH (HE.out.trans (show _ = Except.error (25, (f : Int)) by unfold condE; rw [if_neg (by simp [h41]), if_pos ⟨rfl, h0⟩]));have b0 : (n == 0) = true := by simp [h0]
              clear h0;have ct6 : w12.cell? ⟨g, 6, none⟩ = some (.int .i64 9) := by simp [World.cell?, HT12.out, tkR]
              have cf6 : w12.frozen? ⟨g, 6, none⟩ = false := by simp [World.frozen?, HT12.out]
              have ct8 : w12.cell? ⟨g, 8, none⟩ = some (.int .i64 (n)) := by simp [World.cell?, HT12.out, tkR]
              have cf8 : w12.frozen? ⟨g, 8, none⟩ = false := by simp [World.frozen?, HT12.out]
              go_wp2_with fail
              refine xM (qw _ _ _) ?_;exact z123
             ·have HR := xH (HE.out.trans (show _ = gtok ({ kind := 10, n := 9, mode := n, m := m }) f (b + 1) by unfold condE; rw [if_neg (by simp [h41]), if_neg (fun h => h0 h.2)]));have b0 : (n == 0) = false := by simp [h0]
              have ct6 : w12.cell? ⟨g, 6, none⟩ = some (.int .i64 9) := by simp [World.cell?, HT12.out, tkR]
              have cf6 : w12.frozen? ⟨g, 6, none⟩ = false := by simp [World.frozen?, HT12.out]
              have ct8 : w12.cell? ⟨g, 8, none⟩ = some (.int .i64 (n)) := by simp [World.cell?, HT12.out, tkR]
              have cf8 : w12.frozen? ⟨g, 8, none⟩ = false := by simp [World.frozen?, HT12.out]
              go_wp2_with (refine tkw.qX rfl _ rfl g rfl _ HT12.out rfl ?_)
              refine xM (qF (.slice none 0 0) ({ kind := 10, n := 9, mode := n, m := m }) (f) (b + 1) _ (k := B) (qm _ _)) ?_;exact z64
           ·have HE := xH (HE0.out.trans (show _ = condE p f { kind := 10, n := 9, mode := n, m := m } b false by rw [if_neg (by simp), decide_eq_false hlt]));have hlti : ¬ (i : Int) < (b : Int) := by omega
            have hb := (((Below.refl (B + 2) w11).setCell (p := ⟨g, 8, none⟩) hBg (.int .i64 n)).setCell (p := ⟨g, 7, none⟩) hBg (.int .i64 m));have Fb := xH (F11.out.poke hb);have HTb : Hid (((w11.setCell ⟨g, 8, none⟩ (.int .i64 n)).setCell ⟨g, 7, none⟩ (.int .i64 m)).heap[g]? = some (.cells (tkR (.slice none 0 0) { kind := 10, n := 9, mode := n, m := m }) 90 (0, 0))) := xH (tkw.heap_set (o := 7) (v := .int .i64 m) (tkw.heap_set (o := 8) (v := .int .i64 n) HT11.out));clear hb;have ⟨d0, d1, d2, d3⟩ := Fb.out.c;go_wp2_with fail
            generalize ((w11.setCell ⟨g, 8, none⟩ (.int .i64 n)).setCell ⟨g, 7, none⟩ (.int .i64 m)) = wb at *;have HR := xH (HE.out.trans (show _ = Except.error (32, (f : Int)) by unfold condE; rw [if_pos (Or.inl (by simp))]));refine xM (qw _ _ _) ?_;intro e w12 h;obtain ⟨v, rfl, HO, F12, old, HG, hz⟩ := yJ Fb h;clear h c0 c1 c2 c3;go_wp2_with (refine yR HG hz HO ?_)
            exact yW HG F12 HR HO
end rtw
end
end Go.Proofs.Ytdgfclbajjjcgaa
