/- T -/
import Derived.BigRegion
import Derived.RegionTactic
import Derived.Test.YtnpcombfgdbhkaaDoorBPs13
set_option maxHeartbeats 16000000
set_option maxRecDepth 1000000
section
namespace Go.Proofs.YtnpcombfgdbhkaaDoor.rtw
open sq
open Go Go.RowKit Go.Maps utfp utfw ucdp setp setw prp tkp rtp
open tkw (sg sg_bd vJ jM qK tkR qO qM vI)
open Go.Sort
def CsRel (w : World) (B : Nat) (S : ByteArray) (p : Pt) (first : Nat) (vi va : Value) (wr : World) : Prop :=
 ∃ (k m : Nat) (all : List Rg), first ≤ k ∧ k ≤ S.size ∧ S.size + 1 ≤ k + m ∧ all.length ≤ 101 * k ∧ Wf all ∧ vi = .int .i64 k ∧ Hid (OwnR wr (B + 2) va all) ∧ Hid (clsL p first m all k = clsL p first (p.n + 1 - first) [] first) ∧ Hid (FG w B S p wr)
theorem rs_first {w : World} {v : Value} {c d : Int} (h : RsAt w v [(c, d)]) : ∃ g off cap, v = .slice (some ⟨g, off, none⟩) 1 cap ∧ 1 ≤ cap ∧ cap ≤ 9223372036854775807 ∧ w.cell? ⟨g, off, none⟩ = some (.int .i64 c) := by
 obtain ⟨_, ⟨h, _⟩ | ⟨_, b, off, cap, hv, h1, h2, hc⟩⟩ := h
 ·cases h
 ·exact ⟨b, off, cap, hv, h1, h2, by simpa using (hc 0 (by simp)).1⟩
theorem item_err {p : Pt} {k : Nat} {x : Int × Int} (h : itemR p k = .error x) : x.1 ≠ 0 := by
 unfold itemR at h;split at h
 ·split at h
  ·cases h
  ·cases h; simp
 ·unfold itemC at h;split at h
  ·split at h
   ·cases h; simp
   ·unfold itemE at h;simp only at h;split at h
    ·split at h
     ·cases h; simp
     ·cases h
    ·split at h
     ·cases h
     ·split at h
      ·cases h
      ·split at h
       ·rename_i e he;have := many_err he;subst this;cases h; simp
       ·cases h
       ·split at h
        ·cases h; simp
        ·cases h
  ·cases h
theorem wf_append {a b : List Rg} (h1 : Wf a) (h2 : Wf b) : Wf (a ++ b) := fun r hr => (List.mem_append.1 hr).elim (h1 r) (h2 r)
theorem class_any (S : ByteArray) (p : Pt) (w : World) (hP : Pat S p) (f : Nat) (hf : f < p.n) : Calls Tryd.prog 34 #[txV S p, .int .i64 f] w (GotB w (clsR p f)) := by
 have hn := hP.n;have h2 := hP.le;have HP := xH hP;have HN := xH hn;clear hP;rw [hn] at hf;clear hn;unfold txV txC;go_enter Tryd.func34, Tryd.ntmps34;go_upto_region 1 with (fail)
 generalize hW : (w.alloc _).alloc _ = W;have F0 := xH (fg_start (S := S) (p := p) hW);obtain ⟨B, hB⟩ : ∃ B, w.heap.size = B := ⟨_, rfl⟩;rw [hB] at F0 ⊢;clear hW hB;obtain ⟨c0, c1, c2, c3⟩ := F0.out.c;go_wp2_with fail
 refine Calls.mono (qG S p _ HP.out (f + 1) (by omega) [94] ⟨#[94]⟩ rfl (by decide) (Or.inl (by rw [HN.out]; omega))) ?_;rintro e w1 ⟨rfl, hb⟩;have F1 := xH (F0.out.step hb);clear hb c0 c1 c2 c3;obtain ⟨c0, c1, c2, c3⟩ := F1.out.c;go_upto_if 24 with (fail)
 go_cut [5, 6] (fun v5 v6 wx => ∃ first : Nat, f < first ∧ first ≤ S.size ∧ v5 = .int .i64 first ∧ v6 = .bool (p.has [94] (f + 1)) ∧ Hid (FG w B S p wx) ∧ Hid (clsR p f = match clsL p first (p.n + 1 - first) [] first with | .error e => .error e | .ok (all, b) => gtok { kind := 2, set := normR p.most all, neg := p.has [94] (f + 1) } f b))
 case first =>
  cases h94 : p.has [94] (f + 1) with
  | true =>
   have hin := qR HP.out h94;rw [HN.out] at hin;simp only [List.length_nil, Nat.zero_add] at hin;go_wp2_with fail
   go_meet
   exact ⟨f + 2, by omega, by omega, by simp; omega, by rw [h94], F1, xH (by unfold clsR; rw [h94]; rfl)⟩
  | false =>
   go_wp2_with fail
   go_meet
   exact ⟨f + 1, by omega, by omega, by simp, by rw [h94], F1, xH (by unfold clsR; rw [h94]; rfl)⟩
 case rest =>
  obtain ⟨first, hf1, hf2, rfl, rfl, F2, HCL⟩ := hcut;clear F1 c0 c1 c2 c3;obtain ⟨c0, c1, c2, c3⟩ := F2.out.c;generalize p.has [94] (f + 1) = neg at *;go_wp2_with fail
  go_loopw [5, 8] (fun vi va wr => CsRel w B S p first vi va wr) (fun vi _ _ => S.size - (intOf vi).toNat)
  case atStart => exact ⟨first, S.size + 1 - first, [], by omega, by omega, by omega, by simp, fun r hr => absurd hr (by simp), rfl, xH (qm _ _), xH (by rw [HN.out]), F2⟩
  case round =>
   obtain ⟨k, m, all, hk1, hk2, hk3, hk5, hwf, rfl, HA, hcl, F3⟩ := hrel;clear F2 c0 c1 c2 c3;obtain ⟨c0, c1, c2, c3⟩ := F3.out.c;have HK5 := xH hk5;have HWF := xH hwf;clear hk5 hwf;obtain ⟨m, rfl⟩ : ∃ m', m = m' + 1 := ⟨m - 1, by omega⟩;by_cases hlt : k < S.size;case neg =>
    have HR := xH (HCL.out.trans (show _ = Except.error (20, (p.n : Int)) by rw [← hcl.out, clsL, if_pos (by rw [HN.out]; omega)]));go_wp2_with fail
    refine Calls.mono (end_any S p _ HP.out) ?_;rintro e w4 ⟨v, rfl, ho, hb⟩;have HO := xO F3.out.x ho;have F4 := xH (F3.out.step hb);clear hb ho c0 c1 c2 c3;obtain ⟨old, HG, hz⟩ := xG F4;go_wp2_with (refine xR HG hz HO rfl rfl rfl rfl rfl ?_)
    refine bodyPost_ret (xE HG rfl rfl) rfl ?_;exact qj F4.out HR.out HO.out (Nat.le_refl _)
   have hgb := gb HP.out;obtain ⟨b0, b1⟩ := jS HP.out k;by_cases hend : p.g k = 93 ∧ first < k
   ·have HR := xH (HCL.out.trans (show _ = gtok { kind := 2, set := normR p.most all, neg := neg } f (k + 1) by rw [← hcl.out, clsL, if_neg (by rw [HN.out]; omega), if_pos hend]));have b93 : (p.g k == 93) = true := by simp [hend.1]
    have hfk : (first : Int) < (k : Int) := by have := hend.2; omega
    have HRS := xH (vP HA.out HWF.out);have hal : all.length ≤ 600000 := by have := HK5.out; omega
    obtain ⟨x1, x2, rfl⟩ := qN HA.out;clear hend hcl;go_wp2_with fail
    refine Calls.mono (cut_any S p _ HP.out _ all HRS.out hal) ?_;rintro e w4 ⟨v, rfl, ho, hb⟩;have HO4 := xO F3.out.x ho;have F4 := xH (F3.out.step hb);clear hb ho c0 c1 c2 c3;obtain ⟨c0, c1, c2, c3⟩ := F4.out.c;generalize normR p.most all = R at *;obtain ⟨y1, y2, rfl⟩ := qN HO4.out;go_wp2_with fail
    refine Calls.mono (qF (.slice y1 R.length y2) ({ kind := 2, set := R, neg := neg }) (f) (k + 1) _ (k := B) (HO4.out)) ?_;rintro e w5 ⟨rfl, ho, hb⟩;have F5 := xH (F4.out.step hb);have HO := xH ho;clear hb ho c0 c1 c2 c3;obtain ⟨old, HG, hz⟩ := xG F5;go_wp2_with (refine qJ rfl rfl _ _ rfl (B + 1) rfl _ _ HG.out hz (jw (.slice y1 R.length y2) _) (jO HO.out _) rfl ?_)
    refine bodyPost_ret (qW rfl _ _ (B + 1) _ rfl (setRow_heap _ _ _ _ _ _ HG.out) (jw (.slice y1 R.length y2) _)) rfl ?_;exact qj F5.out HR.out HO.out (Nat.le_refl _)
   have HS := xH (hcl.out.symm.trans (show _ = (match rangeR p k with | .error e => Except.error e | .ok (l, to_) => clsL p first m (all ++ l) to_) by rw [clsL, if_neg (by rw [HN.out]; omega), if_neg hend]; rfl));clear hcl;have hc : (p.g k == 93) = false ∨ ((p.g k == 93) = true ∧ ¬ (first : Int) < (k : Int)) := by
    by_cases h : p.g k = 93
    ·exact Or.inr ⟨by simp [h], fun hh => hend ⟨h, by omega⟩⟩
    ·exact Or.inl (by simp [h])
   clear hend;have HM := item_any S p wr HP.out k (by rw [HN.out]; exact hlt);have HRG := xH (show rangeR p k = (match itemR p k with | .error e => Except.error e | .ok (l, single, to_) => if single = true ∧ p.has [45] to_ = true ∧ to_ + 1 < p.n ∧ p.g (to_ + 1) ≠ 93 then (match itemR p (to_ + 1) with | .error e => Except.error e | .ok (m, also, e) => if also = false ∨ loR m < loR l then Except.error (23, (k : Int)) else .ok ([(loR l, loR m)], e)) else .ok (l, to_)) from rfl);cases hm : itemR p k with
   | error x =>
    rw [hm] at HM;have HR := xH (HCL.out.trans (show _ = Except.error (x.1, x.2) by rw [HS.out, HRG.out, hm]));rcases hc with b93 | ⟨b93, hfk⟩
    all_goals
     go_wp2_with fail
     refine Calls.mono HM ?_;rintro e w4 ⟨⟨j, rfl⟩, hb⟩;have F4 := xH (F3.out.step hb);clear hb c0 c1 c2 c3;obtain ⟨c0, c1, c2, c3⟩ := F4.out.c;have hx : (x.1 != (0 : Int)) = true := by simpa using item_err hm
     have hx2 : ¬ x.1 = 0 := item_err hm;go_wp2_with fail
     refine Calls.mono (qw _ _ _) ?_;rintro e w5 ⟨v, rfl, ho, hb⟩;have HO := xO F4.out.x ho;have F5 := xH (F4.out.step hb);clear hb ho c0 c1 c2 c3;obtain ⟨old, HG, hz⟩ := xG F5;go_wp2_with (refine xR HG hz HO rfl rfl rfl rfl rfl ?_)
     refine bodyPost_ret (xE HG rfl rfl) rfl ?_;exact qj F5.out HR.out HO.out (Nat.le_refl _)
   | ok y =>
    obtain ⟨l, single, z⟩ := y;rw [hm] at HM;obtain ⟨z1, z2, z3, z4⟩ := item_bd HP.out (by rw [HN.out]; exact hlt) hm;rw [HN.out] at z2;have HRG1 := xH (HRG.out.trans (show _ = (if single = true ∧ p.has [45] z = true ∧ z + 1 < p.n ∧ p.g (z + 1) ≠ 93 then (match itemR p (z + 1) with | .error e => Except.error e | .ok (m, also, e) => if also = false ∨ loR m < loR l then Except.error (23, (k : Int)) else .ok ([(loR l, loR m)], e)) else .ok (l, z)) by rw [hm]));clear HRG;have HNX := xH (show ∀ (l2 : List Rg) (b2 : Nat), rangeR p k = .ok (l2, b2) → clsL p first m (all ++ l2) b2 = clsL p first (p.n + 1 - first) [] first from fun l2 b2 h => by rw [HS.out, h]);have HER := xH (show ∀ (x : Int × Int), rangeR p k = .error x → clsR p f = Except.error (x.1, x.2) from fun x h => HCL.out.trans (by rw [HS.out, h]));clear HS HCL hm;rcases hc with b93 | ⟨b93, hfk⟩
    skip
    all_goals
     go_wp2_with fail
     refine Calls.mono HM ?_;rintro e w4 ⟨⟨v, rfl, hrs⟩, hb⟩;have HL4 := xH hrs;have HB4 := xH hb;have F4 := xH (F3.out.step hb);clear hb hrs c0 c1 c2 c3;obtain ⟨c0, c1, c2, c3⟩ := F4.out.c;obtain ⟨q1, q2, rfl⟩ := jg HL4.out;cases single with
     | false =>
      have HOA := xH (jG HA.out HB4.out);have hsz : B + 2 ≤ w4.heap.size := by obtain ⟨_, hg, _⟩ := F4.out.g;have := zi hg;omega
      have hll : all.length + (l).length ≤ 100000000 := by
       have := HK5.out;try simp only [] at *
       omega
      go_wp2_with (at_builtin; refine jb rfl _ _ rfl (B + 2) u8 all rfl HOA.out _ (l) rfl HL4.out hll hsz ?_; intro va2 wa hoa hba; have HOa := xH hoa; have HBa := xH (hba _ _ (Below.refl (B + 2) w4) (Nat.le_refl _)); clear hoa hba)
      exact ⟨⟨z, m, all ++ (l), by omega, by omega, by omega, by have := HK5.out; rw [List.length_append]; (try simp only [List.length_cons, List.length_nil] at *); omega, wf_append HWF.out HL4.out.1, rfl, HOa, xH (HNX.out _ _ (HRG1.out.trans (if_neg (by simp)))), xH (F4.out.poke HBa.out)⟩, by simp [intOf]; omega⟩
     | true =>
      obtain ⟨c, rfl⟩ := z4 rfl;obtain ⟨g1, o1, k1, hv, hk1', hk2', hc1⟩ := rs_first HL4.out;cases hv;have hwc := HL4.out.1 (c, c) (by simp);have HC1 := xH hc1;clear hc1;go_wp2_with fail
      refine Calls.mono (qG S p _ HP.out z (by omega) [45] ⟨#[45]⟩ rfl (by decide) (Or.inl (by rw [HN.out]; exact z2))) ?_;rintro e w5 ⟨rfl, hb⟩;have F5 := xH (F4.out.step hb);have HB5 := xH (HB4.out.trans (hb.mono HB4.out.size));have HL5 := xH (jl HL4.out hb);have HC5 := xH (qf hb HC1.out);clear hb c0 c1 c2 c3 HC1 HL4;obtain ⟨c0, c1, c2, c3⟩ := F5.out.c;cases h45 : p.has [45] z with
      | false =>
       have HOA := xH (jG HA.out HB5.out);have hsz : B + 2 ≤ w5.heap.size := by obtain ⟨_, hg, _⟩ := F5.out.g;have := zi hg;omega
       have hll : all.length + ([(c, c)]).length ≤ 100000000 := by
        have := HK5.out;try simp only [List.length_cons, List.length_nil] at *
        omega
       go_wp2_with (at_builtin; refine jb rfl _ _ rfl (B + 2) u8 all rfl HOA.out _ ([(c, c)]) rfl HL5.out hll hsz ?_; intro va2 wa hoa hba; have HOa := xH hoa; have HBa := xH (hba _ _ (Below.refl (B + 2) w5) (Nat.le_refl _)); clear hoa hba)
       exact ⟨⟨z, m, all ++ ([(c, c)]), by omega, by omega, by omega, by have := HK5.out; rw [List.length_append]; (try simp only [List.length_cons, List.length_nil] at *); omega, wf_append HWF.out HL5.out.1, rfl, HOa, xH (HNX.out _ _ (HRG1.out.trans (if_neg (by simp [h45])))), xH (F5.out.poke HBa.out)⟩, by simp [intOf]; omega⟩
      | true =>
       by_cases hz1 : z + 1 < S.size;case neg =>
        have hz1' : ¬ ((z : Int) + 1 < (S.size : Int)) := by omega
        have HOA := xH (jG HA.out HB5.out);have hsz : B + 2 ≤ w5.heap.size := by obtain ⟨_, hg, _⟩ := F5.out.g;have := zi hg;omega
        have hll : all.length + ([(c, c)]).length ≤ 100000000 := by
         have := HK5.out;try simp only [List.length_cons, List.length_nil] at *
         omega
        go_wp2_with (at_builtin; refine jb rfl _ _ rfl (B + 2) u8 all rfl HOA.out _ ([(c, c)]) rfl HL5.out hll hsz ?_; intro va2 wa hoa hba; have HOa := xH hoa; have HBa := xH (hba _ _ (Below.refl (B + 2) w5) (Nat.le_refl _)); clear hoa hba)
        exact ⟨⟨z, m, all ++ ([(c, c)]), by omega, by omega, by omega, by have := HK5.out; rw [List.length_append]; (try simp only [List.length_cons, List.length_nil] at *); omega, wf_append HWF.out HL5.out.1, rfl, HOa, xH (HNX.out _ _ (HRG1.out.trans (if_neg (by rw [HN.out]; exact fun h => hz1 h.2.2.1)))), xH (F5.out.poke HBa.out)⟩, by simp [intOf]; omega⟩
       have hz1' : (z : Int) + 1 < (S.size : Int) := by omega
       obtain ⟨b0', b1'⟩ := jS HP.out (z + 1);by_cases h93 : p.g (z + 1) = 93;case pos =>
        have bz : (p.g (z + 1) != 93) = false := by simp [h93]
        have HOA := xH (jG HA.out HB5.out);have hsz : B + 2 ≤ w5.heap.size := by obtain ⟨_, hg, _⟩ := F5.out.g;have := zi hg;omega
        have hll : all.length + ([(c, c)]).length ≤ 100000000 := by
         have := HK5.out;try simp only [List.length_cons, List.length_nil] at *
         omega
        go_wp2_with (at_builtin; refine jb rfl _ _ rfl (B + 2) u8 all rfl HOA.out _ ([(c, c)]) rfl HL5.out hll hsz ?_; intro va2 wa hoa hba; have HOa := xH hoa; have HBa := xH (hba _ _ (Below.refl (B + 2) w5) (Nat.le_refl _)); clear hoa hba)
        exact ⟨⟨z, m, all ++ ([(c, c)]), by omega, by omega, by omega, by have := HK5.out; rw [List.length_append]; (try simp only [List.length_cons, List.length_nil] at *); omega, wf_append HWF.out HL5.out.1, rfl, HOa, xH (HNX.out _ _ (HRG1.out.trans (if_neg (fun h => h.2.2.2 h93)))), xH (F5.out.poke HBa.out)⟩, by simp [intOf]; omega⟩
       have bz : (p.g (z + 1) != 93) = true := by simp [h93]
       have HRG2 := xH (HRG1.out.trans (if_pos ⟨by simp, h45, by rw [HN.out]; exact hz1, h93⟩));clear HRG1 h93;go_wp2_with fail
       have HM2 := item_any S p w5 HP.out (z + 1) (by rw [HN.out]; exact hz1);cases hm2 : itemR p (z + 1) with
       | error x =>
        rw [hm2] at HM2;have HR := xH (HER.out _ (HRG2.out.trans (show _ = Except.error x by rw [hm2])));refine Calls.mono HM2 ?_;rintro e w6 ⟨⟨j, rfl⟩, hb⟩;have F6 := xH (F5.out.step hb);clear hb c0 c1 c2 c3;obtain ⟨c0, c1, c2, c3⟩ := F6.out.c;have hx : (x.1 != (0 : Int)) = true := by simpa using item_err hm2
        have hx2 : ¬ x.1 = 0 := item_err hm2;go_wp2_with fail
        refine Calls.mono (qw _ _ _) ?_;rintro e w7 ⟨v, rfl, ho, hb⟩;have HO := xO F6.out.x ho;have F7 := xH (F6.out.step hb);clear hb ho c0 c1 c2 c3;obtain ⟨old, HG, hz⟩ := xG F7;go_wp2_with (refine xR HG hz HO rfl rfl rfl rfl rfl ?_)
        refine bodyPost_ret (xE HG rfl rfl) rfl ?_;exact qj F7.out HR.out HO.out (Nat.le_refl _)
       | ok y =>
        obtain ⟨l2, also, j⟩ := y;rw [hm2] at HM2;obtain ⟨j1, j2, j3, j4⟩ := item_bd HP.out (by rw [HN.out]; exact hz1) hm2;rw [HN.out] at j2;have HRG3 := xH (HRG2.out.trans (show _ = (if also = false ∨ loR l2 < loR [(c, c)] then Except.error (23, (k : Int)) else .ok ([(loR [(c, c)], loR l2)], j)) by rw [hm2]));clear HRG2 hm2;refine Calls.mono HM2 ?_;rintro e w6 ⟨⟨v2, rfl, hrs⟩, hb⟩;have F6 := xH (F5.out.step hb);have HB6 := xH (HB5.out.trans (hb.mono HB5.out.size));have HL6 := xH hrs;have cc1 := qf hb HC5.out;clear hb hrs c0 c1 c2 c3 HC5 HL5;obtain ⟨c0, c1, c2, c3⟩ := F6.out.c;obtain ⟨r1, r2, rfl⟩ := jg HL6.out;cases also with
        | false =>
         have HR := xH (HER.out _ (HRG3.out.trans (if_pos (Or.inl rfl))));go_wp2_with fail
         go_quiet (fail)
         rename_i nq;have hbq := tkw.zI (Below.refl w6.heap.size w6) nq;have F7 := xH (F6.out.step hbq);generalize w6.drewN nq = w7 at *;clear c0 c1 c2 c3;obtain ⟨c0, c1, c2, c3⟩ := F7.out.c;go_wp2_with fail
         refine Calls.mono (qw _ _ _) ?_;rintro e w8 ⟨v, rfl, ho, hb⟩;have HO := xO F7.out.x ho;have F8 := xH (F7.out.step hb);clear hb ho c0 c1 c2 c3;obtain ⟨old, HG, hz⟩ := xG F8;go_wp2_with (refine xR HG hz HO rfl rfl rfl rfl rfl ?_)
         refine bodyPost_ret (xE HG rfl rfl) rfl ?_;exact qj F8.out HR.out HO.out (Nat.le_refl _)
        | true =>
         obtain ⟨d, rfl⟩ := j4 rfl;obtain ⟨g2, o2, k2, hv, hk3', hk4', cc2⟩ := rs_first HL6.out;cases hv;have hwd := HL6.out.1 (d, d) (by simp);by_cases hdc : d < c
         ·have HR := xH (HER.out _ (HRG3.out.trans (if_pos (Or.inr (by simpa [loR] using hdc)))));have bdc : decide (d < c) = true := by simpa using hdc
          go_wp2_with fail
          go_quiet (fail)
          rename_i nq;have hbq := tkw.zI (Below.refl w6.heap.size w6) nq;have F7 := xH (F6.out.step hbq);generalize w6.drewN nq = w7 at *;clear c0 c1 c2 c3;obtain ⟨c0, c1, c2, c3⟩ := F7.out.c;go_wp2_with fail
          refine Calls.mono (qw _ _ _) ?_;rintro e w8 ⟨v, rfl, ho, hb⟩;have HO := xO F7.out.x ho;have F8 := xH (F7.out.step hb);clear hb ho c0 c1 c2 c3;obtain ⟨old, HG, hz⟩ := xG F8;go_wp2_with (refine xR HG hz HO rfl rfl rfl rfl rfl ?_)
          refine bodyPost_ret (xE HG rfl rfl) rfl ?_;exact qj F8.out HR.out HO.out (Nat.le_refl _)
         ·have HX := xH (show rangeR p k = .ok ([(c, d)], j) from HRG3.out.trans (if_neg (by simpa [loR] using hdc)));have bdc : decide (d < c) = false := by simpa using hdc
          go_wp2_with fail
          go_quiet (fail)
          rename_i nq;have hbq := tkw.zI (Below.refl w6.heap.size w6) nq;have F7 := xH (F6.out.step hbq);have HB7 := xH (HB6.out.trans (hbq.mono HB6.out.size));have dd1 := qf hbq cc1;have dd2 := qf hbq cc2;generalize w6.drewN nq = w7 at *;clear c0 c1 c2 c3 cc1 cc2 hbq;obtain ⟨c0, c1, c2, c3⟩ := F7.out.c;go_wp2_with fail
          go_region
          have hb8 : Below w7.heap.size w7 (w7.alloc (.cells #[.int .i64 c, .int .i64 d] 75)).drew := (qK w7 _).trans ⟨rfl, rfl, rfl, Nat.le_refl _, fun _ _ => rfl⟩;have HL8 := xH (show RsAt (w7.alloc (.cells #[.int .i64 c, .int .i64 d] 75)).drew (.slice (some ⟨w7.heap.size, 0, none⟩) 1 1) [(c, d)] from jl (vP (tkw.ownR_new (x := c) (y := d) (w := w7) (b0 := 0) (Nat.zero_le _) rfl) (fun r hr => by obtain rfl := List.mem_singleton.1 hr; exact ⟨hwc.1, hwd.1⟩)) ⟨rfl, rfl, rfl, Nat.le_refl _, fun _ _ => rfl⟩);have F8 := xH (F7.out.step hb8);have HB8 := xH (HB7.out.trans (hb8.mono HB7.out.size));generalize (w7.alloc (.cells #[.int .i64 c, .int .i64 d] 75)).drew = w8 at *;generalize w7.heap.size = s7 at *;clear c0 c1 c2 c3 dd1 dd2 hb8;obtain ⟨c0, c1, c2, c3⟩ := F8.out.c;have HOA := xH (jG HA.out HB8.out);have hsz : B + 2 ≤ w8.heap.size := by obtain ⟨_, hg, _⟩ := F8.out.g;have := zi hg;omega
          have hll : all.length + ([(c, d)]).length ≤ 100000000 := by
           have := HK5.out;try simp only [List.length_cons, List.length_nil] at *
           omega
          go_wp2_with (at_builtin; refine jb rfl _ _ rfl (B + 2) u8 all rfl HOA.out _ ([(c, d)]) rfl HL8.out hll hsz ?_; intro va2 wa hoa hba; have HOa := xH hoa; have HBa := xH (hba _ _ (Below.refl (B + 2) w8) (Nat.le_refl _)); clear hoa hba)
          exact ⟨⟨j, m, all ++ ([(c, d)]), by omega, by omega, by omega, by have := HK5.out; rw [List.length_append]; (try simp only [List.length_cons, List.length_nil] at *); omega, wf_append HWF.out HL8.out.1, rfl, HOa, xH (HNX.out _ _ HX.out), xH (F8.out.poke HBa.out)⟩, by simp [intOf]; omega⟩
end Go.Proofs.YtnpcombfgdbhkaaDoor.rtw
end
