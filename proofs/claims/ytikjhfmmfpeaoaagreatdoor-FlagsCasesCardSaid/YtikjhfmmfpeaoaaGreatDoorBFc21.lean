/- T -/
import Derived.Test.YtikjhfmmfpeaoaaGreatDoorBFc13
set_option maxHeartbeats 16000000
set_option maxRecDepth 1000000
section
namespace Go.Proofs.YtikjhfmmfpeaoaaGreatDoor.rtw
open sq
open Go Go.RowKit Go.Maps utfp utfw ucdp setp setw prp tkp rtp
open tkw (sg sg_bd vJ jM qK tkR qO qM vI)
def VbRel (w : World) (B : Nat) (S : ByteArray) (p : Pt) (a : Nat) (vi : Value) (wr : World) : Prop :=
 ∃ l : Nat, a + l ≤ S.size ∧ Hid (∀ j, j < l → p.g (a + j) ≠ 41) ∧ vi = .int .i64 ((a + l : Nat) : Int) ∧ FG w B S p wr
def VcRel (w : World) (B : Nat) (S s : ByteArray) (p : Pt) (a : Nat) (v6 v7 v8 vk : Value) (wr : World) : Prop :=
 ∃ k : Nat, k ≤ s.size ∧ Hid (∀ j, j < k → p.g (a + j) ≠ 58) ∧ v6 = .string s ∧ v7 = .string ⟨#[]⟩ ∧ v8 = .bool false ∧ vk = .int .i64 k ∧ FG w B S p wr
theorem find_at2 {p : Pt} {c : Int} : ∀ {l m a : Nat}, l < m → (∀ j, j < l → p.g (a + j) ≠ c) → p.g (a + l) = c → p.find c m a = some (a + l)
 | 0, m + 1, a, _, _, h2 => by rw [Pt.find, if_pos (by simpa using h2)]; rfl
 | l + 1, m + 1, a, h, h1, h2 => by rw [Pt.find, if_neg (by simpa using h1 0 (by omega)), find_at2 (l := l) (m := m) (a := a + 1) (by omega) (fun j hj => by have := h1 (j + 1) (by omega); rwa [show a + (j + 1) = a + 1 + j by omega] at this) (by rwa [show a + (l + 1) = a + 1 + l by omega] at h2)];rw [show a + (l + 1) = a + 1 + l by omega]
theorem find_no2 {p : Pt} {c : Int} : ∀ {m a : Nat}, (∀ j, j < m → p.g (a + j) ≠ c) → p.find c m a = none
 | 0, _, _ => rfl
 | m + 1, a, h => by rw [Pt.find, if_neg (by simpa using h 0 (by omega)), find_no2 (fun j hj => by have := h (j + 1) (by omega); rwa [show a + (j + 1) = a + 1 + j by omega] at this)]
theorem qy {s : ByteArray} {l : List UInt8} (h : ¬ s = ⟨l.toArray⟩) : (s.toList == l) = false := by
 have e : (⟨l.toArray⟩ : ByteArray).toList = l := by rw [Lib.toList_data]
 have := prw.beqS s ⟨l.toArray⟩;rw [e] at this;rw [this];simpa using h
theorem jR {s : ByteArray} {l : List UInt8} (h : s = ⟨l.toArray⟩) : (s.toList == l) = true := by
 have e : (⟨l.toArray⟩ : ByteArray).toList = l := by rw [Lib.toList_data]
 have := prw.beqS s ⟨l.toArray⟩;rw [e] at this;rw [this];simpa using h
theorem emp_n {s : ByteArray} (h : ¬ s = ⟨#[]⟩) : s.toList.isEmpty = false := by
 have := qy (l := []) h;cases hs : s.toList with
 | nil => rw [hs] at this; exact absurd this (by decide)
 | cons x l => rfl
theorem emp_y {s : ByteArray} (h : s = ⟨#[]⟩) : s.toList.isEmpty = true := by subst h;rw [show (⟨#[]⟩ : ByteArray).toList = [] from Lib.toList_data _];rfl
theorem verb_any (S : ByteArray) (p : Pt) (w : World) (hP : Pat S p) (f : Nat) (hf : f + 2 ≤ p.n) : Calls Tryz.prog 71 #[txV S p, .int .i64 f] w (GotB w (verbR p f)) := by
 have hn := hP.n;have h2 := hP.le;have HP := xH hP;have HN := xH hn;clear hP;rw [hn] at hf;clear hn;unfold txV txC;go_enter Tryz.func71, Tryz.ntmps71;go_upto_region 1 with (fail)
 generalize hW : (w.alloc _).alloc _ = W;have F0 := xH (fg_start (S := S) (p := p) hW);obtain ⟨B, hB⟩ : ∃ B, w.heap.size = B := ⟨_, rfl⟩;rw [hB] at F0 ⊢;clear hW hB;obtain ⟨c0, c1, c2, c3⟩ := F0.out.c;go_wp2_with fail
 go_loopw [5] (fun vi wr => VbRel w B S p (f + 2) vi wr) (fun vi _ => S.size - (intOf vi).toNat)
 case atStart => exact ⟨0, by omega, xH (fun j h => absurd h (Nat.not_lt_zero j)), rfl, F0.out⟩
 case round =>
  obtain ⟨l, hl, hd, rfl, hF⟩ := hrel;have F4 := xH hF;clear hF c0 c1 c2 c3;obtain ⟨c0, c1, c2, c3⟩ := F4.out.c;have hgb := gb HP.out;by_cases hlt : f + 2 + l < S.size
  ·obtain ⟨b0, b1⟩ := jS HP.out (f + 2 + l);by_cases hc : p.g (f + 2 + l) = 41
   ·have HU := xH (show p.until 41 (f + 2) = some (f + 2 + l) by unfold Pt.until; exact find_at2 (by rw [HN.out]; omega) hd.out hc);have HSVX := xH (sub_ext HP.out (show f + 2 ≤ f + 2 + l by omega) (show f + 2 + l ≤ p.n by rw [HN.out]; omega));have hsz : (p.sub (f + 2) (f + 2 + l)).size = l := by rw [tkw.sub_size]; omega
    have HSB := xH (fun k (h : k < (p.sub (f + 2) (f + 2 + l)).size) => show (((p.sub (f + 2) (f + 2 + l))[k]'h).toNat : Int) = p.g (f + 2 + k) from tkw.sub_at (jS HP.out) h);have HX1 := xH (fun k (h : k < (p.sub (f + 2) (f + 2 + l)).size) => show (p.sub (f + 2) (f + 2 + l)).extract 0 k = p.sub (f + 2) (f + 2 + k) by rw [← HSVX.out, ← sub_ext HP.out (show f + 2 ≤ f + 2 + k by omega) (by rw [HN.out]; omega), ByteArray.extract_extract, Nat.add_zero, Nat.min_eq_left (by omega)]);have HX2 := xH (fun k (h : k < (p.sub (f + 2) (f + 2 + l)).size) => show (p.sub (f + 2) (f + 2 + l)).extract (k + 1) (p.sub (f + 2) (f + 2 + l)).size = p.sub (f + 2 + k + 1) (f + 2 + l) by rw [hsz, ← HSVX.out, ← sub_ext HP.out (show f + 2 + k + 1 ≤ f + 2 + l by omega) (by rw [HN.out]; omega), ByteArray.extract_extract, Nat.min_eq_left (by omega), ← Nat.add_assoc]);have hxt := HSVX.out;have HSV : Hid (∃ x, x = p.sub (f + 2) (f + 2 + l)) := xH ⟨_, rfl⟩;have hz0 : (p.sub (f + 2) (f + 2 + l)).size ≤ 1000 := by omega
    have HVS := xH (show ∀ g, p.find 58 (f + 2 + l - (f + 2)) (f + 2) = none → verbR p f = verbG f (f + 2 + l) (p.sub (f + 2) (f + 2 + l)) ⟨#[]⟩ g ∨ verbR p f = verbG f (f + 2 + l) (p.sub (f + 2) (f + 2 + l)) ⟨#[]⟩ false from fun g h => Or.inr (by unfold verbR; rw [HU.out]; simp only; rw [h]));clear HSVX HSV;generalize p.sub (f + 2) (f + 2 + l) = sv at *;have bq : (p.g (f + 2 + l) != 41) = false := by simp [hc]
    go_wp2_with fail
    go_loopw [6, 7, 8, 9] (fun v6 v7 v8 vk wr => VcRel w B S sv p (f + 2) v6 v7 v8 vk wr) (fun _ _ _ vk _ => sv.size - (intOf vk).toNat)
    case atStart => exact ⟨0, by omega, xH (fun j h => absurd h (Nat.not_lt_zero j)), by rw [hxt], rfl, rfl, rfl, F4.out⟩
    case round =>
     obtain ⟨k, hk, hd2, rfl, rfl, rfl, rfl, hF⟩ := hrel;have F8 := xH hF;clear hF c0 c1 c2 c3;obtain ⟨c0, c1, c2, c3⟩ := F8.out.c;by_cases hlt2 : k < sv.size
     ·obtain ⟨b0, b1⟩ := jS HP.out (f + 2 + k);have hgs : ((sv[k]'hlt2).toNat : Int) = p.g (f + 2 + k) := by have := HSB.out k hlt2; simpa using this
      by_cases hc : p.g (f + 2 + k) = 58
      ·have bc : (p.g (f + 2 + k) == 58) = true := by simp [hc]
       have HZ := xH (show verbR p f = verbG f (f + 2 + l) (p.sub (f + 2) (f + 2 + k)) (p.sub (f + 2 + k + 1) (f + 2 + l)) true by unfold verbR; rw [HU.out]; simp only; rw [find_at2 (l := k) (by omega) hd2.out hc]);have hx1 : sv.extract 0 k = p.sub (f + 2) (f + 2 + k) := HX1.out k hlt2;have hx2 : sv.extract (k + 1) sv.size = p.sub (f + 2 + k + 1) (f + 2 + l) := HX2.out k hlt2;have hx3 := hx2;rw [hsz] at hx3;clear hc;generalize p.sub (f + 2) (f + 2 + k) = wd at *;generalize p.sub (f + 2 + k + 1) (f + 2 + l) = arg at *;by_cases e0 : wd = ⟨#[65, 67, 67, 69, 80, 84]⟩
       ·have hv : verbV wd = 1 := by unfold verbV; rw [if_pos e0]
        have b0 := jR (l := [65, 67, 67, 69, 80, 84]) e0;clear e0;have HR := xH (HZ.out.trans (show _ = Except.error (28, (f : Int)) by unfold verbG; rw [if_pos (by simp [hv])]));by_cases ha : arg = ⟨#[]⟩
        ·have ba := jR (l := []) ha;have bb := emp_y ha;clear ha;go_wp2_with fail
         refine Calls.mono (qw _ _ _) ?_;rintro e w9 ⟨v, rfl, ho, hb⟩;have HO := xO F8.out.x ho;have F9 := xH (F8.out.step hb);clear hb ho c0 c1 c2 c3;obtain ⟨old, HG, hz⟩ := xG F9;go_wp2_with (refine xR HG hz HO rfl rfl rfl rfl rfl ?_)
         refine bodyPost_ret (xE HG rfl rfl) rfl ?_;exact qj F9.out HR.out HO.out (Nat.le_refl _)
        ·have ba := qy (l := []) ha;have bb := emp_n ha;clear ha;go_wp2_with fail
         refine Calls.mono (qw _ _ _) ?_;rintro e w9 ⟨v, rfl, ho, hb⟩;have HO := xO F8.out.x ho;have F9 := xH (F8.out.step hb);clear hb ho c0 c1 c2 c3;obtain ⟨old, HG, hz⟩ := xG F9;go_wp2_with (refine xR HG hz HO rfl rfl rfl rfl rfl ?_)
         refine bodyPost_ret (xE HG rfl rfl) rfl ?_;exact qj F9.out HR.out HO.out (Nat.le_refl _)
       by_cases e1 : wd = ⟨#[70, 65, 73, 76]⟩
       ·have hv : verbV wd = 2 := by unfold verbV; rw [if_neg e0, if_pos e1]
        have b0 := qy (l := [65, 67, 67, 69, 80, 84]) e0;have b1 := jR (l := [70, 65, 73, 76]) e1;clear e0 e1;have HR := xH (HZ.out.trans (show _ = Except.error (28, (f : Int)) by unfold verbG; rw [if_pos (by simp [hv])]));by_cases ha : arg = ⟨#[]⟩
        ·have ba := jR (l := []) ha;have bb := emp_y ha;clear ha;go_wp2_with fail
         refine Calls.mono (qw _ _ _) ?_;rintro e w9 ⟨v, rfl, ho, hb⟩;have HO := xO F8.out.x ho;have F9 := xH (F8.out.step hb);clear hb ho c0 c1 c2 c3;obtain ⟨old, HG, hz⟩ := xG F9;go_wp2_with (refine xR HG hz HO rfl rfl rfl rfl rfl ?_)
         refine bodyPost_ret (xE HG rfl rfl) rfl ?_;exact qj F9.out HR.out HO.out (Nat.le_refl _)
        ·have ba := qy (l := []) ha;have bb := emp_n ha;clear ha;go_wp2_with fail
         refine Calls.mono (qw _ _ _) ?_;rintro e w9 ⟨v, rfl, ho, hb⟩;have HO := xO F8.out.x ho;have F9 := xH (F8.out.step hb);clear hb ho c0 c1 c2 c3;obtain ⟨old, HG, hz⟩ := xG F9;go_wp2_with (refine xR HG hz HO rfl rfl rfl rfl rfl ?_)
         refine bodyPost_ret (xE HG rfl rfl) rfl ?_;exact qj F9.out HR.out HO.out (Nat.le_refl _)
       by_cases e2 : wd = ⟨#[70]⟩
       ·have hv : verbV wd = 2 := by unfold verbV; rw [if_neg e0, if_neg e1, if_pos e2]
        have b0 := qy (l := [65, 67, 67, 69, 80, 84]) e0;have b1 := qy (l := [70, 65, 73, 76]) e1;have b2 := jR (l := [70]) e2;clear e0 e1 e2;have HR := xH (HZ.out.trans (show _ = Except.error (28, (f : Int)) by unfold verbG; rw [if_pos (by simp [hv])]));by_cases ha : arg = ⟨#[]⟩
        ·have ba := jR (l := []) ha;have bb := emp_y ha;clear ha;go_wp2_with fail
         refine Calls.mono (qw _ _ _) ?_;rintro e w9 ⟨v, rfl, ho, hb⟩;have HO := xO F8.out.x ho;have F9 := xH (F8.out.step hb);clear hb ho c0 c1 c2 c3;obtain ⟨old, HG, hz⟩ := xG F9;go_wp2_with (refine xR HG hz HO rfl rfl rfl rfl rfl ?_)
         refine bodyPost_ret (xE HG rfl rfl) rfl ?_;exact qj F9.out HR.out HO.out (Nat.le_refl _)
        ·have ba := qy (l := []) ha;have bb := emp_n ha;clear ha;go_wp2_with fail
         refine Calls.mono (qw _ _ _) ?_;rintro e w9 ⟨v, rfl, ho, hb⟩;have HO := xO F8.out.x ho;have F9 := xH (F8.out.step hb);clear hb ho c0 c1 c2 c3;obtain ⟨old, HG, hz⟩ := xG F9;go_wp2_with (refine xR HG hz HO rfl rfl rfl rfl rfl ?_)
         refine bodyPost_ret (xE HG rfl rfl) rfl ?_;exact qj F9.out HR.out HO.out (Nat.le_refl _)
       by_cases e3 : wd = ⟨#[67, 79, 77, 77, 73, 84]⟩
       ·have hv : verbV wd = 3 := by unfold verbV; rw [if_neg e0, if_neg e1, if_neg e2, if_pos e3]
        have b0 := qy (l := [65, 67, 67, 69, 80, 84]) e0;have b1 := qy (l := [70, 65, 73, 76]) e1;have b2 := qy (l := [70]) e2;have b3 := jR (l := [67, 79, 77, 77, 73, 84]) e3;clear e0 e1 e2 e3;by_cases ha : arg = ⟨#[]⟩
        ·have HR := xH (HZ.out.trans (show _ = Except.error (28, (f : Int)) by unfold verbG; rw [if_pos (by simp [ha])]));have ba := jR (l := []) ha;have bb := emp_y ha;clear ha;go_wp2_with fail
         refine Calls.mono (qw _ _ _) ?_;rintro e w9 ⟨v, rfl, ho, hb⟩;have HO := xO F8.out.x ho;have F9 := xH (F8.out.step hb);clear hb ho c0 c1 c2 c3;obtain ⟨old, HG, hz⟩ := xG F9;go_wp2_with (refine xR HG hz HO rfl rfl rfl rfl rfl ?_)
         refine bodyPost_ret (xE HG rfl rfl) rfl ?_;exact qj F9.out HR.out HO.out (Nat.le_refl _)
        ·have HR := xH (HZ.out.trans (show _ = gtok { kind := 13, n := 3, name := arg } f (f + 2 + l + 1) by unfold verbG; rw [if_neg (by simp [hv, ha]), hv]));have ba := qy (l := []) ha;have bb := emp_n ha;clear ha;go_wp2_with fail
         refine Calls.mono (qF (.slice none 0 0) ({ kind := 13, n := 3, name := arg }) (f) (f + 2 + l + 1) _ (k := B) (qm _ _)) ?_;rintro e w9 ⟨rfl, ho, hb⟩;have F9 := xH (F8.out.step hb);have HO := xH ho;clear hb ho c0 c1 c2 c3;obtain ⟨old, HG, hz⟩ := xG F9;go_wp2_with (refine xR HG hz HO rfl rfl rfl rfl rfl ?_)
         refine bodyPost_ret (xE HG rfl rfl) rfl ?_;exact qj F9.out HR.out HO.out (Nat.le_refl _)
       by_cases e4 : wd = ⟨#[80, 82, 85, 78, 69]⟩
       ·have hv : verbV wd = 4 := by unfold verbV; rw [if_neg e0, if_neg e1, if_neg e2, if_neg e3, if_pos e4]
        have b0 := qy (l := [65, 67, 67, 69, 80, 84]) e0;have b1 := qy (l := [70, 65, 73, 76]) e1;have b2 := qy (l := [70]) e2;have b3 := qy (l := [67, 79, 77, 77, 73, 84]) e3;have b4 := jR (l := [80, 82, 85, 78, 69]) e4;clear e0 e1 e2 e3 e4;by_cases ha : arg = ⟨#[]⟩
        ·have HR := xH (HZ.out.trans (show _ = Except.error (28, (f : Int)) by unfold verbG; rw [if_pos (by simp [ha])]));have ba := jR (l := []) ha;have bb := emp_y ha;clear ha;go_wp2_with fail
         refine Calls.mono (qw _ _ _) ?_;rintro e w9 ⟨v, rfl, ho, hb⟩;have HO := xO F8.out.x ho;have F9 := xH (F8.out.step hb);clear hb ho c0 c1 c2 c3;obtain ⟨old, HG, hz⟩ := xG F9;go_wp2_with (refine xR HG hz HO rfl rfl rfl rfl rfl ?_)
         refine bodyPost_ret (xE HG rfl rfl) rfl ?_;exact qj F9.out HR.out HO.out (Nat.le_refl _)
        ·have HR := xH (HZ.out.trans (show _ = gtok { kind := 13, n := 4, name := arg } f (f + 2 + l + 1) by unfold verbG; rw [if_neg (by simp [hv, ha]), hv]));have ba := qy (l := []) ha;have bb := emp_n ha;clear ha;go_wp2_with fail
         refine Calls.mono (qF (.slice none 0 0) ({ kind := 13, n := 4, name := arg }) (f) (f + 2 + l + 1) _ (k := B) (qm _ _)) ?_;rintro e w9 ⟨rfl, ho, hb⟩;have F9 := xH (F8.out.step hb);have HO := xH ho;clear hb ho c0 c1 c2 c3;obtain ⟨old, HG, hz⟩ := xG F9;go_wp2_with (refine xR HG hz HO rfl rfl rfl rfl rfl ?_)
         refine bodyPost_ret (xE HG rfl rfl) rfl ?_;exact qj F9.out HR.out HO.out (Nat.le_refl _)
       by_cases e5 : wd = ⟨#[83, 75, 73, 80]⟩
       ·have hv : verbV wd = 5 := by unfold verbV; rw [if_neg e0, if_neg e1, if_neg e2, if_neg e3, if_neg e4, if_pos e5]
        have b0 := qy (l := [65, 67, 67, 69, 80, 84]) e0;have b1 := qy (l := [70, 65, 73, 76]) e1;have b2 := qy (l := [70]) e2;have b3 := qy (l := [67, 79, 77, 77, 73, 84]) e3;have b4 := qy (l := [80, 82, 85, 78, 69]) e4;have b5 := jR (l := [83, 75, 73, 80]) e5;clear e0 e1 e2 e3 e4 e5;by_cases ha : arg = ⟨#[]⟩
        ·have HR := xH (HZ.out.trans (show _ = Except.error (28, (f : Int)) by unfold verbG; rw [if_pos (by simp [ha])]));have ba := jR (l := []) ha;have bb := emp_y ha;clear ha;go_wp2_with fail
         refine Calls.mono (qw _ _ _) ?_;rintro e w9 ⟨v, rfl, ho, hb⟩;have HO := xO F8.out.x ho;have F9 := xH (F8.out.step hb);clear hb ho c0 c1 c2 c3;obtain ⟨old, HG, hz⟩ := xG F9;go_wp2_with (refine xR HG hz HO rfl rfl rfl rfl rfl ?_)
         refine bodyPost_ret (xE HG rfl rfl) rfl ?_;exact qj F9.out HR.out HO.out (Nat.le_refl _)
        ·have HR := xH (HZ.out.trans (show _ = gtok { kind := 13, n := 5, name := arg } f (f + 2 + l + 1) by unfold verbG; rw [if_neg (by simp [hv, ha]), hv]));have ba := qy (l := []) ha;have bb := emp_n ha;clear ha;go_wp2_with fail
         refine Calls.mono (qF (.slice none 0 0) ({ kind := 13, n := 5, name := arg }) (f) (f + 2 + l + 1) _ (k := B) (qm _ _)) ?_;rintro e w9 ⟨rfl, ho, hb⟩;have F9 := xH (F8.out.step hb);have HO := xH ho;clear hb ho c0 c1 c2 c3;obtain ⟨old, HG, hz⟩ := xG F9;go_wp2_with (refine xR HG hz HO rfl rfl rfl rfl rfl ?_)
         refine bodyPost_ret (xE HG rfl rfl) rfl ?_;exact qj F9.out HR.out HO.out (Nat.le_refl _)
       by_cases e6 : wd = ⟨#[84, 72, 69, 78]⟩
       ·have hv : verbV wd = 6 := by unfold verbV; rw [if_neg e0, if_neg e1, if_neg e2, if_neg e3, if_neg e4, if_neg e5, if_pos e6]
        have b0 := qy (l := [65, 67, 67, 69, 80, 84]) e0;have b1 := qy (l := [70, 65, 73, 76]) e1;have b2 := qy (l := [70]) e2;have b3 := qy (l := [67, 79, 77, 77, 73, 84]) e3;have b4 := qy (l := [80, 82, 85, 78, 69]) e4;have b5 := qy (l := [83, 75, 73, 80]) e5;have b6 := jR (l := [84, 72, 69, 78]) e6;clear e0 e1 e2 e3 e4 e5 e6;by_cases ha : arg = ⟨#[]⟩
        ·have HR := xH (HZ.out.trans (show _ = Except.error (28, (f : Int)) by unfold verbG; rw [if_pos (by simp [ha])]));have ba := jR (l := []) ha;have bb := emp_y ha;clear ha;go_wp2_with fail
         refine Calls.mono (qw _ _ _) ?_;rintro e w9 ⟨v, rfl, ho, hb⟩;have HO := xO F8.out.x ho;have F9 := xH (F8.out.step hb);clear hb ho c0 c1 c2 c3;obtain ⟨old, HG, hz⟩ := xG F9;go_wp2_with (refine xR HG hz HO rfl rfl rfl rfl rfl ?_)
         refine bodyPost_ret (xE HG rfl rfl) rfl ?_;exact qj F9.out HR.out HO.out (Nat.le_refl _)
        ·have HR := xH (HZ.out.trans (show _ = gtok { kind := 13, n := 6, name := arg } f (f + 2 + l + 1) by unfold verbG; rw [if_neg (by simp [hv, ha]), hv]));have ba := qy (l := []) ha;have bb := emp_n ha;clear ha;go_wp2_with fail
         refine Calls.mono (qF (.slice none 0 0) ({ kind := 13, n := 6, name := arg }) (f) (f + 2 + l + 1) _ (k := B) (qm _ _)) ?_;rintro e w9 ⟨rfl, ho, hb⟩;have F9 := xH (F8.out.step hb);have HO := xH ho;clear hb ho c0 c1 c2 c3;obtain ⟨old, HG, hz⟩ := xG F9;go_wp2_with (refine xR HG hz HO rfl rfl rfl rfl rfl ?_)
         refine bodyPost_ret (xE HG rfl rfl) rfl ?_;exact qj F9.out HR.out HO.out (Nat.le_refl _)
       by_cases e7 : wd = ⟨#[77, 65, 82, 75]⟩
       ·have hv : verbV wd = 7 := by unfold verbV; rw [if_neg e0, if_neg e1, if_neg e2, if_neg e3, if_neg e4, if_neg e5, if_neg e6, if_pos e7]
        have b0 := qy (l := [65, 67, 67, 69, 80, 84]) e0;have b1 := qy (l := [70, 65, 73, 76]) e1;have b2 := qy (l := [70]) e2;have b3 := qy (l := [67, 79, 77, 77, 73, 84]) e3;have b4 := qy (l := [80, 82, 85, 78, 69]) e4;have b5 := qy (l := [83, 75, 73, 80]) e5;have b6 := qy (l := [84, 72, 69, 78]) e6;have b7 := jR (l := [77, 65, 82, 75]) e7;clear e0 e1 e2 e3 e4 e5 e6 e7;by_cases ha : arg = ⟨#[]⟩
        ·have HR := xH (HZ.out.trans (show _ = Except.error (28, (f : Int)) by unfold verbG; rw [if_pos (by simp [ha])]));have ba := jR (l := []) ha;have bb := emp_y ha;clear ha;go_wp2_with fail
         refine Calls.mono (qw _ _ _) ?_;rintro e w9 ⟨v, rfl, ho, hb⟩;have HO := xO F8.out.x ho;have F9 := xH (F8.out.step hb);clear hb ho c0 c1 c2 c3;obtain ⟨old, HG, hz⟩ := xG F9;go_wp2_with (refine xR HG hz HO rfl rfl rfl rfl rfl ?_)
         refine bodyPost_ret (xE HG rfl rfl) rfl ?_;exact qj F9.out HR.out HO.out (Nat.le_refl _)
        ·have HR := xH (HZ.out.trans (show _ = gtok { kind := 13, n := 7, name := arg } f (f + 2 + l + 1) by unfold verbG; rw [if_neg (by simp [hv, ha]), hv]));have ba := qy (l := []) ha;have bb := emp_n ha;clear ha;go_wp2_with fail
         refine Calls.mono (qF (.slice none 0 0) ({ kind := 13, n := 7, name := arg }) (f) (f + 2 + l + 1) _ (k := B) (qm _ _)) ?_;rintro e w9 ⟨rfl, ho, hb⟩;have F9 := xH (F8.out.step hb);have HO := xH ho;clear hb ho c0 c1 c2 c3;obtain ⟨old, HG, hz⟩ := xG F9;go_wp2_with (refine xR HG hz HO rfl rfl rfl rfl rfl ?_)
         refine bodyPost_ret (xE HG rfl rfl) rfl ?_;exact qj F9.out HR.out HO.out (Nat.le_refl _)
       by_cases e8 : wd = ⟨#[]⟩
       ·have hv : verbV wd = 7 := by unfold verbV; rw [if_neg e0, if_neg e1, if_neg e2, if_neg e3, if_neg e4, if_neg e5, if_neg e6, if_neg e7, if_pos e8]
        have b0 := qy (l := [65, 67, 67, 69, 80, 84]) e0;have b1 := qy (l := [70, 65, 73, 76]) e1;have b2 := qy (l := [70]) e2;have b3 := qy (l := [67, 79, 77, 77, 73, 84]) e3;have b4 := qy (l := [80, 82, 85, 78, 69]) e4;have b5 := qy (l := [83, 75, 73, 80]) e5;have b6 := qy (l := [84, 72, 69, 78]) e6;have b7 := qy (l := [77, 65, 82, 75]) e7;have b8 := jR (l := []) e8;have bz := emp_y e8;clear e0 e1 e2 e3 e4 e5 e6 e7 e8;by_cases ha : arg = ⟨#[]⟩
        ·have HR := xH (HZ.out.trans (show _ = Except.error (28, (f : Int)) by unfold verbG; rw [if_pos (by simp [ha])]));have ba := jR (l := []) ha;have bb := emp_y ha;clear ha;go_wp2_with fail
         refine Calls.mono (qw _ _ _) ?_;rintro e w9 ⟨v, rfl, ho, hb⟩;have HO := xO F8.out.x ho;have F9 := xH (F8.out.step hb);clear hb ho c0 c1 c2 c3;obtain ⟨old, HG, hz⟩ := xG F9;go_wp2_with (refine xR HG hz HO rfl rfl rfl rfl rfl ?_)
         refine bodyPost_ret (xE HG rfl rfl) rfl ?_;exact qj F9.out HR.out HO.out (Nat.le_refl _)
        ·have HR := xH (HZ.out.trans (show _ = gtok { kind := 13, n := 7, name := arg } f (f + 2 + l + 1) by unfold verbG; rw [if_neg (by simp [hv, ha]), hv]));have ba := qy (l := []) ha;have bb := emp_n ha;clear ha;go_wp2_with fail
         refine Calls.mono (qF (.slice none 0 0) ({ kind := 13, n := 7, name := arg }) (f) (f + 2 + l + 1) _ (k := B) (qm _ _)) ?_;rintro e w9 ⟨rfl, ho, hb⟩;have F9 := xH (F8.out.step hb);have HO := xH ho;clear hb ho c0 c1 c2 c3;obtain ⟨old, HG, hz⟩ := xG F9;go_wp2_with (refine xR HG hz HO rfl rfl rfl rfl rfl ?_)
         refine bodyPost_ret (xE HG rfl rfl) rfl ?_;exact qj F9.out HR.out HO.out (Nat.le_refl _)
       have hv : verbV wd = 0 := by unfold verbV; rw [if_neg e0, if_neg e1, if_neg e2, if_neg e3, if_neg e4, if_neg e5, if_neg e6, if_neg e7, if_neg e8]
       have b0 := qy (l := [65, 67, 67, 69, 80, 84]) e0;have b1 := qy (l := [70, 65, 73, 76]) e1;have b2 := qy (l := [70]) e2;have b3 := qy (l := [67, 79, 77, 77, 73, 84]) e3;have b4 := qy (l := [80, 82, 85, 78, 69]) e4;have b5 := qy (l := [83, 75, 73, 80]) e5;have b6 := qy (l := [84, 72, 69, 78]) e6;have b7 := qy (l := [77, 65, 82, 75]) e7;have b8 := qy (l := []) e8;have bz := emp_n e8;clear e0 e1 e2 e3 e4 e5 e6 e7 e8;have HR := xH (HZ.out.trans (show _ = Except.error (28, (f : Int)) by unfold verbG; rw [if_pos (by simp [hv])]));by_cases ha : arg = ⟨#[]⟩
       ·have ba := jR (l := []) ha;have bb := emp_y ha;clear ha;go_wp2_with fail
        refine Calls.mono (qw _ _ _) ?_;rintro e w9 ⟨v, rfl, ho, hb⟩;have HO := xO F8.out.x ho;have F9 := xH (F8.out.step hb);clear hb ho c0 c1 c2 c3;obtain ⟨old, HG, hz⟩ := xG F9;go_wp2_with (refine xR HG hz HO rfl rfl rfl rfl rfl ?_)
        refine bodyPost_ret (xE HG rfl rfl) rfl ?_;exact qj F9.out HR.out HO.out (Nat.le_refl _)
       ·have ba := qy (l := []) ha;have bb := emp_n ha;clear ha;go_wp2_with fail
        refine Calls.mono (qw _ _ _) ?_;rintro e w9 ⟨v, rfl, ho, hb⟩;have HO := xO F8.out.x ho;have F9 := xH (F8.out.step hb);clear hb ho c0 c1 c2 c3;obtain ⟨old, HG, hz⟩ := xG F9;go_wp2_with (refine xR HG hz HO rfl rfl rfl rfl rfl ?_)
        refine bodyPost_ret (xE HG rfl rfl) rfl ?_;exact qj F9.out HR.out HO.out (Nat.le_refl _)
      ·have bc : (p.g (f + 2 + k) == 58) = false := by simp [hc]
       go_wp2_with fail
       exact ⟨⟨k + 1, by omega, xH (fun j hj => by
        by_cases e : j = k
        ·subst e; exact hc
        ·exact hd2.out j (by omega)), rfl, rfl, rfl, rfl, F8.out⟩, by simp [intOf]; omega⟩
     ·obtain rfl : k = sv.size := by omega
      have HZ := xH (show verbR p f = verbG f (f + 2 + l) sv ⟨#[]⟩ false by rcases HVS.out false (find_no2 (fun j hj => hd2.out j (by omega))) with h | h <;> exact h);clear hlt2;by_cases e0 : sv = ⟨#[65, 67, 67, 69, 80, 84]⟩
      ·have hv : verbV sv = 1 := by unfold verbV; rw [if_pos e0]
       have b0 := jR (l := [65, 67, 67, 69, 80, 84]) e0;clear e0;have HR := xH (HZ.out.trans (show _ = gtok { kind := 13, n := 1, name := ⟨#[]⟩ } f (f + 2 + l + 1) by unfold verbG; rw [if_neg (by simp [hv]), hv]));go_wp2_with fail
       refine Calls.mono (qF (.slice none 0 0) ({ kind := 13, n := 1, name := ⟨#[]⟩ }) (f) (f + 2 + l + 1) _ (k := B) (qm _ _)) ?_;rintro e w9 ⟨rfl, ho, hb⟩;have F9 := xH (F8.out.step hb);have HO := xH ho;clear hb ho c0 c1 c2 c3;obtain ⟨old, HG, hz⟩ := xG F9;go_wp2_with (refine xR HG hz HO rfl rfl rfl rfl rfl ?_)
       refine bodyPost_ret (xE HG rfl rfl) rfl ?_;exact qj F9.out HR.out HO.out (Nat.le_refl _)
      by_cases e1 : sv = ⟨#[70, 65, 73, 76]⟩
      ·have hv : verbV sv = 2 := by unfold verbV; rw [if_neg e0, if_pos e1]
       have b0 := qy (l := [65, 67, 67, 69, 80, 84]) e0;have b1 := jR (l := [70, 65, 73, 76]) e1;clear e0 e1;have HR := xH (HZ.out.trans (show _ = gtok { kind := 13, n := 2, name := ⟨#[]⟩ } f (f + 2 + l + 1) by unfold verbG; rw [if_neg (by simp [hv]), hv]));go_wp2_with fail
       refine Calls.mono (qF (.slice none 0 0) ({ kind := 13, n := 2, name := ⟨#[]⟩ }) (f) (f + 2 + l + 1) _ (k := B) (qm _ _)) ?_;rintro e w9 ⟨rfl, ho, hb⟩;have F9 := xH (F8.out.step hb);have HO := xH ho;clear hb ho c0 c1 c2 c3;obtain ⟨old, HG, hz⟩ := xG F9;go_wp2_with (refine xR HG hz HO rfl rfl rfl rfl rfl ?_)
       refine bodyPost_ret (xE HG rfl rfl) rfl ?_;exact qj F9.out HR.out HO.out (Nat.le_refl _)
      by_cases e2 : sv = ⟨#[70]⟩
      ·have hv : verbV sv = 2 := by unfold verbV; rw [if_neg e0, if_neg e1, if_pos e2]
       have b0 := qy (l := [65, 67, 67, 69, 80, 84]) e0;have b1 := qy (l := [70, 65, 73, 76]) e1;have b2 := jR (l := [70]) e2;clear e0 e1 e2;have HR := xH (HZ.out.trans (show _ = gtok { kind := 13, n := 2, name := ⟨#[]⟩ } f (f + 2 + l + 1) by unfold verbG; rw [if_neg (by simp [hv]), hv]));go_wp2_with fail
       refine Calls.mono (qF (.slice none 0 0) ({ kind := 13, n := 2, name := ⟨#[]⟩ }) (f) (f + 2 + l + 1) _ (k := B) (qm _ _)) ?_;rintro e w9 ⟨rfl, ho, hb⟩;have F9 := xH (F8.out.step hb);have HO := xH ho;clear hb ho c0 c1 c2 c3;obtain ⟨old, HG, hz⟩ := xG F9;go_wp2_with (refine xR HG hz HO rfl rfl rfl rfl rfl ?_)
       refine bodyPost_ret (xE HG rfl rfl) rfl ?_;exact qj F9.out HR.out HO.out (Nat.le_refl _)
      by_cases e3 : sv = ⟨#[67, 79, 77, 77, 73, 84]⟩
      ·have hv : verbV sv = 3 := by unfold verbV; rw [if_neg e0, if_neg e1, if_neg e2, if_pos e3]
       have b0 := qy (l := [65, 67, 67, 69, 80, 84]) e0;have b1 := qy (l := [70, 65, 73, 76]) e1;have b2 := qy (l := [70]) e2;have b3 := jR (l := [67, 79, 77, 77, 73, 84]) e3;clear e0 e1 e2 e3;have HR := xH (HZ.out.trans (show _ = gtok { kind := 13, n := 3, name := ⟨#[]⟩ } f (f + 2 + l + 1) by unfold verbG; rw [if_neg (by simp [hv]), hv]));go_wp2_with fail
       refine Calls.mono (qF (.slice none 0 0) ({ kind := 13, n := 3, name := ⟨#[]⟩ }) (f) (f + 2 + l + 1) _ (k := B) (qm _ _)) ?_;rintro e w9 ⟨rfl, ho, hb⟩;have F9 := xH (F8.out.step hb);have HO := xH ho;clear hb ho c0 c1 c2 c3;obtain ⟨old, HG, hz⟩ := xG F9;go_wp2_with (refine xR HG hz HO rfl rfl rfl rfl rfl ?_)
       refine bodyPost_ret (xE HG rfl rfl) rfl ?_;exact qj F9.out HR.out HO.out (Nat.le_refl _)
      by_cases e4 : sv = ⟨#[80, 82, 85, 78, 69]⟩
      ·have hv : verbV sv = 4 := by unfold verbV; rw [if_neg e0, if_neg e1, if_neg e2, if_neg e3, if_pos e4]
       have b0 := qy (l := [65, 67, 67, 69, 80, 84]) e0;have b1 := qy (l := [70, 65, 73, 76]) e1;have b2 := qy (l := [70]) e2;have b3 := qy (l := [67, 79, 77, 77, 73, 84]) e3;have b4 := jR (l := [80, 82, 85, 78, 69]) e4;clear e0 e1 e2 e3 e4;have HR := xH (HZ.out.trans (show _ = gtok { kind := 13, n := 4, name := ⟨#[]⟩ } f (f + 2 + l + 1) by unfold verbG; rw [if_neg (by simp [hv]), hv]));go_wp2_with fail
       refine Calls.mono (qF (.slice none 0 0) ({ kind := 13, n := 4, name := ⟨#[]⟩ }) (f) (f + 2 + l + 1) _ (k := B) (qm _ _)) ?_;rintro e w9 ⟨rfl, ho, hb⟩;have F9 := xH (F8.out.step hb);have HO := xH ho;clear hb ho c0 c1 c2 c3;obtain ⟨old, HG, hz⟩ := xG F9;go_wp2_with (refine xR HG hz HO rfl rfl rfl rfl rfl ?_)
       refine bodyPost_ret (xE HG rfl rfl) rfl ?_;exact qj F9.out HR.out HO.out (Nat.le_refl _)
      by_cases e5 : sv = ⟨#[83, 75, 73, 80]⟩
      ·have hv : verbV sv = 5 := by unfold verbV; rw [if_neg e0, if_neg e1, if_neg e2, if_neg e3, if_neg e4, if_pos e5]
       have b0 := qy (l := [65, 67, 67, 69, 80, 84]) e0;have b1 := qy (l := [70, 65, 73, 76]) e1;have b2 := qy (l := [70]) e2;have b3 := qy (l := [67, 79, 77, 77, 73, 84]) e3;have b4 := qy (l := [80, 82, 85, 78, 69]) e4;have b5 := jR (l := [83, 75, 73, 80]) e5;clear e0 e1 e2 e3 e4 e5;have HR := xH (HZ.out.trans (show _ = gtok { kind := 13, n := 5, name := ⟨#[]⟩ } f (f + 2 + l + 1) by unfold verbG; rw [if_neg (by simp [hv]), hv]));go_wp2_with fail
       refine Calls.mono (qF (.slice none 0 0) ({ kind := 13, n := 5, name := ⟨#[]⟩ }) (f) (f + 2 + l + 1) _ (k := B) (qm _ _)) ?_;rintro e w9 ⟨rfl, ho, hb⟩;have F9 := xH (F8.out.step hb);have HO := xH ho;clear hb ho c0 c1 c2 c3;obtain ⟨old, HG, hz⟩ := xG F9;go_wp2_with (refine xR HG hz HO rfl rfl rfl rfl rfl ?_)
       refine bodyPost_ret (xE HG rfl rfl) rfl ?_;exact qj F9.out HR.out HO.out (Nat.le_refl _)
      by_cases e6 : sv = ⟨#[84, 72, 69, 78]⟩
      ·have hv : verbV sv = 6 := by unfold verbV; rw [if_neg e0, if_neg e1, if_neg e2, if_neg e3, if_neg e4, if_neg e5, if_pos e6]
       have b0 := qy (l := [65, 67, 67, 69, 80, 84]) e0;have b1 := qy (l := [70, 65, 73, 76]) e1;have b2 := qy (l := [70]) e2;have b3 := qy (l := [67, 79, 77, 77, 73, 84]) e3;have b4 := qy (l := [80, 82, 85, 78, 69]) e4;have b5 := qy (l := [83, 75, 73, 80]) e5;have b6 := jR (l := [84, 72, 69, 78]) e6;clear e0 e1 e2 e3 e4 e5 e6;have HR := xH (HZ.out.trans (show _ = gtok { kind := 13, n := 6, name := ⟨#[]⟩ } f (f + 2 + l + 1) by unfold verbG; rw [if_neg (by simp [hv]), hv]));go_wp2_with fail
       refine Calls.mono (qF (.slice none 0 0) ({ kind := 13, n := 6, name := ⟨#[]⟩ }) (f) (f + 2 + l + 1) _ (k := B) (qm _ _)) ?_;rintro e w9 ⟨rfl, ho, hb⟩;have F9 := xH (F8.out.step hb);have HO := xH ho;clear hb ho c0 c1 c2 c3;obtain ⟨old, HG, hz⟩ := xG F9;go_wp2_with (refine xR HG hz HO rfl rfl rfl rfl rfl ?_)
       refine bodyPost_ret (xE HG rfl rfl) rfl ?_;exact qj F9.out HR.out HO.out (Nat.le_refl _)
      by_cases e7 : sv = ⟨#[77, 65, 82, 75]⟩
      ·have hv : verbV sv = 7 := by unfold verbV; rw [if_neg e0, if_neg e1, if_neg e2, if_neg e3, if_neg e4, if_neg e5, if_neg e6, if_pos e7]
       have b0 := qy (l := [65, 67, 67, 69, 80, 84]) e0;have b1 := qy (l := [70, 65, 73, 76]) e1;have b2 := qy (l := [70]) e2;have b3 := qy (l := [67, 79, 77, 77, 73, 84]) e3;have b4 := qy (l := [80, 82, 85, 78, 69]) e4;have b5 := qy (l := [83, 75, 73, 80]) e5;have b6 := qy (l := [84, 72, 69, 78]) e6;have b7 := jR (l := [77, 65, 82, 75]) e7;clear e0 e1 e2 e3 e4 e5 e6 e7;have HR := xH (HZ.out.trans (show _ = Except.error (28, (f : Int)) by unfold verbG; rw [if_pos (by simp [hv])]));go_wp2_with fail
       refine Calls.mono (qw _ _ _) ?_;rintro e w9 ⟨v, rfl, ho, hb⟩;have HO := xO F8.out.x ho;have F9 := xH (F8.out.step hb);clear hb ho c0 c1 c2 c3;obtain ⟨old, HG, hz⟩ := xG F9;go_wp2_with (refine xR HG hz HO rfl rfl rfl rfl rfl ?_)
       refine bodyPost_ret (xE HG rfl rfl) rfl ?_;exact qj F9.out HR.out HO.out (Nat.le_refl _)
      by_cases e8 : sv = ⟨#[]⟩
      ·have hv : verbV sv = 7 := by unfold verbV; rw [if_neg e0, if_neg e1, if_neg e2, if_neg e3, if_neg e4, if_neg e5, if_neg e6, if_neg e7, if_pos e8]
       have b0 := qy (l := [65, 67, 67, 69, 80, 84]) e0;have b1 := qy (l := [70, 65, 73, 76]) e1;have b2 := qy (l := [70]) e2;have b3 := qy (l := [67, 79, 77, 77, 73, 84]) e3;have b4 := qy (l := [80, 82, 85, 78, 69]) e4;have b5 := qy (l := [83, 75, 73, 80]) e5;have b6 := qy (l := [84, 72, 69, 78]) e6;have b7 := qy (l := [77, 65, 82, 75]) e7;have b8 := jR (l := []) e8;have bz := emp_y e8;clear e0 e1 e2 e3 e4 e5 e6 e7 e8;have HR := xH (HZ.out.trans (show _ = Except.error (28, (f : Int)) by unfold verbG; rw [if_pos (by simp [hv])]));go_wp2_with fail
       refine Calls.mono (qw _ _ _) ?_;rintro e w9 ⟨v, rfl, ho, hb⟩;have HO := xO F8.out.x ho;have F9 := xH (F8.out.step hb);clear hb ho c0 c1 c2 c3;obtain ⟨old, HG, hz⟩ := xG F9;go_wp2_with (refine xR HG hz HO rfl rfl rfl rfl rfl ?_)
       refine bodyPost_ret (xE HG rfl rfl) rfl ?_;exact qj F9.out HR.out HO.out (Nat.le_refl _)
      have hv : verbV sv = 0 := by unfold verbV; rw [if_neg e0, if_neg e1, if_neg e2, if_neg e3, if_neg e4, if_neg e5, if_neg e6, if_neg e7, if_neg e8]
      have b0 := qy (l := [65, 67, 67, 69, 80, 84]) e0;have b1 := qy (l := [70, 65, 73, 76]) e1;have b2 := qy (l := [70]) e2;have b3 := qy (l := [67, 79, 77, 77, 73, 84]) e3;have b4 := qy (l := [80, 82, 85, 78, 69]) e4;have b5 := qy (l := [83, 75, 73, 80]) e5;have b6 := qy (l := [84, 72, 69, 78]) e6;have b7 := qy (l := [77, 65, 82, 75]) e7;have b8 := qy (l := []) e8;have bz := emp_n e8;clear e0 e1 e2 e3 e4 e5 e6 e7 e8;have HR := xH (HZ.out.trans (show _ = Except.error (28, (f : Int)) by unfold verbG; rw [if_pos (by simp [hv])]));go_wp2_with fail
      refine Calls.mono (qw _ _ _) ?_;rintro e w9 ⟨v, rfl, ho, hb⟩;have HO := xO F8.out.x ho;have F9 := xH (F8.out.step hb);clear hb ho c0 c1 c2 c3;obtain ⟨old, HG, hz⟩ := xG F9;go_wp2_with (refine xR HG hz HO rfl rfl rfl rfl rfl ?_)
      refine bodyPost_ret (xE HG rfl rfl) rfl ?_;exact qj F9.out HR.out HO.out (Nat.le_refl _)
   ·go_wp2_with fail
    exact ⟨⟨l + 1, by omega, xH (fun j hj => by
     by_cases e : j = l
     ·subst e; exact hc
     ·exact hd.out j (by omega)), rfl, F4.out⟩, by simp only [intOf]; omega⟩
  ·have HU := xH (show p.until 41 (f + 2) = none by unfold Pt.until; exact find_no2 (fun j hj => hd.out j (by have := HN.out; omega)));have HR := xH (show verbR p f = .error (20, (p.n : Int)) by unfold verbR; rw [HU.out]);go_wp2_with fail
   refine Calls.mono (end_any S p _ HP.out) ?_;rintro e w5 ⟨v, rfl, ho, hb⟩;have HO := xO F4.out.x ho;have F5 := xH (F4.out.step hb);clear hb ho c0 c1 c2 c3;obtain ⟨old, HG, hz⟩ := xG F5;go_wp2_with (refine xR HG hz HO rfl rfl rfl rfl rfl ?_)
   refine bodyPost_ret (xE HG rfl rfl) rfl ?_;exact qj F5.out HR.out HO.out (Nat.le_refl _)
end Go.Proofs.YtikjhfmmfpeaoaaGreatDoor.rtw
end
