/- T -/
import Derived.BigQuiet
import Derived.Lib.QuietBelow
import Derived.RegionTactic
import Derived.Test.YtdgfclbajjjcgaaBWb20
set_option maxHeartbeats 16000000
set_option maxRecDepth 1000000
namespace Go.Proofs.Ytdgfclbajjjcgaa
section
namespace rtw
open sq
open Go Go.RowKit Go.Maps utfp utfw ucdp setp setw prp tkp rtp
open tkw (sg sg_bd vJ jM qK tkR qO qM vI)
def VbRel (w : World) (B : Nat) (S : ByteArray) (p : Pt) (a : Nat) (vi : Value) (wr : World) : Prop :=
 ∃ l : Nat, a + l ≤ S.size ∧ Hid (∀ j, j < l → p.g (a + j) ≠ 41) ∧ vi = .int .i64 ((a + l : Nat) : Int) ∧ FG w B S p wr
def VcRel (w : World) (B : Nat) (S s : ByteArray) (p : Pt) (a : Nat) (v6 v7 v8 vk : Value) (wr : World) : Prop :=
 ∃ k : Nat, k ≤ s.size ∧ Hid (∀ j, j < k → p.g (a + j) ≠ 58) ∧ v6 = .string s ∧ v7 = .string ⟨#[]⟩ ∧ v8 = .bool false ∧ vk = .int .i64 k ∧ FG w B S p wr
theorem find_at2 {p : Pt} {c : Int} : ∀ {l m a : Nat}, l < m → (∀ j, j < l → p.g (a + j) ≠ c) → p.g (a + l) = c → p.find c m a = some (a + l)
 | 0, m + 1, a, _, _, h2 => by rw [Pt.find, if_pos (by simpa using h2)]; rfl
 | l + 1, m + 1, a, h, h1, h2 => by rw [Pt.find, if_neg (by simpa using h1 0 (by omega)), find_at2 (l := l) (m := m) (a := a + 1) (by omega) (fun j hj => by have := h1 (j + 1) (by omega); rwa [show a + (j + 1) = a + 1 + j by omega] at this) (by rwa [show a + (l + 1) = a + 1 + l by omega] at h2)];rw [show a + (l + 1) = a + 1 + l by omega]
theorem find_no2 {p : Pt} {c : Int} : ∀ {m a : Nat}, (∀ j, j < m → p.g (a + j) ≠ c) → p.find c m a = none
 | 0, _, _ => rfl
 | m + 1, a, h => by rw [Pt.find, if_neg (by simpa using h 0 (by omega)), find_no2 (fun j hj => by have := h (j + 1) (by omega); rwa [show a + (j + 1) = a + 1 + j by omega] at this)]
theorem qy {s : ByteArray} {l : List UInt8} (h : ¬ s = ⟨l.toArray⟩) : (s.toList == l) = false := by exact z120
theorem jR {s : ByteArray} {l : List UInt8} (h : s = ⟨l.toArray⟩) : (s.toList == l) = true := by exact z120
theorem emp_n {s : ByteArray} (h : ¬ s = ⟨#[]⟩) : s.toList.isEmpty = false := by
 have := qy (l := []) h;cases hs : s.toList with
 | nil => rw [hs] at this; exact absurd this (by decide)
 | cons x l => rfl
theorem emp_y {s : ByteArray} (h : s = ⟨#[]⟩) : s.toList.isEmpty = true := by subst h;rw [show (⟨#[]⟩ : ByteArray).toList = [] from Lib.toList_data _];rfl
theorem verb_any (S : ByteArray) (p : Pt) (w : World) (hP : Pat S p) (f : Nat) (hf : f + 2 ≤ p.n) : Calls Try.prog 100 #[txV S p, .int .i64 f] w (GotB w (verbR p f)) := by
 have hn := hP.n;have h2 := hP.le;have HP := xH hP;have HN := xH hn;clear hP;rw [hn] at hf;clear hn;unfold txV txC;go_enter Try.func100, Try.ntmps100;go_upto_region 1 with (fail)
 generalize hW : (w.alloc _).alloc _ = W;have F0 := xH (fg_start (S := S) (p := p) hW);obtain ⟨B, hB⟩ : ∃ B, w.heap.size = B := ⟨_, rfl⟩;rw [hB] at F0 ⊢;clear hW hB;obtain ⟨c0, c1, c2, c3⟩ := F0.out.c;go_wp2_with fail
 go_loopw [5] (fun vi wr => VbRel w B S p (f + 2) vi wr) (fun vi _ => S.size - (intOf vi).toNat)
 case atStart => exact ⟨0, by omega, xH (fun j h => absurd h (Nat.not_lt_zero j)), rfl, F0.out⟩
 case round =>
  obtain ⟨l, hl, hd, rfl, hF⟩ := hrel;have F4 := xH hF;clear hF c0 c1 c2 c3;obtain ⟨c0, c1, c2, c3⟩ := F4.out.c;have hgb := gb HP.out;by_cases hlt : f + 2 + l < S.size
  ·obtain ⟨b0, b1⟩ := jS HP.out (f + 2 + l);by_cases hc : p.g (f + 2 + l) = 41
   ·have HU := xH (show p.until 41 (f + 2) = some (f + 2 + l) by unfold Pt.until; exact find_at2 (by rw [HN.out]; omega) hd.out hc);have HSVX := xH (sub_ext HP.out (show f + 2 ≤ f + 2 + l by omega) (show f + 2 + l ≤ p.n by rw [HN.out]; omega));have hsz : (p.sub (f + 2) (f + 2 + l)).size = l := by rw [tkw.sub_size]; omega
    have HSB := xH (fun k (h : k < (p.sub (f + 2) (f + 2 + l)).size) => show (((p.sub (f + 2) (f + 2 + l))[k]'h).toNat : Int) = p.g (f + 2 + k) from tkw.sub_at (jS HP.out) h);have HX1 := xH (fun k (h : k < (p.sub (f + 2) (f + 2 + l)).size) => show (p.sub (f + 2) (f + 2 + l)).extract 0 k = p.sub (f + 2) (f + 2 + k) by rw [← HSVX.out, ← sub_ext HP.out (show f + 2 ≤ f + 2 + k by omega) (by rw [HN.out]; omega), ByteArray.extract_extract, Nat.add_zero, Nat.min_eq_left (by omega)]);have HX2 := xH (fun k (h : k < (p.sub (f + 2) (f + 2 + l)).size) => show (p.sub (f + 2) (f + 2 + l)).extract (k + 1) (p.sub (f + 2) (f + 2 + l)).size = p.sub (f + 2 + k + 1) (f + 2 + l) by rw [hsz, ← HSVX.out, ← sub_ext HP.out (show f + 2 + k + 1 ≤ f + 2 + l by omega) (by rw [HN.out]; omega), ByteArray.extract_extract, Nat.min_eq_left (by omega), ← Nat.add_assoc]);have hxt := HSVX.out;have HSV : Hid (∃ x, x = p.sub (f + 2) (f + 2 + l)) := xH ⟨_, rfl⟩;have hz0 : (p.sub (f + 2) (f + 2 + l)).size ≤ 1000 := by omega
    have HVS := xH (show ∀ g, p.find 58 (f + 2 + l - (f + 2)) (f + 2) = none → verbR p f = verbG f (f + 2 + l) (p.sub (f + 2) (f + 2 + l)) ⟨#[]⟩ g ∨ verbR p f = verbG f (f + 2 + l) (p.sub (f + 2) (f + 2 + l)) ⟨#[]⟩ false from fun g h => Or.inr (by unfold verbR; rw [HU.out]; simp only; rw [h]));clear HSVX HSV;generalize p.sub (f + 2) (f + 2 + l) = sv at *;have bq : (p.g (f + 2 + l) != 41) = false := by simp [hc]
    go_wp2_with fail
    go_loopw [6, 7, 8, 9] (fun v6 v7 v8 vk wr => VcRel w B S sv p (f + 2) v6 v7 v8 vk wr) (fun _ _ _ vk _ => sv.size - (intOf vk).toNat)
    case atStart => exact ⟨0, by omega, xH (fun j h => absurd h (Nat.not_lt_zero j)), by rw [hxt], rfl, rfl, rfl, F4.out⟩
    case round =>
     obtain ⟨k, hk, hd2, rfl, rfl, rfl, rfl, hF⟩ := hrel;have F8 := xH hF;clear hF c0 c1 c2 c3;obtain ⟨c0, c1, c2, c3⟩ := F8.out.c;by_cases hlt2 : k < sv.size
     ·obtain ⟨b0, b1⟩ := jS HP.out (f + 2 + k);have hgs : ((sv[k]'hlt2).toNat : Int) = p.g (f + 2 + k) := by have := HSB.out k hlt2; simpa using this
      by_cases hc : p.g (f + 2 + k) = 58
      ·have bc : (p.g (f + 2 + k) == 58) = true := by simp [hc]
       have HZ := xH (show verbR p f = verbG f (f + 2 + l) (p.sub (f + 2) (f + 2 + k)) (p.sub (f + 2 + k + 1) (f + 2 + l)) true by unfold verbR; rw [HU.out]; simp only; rw [find_at2 (l := k) (by omega) hd2.out hc]);have hx1 : sv.extract 0 k = p.sub (f + 2) (f + 2 + k) := HX1.out k hlt2;have hx2 : sv.extract (k + 1) sv.size = p.sub (f + 2 + k + 1) (f + 2 + l) := HX2.out k hlt2;have hx3 := hx2;rw [hsz] at hx3;clear hc;generalize p.sub (f + 2) (f + 2 + k) = wd at *;generalize p.sub (f + 2 + k + 1) (f + 2 + l) = arg at *;by_cases e0 : wd = ⟨#[65, 67, 67, 69, 80, 84]⟩
       ·have hv : verbV wd = 1 := by unfold verbV; rw [if_pos e0]
        have b0 := jR (l := [65, 67, 67, 69, 80, 84]) e0;clear e0;exact z20
       by_cases e1 : wd = ⟨#[70, 65, 73, 76]⟩
       ·have hv : verbV wd = 2 := by unfold verbV; rw [if_neg e0, if_pos e1]
        have b0 := qy (l := [65, 67, 67, 69, 80, 84]) e0;have b1 := jR (l := [70, 65, 73, 76]) e1;clear e0 e1;exact z20
       by_cases e2 : wd = ⟨#[70]⟩
       ·have hv : verbV wd = 2 := by unfold verbV; rw [if_neg e0, if_neg e1, if_pos e2]
        have b0 := qy (l := [65, 67, 67, 69, 80, 84]) e0;have b1 := qy (l := [70, 65, 73, 76]) e1;have b2 := jR (l := [70]) e2;clear e0 e1 e2;exact z20
       by_cases e3 : wd = ⟨#[67, 79, 77, 77, 73, 84]⟩
       ·have hv : verbV wd = 3 := by unfold verbV; rw [if_neg e0, if_neg e1, if_neg e2, if_pos e3]
        have b0 := qy (l := [65, 67, 67, 69, 80, 84]) e0;have b1 := qy (l := [70, 65, 73, 76]) e1;have b2 := qy (l := [70]) e2;have b3 := jR (l := [67, 79, 77, 77, 73, 84]) e3;clear e0 e1 e2 e3;by_cases ha : arg = ⟨#[]⟩
        ·have HR := xH (HZ.out.trans (show _ = Except.error (28, (f : Int)) by unfold verbG; rw [if_pos (by simp [ha])]));exact z56
        ·have HR := xH (HZ.out.trans (show _ = gtok { kind := 13, n := 3, name := arg } f (f + 2 + l + 1) by unfold verbG; rw [if_neg (by simp [hv, ha]), hv]));have ba := qy (l := []) ha;have bb := emp_n ha;clear ha;go_wp2_with fail
         refine xM (qF (.slice none 0 0) ({ kind := 13, n := 3, name := arg }) (f) (f + 2 + l + 1) _ (k := B) (qm _ _)) ?_;exact z71
       by_cases e4 : wd = ⟨#[80, 82, 85, 78, 69]⟩
       ·have hv : verbV wd = 4 := by unfold verbV; rw [if_neg e0, if_neg e1, if_neg e2, if_neg e3, if_pos e4]
        have b0 := qy (l := [65, 67, 67, 69, 80, 84]) e0;have b1 := qy (l := [70, 65, 73, 76]) e1;have b2 := qy (l := [70]) e2;have b3 := qy (l := [67, 79, 77, 77, 73, 84]) e3;have b4 := jR (l := [80, 82, 85, 78, 69]) e4;clear e0 e1 e2 e3 e4;by_cases ha : arg = ⟨#[]⟩
        ·have HR := xH (HZ.out.trans (show _ = Except.error (28, (f : Int)) by unfold verbG; rw [if_pos (by simp [ha])]));exact z56
        ·have HR := xH (HZ.out.trans (show _ = gtok { kind := 13, n := 4, name := arg } f (f + 2 + l + 1) by unfold verbG; rw [if_neg (by simp [hv, ha]), hv]));have ba := qy (l := []) ha;have bb := emp_n ha;clear ha;go_wp2_with fail
         refine xM (qF (.slice none 0 0) ({ kind := 13, n := 4, name := arg }) (f) (f + 2 + l + 1) _ (k := B) (qm _ _)) ?_;exact z71
       by_cases e5 : wd = ⟨#[83, 75, 73, 80]⟩
       ·have hv : verbV wd = 5 := by unfold verbV; rw [if_neg e0, if_neg e1, if_neg e2, if_neg e3, if_neg e4, if_pos e5]
        have b0 := qy (l := [65, 67, 67, 69, 80, 84]) e0;have b1 := qy (l := [70, 65, 73, 76]) e1;have b2 := qy (l := [70]) e2;have b3 := qy (l := [67, 79, 77, 77, 73, 84]) e3;have b4 := qy (l := [80, 82, 85, 78, 69]) e4;have b5 := jR (l := [83, 75, 73, 80]) e5;clear e0 e1 e2 e3 e4 e5;by_cases ha : arg = ⟨#[]⟩
        ·have HR := xH (HZ.out.trans (show _ = Except.error (28, (f : Int)) by unfold verbG; rw [if_pos (by simp [ha])]));exact z56
        ·have HR := xH (HZ.out.trans (show _ = gtok { kind := 13, n := 5, name := arg } f (f + 2 + l + 1) by unfold verbG; rw [if_neg (by simp [hv, ha]), hv]));have ba := qy (l := []) ha;have bb := emp_n ha;clear ha;go_wp2_with fail
         refine xM (qF (.slice none 0 0) ({ kind := 13, n := 5, name := arg }) (f) (f + 2 + l + 1) _ (k := B) (qm _ _)) ?_;exact z71
       by_cases e6 : wd = ⟨#[84, 72, 69, 78]⟩
       ·have hv : verbV wd = 6 := by unfold verbV; rw [if_neg e0, if_neg e1, if_neg e2, if_neg e3, if_neg e4, if_neg e5, if_pos e6]
        have b0 := qy (l := [65, 67, 67, 69, 80, 84]) e0;have b1 := qy (l := [70, 65, 73, 76]) e1;have b2 := qy (l := [70]) e2;have b3 := qy (l := [67, 79, 77, 77, 73, 84]) e3;have b4 := qy (l := [80, 82, 85, 78, 69]) e4;have b5 := qy (l := [83, 75, 73, 80]) e5;have b6 := jR (l := [84, 72, 69, 78]) e6;clear e0 e1 e2 e3 e4 e5 e6;by_cases ha : arg = ⟨#[]⟩
        ·have HR := xH (HZ.out.trans (show _ = Except.error (28, (f : Int)) by unfold verbG; rw [if_pos (by simp [ha])]));exact z56
        ·have HR := xH (HZ.out.trans (show _ = gtok { kind := 13, n := 6, name := arg } f (f + 2 + l + 1) by unfold verbG; rw [if_neg (by simp [hv, ha]), hv]));have ba := qy (l := []) ha;have bb := emp_n ha;clear ha;go_wp2_with fail
         refine xM (qF (.slice none 0 0) ({ kind := 13, n := 6, name := arg }) (f) (f + 2 + l + 1) _ (k := B) (qm _ _)) ?_;exact z71
       by_cases e7 : wd = ⟨#[77, 65, 82, 75]⟩
       ·have hv : verbV wd = 7 := by unfold verbV; rw [if_neg e0, if_neg e1, if_neg e2, if_neg e3, if_neg e4, if_neg e5, if_neg e6, if_pos e7]
        have b0 := qy (l := [65, 67, 67, 69, 80, 84]) e0;have b1 := qy (l := [70, 65, 73, 76]) e1;have b2 := qy (l := [70]) e2;have b3 := qy (l := [67, 79, 77, 77, 73, 84]) e3;have b4 := qy (l := [80, 82, 85, 78, 69]) e4;have b5 := qy (l := [83, 75, 73, 80]) e5;have b6 := qy (l := [84, 72, 69, 78]) e6;have b7 := jR (l := [77, 65, 82, 75]) e7;clear e0 e1 e2 e3 e4 e5 e6 e7;exact z17
       by_cases e8 : wd = ⟨#[]⟩
       ·have hv : verbV wd = 7 := by unfold verbV; rw [if_neg e0, if_neg e1, if_neg e2, if_neg e3, if_neg e4, if_neg e5, if_neg e6, if_neg e7, if_pos e8]
        have b0 := qy (l := [65, 67, 67, 69, 80, 84]) e0;have b1 := qy (l := [70, 65, 73, 76]) e1;have b2 := qy (l := [70]) e2;have b3 := qy (l := [67, 79, 77, 77, 73, 84]) e3;have b4 := qy (l := [80, 82, 85, 78, 69]) e4;have b5 := qy (l := [83, 75, 73, 80]) e5;have b6 := qy (l := [84, 72, 69, 78]) e6;have b7 := qy (l := [77, 65, 82, 75]) e7;have b8 := jR (l := []) e8;have bz := emp_y e8;clear e0 e1 e2 e3 e4 e5 e6 e7 e8;exact z17
       have hv : verbV wd = 0 := by unfold verbV; rw [if_neg e0, if_neg e1, if_neg e2, if_neg e3, if_neg e4, if_neg e5, if_neg e6, if_neg e7, if_neg e8]
       have b0 := qy (l := [65, 67, 67, 69, 80, 84]) e0;have b1 := qy (l := [70, 65, 73, 76]) e1;have b2 := qy (l := [70]) e2;have b3 := qy (l := [67, 79, 77, 77, 73, 84]) e3;have b4 := qy (l := [80, 82, 85, 78, 69]) e4;have b5 := qy (l := [83, 75, 73, 80]) e5;have b6 := qy (l := [84, 72, 69, 78]) e6;have b7 := qy (l := [77, 65, 82, 75]) e7;have b8 := qy (l := []) e8;have bz := emp_n e8;clear e0 e1 e2 e3 e4 e5 e6 e7 e8;exact z20
      ·have bc : (p.g (f + 2 + k) == 58) = false := by simp [hc]
       go_wp2_with fail
       exact ⟨⟨k + 1, by omega, xH (fun j hj => by
        by_cases e : j = k
        ·subst e; exact hc
        ·exact hd2.out j (by omega)), rfl, rfl, rfl, rfl, F8.out⟩, by simp [intOf]; omega⟩
     ·obtain rfl : k = sv.size := by omega
      have HZ := xH (show verbR p f = verbG f (f + 2 + l) sv ⟨#[]⟩ false by rcases HVS.out false (find_no2 (fun j hj => hd2.out j (by omega))) with h | h <;> exact h);clear hlt2;by_cases e0 : sv = ⟨#[65, 67, 67, 69, 80, 84]⟩
      ·have hv : verbV sv = 1 := by unfold verbV; rw [if_pos e0]
       have b0 := jR (l := [65, 67, 67, 69, 80, 84]) e0;clear e0;have HR := xH (HZ.out.trans (show _ = gtok { kind := 13, n := 1, name := ⟨#[]⟩ } f (f + 2 + l + 1) by unfold verbG; rw [if_neg (by simp [hv]), hv]));go_wp2_with fail
       refine xM (qF (.slice none 0 0) ({ kind := 13, n := 1, name := ⟨#[]⟩ }) (f) (f + 2 + l + 1) _ (k := B) (qm _ _)) ?_;exact z71
      by_cases e1 : sv = ⟨#[70, 65, 73, 76]⟩
      ·have hv : verbV sv = 2 := by unfold verbV; rw [if_neg e0, if_pos e1]
       have b0 := qy (l := [65, 67, 67, 69, 80, 84]) e0;have b1 := jR (l := [70, 65, 73, 76]) e1;clear e0 e1;exact z27
      by_cases e2 : sv = ⟨#[70]⟩
      ·have hv : verbV sv = 2 := by unfold verbV; rw [if_neg e0, if_neg e1, if_pos e2]
       have b0 := qy (l := [65, 67, 67, 69, 80, 84]) e0;have b1 := qy (l := [70, 65, 73, 76]) e1;have b2 := jR (l := [70]) e2;clear e0 e1 e2;exact z27
      by_cases e3 : sv = ⟨#[67, 79, 77, 77, 73, 84]⟩
      ·have hv : verbV sv = 3 := by unfold verbV; rw [if_neg e0, if_neg e1, if_neg e2, if_pos e3]
       have b0 := qy (l := [65, 67, 67, 69, 80, 84]) e0;have b1 := qy (l := [70, 65, 73, 76]) e1;have b2 := qy (l := [70]) e2;have b3 := jR (l := [67, 79, 77, 77, 73, 84]) e3;clear e0 e1 e2 e3;have HR := xH (HZ.out.trans (show _ = gtok { kind := 13, n := 3, name := ⟨#[]⟩ } f (f + 2 + l + 1) by unfold verbG; rw [if_neg (by simp [hv]), hv]));go_wp2_with fail
       refine xM (qF (.slice none 0 0) ({ kind := 13, n := 3, name := ⟨#[]⟩ }) (f) (f + 2 + l + 1) _ (k := B) (qm _ _)) ?_;exact z71
      by_cases e4 : sv = ⟨#[80, 82, 85, 78, 69]⟩
      ·have hv : verbV sv = 4 := by unfold verbV; rw [if_neg e0, if_neg e1, if_neg e2, if_neg e3, if_pos e4]
       have b0 := qy (l := [65, 67, 67, 69, 80, 84]) e0;have b1 := qy (l := [70, 65, 73, 76]) e1;have b2 := qy (l := [70]) e2;have b3 := qy (l := [67, 79, 77, 77, 73, 84]) e3;have b4 := jR (l := [80, 82, 85, 78, 69]) e4;clear e0 e1 e2 e3 e4;have HR := xH (HZ.out.trans (show _ = gtok { kind := 13, n := 4, name := ⟨#[]⟩ } f (f + 2 + l + 1) by unfold verbG; rw [if_neg (by simp [hv]), hv]));go_wp2_with fail
       refine xM (qF (.slice none 0 0) ({ kind := 13, n := 4, name := ⟨#[]⟩ }) (f) (f + 2 + l + 1) _ (k := B) (qm _ _)) ?_;exact z71
      by_cases e5 : sv = ⟨#[83, 75, 73, 80]⟩
      ·have hv : verbV sv = 5 := by unfold verbV; rw [if_neg e0, if_neg e1, if_neg e2, if_neg e3, if_neg e4, if_pos e5]
       have b0 := qy (l := [65, 67, 67, 69, 80, 84]) e0;have b1 := qy (l := [70, 65, 73, 76]) e1;have b2 := qy (l := [70]) e2;have b3 := qy (l := [67, 79, 77, 77, 73, 84]) e3;have b4 := qy (l := [80, 82, 85, 78, 69]) e4;have b5 := jR (l := [83, 75, 73, 80]) e5;clear e0 e1 e2 e3 e4 e5;have HR := xH (HZ.out.trans (show _ = gtok { kind := 13, n := 5, name := ⟨#[]⟩ } f (f + 2 + l + 1) by unfold verbG; rw [if_neg (by simp [hv]), hv]));go_wp2_with fail
       refine xM (qF (.slice none 0 0) ({ kind := 13, n := 5, name := ⟨#[]⟩ }) (f) (f + 2 + l + 1) _ (k := B) (qm _ _)) ?_;exact z71
      by_cases e6 : sv = ⟨#[84, 72, 69, 78]⟩
      ·have hv : verbV sv = 6 := by unfold verbV; rw [if_neg e0, if_neg e1, if_neg e2, if_neg e3, if_neg e4, if_neg e5, if_pos e6]
       have b0 := qy (l := [65, 67, 67, 69, 80, 84]) e0;have b1 := qy (l := [70, 65, 73, 76]) e1;have b2 := qy (l := [70]) e2;have b3 := qy (l := [67, 79, 77, 77, 73, 84]) e3;have b4 := qy (l := [80, 82, 85, 78, 69]) e4;have b5 := qy (l := [83, 75, 73, 80]) e5;have b6 := jR (l := [84, 72, 69, 78]) e6;clear e0 e1 e2 e3 e4 e5 e6;have HR := xH (HZ.out.trans (show _ = gtok { kind := 13, n := 6, name := ⟨#[]⟩ } f (f + 2 + l + 1) by unfold verbG; rw [if_neg (by simp [hv]), hv]));go_wp2_with fail
       refine xM (qF (.slice none 0 0) ({ kind := 13, n := 6, name := ⟨#[]⟩ }) (f) (f + 2 + l + 1) _ (k := B) (qm _ _)) ?_;exact z71
      by_cases e7 : sv = ⟨#[77, 65, 82, 75]⟩
      ·have hv : verbV sv = 7 := by unfold verbV; rw [if_neg e0, if_neg e1, if_neg e2, if_neg e3, if_neg e4, if_neg e5, if_neg e6, if_pos e7]
       have b0 := qy (l := [65, 67, 67, 69, 80, 84]) e0;have b1 := qy (l := [70, 65, 73, 76]) e1;have b2 := qy (l := [70]) e2;have b3 := qy (l := [67, 79, 77, 77, 73, 84]) e3;have b4 := qy (l := [80, 82, 85, 78, 69]) e4;have b5 := qy (l := [83, 75, 73, 80]) e5;have b6 := qy (l := [84, 72, 69, 78]) e6;have b7 := jR (l := [77, 65, 82, 75]) e7;clear e0 e1 e2 e3 e4 e5 e6 e7;have HR := xH (HZ.out.trans (show _ = Except.error (28, (f : Int)) by unfold verbG; rw [if_pos (by simp [hv])]));exact z86
      by_cases e8 : sv = ⟨#[]⟩
      ·have hv : verbV sv = 7 := by unfold verbV; rw [if_neg e0, if_neg e1, if_neg e2, if_neg e3, if_neg e4, if_neg e5, if_neg e6, if_neg e7, if_pos e8]
       have b0 := qy (l := [65, 67, 67, 69, 80, 84]) e0;have b1 := qy (l := [70, 65, 73, 76]) e1;have b2 := qy (l := [70]) e2;have b3 := qy (l := [67, 79, 77, 77, 73, 84]) e3;have b4 := qy (l := [80, 82, 85, 78, 69]) e4;have b5 := qy (l := [83, 75, 73, 80]) e5;have b6 := qy (l := [84, 72, 69, 78]) e6;have b7 := qy (l := [77, 65, 82, 75]) e7;have b8 := jR (l := []) e8;have bz := emp_y e8;exact z42
      have hv : verbV sv = 0 := by unfold verbV; rw [if_neg e0, if_neg e1, if_neg e2, if_neg e3, if_neg e4, if_neg e5, if_neg e6, if_neg e7, if_neg e8]
      have b0 := qy (l := [65, 67, 67, 69, 80, 84]) e0;have b1 := qy (l := [70, 65, 73, 76]) e1;have b2 := qy (l := [70]) e2;have b3 := qy (l := [67, 79, 77, 77, 73, 84]) e3;have b4 := qy (l := [80, 82, 85, 78, 69]) e4;have b5 := qy (l := [83, 75, 73, 80]) e5;have b6 := qy (l := [84, 72, 69, 78]) e6;have b7 := qy (l := [77, 65, 82, 75]) e7;have b8 := qy (l := []) e8;have bz := emp_n e8;exact z42
   ·go_wp2_with fail
    exact ⟨⟨l + 1, by omega, xH (fun j hj => by
     by_cases e : j = l
     ·subst e; exact hc
     ·exact hd.out j (by omega)), rfl, F4.out⟩, by simp only [intOf]; omega⟩
  ·have HU := xH (show p.until 41 (f + 2) = none by unfold Pt.until; exact find_no2 (fun j hj => hd.out j (by have := HN.out; omega)));have HR := xH (show verbR p f = .error (20, (p.n : Int)) by unfold verbR; rw [HU.out]);exact z79
end rtw
end
section
namespace rtw
open sq
open Go Go.RowKit Go.Maps utfp utfw ucdp setp setw prp tkp rtp
open tkw (sg sg_bd vJ jM qK tkR qO qM vI)
open Go.Sort
def kS : Array Value := #[.string ⟨#[58]⟩, .string ⟨#[124]⟩, .string ⟨#[62]⟩, .string ⟨#[61]⟩, .string ⟨#[33]⟩, .string ⟨#[60, 61]⟩, .string ⟨#[60, 33]⟩]
def kN : Array Value := #[.int .i64 2, .int .i64 3, .int .i64 4, .int .i64 5, .int .i64 6, .int .i64 7, .int .i64 8]
theorem kinds_at {k : Nat} (hk : k < 7) : ∃ (s : List UInt8) (n : Int), kindsT.drop k = (s, n) :: kindsT.drop (k + 1) ∧ kS[k]? = some (.string ⟨s.toArray⟩) ∧ kN[k]? = some (.int .i64 n) ∧ s.length ≤ 2 ∧ s ≠ [] := by
 obtain rfl | rfl | rfl | rfl | rfl | rfl | rfl : k = 0 ∨ k = 1 ∨ k = 2 ∨ k = 3 ∨ k = 4 ∨ k = 5 ∨ k = 6 := by omega
 all_goals exact ⟨_, _, rfl, rfl, rfl, by decide, by decide⟩
structure OpAt (w : World) (B : Nat) (S : ByteArray) (p : Pt) (a1 a2 : Nat) (wr : World) : Prop where
 fg : FG w B S p wr
 s : wr.heap[a1]? = some (.cells kS 9 (0, 0))
 n : wr.heap[a2]? = some (.cells kN 3 (0, 0))
theorem OpAt.step {w W W' : World} {B a1 a2 : Nat} {S : ByteArray} {p : Pt} (h : OpAt w B S p a1 a2 W) (hb : Below W.heap.size W W') : OpAt w B S p a1 a2 W' := ⟨h.fg.step hb, qQ h.s hb, qQ h.n hb⟩
theorem OpAt.set {w W : World} {B a1 a2 : Nat} {S : ByteArray} {p : Pt} (h : OpAt w B S p a1 a2 W) (cs : Array Value) (hc : cs.size = 16) : OpAt w B S p a1 a2 (W.setRow (B + 1) cs) := by
 obtain ⟨old, hg, hz⟩ := h.fg.g;have n1 : a1 ≠ B + 1 := by rintro rfl;have := h.s.symm.trans hg;simp only [dG, Obj.cells.injEq] at this;exact absurd this.2.1 (by decide)
 have n2 : a2 ≠ B + 1 := by rintro rfl;have := h.n.symm.trans hg;simp only [dG, Obj.cells.injEq] at this;exact absurd this.2.1 (by decide)
 exact ⟨⟨⟨h.fg.hB, below_setRow h.fg.below (by omega) _, ⟨(tkw.setRow_other W (B + 1) B cs (by omega)).trans h.fg.x.h⟩⟩, ⟨cs, setRow_heap _ _ _ _ _ _ hg, hc⟩⟩, (tkw.setRow_other W (B + 1) a1 cs (by omega)).trans h.s, (tkw.setRow_other W (B + 1) a2 cs (by omega)).trans h.n⟩
def OpRel (w : World) (B : Nat) (S : ByteArray) (p : Pt) (f a1 a2 : Nat) (vk : Value) (wr : World) : Prop :=
 ∃ k : Nat, k ≤ 7 ∧ vk = .int .i64 k ∧ Hid (kindR p f (f + 2) (kindsT.drop k) = kindR p f (f + 2) kindsT) ∧ Hid (OpAt w B S p a1 a2 wr)
theorem held_store_got {o : Oper} {a : Act} {W : World} {K : Act → World → Prop} {Q : Exit → Act → World → Prop} {ys : Nat → Option Bool} (hgd : o.guard = none) (hd : o.dst = none) (x y : Operand) (ho : o.op = .store 92 x y)
 (g : Nat) (hx : a.eval x = .pointer (some ⟨g, 0, none⟩)) (old cs : Array Value) (hg : W.heap[g]? = some (.cells old 92 (0, 0))) (hs : old.size = 16) (hc : cs.size = 16) (h1 : ∀ u ∈ cs.toList, u.oneCell' = true) (hy : a.eval y = .agg cs)
 (h : K a (W.setRow g cs)) : if Region.wanted o ys = true then Oper.wp Try.prog o a W K Q else K (a.put o.dst undef) W := by
 rw [if_pos (by unfold Region.wanted; rw [hgd])];unfold Oper.wp execOp;simp only [ho, hx, hy, Instr.storeAt, Instr.sureAddr, Sem.run_bind, Sem.run_pure, Result.andThen_ok, run_store_got W g old cs hg hs hc h1];simpa [Oper.upon, hd, Act.put] using h
theorem jk {ops : Array Oper} {rest : List Oper} {o : Oper} {a : Act} {w : World} {Q : Exit → Act → World → Prop} (hgd : o.guard = none) (x : Operand) (ho : o.op = .load 92 x)
 (g : Nat) (hx : a.eval x = .pointer (some ⟨g, 0, none⟩)) (cs : Array Value) (hg : w.heap[g]? = some (.cells cs 92 (0, 0))) (hc : cs.size = 16)
 (h : wpList Try.prog ops Q rest (a.put o.dst (.agg cs)) w) : wpList Try.prog ops Q (o :: rest) a w := by
 exact wpList_load_row hgd 92 x ho g hx 92 cs (0, 0) _ hg Try.underlying92 rfl (by rw [gotInfo, hc]) h
theorem open_any (S : ByteArray) (p : Pt) (w : World) (hP : Pat S p) (f : Nat) (hf : f < p.n) : Calls Try.prog 66 #[txV S p, .int .i64 f] w (GotB w (openR p f)) := by
 have hn := hP.n;have h2 := hP.le;have HP := xH hP;have HN := xH hn;clear hP;rw [hn] at hf;clear hn;unfold txV txC;go_enter Try.func66, Try.ntmps66;go_upto_region 1 with (fail)
 generalize hW : (w.alloc _).alloc _ = W;have F0 := xH (fg_start (S := S) (p := p) hW);obtain ⟨B, hB⟩ : ∃ B, w.heap.size = B := ⟨_, rfl⟩;rw [hB] at F0 ⊢;clear hW hB;obtain ⟨c0, c1, c2, c3⟩ := F0.out.c;go_wp2_with fail
 refine xM (qG S p _ HP.out (f + 1) (by omega) [42] ⟨#[42]⟩ rfl (by decide) (Or.inl (by rw [HN.out]; omega))) ?_;rintro e w1 ⟨rfl, hb⟩;have F1 := xH (F0.out.step hb);clear hb c0 c1 c2 c3;obtain ⟨c0, c1, c2, c3⟩ := F1.out.c;cases h42 : p.has [42] (f + 1) with
 | true =>
  have HR := xH (show openR p f = verbR p f by unfold openR; rw [if_pos h42]);have hin := qR HP.out h42;rw [HN.out] at hin;simp only [dA, Nat.zero_add] at hin;go_wp2_with fail
  refine xM (verb_any S p _ HP.out f (by rw [HN.out]; omega)) ?_;exact z129
 | false =>
  go_wp2_with fail
  refine xM (qG S p _ HP.out (f + 1) (by omega) [63] ⟨#[63]⟩ rfl (by decide) (Or.inl (by rw [HN.out]; omega))) ?_;rintro e w2 ⟨rfl, hb⟩;have F2 := xH (F1.out.step hb);clear hb c0 c1 c2 c3;obtain ⟨c0, c1, c2, c3⟩ := F2.out.c;cases h63 : p.has [63] (f + 1) with
  | false =>
   have HR := xH (show openR p f = gtok { kind := 10, n := 1 } f (f + 1) by unfold openR; rw [if_neg (by simp [h42]), if_pos h63]);go_wp2_with fail
   refine xM (qF (.slice none 0 0) ({ kind := 10, n := 1 }) (f) (f + 1) _ (k := B) (qm _ _)) ?_;exact z70
  | true =>
   have hin := qR HP.out h63;rw [HN.out] at hin;simp only [dA, Nat.zero_add] at hin;have HO1 := xH (show openR p f = (if f + 2 = p.n then Except.error (20, (p.n : Int)) else match kindR p f (f + 2) kindsT with | some g => g | none => openK p f (f + 2)) by unfold openR; rw [if_neg (by simp [h42]), if_neg (by simp [h63])]; rfl);by_cases hend : f + 2 = S.size
   ·have HR := xH (HO1.out.trans (if_pos (by rw [HN.out]; exact hend)));have he : (f : Int) + 2 = (S.size : Int) := by omega
    go_wp2_with fail
    refine xM (end_any S p _ HP.out) ?_;exact z191
   have he : ¬ (f : Int) + 2 = (S.size : Int) := by omega
   have HO := xH (HO1.out.trans (if_neg (by rw [HN.out]; exact hend)));clear HO1;have hw1 := qK w2 (.cells kS 9 (0, 0));have hn1 := heap_alloc_new w2 (.cells kS 9 (0, 0));have hw2 := qK (w2.alloc (.cells kS 9 (0, 0))) (.cells kN 3 (0, 0));have hn2 := heap_alloc_new (w2.alloc (.cells kS 9 (0, 0))) (.cells kN 3 (0, 0));have O3 : Hid (OpAt w B S p w2.heap.size (w2.heap.size + 1) ((w2.alloc (.cells kS 9 (0, 0))).alloc (.cells kN 3 (0, 0)))) := xH ⟨(F2.out.step hw1).step hw2, qQ hn1 hw2, by rw [World.size_alloc] at hn2; exact hn2⟩;clear hw1 hn1 hw2 hn2;unfold kS kN at O3;go_wp2_with fail
   clear F2 c0 c1 c2 c3
   go_loopw [8] (fun vk wr => OpRel w B S p f w2.heap.size (w2.heap.size + 1) vk wr) (fun vk _ => 7 - (intOf vk).toNat)
   case atStart => exact ⟨0, by omega, rfl, xH rfl, O3⟩
   case round =>
    obtain ⟨k, hk, rfl, hki, O4⟩ := hrel;have F4 := xH O4.out.fg;generalize w2.heap.size = a1 at *;clear O3;obtain ⟨c0, c1, c2, c3⟩ := F4.out.c;by_cases hk7 : k < 7
    ·obtain ⟨s, n, hd, hs, hnn, hl, hne⟩ := kinds_at hk7;have cs1 : wr.cell? ⟨a1, k, none⟩ = some (.string ⟨s.toArray⟩) := by simp only [World.cell?, O4.out.s]; simpa using hs
     have cn1 : wr.cell? ⟨a1 + 1, k, none⟩ = some (.int .i64 n) := by simp only [World.cell?, O4.out.n]; simpa using hnn
     have HKR := xH ((show kindR p f (f + 2) kindsT = (if p.has s (f + 2) = true then some (gtok { kind := 10, n := n } f (f + 2 + s.length)) else kindR p f (f + 2) (kindsT.drop (k + 1))) by rw [← hki.out, hd, kindR]));have HSS := xH hs;have HNN := xH hnn;clear hs hnn hki hd;have HIS := xH (fun d os => qG S p (grow (redrawn wr d) os) HP.out (f + 2) (by omega) s ⟨s.toArray⟩ rfl (by omega) (Or.inr hne));cases hh : p.has s (f + 2) with
     | false =>
      have HN1 := xH (HKR.out.trans (if_neg (by simp [hh])));have cA : ∀ d os, Calls Try.prog 47 #[.agg #[.string S, .bool p.u, .bool p.x, .int .i64 p.most], .int .i64 ((f : Int) + 2), .string ⟨s.toArray⟩] (grow (redrawn wr d) os) fun e w'' => e = .returned (.bool false) ∧ ∃ q : Regrown, w'' = grow (redrawn wr q.d) q.os := fun d os => by have h := HIS.out d os;rw [hh] at h;exact Calls.regrown_of h
      have k0 := cellR c0;have k1 := cellR c1;have k2 := cellR c2;have k3 := cellR c3;have k4 := cellR cs1;clear HIS HKR;go_wp2_with fail
      refine wp_region_quiet_below (by kernel_rfl) (by kernel_rfl) ?_
      repeat (go_big_quiet_step (first | exact cA _ _))
      refine wpQuiet_nil ?_;intro _ hw';obtain ⟨⟨dq, osq⟩, hw''⟩ := hw';subst hw'';have hb := below_regrown wr dq osq;generalize grow (redrawn wr dq) osq = w4 at *;go_wp2_with fail
      exact ⟨⟨k + 1, by omega, rfl, xH HN1.out.symm, xH (O4.out.step hb)⟩, by simp [intOf]; omega⟩
     | true =>
      have HR := xH (HO.out.trans (show _ = gtok { kind := 10, n := n } f (f + 2 + s.length) by rw [HKR.out, if_pos hh]));have cA : ∀ d os, Calls Try.prog 47 #[.agg #[.string S, .bool p.u, .bool p.x, .int .i64 p.most], .int .i64 ((f : Int) + 2), .string ⟨s.toArray⟩] (grow (redrawn wr d) os) fun e w'' => e = .returned (.bool true) ∧ ∃ q : Regrown, w'' = grow (redrawn wr q.d) q.os := fun d os => by have h := HIS.out d os;rw [hh] at h;exact Calls.regrown_of h
      have k0 := cellR c0;have k1 := cellR c1;have k2 := cellR c2;have k3 := cellR c3;have k4 := cellR cs1;clear HIS HKR;go_wp2_with fail
      refine wp_region_quiet_below (by kernel_rfl) (by kernel_rfl) ?_
      repeat (go_big_quiet_step (first | exact cA _ _))
      refine wpQuiet_nil ?_;intro _ hw';obtain ⟨⟨dq, osq⟩, hw''⟩ := hw';subst hw'';have hb := below_regrown wr dq osq;generalize grow (redrawn wr dq) osq = w4 at *;have O5 := xH (O4.out.step hb);clear hb k0 k1 k2 k3 k4 c0 c1 c2 c3 cA O4 F4 cs1 cn1;go_wp2_with fail
      as_aux_lemma =>
       have hwr : IntKind.i64.wrap ((f : Int) + 2 + (s.length : Int)) = ((f + 2 + s.length : Nat) : Int) := by rw [IntKind.wrap_i64]; omega
       refine wp_region_held_drew (S := fun w' => OpAt w B S p a1 (a1 + 1) w') (by kernel_rfl) (O5.out.step (show Below w4.heap.size w4 w4.drew from ⟨rfl, rfl, rfl, xL _, fun _ _ => rfl⟩)) (fun hHeld => ?_);refine yT 0 ?_;simp only [xS];refine yT 1 ?_;simp only [xS];refine yT 2 ?_;simp only [xS];refine xT 3 rfl ?_ ?_ ?_;rotate_left
       ·intro w' hSw;exact z61
       simp only [xS];refine yT 4 ?_;simp only [xS];refine yT 5 ?_;simp only [xS];refine yT 6 ?_;simp only [xS];refine yT 7 ?_;simp only [xS];refine yT 8 ?_;simp only [xS];refine yT 9 ?_;simp only [xS];refine xT 10 rfl ?_ ?_ ?_;rotate_left
       ·intro w' hSw;exact z61
       simp only [xS];refine yT 11 ?_;simp only [xS];refine yT 12 ?_;simp only [xS];refine xD 13 rfl (fun K hK => ?_);go_simp;refine (qF (.slice none 0 0) { kind := 10, n := n } f (f + 2 + s.length) _ (k := B) (qm _ _)).mono ?_;rintro e w6 ⟨rfl, ho, hb⟩;refine hK.out _ _ (hHeld.step hb) (fun hHeld => ?_);clear hK K;try simp only [xS]
       have HG6 := xH hHeld;have HO := xH ho;clear ho hb;obtain ⟨old, hg, hz⟩ := HG6.out.fg.g;have HG := xH hg;clear hg;refine xD 14 rfl (fun K hK => ?_);refine held_store_got rfl rfl _ _ rfl (B + 1) rfl old (gtC (.slice none 0 0) (gtok { kind := 10, n := n } f (f + 2 + s.length))) HG.out hz (jw _ _) (jO HO.out _) rfl ?_;refine hK.out _ _ (HG6.out.set _ (jw _ _)) (fun hHeld => ?_);clear hK K;refine wpAnyH_done (by kernel_rfl) ?_ _;go_wp2_with fail
       refine xB (qW rfl _ _ (B + 1) _ rfl (setRow_heap _ _ _ _ _ _ HG.out) (jw _ _)) rfl ?_;exact qj HG6.out.fg HR.out HO.out (xL _)
    ·obtain rfl : k = 7 := by omega
     have hkn : kindR p f (f + 2) kindsT = none := hki.out.symm.trans rfl;have HO2 := xH (HO.out.trans (show _ = openK p f (f + 2) by simp only [hkn]));clear hkn HO hki hk7;have hbw := qK wr tkw.ob02;have hgn := heap_alloc_new wr (.cells #[.int .i64 10, .int .i64 0, .int .i64 0, .int .i64 0, .slice none 0 0, .bool false, .int .i64 1, .int .i64 0, .int .i64 0, .string ⟨#[]⟩, .int .i64 0, .int .i64 0] 90);have d0 := qf hbw c0;have d1 := qf hbw c1;have d2 := qf hbw c2;have d3 := qf hbw c3;go_wp2_with fail
     generalize wr.alloc (.cells #[.int .i64 10, .int .i64 0, .int .i64 0, .int .i64 0, .slice none 0 0, .bool false, .int .i64 1, .int .i64 0, .int .i64 0, .string ⟨#[]⟩, .int .i64 0, .int .i64 0] 90) = w5 at *;obtain ⟨C, hC⟩ : ∃ C, wr.heap.size = C := ⟨_, rfl⟩;rw [hC] at hgn ⊢;have HC5 : Hid (w5.heap[C]? = some (.cells (tkR (.slice none 0 0) { kind := 10, n := 1 }) 90 (0, 0))) := xH hgn;have F5 := xH (F4.out.step hbw);clear hbw hgn hC c0 c1 c2 c3 d0 d1 d2 d3 F4 O4;obtain ⟨c0, c1, c2, c3⟩ := F5.out.c;refine xM (qG S p _ HP.out (f + 2) (by omega) [35] ⟨#[35]⟩ rfl (by decide) (Or.inl (by rw [HN.out]; omega))) ?_;rintro e w6 ⟨rfl, hb⟩;have F6 := xH (F5.out.step hb);have HC6 := xH (qQ HC5.out hb);clear hb c0 c1 c2 c3;obtain ⟨c0, c1, c2, c3⟩ := F6.out.c;cases h35 : p.has [35] (f + 2) with
     | true =>
      as_aux_lemma =>
       have hin := qR HP.out h35;rw [HN.out] at hin;simp only [dA, Nat.zero_add] at hin;have HK0 := xH (HO2.out.trans (show openK p f (f + 2) = (match p.until 41 (f + 2) with | none => Except.error (20, (p.n : Int)) | some j => .ok (none, j + 1)) by unfold openK; rw [if_pos h35]; rfl));clear HO2;go_wp2_with fail
       go_loopw [5] (fun vi wr => VbRel w B S p (f + 2) vi wr) (fun vi _ => S.size - (intOf vi).toNat)
       case atStart => exact ⟨0, by omega, xH (fun j h => absurd h (Nat.not_lt_zero j)), by simp, F6.out⟩
       case round =>
        obtain ⟨l, hl, hd, rfl, hF⟩ := hrel;have F7 := xH hF;clear hF F6 c0 c1 c2 c3;obtain ⟨c0, c1, c2, c3⟩ := F7.out.c;have hgb := gb HP.out;by_cases hlt : f + 2 + l < S.size
        ·obtain ⟨b0, b1⟩ := jS HP.out (f + 2 + l);by_cases hc : p.g (f + 2 + l) = 41
         ·have bc : (p.g (f + 2 + l) != 41) = false := by simp [hc]
          have HR := xH (HK0.out.trans (show _ = Except.ok (none, f + 2 + l + 1) by unfold Pt.until; rw [find_at2 (l := l) (by rw [HN.out]; omega) hd.out hc]));have hne : (((f + 2 + l : Nat) : Int) == (S.size : Int)) = false := by simp; omega
          have hne2 : ¬ ((f + 2 + l : Nat) : Int) = (S.size : Int) := by omega
          clear hc;obtain ⟨old, HG, hz⟩ := xG F7;go_wp2_with (refine qJ rfl rfl _ _ rfl (B + 1) rfl _ (gtC (.slice none 0 0) (.ok (none, f + 2 + l + 1))) HG.out hz (jw _ _) (jO (qm w 0) _) rfl ?_)
          refine xB (qW rfl _ _ (B + 1) _ rfl (setRow_heap _ _ _ _ _ _ HG.out) (jw _ _)) rfl ?_;exact qj F7.out HR.out (qm _ _) (xL _)
         ·have bc : (p.g (f + 2 + l) != 41) = true := by simp [hc]
          go_wp2_with fail
          exact ⟨⟨l + 1, by omega, xH (fun j hj => by
           by_cases e : j = l
           ·subst e; exact hc
           ·exact hd.out j (by omega)), rfl, F7.out⟩, by simp [intOf]; omega⟩
        ·have HR := xH (HK0.out.trans (show _ = Except.error (20, (p.n : Int)) by unfold Pt.until; rw [find_no2 (fun j hj => hd.out j (by rw [HN.out] at hj; omega))]));have hlti : ¬ ((f + 2 + l : Nat) : Int) < (S.size : Int) := by omega
         have heq : ((f + 2 + l : Nat) : Int) = (S.size : Int) := by omega
         go_wp2_with fail
         refine xM (end_any S p _ HP.out) ?_;exact z130
     | false =>
      go_wp2_with fail
      refine xM (qG S p _ HP.out (f + 2) (by omega) [80, 60] ⟨#[80, 60]⟩ rfl (by decide) (Or.inl (by rw [HN.out]; omega))) ?_;rintro e w7 ⟨rfl, hb⟩;have F7 := xH (F6.out.step hb);have HC7 := xH (qQ HC6.out hb);clear hb c0 c1 c2 c3;obtain ⟨c0, c1, c2, c3⟩ := F7.out.c;cases hPl : p.has [80, 60] (f + 2) with
      | true =>
       as_aux_lemma =>
        have hin := qR HP.out hPl;rw [HN.out] at hin;simp only [dB, dA, Nat.zero_add] at hin;have HR := xH (HO2.out.trans (show openK p f (f + 2) = callR p { kind := 10, n := 1 } f (f + 2 + 2) [62] by unfold openK; rw [if_neg (by simp [h35]), if_pos hPl]));go_wp2_with (refine tkw.qX rfl _ rfl C rfl _ HC7.out rfl ?_)
        refine xM (called_any S p _ HP.out { kind := 10, n := 1 } rfl f (f + 2 + 2) (by rw [HN.out]; omega) [62] ⟨#[62]⟩ rfl (by decide)) ?_;exact z130
      | false =>
       go_wp2_with fail
       refine xM (qG S p _ HP.out (f + 2) (by omega) [60] ⟨#[60]⟩ rfl (by decide) (Or.inl (by rw [HN.out]; omega))) ?_;rintro e w8 ⟨rfl, hb⟩;have F8 := xH (F7.out.step hb);have HC8 := xH (qQ HC7.out hb);clear hb c0 c1 c2 c3;obtain ⟨c0, c1, c2, c3⟩ := F8.out.c;cases h60 : p.has [60] (f + 2) with
       | true =>
        as_aux_lemma =>
         have hin := qR HP.out h60;rw [HN.out] at hin;simp only [dA, Nat.zero_add] at hin;have HR := xH (HO2.out.trans (show openK p f (f + 2) = callR p { kind := 10, n := 1 } f (f + 2 + 1) [62] by unfold openK; rw [if_neg (by simp [h35]), if_neg (by simp [hPl]), if_pos h60]));go_wp2_with (refine tkw.qX rfl _ rfl C rfl _ HC8.out rfl ?_)
         refine xM (called_any S p _ HP.out { kind := 10, n := 1 } rfl f (f + 2 + 1) (by rw [HN.out]; omega) [62] ⟨#[62]⟩ rfl (by decide)) ?_;exact z186
       | false =>
        go_wp2_with fail
        refine xM (qG S p _ HP.out (f + 2) (by omega) [39] ⟨#[39]⟩ rfl (by decide) (Or.inl (by rw [HN.out]; omega))) ?_;rintro e w9 ⟨rfl, hb⟩;have F9 := xH (F8.out.step hb);have HC9 := xH (qQ HC8.out hb);clear hb c0 c1 c2 c3;obtain ⟨c0, c1, c2, c3⟩ := F9.out.c;cases h39 : p.has [39] (f + 2) with
        | true =>
         as_aux_lemma =>
          have hin := qR HP.out h39;rw [HN.out] at hin;simp only [dA, Nat.zero_add] at hin;have HR := xH (HO2.out.trans (show openK p f (f + 2) = callR p { kind := 10, n := 1 } f (f + 2 + 1) [39] by unfold openK; rw [if_neg (by simp [h35]), if_neg (by simp [hPl]), if_neg (by simp [h60]), if_pos h39]));go_wp2_with (refine tkw.qX rfl _ rfl C rfl _ HC9.out rfl ?_)
          refine xM (called_any S p _ HP.out { kind := 10, n := 1 } rfl f (f + 2 + 1) (by rw [HN.out]; omega) [39] ⟨#[39]⟩ rfl (by decide)) ?_;exact z176
        | false =>
         go_wp2_with fail
         refine xM (qG S p _ HP.out (f + 2) (by omega) [80, 61] ⟨#[80, 61]⟩ rfl (by decide) (Or.inl (by rw [HN.out]; omega))) ?_;rintro e w10 ⟨rfl, hb⟩;have F10 := xH (F9.out.step hb);have HC10 := xH (qQ HC9.out hb);clear hb c0 c1 c2 c3;obtain ⟨c0, c1, c2, c3⟩ := F10.out.c;cases hPe : p.has [80, 61] (f + 2) with
         | true =>
          as_aux_lemma =>
           have hin := qR HP.out hPe;rw [HN.out] at hin;simp only [dB, dA, Nat.zero_add] at hin;have HR := xH (HO2.out.trans (show openK p f (f + 2) = callR p { kind := 11, m := 3 } f (f + 2 + 2) [41] by unfold openK; rw [if_neg (by simp [h35]), if_neg (by simp [hPl]), if_neg (by simp [h60]), if_neg (by simp [h39]), if_pos hPe]));go_wp2_with fail
           refine xM (called_any S p _ HP.out { kind := 11, m := 3 } rfl f (f + 2 + 2) (by rw [HN.out]; omega) [41] ⟨#[41]⟩ rfl (by decide)) ?_;exact z121
         | false =>
          go_wp2_with fail
          refine xM (qG S p _ HP.out (f + 2) (by omega) [80, 62] ⟨#[80, 62]⟩ rfl (by decide) (Or.inl (by rw [HN.out]; omega))) ?_;rintro e w11 ⟨rfl, hb⟩;have F11 := xH (F10.out.step hb);have HC11 := xH (qQ HC10.out hb);clear hb c0 c1 c2 c3;obtain ⟨c0, c1, c2, c3⟩ := F11.out.c;cases hPg : p.has [80, 62] (f + 2) with
          | true =>
           as_aux_lemma =>
            have hin := qR HP.out hPg;rw [HN.out] at hin;simp only [dB, dA, Nat.zero_add] at hin;have HR := xH (HO2.out.trans (show openK p f (f + 2) = callR p { kind := 12, m := 3 } f (f + 2 + 2) [41] by unfold openK; rw [if_neg (by simp [h35]), if_neg (by simp [hPl]), if_neg (by simp [h60]), if_neg (by simp [h39]), if_neg (by simp [hPe]), if_pos hPg]));go_wp2_with fail
            refine xM (called_any S p _ HP.out { kind := 12, m := 3 } rfl f (f + 2 + 2) (by rw [HN.out]; omega) [41] ⟨#[41]⟩ rfl (by decide)) ?_;exact z122
          | false =>
           go_wp2_with fail
           refine xM (qG S p _ HP.out (f + 2) (by omega) [38] ⟨#[38]⟩ rfl (by decide) (Or.inl (by rw [HN.out]; omega))) ?_;rintro e w12 ⟨rfl, hb⟩;have F12 := xH (F11.out.step hb);have HC12 := xH (qQ HC11.out hb);clear hb c0 c1 c2 c3;obtain ⟨c0, c1, c2, c3⟩ := F12.out.c;cases h38 : p.has [38] (f + 2) with
           | true =>
            as_aux_lemma =>
             have hin := qR HP.out h38;rw [HN.out] at hin;simp only [dA, Nat.zero_add] at hin;have HR := xH (HO2.out.trans (show openK p f (f + 2) = callR p { kind := 12, m := 3 } f (f + 2 + 1) [41] by unfold openK; rw [if_neg (by simp [h35]), if_neg (by simp [hPl]), if_neg (by simp [h60]), if_neg (by simp [h39]), if_neg (by simp [hPe]), if_neg (by simp [hPg]), if_pos h38]));go_wp2_with fail
             refine xM (called_any S p _ HP.out { kind := 12, m := 3 } rfl f (f + 2 + 1) (by rw [HN.out]; omega) [41] ⟨#[41]⟩ rfl (by decide)) ?_;exact z123
           | false =>
            go_wp2_with fail
            refine xM (qG S p _ HP.out (f + 2) (by omega) [82] ⟨#[82]⟩ rfl (by decide) (Or.inl (by rw [HN.out]; omega))) ?_;rintro e w13 ⟨rfl, hb⟩;have F13 := xH (F12.out.step hb);have HC13 := xH (qQ HC12.out hb);clear hb c0 c1 c2 c3;obtain ⟨c0, c1, c2, c3⟩ := F13.out.c;cases hR : p.has [82] (f + 2) with
            | true =>
             as_aux_lemma =>
              have hin := qR HP.out hR;rw [HN.out] at hin;simp only [dA, Nat.zero_add] at hin;have HR := xH (HO2.out.trans (show openK p f (f + 2) = shutR p { kind := 12 } f (f + 2 + 1) [41] 26 by unfold openK; rw [if_neg (by simp [h35]), if_neg (by simp [hPl]), if_neg (by simp [h60]), if_neg (by simp [h39]), if_neg (by simp [hPe]), if_neg (by simp [hPg]), if_neg (by simp [h38]), if_pos hR]));go_wp2_with fail
              refine xM (shut_any S p _ HP.out { kind := 12 } rfl f (f + 2 + 1) (by rw [HN.out]; omega) [41] ⟨#[41]⟩ rfl (by decide) 26) ?_;intro e w14 h;obtain ⟨v, rfl, HO, F14, old, HG, hz⟩ := yJ F13 h;clear h c0 c1 c2 c3;go_wp2_with (refine yR HG hz HO ?_)
              exact yW HG F14 HR HO
            | false =>
             go_wp2_with fail
             refine xM (qG S p _ HP.out (f + 2) (by omega) [67] ⟨#[67]⟩ rfl (by decide) (Or.inl (by rw [HN.out]; omega))) ?_;rintro e w14 ⟨rfl, hb⟩;have F14 := xH (F13.out.step hb);have HC14 := xH (qQ HC13.out hb);clear hb c0 c1 c2 c3;obtain ⟨c0, c1, c2, c3⟩ := F14.out.c;cases hC : p.has [67] (f + 2) with
             | true =>
              as_aux_lemma =>
               have hin := qR HP.out hC;rw [HN.out] at hin;simp only [dA, Nat.zero_add] at hin;have HR0 := xH (HO2.out.trans (show openK p f (f + 2) = (if (num p (f + 2 + 1)).2.2 = true then Except.error (25, (f : Int)) else shutR p { kind := 14, n := (num p (f + 2 + 1)).1 } f (num p (f + 2 + 1)).2.1 [41] 26) by unfold openK; rw [if_neg (by simp [h35]), if_neg (by simp [hPl]), if_neg (by simp [h60]), if_neg (by simp [h39]), if_neg (by simp [hPe]), if_neg (by simp [hPg]), if_neg (by simp [h38]), if_neg (by simp [hR]), if_pos hC]));go_wp2_with fail
               refine xM (vY S p _ HP.out (f + 2 + 1) (by rw [HN.out]; omega)) ?_;rintro e w15 ⟨rfl, hb⟩;have F15 := xH (F14.out.step hb);clear hb c0 c1 c2 c3;obtain ⟨c0, c1, c2, c3⟩ := F15.out.c;obtain ⟨m1, m2⟩ := num_bd (p := p) (a := f + 2 + 1) (by rw [HN.out]; omega);generalize num p (f + 2 + 1) = q at *;obtain ⟨n, b, gr⟩ := q;simp only at m1 m2 HR0;cases gr with
               | true =>
                have HR := xH (HR0.out.trans (if_pos rfl));go_wp2_with fail
                refine xM (qw _ _ _) ?_;exact z124
               | false =>
                have HR := xH (HR0.out.trans (if_neg (by simp)));go_wp2_with fail
                refine xM (shut_any S p _ HP.out { kind := 14, n := n } rfl f b m2 [41] ⟨#[41]⟩ rfl (by decide) 26) ?_;exact z124
             | false =>
              go_wp2_with fail
              refine xM (qG S p _ HP.out (f + 2) (by omega) [40] ⟨#[40]⟩ rfl (by decide) (Or.inl (by rw [HN.out]; omega))) ?_;rintro e w15 ⟨rfl, hb⟩;have F15 := xH (F14.out.step hb);have HC15 := xH (qQ HC14.out hb);clear hb c0 c1 c2 c3;obtain ⟨c0, c1, c2, c3⟩ := F15.out.c;cases h40 : p.has [40] (f + 2) with
              | true =>
               as_aux_lemma =>
                have hin := qR HP.out h40;rw [HN.out] at hin;simp only [dA, Nat.zero_add] at hin;have HR := xH (HO2.out.trans (show openK p f (f + 2) = condR p f (f + 2 + 1) by unfold openK; rw [if_neg (by simp [h35]), if_neg (by simp [hPl]), if_neg (by simp [h60]), if_neg (by simp [h39]), if_neg (by simp [hPe]), if_neg (by simp [hPg]), if_neg (by simp [h38]), if_neg (by simp [hR]), if_neg (by simp [hC]), if_pos h40]));go_wp2_with fail
                refine xM (condition_any S p _ HP.out f (f + 2 + 1) (by rw [HN.out]; omega) (by rw [HN.out]; omega)) ?_;exact z124
              | false =>
               have HO3 := xH (HO2.out.trans (show openK p f (f + 2) = (if numB p (f + 2) = true then numR p f (f + 2) else flagR p f (p.n + 1 - (f + 2)) (f + 2) false 0 0) by unfold openK; rw [if_neg (by simp [h35]), if_neg (by simp [hPl]), if_neg (by simp [h60]), if_neg (by simp [h39]), if_neg (by simp [hPe]), if_neg (by simp [hPg]), if_neg (by simp [h38]), if_neg (by simp [hR]), if_neg (by simp [hC]), if_neg (by simp [h40])]));clear HO2;have hgb := gb HP.out;obtain ⟨pb0, pb1⟩ := jS HP.out (f + 2);by_cases h43 : p.g (f + 2) = 43
               ·have HB : numB p (f + 2) = true := by unfold numB; simp [h43]
                have b43 : (p.g (f + 2) == 43) = true := by simp [h43]
                clear h43;exact z2
               have b43 : (p.g (f + 2) == 43) = false := by simp [h43]
               go_wp2_with fail
               refine (digit_any (p.g (f + 2)) _ pb0 pb1).mono ?_;rintro e wl ⟨rfl, rfl⟩;cases hd : isDig (p.g (f + 2)) with
               | true =>
                have HB : numB p (f + 2) = true := by unfold numB; simp [hd]
                exact z2
               | false =>
                by_cases h45 : p.g (f + 2) = 45;case neg =>
                 have HB : numB p (f + 2) = false := by unfold numB; simp [h43, hd, h45]
                 have b45 : (p.g (f + 2) == 45) = false := by simp [h45]
                 exact z31
                have b45 : (p.g (f + 2) == 45) = true := by simp [h45]
                by_cases hl : f + 2 + 1 < S.size;case neg =>
                 have HB : numB p (f + 2) = false := by unfold numB; rw [HN.out]; simp [h43, hd, hl]
                 have hli : ¬ (f : Int) + 2 + 1 < (S.size : Int) := by omega
                 exact z31
                have hli : (f : Int) + 2 + 1 < (S.size : Int) := by omega
                obtain ⟨qb0, qb1⟩ := jS HP.out (f + 2 + 1);go_wp2_with fail
                refine (digit_any (p.g (f + 2 + 1)) _ qb0 qb1).mono ?_;rintro e wl ⟨rfl, rfl⟩;cases hd2 : isDig (p.g (f + 2 + 1)) with
                | true =>
                 have HB : numB p (f + 2) = true := by unfold numB; rw [HN.out]; simp [h45, hl, hd2]
                 clear h43 h45
                 as_aux_lemma =>
                  have HK0 := xH (HO3.out.trans (if_pos HB));have HNR := xH (show ∀ x, sgn p (f + 2) = x → numR p f (f + 2) = (if x.2.2.2 = true then Except.error (25, (f : Int)) else if x.2.2.1 = f + 2 then (if f + 2 + 1 = p.n then Except.error (20, (p.n : Int)) else Except.error (26, (f : Int))) else match shutR p { kind := 12, n := x.1, m := x.2.1 } f x.2.2.1 [41] 26 with | .error e => Except.error e | .ok r => if x.1 = 0 ∧ x.2.1 ≠ 0 then Except.error (25, (f : Int)) else .ok r) from fun x hx => by subst hx; rfl);go_wp2_with fail
                  refine xM (zQ S p _ HP.out (f + 2) (by rw [HN.out]; omega)) ?_;rintro e w16 ⟨rfl, hb⟩;have F16 := xH (F15.out.step hb);clear hb c0 c1 c2 c3;obtain ⟨c0, c1, c2, c3⟩ := F16.out.c;obtain ⟨m1, m2⟩ := sgn_bd HP.out (a := f + 2) (by rw [HN.out]; omega);obtain ⟨q, hq⟩ : ∃ q, sgn p (f + 2) = q := ⟨_, rfl⟩;have HR0 := xH (HK0.out.trans (HNR.out q hq));rw [hq] at m1 m2 ⊢;clear hq HNR HK0;obtain ⟨n, m, b, gr⟩ := q;simp only at m1 m2 HR0;cases gr with
                  | true =>
                   have HR := xH (HR0.out.trans (if_pos rfl));exact z80
                  | false =>
                   have HR1 := xH (HR0.out.trans (if_neg (by simp)));clear HR0;by_cases hb0 : b = f + 2
                   ·subst hb0;have HR2 := xH (HR1.out.trans (if_pos rfl));have hbe : (((f + 2 : Nat) : Int) == (f : Int) + 2) = true := by simp
                    have hbe2 : ((f + 2 : Nat) : Int) = (f : Int) + 2 := by omega
                    by_cases hz : f + 2 + 1 = S.size
                    ·have HR := xH (HR2.out.trans (if_pos (by rw [HN.out]; exact hz)));have hzi : (f : Int) + 2 + 1 = (S.size : Int) := by omega
                     exact absurd hz (by omega)
                    ·have HR := xH (HR2.out.trans (if_neg (by rw [HN.out]; exact hz)));have hzi : ¬ (f : Int) + 2 + 1 = (S.size : Int) := by omega
                     exact z80
                   have hbi : ¬ (b : Int) = (f : Int) + 2 := by omega
                   have HR2 := xH (HR1.out.trans (if_neg hb0));clear HR1;go_wp2_with fail
                   have HS := shut_any S p w16 HP.out { kind := 12, n := n, m := m } rfl f b m2 [41] ⟨#[41]⟩ rfl (by decide) 26;by_cases h41 : p.has [41] b = true
                   ·have hs : shutR p { kind := 12, n := n, m := m } f b [41] 26 = gtok { kind := 12, n := n, m := m } f (b + 1) := by unfold shutR; rw [if_pos h41]; rfl
                    rw [hs] at HS;have HR3 := xH (HR2.out.trans (show _ = (if n = 0 ∧ m ≠ 0 then Except.error (25, (f : Int)) else gtok { kind := 12, n := n, m := m } f (b + 1)) by rw [hs]; rfl));clear HR2 hs;refine xM HS ?_;rintro e w17 ⟨v, rfl, ho, hb⟩;have F17 := xH (F16.out.step hb);have HO17 := xO F16.out.x ho;obtain ⟨x1, x2, rfl⟩ := qN ho;have hbw := qK w17 (.cells (gtC (.slice x1 (gtS (gtok { kind := 12, n := n, m := m } f (b + 1))).length x2) (gtok { kind := 12, n := n, m := m } f (b + 1))) 92);have hgn := heap_alloc_new w17 (.cells (gtC (.slice x1 (gtS (gtok { kind := 12, n := n, m := m } f (b + 1))).length x2) (gtok { kind := 12, n := n, m := m } f (b + 1))) 92);have F18 := xH (F17.out.step hbw);have HO18 := xH (jG HO17.out hbw);have ce : (w17.alloc (.cells (gtC (.slice x1 (gtS (gtok { kind := 12, n := n, m := m } f (b + 1))).length x2) (gtok { kind := 12, n := n, m := m } f (b + 1))) 92)).cell? ⟨w17.heap.size, 14, none⟩ = some (.int .i64 0) := by unfold World.cell?; rw [hgn]; rfl
                    have HGN := xH hgn;clear hb ho c0 c1 c2 c3 HS hgn hbw;obtain ⟨c0, c1, c2, c3⟩ := F18.out.c;simp only [gtC, gtS, gtok, lay] at ce c0 c1 c2 c3 F18 HO18 HGN ⊢;by_cases hn0 : n = 0
                    ·by_cases hm0 : m = 0
                     ·have HR := xH (HR3.out.trans (if_neg (fun h => h.2 hm0)));have bn : (n == 0) = true := by simp [hn0]
                      have bm : (m != 0) = false := by simp [hm0]
                      clear hn0 hm0;exact z29
                     ·have HR := xH (HR3.out.trans (if_pos ⟨hn0, hm0⟩));exact z155
                    ·have HR := xH (HR3.out.trans (if_neg (fun h => hn0 h.1)));have bn : (n == 0) = false := by simp [hn0]
                     clear hn0;exact z29
                   exact z147
                | false =>
                 have HB : numB p (f + 2) = false := by unfold numB; simp [h43, hd, hd2]
                 exact z31
end rtw
end
end Go.Proofs.Ytdgfclbajjjcgaa
