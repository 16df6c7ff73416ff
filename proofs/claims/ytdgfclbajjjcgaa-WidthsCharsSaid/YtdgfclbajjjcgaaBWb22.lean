/- T -/
import Derived.BigQuiet
import Derived.Deep.Onto
import Derived.IntWalk
import Derived.Laws.BitsLemmas
import Derived.Lib.QuietBelow
import Derived.Test.YtdgfclbajjjcgaaBWb21
set_option maxHeartbeats 16000000
set_option maxRecDepth 1000000
namespace Go.Proofs.Ytdgfclbajjjcgaa
section
namespace rtw
open sq
open Go Go.RowKit Go.Maps utfp utfw ucdp setp setw prp tkp rtp
open tkw (sg sg_bd vJ jM qK tkR qO qM vI)
open Go.Sort
def SkRel (w : World) (B : Nat) (S : ByteArray) (p : Pt) (z : Nat) (vi : Value) (wr : World) : Prop :=
 ∃ a m : Nat, z ≤ a ∧ a ≤ S.size ∧ S.size ≤ a + m ∧ vi = .int .i64 a ∧ Hid (skipC p m a = skipC p p.n z) ∧ Hid (FG w B S p wr)
theorem skip_end {p : Pt} {m a : Nat} (h : p.n ≤ a + m) (h2 : ¬ (a < p.n ∧ p.g (a - 1) ≠ 10)) : skipC p m a = a := by
 cases m with
 | zero => rfl
 | succ m => rw [skipC, if_neg h2]
theorem skip_go {p : Pt} {m a : Nat} (h : p.n ≤ a + m) (h1 : a < p.n) (h2 : p.g (a - 1) ≠ 10) : ∃ m', skipC p m a = skipC p m' (a + 1) ∧ p.n ≤ a + 1 + m' := by
 cases m with
 | zero => omega
 | succ m => exact ⟨m, by rw [skipC, if_pos ⟨h1, h2⟩], by omega⟩
theorem dig_ge {S : ByteArray} {p : Pt} (_ : Pat S p) {a : Nat} (_ : a ≤ p.n) : 0 ≤ (p.digits a).1 := by exact z101
theorem num_val {S : ByteArray} {p : Pt} (h : Pat S p) {a : Nat} (ha : a ≤ p.n) : 0 ≤ (num p a).1 ∧ (num p a).1 ≤ 1000 := by have h2 := h.n;have h3 := h.le;have d1 := dig_ge (S := S) h ha;unfold num;split <;> constructor <;> simp only <;> omega
theorem token_any (S : ByteArray) (p : Pt) (w : World) (hP : Pat S p) (i : Nat) (hi : i < p.n) : Calls Try.prog 49 #[txV S p, .int .i64 i] w (GotB w (tokR p i)) := by
 have hn := hP.n;have h2 := hP.le;have HP := xH hP;have HN := xH hn;clear hP;rw [hn] at hi;clear hn;unfold txV txC;go_enter Try.func49, Try.ntmps49;go_upto_region 1 with (fail)
 generalize hW : (w.alloc _).alloc _ = W;have F0 := xH (fg_start (S := S) (p := p) hW);obtain ⟨B, hB⟩ : ∃ B, w.heap.size = B := ⟨_, rfl⟩;rw [hB] at F0 ⊢;clear hW hB;obtain ⟨c0, c1, c2, c3⟩ := F0.out.c;generalize hV0 : Value.agg #[Value.string S, Value.bool p.u, Value.bool p.x, Value.int IntKind.i64 p.most] = V0;clear hV0;go_wp2_with fail
 refine xM (char_any S p _ HP.out i (by rw [HN.out]; exact hi)) ?_;rintro e w1 ⟨rfl, hb⟩;have F1 := xH (F0.out.step hb);clear hb c0 c1 c2 c3;obtain ⟨c0, c1, c2, c3⟩ := F1.out.c;obtain ⟨z1, z2⟩ := zM HP.out (a := i) (by rw [HN.out]; exact hi);obtain ⟨y1, y2⟩ := char_val HP.out (a := i) (by rw [HN.out]; exact hi);rw [HN.out] at z2;have HE0 := xH (show ∀ c z, p.char i = (c, z) → tokR p i = (if p.x = true ∧ (9 ≤ c ∧ c ≤ 13 ∨ c = 32) then Except.ok (none, z) else if p.x = true ∧ c = 35 then .ok (none, skipC p p.n z) else if c = 92 then escR p i else if c = 91 then clsR p i else if c = 40 then openR p i else if c = 46 then gtok { kind := 3 } i z else if c = 94 then gtok { kind := 4, n := 1 } i z else if c = 36 then gtok { kind := 4, n := 2 } i z else if c = 124 then gtok { kind := 7 } i z else if c = 41 then gtok { kind := 8 } i z else if c = 42 then quan p i z 0 (-1) else if c = 43 then quan p i z 1 (-1) else if c = 63 then quan p i z 0 1 else if c = 123 then (match bracR p i with | none => gtok { kind := 1, c := c } i z | some (n, m, b, great) => if great = true then Except.error (25, (i : Int)) else if 0 ≤ m ∧ m < n then Except.error (23, (i : Int)) else quan p i (b + 1) n m) else gtok { kind := 1, c := c } i z) from fun c z h => by rw [tokR_eq, h]; rfl);obtain ⟨q, hq⟩ : ∃ q, p.char i = q := ⟨_, rfl⟩;rw [hq] at z1 z2 y1 y2 ⊢;obtain ⟨c, z⟩ := q;have HE1 := xH (HE0.out c z hq);simp only at z1 z2 y1 y2;clear hq HE0;go_upto_if 22 with (fail)
 go_cut [6] (fun v6 wx => v6 = .int .i64 (z : Int) ∧ Hid (FG w B S p wx) ∧ Hid (tokR p i = if c = 92 then escR p i else if c = 91 then clsR p i else if c = 40 then openR p i else if c = 46 then gtok { kind := 3 } i z else if c = 94 then gtok { kind := 4, n := 1 } i z else if c = 36 then gtok { kind := 4, n := 2 } i z else if c = 124 then gtok { kind := 7 } i z else if c = 41 then gtok { kind := 8 } i z else if c = 42 then quan p i z 0 (-1) else if c = 43 then quan p i z 1 (-1) else if c = 63 then quan p i z 0 1 else if c = 123 then (match bracR p i with | none => gtok { kind := 1, c := c } i z | some (n, m, b, great) => if great = true then Except.error (25, (i : Int)) else if 0 ≤ m ∧ m < n then Except.error (23, (i : Int)) else quan p i (b + 1) n m) else gtok { kind := 1, c := c } i z))
 case first =>
  cases hx : p.x with
  | true =>
   by_cases hs : 9 ≤ c ∧ c ≤ 13 ∨ c = 32
   ·have HR := xH (HE1.out.trans (if_pos ⟨hx, hs⟩));have hs2 : (9 ≤ c ∧ c ≤ 13) ∨ (c = 32 ∧ 9 ≤ c ∧ ¬ c ≤ 13) := by omega
    clear hs;rcases hs2 with ⟨s1, s2⟩ | ⟨rfl, s1, s2⟩
    ·obtain ⟨old, hg, hz⟩ := F1.out.g;exact z41
    ·obtain ⟨old, hg, hz⟩ := F1.out.g;exact z41
   have HE2 := xH (HE1.out.trans (if_neg (fun h => hs h.2)));by_cases h35 : c = 35
   ·subst h35;have HR0 := xH (HE2.out.trans (if_pos ⟨hx, rfl⟩));clear HE1 HE2 hs;go_wp2_with fail
    go_loopw [6] (fun vi wr => SkRel w B S p z vi wr) (fun vi _ => S.size - (intOf vi).toNat)
    case atStart => exact ⟨z, S.size, by omega, by omega, by omega, rfl, xH (by rw [HN.out]), F1⟩
    case round =>
     obtain ⟨a, m, ha1, ha2, ha3, rfl, hsk, F2⟩ := hrel;rename_i wr;clear F1 c0 c1 c2 c3;obtain ⟨c0, c1, c2, c3⟩ := F2.out.c;have hgb := gb HP.out;by_cases hlt : a < S.size
     ·have hlti : (a : Int) < (S.size : Int) := by omega
      obtain ⟨a', rfl⟩ : ∃ a', a = a' + 1 := ⟨a - 1, by omega⟩;have hsub : (((a' + 1 : Nat) : Int) - 1) = (a' : Int) := by omega
      obtain ⟨b0, b1⟩ := jS HP.out a';by_cases h10 : p.g a' = 10
      ·have b10 : (p.g a' != 10) = false := by simp [h10]
       have HR := xH (HR0.out.trans (show _ = Except.ok (none, a' + 1) by rw [← hsk.out, skip_end (by rw [HN.out]; omega) (fun h => h.2 h10)]));obtain ⟨old, HG, hz⟩ := xG F2;go_wp2_with (refine qJ rfl rfl _ _ rfl (B + 1) rfl _ (gtC (.slice none 0 0) (.ok (none, a' + 1))) HG.out hz (jw _ _) (jO (qm w 0) _) rfl ?_)
       exact z98
      ·have b10 : (p.g a' != 10) = true := by simp [h10]
       obtain ⟨m', hm1, hm2⟩ := skip_go (p := p) (m := m) (a := a' + 1) (by rw [HN.out]; omega) (by rw [HN.out]; exact hlt) h10;rw [HN.out] at hm2;go_wp2_with fail
       exact ⟨⟨a' + 1 + 1, m', by omega, by omega, by omega, rfl, xH (hm1.symm.trans hsk.out), F2⟩, by simp [intOf]; omega⟩
     ·have hlti : ¬ (a : Int) < (S.size : Int) := by omega
      have HR := xH (HR0.out.trans (show _ = Except.ok (none, a) by rw [← hsk.out, skip_end (by rw [HN.out]; omega) (fun h => by rw [HN.out] at h; exact hlt h.1)]));obtain ⟨old, HG, hz⟩ := xG F2;go_wp2_with (refine qJ rfl rfl _ _ rfl (B + 1) rfl _ (gtC (.slice none 0 0) (.ok (none, a))) HG.out hz (jw _ _) (jO (qm w 0) _) rfl ?_)
      exact z98
   have HE := xH (HE2.out.trans (if_neg (fun h => h35 h.2)));have b35 : (c == 35) = false := by simp [h35]
   have hs2 : (¬ 9 ≤ c ∧ (c == 32) = false) ∨ (9 ≤ c ∧ ¬ c ≤ 13 ∧ (c == 32) = false) := by
    have : ¬ c = 32 := fun h => hs (Or.inr h)
    have : (c == 32) = false := by simpa using this
    by_cases h9 : 9 ≤ c
    ·exact Or.inr ⟨h9, fun h13 => hs (Or.inl ⟨h9, h13⟩), this⟩
    ·exact Or.inl ⟨h9, this⟩
   clear HE1 HE2 hs h35;rcases hs2 with ⟨s1, s2⟩ | ⟨s1, s2, s3⟩
   ·go_wp2_with fail
    go_meet
    exact ⟨rfl, F1, HE⟩
   ·go_wp2_with fail
    go_meet
    exact ⟨rfl, F1, HE⟩
  | false =>
   have HE := xH (HE1.out.trans ((if_neg (by simp [hx])).trans (if_neg (by simp [hx]))));go_wp2_with fail
   go_meet
   exact ⟨rfl, F1, HE⟩
 case rest =>
  obtain ⟨rfl, F2, HE⟩ := hcut;clear F1 c0 c1 c2 c3 HE1;have F1 := F2;clear F2;obtain ⟨c0, c1, c2, c3⟩ := F1.out.c;by_cases e92 : c = 92
  ·have HR := xH (HE.out.trans (if_pos e92));clear HE;subst e92;go_wp2_with fail
   refine xM (escape_any S p _ HP.out i (by rw [HN.out]; exact hi)) ?_;exact z129
  have HE := xH (HE.out.trans (if_neg e92));have b92 : (c == 92) = false := by simp [e92]
  clear e92;by_cases e91 : c = 91
  ·have HR := xH (HE.out.trans (if_pos e91));clear HE;subst e91;go_wp2_with fail
   refine xM (class_any S p _ HP.out i (by rw [HN.out]; exact hi)) ?_;exact z129
  have HE := xH (HE.out.trans (if_neg e91));have b91 : (c == 91) = false := by simp [e91]
  clear e91;by_cases e40 : c = 40
  ·have HR := xH (HE.out.trans (if_pos e40));clear HE;subst e40;go_wp2_with fail
   refine xM (open_any S p _ HP.out i (by rw [HN.out]; exact hi)) ?_;exact z129
  have HE := xH (HE.out.trans (if_neg e40));have b40 : (c == 40) = false := by simp [e40]
  clear e40;by_cases e46 : c = 46
  ·have HR := xH (HE.out.trans (if_pos e46));clear HE;subst e46;go_wp2_with fail
   refine xM (qF (.slice none 0 0) ({ kind := 3 }) (i) (z) _ (k := B) (qm _ _)) ?_;exact z69
  have HE := xH (HE.out.trans (if_neg e46));have b46 : (c == 46) = false := by simp [e46]
  clear e46;by_cases e94 : c = 94
  ·have HR := xH (HE.out.trans (if_pos e94));clear HE;subst e94;go_wp2_with fail
   refine xM (qF (.slice none 0 0) ({ kind := 4, n := 1 }) (i) (z) _ (k := B) (qm _ _)) ?_;exact z69
  have HE := xH (HE.out.trans (if_neg e94));have b94 : (c == 94) = false := by simp [e94]
  clear e94;by_cases e36 : c = 36
  ·have HR := xH (HE.out.trans (if_pos e36));clear HE;subst e36;go_wp2_with fail
   refine xM (qF (.slice none 0 0) ({ kind := 4, n := 2 }) (i) (z) _ (k := B) (qm _ _)) ?_;exact z69
  have HE := xH (HE.out.trans (if_neg e36));have b36 : (c == 36) = false := by simp [e36]
  clear e36;by_cases e124 : c = 124
  ·have HR := xH (HE.out.trans (if_pos e124));clear HE;subst e124;go_wp2_with fail
   refine xM (qF (.slice none 0 0) ({ kind := 7 }) (i) (z) _ (k := B) (qm _ _)) ?_;exact z69
  have HE := xH (HE.out.trans (if_neg e124));have b124 : (c == 124) = false := by simp [e124]
  clear e124;by_cases e41 : c = 41
  ·have HR := xH (HE.out.trans (if_pos e41));clear HE;subst e41;go_wp2_with fail
   refine xM (qF (.slice none 0 0) ({ kind := 8 }) (i) (z) _ (k := B) (qm _ _)) ?_;exact z69
  have HE := xH (HE.out.trans (if_neg e41));have b41 : (c == 41) = false := by simp [e41]
  clear e41;by_cases e42 : c = 42
  ·have HR := xH (HE.out.trans (if_pos e42));clear HE;subst e42;go_wp2_with fail
   refine xM (quant_any S p _ HP.out i z 0 (-1) (by rw [HN.out]; exact z2)) ?_;exact z129
  have HE := xH (HE.out.trans (if_neg e42));have b42 : (c == 42) = false := by simp [e42]
  clear e42;by_cases e43 : c = 43
  ·have HR := xH (HE.out.trans (if_pos e43));clear HE;subst e43;go_wp2_with fail
   refine xM (quant_any S p _ HP.out i z 1 (-1) (by rw [HN.out]; exact z2)) ?_;exact z129
  have HE := xH (HE.out.trans (if_neg e43));have b43 : (c == 43) = false := by simp [e43]
  clear e43;by_cases e63 : c = 63
  ·have HR := xH (HE.out.trans (if_pos e63));clear HE;subst e63;go_wp2_with fail
   refine xM (quant_any S p _ HP.out i z 0 1 (by rw [HN.out]; exact z2)) ?_;exact z129
  have HE := xH (HE.out.trans (if_neg e63));have b63 : (c == 63) = false := by simp [e63]
  clear e63;by_cases e123 : c = 123
  ·have HE2 := xH (HE.out.trans (if_pos e123));clear HE;subst e123;clear b92 b91 b40 b46 b94 b36 b124 b41 b42 b43 b63;have HB0 := xH (show ∀ x, num p (i + 1) = x → bracR p i = (if i + 1 < x.2.1 ∧ p.has [44] x.2.1 = true then (if p.has [125] (num p (x.2.1 + 1)).2.1 = true then some (x.1, if (num p (x.2.1 + 1)).2.1 = x.2.1 + 1 then -1 else (num p (x.2.1 + 1)).1, (num p (x.2.1 + 1)).2.1, x.2.2 || (num p (x.2.1 + 1)).2.2) else none) else if x.2.1 = i + 1 ∨ p.has [125] x.2.1 = false then none else some (x.1, x.1, x.2.1, x.2.2)) from fun x hx => by subst hx; rfl);go_wp2_with fail
   refine xM (vY S p _ HP.out (i + 1) (by rw [HN.out]; omega)) ?_;rintro e w2 ⟨rfl, hb⟩;have F2 := xH (F1.out.step hb);clear hb c0 c1 c2 c3;obtain ⟨c0, c1, c2, c3⟩ := F2.out.c;obtain ⟨mn1, mn2⟩ := num_bd (p := p) (a := i + 1) (by rw [HN.out]; omega);rw [HN.out] at mn2;obtain ⟨vn1, vn2⟩ := num_val HP.out (a := i + 1) (by rw [HN.out]; omega);obtain ⟨q, hq⟩ : ∃ q, num p (i + 1) = q := ⟨_, rfl⟩;have HB1 := xH (HB0.out q hq);rw [hq] at mn1 mn2 vn1 vn2 ⊢;clear hq HB0;obtain ⟨n, a, gr⟩ := q;simp only at mn1 mn2 vn1 vn2 HB1;by_cases ha : i + 1 < a;case neg =>
    obtain rfl : a = i + 1 := by omega
    have HR := xH (HE2.out.trans (show _ = gtok { kind := 1, c := 123 } i z by rw [HB1.out, if_neg (fun h => ha h.1), if_pos (Or.inl rfl)]));have hai : ¬ ((i + 1 : Nat) : Int) > (i : Int) + 1 := by omega
    have hae : ((i + 1 : Nat) : Int) = (i : Int) + 1 := by omega
    go_wp2_with fail
    refine xM (qF (.slice none 0 0) ({ kind := 1, c := 123 }) (i) (z) _ (k := B) (qm _ _)) ?_;exact z70
   have hai : (i : Int) + 1 < (a : Int) := by omega
   have hae : ¬ (a : Int) = (i : Int) + 1 := by omega
   go_wp2_with fail
   refine xM (qG S p _ HP.out (a) (by omega) [44] ⟨#[44]⟩ rfl (by decide) (Or.inl (by rw [HN.out]; omega))) ?_;rintro e w3 ⟨rfl, hb⟩;have F3 := xH (F2.out.step hb);clear hb c0 c1 c2 c3;obtain ⟨c0, c1, c2, c3⟩ := F3.out.c;cases h44 : p.has [44] a with
   | false =>
    have HB2 := xH (HB1.out.trans (if_neg (by simp [h44])));clear HB1;go_wp2_with fail
    refine xM (qG S p _ HP.out (a) (by omega) [125] ⟨#[125]⟩ rfl (by decide) (Or.inl (by rw [HN.out]; omega))) ?_;rintro e w4 ⟨rfl, hb⟩;have F4 := xH (F3.out.step hb);clear hb c0 c1 c2 c3;obtain ⟨c0, c1, c2, c3⟩ := F4.out.c;cases h125 : p.has [125] a with
    | false =>
     have HR := xH (HE2.out.trans (show _ = gtok { kind := 1, c := 123 } i z by rw [HB2.out, if_pos (Or.inr h125)]));go_wp2_with fail
     refine xM (qF (.slice none 0 0) ({ kind := 1, c := 123 }) (i) (z) _ (k := B) (qm _ _)) ?_;exact z67
    | true =>
     have HB := xH (HB2.out.trans (if_neg (by simp [h125]; omega)));have hin := qR HP.out h125;rw [HN.out] at hin;simp only [dA, Nat.zero_add] at hin;cases gr with
     | true =>
      have HR := xH (HE2.out.trans (show _ = Except.error (25, (i : Int)) by rw [HB.out]; simp));exact z83
     | false =>
      have HR1 := xH (HE2.out.trans (show _ = (if 0 ≤ (n : Int) ∧ (n : Int) < n then Except.error (23, (i : Int)) else quan p i (a + 1) n (n)) by rw [HB.out]; simp only [Bool.or_false, Bool.false_eq_true, if_false]));have HR := xH (HR1.out.trans (if_neg (fun h => absurd h.2 (Int.lt_irrefl _))));have hm0 : (0 : Int) ≤ n := by omega
      go_wp2_with fail
      refine xM (quant_any S p _ HP.out i (a + 1) n (n) (by rw [HN.out]; omega)) ?_;exact z180
   | true =>
    have HB2 := xH (HB1.out.trans (if_pos ⟨ha, h44⟩));have hin4 := qR HP.out h44;rw [HN.out] at hin4;simp only [dA, Nat.zero_add] at hin4;clear HB1;go_wp2_with fail
    refine xM (vY S p _ HP.out (a + 1) (by rw [HN.out]; omega)) ?_;rintro e w4 ⟨rfl, hb⟩;have F4 := xH (F3.out.step hb);clear hb c0 c1 c2 c3;obtain ⟨c0, c1, c2, c3⟩ := F4.out.c;obtain ⟨mk1, mk2⟩ := num_bd (p := p) (a := a + 1) (by rw [HN.out]; omega);rw [HN.out] at mk2;obtain ⟨vk1, vk2⟩ := num_val HP.out (a := a + 1) (by rw [HN.out]; omega);generalize num p (a + 1) = q at *;obtain ⟨k, b, gs⟩ := q;simp only at mk1 mk2 vk1 vk2 HB2;by_cases hb1 : b = a + 1
    ·subst hb1;have hbi : ((a + 1 : Nat) : Int) = (a : Int) + 1 := by omega
     cases gr with
     | true =>
      go_wp2_with fail
      refine xM (qG S p _ HP.out (a + 1) (by omega) [125] ⟨#[125]⟩ rfl (by decide) (Or.inl (by rw [HN.out]; omega))) ?_;rintro e w5 ⟨rfl, hb⟩;have F5 := xH (F4.out.step hb);clear hb c0 c1 c2 c3;obtain ⟨c0, c1, c2, c3⟩ := F5.out.c;cases h125 : p.has [125] (a + 1) with
      | false =>
       exact z32
      | true =>
       exact z46
     | false =>
      cases gs with
      | true =>
       go_wp2_with fail
       refine xM (qG S p _ HP.out (a + 1) (by omega) [125] ⟨#[125]⟩ rfl (by decide) (Or.inl (by rw [HN.out]; omega))) ?_;rintro e w5 ⟨rfl, hb⟩;have F5 := xH (F4.out.step hb);clear hb c0 c1 c2 c3;obtain ⟨c0, c1, c2, c3⟩ := F5.out.c;cases h125 : p.has [125] (a + 1) with
       | false =>
        exact z32
       | true =>
        exact z46
      | false =>
       go_wp2_with fail
       refine xM (qG S p _ HP.out (a + 1) (by omega) [125] ⟨#[125]⟩ rfl (by decide) (Or.inl (by rw [HN.out]; omega))) ?_;rintro e w5 ⟨rfl, hb⟩;have F5 := xH (F4.out.step hb);clear hb c0 c1 c2 c3;obtain ⟨c0, c1, c2, c3⟩ := F5.out.c;cases h125 : p.has [125] (a + 1) with
       | false =>
        exact z32
       | true =>
        have hin := qR HP.out h125;rw [HN.out] at hin;simp only [dA, Nat.zero_add] at hin;have HR := xH (HE2.out.trans (show _ = quan p i (a + 1 + 1) n (-1) by rw [HB2.out, if_pos h125]; simp));go_wp2_with fail
        refine xM (quant_any S p _ HP.out i (a + 1 + 1) n (-1) (by rw [HN.out]; omega)) ?_;exact z128
    have hbi : ¬ (b : Int) = (a : Int) + 1 := by omega
    cases gr with
    | true =>
     go_wp2_with fail
     refine xM (qG S p _ HP.out (b) (by omega) [125] ⟨#[125]⟩ rfl (by decide) (Or.inl (by rw [HN.out]; omega))) ?_;rintro e w5 ⟨rfl, hb⟩;have F5 := xH (F4.out.step hb);clear hb c0 c1 c2 c3;obtain ⟨c0, c1, c2, c3⟩ := F5.out.c;cases h125 : p.has [125] b with
     | false =>
      exact z32
     | true =>
      exact z46
    | false =>
     cases gs with
     | true =>
      go_wp2_with fail
      refine xM (qG S p _ HP.out (b) (by omega) [125] ⟨#[125]⟩ rfl (by decide) (Or.inl (by rw [HN.out]; omega))) ?_;rintro e w5 ⟨rfl, hb⟩;have F5 := xH (F4.out.step hb);clear hb c0 c1 c2 c3;obtain ⟨c0, c1, c2, c3⟩ := F5.out.c;cases h125 : p.has [125] b with
      | false =>
       exact z32
      | true =>
       exact z46
     | false =>
      go_wp2_with fail
      refine xM (qG S p _ HP.out (b) (by omega) [125] ⟨#[125]⟩ rfl (by decide) (Or.inl (by rw [HN.out]; omega))) ?_;rintro e w5 ⟨rfl, hb⟩;have F5 := xH (F4.out.step hb);clear hb c0 c1 c2 c3;obtain ⟨c0, c1, c2, c3⟩ := F5.out.c;cases h125 : p.has [125] b with
      | false =>
       exact z32
      | true =>
       have hin := qR HP.out h125;rw [HN.out] at hin;simp only [dA, Nat.zero_add] at hin;have HR1 := xH (HE2.out.trans (show _ = (if 0 ≤ k ∧ k < n then Except.error (23, (i : Int)) else quan p i (b + 1) n k) by rw [HB2.out, if_pos h125, if_neg hb1]; simp));by_cases hmn : k < n
       ·have HR := xH (HR1.out.trans (if_pos ⟨vk1, hmn⟩));exact z84
       ·have HR := xH (HR1.out.trans (if_neg (fun h => hmn h.2)));go_wp2_with fail
        refine xM (quant_any S p _ HP.out i (b + 1) n k (by rw [HN.out]; omega)) ?_;exact z128
  have b123 : (c == 123) = false := by simp [e123]
  have HR := xH (HE.out.trans (if_neg e123));clear e123 HE;go_wp2_with fail
  refine xM (qF (.slice none 0 0) ({ kind := 1, c := c }) (i) (z) _ (k := B) (qm _ _)) ?_;exact z69
end rtw
end
section
namespace tkw
open sq
open Go Go.RowKit Go.Maps utfp utfw ucdp setp setw prp tkp
theorem wraps_i64_62 (n : Int) (h₀ : 0 ≤ n) (h₁ : n < 2 ^ 62) : IntKind.i64.wrap n = n := by rw [IntKind.wrap_i64]; omega
theorem opt_bit (o : Int) (h0 : 0 ≤ o) (h1 : o ≤ 65535) (i : Nat) (hi : i ≤ 15) : (bits .and .i64 o ((2 ^ i : Nat) : Int) != 0) = o.toNat.testBit i := by
 obtain ⟨n, rfl⟩ : ∃ n : Nat, o = n := ⟨o.toNat, by omega⟩;have hp : 2 ^ i ≤ 2 ^ 15 := Nat.pow_le_pow_right (by decide) hi;have h := (bits_nat .i64 62 (by decide) wraps_i64_62 n (2 ^ i) (by omega) (by omega)).1;rw [h, Int.toNat_natCast];have hb : ∀ j, (n &&& 2 ^ i).testBit j = (n.testBit j && decide (i = j)) := fun j => by rw [Nat.testBit_and, Nat.testBit_two_pow]
 cases ht : n.testBit i with
 | false =>
  have : n &&& 2 ^ i = 0 := Nat.eq_of_testBit_eq fun j => by
   rw [hb, Nat.zero_testBit];by_cases e : i = j
   ·subst e; rw [ht]; rfl
   ·simp [e]
  rw [this];rfl
 | true =>
  have : n &&& 2 ^ i ≠ 0 := fun e => by have h2 := hb i;rw [e, ht] at h2;simp at h2
  simpa using this
end tkw
end
section
namespace rtw
open sq
open Go Go.RowKit Go.Maps utfp utfw ucdp setp setw prp tkp rtp
open tkw (sg sg_bd vJ jM qK tkR qO qM vI)
open Go.Sort
open tkw (yw tkA qO opt_bit tokRow_kept own_apart Kept Kept.of_below)
def LexB (w0 : World) (r : R (List Tk)) (e : Ending) (w' : World) : Prop := Below w0.heap.size w0 w' ∧ match r with
 | .error x => e = .returned (.tuple #[.slice none 0 0, .int .i64 x.1, .int .i64 x.2])
 | .ok T => ∃ v, e = .returned (.tuple #[v, .int .i64 0, .int .i64 0]) ∧ yw w' w0.heap.size v T
theorem str_size (n : Nat) (g : Nat → Int) : (strOf n g).size = n := by unfold strOf;show (strOfNums _).data.size = _;simp [strOfNums]
theorem sg_str {n : Nat} {g : Nat → Int} (hg : ∀ i, 0 ≤ g i ∧ g i ≤ 255) {i : Nat} (hi : i < n) : sg (strOf n g) i = g i := by
 have e : (strOf n g).data.toList[i]? = some (UInt8.ofNat (g i).toNat) := by unfold strOf;simp [strOfNums, hi]
 unfold sg;rw [List.getD_eq_getElem?_getD, e];have := hg i;simp only [Option.getD_some];have h2 : (UInt8.ofNat (g i).toNat).toNat = (g i).toNat := by rw [UInt8.toNat_ofNat'];omega
 rw [h2];omega
theorem sl_sg {w : World} {v : Value} {n : Nat} {g : Nat → Int} (h : Sl w v n g) : Sl w v n (sg (strOf n g)) := by
 obtain ⟨hg, hn, h⟩ := h;refine ⟨sg_bd _, hn, ?_⟩;rcases h with ⟨rfl, a0, c0, rfl, hc⟩ | ⟨b, off, cap, rfl, h1, hc⟩
 ·exact Or.inl ⟨rfl, a0, c0, rfl, hc⟩
 ·exact Or.inr ⟨b, off, cap, rfl, h1, fun i hi => by rw [sg_str hg hi]; exact hc i hi⟩
theorem wpList_append_t {ops : Array Oper} {rest : List Oper} {o : Oper} {a : Act} {w : World} {Q : Exit → Act → World → Prop} (hgd : o.guard = none) (s x : Operand)
 (ho : o.op = .call { callee := .builtin .append, args := #[s, x], argTypes := #[50, 50] }) (base : Nat) (tv : Value) (T : List Tk) (hs : a.eval s = tv) (hown : yw w base tv T)
 (v : Value) (t : Tk) (hv : OwnR w base v t.set) (B : Nat) (hx : a.eval x = .slice (some ⟨B, 0, none⟩) 1 1) (hB : B = w.heap.size) (hlen : T.length ≤ 100000) (hbase : base ≤ w.heap.size)
 (h : ∀ v' w', yw w' base v' (T ++ [t]) → Below base w w' → (∀ k, k < w.heap.size → tv.ownBlock ≠ some k → w'.heap[k]? = w.heap[k]?) → wpList Try.prog ops Q rest (a.put o.dst v') w') :
 wpList Try.prog ops Q (o :: rest) a (w.alloc (.cells (tkA v t) 90)) := by
 subst hB;obtain ⟨l, hl1, hl2, hl3⟩ := hown;have hll : l.length = T.length := by rw [← hl1, List.length_map]
 obtain ⟨i0, hi, hz0, hz1, hz2⟩ := info_parts tkw.vI;refine wpList_append_own _ hgd s x _ ho base 90 i0 _ 12 120 Try.underlying50 hi hz0 hz1 hz2 rfl (by decide) tv _ _ hs (World.ownsRow.alloc hl3 _) ⟨w.heap.size, 0, none⟩ 1 1 (qO v t) hx rfl ?_ ?_ (by unfold maxLen; omega) (by omega) (by rw [World.size_alloc]; omega) ?_
 ·intro j u hj;have hplain : (⟨w.heap.size, 0, none⟩ : Addr).add j = ⟨w.heap.size, j, none⟩ := by unfold Addr.add; split <;> simp_all
  rw [hplain, World.cell?_alloc_new, ← Array.getElem?_toList, tkw.tkA_cells];exact hj
 ·intro u hu;obtain ⟨x, y, rfl⟩ : ∃ x y, v = .slice x t.set.length y := qN hv;simp only [qO, List.mem_cons, dM, or_false] at hu;rcases hu with rfl | rfl | rfl | rfl | rfl | rfl | rfl | rfl | rfl | rfl | rfl | rfl <;> rfl
 ·intro v' w' hown' hgr _;have hlt := World.ownsRow.lt hl3;have hbw : Below base w w' := ((Below.refl base w).alloc hbase _).grown hgr (by rw [World.size_alloc]; omega) (fun k hk => (hlt k hk).1);refine h v' w' ⟨l ++ [(t, v)], by simp [hl1], fun p hp => ?_, ?_⟩ hbw (fun k hk hne => (hgr.block k (by rw [World.size_alloc]; omega) (fun e => hne e.symm)).trans (Below.heap_alloc _ _ _ hk))
  ·have hr : OwnR w base p.2 p.1.set := by
    rcases List.mem_append.1 hp with hp | hp
    ·exact hl2 p hp
    ·obtain rfl := List.mem_singleton.1 hp;exact hv
   exact ⟨World.ownsRow.kept (World.ownsRow.alloc hr.1 _) hgr (own_apart hr.1 hl3 (by decide)), hr.2⟩
  ·have e : ((l ++ [(t, v)]).flatMap fun p => qO p.2 p.1) = (l.flatMap fun p => qO p.2 p.1) ++ qO v t := by simp
   rw [e];simpa using hown'
theorem row_below {w w' : World} {base : Nat} {v : Value} {T : List Tk} (h : yw w base v T) (hb : Below w.heap.size w w') (h0 : 0 < base) : yw w' base v T := tokRow_kept h (Kept.of_below (L := 0) hb) h0
theorem row_block {w : World} {base : Nat} {v : Value} {T : List Tk} (h : yw w base v T) : v.ownBlock ≠ some w.heap.size := by obtain ⟨l, h1, h2, h3⟩ := h;intro e;exact absurd (World.ownsRow.lt h3 _ e).2 (Nat.lt_irrefl _)
theorem row_form {w : World} {b : Nat} {v : Value} {T : List Tk} (h : yw w b v T) : ∃ a n c, v = .slice a n c := by obtain ⟨l0, _, _, hl3⟩ := h;rcases hl3.2 with ⟨h, _⟩ | ⟨g, cap, cur, h, _⟩ <;> exact ⟨_, _, _, h⟩
theorem row_base {w : World} {b b' : Nat} {v : Value} {T : List Tk} (h : yw w b v T) (hb : b' ≤ b) : yw w b' v T := by obtain ⟨l, h1, h2, h3⟩ := h;exact ⟨l, h1, fun p hp => ⟨World.ownsRow.mono (h2 p hp).1 hb, (h2 p hp).2⟩, World.ownsRow.mono h3 hb⟩
theorem row_nil (w : World) (b : Nat) : yw w b (.slice none 0 0) [] := ⟨[], rfl, fun p hp => absurd hp (by simp), World.ownsRow_nil w b _ 12⟩
theorem wpList_load_tk {ops : Array Oper} {rest : List Oper} {o : Oper} {a : Act} {w : World} {Q : Exit → Act → World → Prop} (hgd : o.guard = none) (x : Operand) (ho : o.op = .load 90 x)
 (b : Nat) (hx : a.eval x = .pointer (some ⟨b, 0, none⟩)) (v : Value) (t : Tk) (hc : ∀ j u, (qO v t)[j]? = some u → w.cell? ⟨b, j, none⟩ = some u)
 (h : wpList Try.prog ops Q rest (a.put o.dst (.agg #[.int .i64 t.kind, .int .i64 t.at_, .int .i64 t.to, .int .i64 t.c, v, .bool t.neg, .int .i64 t.n, .int .i64 t.m, .int .i64 t.mode, .string t.name, .int .i64 t.on, .int .i64 t.off])) w) : wpList Try.prog ops Q (o :: rest) a w :=
 trw.wpList_load_at hgd 90 x ho ⟨b, 0, none⟩ hx (qO v t) _ (fun j u hj => by rw [trw.add_plain, Nat.zero_add]; exact hc j u hj) Try.underlying90 rfl (by kernel_rfl) h
def Nz (r : G) : Prop := ∀ x, r = .error x → x.1 ≠ 0
theorem jZ {t : Tk} {f b : Nat} : Nz (gtok t f b) := fun _ h => by cases h
theorem zu {a b : Int} (h : a ≠ 0) : Nz (.error (a, b)) := fun _ e => by cases e; exact h
theorem nz_if {c : Prop} [Decidable c] {a b : G} (h1 : Nz a) (h2 : Nz b) : Nz (if c then a else b) := by split <;> assumption
theorem nz_shut {p : Pt} {t : Tk} {f i : Nat} {s : List UInt8} {e : Int} (h : e ≠ 0) : Nz (shutR p t f i s e) := by
 unfold shutR
 repeat' (first | exact jZ | exact zu (by first | exact h | decide) | split)
theorem nz_call {p : Pt} {t : Tk} {f i : Nat} {s : List UInt8} : Nz (callR p t f i s) := by
 unfold callR
 repeat' (first | exact jZ | exact zu (by decide) | split)
theorem nz_back {p : Pt} {i z : Nat} : ∀ l, Nz (backR p i z l)
 | [] => zu (by decide)
 | (a, b) :: l => by
  rw [backR]
  repeat' (first | exact jZ | exact nz_back l | split)
theorem nz_ref {p : Pt} {f i : Nat} : Nz (refR p f i) := by
 unfold refR;simp only
 repeat' (first | exact jZ | exact zu (by decide) | split)
theorem nz_many {p : Pt} {c : Int} {i : Nat} {x : Int} (h : many p c i = .error x) : x ≠ 0 := by rw [many_err h]; decide
theorem nz_esc {p : Pt} {i : Nat} : Nz (escR p i) := by
 rw [escR_eq];refine nz_if (zu (by decide)) (nz_if jZ (nz_if ?_ (nz_if jZ (nz_if jZ (nz_if jZ (nz_if jZ (nz_if ?_ (nz_if (nz_if (zu (by decide)) jZ) (nz_if nz_ref (nz_if (nz_back _) ?_))))))))))
 ·cases hexz p (p.char (i + 1)).2 with
  | none => exact zu (by decide)
  | some q => exact jZ
 ·intro x h; cases h
 ·cases hm : many p (p.char (i + 1)).1 (p.char (i + 1)).2 with
  | error x => exact zu (nz_many hm)
  | ok o =>
   cases o with
   | none => exact nz_if (zu (by decide)) jZ
   | some q => exact jZ
theorem nz_item {p : Pt} {k : Nat} {x : Int × Int} (h : itemR p k = .error x) : x.1 ≠ 0 := by
 unfold itemR at h;split at h
 ·split at h
  ·cases h
  ·cases h; simp
 ·unfold itemC at h;split at h
  ·split at h
   ·cases h; simp
   ·unfold itemE at h;simp only at h;split at h
    ·split at h
     ·cases h; simp
     ·cases h
    ·split at h
     ·cases h
     ·split at h
      ·cases h
      ·split at h
       ·rename_i e he;cases h;exact nz_many he
       ·cases h
       ·split at h
        ·cases h; simp
        ·cases h
  ·cases h
theorem nz_range {p : Pt} {k : Nat} {x : Int × Int} (h : rangeR p k = .error x) : x.1 ≠ 0 := by
 unfold rangeR at h;split at h
 ·rename_i e he;cases h;exact nz_item he
 ·split at h
  ·split at h
   ·rename_i e he;cases h;exact nz_item he
   ·split at h
    ·cases h; simp
    ·cases h
  ·cases h
theorem nz_clsL {p : Pt} {first : Nat} {x : Int × Int} : ∀ (k : Nat) (all : List Rg) (i : Nat), clsL p first k all i = .error x → x.1 ≠ 0
 | 0, _, _, h => by cases h; simp
 | k + 1, all, i, h => by
  rw [clsL] at h;split at h
  ·cases h; simp
  ·split at h
   ·cases h
   ·split at h
    ·rename_i e he;cases h;exact nz_range he
    ·exact nz_clsL k _ _ h
theorem nz_cls {p : Pt} {f : Nat} : Nz (clsR p f) := by
 intro x h;unfold clsR at h;simp only at h;split at h
 ·rename_i e he;cases h;exact nz_clsL _ _ _ he
 ·cases h
theorem nz_flag {p : Pt} {f : Nat} : ∀ (k i : Nat) (off : Bool) (on of_ : Int), Nz (flagR p f k i off on of_)
 | 0, _, _, _, _ => zu (by decide)
 | k + 1, i, off, on, of_ => by
  rw [flagR]
  repeat' (first | exact jZ | exact zu (by decide) | exact nz_flag _ _ _ _ _ | split)
theorem nz_condE {p : Pt} {f b : Nat} {t : Tk} {ok : Bool} : Nz (condE p f t b ok) := by
 unfold condE
 repeat' (first | exact jZ | exact zu (by decide) | split)
theorem nz_cond {p : Pt} {f i : Nat} : Nz (condR p f i) := by
 unfold condR condN
 repeat' (first | exact jZ | exact nz_condE | exact zu (by decide) | split)
theorem nz_verb {p : Pt} {f : Nat} : Nz (verbR p f) := by
 unfold verbR verbG
 repeat' (first | exact jZ | exact zu (by decide) | split)
theorem nz_num {p : Pt} {f i : Nat} : Nz (numR p f i) := by
 intro x h;unfold numR at h;simp only at h;split at h
 ·cases h; simp
 ·split at h
  ·split at h <;> (cases h; simp)
  ·split at h
   ·rename_i e he;cases h;exact nz_shut (by decide) _ he
   ·split at h
    ·cases h; simp
    ·cases h
theorem nz_kind {p : Pt} {f i : Nat} {g : G} : ∀ l : List (List UInt8 × Int), kindR p f i l = some g → Nz g
 | [], h => by cases h
 | (s, k) :: l, h => by
  rw [kindR] at h;split at h
  ·cases h; exact jZ
  ·exact nz_kind l h
theorem nz_open {p : Pt} {f : Nat} : Nz (openR p f) := by
 unfold openR;split
 ·exact nz_verb
 split
 ·exact jZ
 split
 ·exact zu (by decide)
 split
 ·rename_i g hg;exact nz_kind _ hg
 ·unfold openK;refine nz_if ?_ (nz_if nz_call (nz_if nz_call (nz_if nz_call (nz_if nz_call (nz_if nz_call (nz_if nz_call (nz_if (nz_shut (by decide)) (nz_if (nz_if (zu (by decide)) (nz_shut (by decide))) (nz_if nz_cond (nz_if nz_num (nz_flag _ _ _ _ _)))))))))));cases p.until 41 (f + 2) with
  | none => exact zu (by decide)
  | some j => intro x h; cases h
theorem nz_quan {p : Pt} {i b : Nat} {n m : Int} : Nz (quan p i b n m) := jZ
theorem nz_token {p : Pt} {i : Nat} : Nz (tokR p i) := by
 rw [tokR_eq];refine nz_if ?_ (nz_if ?_ (nz_if nz_esc (nz_if nz_cls (nz_if nz_open (nz_if jZ (nz_if jZ (nz_if jZ (nz_if jZ (nz_if jZ (nz_if nz_quan (nz_if nz_quan (nz_if nz_quan (nz_if ?_ jZ)))))))))))))
 ·intro x h; cases h
 ·intro x h; cases h
 ·cases bracR p i with
  | none => exact jZ
  | some q => exact nz_if (zu (by decide)) (nz_if (zu (by decide)) nz_quan)
def LxRel (w : World) (B : Nat) (S : ByteArray) (p : Pt) (r : R (List Tk)) (vo vi vq : Value) (wr : World) : Prop :=
 ∃ (k i : Nat) (q : Bool) (T : List Tk), i ≤ S.size ∧ S.size < i + k ∧ vi = .int .i64 i ∧ vq = .bool q ∧ T.length ≤ i ∧ Hid (yw wr (B + 1) vo T) ∧ Hid (lexF p k q T i = r) ∧ Hid (FR w B S p wr)
theorem FR.poke {w W W' : World} {B : Nat} {S : ByteArray} {p : Pt} (h : FR w B S p W) (hb : Below (B + 1) W W') : FR w B S p W' := ⟨h.hB, h.below.trans (hb.mono (by omega)), h.x.below hb (by omega)⟩
theorem rlex_any (v : Value) (n : Nat) (g : Nat → Int) (o : Int) (w : World) (hv : Sl w v n g) : Calls Try.prog 32 #[v, .int .i64 o] w (LexB w (rlexP (sg (strOf n g)) n o)) := by
 obtain ⟨a, cap, rfl⟩ : ∃ a c, v = .slice a n c := by exact z139
 by_cases h0 : o < 0 ∨ 65535 < o
 ·have HR := xH (show rlexP (sg (strOf n g)) n o = .error (1, 0) by unfold rlexP; rw [if_pos h0]);rcases (show o < 0 ∨ (0 ≤ o ∧ 65535 < o) by omega) with h | ⟨h, h2⟩
  all_goals
   clear h0 hv;go_enter Try.func32, Try.ntmps32;go_wp2_with fail
   go_ret3
   rw [HR.out];exact ⟨Below.refl _ _, rfl⟩
 have ho0 : 0 ≤ o := by omega
 have ho1 : o ≤ 65535 := by omega
 by_cases h1 : 1000 < n
 ·have HR := xH (show rlexP (sg (strOf n g)) n o = .error (10, 1000) by unfold rlexP; rw [if_neg h0, if_pos h1]);have hn1 : (1000 : Int) < (n : Int) := by omega
  clear h0 hv;go_enter Try.func32, Try.ntmps32;go_wp2_with fail
  go_ret3
  rw [HR.out];exact ⟨Below.refl _ _, rfl⟩
 have hn1 : ¬ (1000 : Int) < (n : Int) := by omega
 have hu := opt_bit o ho0 ho1 5 (by decide);have hx := opt_bit o ho0 ho1 3 (by decide);rw [show (((2 ^ 5 : Nat) : Int)) = 32 by decide] at hu;rw [show (((2 ^ 3 : Nat) : Int)) = 8 by decide] at hx;have hcv := conv_sl hv;have HV := xH (fun W (hb : Below w.heap.size w W) => rvalid_any (.slice a n cap) n (sg (strOf n g)) W (below_sl hb (sl_sg hv)));have hsz := str_size n g;have hR0 : rlexP (sg (strOf n g)) n o = (if o.toNat.testBit 5 = true ∧ (validP (sg (strOf n g)) n).2 = false then .error (13, (validP (sg (strOf n g)) n).1) else lexF { g := sg (strOf n g), n := n, u := o.toNat.testBit 5, x := o.toNat.testBit 3 } (n + 1) false [] 0) := by unfold rlexP; rw [if_neg h0, if_neg h1]
 have HR0 := xH hR0;have hP : Pat (strOf n g) { g := sg (strOf n g), n := n, u := o.toNat.testBit 5, x := o.toNat.testBit 3 } := ⟨rfl, hsz.symm, by rw [hsz]; omega⟩;have HP := xH hP;have HSZ := xH hsz;clear hR0 hP hsz h0 hv;generalize strOf n g = S at *;generalize o.toNat.testBit 3 = bx at *;generalize o.toNat.testBit 5 = bu at *;have hsz := HSZ.out;subst hsz;generalize rlexP (sg S) S.size o = R at *;have HRA := xH (heap_alloc_new w (.cells #[.string S, .bool bu, .bool bx, .int .i64 255] 84));have hbw0 := qK w (.cells #[.string S, .bool bu, .bool bx, .int .i64 255] 84);have cu : (w.alloc (.cells #[.string S, .bool bu, .bool bx, .int .i64 255] 84)).cell? ⟨w.heap.size, 1, none⟩ = some (.bool bu) := by unfold World.cell?; simp only [HRA.out]; rfl
 have cm : (w.alloc (.cells #[.string S, .bool bu, .bool bx, .int .i64 255] 84)).cell? ⟨w.heap.size, 3, none⟩ = some (.int .i64 255) := by unfold World.cell?; simp only [HRA.out]; rfl
 have cf : (w.alloc (.cells #[.string S, .bool bu, .bool bx, .int .i64 255] 84)).frozen? ⟨w.heap.size, 3, none⟩ = false := by unfold World.frozen?; simp only [HRA.out]; rfl
 go_enter Try.func32, Try.ntmps32;go_upto_if 35 with (fail)
 generalize w.alloc (.cells #[.string S, .bool bu, .bool bx, .int .i64 255] 84) = W at *;have HB0 := xH hbw0;obtain ⟨B, hB⟩ : ∃ B, w.heap.size = B := ⟨_, rfl⟩;rw [hB] at HRA cu cm cf hbw0 ⊢;have HBB := xH hB;clear hB hbw0;go_cut [8, 9] (fun v8 v9 wx => ∃ p : Pt, Hid (Pat S p) ∧ Hid (R = lexF p (S.size + 1) false [] 0) ∧ Hid (FR w B S p wx))
 case first =>
  cases bu with
  | false =>
   go_wp2_with fail
   go_meet
   exact ⟨_, HP, xH (HR0.out.trans (if_neg (by simp))), xH ⟨HBB.out, by rw [← HBB.out]; exact HB0.out, ⟨HRA.out⟩⟩⟩
  | true =>
   have hb1 : Below w.heap.size w (W.setCell ⟨B, 3, none⟩ (.int .i64 1114111)) := HB0.out.trans ((Below.refl w.heap.size W).setCell (p := ⟨B, 3, none⟩) (by show w.heap.size ≤ B; have := HBB.out; omega) _);have HRB := xH (tkw.heap_set (o := 3) (v := .int .i64 1114111) HRA.out);have HB1 := xH hb1;clear hb1;go_wp2_with fail
   refine (HV.out _ HB1.out).mono ?_;generalize validP (sg S) S.size = vq at *;obtain ⟨q1, q2⟩ := vq;rintro e w2 ⟨rfl, hb2⟩;cases q2 with
   | false =>
    have HR := xH (HR0.out.trans (if_pos (by simp)));go_wp2_with fail
    go_ret3
    rw [HR.out];exact ⟨HB1.out.trans (hb2.mono HB1.out.size), rfl⟩
   | true =>
    go_wp2_with fail
    go_meet
    exact ⟨_, HP, xH (HR0.out.trans (if_neg (by simp))), xH ⟨HBB.out, by rw [← HBB.out]; exact HB1.out.trans (hb2.mono HB1.out.size), ⟨qQ HRB.out hb2⟩⟩⟩
 case rest =>
  obtain ⟨p, HP, HRL, FC⟩ := hcut;have HN := xH HP.out.n;have h2 := HP.out.le;clear cu cm cf HRA HV HB0;obtain ⟨c0, c1, c2, c3⟩ := FC.out.c;go_wp2_with fail
  go_loopw [10, 11, 12] (fun vo vi vq wr => LxRel w B S p R vo vi vq wr) (fun _ vi _ _ => S.size - (intOf vi).toNat)
  case atStart => exact ⟨S.size + 1, 0, false, [], Nat.zero_le _, by omega, rfl, rfl, xL _, xH (row_nil _ _), xH HRL.out.symm, FC⟩
  case round =>
   obtain ⟨k, i, q, T, hi, hk, rfl, rfl, hT, HT, HL, F1⟩ := hrel;clear FC c0 c1 c2 c3;obtain ⟨c0, c1, c2, c3⟩ := F1.out.c;by_cases hlt : i < S.size;case neg =>
    have HR := xH (show R = .ok T by
     have hl := HL.out;cases k with
     | zero => omega
     | succ k => rw [lexF, if_pos (by rw [HN.out]; omega)] at hl; exact hl.symm)
    have hlti : ¬ (i : Int) < (S.size : Int) := by omega
    obtain ⟨va, vn, vc, rfl⟩ := row_form HT.out;go_wp2_with fail
    go_ret3
    rw [HR.out];exact ⟨F1.out.bel, _, rfl, row_base HT.out (by have := F1.out.hB; omega)⟩
   have hlti : (i : Int) < (S.size : Int) := by omega
   obtain ⟨k, rfl⟩ : ∃ k', k = k' + 1 := ⟨k - 1, by omega⟩;have HL1 := xH (HL.out.symm.trans (show lexF p (k + 1) q T i = _ by rw [lexF, if_neg (by rw [HN.out]; omega)]));clear HL;have hB1 : B + 1 ≤ wr.heap.size := by have := F1.out.x.lt; omega
   cases q with
   | true =>
    have HL2 := xH (HL1.out.trans (if_pos rfl));clear HL1;go_wp2_with fail
    refine xM (qG S p _ HP.out i (by omega) [92, 69] ⟨#[92, 69]⟩ rfl (by decide) (Or.inr (by simp))) ?_;rintro e w2 ⟨rfl, hb⟩;have F2 := xH (F1.out.step hb);have HT2 := xH (row_below HT.out hb (Nat.succ_pos B));clear hb c0 c1 c2 c3;obtain ⟨c0, c1, c2, c3⟩ := F2.out.c;cases hE : p.has [92, 69] i with
    | true =>
     have hin := qR HP.out hE;rw [HN.out] at hin;simp only [dB, dA] at hin;go_wp2_with fail
     exact ⟨⟨k, i + 2, false, T, by omega, by omega, by simp, rfl, by omega, HT2, xH (HL2.out.trans (if_pos hE)).symm, F2⟩, by simp [intOf]; omega⟩
    | false =>
     have HL3 := xH (HL2.out.trans (if_neg (by simp [hE])));clear HL2;go_wp2_with fail
     refine xM (char_any S p _ HP.out i (by rw [HN.out]; exact hlt)) ?_;rintro e w3 ⟨rfl, hb⟩;have F3 := xH (F2.out.step hb);have HT3 := xH (row_below HT2.out hb (Nat.succ_pos B));clear hb c0 c1 c2 c3;obtain ⟨c0, c1, c2, c3⟩ := F3.out.c;obtain ⟨z1, z2⟩ := zM HP.out (a := i) (by rw [HN.out]; exact hlt);rw [HN.out] at z2;generalize (p.char i).1 = c at *;generalize (p.char i).2 = z at *;have hB3 : B + 1 ≤ w3.heap.size := by have := F3.out.x.lt; omega
     go_wp2_with (at_builtin; refine wpList_append_t rfl _ _ rfl (B + 1) u10 T rfl HT3.out (.slice none 0 0) { kind := 1, at_ := i, «to» := z, c := c } (qm _ _) _ rfl rfl (by omega) hB3 ?_; intro v4 w4 h4 hb4 _; have HT4 := xH h4; have HB4 := xH hb4; clear h4 hb4)
     exact ⟨⟨k, z, true, T ++ [{ kind := 1, at_ := i, «to» := z, c := c }], z2, by omega, rfl, rfl, by rw [List.length_append]; simp only [dB, dA]; omega, HT4, xH HL3.out.symm, xH (F3.out.poke HB4.out)⟩, by simp [intOf]; omega⟩
   | false =>
    have HL2 := xH (HL1.out.trans (if_neg (by simp)));clear HL1;go_wp2_with fail
    refine xM (qG S p _ HP.out i (by omega) [92, 81] ⟨#[92, 81]⟩ rfl (by decide) (Or.inr (by simp))) ?_;rintro e w2 ⟨rfl, hb⟩;have F2 := xH (F1.out.step hb);have HT2 := xH (row_below HT.out hb (Nat.succ_pos B));clear hb c0 c1 c2 c3;obtain ⟨c0, c1, c2, c3⟩ := F2.out.c;cases hE : p.has [92, 81] i with
    | true =>
     have hin := qR HP.out hE;rw [HN.out] at hin;simp only [dB, dA] at hin;go_wp2_with fail
     exact ⟨⟨k, i + 2, true, T, by omega, by omega, by simp, rfl, by omega, HT2, xH (HL2.out.trans (if_pos hE)).symm, F2⟩, by simp [intOf]; omega⟩
    | false =>
     have HL3 := xH (HL2.out.trans (if_neg (by simp [hE])));clear HL2;go_wp2_with fail
     have HM := token_any S p w2 HP.out i (by rw [HN.out]; exact hlt);cases hr : tokR p i with
     | error x =>
      have hx := nz_token _ hr;have HR := xH (HL3.out.trans (show _ = Except.error x by rw [hr]));obtain ⟨x1, x2⟩ := x;simp only at hx;have bx1 : (x1 != 0) = true := by simpa using hx
      rw [hr] at HM;refine xM HM ?_;rintro e w3 ⟨v, rfl, ho, hb⟩;have F3 := xH (F2.out.step hb);obtain ⟨y1, y2, rfl⟩ := qN ho;have hbw := qK w3 (.cells (gtC (.slice y1 ([] : List Rg).length y2) (.error (x1, x2))) 92);have hgn := heap_alloc_new w3 (.cells (gtC (.slice y1 ([] : List Rg).length y2) (.error (x1, x2))) 92);have F4 := xH (F3.out.step hbw);have ce : (w3.alloc (.cells (gtC (.slice y1 ([] : List Rg).length y2) (.error (x1, x2))) 92)).cell? ⟨w3.heap.size, 14, none⟩ = some (.int .i64 x1) := by unfold World.cell?; rw [hgn]; rfl
      have ca : (w3.alloc (.cells (gtC (.slice y1 ([] : List Rg).length y2) (.error (x1, x2))) 92)).cell? ⟨w3.heap.size, 15, none⟩ = some (.int .i64 x2) := by unfold World.cell?; rw [hgn]; rfl
      simp only [gtC, gtS, dA] at ce ca hbw hgn F4 ⊢;clear hb ho hr HM;go_wp2_with fail
      go_quiet (fail)
      rename_i nq;go_wp2_with fail
      go_ret3
      rw [HR.out];exact ⟨tkw.zI F4.out.bel _, rfl⟩
     | ok y =>
      obtain ⟨o1, z⟩ := y;obtain ⟨z1, z2⟩ := tokR_bd HP.out (by rw [HN.out]; exact hlt) hr;rw [HN.out] at z2;rw [hr] at HM;cases o1 with
      | none =>
       have HR := xH (HL3.out.trans (show _ = lexF p k false T z by rw [hr]));refine xM HM ?_;rintro e w3 ⟨v, rfl, ho, hb⟩;have F3 := xH (F2.out.step hb);have HT3 := xH (row_below HT2.out hb (Nat.succ_pos B));obtain ⟨y1, y2, rfl⟩ := qN ho;have hbw := qK w3 (.cells (gtC (.slice y1 ([] : List Rg).length y2) (.ok (none, z))) 92);have hgn := heap_alloc_new w3 (.cells (gtC (.slice y1 ([] : List Rg).length y2) (.ok (none, z))) 92);have F4 := xH (F3.out.step hbw);have HT4 := xH (row_below HT3.out hbw (Nat.succ_pos B));have ce : (w3.alloc (.cells (gtC (.slice y1 ([] : List Rg).length y2) (.ok (none, z))) 92)).cell? ⟨w3.heap.size, 14, none⟩ = some (.int .i64 0) := by unfold World.cell?; rw [hgn]; rfl
       have cs : (w3.alloc (.cells (gtC (.slice y1 ([] : List Rg).length y2) (.ok (none, z))) 92)).cell? ⟨w3.heap.size, 12, none⟩ = some (.bool false) := by unfold World.cell?; rw [hgn]; rfl
       have ct : (w3.alloc (.cells (gtC (.slice y1 ([] : List Rg).length y2) (.ok (none, z))) 92)).cell? ⟨w3.heap.size, 13, none⟩ = some (.int .i64 z) := by unfold World.cell?; rw [hgn]; rfl
       simp only [gtC, gtS, dA] at ce cs ct hbw hgn F4 HT4 ⊢;clear hb ho hr HM;go_wp2_with fail
       exact ⟨⟨k, z, false, T, z2, by omega, rfl, rfl, by omega, HT4, xH HR.out.symm, F4⟩, by simp [intOf]; omega⟩
      | some t =>
       have HR := xH (HL3.out.trans (show _ = lexF p k false (T ++ [t]) z by rw [hr]));refine xM HM ?_;rintro e w3 ⟨v, rfl, ho, hb⟩;have F3 := xH (F2.out.step hb);have HT3 := xH (row_below HT2.out hb (Nat.succ_pos B));have HO3 := xH (qM ho (show B + 1 ≤ w2.heap.size by have := F2.out.x.lt; omega));obtain ⟨y1, y2, rfl⟩ := qN ho;have hbw := qK w3 (.cells (gtC (.slice y1 t.set.length y2) (.ok (some t, z))) 92);have hgn := heap_alloc_new w3 (.cells (gtC (.slice y1 t.set.length y2) (.ok (some t, z))) 92);have F4 := xH (F3.out.step hbw);have HT4 := xH (row_below HT3.out hbw (Nat.succ_pos B));have HO4 := xH (jG HO3.out hbw);have HCT := xH (fun (j : Nat) (u : Value) (hj : (qO (.slice y1 t.set.length y2) t)[j]? = some u) => show (w3.alloc (.cells (gtC (.slice y1 t.set.length y2) (.ok (some t, z))) 92)).cell? ⟨w3.heap.size, j, none⟩ = some u by
        have hj12 : j < 12 := by have := (List.getElem?_eq_some_iff.1 hj).1;simpa [qO] using this
        obtain rfl | rfl | rfl | rfl | rfl | rfl | rfl | rfl | rfl | rfl | rfl | rfl : j = 0 ∨ j = 1 ∨ j = 2 ∨ j = 3 ∨ j = 4 ∨ j = 5 ∨ j = 6 ∨ j = 7 ∨ j = 8 ∨ j = 9 ∨ j = 10 ∨ j = 11 := by omega
        all_goals (simp only [World.cell?, hgn]; simpa [gtC, qO] using hj))
       have ce : (w3.alloc (.cells (gtC (.slice y1 t.set.length y2) (.ok (some t, z))) 92)).cell? ⟨w3.heap.size, 14, none⟩ = some (.int .i64 0) := by unfold World.cell?; rw [hgn]; rfl
       have cs : (w3.alloc (.cells (gtC (.slice y1 t.set.length y2) (.ok (some t, z))) 92)).cell? ⟨w3.heap.size, 12, none⟩ = some (.bool true) := by unfold World.cell?; rw [hgn]; rfl
       have ct : (w3.alloc (.cells (gtC (.slice y1 t.set.length y2) (.ok (some t, z))) 92)).cell? ⟨w3.heap.size, 13, none⟩ = some (.int .i64 z) := by unfold World.cell?; rw [hgn]; rfl
       simp only [gtC, gtS] at ce cs ct hbw hgn F4 HT4 HO4 HCT ⊢;have hB4 : B + 1 ≤ (w3.alloc (.cells (gtC (.slice y1 t.set.length y2) (.ok (some t, z))) 92)).heap.size := by rw [World.size_alloc]; have := F3.out.x.lt; omega
       simp only [gtC] at hB4;clear hb ho hr HM;go_upto_region 29 with (fail)
       go_wp2_with (first
        | (refine wpList_load_tk rfl _ rfl w3.heap.size rfl (.slice y1 t.set.length y2) t HCT.out ?_)
        | (at_builtin; refine wpList_append_t rfl _ _ rfl (B + 1) u10 T rfl HT4.out (.slice y1 t.set.length y2) t HO4.out _ rfl (World.size_alloc ..).symm (by omega) hB4 ?_; intro v5 w5 h5 hb5 hk5; have HT5 := xH h5; have HB5 := xH hb5; have cg := hk5 w3.heap.size (by rw [World.size_alloc]; omega) (row_block HT3.out); have ct5 : w5.cell? ⟨w3.heap.size, 13, none⟩ = some (.int .i64 (z : Int)) := (by unfold World.cell?; rw [cg, hgn]; rfl); clear h5 hb5 hk5 cg))
       exact ⟨⟨k, z, false, T ++ [t], z2, by omega, rfl, rfl, by rw [List.length_append]; simp only [dB, dA]; omega, HT5, xH HR.out.symm, xH (F4.out.poke HB5.out)⟩, by simp [intOf]; omega⟩
end rtw
end
section
namespace rtw
open sq
open Go utfp ucdp setp prp tkp rtp
def GE {α : Type} (r : R α) : Prop := ∀ e, r = .error e → e.1 ≠ 0
theorem jq {α : Type} {e : Int × Int} (h : e.1 ≠ 0) : GE (.error e : R α) := fun e' h' => by cases h'; exact h
theorem ge_ok {α : Type} (x : α) : GE (.ok x : R α) := fun e h => by cases h
theorem zL (t : Tk) (f b : Nat) : GE (gtok t f b) := fun e h => by unfold gtok at h; cases h
theorem jD {α : Type} {c : Prop} [Decidable c] {a b : R α} (h1 : GE a) (h2 : GE b) : GE (if c then a else b) := by
 by_cases h : c
 ·rw [if_pos h]; exact h1
 ·rw [if_neg h]; exact h2
theorem refR_e (p : Pt) (f i : Nat) : GE (refR p f i) := by
 unfold refR;simp only
 repeat' (first | exact zL _ _ _ | exact jq (by simp) | refine jD ?_ ?_)
theorem backR_e (p : Pt) (i to_ : Nat) : ∀ l, GE (backR p i to_ l)
 | [] => jq (by simp)
 | (o, z) :: l => by
  rw [backR]
  repeat' (first | exact zL _ _ _ | exact backR_e p i to_ l | refine jD ?_ ?_)
theorem many_e {p : Pt} {c : Int} {i : Nat} {e : Int} (h : many p c i = .error e) : e ≠ 0 := by
 unfold many at h;split at h
 ·split at h
  ·cases h; decide
  ·split at h
   ·cases h
   ·cases h; decide
 ·split at h <;> cases h
theorem escR_e (p : Pt) (i : Nat) : GE (escR p i) := by
 rw [escR_eq]
 repeat' (first | exact zL _ _ _ | exact ge_ok _ | exact jq (by simp) | exact refR_e _ _ _ | exact backR_e _ _ _ _ | refine jD ?_ ?_)
 ·split
  ·exact jq (by simp)
  ·exact zL _ _ _
 ·split
  ·rename_i e he;exact jq (many_e he)
  ·exact zL _ _ _
  ·repeat' (first | exact zL _ _ _ | exact jq (by simp) | refine jD ?_ ?_)
theorem itemE_e (p : Pt) (i b : Nat) : GE (itemE p i b) := by
 unfold itemE;simp only
 repeat' (first | exact ge_ok _ | exact jq (by simp) | refine jD ?_ ?_)
 ·split
  ·exact jq (by simp)
  ·exact ge_ok _
 ·split
  ·rename_i e he;exact jq (many_e he)
  ·exact ge_ok _
  ·repeat' (first | exact ge_ok _ | exact jq (by simp) | refine jD ?_ ?_)
theorem itemR_e (p : Pt) (i : Nat) : GE (itemR p i) := by
 unfold itemR itemC
 repeat' (first | exact ge_ok _ | exact jq (by simp) | exact itemE_e _ _ _ | refine jD ?_ ?_)
theorem rangeR_e (p : Pt) (i : Nat) : GE (rangeR p i) := by
 have h1 := itemR_e p i;unfold rangeR;split
 ·rename_i e he;exact jq (h1 _ he)
 ·rename_i l s to_ _;have h2 := itemR_e p (to_ + 1);refine jD ?_ (ge_ok _);split
  ·rename_i e he;exact jq (h2 _ he)
  ·exact jD (jq (by simp)) (ge_ok _)
theorem clsL_e (p : Pt) (first : Nat) : ∀ (k : Nat) (all : List Rg) (i : Nat), GE (clsL p first k all i)
 | 0, _, _ => jq (by simp)
 | k + 1, all, i => by
  have h1 := rangeR_e p i;rw [clsL];refine jD (jq (by simp)) (jD (ge_ok _) ?_);split
  ·rename_i e he;exact jq (h1 _ he)
  ·exact clsL_e p first k _ _
theorem clsR_e (p : Pt) (f : Nat) : GE (clsR p f) := by
 have h := clsL_e p (if p.has [94] (f + 1) = true then f + 2 else f + 1) (p.n + 1 - (if p.has [94] (f + 1) = true then f + 2 else f + 1)) [] (if p.has [94] (f + 1) = true then f + 2 else f + 1);unfold clsR;simp only;split
 ·rename_i e he;exact jq (h _ he)
 ·exact zL _ _ _
theorem shutR_e (p : Pt) (t : Tk) (f i : Nat) (s : List UInt8) : GE (shutR p t f i s 26) := by
 unfold shutR
 repeat' (first | exact zL _ _ _ | exact jq (by simp) | refine jD ?_ ?_)
theorem callR_e (p : Pt) (t : Tk) (f i : Nat) (s : List UInt8) : GE (callR p t f i s) := by
 unfold callR
 repeat' (first | exact zL _ _ _ | exact jq (by simp) | refine jD ?_ ?_)
theorem flagR_e (p : Pt) (f : Nat) : ∀ (k i : Nat) (off : Bool) (on of_ : Int), GE (flagR p f k i off on of_)
 | 0, _, _, _, _ => jq (by simp)
 | k + 1, i, off, on, of_ => by
  rw [flagR]
  repeat' (first | exact zL _ _ _ | exact jq (by simp) | exact flagR_e p f k _ _ _ _ | refine jD ?_ ?_)
theorem condE_e (p : Pt) (f : Nat) (t : Tk) (to_ : Nat) (ok : Bool) : GE (condE p f t to_ ok) := by
 unfold condE
 repeat' (first | exact zL _ _ _ | exact jq (by simp) | refine jD ?_ ?_)
theorem condR_e (p : Pt) (f i : Nat) : GE (condR p f i) := by
 unfold condR condN
 repeat' (first | exact zL _ _ _ | exact jq (by simp) | exact condE_e _ _ _ _ _ | refine jD ?_ ?_)
theorem verbR_e (p : Pt) (f : Nat) : GE (verbR p f) := by
 have hv : ∀ (f i : Nat) (word arg : ByteArray) (wth : Bool), GE (verbG f i word arg wth) := fun f i word arg wth => by
  unfold verbG
  repeat' (first | exact zL _ _ _ | exact jq (by simp) | refine jD ?_ ?_)
 unfold verbR;split
 ·exact jq (by simp)
 ·split
  ·exact hv _ _ _ _ _
  ·exact hv _ _ _ _ _
theorem kindR_e (p : Pt) (f i : Nat) : ∀ (l : List (List UInt8 × Int)), ∀ g, kindR p f i l = some g → GE g
 | [], g, h => by cases h
 | (s, k) :: l, g, h => by
  rw [kindR] at h;split at h
  ·cases h;exact zL _ _ _
  ·exact kindR_e p f i l g h
theorem numR_e (p : Pt) (f i : Nat) : GE (numR p f i) := by
 have h1 := shutR_e p { kind := 12, n := (sgn p i).1, m := (sgn p i).2.1 } f (sgn p i).2.2.1 [41];unfold numR;simp only;refine jD (jq (by simp)) (jD (jD (jq (by simp)) (jq (by simp))) ?_);split
 ·rename_i e he;exact jq (h1 _ he)
 ·exact jD (jq (by simp)) (ge_ok _)
theorem openK_e (p : Pt) (f i : Nat) : GE (openK p f i) := by
 unfold openK
 repeat' (first | exact callR_e _ _ _ _ _ | exact shutR_e _ _ _ _ _ | exact condR_e _ _ _ | exact numR_e _ _ _ | exact flagR_e _ _ _ _ _ _ _ | exact jq (by simp) | refine jD ?_ ?_)
 split
 ·exact jq (by simp)
 ·exact ge_ok _
theorem openR_e (p : Pt) (f : Nat) : GE (openR p f) := by
 unfold openR;refine jD (verbR_e _ _) (jD (zL _ _ _) (jD (jq (by simp)) ?_));split
 ·rename_i g hg;exact kindR_e p f (f + 2) kindsT g hg
 ·exact openK_e _ _ _
theorem tokR_e (p : Pt) (i : Nat) : GE (tokR p i) := by
 have hq : ∀ (i to_ : Nat) (n m : Int), GE (quan p i to_ n m) := fun i to_ n m => zL _ _ _
 rw [tokR_eq]
 repeat' (first | exact ge_ok _ | exact zL _ _ _ | exact escR_e _ _ | exact clsR_e _ _ | exact openR_e _ _ | exact hq _ _ _ _ | refine jD ?_ ?_)
 split
 ·exact zL _ _ _
 ·repeat' (first | exact jq (by simp) | exact hq _ _ _ _ | refine jD ?_ ?_)
theorem lexF_e (p : Pt) : ∀ (k : Nat) (q : Bool) (T : List Tk) (i : Nat), GE (lexF p k q T i)
 | 0, _, T, _ => ge_ok _
 | k + 1, q, T, i => by
  have h := tokR_e p i;rw [lexF];refine jD (ge_ok _) (jD (jD (lexF_e p k _ _ _) (lexF_e p k _ _ _)) (jD (lexF_e p k _ _ _) ?_));split
  ·rename_i e he;exact jq (h _ he)
  ·exact lexF_e p k _ _ _
  ·exact lexF_e p k _ _ _
theorem rlex_e (g : Nat → Int) (n : Nat) (o : Int) : GE (rlexP g n o) := by unfold rlexP;exact jD (jq (by simp)) (jD (jq (by simp)) (jD (jq (by simp)) (lexF_e _ _ _ _ _)))
end rtw
end
section
namespace rsw
open sq
open Go Go.RowKit Go.Maps utfw tkp trp trw rpp rsp rtp setw
open rtw (TkB Bd LexB rlex_any str_size Pat lexF_ok)
open rpw (sees jB TkIn LOk ParB rparse_any qh ql qp jm qI)
open tkw (sg)
theorem rlex_err {n : Nat} {g : Nat → Int} {o : Int} {x : Int × Int} (h : rlexP (sg (strOf n g)) n o = .error x) : x.1 ≠ 0 := rtw.rlex_e _ _ _ _ h
theorem strip_strip : ∀ f : F, strip (strip f) = strip f
 | .nil => rfl
 | .cons x k r => by rw [strip, strip, strip_strip k, strip_strip r]
theorem okF_strip : ∀ {f : F}, OkF f ↔ OkF (strip f)
 | .nil => Iff.rfl
 | .cons x k r => by rw [strip];unfold OkF;rw [okF_strip (f := k), okF_strip (f := r), jm]
theorem node_bare (u : Bool) (m : Int) (rk : Int → F × Int) (x : Lab) (k : F) (f : Int) : nodeP u m rk (bare x) (strip k) f = nodeP u m rk x k f := by unfold nodeP;rw [strip_strip];rfl
theorem row_strip (u : Bool) (m : Int) : ∀ (l : F) (f : Int), rowP u m (strip l) f = rowP u m l f
 | .nil, _ => rfl
 | .cons x k r, f => by
  have e : (fun g => rowP u m (strip k) g) = fun g => rowP u m k g := funext fun g => row_strip u m k g
  rw [strip, rowP, rowP];show (F.app (nodeP u m (fun g => rowP u m (strip k) g) (bare x) (strip k) f).1 (rowP u m (strip r) (nodeP u m (fun g => rowP u m (strip k) g) (bare x) (strip k) f).2).1, (rowP u m (strip r) (nodeP u m (fun g => rowP u m (strip k) g) (bare x) (strip k) f).2).2) = _;rw [e, node_bare, row_strip u m r]
theorem res_strip (x : Lab) (k : F) (o : Int) : resP (bare x, strip k) o = resP (x, k) o := by
 unfold resP;have e : ∀ u m, (fun g => rowP u m (strip k) g) = fun g => rowP u m k g := fun u m => funext fun g => row_strip u m k g
 simp only [e, node_bare]
theorem parse_err {L : List Tk} {n : Int} {x : Int × Int} (h : parseP L n = .error x) : x.1 ≠ 0 := by
 unfold parseP at h;generalize run L (3 * L.length + 3) (.alt .nil) { i := 0 } = r at h;simp only at h;generalize (if r.2.e = 0 ∧ r.2.i < L.length then failS r.2 31 (L.getD r.2.i zeroT).at_ else r.2) = s at h;split at h
 ·cases h;simp
 ·split at h
  ·rename_i h1;cases h;exact h1
  ·cases h
theorem below_row0 {w w2 : World} (h : Below w.heap.size w w2) (o : Obj) (cs : Array Value) : Below w.heap.size w ((w2.alloc o).setRow w2.heap.size cs) :=
 trw.qi h (rpw.qC (qg w2 o) cs (xL _))
def flatP (g : Nat → Int) (n : Nat) (o : Int) : Option F := match rlexP g n o with
 | .error _ => none
 | .ok T => match parseP T n with
  | .error _ => none
  | .ok f => match f with
   | .nil => none
   | .cons x k _ => some (resP (x, k) o)
theorem rlex_ok {n : Nat} {g : Nat → Int} {o : Int} {T : List Tk} (h : rlexP (sg (strOf n g)) n o = .ok T) : (∀ t ∈ T, TkB t ∧ t.at_ ≤ n) ∧ T.length ≤ n ∧ n ≤ 1000 := by
 unfold rlexP at h;split at h
 ·cases h
 ·split at h
  ·cases h
  ·rename_i hn;split at h
   ·cases h
   ·have hsz := str_size n g;have hP : Pat (strOf n g) { g := sg (strOf n g), n := n, u := o.toNat.testBit 5, x := o.toNat.testBit 3 } := ⟨rfl, hsz.symm, by rw [hsz]; omega⟩;have := lexF_ok hP (n + 1) false [] 0 T (fun t ht => by cases ht) (Nat.zero_le _) (Nat.zero_le _) h;exact ⟨this.1, this.2, by omega⟩
end rsw
end
section
namespace gpp
open sq
open Go trp rpp
def AllNm : F → Prop
 | .nil => True
 | .cons x k r => x.name.size ≤ 9223372036854775807 ∧ AllNm k ∧ AllNm r
def refF (rs : Bool) (last : Int) : F → Int → F × Int
 | .nil, most => (.nil, most)
 | .cons x k r, most =>
  let a := if rs = true then last else most
  let b := if x.kind = 14 then a + 1 else a
  let q := refF (decide (x.kind = 16)) b k b
  let t := refF rs last r (if most < q.2 then q.2 else most)
  (.cons (if x.kind = 14 then { x with n := a + 1 } else x) q.1 t.1, t.2)
def capL : F → List Lab
 | .nil => []
 | .cons x k r => (if x.kind = 14 then [x] else []) ++ capL k ++ capL r
abbrev Nm := List (ByteArray × Int)
def addR (x : Lab) (l : Nm) : Int × Nm :=
 if 60 < x.n then (12, l) else if x.name.size = 0 then (0, l)
 else if (l.any fun q => decide (q.1 = x.name) && decide (q.2 ≠ x.n)) = true then (33, l)
 else if (l.any fun q => decide (q.1 = x.name)) = true then (0, l) else (0, l ++ [(x.name, x.n)])
def nameR : Nm → List Lab → (Int × Int) × Nm
 | l, [] => ((0, 0), l)
 | l, x :: c => if (addR x l).1 ≠ 0 then (((addR x l).1, x.at_), l) else nameR (addR x l).2 c
theorem ref_le : ∀ (l : F) (rs : Bool) (last most : Int), most ≤ (refF rs last l most).2
 | .nil, _, _, _ => Int.le_refl _
 | .cons x k r, rs, last, most => by rw [refF];simp only;refine Int.le_trans ?_ (ref_le r rs last _);split <;> omega
end gpp
end
end Go.Proofs.Ytdgfclbajjjcgaa
