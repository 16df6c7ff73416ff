/- T -/
import Derived.BigQuiet
import Derived.Deep.Cut
import Derived.Deep.DeepCutAuto
import Derived.Lib.QuietBelow
import Derived.Test.YtdgfclbajjjcgaaBWb09
set_option maxHeartbeats 16000000
set_option maxRecDepth 1000000
namespace Go.Proofs.Ytdgfclbajjjcgaa
section
namespace rtw
open sq
open Go Go.RowKit Go.Maps utfp utfw ucdp setp setw prp tkp rtp
open tkw (sg sg_bd vJ jM qK tkR qO qM vI)
open Go.Sort
open tkw (ownR_new)
theorem simN_pos {c : Int} (h : ji c ≠ 0) : simN c = ji c ∧ 0 ≤ ji c := by
 refine ⟨by unfold simN; rw [if_neg h], ?_⟩;unfold ji
 repeat' (first | omega | split)
theorem simN_neg {c : Int} (h : ji c = 0) : simN c = -1 := by unfold simN; rw [if_pos h]
theorem assertE_ge (c : Int) : 0 ≤ vZ c := by
 unfold vZ
 repeat' (first | omega | split)
theorem char_val {S : ByteArray} {p : Pt} (h : Pat S p) {a : Nat} (ha : a < p.n) : 0 ≤ (p.char a).1 ∧ (p.char a).1 ≤ 1114111 := by
 have h1 := tkw.char_val (jS h) (a := a) (by omega);refine ⟨?_, h1.2⟩;have h2 := (tkw.char_pure (jS h) (a := a) (by omega)).1;rw [nextP_step _ _ _ _ (jS h) ha] at h2;have h3 : (stepv p.u p.g p.n a).1 = (p.char a).1 := (Prod.mk.inj h2).1;rw [← h3];have h4 := jS h a;have h5 := seqAt_num (n := p.n) (p := a) (jS h);unfold stepv
 repeat' (first | omega | split)
theorem hexz_in {S : ByteArray} {p : Pt} (h : Pat S p) {i j : Nat} (hi : i ≤ p.n) {v : Int} (e : hexz p i = some (v, j)) : 0 ≤ v ∧ v ≤ 1114111 ∧ i ≤ j ∧ j ≤ p.n := by
 have hm := vH p;have key : ∀ (m a : Nat), a ≤ p.n → m ≤ 7 → 0 ≤ (p.hexd m a).1 ∧ a ≤ (p.hexd m a).2 ∧ (p.hexd m a).2 ≤ p.n := by intro m a ha hm7;have hb := tkw.run_bd (fits := zn) (k := m) ha;refine ⟨?_, hb.1, hb.2.1⟩;refine (hexVal_le (l := p.run zn m a - a) (fun q hq => ⟨by omega, tkw.run_fits (k := m) (a := a) (by omega) (by omega)⟩) (by omega)).1
 unfold hexz at e;split at e
 ·rename_i h1;have hin := qR h h1;simp only [dA, Nat.zero_add] at hin;split at e
  ·cases e
  ·rename_i h2;have k := key 7 (i + 1) hin (by decide);have h125 : p.has [125] (p.hexd 7 (i + 1)).2 = true := by
    cases hh : p.has [125] (p.hexd 7 (i + 1)).2 with
    | true => rfl
    | false => exact absurd (Or.inr (Or.inr hh)) h2
   have h3 := qR h h125;simp only [dA, Nat.zero_add] at h3;unfold hexC at e;split at e
   ·cases e
   ·rename_i h4;simp only [dG, dL] at e;simp only at h4;obtain ⟨rfl, rfl⟩ := e;exact ⟨k.1, by omega, by omega, h3⟩
 ·have k := key 2 i hi (by decide);unfold hexC at e;split at e
  ·cases e
  ·rename_i h4;have e2 := Option.some.inj e;rw [e2] at h4 k;simp only at h4 k;exact ⟨k.1, by omega, k.2.1, k.2.2⟩
theorem let_small {c : Int} (h : isLet c = true) : c < 128 := by simp only [isLet, Bool.or_eq_true, dK, dF] at h;omega
theorem cellR {w : World} {a : Addr} {v : Value} (h : w.cell? a = some v) : ∀ d os, (grow (redrawn w d) os).cell? a = some v := fun d os => qf (below_regrown w d os) h
def BackRel (w : World) (B : Nat) (S : ByteArray) (p : Pt) (i z : Nat) (vk : Value) (wr : World) : Prop :=
 ∃ k : Nat, k ≤ 3 ∧ vk = .int .i64 k ∧ Hid (backR p i z (quotT.drop k) = backR p i z quotT) ∧ FG w B S p wr
theorem many_err {p : Pt} {c : Int} {i : Nat} {x : Int} (h : many p c i = .error x) : x = 24 := by
 unfold many at h;split at h
 ·split at h
  ·cases h; rfl
  ·split at h
   ·cases h
   ·cases h; rfl
 ·split at h <;> cases h
theorem escape_any (S : ByteArray) (p : Pt) (w : World) (hP : Pat S p) (i : Nat) (hi : i < p.n) : Calls Try.prog 64 #[txV S p, .int .i64 i] w (GotB w (escR p i)) := by
 have hn := hP.n;have h2 := hP.le;have HP := xH hP;have HN := xH hn;clear hP;rw [hn] at hi;clear hn;unfold txV txC;go_enter Try.func64, Try.ntmps64;go_upto_region 1 with (fail)
 generalize hW : (w.alloc _).alloc _ = W;have F0 := xH (fg_start (S := S) (p := p) hW);obtain ⟨B, hB⟩ : ∃ B, w.heap.size = B := ⟨_, rfl⟩;rw [hB] at F0 ⊢;clear hW hB;obtain ⟨c0, c1, c2, c3⟩ := F0.out.c;by_cases h0 : i + 1 = S.size
 ·have HR := xH (show escR p i = .error (20, p.n) by unfold escR; rw [if_pos (by rw [HN.out]; exact h0)]);have hb0 : ((i : Int) + 1 == (S.size : Int)) = true := by simp; omega
  go_wp2_with fail
  refine xM (end_any S p _ HP.out) ?_;intro e w1 h;obtain ⟨v, rfl, HO, F1, old, HG, hz⟩ := yJ F0 h;clear h c0 c1 c2 c3;go_wp2_with (refine yR HG hz HO ?_)
  exact yW HG F1 HR HO
 have hb0 : ((i : Int) + 1 == (S.size : Int)) = false := by simp; omega
 go_wp2_with fail
 refine xM (char_any S p _ HP.out (i + 1) (by rw [HN.out]; omega)) ?_;rintro e w1 ⟨rfl, hb⟩;have F1 := xH (F0.out.step hb);clear hb c0 c1 c2 c3;obtain ⟨c0, c1, c2, c3⟩ := F1.out.c;obtain ⟨z1, z2⟩ := zM HP.out (a := i + 1) (by rw [HN.out]; omega);obtain ⟨y1, y2⟩ := char_val HP.out (a := i + 1) (by rw [HN.out]; omega);rw [HN.out] at z2;have HE : Hid (escR p i = (let c := (p.char (i + 1)).1; let to_ := (p.char (i + 1)).2; if ji c ≠ 0 then gtok { kind := 1, c := ji c } i to_ else if c = 120 then (match hexz p to_ with | none => .error (21, i) | some (v, e) => gtok { kind := 1, c := v } i e) else if c = 78 then gtok { kind := 2, set := [(10, 10)], neg := true } i to_ else if vZ c ≠ 0 then gtok { kind := 4, n := vZ c } i to_ else if c = 75 then gtok { kind := 5 } i to_ else if c = 82 then gtok { kind := 6 } i to_ else if c = 69 then .ok (none, to_) else if 49 ≤ c ∧ c ≤ 57 then (if (num p (i + 1)).2.2 = true then .error (25, i) else gtok { kind := 11, n := (num p (i + 1)).1 } i (num p (i + 1)).2.1) else if c = 103 then refR p i to_ else if c = 107 then backR p i to_ quotT else match many p c to_ with | .error e => .error (e, i) | .ok (some (l, neg, e)) => gtok { kind := 2, set := l, neg := neg } i e | .ok none => if c = 48 ∨ isLet c = true then .error (21, i) else gtok { kind := 1, c := c } i to_)) := xH (by unfold escR; rw [if_neg (by rw [HN.out]; exact h0)]; rfl);generalize (p.char (i + 1)).1 = c at *;generalize (p.char (i + 1)).2 = z at *;have HE0 : Hid (escR p i = if ji c ≠ 0 then _ else _) := xH HE.out;clear HE h0;go_wp2_with fail
 refine (simple_any c _).mono ?_;rintro e w1' ⟨rfl, rfl⟩;by_cases hs : ji c ≠ 0
 ·have HR := xH (HE0.out.trans (if_pos hs));obtain ⟨s1, s2⟩ := simN_pos hs;rw [s1];clear hs HE0;go_wp2_with fail
  refine (simple_any c _).mono ?_;rintro e w1'' ⟨rfl, rfl⟩;rw [s1];go_wp2_with fail
  refine xM (qF (.slice none 0 0) ({ kind := 1, c := ji c }) (i) (z) _ (k := B) (qm _ _)) ?_;exact z69
 have HE1 := xH (HE0.out.trans (if_neg hs));rw [simN_neg (by simpa using hs)];clear hs HE0;by_cases h1 : c = 120
 ·have HR1 := xH (HE1.out.trans (if_pos h1));have b1 : (c == 120) = true := by simp [h1]
  clear h1 HE1;go_wp2_with fail
  refine (hexa_any S p _ HP.out z (by rw [HN.out]; omega)).mono ?_;rintro e w2 ⟨⟨v, j, rfl, hj, hv⟩, hb⟩;have F2 := xH (F1.out.step hb);clear hb c0 c1 c2 c3;obtain ⟨c0, c1, c2, c3⟩ := F2.out.c;rcases hv with ⟨hv, rfl⟩ | hv
  ·have HR := xH (HR1.out.trans (show _ = Except.error (21, (i : Int)) by rw [hv]));exact z85
  ·have HR := xH (HR1.out.trans (show _ = gtok { kind := 1, c := v } i j by rw [hv]));obtain ⟨hv0, hv1, hj1, hj2⟩ := hexz_in HP.out (by rw [HN.out]; omega) hv;go_wp2_with fail
   refine xM (qF (.slice none 0 0) ({ kind := 1, c := v }) (i) (j) _ (k := B) (qm _ _)) ?_;exact z70
 have HE2 := xH (HE1.out.trans (if_neg h1));have b1 : (c == 120) = false := by simp [h1]
 clear h1 HE1;by_cases h2 : c = 78
 ·have HR := xH (HE2.out.trans (if_pos h2));have b2 : (c == 78) = true := by simp [h2]
  clear h2 HE2;have F2 := xH (F1.out.step (qK w1 (.cells #[.int .i64 10, .int .i64 10] 69)));have HW := xH (ownR_new (x := 10) (y := 10) (w := w1) (b0 := B) (Nat.le_of_lt F1.out.x.lt) rfl);go_wp2_with fail
  refine xM (qF (.slice (some ⟨w1.heap.size, 0, none⟩) 1 1) ({ kind := 2, set := [(10, 10)], neg := true }) (i) (z) _ (k := B) (HW.out)) ?_;rintro e w3 ⟨rfl, ho, hb⟩;have F3 := xH (F2.out.step hb);have HO := xH ho;clear hb ho c0 c1 c2 c3;obtain ⟨old, HG, hz⟩ := xG F3;go_wp2_with (refine qJ rfl rfl _ _ rfl (B + 1) rfl _ _ HG.out hz (jw (.slice (some ⟨w1.heap.size, 0, none⟩) 1 1) _) (jO HO.out _) rfl ?_)
  refine xB (qW rfl _ _ (B + 1) _ rfl (setRow_heap _ _ _ _ _ _ HG.out) (jw (.slice (some ⟨w1.heap.size, 0, none⟩) 1 1) _)) rfl ?_;exact qj F3.out HR.out HO.out (xL _)
 have HE3 := xH (HE2.out.trans (if_neg h2));have b2 : (c == 78) = false := by simp [h2]
 clear h2 HE2;go_wp2_with fail
 refine (assert_any c _).mono ?_;rintro e w1' ⟨rfl, rfl⟩;by_cases h3 : vZ c ≠ 0
 ·have HR := xH (HE3.out.trans (if_pos h3));have hp3 : 0 < vZ c := by have := assertE_ge c; omega
  clear h3 HE3;go_wp2_with fail
  refine (assert_any c _).mono ?_;rintro e w1'' ⟨rfl, rfl⟩;go_wp2_with fail
  refine xM (qF (.slice none 0 0) ({ kind := 4, n := vZ c }) (i) (z) _ (k := B) (qm _ _)) ?_;exact z69
 have HE4 := xH (HE3.out.trans (if_neg h3));have hp3 : ¬ 0 < vZ c := by have := assertE_ge c; omega
 clear h3 HE3;by_cases h4 : c = 75
 ·have HR := xH (HE4.out.trans (if_pos h4));have b4 : (c == 75) = true := by simp [h4]
  clear h4 HE4;go_wp2_with fail
  refine xM (qF (.slice none 0 0) ({ kind := 5 }) (i) (z) _ (k := B) (qm _ _)) ?_;exact z69
 have HE5 := xH (HE4.out.trans (if_neg h4));have b4 : (c == 75) = false := by simp [h4]
 clear h4 HE4;by_cases h5 : c = 82
 ·have HR := xH (HE5.out.trans (if_pos h5));have b5 : (c == 82) = true := by simp [h5]
  clear h5 HE5;go_wp2_with fail
  refine xM (qF (.slice none 0 0) ({ kind := 6 }) (i) (z) _ (k := B) (qm _ _)) ?_;exact z69
 have HE6 := xH (HE5.out.trans (if_neg h5));have b5 : (c == 82) = false := by simp [h5]
 clear h5 HE5;by_cases h6 : c = 69
 ·have HR := xH (HE6.out.trans (if_pos h6));have b6 : (c == 69) = true := by simp [h6]
  clear h6 HE6;obtain ⟨old, HG, hz⟩ := xG F1;go_wp2_with (refine qJ rfl rfl _ _ rfl (B + 1) rfl _ (gtC (.slice none 0 0) (.ok (none, z))) HG.out hz (jw _ _) (jO (qm w1 0) _) rfl ?_)
  refine xB (qW rfl _ _ (B + 1) (gtC (.slice none 0 0) (.ok (none, z))) rfl (setRow_heap _ _ _ _ _ _ HG.out) (jw _ _)) rfl ?_;exact qj F1.out HR.out (k := B) (qm _ _) (xL _)
 have HE7 := xH (HE6.out.trans (if_neg h6));have b6 : (c == 69) = false := by simp [h6]
 clear h6 HE6;by_cases h7 : 49 ≤ c ∧ c ≤ 57
 ·have HR1 := xH (HE7.out.trans (if_pos h7));obtain ⟨h7a, h7b⟩ := h7;clear HE7;go_wp2_with fail
  refine xM (vY S p _ HP.out (i + 1) (by rw [HN.out]; omega)) ?_;rintro e w2 ⟨rfl, hb⟩;have F2 := xH (F1.out.step hb);clear hb c0 c1 c2 c3;obtain ⟨c0, c1, c2, c3⟩ := F2.out.c;obtain ⟨q1, q2⟩ := num_bd (p := p) (a := i + 1) (by rw [HN.out]; omega);generalize (num p (i + 1)).1 = n at *;generalize (num p (i + 1)).2.1 = b at *;generalize (num p (i + 1)).2.2 = g at *;cases g with
  | true =>
   have HR := xH (HR1.out.trans (if_pos rfl));exact z85
  | false =>
   have HR := xH (HR1.out.trans (if_neg (by simp)));go_wp2_with fail
   refine xM (qF (.slice none 0 0) ({ kind := 11, n := n }) (i) (b) _ (k := B) (qm _ _)) ?_;exact z70
 have HE8 := xH (HE7.out.trans (if_neg h7));have h7c : c < 49 ∨ 57 < c := by omega
 clear h7 HE7;by_cases h8 : c = 103
 ·have HR := xH (HE8.out.trans (if_pos h8));have b8 : (c == 103) = true := by simp [h8]
  have h7d : ¬ c ≤ 57 := by omega
  clear h7c h8 HE8;go_wp2_with fail
  refine xM (refer_any S p _ HP.out i z (by rw [HN.out]; omega)) ?_;exact z129
 have HE9 := xH (HE8.out.trans (if_neg h8));have b8 : (c == 103) = false := by simp [h8]
 clear h8 HE8;by_cases h9 : c = 107
 ·have HR := xH (HE9.out.trans (if_pos h9));have b9 : (c == 107) = true := by simp [h9]
  have h7d : ¬ c ≤ 57 := by omega
  clear h7c h9 HE9;have HK := xH (HR.out);go_wp2_with fail
  go_loopw [14] (fun vk wr => BackRel w B S p i z vk wr) (fun vk _ => 3 - (intOf vk).toNat)
  case atStart => exact ⟨0, by omega, rfl, xH rfl, F1.out⟩
  case round =>
   obtain ⟨k, hk, rfl, hbk, hF⟩ := hrel;have F3 := xH hF;clear hF;obtain ⟨c0, c1, c2, c3⟩ := F3.out.c;obtain rfl | rfl | rfl | rfl : k = 0 ∨ k = 1 ∨ k = 2 ∨ k = 3 := by omega
   ·cases hh : p.has [123] z with
    | false =>
     have cA : ∀ d os, Calls Try.prog 47 #[.agg #[.string S, .bool p.u, .bool p.x, .int .i64 p.most], .int .i64 z, .string ⟨#[123]⟩] (grow (redrawn wr d) os) fun e w'' => e = .returned (.bool false) ∧ ∃ q : Regrown, w'' = grow (redrawn wr q.d) q.os := fun d os => by exact z95
     have sl0 : ∀ wx, (Instr.slice 9 (.string ⟨#[123, 60, 39]⟩) (some (.int .i64 0)) (some (.int .i64 (0 + 1))) none).run Try.prog wx = .ok (.string ⟨#[123]⟩) wx := fun _ => by kernel_rfl
     have sl1 : ∀ wx, (Instr.slice 9 (.string ⟨#[123, 60, 39]⟩) (some (.int .i64 0)) (some (.int .i64 1)) none).run Try.prog wx = .ok (.string ⟨#[123]⟩) wx := fun _ => by kernel_rfl
     have sl2 : ∀ wx, (Instr.slice 9 (.string ⟨#[123, 60, 39]⟩) (some (.int .i64 ((0 : Nat) : Int))) (some (.int .i64 (((0 : Nat) : Int) + 1))) none).run Try.prog wx = .ok (.string ⟨#[123]⟩) wx := fun _ => by kernel_rfl
     have k0 := cellR c0;have k1 := cellR c1;have k2 := cellR c2;have k3 := cellR c3;go_wp2_with fail
     refine wp_region_quiet_below (by kernel_rfl) (by kernel_rfl) ?_
     repeat (go_big_quiet_step (first | exact cA _ _))
     refine wpQuiet_nil ?_;intro _ hw';obtain ⟨⟨dq, osq⟩, hw''⟩ := hw';subst hw'';have hb := below_regrown wr dq osq;generalize grow (redrawn wr dq) osq = w4 at *;have HN1 := xH (show backR p i z (quotT.drop 1) = backR p i z quotT from Eq.trans (Eq.symm (show backR p i z (([123], [125]) :: quotT.drop 1) = _ by rw [backR, if_neg (by simp [hh])])) hbk.out);go_wp2_with fail
     exact ⟨⟨1, by omega, rfl, HN1, F3.out.step hb⟩, by simp [intOf]⟩
    | true =>
     have hin := qR HP.out hh;rw [HN.out] at hin;simp only [dA, Nat.zero_add] at hin;have cA : ∀ d os, Calls Try.prog 47 #[.agg #[.string S, .bool p.u, .bool p.x, .int .i64 p.most], .int .i64 z, .string ⟨#[123]⟩] (grow (redrawn wr d) os) fun e w'' => e = .returned (.bool true) ∧ ∃ q : Regrown, w'' = grow (redrawn wr q.d) q.os := fun d os => by exact z95
     have sl0 : ∀ wx, (Instr.slice 9 (.string ⟨#[123, 60, 39]⟩) (some (.int .i64 0)) (some (.int .i64 (0 + 1))) none).run Try.prog wx = .ok (.string ⟨#[123]⟩) wx := fun _ => by kernel_rfl
     have sl1 : ∀ wx, (Instr.slice 9 (.string ⟨#[123, 60, 39]⟩) (some (.int .i64 0)) (some (.int .i64 1)) none).run Try.prog wx = .ok (.string ⟨#[123]⟩) wx := fun _ => by kernel_rfl
     have sl2 : ∀ wx, (Instr.slice 9 (.string ⟨#[123, 60, 39]⟩) (some (.int .i64 ((0 : Nat) : Int))) (some (.int .i64 (((0 : Nat) : Int) + 1))) none).run Try.prog wx = .ok (.string ⟨#[123]⟩) wx := fun _ => by kernel_rfl
     have k0 := cellR c0;have k1 := cellR c1;have k2 := cellR c2;have k3 := cellR c3;go_wp2_with fail
     refine wp_region_quiet_below (by kernel_rfl) (by kernel_rfl) ?_
     repeat (go_big_quiet_step (first | exact cA _ _))
     refine wpQuiet_nil ?_;intro _ hw';obtain ⟨⟨dq, osq⟩, hw''⟩ := hw';subst hw'';have hb := below_regrown wr dq osq;generalize grow (redrawn wr dq) osq = w4 at *;have F4 := xH (F3.out.step hb);clear hb c0 c1 c2 c3 k0 k1 k2 k3 cA sl0 sl1 sl2;obtain ⟨c0, c1, c2, c3⟩ := F4.out.c;go_wp2_with fail
     refine xM (name_any S p _ HP.out (z + 1) (by rw [HN.out]; exact hin)) ?_;rintro e w5 ⟨rfl, hb⟩;have F5 := xH (F4.out.step hb);clear hb c0 c1 c2 c3;obtain ⟨c0, c1, c2, c3⟩ := F5.out.c;obtain ⟨m1, m2⟩ := zh (p := p) (a := z + 1) (by rw [HN.out]; exact hin);rw [HN.out] at m2;have HB := xH (show backR p i z (([123], [125]) :: quotT.drop 1) = (if (p.name (z + 1)).2 = true ∧ p.has [125] (p.name (z + 1)).1 = true then gtok { kind := 11, name := p.sub (z + 1) (p.name (z + 1)).1, m := 3 } i ((p.name (z + 1)).1 + 1) else backR p i z (quotT.drop 1)) by rw [backR, if_pos hh]);generalize (p.name (z + 1)).1 = y at *;generalize (p.name (z + 1)).2 = ok at *;generalize p.sub (z + 1) y = nm at *;have k0 := cellR c0;have k1 := cellR c1;have k2 := cellR c2;have k3 := cellR c3;cases ok with
     | false =>
      have cA : True := trivial;go_wp2_with fail
      refine wp_region_quiet_below (by kernel_rfl) (by kernel_rfl) ?_
      repeat (go_big_quiet_step (fail))
      refine wpQuiet_nil ?_;intro _ hw';obtain ⟨⟨dq, osq⟩, hw''⟩ := hw';subst hw'';have hb := below_regrown w5 dq osq;generalize grow (redrawn w5 dq) osq = w6 at *;have HN1 := xH (show backR p i z (quotT.drop 1) = backR p i z quotT from Eq.trans (Eq.symm (HB.out.trans (if_neg (by simp)))) hbk.out);go_wp2_with fail
      exact ⟨⟨1, by omega, rfl, HN1, F5.out.step hb⟩, by simp [intOf]⟩
     | true =>
      cases hh2 : p.has [125] y with
      | false =>
       have cA : ∀ d os, Calls Try.prog 47 #[.agg #[.string S, .bool p.u, .bool p.x, .int .i64 p.most], .int .i64 y, .string ⟨#[125]⟩] (grow (redrawn w5 d) os) fun e w'' => e = .returned (.bool false) ∧ ∃ q : Regrown, w'' = grow (redrawn w5 q.d) q.os := fun d os => by exact z94
       have sl0 : ∀ wx, (Instr.slice 9 (.string ⟨#[125, 62, 39]⟩) (some (.int .i64 0)) (some (.int .i64 (0 + 1))) none).run Try.prog wx = .ok (.string ⟨#[125]⟩) wx := fun _ => by kernel_rfl
       have sl1 : ∀ wx, (Instr.slice 9 (.string ⟨#[125, 62, 39]⟩) (some (.int .i64 0)) (some (.int .i64 1)) none).run Try.prog wx = .ok (.string ⟨#[125]⟩) wx := fun _ => by kernel_rfl
       have sl2 : ∀ wx, (Instr.slice 9 (.string ⟨#[125, 62, 39]⟩) (some (.int .i64 ((0 : Nat) : Int))) (some (.int .i64 (((0 : Nat) : Int) + 1))) none).run Try.prog wx = .ok (.string ⟨#[125]⟩) wx := fun _ => by kernel_rfl
       go_wp2_with fail
       refine wp_region_quiet_below (by kernel_rfl) (by kernel_rfl) ?_
       repeat (go_big_quiet_step (first | exact cA _ _))
       refine wpQuiet_nil ?_;intro _ hw';obtain ⟨⟨dq, osq⟩, hw''⟩ := hw';subst hw'';have hb := below_regrown w5 dq osq;generalize grow (redrawn w5 dq) osq = w6 at *;have HN1 := xH (show backR p i z (quotT.drop 1) = backR p i z quotT from Eq.trans (Eq.symm (HB.out.trans (if_neg (by simp [hh2])))) hbk.out);go_wp2_with fail
       exact ⟨⟨1, by omega, rfl, HN1, F5.out.step hb⟩, by simp [intOf]⟩
      | true =>
       have cA : ∀ d os, Calls Try.prog 47 #[.agg #[.string S, .bool p.u, .bool p.x, .int .i64 p.most], .int .i64 y, .string ⟨#[125]⟩] (grow (redrawn w5 d) os) fun e w'' => e = .returned (.bool true) ∧ ∃ q : Regrown, w'' = grow (redrawn w5 q.d) q.os := fun d os => by exact z94
       have sl0 : ∀ wx, (Instr.slice 9 (.string ⟨#[125, 62, 39]⟩) (some (.int .i64 0)) (some (.int .i64 (0 + 1))) none).run Try.prog wx = .ok (.string ⟨#[125]⟩) wx := fun _ => by kernel_rfl
       have sl1 : ∀ wx, (Instr.slice 9 (.string ⟨#[125, 62, 39]⟩) (some (.int .i64 0)) (some (.int .i64 1)) none).run Try.prog wx = .ok (.string ⟨#[125]⟩) wx := fun _ => by kernel_rfl
       have sl2 : ∀ wx, (Instr.slice 9 (.string ⟨#[125, 62, 39]⟩) (some (.int .i64 ((0 : Nat) : Int))) (some (.int .i64 (((0 : Nat) : Int) + 1))) none).run Try.prog wx = .ok (.string ⟨#[125]⟩) wx := fun _ => by kernel_rfl
       exact z14
   ·cases hh : p.has [60] z with
    | false =>
     have cA : ∀ d os, Calls Try.prog 47 #[.agg #[.string S, .bool p.u, .bool p.x, .int .i64 p.most], .int .i64 z, .string ⟨#[60]⟩] (grow (redrawn wr d) os) fun e w'' => e = .returned (.bool false) ∧ ∃ q : Regrown, w'' = grow (redrawn wr q.d) q.os := fun d os => by exact z99
     have sl0 : ∀ wx, (Instr.slice 9 (.string ⟨#[123, 60, 39]⟩) (some (.int .i64 1)) (some (.int .i64 (1 + 1))) none).run Try.prog wx = .ok (.string ⟨#[60]⟩) wx := fun _ => by kernel_rfl
     have sl1 : ∀ wx, (Instr.slice 9 (.string ⟨#[123, 60, 39]⟩) (some (.int .i64 1)) (some (.int .i64 2)) none).run Try.prog wx = .ok (.string ⟨#[60]⟩) wx := fun _ => by kernel_rfl
     have sl2 : ∀ wx, (Instr.slice 9 (.string ⟨#[123, 60, 39]⟩) (some (.int .i64 ((1 : Nat) : Int))) (some (.int .i64 (((1 : Nat) : Int) + 1))) none).run Try.prog wx = .ok (.string ⟨#[60]⟩) wx := fun _ => by kernel_rfl
     have k0 := cellR c0;have k1 := cellR c1;have k2 := cellR c2;have k3 := cellR c3;go_wp2_with fail
     refine wp_region_quiet_below (by kernel_rfl) (by kernel_rfl) ?_
     repeat (go_big_quiet_step (first | exact cA _ _))
     refine wpQuiet_nil ?_;intro _ hw';obtain ⟨⟨dq, osq⟩, hw''⟩ := hw';subst hw'';have hb := below_regrown wr dq osq;generalize grow (redrawn wr dq) osq = w4 at *;have HN1 := xH (show backR p i z (quotT.drop 2) = backR p i z quotT from Eq.trans (Eq.symm (show backR p i z (([60], [62]) :: quotT.drop 2) = _ by rw [backR, if_neg (by simp [hh])])) hbk.out);go_wp2_with fail
     exact ⟨⟨2, by omega, rfl, HN1, F3.out.step hb⟩, by simp [intOf]⟩
    | true =>
     have hin := qR HP.out hh;rw [HN.out] at hin;simp only [dA, Nat.zero_add] at hin;have cA : ∀ d os, Calls Try.prog 47 #[.agg #[.string S, .bool p.u, .bool p.x, .int .i64 p.most], .int .i64 z, .string ⟨#[60]⟩] (grow (redrawn wr d) os) fun e w'' => e = .returned (.bool true) ∧ ∃ q : Regrown, w'' = grow (redrawn wr q.d) q.os := fun d os => by exact z99
     have sl0 : ∀ wx, (Instr.slice 9 (.string ⟨#[123, 60, 39]⟩) (some (.int .i64 1)) (some (.int .i64 (1 + 1))) none).run Try.prog wx = .ok (.string ⟨#[60]⟩) wx := fun _ => by kernel_rfl
     have sl1 : ∀ wx, (Instr.slice 9 (.string ⟨#[123, 60, 39]⟩) (some (.int .i64 1)) (some (.int .i64 2)) none).run Try.prog wx = .ok (.string ⟨#[60]⟩) wx := fun _ => by kernel_rfl
     have sl2 : ∀ wx, (Instr.slice 9 (.string ⟨#[123, 60, 39]⟩) (some (.int .i64 ((1 : Nat) : Int))) (some (.int .i64 (((1 : Nat) : Int) + 1))) none).run Try.prog wx = .ok (.string ⟨#[60]⟩) wx := fun _ => by kernel_rfl
     have k0 := cellR c0;have k1 := cellR c1;have k2 := cellR c2;have k3 := cellR c3;go_wp2_with fail
     refine wp_region_quiet_below (by kernel_rfl) (by kernel_rfl) ?_
     repeat (go_big_quiet_step (first | exact cA _ _))
     refine wpQuiet_nil ?_;intro _ hw';obtain ⟨⟨dq, osq⟩, hw''⟩ := hw';subst hw'';have hb := below_regrown wr dq osq;generalize grow (redrawn wr dq) osq = w4 at *;have F4 := xH (F3.out.step hb);clear hb c0 c1 c2 c3 k0 k1 k2 k3 cA sl0 sl1 sl2;obtain ⟨c0, c1, c2, c3⟩ := F4.out.c;go_wp2_with fail
     refine xM (name_any S p _ HP.out (z + 1) (by rw [HN.out]; exact hin)) ?_;rintro e w5 ⟨rfl, hb⟩;have F5 := xH (F4.out.step hb);clear hb c0 c1 c2 c3;obtain ⟨c0, c1, c2, c3⟩ := F5.out.c;obtain ⟨m1, m2⟩ := zh (p := p) (a := z + 1) (by rw [HN.out]; exact hin);rw [HN.out] at m2;have HB := xH (show backR p i z (([60], [62]) :: quotT.drop 2) = (if (p.name (z + 1)).2 = true ∧ p.has [62] (p.name (z + 1)).1 = true then gtok { kind := 11, name := p.sub (z + 1) (p.name (z + 1)).1, m := 3 } i ((p.name (z + 1)).1 + 1) else backR p i z (quotT.drop 2)) by rw [backR, if_pos hh]);generalize (p.name (z + 1)).1 = y at *;generalize (p.name (z + 1)).2 = ok at *;generalize p.sub (z + 1) y = nm at *;have k0 := cellR c0;have k1 := cellR c1;have k2 := cellR c2;have k3 := cellR c3;cases ok with
     | false =>
      have cA : True := trivial;go_wp2_with fail
      refine wp_region_quiet_below (by kernel_rfl) (by kernel_rfl) ?_
      repeat (go_big_quiet_step (fail))
      refine wpQuiet_nil ?_;intro _ hw';obtain ⟨⟨dq, osq⟩, hw''⟩ := hw';subst hw'';have hb := below_regrown w5 dq osq;generalize grow (redrawn w5 dq) osq = w6 at *;have HN1 := xH (show backR p i z (quotT.drop 2) = backR p i z quotT from Eq.trans (Eq.symm (HB.out.trans (if_neg (by simp)))) hbk.out);go_wp2_with fail
      exact ⟨⟨2, by omega, rfl, HN1, F5.out.step hb⟩, by simp [intOf]⟩
     | true =>
      cases hh2 : p.has [62] y with
      | false =>
       have cA : ∀ d os, Calls Try.prog 47 #[.agg #[.string S, .bool p.u, .bool p.x, .int .i64 p.most], .int .i64 y, .string ⟨#[62]⟩] (grow (redrawn w5 d) os) fun e w'' => e = .returned (.bool false) ∧ ∃ q : Regrown, w'' = grow (redrawn w5 q.d) q.os := fun d os => by exact z96
       have sl0 : ∀ wx, (Instr.slice 9 (.string ⟨#[125, 62, 39]⟩) (some (.int .i64 1)) (some (.int .i64 (1 + 1))) none).run Try.prog wx = .ok (.string ⟨#[62]⟩) wx := fun _ => by kernel_rfl
       have sl1 : ∀ wx, (Instr.slice 9 (.string ⟨#[125, 62, 39]⟩) (some (.int .i64 1)) (some (.int .i64 2)) none).run Try.prog wx = .ok (.string ⟨#[62]⟩) wx := fun _ => by kernel_rfl
       have sl2 : ∀ wx, (Instr.slice 9 (.string ⟨#[125, 62, 39]⟩) (some (.int .i64 ((1 : Nat) : Int))) (some (.int .i64 (((1 : Nat) : Int) + 1))) none).run Try.prog wx = .ok (.string ⟨#[62]⟩) wx := fun _ => by kernel_rfl
       go_wp2_with fail
       refine wp_region_quiet_below (by kernel_rfl) (by kernel_rfl) ?_
       repeat (go_big_quiet_step (first | exact cA _ _))
       refine wpQuiet_nil ?_;intro _ hw';obtain ⟨⟨dq, osq⟩, hw''⟩ := hw';subst hw'';have hb := below_regrown w5 dq osq;generalize grow (redrawn w5 dq) osq = w6 at *;have HN1 := xH (show backR p i z (quotT.drop 2) = backR p i z quotT from Eq.trans (Eq.symm (HB.out.trans (if_neg (by simp [hh2])))) hbk.out);go_wp2_with fail
       exact ⟨⟨2, by omega, rfl, HN1, F5.out.step hb⟩, by simp [intOf]⟩
      | true =>
       have cA : ∀ d os, Calls Try.prog 47 #[.agg #[.string S, .bool p.u, .bool p.x, .int .i64 p.most], .int .i64 y, .string ⟨#[62]⟩] (grow (redrawn w5 d) os) fun e w'' => e = .returned (.bool true) ∧ ∃ q : Regrown, w'' = grow (redrawn w5 q.d) q.os := fun d os => by exact z96
       have sl0 : ∀ wx, (Instr.slice 9 (.string ⟨#[125, 62, 39]⟩) (some (.int .i64 1)) (some (.int .i64 (1 + 1))) none).run Try.prog wx = .ok (.string ⟨#[62]⟩) wx := fun _ => by kernel_rfl
       have sl1 : ∀ wx, (Instr.slice 9 (.string ⟨#[125, 62, 39]⟩) (some (.int .i64 1)) (some (.int .i64 2)) none).run Try.prog wx = .ok (.string ⟨#[62]⟩) wx := fun _ => by kernel_rfl
       have sl2 : ∀ wx, (Instr.slice 9 (.string ⟨#[125, 62, 39]⟩) (some (.int .i64 ((1 : Nat) : Int))) (some (.int .i64 (((1 : Nat) : Int) + 1))) none).run Try.prog wx = .ok (.string ⟨#[62]⟩) wx := fun _ => by kernel_rfl
       exact z14
   ·cases hh : p.has [39] z with
    | false =>
     have cA : ∀ d os, Calls Try.prog 47 #[.agg #[.string S, .bool p.u, .bool p.x, .int .i64 p.most], .int .i64 z, .string ⟨#[39]⟩] (grow (redrawn wr d) os) fun e w'' => e = .returned (.bool false) ∧ ∃ q : Regrown, w'' = grow (redrawn wr q.d) q.os := fun d os => by exact z100
     have sl0 : ∀ wx, (Instr.slice 9 (.string ⟨#[123, 60, 39]⟩) (some (.int .i64 2)) (some (.int .i64 (2 + 1))) none).run Try.prog wx = .ok (.string ⟨#[39]⟩) wx := fun _ => by kernel_rfl
     have sl1 : ∀ wx, (Instr.slice 9 (.string ⟨#[123, 60, 39]⟩) (some (.int .i64 2)) (some (.int .i64 3)) none).run Try.prog wx = .ok (.string ⟨#[39]⟩) wx := fun _ => by kernel_rfl
     have sl2 : ∀ wx, (Instr.slice 9 (.string ⟨#[123, 60, 39]⟩) (some (.int .i64 ((2 : Nat) : Int))) (some (.int .i64 (((2 : Nat) : Int) + 1))) none).run Try.prog wx = .ok (.string ⟨#[39]⟩) wx := fun _ => by kernel_rfl
     have k0 := cellR c0;have k1 := cellR c1;have k2 := cellR c2;have k3 := cellR c3;go_wp2_with fail
     refine wp_region_quiet_below (by kernel_rfl) (by kernel_rfl) ?_
     repeat (go_big_quiet_step (first | exact cA _ _))
     refine wpQuiet_nil ?_;intro _ hw';obtain ⟨⟨dq, osq⟩, hw''⟩ := hw';subst hw'';have hb := below_regrown wr dq osq;generalize grow (redrawn wr dq) osq = w4 at *;have HN1 := xH (show backR p i z (quotT.drop 3) = backR p i z quotT from Eq.trans (Eq.symm (show backR p i z (([39], [39]) :: quotT.drop 3) = _ by rw [backR, if_neg (by simp [hh])])) hbk.out);go_wp2_with fail
     exact ⟨⟨3, by omega, rfl, HN1, F3.out.step hb⟩, by simp [intOf]⟩
    | true =>
     have hin := qR HP.out hh;rw [HN.out] at hin;simp only [dA, Nat.zero_add] at hin;have cA : ∀ d os, Calls Try.prog 47 #[.agg #[.string S, .bool p.u, .bool p.x, .int .i64 p.most], .int .i64 z, .string ⟨#[39]⟩] (grow (redrawn wr d) os) fun e w'' => e = .returned (.bool true) ∧ ∃ q : Regrown, w'' = grow (redrawn wr q.d) q.os := fun d os => by exact z100
     have sl0 : ∀ wx, (Instr.slice 9 (.string ⟨#[123, 60, 39]⟩) (some (.int .i64 2)) (some (.int .i64 (2 + 1))) none).run Try.prog wx = .ok (.string ⟨#[39]⟩) wx := fun _ => by kernel_rfl
     have sl1 : ∀ wx, (Instr.slice 9 (.string ⟨#[123, 60, 39]⟩) (some (.int .i64 2)) (some (.int .i64 3)) none).run Try.prog wx = .ok (.string ⟨#[39]⟩) wx := fun _ => by kernel_rfl
     have sl2 : ∀ wx, (Instr.slice 9 (.string ⟨#[123, 60, 39]⟩) (some (.int .i64 ((2 : Nat) : Int))) (some (.int .i64 (((2 : Nat) : Int) + 1))) none).run Try.prog wx = .ok (.string ⟨#[39]⟩) wx := fun _ => by kernel_rfl
     have k0 := cellR c0;have k1 := cellR c1;have k2 := cellR c2;have k3 := cellR c3;go_wp2_with fail
     refine wp_region_quiet_below (by kernel_rfl) (by kernel_rfl) ?_
     repeat (go_big_quiet_step (first | exact cA _ _))
     refine wpQuiet_nil ?_;intro _ hw';obtain ⟨⟨dq, osq⟩, hw''⟩ := hw';subst hw'';have hb := below_regrown wr dq osq;generalize grow (redrawn wr dq) osq = w4 at *;have F4 := xH (F3.out.step hb);clear hb c0 c1 c2 c3 k0 k1 k2 k3 cA sl0 sl1 sl2;obtain ⟨c0, c1, c2, c3⟩ := F4.out.c;go_wp2_with fail
     refine xM (name_any S p _ HP.out (z + 1) (by rw [HN.out]; exact hin)) ?_;rintro e w5 ⟨rfl, hb⟩;have F5 := xH (F4.out.step hb);clear hb c0 c1 c2 c3;obtain ⟨c0, c1, c2, c3⟩ := F5.out.c;obtain ⟨m1, m2⟩ := zh (p := p) (a := z + 1) (by rw [HN.out]; exact hin);rw [HN.out] at m2;have HB := xH (show backR p i z (([39], [39]) :: quotT.drop 3) = (if (p.name (z + 1)).2 = true ∧ p.has [39] (p.name (z + 1)).1 = true then gtok { kind := 11, name := p.sub (z + 1) (p.name (z + 1)).1, m := 3 } i ((p.name (z + 1)).1 + 1) else backR p i z (quotT.drop 3)) by rw [backR, if_pos hh]);generalize (p.name (z + 1)).1 = y at *;generalize (p.name (z + 1)).2 = ok at *;generalize p.sub (z + 1) y = nm at *;have k0 := cellR c0;have k1 := cellR c1;have k2 := cellR c2;have k3 := cellR c3;cases ok with
     | false =>
      have cA : True := trivial;go_wp2_with fail
      refine wp_region_quiet_below (by kernel_rfl) (by kernel_rfl) ?_
      repeat (go_big_quiet_step (fail))
      refine wpQuiet_nil ?_;intro _ hw';obtain ⟨⟨dq, osq⟩, hw''⟩ := hw';subst hw'';have hb := below_regrown w5 dq osq;generalize grow (redrawn w5 dq) osq = w6 at *;have HN1 := xH (show backR p i z (quotT.drop 3) = backR p i z quotT from Eq.trans (Eq.symm (HB.out.trans (if_neg (by simp)))) hbk.out);go_wp2_with fail
      exact ⟨⟨3, by omega, rfl, HN1, F5.out.step hb⟩, by simp [intOf]⟩
     | true =>
      cases hh2 : p.has [39] y with
      | false =>
       have cA : ∀ d os, Calls Try.prog 47 #[.agg #[.string S, .bool p.u, .bool p.x, .int .i64 p.most], .int .i64 y, .string ⟨#[39]⟩] (grow (redrawn w5 d) os) fun e w'' => e = .returned (.bool false) ∧ ∃ q : Regrown, w'' = grow (redrawn w5 q.d) q.os := fun d os => by exact z97
       have sl0 : ∀ wx, (Instr.slice 9 (.string ⟨#[125, 62, 39]⟩) (some (.int .i64 2)) (some (.int .i64 (2 + 1))) none).run Try.prog wx = .ok (.string ⟨#[39]⟩) wx := fun _ => by kernel_rfl
       have sl1 : ∀ wx, (Instr.slice 9 (.string ⟨#[125, 62, 39]⟩) (some (.int .i64 2)) (some (.int .i64 3)) none).run Try.prog wx = .ok (.string ⟨#[39]⟩) wx := fun _ => by kernel_rfl
       have sl2 : ∀ wx, (Instr.slice 9 (.string ⟨#[125, 62, 39]⟩) (some (.int .i64 ((2 : Nat) : Int))) (some (.int .i64 (((2 : Nat) : Int) + 1))) none).run Try.prog wx = .ok (.string ⟨#[39]⟩) wx := fun _ => by kernel_rfl
       go_wp2_with fail
       refine wp_region_quiet_below (by kernel_rfl) (by kernel_rfl) ?_
       repeat (go_big_quiet_step (first | exact cA _ _))
       refine wpQuiet_nil ?_;intro _ hw';obtain ⟨⟨dq, osq⟩, hw''⟩ := hw';subst hw'';have hb := below_regrown w5 dq osq;generalize grow (redrawn w5 dq) osq = w6 at *;have HN1 := xH (show backR p i z (quotT.drop 3) = backR p i z quotT from Eq.trans (Eq.symm (HB.out.trans (if_neg (by simp [hh2])))) hbk.out);go_wp2_with fail
       exact ⟨⟨3, by omega, rfl, HN1, F5.out.step hb⟩, by simp [intOf]⟩
      | true =>
       have cA : ∀ d os, Calls Try.prog 47 #[.agg #[.string S, .bool p.u, .bool p.x, .int .i64 p.most], .int .i64 y, .string ⟨#[39]⟩] (grow (redrawn w5 d) os) fun e w'' => e = .returned (.bool true) ∧ ∃ q : Regrown, w'' = grow (redrawn w5 q.d) q.os := fun d os => by exact z97
       have sl0 : ∀ wx, (Instr.slice 9 (.string ⟨#[125, 62, 39]⟩) (some (.int .i64 2)) (some (.int .i64 (2 + 1))) none).run Try.prog wx = .ok (.string ⟨#[39]⟩) wx := fun _ => by kernel_rfl
       have sl1 : ∀ wx, (Instr.slice 9 (.string ⟨#[125, 62, 39]⟩) (some (.int .i64 2)) (some (.int .i64 3)) none).run Try.prog wx = .ok (.string ⟨#[39]⟩) wx := fun _ => by kernel_rfl
       have sl2 : ∀ wx, (Instr.slice 9 (.string ⟨#[125, 62, 39]⟩) (some (.int .i64 ((2 : Nat) : Int))) (some (.int .i64 (((2 : Nat) : Int) + 1))) none).run Try.prog wx = .ok (.string ⟨#[39]⟩) wx := fun _ => by kernel_rfl
       exact z14
   ·have HR2 := xH (HK.out.trans (show backR p i z quotT = .error (27, (i : Int)) from Eq.symm hbk.out));go_wp2_with fail
    refine xM (qw _ _ _) ?_;intro e w4 h;obtain ⟨v, rfl, HO, F4, old, HG, hz⟩ := yJ F3 h;clear h c0 c1 c2 c3;go_wp2_with (refine xR HG hz HO rfl rfl rfl rfl rfl ?_)
    refine xB (xE HG rfl rfl) rfl ?_;exact qj F4.out HR2.out HO.out (xL _)
 have HE10 := xH (HE9.out.trans (if_neg h9));have b9 : (c == 107) = false := by simp [h9]
 clear h9 HE9;have h7e : ¬ (49 ≤ c ∧ c ≤ 57) := by omega
 by_cases h7f : 49 ≤ c
 ·have h7g : ¬ c ≤ 57 := by omega
  go_wp2_with fail
  have HM := many_any S p w1 HP.out c z (by rw [HN.out]; omega) y1 y2;cases hm : many p c z with
  | error x =>
   exact z30
  | ok o =>
   cases o with
   | none =>
    rw [hm] at HM;have HR1 := xH (HE10.out.trans (show _ = if c = 48 ∨ isLet c = true then Except.error (21, (i : Int)) else gtok { kind := 1, c := c } i z by rw [hm]));refine xM HM ?_;rintro e w2 ⟨⟨v, b, j, ⟨x1, x2, x3, rfl⟩, rfl⟩, hb⟩;have F2 := xH (F1.out.step hb);clear hb c0 c1 c2 c3 HM hm;obtain ⟨c0, c1, c2, c3⟩ := F2.out.c;by_cases h48 : c = 48
    ·have HR := xH (HR1.out.trans (if_pos (Or.inl h48)));exact z58
    have b48 : (c == 48) = false := by simp [h48]
    by_cases h128 : c < 128
    ·go_wp2_with fail
     refine (letter_any c _ y1 (by omega)).mono ?_;rintro e wl ⟨rfl, rfl⟩;cases hl : isLet c with
     | true =>
      exact z54
     | false =>
      exact z36
    ·have hl : isLet c = false := Bool.eq_false_iff.2 fun e => h128 (let_small e)
     exact z36
   | some x =>
    exact z18
 ·go_wp2_with fail
  have HM := many_any S p w1 HP.out c z (by rw [HN.out]; omega) y1 y2;cases hm : many p c z with
  | error x =>
   exact z30
  | ok o =>
   cases o with
   | none =>
    rw [hm] at HM;have HR1 := xH (HE10.out.trans (show _ = if c = 48 ∨ isLet c = true then Except.error (21, (i : Int)) else gtok { kind := 1, c := c } i z by rw [hm]));refine xM HM ?_;rintro e w2 ⟨⟨v, b, j, ⟨x1, x2, x3, rfl⟩, rfl⟩, hb⟩;have F2 := xH (F1.out.step hb);clear hb c0 c1 c2 c3 HM hm;obtain ⟨c0, c1, c2, c3⟩ := F2.out.c;by_cases h48 : c = 48
    ·have HR := xH (HR1.out.trans (if_pos (Or.inl h48)));exact z58
    have b48 : (c == 48) = false := by simp [h48]
    by_cases h128 : c < 128
    ·go_wp2_with fail
     refine (letter_any c _ y1 (by omega)).mono ?_;rintro e wl ⟨rfl, rfl⟩;cases hl : isLet c with
     | true =>
      exact z54
     | false =>
      exact z36
    ·omega
   | some x =>
    exact z18
end rtw
end
section
namespace rtw
open sq
open Go Go.RowKit Go.Maps utfp utfw ucdp setp setw prp tkp rtp
open tkw (sg sg_bd vJ jM qK tkR qO qM vI)
open Go.Sort
open tkw (ownR_new)
open prw (rposix_any posixP_canon escP_canon)
def ItB (r : R (List Rg × Bool × Nat)) (w : World) (e : Ending) (w' : World) : Prop := (match r with
 | .error x => ∃ j : Int, e = .returned (.tuple #[.slice none 0 0, .bool false, .int .i64 j, .int .i64 x.1, .int .i64 x.2])
 | .ok y => ∃ v, e = .returned (.tuple #[v, .bool y.2.1, .int .i64 (y.2.2 : Nat), .int .i64 0, .int .i64 0]) ∧ RsAt w' v y.1) ∧ Below w.heap.size w w'
theorem itb_err {r : R (List Rg × Bool × Nat)} {a b j : Int} {w w' : World} (hr : r = .error (a, b)) (hb : Below w.heap.size w w') : ItB r w (.returned (.tuple #[.slice none 0 0, .bool false, .int .i64 j, .int .i64 a, .int .i64 b])) w' := by subst hr; exact ⟨⟨j, rfl⟩, hb⟩
theorem itb_ok {r : R (List Rg × Bool × Nat)} {v : Value} {l : List Rg} {s : Bool} {b : Nat} {w w' : World} (hr : r = .ok (l, s, b)) (hv : RsAt w' v l) (hb : Below w.heap.size w w') : ItB r w (.returned (.tuple #[v, .bool s, .int .i64 b, .int .i64 0, .int .i64 0])) w' := by subst hr; exact ⟨⟨v, rfl, hv⟩, hb⟩
theorem jX {S : List Rg} (h : Canon S) : Wf S := fun r hr => by have := h.2 r hr; omega
theorem rs_one {w : World} {c : Int} (h0 : 0 ≤ c) (h1 : c ≤ 1114111) : RsAt (w.alloc (.cells #[.int .i64 c, .int .i64 c] 69)) (.slice (some ⟨w.heap.size, 0, none⟩) 1 1) [(c, c)] :=
 vP (ownR_new (x := c) (y := c) (w := w) (b0 := 0) (Nat.zero_le _) rfl) (fun r hr => by obtain rfl := List.mem_singleton.1 hr; simp only; omega)
theorem post_all : (posix.all fun p => decide (p.2.length ≤ 50)) = true := by decide +kernel
theorem posixP_len (n : ByteArray) : (jC n).length ≤ 50 := by
 have h := post_all;unfold jC;generalize posix = L at h
 induction L with
 | nil => simp [lookP]
 | cons p L ih =>
  rw [List.all_cons, dK, dF] at h;unfold lookP;obtain ⟨k, v⟩ := p;simp only;split
  ·exact h.1
  ·exact ih h.2
theorem escP_len (c : Int) : (escP c).length ≤ 4 := by
 unfold escP
 repeat' (first | (simp; done) | split)
theorem notL_canon (p : Pt) (l : List Rg) : Canon (notL p l) := notR_canon (vH p) (ja (vH p) l)
def LetRel (w : World) (B : Nat) (S : ByteArray) (p : Pt) (a : Nat) (vi : Value) (wr : World) : Prop :=
 ∃ l : Nat, a + l ≤ S.size ∧ Hid (∀ i, i < l → a + i < p.n ∧ isLet (p.g (a + i)) = true) ∧ vi = .int .i64 ((a + l : Nat) : Int) ∧ FR w B S p wr
theorem let_of {p : Pt} {a l : Nat} (hp : p.n ≤ 1000) (h : ∀ i, i < l → a + i < p.n ∧ isLet (p.g (a + i)) = true) (hs : a + l = p.n ∨ isLet (p.g (a + l)) = false) : p.run isLet 1000 a = a + l := by
 refine run_stop h hs ?_;rcases l with _ | l
 ·omega
 ·have := (h l (by omega)).1; omega
theorem many_len {S : ByteArray} {p : Pt} {c : Int} {i : Nat} {l : List Rg} {neg : Bool} {b : Nat} (h : many p c i = .ok (some (l, neg, b))) : l.length ≤ 100 ∧ Canon l := by
 have hm := vH p;unfold many at h;split at h
 ·split at h
  ·cases h
  ·split at h
   ·simp only [Except.ok.injEq, dG, dL] at h;obtain ⟨rfl, _, _⟩ := h;refine ⟨?_, ja hm _⟩;have h1 := tkw.yg p.most (propL (unhat (by assumption)));have h2 : (propL (unhat (by assumption))).length ≤ 93 := wl_len _ 93;omega
   ·cases h
 ·split at h
  ·simp only [Except.ok.injEq, dG, dL] at h;obtain ⟨rfl, _, _⟩ := h;refine ⟨?_, ja hm _⟩;have h1 := tkw.yg p.most (escP (lowC c));have h2 := escP_len (lowC c);omega
  ·cases h
theorem simE_le (c : Int) : ji c ≤ 1114111 := by
 unfold ji
 repeat' (first | omega | split)
theorem dig_small {c : Int} (h : isDig c = true) : c < 128 := by simp only [isDig, dK, dF] at h;omega
theorem item_any (S : ByteArray) (p : Pt) (w : World) (hP : Pat S p) (i : Nat) (hi : i < p.n) : Calls Try.prog 99 #[txV S p, .int .i64 i] w (ItB (itemR p i) w) := by
 have hn := hP.n;have h2 := hP.le;have HP := xH hP;have HN := xH hn;clear hP;rw [hn] at hi;clear hn;have hm1 := vH p;have hm2 := most_ge p;unfold txV txC;go_enter Try.func99, Try.ntmps99;go_upto_region 1 with (fail)
 generalize hW : (w.alloc _) = W;have F0 := xH (zG (S := S) (p := p) hW);obtain ⟨B, hB⟩ : ∃ B, w.heap.size = B := ⟨_, rfl⟩;rw [hB] at F0 ⊢;clear hW hB;obtain ⟨c0, c1, c2, c3⟩ := F0.out.c;go_wp2_with fail
 refine xM (qG S p _ HP.out i (by omega) [91, 58] ⟨#[91, 58]⟩ rfl (by decide) (Or.inl (by rw [HN.out]; omega))) ?_;rintro e w1 ⟨rfl, hb1⟩;have F1 := xH (F0.out.step hb1);clear hb1 c0 c1 c2 c3;obtain ⟨c0, c1, c2, c3⟩ := F1.out.c;go_upto_if 25 with (fail)
 go_cut [1] (fun v1 wx => v1 = .int .i64 i ∧ FR w B S p wx ∧ Hid (itemR p i = itemC p i))
 case first =>
  cases h1 : p.has [91, 58] i with
  | false =>
   go_wp2_with fail
   go_meet
   exact ⟨rfl, F1.out, xH (by unfold itemR; rw [if_neg (by rw [h1]; simp)])⟩
  | true =>
   have hin1 := qR HP.out h1;rw [HN.out] at hin1;simp only [dB, dA] at hin1;go_wp2_with fail
   refine xM (qG S p _ HP.out (i + 2) (by omega) [94] ⟨#[94]⟩ rfl (by decide) (Or.inl (by rw [HN.out]; omega))) ?_;rintro e w2 ⟨rfl, hb⟩;have F2 := xH (F1.out.step hb);clear hb c0 c1 c2 c3;obtain ⟨c0, c1, c2, c3⟩ := F2.out.c;cases h2' : p.has [94] (i + 2) with
   | true =>
    have HPB := xH (show posB p i = i + 3 by unfold posB; rw [if_pos h2']);have hin2 := qR HP.out h2';rw [HN.out] at hin2;simp only [dA] at hin2;go_wp2_with fail
    go_loopw [9] (fun vi wr => LetRel w B S p (i + 3) vi wr) (fun vi _ => S.size - (intOf vi).toNat)
    case atStart => exact ⟨0, by omega, xH (fun j h => absurd h (Nat.not_lt_zero j)), rfl, F2.out⟩
    case round =>
     obtain ⟨l, hl, hd, rfl, hF⟩ := hrel;have F4 := xH hF;clear hF c0 c1 c2 c3;obtain ⟨c0, c1, c2, c3⟩ := F4.out.c;have hgb := gb HP.out;by_cases hlt : i + 3 + l < S.size
     ·obtain ⟨b0, b1⟩ := jS HP.out (i + 3 + l);go_wp2_with fail
      refine (letter_any _ _ b0 b1).mono ?_;rintro e w1' ⟨rfl, rfl⟩;cases hlet : isLet (p.g (i + 3 + l)) with
      | true =>
       exact z76
      | false =>
       have HL := xH (let_of (l := l) (by rw [HN.out]; exact h2) hd.out (Or.inr hlet));go_wp2_with fail
       refine xM (qG S p _ HP.out (i + 3 + l) (by omega) [58, 93] ⟨#[58, 93]⟩ rfl (by decide) (Or.inl (by rw [HN.out]; exact hl))) ?_;rintro e w5 ⟨rfl, hb⟩;have F5 := xH (F4.out.step hb);clear hb c0 c1 c2 c3;obtain ⟨c0, c1, c2, c3⟩ := F5.out.c;cases h3 : p.has [58, 93] (i + 3 + l) with
       | false =>
        exact z134
       | true =>
        have hin := qR HP.out h3;rw [HN.out] at hin;simp only [dB, dA] at hin;have hxt := sub_ext HP.out (show i + 3 ≤ i + 3 + l by omega) (show i + 3 + l ≤ p.n by rw [HN.out]; omega);have HIT := xH (show itemR p i = if vz (p.sub (i + 3) (i + 3 + l)) = true then .ok (if p.has [94] (i + 2) = true then notL p (jC (p.sub (i + 3) (i + 3 + l))) else jC (p.sub (i + 3) (i + 3 + l)), false, i + 3 + l + 2) else .error (22, (i : Int)) by unfold itemR; rw [HPB.out, HL.out, if_pos ⟨h1, h3⟩]);have hpl := posixP_len (p.sub (i + 3) (i + 3 + l));have HPC := xH (posixP_canon (p.sub (i + 3) (i + 3 + l)));generalize p.sub (i + 3) (i + 3 + l) = nm at *;go_wp2_with fail
        refine xM (rposix_any nm _) ?_;rintro e w6 ⟨v6, rfl, hrs, hb⟩;have F6 := xH (F5.out.step hb);clear hb c0 c1 c2 c3;obtain ⟨c0, c1, c2, c3⟩ := F6.out.c;have HRS := xH hrs;obtain ⟨z1, z2, rfl⟩ := jg hrs;clear hrs;cases hpB : vz nm with
        | false =>
         exact z105
        | true =>
         have HR := xH (show itemR p i = .ok (notL p (jC nm), false, i + 3 + l + 2) by rw [HIT.out, if_pos hpB, if_pos h2']);go_wp2_with fail
         refine xM (not_any S p _ HP.out _ (jC nm) HRS.out (by omega)) ?_;rintro e w7 ⟨v7, rfl, ho, hb⟩;have F7 := xH (F6.out.step hb);have HO := xH ho;clear hb ho c0 c1 c2 c3;obtain ⟨c0, c1, c2, c3⟩ := F7.out.c;obtain ⟨y1, y2, rfl⟩ := qN HO.out;exact z119
     ·have HL := xH (let_of (l := l) (by rw [HN.out]; exact h2) hd.out (Or.inl (by rw [HN.out]; omega)));go_wp2_with fail
      refine xM (qG S p _ HP.out (i + 3 + l) (by omega) [58, 93] ⟨#[58, 93]⟩ rfl (by decide) (Or.inl (by rw [HN.out]; exact hl))) ?_;rintro e w5 ⟨rfl, hb⟩;have F5 := xH (F4.out.step hb);clear hb c0 c1 c2 c3;obtain ⟨c0, c1, c2, c3⟩ := F5.out.c;cases h3 : p.has [58, 93] (i + 3 + l) with
      | false =>
       exact z134
      | true =>
       have hin := qR HP.out h3;rw [HN.out] at hin;simp only [dB, dA] at hin;omega
   | false =>
    have HPB := xH (show posB p i = i + 2 by unfold posB; rw [if_neg (by simp [h2'])]);go_wp2_with fail
    go_loopw [9] (fun vi wr => LetRel w B S p (i + 2) vi wr) (fun vi _ => S.size - (intOf vi).toNat)
    case atStart => exact ⟨0, by omega, xH (fun j h => absurd h (Nat.not_lt_zero j)), rfl, F2.out⟩
    case round =>
     obtain ⟨l, hl, hd, rfl, hF⟩ := hrel;have F4 := xH hF;clear hF c0 c1 c2 c3;obtain ⟨c0, c1, c2, c3⟩ := F4.out.c;have hgb := gb HP.out;by_cases hlt : i + 2 + l < S.size
     ·obtain ⟨b0, b1⟩ := jS HP.out (i + 2 + l);go_wp2_with fail
      refine (letter_any _ _ b0 b1).mono ?_;rintro e w1' ⟨rfl, rfl⟩;cases hlet : isLet (p.g (i + 2 + l)) with
      | true =>
       exact z76
      | false =>
       have HL := xH (let_of (l := l) (by rw [HN.out]; exact h2) hd.out (Or.inr hlet));go_wp2_with fail
       refine xM (qG S p _ HP.out (i + 2 + l) (by omega) [58, 93] ⟨#[58, 93]⟩ rfl (by decide) (Or.inl (by rw [HN.out]; exact hl))) ?_;rintro e w5 ⟨rfl, hb⟩;have F5 := xH (F4.out.step hb);clear hb c0 c1 c2 c3;obtain ⟨c0, c1, c2, c3⟩ := F5.out.c;cases h3 : p.has [58, 93] (i + 2 + l) with
       | false =>
        exact z134
       | true =>
        have hin := qR HP.out h3;rw [HN.out] at hin;simp only [dB, dA] at hin;have hxt := sub_ext HP.out (show i + 2 ≤ i + 2 + l by omega) (show i + 2 + l ≤ p.n by rw [HN.out]; omega);have HIT := xH (show itemR p i = if vz (p.sub (i + 2) (i + 2 + l)) = true then .ok (if p.has [94] (i + 2) = true then notL p (jC (p.sub (i + 2) (i + 2 + l))) else jC (p.sub (i + 2) (i + 2 + l)), false, i + 2 + l + 2) else .error (22, (i : Int)) by unfold itemR; rw [HPB.out, HL.out, if_pos ⟨h1, h3⟩]);have hpl := posixP_len (p.sub (i + 2) (i + 2 + l));have HPC := xH (posixP_canon (p.sub (i + 2) (i + 2 + l)));generalize p.sub (i + 2) (i + 2 + l) = nm at *;go_wp2_with fail
        refine xM (rposix_any nm _) ?_;rintro e w6 ⟨v6, rfl, hrs, hb⟩;have F6 := xH (F5.out.step hb);clear hb c0 c1 c2 c3;obtain ⟨c0, c1, c2, c3⟩ := F6.out.c;have HRS := xH hrs;obtain ⟨z1, z2, rfl⟩ := jg hrs;clear hrs;cases hpB : vz nm with
        | false =>
         exact z105
        | true =>
         have HR := xH (show itemR p i = .ok (jC nm, false, i + 2 + l + 2) by rw [HIT.out, if_pos hpB, if_neg (by simp [h2'])]);go_wp2_with fail
         refine xB (qE rfl _ _ _) rfl ?_;exact itb_ok HR.out HRS.out F6.out.bel
     ·have HL := xH (let_of (l := l) (by rw [HN.out]; exact h2) hd.out (Or.inl (by rw [HN.out]; omega)));go_wp2_with fail
      refine xM (qG S p _ HP.out (i + 2 + l) (by omega) [58, 93] ⟨#[58, 93]⟩ rfl (by decide) (Or.inl (by rw [HN.out]; exact hl))) ?_;rintro e w5 ⟨rfl, hb⟩;have F5 := xH (F4.out.step hb);clear hb c0 c1 c2 c3;obtain ⟨c0, c1, c2, c3⟩ := F5.out.c;cases h3 : p.has [58, 93] (i + 2 + l) with
      | false =>
       exact z134
      | true =>
       have hin := qR HP.out h3;rw [HN.out] at hin;simp only [dB, dA] at hin;omega
 case rest =>
  obtain ⟨rfl, hF, HIC⟩ := hcut;have F2 := xH hF;clear hF c0 c1 c2 c3;obtain ⟨c0, c1, c2, c3⟩ := F2.out.c;have HC0 : Hid (itemR p i = if (p.char i).1 = 92 then (if (p.char i).2 = p.n then .error (20, (p.n : Int)) else itemE p i (p.char i).2) else .ok ([((p.char i).1, (p.char i).1)], true, (p.char i).2)) := xH (HIC.out.trans rfl);clear HIC;go_wp2_with fail
  refine xM (char_any S p _ HP.out i (by rw [HN.out]; omega)) ?_;rintro e w3 ⟨rfl, hb⟩;have F3 := xH (F2.out.step hb);clear hb c0 c1 c2 c3;obtain ⟨c0, c1, c2, c3⟩ := F3.out.c;obtain ⟨z1, z2⟩ := zM HP.out (a := i) (by rw [HN.out]; omega);obtain ⟨y1, y2⟩ := char_val HP.out (a := i) (by rw [HN.out]; omega);rw [HN.out] at z2;generalize (p.char i).1 = c at *;generalize (p.char i).2 = z at *;by_cases h9 : c = 92;case neg =>
   have HR := xH (HC0.out.trans (if_neg h9));have F4 := xH (F3.out.step (qK w3 (.cells #[.int .i64 (c), .int .i64 (c)] 69)));go_wp2_with fail
   refine xB (qE rfl _ _ _) rfl ?_;exact itb_ok HR.out (rs_one y1 y2) F4.out.bel
  have HR1 := xH (HC0.out.trans (if_pos h9));clear HC0;subst h9;by_cases h0 : z = S.size
  ·have HR := xH (HR1.out.trans (if_pos (by rw [HN.out]; exact h0)));rw [HN.out] at HR;have hb0 : ((z : Int) == (S.size : Int)) = true := by simp; omega
   clear h0;go_wp2_with fail
   go_quiet (fail)
   rename_i nq;go_wp2_with fail
   refine xB (qE rfl _ _ _) rfl ?_;exact itb_err HR.out (tkw.zI F3.out.bel _)
  have HR2 := xH (HR1.out.trans (if_neg (by rw [HN.out]; exact h0)));have hb0 : ((z : Int) == (S.size : Int)) = false := by simp; omega
  have hz : z < S.size := by omega
  clear h0 HR1 y1 y2;go_wp2_with fail
  refine xM (char_any S p _ HP.out z (by rw [HN.out]; omega)) ?_;rintro e w4 ⟨rfl, hb⟩;have F4 := xH (F3.out.step hb);clear hb c0 c1 c2 c3;obtain ⟨c0, c1, c2, c3⟩ := F4.out.c;obtain ⟨q1, q2⟩ := zM HP.out (a := z) (by rw [HN.out]; omega);obtain ⟨y1, y2⟩ := char_val HP.out (a := z) (by rw [HN.out]; omega);rw [HN.out] at q2;have HE : Hid (itemR p i = if (p.char z).1 = 120 then (match hexz p (p.char z).2 with | none => .error (21, (i : Int)) | some (v, e) => .ok ([(v, v)], true, e)) else if ji (p.char z).1 ≠ 0 then .ok ([(ji (p.char z).1, ji (p.char z).1)], true, (p.char z).2) else if (p.char z).1 = 98 then .ok ([(8, 8)], true, (p.char z).2) else match many p (p.char z).1 (p.char z).2 with | .error e => .error (e, (i : Int)) | .ok (some (l, neg, e)) => .ok (if neg = true then notL p l else l, false, e) | .ok none => if (isLet (p.char z).1 || isDig (p.char z).1) = true then .error (21, (i : Int)) else .ok ([((p.char z).1, (p.char z).1)], true, (p.char z).2)) := xH (HR2.out.trans rfl);clear HR2;generalize (p.char z).1 = c at *;generalize (p.char z).2 = t at *;by_cases h1 : c = 120
  ·have HR1 := xH (HE.out.trans (if_pos h1));have b1 : (c == 120) = true := by simp [h1]
   clear h1 HE;go_wp2_with fail
   refine (hexa_any S p _ HP.out t (by rw [HN.out]; omega)).mono ?_;rintro e w5 ⟨⟨v, j, rfl, hj, hv⟩, hb⟩;have F5 := xH (F4.out.step hb);clear hb c0 c1 c2 c3;obtain ⟨c0, c1, c2, c3⟩ := F5.out.c;rcases hv with ⟨hv, rfl⟩ | hv
   ·have HR := xH (HR1.out.trans (show _ = Except.error (21, (i : Int)) by rw [hv]));exact z137
   ·have HR := xH (HR1.out.trans (show _ = Except.ok ([(v, v)], true, j) by rw [hv]));obtain ⟨hv0, hv1, hj1, hj2⟩ := hexz_in HP.out (by rw [HN.out]; omega) hv;have F6 := xH (F5.out.step (qK w5 (.cells #[.int .i64 (v), .int .i64 (v)] 69)));go_wp2_with fail
    refine xB (qE rfl _ _ _) rfl ?_;exact itb_ok HR.out (rs_one hv0 hv1) F6.out.bel
  have HE1 := xH (HE.out.trans (if_neg h1));have b1 : (c == 120) = false := by simp [h1]
  clear h1 HE;go_wp2_with fail
  refine (simple_any c _).mono ?_;rintro e w1' ⟨rfl, rfl⟩;by_cases hs : ji c ≠ 0
  ·have HR := xH (HE1.out.trans (if_pos hs));obtain ⟨s1, s2⟩ := simN_pos hs;have s3 := simE_le c;rw [s1];clear hs HE1;go_wp2_with fail
   refine (simple_any c _).mono ?_;rintro e w1'' ⟨rfl, rfl⟩;rw [s1];go_wp2_with fail
   refine (simple_any c _).mono ?_;rintro e w1'' ⟨rfl, rfl⟩;rw [s1];have F5 := xH (F4.out.step (qK w4 (.cells #[.int .i64 (ji c), .int .i64 (ji c)] 69)));go_wp2_with fail
   refine xB (qE rfl _ _ _) rfl ?_;exact itb_ok HR.out (rs_one s2 s3) F5.out.bel
  have HE2 := xH (HE1.out.trans (if_neg hs));rw [simN_neg (by simpa using hs)];clear hs HE1;by_cases h3 : c = 98
  ·have HR := xH (HE2.out.trans (if_pos h3));have b3 : (c == 98) = true := by simp [h3]
   clear h3 HE2;have F5 := xH (F4.out.step (qK w4 (.cells #[.int .i64 (8), .int .i64 (8)] 69)));go_wp2_with fail
   refine xB (qE rfl _ _ _) rfl ?_;exact itb_ok HR.out (rs_one (by decide) (by decide)) F5.out.bel
  have HE3 := xH (HE2.out.trans (if_neg h3));have b3 : (c == 98) = false := by simp [h3]
  clear h3 HE2;go_wp2_with fail
  have HM := many_any S p w4 HP.out c t (by rw [HN.out]; omega) y1 y2;cases hm : many p c t with
  | error x =>
   have hx : x = 24 := many_err hm;subst hx;rw [hm] at HM;have HR := xH (HE3.out.trans (show _ = Except.error (24, (i : Int)) by rw [hm]));refine xM HM ?_;rintro e w5 ⟨⟨j, rfl⟩, hb⟩;have F5 := xH (F4.out.step hb);clear hb c0 c1 c2 c3 HM hm;obtain ⟨c0, c1, c2, c3⟩ := F5.out.c;exact z137
  | ok o =>
   cases o with
   | none =>
    rw [hm] at HM;have HR1 := xH (HE3.out.trans (show _ = if (isLet c || isDig c) = true then Except.error (21, (i : Int)) else .ok ([(c, c)], true, t) by rw [hm]));refine xM HM ?_;rintro e w5 ⟨⟨v, b, j, ⟨x1, x2, x3, rfl⟩, rfl⟩, hb⟩;have F5 := xH (F4.out.step hb);clear hb c0 c1 c2 c3 HM hm;obtain ⟨c0, c1, c2, c3⟩ := F5.out.c;by_cases h128 : c < 128
    ·go_wp2_with fail
     refine (letter_any c _ y1 (by omega)).mono ?_;rintro e wl ⟨rfl, rfl⟩;cases hl : isLet c with
     | true =>
      have HR := xH (HR1.out.trans (if_pos (by simp [hl])));exact z137
     | false =>
      go_wp2_with fail
      refine (digit_any c _ y1 (by omega)).mono ?_;rintro e wl ⟨rfl, rfl⟩;cases hd : isDig c with
      | true =>
       have HR := xH (HR1.out.trans (if_pos (by simp [hd])));exact z137
      | false =>
       exact z50
    ·have hl : isLet c = false := Bool.eq_false_iff.2 fun e => h128 (let_small e)
     have hd : isDig c = false := Bool.eq_false_iff.2 fun e => h128 (dig_small e)
     exact z50
   | some x =>
    obtain ⟨l, neg, j⟩ := x;rw [hm] at HM;obtain ⟨hl100, hlc⟩ := many_len (S := S) hm;have HR1 := xH (HE3.out.trans (show _ = Except.ok (if neg = true then notL p l else l, false, j) by rw [hm]));refine xM HM ?_;rintro e w5 ⟨⟨v, rfl, ho⟩, hb⟩;have HW := xH (vP ho (jX hlc));have F5 := xH (F4.out.step hb);clear hb c0 c1 c2 c3 HM hm;obtain ⟨x1, x2, rfl⟩ := qN ho;clear ho;obtain ⟨c0, c1, c2, c3⟩ := F5.out.c;cases neg with
    | true =>
     have HR := xH (HR1.out.trans (show _ = Except.ok (notL p l, false, j) by rw [if_pos rfl]));go_wp2_with fail
     refine xM (not_any S p _ HP.out _ l HW.out (by omega)) ?_;rintro e w7 ⟨v7, rfl, ho, hb⟩;have F7 := xH (F5.out.step hb);have HO := xH ho;clear hb ho c0 c1 c2 c3;obtain ⟨c0, c1, c2, c3⟩ := F7.out.c;obtain ⟨u1, u2, rfl⟩ := qN HO.out;exact z119
    | false =>
     have HR := xH (HR1.out.trans (show _ = Except.ok (l, false, j) by rw [if_neg (by simp)]));go_wp2_with fail
     refine xB (qE rfl _ _ _) rfl ?_;exact itb_ok HR.out HW.out F5.out.bel
end rtw
end
end Go.Proofs.Ytdgfclbajjjcgaa
