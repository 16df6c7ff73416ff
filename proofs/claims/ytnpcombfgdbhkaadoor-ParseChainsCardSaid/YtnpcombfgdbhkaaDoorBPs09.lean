/- T -/
import Derived.Test.YtnpcombfgdbhkaaDoorBPs08
set_option maxHeartbeats 16000000
set_option maxRecDepth 1000000
section
namespace Go.Proofs.YtnpcombfgdbhkaaDoor.rtw
open sq
open Go Go.RowKit Go.Maps utfp utfw ucdp setp setw prp tkp rtp
open tkw (sg sg_bd vJ jM qK tkR qO qM vI)
theorem yf {fn : Func} {t u v x : Tmp} (h : fn.results = #[.tmp t, .tmp u, .tmp v, .tmp x]) (tmps : Array Value) (P : Program) (w : World) :
 (results fn tmps).run P w = .ok (.tuple #[tmps.getD t undef, tmps.getD u undef, tmps.getD v undef, tmps.getD x undef]) w := by
 simp [results, h]
theorem qE {fn : Func} {t u v x y : Tmp} (h : fn.results = #[.tmp t, .tmp u, .tmp v, .tmp x, .tmp y]) (tmps : Array Value) (P : Program) (w : World) :
 (results fn tmps).run P w = .ok (.tuple #[tmps.getD t undef, tmps.getD u undef, tmps.getD v undef, tmps.getD x undef, tmps.getD y undef]) w := by
 simp [results, h]
theorem qj {w W : World} {B : Nat} {S : ByteArray} {p : Pt} {v : Value} {r r' : G} (h : FG w B S p W) (hr : r' = r) {k : Nat} (ho : OwnR W k v (gtS r)) (hk : B ≤ k) : GotB w r' (.returned (.agg (gtC v r))) (W.setRow (B + 1) (gtC v r)) := by subst hr;exact fg_end h ho hk
def RgB (w : World) (l : List Rg) (e : Ending) (w' : World) : Prop := ∃ v, e = .returned v ∧ OwnR w' w.heap.size v l ∧ Below w.heap.size w w'
theorem most_min (p : Pt) : min p.most 1114111 = p.most := by have := vH p; omega
theorem cut_any (S : ByteArray) (p : Pt) (w : World) (hP : Pat S p) (v : Value) (l : List Rg) (hv : RsAt w v l) (hl : l.length ≤ 600000) : Calls Tryd.prog 60 #[txV S p, v] w (RgB w (normR p.most l)) := by
 have hn := hP.n;have h2 := hP.le;have HP := xH hP;have HN := xH hn;clear hP;have hm1 := vH p;have hm2 := most_ge p;have HV := xH hv;obtain ⟨y1, y2, rfl⟩ := jg hv;clear hv;unfold txV txC;go_enter Tryd.func60, Tryd.ntmps60;go_upto_region 1 with (fail)
 generalize hW : (w.alloc _) = W;have F0 := xH (zG (S := S) (p := p) hW);obtain ⟨B, hB⟩ : ∃ B, w.heap.size = B := ⟨_, rfl⟩;rw [hB] at F0 ⊢;clear hW hB;obtain ⟨c0, c1, c2, c3⟩ := F0.out.c;have HV1 := xH (jl HV.out F0.out.bel);go_wp2_with fail
 refine Calls.mono (zZ _ l p.most _ HV1.out hl (by omega) (by omega)) ?_;rintro e w1 ⟨v1, Z, rfl, hS, hh, ho, hb⟩;have HO := xO F0.out.x ho;rw [normR_only (l := l) hm1 hS fun c => by rw [hh]; simp only [most_min]] at HO;have F1 := xH (F0.out.step hb);clear hb ho hS hh c0 c1 c2 c3;obtain ⟨a1, a2, rfl⟩ := qN HO.out;go_wp2_with fail
 go_ret
 exact ⟨_, rfl, qM HO.out (Nat.le_of_eq F1.out.hB), F1.out.bel⟩
theorem notL_only {p : Pt} {l S : List Rg} (hS : Canon S) (h : ∀ c, Has S c ↔ 0 ≤ c ∧ c ≤ min p.most 1114111 ∧ qB 2 l [] c = true) : S = notL p l :=
 notR_only (vH p) hS (ja (vH p) l) fun c => by
  rw [h, most_min, qB_not, normR_has (vH p)];constructor
  ·rintro ⟨a, b, d⟩;exact ⟨a, b, fun e => d e.1⟩
  ·rintro ⟨a, b, d⟩;exact ⟨a, b, fun e => d ⟨e, a, b⟩⟩
theorem not_any (S : ByteArray) (p : Pt) (w : World) (hP : Pat S p) (v : Value) (l : List Rg) (hv : RsAt w v l) (hl : l.length ≤ 100000) : Calls Tryd.prog 83 #[txV S p, v] w (RgB w (notL p l)) := by
 have hn := hP.n;have h2 := hP.le;have HP := xH hP;have HN := xH hn;clear hP;have hm1 := vH p;have hm2 := most_ge p;have HV := xH hv;obtain ⟨y1, y2, rfl⟩ := jg hv;clear hv;unfold txV txC;go_enter Tryd.func83, Tryd.ntmps83;go_upto_region 1 with (fail)
 generalize hW : (w.alloc _) = W;have F0 := xH (zG (S := S) (p := p) hW);obtain ⟨B, hB⟩ : ∃ B, w.heap.size = B := ⟨_, rfl⟩;rw [hB] at F0 ⊢;clear hW hB;obtain ⟨c0, c1, c2, c3⟩ := F0.out.c;have HV1 := xH (jl HV.out F0.out.bel);go_wp2_with fail
 refine Calls.mono (join2_any _ (.slice none 0 0) l [] p.most _ HV1.out (rs_nil _) hl (by decide) (by omega) (by omega)) ?_;rintro e w1 ⟨v1, Z, rfl, hS, hh, ho, hb⟩;have HO := xO F0.out.x ho;rw [notL_only hS hh] at HO;have F1 := xH (F0.out.step hb);clear hb ho hS hh c0 c1 c2 c3;obtain ⟨a1, a2, rfl⟩ := qN HO.out;go_wp2_with fail
 go_ret
 exact ⟨_, rfl, qM HO.out (Nat.le_of_eq F1.out.hB), F1.out.bel⟩
theorem has_lt {S : ByteArray} {p : Pt} (h : Pat S p) {l : List UInt8} {i : Nat} (e : p.has l i = true) : i + l.length ≤ p.n ∨ l = [] := by
 have e2 := (has_list _ (pat_g h) (pat_len h) l i).1 e;have h3 := congrArg List.length e2;rw [List.length_take, List.length_drop, ← pat_len h] at h3;rcases l with _ | ⟨c, l⟩
 ·exact Or.inr rfl
 ·simp only [List.length_cons] at h3 ⊢;omega
theorem qR {S : ByteArray} {p : Pt} (h : Pat S p) {c : UInt8} {l : List UInt8} {i : Nat} (e : p.has (c :: l) i = true) : i + (l.length + 1) ≤ p.n := by
 rcases has_lt h e with h | h
 ·exact h
 ·cases h
theorem zQ (S : ByteArray) (p : Pt) (w : World) (hP : Pat S p) (a : Nat) (ha : a ≤ p.n) : Calls Tryd.prog 67 #[txV S p, .int .i64 a] w (fun e w' => e = .returned (.tuple #[.int .i64 (sgn p a).1, .int .i64 (sgn p a).2.1, .int .i64 ((sgn p a).2.2.1 : Nat), .bool (sgn p a).2.2.2]) ∧ Below w.heap.size w w') := by
 have hn := hP.n;have h2 := hP.le;have HP := xH hP;have HN := xH hn;clear hP;rw [hn] at ha;unfold txV txC;go_enter Tryd.func67, Tryd.ntmps67;go_upto_region 1 with (fail)
 generalize hW : (w.alloc _) = W;have F0 := xH (zG (S := S) (p := p) hW);obtain ⟨B, hB⟩ : ∃ B, w.heap.size = B := ⟨_, rfl⟩;rw [hB] at F0 ⊢;clear hW hB;obtain ⟨c0, c1, c2, c3⟩ := F0.out.c;go_wp2_with fail
 refine Calls.mono (qG S p _ HP.out (a) (by omega) [45] ⟨#[45]⟩ rfl (by decide) (Or.inl (by omega))) ?_;rintro e w1 ⟨rfl, hb⟩;have F1 := xH (F0.out.step hb);clear hb c0 c1 c2 c3;obtain ⟨c0, c1, c2, c3⟩ := F1.out.c;cases h45 : p.has [45] a with
 | true =>
  have hi := qR HP.out h45;have HR0 := xH (show p.sign a = (1, a + 1) by unfold Pt.sign; simp only [h45]; rfl);have HZ := xH (show num p (a + 1) = ((num p (a + 1)).1, (num p (a + 1)).2.1, (num p (a + 1)).2.2) from rfl);go_wp2_with fail
  refine Calls.mono (vY S p _ HP.out (a + 1) (by omega)) ?_;rintro e w2 ⟨rfl, hb⟩;have F2 := xH (F1.out.step hb);clear hb c0 c1 c2 c3;obtain ⟨c0, c1, c2, c3⟩ := F2.out.c;have HR1 := xH (show sgn p a = if (num p (a + 1)).2.1 = a + 1 then (0, 1, a, false) else ((num p (a + 1)).1, 1, (num p (a + 1)).2.1, (num p (a + 1)).2.2) by unfold sgn; rw [HR0.out]);clear HZ;generalize num p (a + 1) = q at *;obtain ⟨q1, q2, q3⟩ := q;simp only at HR1;by_cases hq : q2 = a + 1
  ·have HR := xH (HR1.out.trans (if_pos hq));clear HR1;subst hq;go_wp2_with fail
   refine bodyPost_ret (yf rfl _ _ _) rfl ?_;rw [HR.out];exact ⟨rfl, F2.out.bel⟩
  ·have HR := xH (HR1.out.trans (if_neg hq));clear HR1;have hq2 : ¬ ((q2 : Nat) : Int) = ((a + 1 : Nat) : Int) := by omega
   have hq3 : ¬ ((q2 : Nat) : Int) = (a : Int) + 1 := by omega
   go_wp2_with fail
   refine bodyPost_ret (yf rfl _ _ _) rfl ?_;rw [HR.out];exact ⟨rfl, F2.out.bel⟩
 | false =>
  go_wp2_with fail
  refine Calls.mono (qG S p _ HP.out (a) (by omega) [43] ⟨#[43]⟩ rfl (by decide) (Or.inl (by omega))) ?_;rintro e w2 ⟨rfl, hb⟩;have F2 := xH (F1.out.step hb);clear hb c0 c1 c2 c3;obtain ⟨c0, c1, c2, c3⟩ := F2.out.c;cases h43 : p.has [43] a with
  | true =>
   have hi := qR HP.out h43;have HR0 := xH (show p.sign a = (2, a + 1) by unfold Pt.sign; simp only [h45, h43]; rfl);have HZ := xH (show num p (a + 1) = ((num p (a + 1)).1, (num p (a + 1)).2.1, (num p (a + 1)).2.2) from rfl);go_wp2_with fail
   refine Calls.mono (vY S p _ HP.out (a + 1) (by omega)) ?_;rintro e w3 ⟨rfl, hb⟩;have F3 := xH (F2.out.step hb);clear hb c0 c1 c2 c3;obtain ⟨c0, c1, c2, c3⟩ := F3.out.c;have HR1 := xH (show sgn p a = if (num p (a + 1)).2.1 = a + 1 then (0, 2, a, false) else ((num p (a + 1)).1, 2, (num p (a + 1)).2.1, (num p (a + 1)).2.2) by unfold sgn; rw [HR0.out]);clear HZ;generalize num p (a + 1) = q at *;obtain ⟨q1, q2, q3⟩ := q;simp only at HR1;by_cases hq : q2 = a + 1
   ·have HR := xH (HR1.out.trans (if_pos hq));clear HR1;subst hq;go_wp2_with fail
    refine bodyPost_ret (yf rfl _ _ _) rfl ?_;rw [HR.out];exact ⟨rfl, F3.out.bel⟩
   ·have HR := xH (HR1.out.trans (if_neg hq));clear HR1;have hq2 : ¬ ((q2 : Nat) : Int) = ((a + 1 : Nat) : Int) := by omega
    have hq3 : ¬ ((q2 : Nat) : Int) = (a : Int) + 1 := by omega
    go_wp2_with fail
    refine bodyPost_ret (yf rfl _ _ _) rfl ?_;rw [HR.out];exact ⟨rfl, F3.out.bel⟩
  | false =>
   have HR0 := xH (show p.sign a = (0, a) by unfold Pt.sign; simp only [h45, h43]; rfl);have HZ := xH (show num p (a) = ((num p (a)).1, (num p (a)).2.1, (num p (a)).2.2) from rfl);go_wp2_with fail
   refine Calls.mono (vY S p _ HP.out (a) (by omega)) ?_;rintro e w3 ⟨rfl, hb⟩;have F3 := xH (F2.out.step hb);clear hb c0 c1 c2 c3;obtain ⟨c0, c1, c2, c3⟩ := F3.out.c;have HR1 := xH (show sgn p a = if (num p (a)).2.1 = a then (0, 0, a, false) else ((num p (a)).1, 0, (num p (a)).2.1, (num p (a)).2.2) by unfold sgn; rw [HR0.out]);clear HZ;generalize num p (a) = q at *;obtain ⟨q1, q2, q3⟩ := q;simp only at HR1;by_cases hq : q2 = a
   ·have HR := xH (HR1.out.trans (if_pos hq));clear HR1;subst hq;go_wp2_with fail
    refine bodyPost_ret (yf rfl _ _ _) rfl ?_;rw [HR.out];exact ⟨rfl, F3.out.bel⟩
   ·have HR := xH (HR1.out.trans (if_neg hq));clear HR1;have hq2 : ¬ ((q2 : Nat) : Int) = ((a : Nat) : Int) := by omega
    have hq3 : ¬ ((q2 : Nat) : Int) = (a : Int) := by omega
    go_wp2_with fail
    refine bodyPost_ret (yf rfl _ _ _) rfl ?_;rw [HR.out];exact ⟨rfl, F3.out.bel⟩
end Go.Proofs.YtnpcombfgdbhkaaDoor.rtw
end
section
namespace Go.Proofs.YtnpcombfgdbhkaaDoor.rtw
open sq
open Go Go.RowKit Go.Maps utfp utfw ucdp setp setw prp tkp rtp
open tkw (sg sg_bd vJ jM qK tkR qO qM vI)
theorem sub_ext {S : ByteArray} {p : Pt} (h : Pat S p) {a b : Nat} (hab : a ≤ b) (hb : b ≤ p.n) : S.extract a b = p.sub a b := by
 have hz : (S.extract a b).size = b - a := by rw [ByteArray.size_extract, ← h.n]; omega
 apply toList_inj;rw [Lib.toList_data, Lib.toList_data];apply List.ext_getElem
 ·rw [Array.length_toList, Array.length_toList];exact hz.trans (tkw.sub_size p a b).symm
 ·intro i h1 h2;have h3 : i < (p.sub a b).size := by rw [Array.length_toList] at h2; exact h2
  have h4 : i < (S.extract a b).size := by rw [Array.length_toList] at h1; exact h1
  have e1 := tkw.sub_at (jS h) h3;rw [Array.getElem_toList, Array.getElem_toList];have e2 : ((S.extract a b)[i]'h4) = S[a + i]'(by rw [hz] at h4; rw [h.n] at hb; omega) := ByteArray.getElem_extract h4;have e3 := gb h (a + i) (by rw [hz] at h4; rw [h.n] at hb; omega);rw [← e2, ← e1] at e3;exact UInt8.toNat_inj.1 (Int.ofNat_inj.1 e3)
theorem sub_self (p : Pt) (a : Nat) : p.sub a a = ByteArray.empty := by unfold Pt.sub; rw [Nat.sub_self]; rfl
def NameRel (w : World) (B : Nat) (S : ByteArray) (p : Pt) (a : Nat) (vi : Value) (wr : World) : Prop :=
 ∃ l : Nat, a + l ≤ S.size ∧ Hid (∀ i, i < l → a + i < p.n ∧ isWrd (p.g (a + i)) = true) ∧ vi = .int .i64 ((a + l : Nat) : Int) ∧ FR w B S p wr
theorem name_of {p : Pt} {a l : Nat} (hp : p.n ≤ 1000) (h : ∀ i, i < l → a + i < p.n ∧ isWrd (p.g (a + i)) = true) (hs : a + l = p.n ∨ isWrd (p.g (a + l)) = false) : p.name a = (a + l, decide (0 < l) && !isDig (p.g a) && decide (l ≤ 32)) := by
 have hl : l ≤ 1000 := by
  rcases l with _ | l
  ·omega
  ·have := (h l (by omega)).1; omega
 have hr : p.run isWrd 1000 a = a + l := run_stop h hs hl;unfold Pt.name;rw [hr, Nat.add_sub_cancel_left]
 congr 4
 simp
theorem zh {p : Pt} {a : Nat} (h : a ≤ p.n) : a ≤ (p.name a).1 ∧ (p.name a).1 ≤ p.n := ⟨(tkw.run_bd h).1, (tkw.run_bd h).2.1⟩
def NamB (p : Pt) (a : Nat) (w : World) (e : Ending) (w' : World) : Prop := e = .returned (.tuple #[.string (p.sub a (p.name a).1), .int .i64 ((p.name a).1 : Nat), .bool (p.name a).2]) ∧ Below w.heap.size w w'
theorem wrd_let {c : Int} (h : isLet c = true) : isWrd c = true := by simp [isWrd, h]
theorem wrd_dig {c : Int} (h : isDig c = true) : isWrd c = true := by simp [isWrd, h]
theorem wrd_us : isWrd 95 = true := by decide
theorem wrd_no {c : Int} (h1 : isLet c = false) (h2 : isDig c = false) (h3 : ¬ c = 95) : isWrd c = false := by simp [isWrd, h1, h2, h3]
theorem name_any (S : ByteArray) (p : Pt) (w : World) (hP : Pat S p) (a : Nat) (ha : a ≤ p.n) : Calls Tryd.prog 57 #[txV S p, .int .i64 a] w (NamB p a w) := by
 have hn := hP.n;have h2 := hP.le;have HP := xH hP;have HN := xH hn;clear hP;rw [hn] at ha;clear hn;unfold txV txC;go_enter Tryd.func57, Tryd.ntmps57;go_upto_region 1 with (fail)
 generalize hW : (w.alloc _) = W;have F0 := xH (zG (S := S) (p := p) hW);obtain ⟨B, hB⟩ : ∃ B, w.heap.size = B := ⟨_, rfl⟩;rw [hB] at F0 ⊢;clear hW hB;obtain ⟨c0, c1, c2, c3⟩ := F0.out.c;clear c0 c1 c2 c3;go_wp2_with fail
 go_loopw [1] (fun vi wr => NameRel w B S p a vi wr) (fun vi _ => S.size - (intOf vi).toNat)
 case atStart => exact ⟨0, ha, xH (fun i h => absurd h (Nat.not_lt_zero i)), rfl, F0.out⟩
 case round =>
  obtain ⟨l, hl, hd, rfl, hF⟩ := hrel;have F1 := xH hF;clear hF;obtain ⟨c0, c1, c2, c3⟩ := F1.out.c;have hgb := gb HP.out;by_cases hlt : a + l < S.size
  ·obtain ⟨b0, b1⟩ := jS HP.out (a + l);go_wp2_with fail
   refine (letter_any _ _ b0 b1).mono ?_;rintro e w1 ⟨rfl, rfl⟩;cases hlet : isLet (p.g (a + l)) with
   | true =>
    go_wp2_with fail
    refine ⟨⟨l + 1, by omega, xH (fun i hi => by
     by_cases e : i = l
     ·subst e; exact ⟨by rw [HN.out]; exact hlt, wrd_let hlet⟩
     ·exact hd.out i (by omega)), rfl, F1.out⟩, by simp only [intOf]; omega⟩
   | false =>
    go_wp2_with fail
    refine (digit_any _ _ b0 b1).mono ?_;rintro e w1 ⟨rfl, rfl⟩;cases hdg : isDig (p.g (a + l)) with
    | true =>
     go_wp2_with fail
     refine ⟨⟨l + 1, by omega, xH (fun i hi => by
      by_cases e : i = l
      ·subst e; exact ⟨by rw [HN.out]; exact hlt, wrd_dig hdg⟩
      ·exact hd.out i (by omega)), rfl, F1.out⟩, by simp only [intOf]; omega⟩
    | false =>
     by_cases hus : p.g (a + l) = 95
     ·have hb : (p.g (a + l) == 95) = true := by simp [hus]
      go_wp2_with fail
      refine ⟨⟨l + 1, by omega, xH (fun i hi => by
       by_cases e : i = l
       ·subst e; exact ⟨by rw [HN.out]; exact hlt, by rw [hus]; exact wrd_us⟩
       ·exact hd.out i (by omega)), rfl, F1.out⟩, by simp only [intOf]; omega⟩
     ·have hb : (p.g (a + l) == 95) = false := by simp [hus]
      have HL := xH HN.out;have HNM := xH (name_of (l := l) (by rw [HN.out]; exact h2) hd.out (Or.inr (wrd_no hlet hdg hus)));have HE := xH (sub_ext HP.out (show a ≤ a + l by omega) (show a + l ≤ p.n by rw [HN.out]; omega));have hz : (p.sub a (a + l)).size = l := by rw [tkw.sub_size]; omega
      have hix : ∀ (h : 0 < (p.sub a (a + l)).size), (((p.sub a (a + l))[0]'h).toNat : Int) = p.g a := fun h => tkw.sub_at (jS HP.out) h
      have hxt : S.extract a (a + l) = p.sub a (a + l) := HE.out;obtain ⟨g0, g1⟩ := jS HP.out a;by_cases l0 : l = 0
      ·have HR := xH (show (p.name a).2 = false by rw [HNM.out]; simp [l0]);have hl0 : ¬ (0 : Int) < (l : Int) := by omega
       have hzi : ¬ (0 : Int) < ((p.sub a (a + l)).size : Int) := by omega
       have hle : l ≤ 32 := by omega
       clear l0;go_wp2_with fail
       go_ret3
       unfold NamB;rw [HR.out, HNM.out];exact ⟨rfl, F1.out.bel⟩
      by_cases l32 : l ≤ 32
      ·have l1 : 0 < l := by omega
       have l2 : (l : Int) ≤ 32 := by omega
       have hl0 : (0 : Int) < (l : Int) := by omega
       have hzi : (0 : Int) < ((p.sub a (a + l)).size : Int) := by omega
       have hzj : ((p.sub a (a + l)).size : Int) ≤ 32 := by omega
       go_wp2_with fail
       refine Calls.mono (digit_any _ _ g0 g1) ?_;rintro e w1 ⟨rfl, rfl⟩;have HR := xH (show (p.name a).2 = !isDig (p.g a) by rw [HNM.out]; simp [l1, l32]);go_wp2_with fail
       go_ret3
       unfold NamB;rw [HR.out, HNM.out];exact ⟨rfl, F1.out.bel⟩
      have HR := xH (show (p.name a).2 = false by rw [HNM.out]; simp [l32]);have l1 : 0 < l := by omega
      have l2 : ¬ (l : Int) ≤ 32 := by omega
      have hzi : (0 : Int) < ((p.sub a (a + l)).size : Int) := by omega
      have hzj : ¬ ((p.sub a (a + l)).size : Int) ≤ 32 := by omega
      go_wp2_with fail
      go_ret3
      unfold NamB;rw [HR.out, HNM.out];exact ⟨rfl, F1.out.bel⟩
  ·have HL := xH HN.out;have HNM := xH (name_of (l := l) (by rw [HN.out]; exact h2) hd.out (Or.inl (by rw [HN.out]; omega)));have HE := xH (sub_ext HP.out (show a ≤ a + l by omega) (show a + l ≤ p.n by rw [HN.out]; omega));have hz : (p.sub a (a + l)).size = l := by rw [tkw.sub_size]; omega
   have hix : ∀ (h : 0 < (p.sub a (a + l)).size), (((p.sub a (a + l))[0]'h).toNat : Int) = p.g a := fun h => tkw.sub_at (jS HP.out) h
   have hxt : S.extract a (a + l) = p.sub a (a + l) := HE.out;obtain ⟨g0, g1⟩ := jS HP.out a;by_cases l0 : l = 0
   ·have HR := xH (show (p.name a).2 = false by rw [HNM.out]; simp [l0]);have hl0 : ¬ (0 : Int) < (l : Int) := by omega
    have hzi : ¬ (0 : Int) < ((p.sub a (a + l)).size : Int) := by omega
    have hle : l ≤ 32 := by omega
    clear l0;go_wp2_with fail
    go_ret3
    unfold NamB;rw [HR.out, HNM.out];exact ⟨rfl, F1.out.bel⟩
   by_cases l32 : l ≤ 32
   ·have l1 : 0 < l := by omega
    have l2 : (l : Int) ≤ 32 := by omega
    have hl0 : (0 : Int) < (l : Int) := by omega
    have hzi : (0 : Int) < ((p.sub a (a + l)).size : Int) := by omega
    have hzj : ((p.sub a (a + l)).size : Int) ≤ 32 := by omega
    go_wp2_with fail
    refine Calls.mono (digit_any _ _ g0 g1) ?_;rintro e w1 ⟨rfl, rfl⟩;have HR := xH (show (p.name a).2 = !isDig (p.g a) by rw [HNM.out]; simp [l1, l32]);go_wp2_with fail
    go_ret3
    unfold NamB;rw [HR.out, HNM.out];exact ⟨rfl, F1.out.bel⟩
   have HR := xH (show (p.name a).2 = false by rw [HNM.out]; simp [l32]);have l1 : 0 < l := by omega
   have l2 : ¬ (l : Int) ≤ 32 := by omega
   have hzi : (0 : Int) < ((p.sub a (a + l)).size : Int) := by omega
   have hzj : ¬ ((p.sub a (a + l)).size : Int) ≤ 32 := by omega
   go_wp2_with fail
   go_ret3
   unfold NamB;rw [HR.out, HNM.out];exact ⟨rfl, F1.out.bel⟩
theorem FG.low {w W W' : World} {B : Nat} {S : ByteArray} {p : Pt} (h : FG w B S p W) (hb : Below (B + 2) W W') : FG w B S p W' :=
 ⟨⟨h.hB, h.below.trans (hb.mono (by omega)), h.x.below hb (by omega)⟩, by obtain ⟨old, h1, h2⟩ := h.g; exact ⟨old, (hb.block _ (by omega)).trans h1, h2⟩⟩
theorem FG.sz {w W : World} {B : Nat} {S : ByteArray} {p : Pt} (h : FG w B S p W) : B + 2 ≤ W.heap.size := by obtain ⟨old, h1, _⟩ := h.g;have := zi h1;omega
theorem quant_any (S : ByteArray) (p : Pt) (w : World) (hP : Pat S p) (i b : Nat) (n m : Int) (hb : b ≤ p.n) : Calls Tryd.prog 37 #[txV S p, .int .i64 i, .int .i64 b, .int .i64 n, .int .i64 m] w (GotB w (quan p i b n m)) := by
 have hn := hP.n;have h2 := hP.le;have HP := xH hP;have HN := xH hn;clear hP;rw [hn] at hb;clear hn;have hi3 : b ≤ 1000 := by omega
 have HBb := xH hb;clear hb;unfold txV txC;go_enter Tryd.func37, Tryd.ntmps37;go_upto_region 1 with (fail)
 generalize hW : (w.alloc _).alloc _ = W;have F0 := xH (fg_start (S := S) (p := p) hW);obtain ⟨B, hB⟩ : ∃ B, w.heap.size = B := ⟨_, rfl⟩;rw [hB] at F0 ⊢;clear hW hB;obtain ⟨c0, c1, c2, c3⟩ := F0.out.c;go_upto_region 2 with (fail)
 generalize hW2 : World.alloc _ _ = W2;have F1 := xH (F0.out.low (by rw [← hW2]; exact (Below.refl _ _).alloc F0.out.sz _) : FG w B S p W2);obtain ⟨T, hT⟩ : ∃ T, W.heap.size = T := ⟨_, rfl⟩;have HTB := xH (show B + 2 ≤ T by rw [← hT]; exact F0.out.sz);have HT1 : Hid (W2.heap[T]? = some (.cells (tkR (.slice none 0 0) { kind := 9, n := n, m := m }) 53 (0, 0))) := xH (by rw [← hW2, ← hT]; exact heap_alloc_new _ _);rw [hT];clear hW2 hT c0 c1 c2 c3;obtain ⟨c0, c1, c2, c3⟩ := F1.out.c;go_wp2_with fail
 refine Calls.mono (qG S p _ HP.out b (by omega) [63] ⟨#[63]⟩ rfl (by decide) (Or.inl (by rw [HN.out]; exact HBb.out))) ?_;rintro e w2 ⟨rfl, hb⟩;have F2 := xH (F1.out.step hb);have HT2 := xH ((hb.block T (zi HT1.out)).trans HT1.out);clear hb c0 c1 c2 c3;obtain ⟨c0, c1, c2, c3⟩ := F2.out.c;cases h63 : p.has [63] b with
 | true =>
  have HR := xH (show quan p i b n m = gtok { kind := 9, n := n, m := m, mode := 1 } i (b + 1) by unfold quan Pt.mode; simp only [h63]; rfl);have ct : w2.cell? ⟨T, 8, none⟩ = some (.int .i64 0) := by simp [World.cell?, HT2.out, tkR]
  have cf : w2.frozen? ⟨T, 8, none⟩ = false := by simp [World.frozen?, HT2.out]
  have HS : Hid ((w2.setCell ⟨T, 8, none⟩ (.int .i64 1)).heap[T]? = some (.cells (tkR (.slice none 0 0) { kind := 9, n := n, m := m, mode := 1 }) 53 (0, 0))) := xH (tkw.heap_set HT2.out);have F3 := xH (F2.out.low ((Below.refl _ w2).setCell (p := ⟨T, 8, none⟩) HTB.out (.int .i64 1)));clear c0 c1 c2 c3;obtain ⟨c0, c1, c2, c3⟩ := F3.out.c;go_wp2_with (refine tkw.qX rfl _ rfl T rfl _ HS.out rfl ?_)
  refine Calls.mono (qF (.slice none 0 0) ({ kind := 9, n := n, m := m, mode := 1 }) (i) (b + 1) _ (k := B) (qm _ _)) ?_;rintro e w4 ⟨rfl, ho, hb⟩;have F4 := xH (F3.out.step hb);have HO := xH ho;clear hb ho c0 c1 c2 c3;obtain ⟨old, HG, hz⟩ := xG F4;go_wp2_with (refine xR HG hz HO rfl rfl rfl rfl rfl ?_)
  refine bodyPost_ret (xE HG rfl rfl) rfl ?_;exact qj F4.out HR.out HO.out (Nat.le_refl _)
 | false =>
  go_wp2_with fail
  refine Calls.mono (qG S p _ HP.out b (by omega) [43] ⟨#[43]⟩ rfl (by decide) (Or.inl (by rw [HN.out]; exact HBb.out))) ?_;rintro e w3 ⟨rfl, hb⟩;have F3 := xH (F2.out.step hb);have HT3 := xH ((hb.block T (zi HT2.out)).trans HT2.out);clear hb c0 c1 c2 c3;obtain ⟨c0, c1, c2, c3⟩ := F3.out.c;cases h43 : p.has [43] b with
  | true =>
   have HR := xH (show quan p i b n m = gtok { kind := 9, n := n, m := m, mode := 2 } i (b + 1) by unfold quan Pt.mode; simp only [h63, h43]; rfl);have ct : w3.cell? ⟨T, 8, none⟩ = some (.int .i64 0) := by simp [World.cell?, HT3.out, tkR]
   have cf : w3.frozen? ⟨T, 8, none⟩ = false := by simp [World.frozen?, HT3.out]
   have HS : Hid ((w3.setCell ⟨T, 8, none⟩ (.int .i64 2)).heap[T]? = some (.cells (tkR (.slice none 0 0) { kind := 9, n := n, m := m, mode := 2 }) 53 (0, 0))) := xH (tkw.heap_set HT3.out);have F4 := xH (F3.out.low ((Below.refl _ w3).setCell (p := ⟨T, 8, none⟩) HTB.out (.int .i64 2)));clear c0 c1 c2 c3;obtain ⟨c0, c1, c2, c3⟩ := F4.out.c;go_wp2_with (refine tkw.qX rfl _ rfl T rfl _ HS.out rfl ?_)
   refine Calls.mono (qF (.slice none 0 0) ({ kind := 9, n := n, m := m, mode := 2 }) (i) (b + 1) _ (k := B) (qm _ _)) ?_;rintro e w5 ⟨rfl, ho, hb⟩;have F5 := xH (F4.out.step hb);have HO := xH ho;clear hb ho c0 c1 c2 c3;obtain ⟨old, HG, hz⟩ := xG F5;go_wp2_with (refine xR HG hz HO rfl rfl rfl rfl rfl ?_)
   refine bodyPost_ret (xE HG rfl rfl) rfl ?_;exact qj F5.out HR.out HO.out (Nat.le_refl _)
  | false =>
   have HR := xH (show quan p i b n m = gtok { kind := 9, n := n, m := m } i b by unfold quan Pt.mode; simp only [h63, h43]; rfl);go_wp2_with (refine tkw.qX rfl _ rfl T rfl _ HT3.out rfl ?_)
   refine Calls.mono (qF (.slice none 0 0) ({ kind := 9, n := n, m := m }) (i) (b) _ (k := B) (qm _ _)) ?_;rintro e w4 ⟨rfl, ho, hb⟩;have F4 := xH (F3.out.step hb);have HO := xH ho;clear hb ho c0 c1 c2 c3;obtain ⟨old, HG, hz⟩ := xG F4;go_wp2_with (refine xR HG hz HO rfl rfl rfl rfl rfl ?_)
   refine bodyPost_ret (xE HG rfl rfl) rfl ?_;exact qj F4.out HR.out HO.out (Nat.le_refl _)
end Go.Proofs.YtnpcombfgdbhkaaDoor.rtw
end
section
namespace Go.Proofs.YtnpcombfgdbhkaaDoor.rtw
open sq
open Go Go.RowKit Go.Maps utfp utfw ucdp setp setw prp tkp rtp
open tkw (sg sg_bd vJ jM qK tkR qO qM vI)
theorem run_max {p : Pt} {fits : Int → Bool} : ∀ {l k a : Nat}, (∀ i, i < l → a + i < p.n ∧ fits (p.g (a + i)) = true) → (l = k ∨ a + l = p.n ∨ fits (p.g (a + l)) = false) → l ≤ k → p.run fits k a = a + l
 | 0, k, a, h, hs, hl => by
  rcases hs with hs | hs
  ·subst hs; rfl
  ·exact run_stop h hs hl
 | l + 1, k, a, h1, h2, h3 => by obtain ⟨k, rfl⟩ : ∃ q, k = q + 1 := ⟨k - 1, by omega⟩;have h0 := h1 0 (by omega);unfold Pt.run;rw [if_pos (by simp only [Bool.and_eq_true, decide_eq_true_eq]; exact ⟨h0.1, h0.2⟩)];rw [run_max (l := l) (k := k) (a := a + 1) (fun i hi => by have := h1 (i + 1) (by omega); rwa [show a + 1 + i = a + (i + 1) by omega]) (by rcases h2 with h2 | h2 | h2; exact Or.inl (by omega); exact Or.inr (Or.inl (by omega)); exact Or.inr (Or.inr (by rwa [show a + 1 + l = a + (l + 1) by omega]))) (by omega)];omega
theorem hexV_in {c : Int} (h : zn c = true) : 0 ≤ hexV c ∧ hexV c ≤ 15 := by
 simp only [zn, isDig, Bool.or_eq_true, Bool.and_eq_true, decide_eq_true_eq] at h;unfold hexV;split
 ·omega
 ·split <;> omega
theorem hexVal_in {p : Pt} {a : Nat} : ∀ {l : Nat}, (∀ i, i < l → a + i < p.n ∧ zn (p.g (a + i)) = true) → 0 ≤ p.hexVal a l ∧ p.hexVal a l + 1 ≤ 16 ^ l
 | 0, _ => by simp [Pt.hexVal]
 | l + 1, h => by
  have ih := hexVal_in (l := l) fun i hi => h i (by omega)
  have := hexV_in (h l (by omega)).2;unfold Pt.hexVal;rw [Int.pow_succ];omega
theorem hexVal_le {p : Pt} {a l : Nat} (h : ∀ i, i < l → a + i < p.n ∧ zn (p.g (a + i)) = true) (hl : l ≤ 7) : 0 ≤ p.hexVal a l ∧ p.hexVal a l ≤ 268435455 := by
 have h1 := hexVal_in h;have h2 : (16 : Int) ^ l ≤ 268435456 := by
  obtain h | h | h | h | h | h | h | h : l = 0 ∨ l = 1 ∨ l = 2 ∨ l = 3 ∨ l = 4 ∨ l = 5 ∨ l = 6 ∨ l = 7 := by omega
  all_goals (subst h; decide)
 omega
theorem hexN_pos {c : Int} (h : zn c = true) : hexN c = hexV c := by unfold hexN; rw [if_pos h]
theorem hexN_neg {c : Int} (h : zn c = false) : hexN c = -1 := by unfold hexN; rw [if_neg (by simp [h])]
def HxB (r : Option (Int × Nat)) (w : World) (e : Ending) (w' : World) : Prop := (∃ (v : Int) (j : Nat), e = .returned (.tuple #[.int .i64 v, .int .i64 j]) ∧ j ≤ 2000 ∧ (r = none ∧ v = -1 ∨ r = some (v, j))) ∧ Below w.heap.size w w'
def HexRel (w : World) (B : Nat) (S : ByteArray) (p : Pt) (a m : Nat) (vn vi vk : Value) (wr : World) : Prop :=
 ∃ l : Nat, a + l ≤ S.size ∧ l ≤ m ∧ Hid (∀ i, i < l → a + i < p.n ∧ zn (p.g (a + i)) = true) ∧ vn = .int .i64 (p.hexVal a l) ∧ vi = .int .i64 ((a + l : Nat) : Int) ∧ vk = .int .i64 l ∧ FR w B S p wr
theorem hexd_of {p : Pt} {a l m : Nat} (h : ∀ i, i < l → a + i < p.n ∧ zn (p.g (a + i)) = true) (hs : l = m ∨ a + l = p.n ∨ zn (p.g (a + l)) = false) (hl : l ≤ m) : p.hexd m a = (p.hexVal a l, a + l) := by unfold Pt.hexd;rw [run_max h hs hl, Nat.add_sub_cancel_left]
theorem hexa_any (S : ByteArray) (p : Pt) (w : World) (hP : Pat S p) (i : Nat) (hi : i ≤ p.n) : Calls Tryd.prog 54 #[txV S p, .int .i64 i] w (HxB (hexz p i) w) := by
 have hn := hP.n;have h2 := hP.le;have HP := xH hP;have HN := xH hn;clear hP;rw [hn] at hi;clear hn;have hm1 := vH p;have hm2 := most_ge p;unfold txV txC;go_enter Tryd.func54, Tryd.ntmps54;go_upto_region 1 with (fail)
 generalize hW : (w.alloc _) = W;have F0 := xH (zG (S := S) (p := p) hW);obtain ⟨B, hB⟩ : ∃ B, w.heap.size = B := ⟨_, rfl⟩;rw [hB] at F0 ⊢;clear hW hB;obtain ⟨c0, c1, c2, c3⟩ := F0.out.c;go_wp2_with fail
 refine Calls.mono (qG S p _ HP.out (i) (by omega) [123] ⟨#[123]⟩ rfl (by decide) (Or.inl (by rw [HN.out]; exact hi))) ?_;rintro e w1 ⟨rfl, hb⟩;have F1 := xH (F0.out.step hb);clear hb c0 c1 c2 c3;obtain ⟨c0, c1, c2, c3⟩ := F1.out.c;cases h123 : p.has [123] i with
 | true =>
  have hin := qR HP.out h123;rw [HN.out] at hin;simp only [List.length_nil, Nat.zero_add] at hin;go_wp2_with fail
  go_loopw [6, 7] (fun vn vi wr => HexRel w B S p (i + 1) 7 vn vi (.int .i64 (intOf vi - (i + 1))) wr) (fun _ vi _ => S.size - (intOf vi).toNat)
  case atStart => exact ⟨0, by omega, by omega, xH (fun j h => absurd h (Nat.not_lt_zero j)), rfl, rfl, by simp [intOf], F1.out⟩
  case round =>
   obtain ⟨l, hl, hl7, hd, rfl, rfl, _, hF⟩ := hrel;have F2 := xH hF;clear hF;obtain ⟨c0, c1, c2, c3⟩ := F2.out.c;have hgb := gb HP.out;obtain ⟨hv0, hv1⟩ := hexVal_le hd.out (by omega);generalize hVV : p.hexVal (i + 1) l = V at *;have HVV := xH hVV;clear hVV;by_cases hlt : i + 1 + l < S.size
   ·obtain ⟨b0, b1⟩ := jS HP.out (i + 1 + l);go_wp2_with fail
    refine (hex_any _ _ b0 b1).mono ?_;rintro e w1 ⟨rfl, rfl⟩;cases hx : zn (p.g (i + 1 + l)) with
    | true =>
     by_cases l7 : l = 7
     ·have HD := xH (hexd_of (m := 7) hd.out (Or.inl l7) hl7);have HX := xH (show hexz p i = none by unfold hexz; rw [if_pos h123, if_pos]; rw [HD.out]; simp only; right; left; omega);have hnn := hexN_pos hx;obtain ⟨x0, x1⟩ := hexV_in hx;have hl0 : ¬ (l : Int) < 7 := by omega
      clear l7;rw [hnn];go_wp2_with fail
      go_ret2
      exact ⟨⟨-1, _, rfl, by omega, Or.inl ⟨HX.out, rfl⟩⟩, F2.out.bel⟩
     ·have hl0 : (l : Int) < 7 := by omega
      have h15 := hexV_in hx;obtain ⟨x0, x1⟩ := h15;have hnn := hexN_pos hx;have hge : (0 : Int) ≤ hexV (p.g (i + 1 + l)) := x0;rw [hnn];go_wp2_with fail
      refine (hex_any _ _ b0 b1).mono ?_;rintro e w2 ⟨rfl, rfl⟩;rw [hnn];go_wp2_with fail
      refine ⟨⟨l + 1, by omega, by omega, xH (fun j hj => by
       by_cases e : j = l
       ·subst e; exact ⟨by rw [HN.out]; exact hlt, hx⟩
       ·exact hd.out j (by omega)), ?_, ?_, ?_, F2.out⟩, by simp only [intOf]; omega⟩
      ·rw [show p.hexVal (i + 1) (l + 1) = p.hexVal (i + 1) l * 16 + hexV (p.g (i + 1 + l)) from rfl, HVV.out]
      ·congr 1
       try omega
      ·simp only [intOf]
       congr 1
       omega
    | false =>
     have hnn := hexN_neg hx;rw [hnn];have HD := xH (hexd_of (m := 7) hd.out (Or.inr (Or.inr hx)) hl7);rw [HVV.out] at HD;by_cases l0 : l = 0
     ·have HX := xH (show hexz p i = none by unfold hexz; rw [if_pos h123, if_pos]; rw [HD.out]; simp only; left; omega);have hl0 : ¬ (0 : Int) < (l : Int) := by omega
      clear l0;go_wp2_with fail
      go_ret2
      exact ⟨⟨-1, _, rfl, by omega, Or.inl ⟨HX.out, rfl⟩⟩, F2.out.bel⟩
     ·have hl1 : (0 : Int) < (l : Int) := by omega
      by_cases l7 : l = 7
      ·have HX := xH (show hexz p i = none by unfold hexz; rw [if_pos h123, if_pos]; rw [HD.out]; simp only; right; left; omega);have hl0 : ¬ (l : Int) < 7 := by omega
       clear l7;go_wp2_with fail
       go_ret2
       exact ⟨⟨-1, _, rfl, by omega, Or.inl ⟨HX.out, rfl⟩⟩, F2.out.bel⟩
      ·have hl2 : (l : Int) < 7 := by omega
       have hk : ((i : Int) + 1 + (l : Int) == (i : Int) + 1) = false := by simp; omega
       go_wp2_with fail
       refine Calls.mono (qG S p _ HP.out (i + 1 + l) (by omega) [125] ⟨#[125]⟩ rfl (by decide) (Or.inl (by rw [HN.out]; exact hl))) ?_;rintro e w3 ⟨rfl, hb⟩;have F3 := xH (F2.out.step hb);clear hb c0 c1 c2 c3;obtain ⟨c0, c1, c2, c3⟩ := F3.out.c;cases h125 : p.has [125] (i + 1 + l) with
       | false =>
        have HX := xH (show hexz p i = none by unfold hexz; rw [if_pos h123, if_pos]; rw [HD.out]; simp only; right; right; exact h125);go_wp2_with fail
        go_ret2
        exact ⟨⟨-1, _, rfl, by omega, Or.inl ⟨HX.out, rfl⟩⟩, F3.out.bel⟩
       | true =>
        have HR := xH (show hexz p i = hexC p (V, i + 1 + l + 1) by unfold hexz; rw [if_pos h123, if_neg, HD.out]; rw [HD.out]; simp only; rintro (h | h | h); omega; omega; rw [h125] at h; cases h);by_cases hm : p.most < V
        ·have HX := xH (HR.out.trans (show hexC p (V, (i + 1 + l + 1)) = none by unfold hexC; rw [if_pos]; simp only; exact Or.inl hm));go_wp2_with fail
         go_ret2
         exact ⟨⟨-1, (i + 1 + l + 1), rfl, by omega, Or.inl ⟨HX.out, rfl⟩⟩, F3.out.bel⟩
        ·have hm2 : V ≤ p.most := by omega
         cases hu : p.u with
         | false =>
          rw [hu] at c1;have HX := xH (HR.out.trans (show hexC p (V, (i + 1 + l + 1)) = some (V, (i + 1 + l + 1)) by unfold hexC; rw [if_neg]; simp only; rintro (h | ⟨h, _⟩); exact hm h; rw [hu] at h; cases h));go_wp2_with fail
          go_ret2
          exact ⟨⟨_, (i + 1 + l + 1), rfl, by omega, Or.inr HX.out⟩, F3.out.bel⟩
         | true =>
          rw [hu] at c1;by_cases h5 : 55296 ≤ V
          ·by_cases h6 : V ≤ 57343
           ·have HX := xH (HR.out.trans (show hexC p (V, (i + 1 + l + 1)) = none by unfold hexC; rw [if_pos]; simp only; exact Or.inr ⟨hu, h5, h6⟩));go_wp2_with fail
            go_ret2
            exact ⟨⟨-1, (i + 1 + l + 1), rfl, by omega, Or.inl ⟨HX.out, rfl⟩⟩, F3.out.bel⟩
           ·have HX := xH (HR.out.trans (show hexC p (V, (i + 1 + l + 1)) = some (V, (i + 1 + l + 1)) by unfold hexC; rw [if_neg]; simp only; rintro (h | ⟨_, _, h⟩); exact hm h; exact h6 h));go_wp2_with fail
            go_ret2
            exact ⟨⟨_, (i + 1 + l + 1), rfl, by omega, Or.inr HX.out⟩, F3.out.bel⟩
          ·have HX := xH (HR.out.trans (show hexC p (V, (i + 1 + l + 1)) = some (V, (i + 1 + l + 1)) by unfold hexC; rw [if_neg]; simp only; rintro (h | ⟨_, h, _⟩); exact hm h; exact h5 h));go_wp2_with fail
           go_ret2
           exact ⟨⟨_, (i + 1 + l + 1), rfl, by omega, Or.inr HX.out⟩, F3.out.bel⟩
   ·have HD := xH (hexd_of (m := 7) hd.out (Or.inr (Or.inl (by rw [HN.out]; omega))) hl7);rw [HVV.out] at HD;by_cases l0 : l = 0
    ·have HX := xH (show hexz p i = none by unfold hexz; rw [if_pos h123, if_pos]; rw [HD.out]; simp only; left; omega);have hl0 : ¬ (0 : Int) < (l : Int) := by omega
     clear l0;go_wp2_with fail
     go_ret2
     exact ⟨⟨-1, _, rfl, by omega, Or.inl ⟨HX.out, rfl⟩⟩, F2.out.bel⟩
    ·have hl1 : (0 : Int) < (l : Int) := by omega
     by_cases l7 : l = 7
     ·have HX := xH (show hexz p i = none by unfold hexz; rw [if_pos h123, if_pos]; rw [HD.out]; simp only; right; left; omega);have hl0 : ¬ (l : Int) < 7 := by omega
      clear l7;go_wp2_with fail
      go_ret2
      exact ⟨⟨-1, _, rfl, by omega, Or.inl ⟨HX.out, rfl⟩⟩, F2.out.bel⟩
     ·have hl2 : (l : Int) < 7 := by omega
      have hk : ((i : Int) + 1 + (l : Int) == (i : Int) + 1) = false := by simp; omega
      go_wp2_with fail
      refine Calls.mono (qG S p _ HP.out (i + 1 + l) (by omega) [125] ⟨#[125]⟩ rfl (by decide) (Or.inl (by rw [HN.out]; exact hl))) ?_;rintro e w3 ⟨rfl, hb⟩;have F3 := xH (F2.out.step hb);clear hb c0 c1 c2 c3;obtain ⟨c0, c1, c2, c3⟩ := F3.out.c;cases h125 : p.has [125] (i + 1 + l) with
      | false =>
       have HX := xH (show hexz p i = none by unfold hexz; rw [if_pos h123, if_pos]; rw [HD.out]; simp only; right; right; exact h125);go_wp2_with fail
       go_ret2
       exact ⟨⟨-1, _, rfl, by omega, Or.inl ⟨HX.out, rfl⟩⟩, F3.out.bel⟩
      | true =>
       have HR := xH (show hexz p i = hexC p (V, i + 1 + l + 1) by unfold hexz; rw [if_pos h123, if_neg, HD.out]; rw [HD.out]; simp only; rintro (h | h | h); omega; omega; rw [h125] at h; cases h);by_cases hm : p.most < V
       ·have HX := xH (HR.out.trans (show hexC p (V, (i + 1 + l + 1)) = none by unfold hexC; rw [if_pos]; simp only; exact Or.inl hm));go_wp2_with fail
        go_ret2
        exact ⟨⟨-1, (i + 1 + l + 1), rfl, by omega, Or.inl ⟨HX.out, rfl⟩⟩, F3.out.bel⟩
       ·have hm2 : V ≤ p.most := by omega
        cases hu : p.u with
        | false =>
         rw [hu] at c1;have HX := xH (HR.out.trans (show hexC p (V, (i + 1 + l + 1)) = some (V, (i + 1 + l + 1)) by unfold hexC; rw [if_neg]; simp only; rintro (h | ⟨h, _⟩); exact hm h; rw [hu] at h; cases h));go_wp2_with fail
         go_ret2
         exact ⟨⟨_, (i + 1 + l + 1), rfl, by omega, Or.inr HX.out⟩, F3.out.bel⟩
        | true =>
         rw [hu] at c1;by_cases h5 : 55296 ≤ V
         ·by_cases h6 : V ≤ 57343
          ·have HX := xH (HR.out.trans (show hexC p (V, (i + 1 + l + 1)) = none by unfold hexC; rw [if_pos]; simp only; exact Or.inr ⟨hu, h5, h6⟩));go_wp2_with fail
           go_ret2
           exact ⟨⟨-1, (i + 1 + l + 1), rfl, by omega, Or.inl ⟨HX.out, rfl⟩⟩, F3.out.bel⟩
          ·have HX := xH (HR.out.trans (show hexC p (V, (i + 1 + l + 1)) = some (V, (i + 1 + l + 1)) by unfold hexC; rw [if_neg]; simp only; rintro (h | ⟨_, _, h⟩); exact hm h; exact h6 h));go_wp2_with fail
           go_ret2
           exact ⟨⟨_, (i + 1 + l + 1), rfl, by omega, Or.inr HX.out⟩, F3.out.bel⟩
         ·have HX := xH (HR.out.trans (show hexC p (V, (i + 1 + l + 1)) = some (V, (i + 1 + l + 1)) by unfold hexC; rw [if_neg]; simp only; rintro (h | ⟨_, h, _⟩); exact hm h; exact h5 h));go_wp2_with fail
          go_ret2
          exact ⟨⟨_, (i + 1 + l + 1), rfl, by omega, Or.inr HX.out⟩, F3.out.bel⟩
 | false =>
  go_wp2_with fail
  go_loopw [1, 6, 8] (fun vi vn vk wr => HexRel w B S p i 2 vn vi vk wr) (fun vi _ _ _ => S.size - (intOf vi).toNat)
  case atStart => exact ⟨0, by omega, by omega, xH (fun j h => absurd h (Nat.not_lt_zero j)), rfl, rfl, rfl, F1.out⟩
  case round =>
   obtain ⟨l, hl, hl7, hd, rfl, rfl, rfl, hF⟩ := hrel;have F2 := xH hF;clear hF;obtain ⟨c0, c1, c2, c3⟩ := F2.out.c;have hgb := gb HP.out;obtain ⟨hv0, hv1⟩ := hexVal_le hd.out (by omega);generalize hVV : p.hexVal (i) l = V at *;have HVV := xH hVV;clear hVV;by_cases h2l : l = 2
   ·have HD := xH (hexd_of (m := 2) hd.out (Or.inl h2l) hl7);rw [HVV.out] at HD;have HR := xH (show hexz p i = hexC p (V, i + l) by unfold hexz; rw [if_neg (by simp [h123]), HD.out]);have hl2 : ¬ (l : Int) < 2 := by omega
    clear h2l;by_cases hm : p.most < V
    ·have HX := xH (HR.out.trans (show hexC p (V, (i + l)) = none by unfold hexC; rw [if_pos]; simp only; exact Or.inl hm));go_wp2_with fail
     go_ret2
     exact ⟨⟨-1, (i + l), rfl, by omega, Or.inl ⟨HX.out, rfl⟩⟩, F2.out.bel⟩
    ·have hm2 : V ≤ p.most := by omega
     cases hu : p.u with
     | false =>
      rw [hu] at c1;have HX := xH (HR.out.trans (show hexC p (V, (i + l)) = some (V, (i + l)) by unfold hexC; rw [if_neg]; simp only; rintro (h | ⟨h, _⟩); exact hm h; rw [hu] at h; cases h));go_wp2_with fail
      go_ret2
      exact ⟨⟨_, (i + l), rfl, by omega, Or.inr HX.out⟩, F2.out.bel⟩
     | true =>
      rw [hu] at c1;by_cases h5 : 55296 ≤ V
      ·by_cases h6 : V ≤ 57343
       ·have HX := xH (HR.out.trans (show hexC p (V, (i + l)) = none by unfold hexC; rw [if_pos]; simp only; exact Or.inr ⟨hu, h5, h6⟩));go_wp2_with fail
        go_ret2
        exact ⟨⟨-1, (i + l), rfl, by omega, Or.inl ⟨HX.out, rfl⟩⟩, F2.out.bel⟩
       ·have HX := xH (HR.out.trans (show hexC p (V, (i + l)) = some (V, (i + l)) by unfold hexC; rw [if_neg]; simp only; rintro (h | ⟨_, _, h⟩); exact hm h; exact h6 h));go_wp2_with fail
        go_ret2
        exact ⟨⟨_, (i + l), rfl, by omega, Or.inr HX.out⟩, F2.out.bel⟩
      ·have HX := xH (HR.out.trans (show hexC p (V, (i + l)) = some (V, (i + l)) by unfold hexC; rw [if_neg]; simp only; rintro (h | ⟨_, h, _⟩); exact hm h; exact h5 h));go_wp2_with fail
       go_ret2
       exact ⟨⟨_, (i + l), rfl, by omega, Or.inr HX.out⟩, F2.out.bel⟩
   ·have hl2 : (l : Int) < 2 := by omega
    by_cases hlt : i + l < S.size
    ·obtain ⟨b0, b1⟩ := jS HP.out (i + l);go_wp2_with fail
     refine (hex_any _ _ b0 b1).mono ?_;rintro e w1 ⟨rfl, rfl⟩;cases hx : zn (p.g (i + l)) with
     | true =>
      have h15 := hexV_in hx;obtain ⟨x0, x1⟩ := h15;have hnn := hexN_pos hx;have hge : (0 : Int) ≤ hexV (p.g (i + l)) := x0;rw [hnn];go_wp2_with fail
      refine (hex_any _ _ b0 b1).mono ?_;rintro e w2 ⟨rfl, rfl⟩;rw [hnn];go_wp2_with fail
      refine ⟨⟨l + 1, by omega, by omega, xH (fun j hj => by
       by_cases e : j = l
       ·subst e; exact ⟨by rw [HN.out]; exact hlt, hx⟩
       ·exact hd.out j (by omega)), ?_, ?_, rfl, F2.out⟩, by simp only [intOf]; omega⟩
      ·rw [show p.hexVal (i) (l + 1) = p.hexVal (i) l * 16 + hexV (p.g (i + l)) from rfl, HVV.out]
      ·congr 1
       try omega
     | false =>
      have hnn := hexN_neg hx;have HD := xH (hexd_of (m := 2) hd.out (Or.inr (Or.inr hx)) hl7);rw [HVV.out] at HD;have HR := xH (show hexz p i = hexC p (V, i + l) by unfold hexz; rw [if_neg (by simp [h123]), HD.out]);rw [hnn];by_cases hm : p.most < V
      ·have HX := xH (HR.out.trans (show hexC p (V, (i + l)) = none by unfold hexC; rw [if_pos]; simp only; exact Or.inl hm));go_wp2_with fail
       go_ret2
       exact ⟨⟨-1, (i + l), rfl, by omega, Or.inl ⟨HX.out, rfl⟩⟩, F2.out.bel⟩
      ·have hm2 : V ≤ p.most := by omega
       cases hu : p.u with
       | false =>
        rw [hu] at c1;have HX := xH (HR.out.trans (show hexC p (V, (i + l)) = some (V, (i + l)) by unfold hexC; rw [if_neg]; simp only; rintro (h | ⟨h, _⟩); exact hm h; rw [hu] at h; cases h));go_wp2_with fail
        go_ret2
        exact ⟨⟨_, (i + l), rfl, by omega, Or.inr HX.out⟩, F2.out.bel⟩
       | true =>
        rw [hu] at c1;by_cases h5 : 55296 ≤ V
        ·by_cases h6 : V ≤ 57343
         ·have HX := xH (HR.out.trans (show hexC p (V, (i + l)) = none by unfold hexC; rw [if_pos]; simp only; exact Or.inr ⟨hu, h5, h6⟩));go_wp2_with fail
          go_ret2
          exact ⟨⟨-1, (i + l), rfl, by omega, Or.inl ⟨HX.out, rfl⟩⟩, F2.out.bel⟩
         ·have HX := xH (HR.out.trans (show hexC p (V, (i + l)) = some (V, (i + l)) by unfold hexC; rw [if_neg]; simp only; rintro (h | ⟨_, _, h⟩); exact hm h; exact h6 h));go_wp2_with fail
          go_ret2
          exact ⟨⟨_, (i + l), rfl, by omega, Or.inr HX.out⟩, F2.out.bel⟩
        ·have HX := xH (HR.out.trans (show hexC p (V, (i + l)) = some (V, (i + l)) by unfold hexC; rw [if_neg]; simp only; rintro (h | ⟨_, h, _⟩); exact hm h; exact h5 h));go_wp2_with fail
         go_ret2
         exact ⟨⟨_, (i + l), rfl, by omega, Or.inr HX.out⟩, F2.out.bel⟩
    ·have HD := xH (hexd_of (m := 2) hd.out (Or.inr (Or.inl (by rw [HN.out]; omega))) hl7);rw [HVV.out] at HD;have HR := xH (show hexz p i = hexC p (V, i + l) by unfold hexz; rw [if_neg (by simp [h123]), HD.out]);by_cases hm : p.most < V
     ·have HX := xH (HR.out.trans (show hexC p (V, (i + l)) = none by unfold hexC; rw [if_pos]; simp only; exact Or.inl hm));go_wp2_with fail
      go_ret2
      exact ⟨⟨-1, (i + l), rfl, by omega, Or.inl ⟨HX.out, rfl⟩⟩, F2.out.bel⟩
     ·have hm2 : V ≤ p.most := by omega
      cases hu : p.u with
      | false =>
       rw [hu] at c1;have HX := xH (HR.out.trans (show hexC p (V, (i + l)) = some (V, (i + l)) by unfold hexC; rw [if_neg]; simp only; rintro (h | ⟨h, _⟩); exact hm h; rw [hu] at h; cases h));go_wp2_with fail
       go_ret2
       exact ⟨⟨_, (i + l), rfl, by omega, Or.inr HX.out⟩, F2.out.bel⟩
      | true =>
       rw [hu] at c1;by_cases h5 : 55296 ≤ V
       ·by_cases h6 : V ≤ 57343
        ·have HX := xH (HR.out.trans (show hexC p (V, (i + l)) = none by unfold hexC; rw [if_pos]; simp only; exact Or.inr ⟨hu, h5, h6⟩));go_wp2_with fail
         go_ret2
         exact ⟨⟨-1, (i + l), rfl, by omega, Or.inl ⟨HX.out, rfl⟩⟩, F2.out.bel⟩
        ·have HX := xH (HR.out.trans (show hexC p (V, (i + l)) = some (V, (i + l)) by unfold hexC; rw [if_neg]; simp only; rintro (h | ⟨_, _, h⟩); exact hm h; exact h6 h));go_wp2_with fail
         go_ret2
         exact ⟨⟨_, (i + l), rfl, by omega, Or.inr HX.out⟩, F2.out.bel⟩
       ·have HX := xH (HR.out.trans (show hexC p (V, (i + l)) = some (V, (i + l)) by unfold hexC; rw [if_neg]; simp only; rintro (h | ⟨_, h, _⟩); exact hm h; exact h5 h));go_wp2_with fail
        go_ret2
        exact ⟨⟨_, (i + l), rfl, by omega, Or.inr HX.out⟩, F2.out.bel⟩
end Go.Proofs.YtnpcombfgdbhkaaDoor.rtw
end
section
namespace Go.Proofs.YtnpcombfgdbhkaaDoor.rtw
open sq
open Go Go.RowKit Go.Maps utfp utfw ucdp setp setw prp tkp rtp
open tkw (sg sg_bd vJ jM qK tkR qO qM vI)
structure FH (w : World) (B : Nat) (S : ByteArray) (p : Pt) (W : World) : Prop extends FR w B S p W where
 g : ∃ old, W.heap[B + 2]? = some (.cells old 55 (0, 0)) ∧ old.size = 16
theorem FH.step {w W W' : World} {B : Nat} {S : ByteArray} {p : Pt} (h : FH w B S p W) (hb : Below W.heap.size W W') : FH w B S p W' :=
 ⟨h.toFR.step hb, by obtain ⟨old, h1, h2⟩ := h.g; exact ⟨old, (hb.block _ (zi h1)).trans h1, h2⟩⟩
theorem fh_start {w W : World} {S : ByteArray} {p : Pt} {cs : Array Value} (hW : ((w.alloc (.cells (txC S p) 46)).alloc (.cells cs 53)).alloc (.cells (gtC (.slice none 0 0) (.error (0, 0))) 55) = W) : FH w w.heap.size S p W ∧ W.heap[w.heap.size + 1]? = some (.cells cs 53 (0, 0)) := by
 have h1 : (w.alloc (.cells (txC S p) 46)).heap.size = w.heap.size + 1 := World.size_alloc ..;have h2 : ((w.alloc (.cells (txC S p) 46)).alloc (.cells cs 53)).heap.size = w.heap.size + 2 := by rw [World.size_alloc, h1]
 subst hW;refine ⟨⟨((zG rfl).step (qK _ _)).step (qK _ _), gtC (.slice none 0 0) (.error (0, 0)), ?_, rfl⟩, ?_⟩
 ·rw [← h2];exact heap_alloc_new _ _
 ·rw [(qK ((w.alloc (.cells (txC S p) 46)).alloc (.cells cs 53)) _).block _ (by rw [h2]; omega), ← h1];exact heap_alloc_new _ _
theorem fh_fin {w W : World} {B : Nat} {S : ByteArray} {p : Pt} {v : Value} {r r' : G} (h : FH w B S p W) (hr : r' = r) {k : Nat} (ho : OwnR W k v (gtS r)) (hk : B ≤ k) : GotB w r' (.returned (.agg (gtC v r))) (W.setRow (B + 2) (gtC v r)) := by subst hr;obtain ⟨old, h1, h2⟩ := h.g;have hB := h.hB;exact got_end h1 (qM ho (by omega)) (by rw [hB]; exact h.below) (by omega)
theorem FH.low {w W W' : World} {B : Nat} {S : ByteArray} {p : Pt} (h : FH w B S p W) (hb : Below (B + 1) W W') (hg : W'.heap[B + 2]? = W.heap[B + 2]?) : FH w B S p W' :=
 ⟨⟨h.hB, h.below.trans (hb.mono (by omega)), h.x.below hb (by omega)⟩, by obtain ⟨old, h1, h2⟩ := h.g; exact ⟨old, hg.trans h1, h2⟩⟩
theorem shut_any (S : ByteArray) (p : Pt) (w : World) (hP : Pat S p) (t : Tk) (ht : t.set = []) (f i : Nat) (hi : i ≤ p.n) (l : List UInt8) (s : ByteArray) (hs : s = ⟨l.toArray⟩) (hl : l.length ≤ 1000) (e : Int) : Calls Tryd.prog 64 #[txV S p, .agg (tkR (.slice none 0 0) t), .int .i64 f, .int .i64 i, .string s, .int .i64 e] w (GotB w (shutR p t f i l e)) := by
 have hn := hP.n;have h2 := hP.le;have HP := xH hP;have HN := xH hn;clear hP;rw [hn] at hi;clear hn;obtain ⟨tk, ta, tt, tc, tset, tneg, tn, tm, tmd, tname, ton, toff⟩ := t;subst ht;have hz : s.size = l.length := by rw [hs]; simp [ByteArray.size]
 have hz2 : s.size ≤ 1000 := by omega
 have HS := xH hs;have HZ := xH hz;clear hs hz;unfold txV txC tkR;go_enter Tryd.func64, Tryd.ntmps64;go_upto_region 1 with (fail)
 generalize hW : ((w.alloc _).alloc _).alloc _ = W;obtain ⟨hf, ht⟩ := fh_start (S := S) (p := p) (cs := tkR (.slice none 0 0) ⟨tk, ta, tt, tc, [], tneg, tn, tm, tmd, tname, ton, toff⟩) hW;have F0 := xH hf;obtain ⟨B, hB⟩ : ∃ B, w.heap.size = B := ⟨_, rfl⟩;rw [hB] at F0 ht ⊢;have HT0 := xH ht;clear hW hB hf ht;obtain ⟨c0, c1, c2, c3⟩ := F0.out.c;go_wp2_with fail
 refine Calls.mono (qG S p _ HP.out i (by omega) l s HS.out hl (Or.inl (by rw [HN.out]; exact hi))) ?_;rintro e w1 ⟨rfl, hb⟩;have F1 := xH (F0.out.step hb);have HT1 := xH ((hb.block _ (zi HT0.out)).trans HT0.out);clear hb c0 c1 c2 c3;obtain ⟨c0, c1, c2, c3⟩ := F1.out.c;cases hh : p.has l i with
 | true =>
  have HR := xH (show shutR p ⟨tk, ta, tt, tc, [], tneg, tn, tm, tmd, tname, ton, toff⟩ f i l e = gtok ⟨tk, ta, tt, tc, [], tneg, tn, tm, tmd, tname, ton, toff⟩ f (i + s.size) by unfold shutR; rw [if_pos hh, HZ.out]);go_wp2_with (refine tkw.qX rfl _ rfl (B + 1) rfl _ HT1.out rfl ?_)
  refine Calls.mono (qF (.slice none 0 0) (⟨tk, ta, tt, tc, [], tneg, tn, tm, tmd, tname, ton, toff⟩) (f) (i + s.size) _ (k := B) (qm _ _)) ?_;rintro e w2 ⟨rfl, ho, hb⟩;have F2 := xH (F1.out.step hb);have HO := xH ho;clear hb ho c0 c1 c2 c3;obtain ⟨old, hg, hz⟩ := F2.out.g;have HG := xH hg;clear hg;go_wp2_with (refine xR HG hz HO rfl rfl rfl rfl rfl ?_)
  refine bodyPost_ret (xE HG rfl rfl) rfl ?_;exact fh_fin F2.out HR.out HO.out (Nat.le_refl _)
 | false =>
  by_cases h0 : S.size ≤ i
  ·have HR := xH (show shutR p ⟨tk, ta, tt, tc, [], tneg, tn, tm, tmd, tname, ton, toff⟩ f i l e = .error (20, p.n) by unfold shutR; rw [if_neg (by simp [hh]), if_pos (by rw [HN.out]; exact h0)]);go_wp2_with fail
   refine Calls.mono (end_any S p _ HP.out) ?_;rintro e w2 ⟨v, rfl, ho, hb⟩;have HO := xO F1.out.x ho;have F2 := xH (F1.out.step hb);clear hb ho c0 c1 c2 c3;obtain ⟨old, hg, hz⟩ := F2.out.g;have HG := xH hg;clear hg;go_wp2_with (refine xR HG hz HO rfl rfl rfl rfl rfl ?_)
   refine bodyPost_ret (xE HG rfl rfl) rfl ?_;exact fh_fin F2.out HR.out HO.out (Nat.le_refl _)
  ·have HR := xH (show shutR p ⟨tk, ta, tt, tc, [], tneg, tn, tm, tmd, tname, ton, toff⟩ f i l e = .error (e, f) by unfold shutR; rw [if_neg (by simp [hh]), if_neg (by rw [HN.out]; exact h0)]);go_wp2_with fail
   refine Calls.mono (qw _ _ _) ?_;rintro e w2 ⟨v, rfl, ho, hb⟩;have HO := xO F1.out.x ho;have F2 := xH (F1.out.step hb);clear hb ho c0 c1 c2 c3;obtain ⟨old, hg, hz⟩ := F2.out.g;have HG := xH hg;clear hg;go_wp2_with (refine xR HG hz HO rfl rfl rfl rfl rfl ?_)
   refine bodyPost_ret (xE HG rfl rfl) rfl ?_;exact fh_fin F2.out HR.out HO.out (Nat.le_refl _)
theorem called_any (S : ByteArray) (p : Pt) (w : World) (hP : Pat S p) (t : Tk) (ht : t.set = []) (f i : Nat) (hi : i ≤ p.n) (l : List UInt8) (s : ByteArray) (hs : s = ⟨l.toArray⟩) (hl : l.length ≤ 1000) : Calls Tryd.prog 63 #[txV S p, .agg (tkR (.slice none 0 0) t), .int .i64 f, .int .i64 i, .string s] w (GotB w (callR p t f i l)) := by
 have hn := hP.n;have h2 := hP.le;have HP := xH hP;have HN := xH hn;clear hP;rw [hn] at hi;clear hn;obtain ⟨tk, ta, tt, tc, tset, tneg, tn, tm, tmd, tname, ton, toff⟩ := t;subst ht;have hz : s.size = l.length := by rw [hs]; simp [ByteArray.size]
 have hz2 : s.size ≤ 1000 := by omega
 have HS := xH hs;have HZ := xH hz;clear hs hz;unfold txV txC tkR;go_enter Tryd.func63, Tryd.ntmps63;go_upto_region 1 with (fail)
 generalize hW : ((w.alloc _).alloc _).alloc _ = W;obtain ⟨hf, ht⟩ := fh_start (S := S) (p := p) (cs := tkR (.slice none 0 0) ⟨tk, ta, tt, tc, [], tneg, tn, tm, tmd, tname, ton, toff⟩) hW;have F0 := xH hf;obtain ⟨B, hB⟩ : ∃ B, w.heap.size = B := ⟨_, rfl⟩;rw [hB] at F0 ht ⊢;have HT0 := xH ht;clear hW hB hf ht;obtain ⟨c0, c1, c2, c3⟩ := F0.out.c;go_wp2_with fail
 refine Calls.mono (name_any S p _ HP.out i (by rw [HN.out]; exact hi)) ?_;rintro e w1 ⟨rfl, hb⟩;have F1 := xH (F0.out.step hb);have HT1 := xH ((hb.block _ (zi HT0.out)).trans HT0.out);clear hb c0 c1 c2 c3;obtain ⟨c0, c1, c2, c3⟩ := F1.out.c;have hnb := zh (p := p) (a := i) (by rw [HN.out]; exact hi);rw [HN.out] at hnb;have HRR := xH (show callR p ⟨tk, ta, tt, tc, [], tneg, tn, tm, tmd, tname, ton, toff⟩ f i l = if p.n ≤ (p.name i).1 then .error (20, (p.n : Int)) else if (p.name i).2 = false ∨ p.has l (p.name i).1 = false then .error (27, (f : Int)) else gtok { (⟨tk, ta, tt, tc, [], tneg, tn, tm, tmd, tname, ton, toff⟩ : Tk) with name := p.sub i (p.name i).1 } f ((p.name i).1 + l.length) from rfl);generalize (p.name i).1 = z at *;generalize (p.name i).2 = ok at *;generalize p.sub i z = nm at *;obtain ⟨n1, n2⟩ := hnb;by_cases h0 : S.size ≤ z
 ·have HR := xH (HRR.out.trans (if_pos (by rw [HN.out]; exact h0)));go_wp2_with fail
  refine Calls.mono (end_any S p _ HP.out) ?_;rintro e w2 ⟨v, rfl, ho, hb⟩;have HO := xO F1.out.x ho;have F2 := xH (F1.out.step hb);clear hb ho c0 c1 c2 c3;obtain ⟨old, hg, hz⟩ := F2.out.g;have HG := xH hg;clear hg;go_wp2_with (refine xR HG hz HO rfl rfl rfl rfl rfl ?_)
  refine bodyPost_ret (xE HG rfl rfl) rfl ?_;exact fh_fin F2.out HR.out HO.out (Nat.le_refl _)
 ·have HR1 := xH (HRR.out.trans (if_neg (by rw [HN.out]; exact h0)));cases ok with
  | false =>
   have HR := xH (HR1.out.trans (if_pos (Or.inl rfl)));go_wp2_with fail
   refine Calls.mono (qw _ _ _) ?_;rintro e w2 ⟨v, rfl, ho, hb⟩;have HO := xO F1.out.x ho;have F2 := xH (F1.out.step hb);clear hb ho c0 c1 c2 c3;obtain ⟨old, hg, hz⟩ := F2.out.g;have HG := xH hg;clear hg;go_wp2_with (refine xR HG hz HO rfl rfl rfl rfl rfl ?_)
   refine bodyPost_ret (xE HG rfl rfl) rfl ?_;exact fh_fin F2.out HR.out HO.out (Nat.le_refl _)
  | true =>
   go_wp2_with fail
   refine Calls.mono (qG S p _ HP.out z (by omega) l s HS.out hl (Or.inl (by rw [HN.out]; omega))) ?_;rintro e w2 ⟨rfl, hb⟩;have F2 := xH (F1.out.step hb);have HT2 := xH ((hb.block _ (zi HT1.out)).trans HT1.out);clear hb c0 c1 c2 c3;obtain ⟨c0, c1, c2, c3⟩ := F2.out.c;cases hh : p.has l z with
   | false =>
    have HR := xH (HR1.out.trans (if_pos (Or.inr hh)));go_wp2_with fail
    refine Calls.mono (qw _ _ _) ?_;rintro e w3 ⟨v, rfl, ho, hb⟩;have HO := xO F2.out.x ho;have F3 := xH (F2.out.step hb);clear hb ho c0 c1 c2 c3;obtain ⟨old, hg, hz⟩ := F3.out.g;have HG := xH hg;clear hg;go_wp2_with (refine xR HG hz HO rfl rfl rfl rfl rfl ?_)
    refine bodyPost_ret (xE HG rfl rfl) rfl ?_;exact fh_fin F3.out HR.out HO.out (Nat.le_refl _)
   | true =>
    have HR := xH (show callR p ⟨tk, ta, tt, tc, [], tneg, tn, tm, tmd, tname, ton, toff⟩ f i l = gtok { (⟨tk, ta, tt, tc, [], tneg, tn, tm, tmd, tname, ton, toff⟩ : Tk) with name := nm } f (z + s.size) from HR1.out.trans ((if_neg (by simp [hh])).trans (by rw [HZ.out])));have ct : w2.cell? ⟨B + 1, 9, none⟩ = some (.string tname) := by simp [World.cell?, HT2.out, tkR]
    have cf : w2.frozen? ⟨B + 1, 9, none⟩ = false := by simp [World.frozen?, HT2.out]
    have HT3 : Hid ((w2.setCell ⟨B + 1, 9, none⟩ (.string nm)).heap[B + 1]? = some (.cells (tkR (.slice none 0 0) { (⟨tk, ta, tt, tc, [], tneg, tn, tm, tmd, tname, ton, toff⟩ : Tk) with name := nm }) 53 (0, 0))) := xH (tkw.heap_set HT2.out);have F3 := xH (F2.out.low ((Below.refl _ w2).setCell (p := ⟨B + 1, 9, none⟩) (Nat.le_refl _) (.string nm)) (Below.heap_setCell w2 ⟨B + 1, 9, none⟩ _ (B + 2) (by simp)));clear c0 c1 c2 c3;obtain ⟨c0, c1, c2, c3⟩ := F3.out.c;go_wp2_with (refine tkw.qX rfl _ rfl (B + 1) rfl _ HT3.out rfl ?_)
    refine Calls.mono (qF (.slice none 0 0) ({ (⟨tk, ta, tt, tc, [], tneg, tn, tm, tmd, tname, ton, toff⟩ : Tk) with name := nm }) (f) (z + s.size) _ (k := B) (qm _ _)) ?_;rintro e w4 ⟨rfl, ho, hb⟩;have F4 := xH (F3.out.step hb);have HO := xH ho;clear hb ho c0 c1 c2 c3;obtain ⟨old, hg, hz⟩ := F4.out.g;have HG := xH hg;clear hg;go_wp2_with (refine xR HG hz HO rfl rfl rfl rfl rfl ?_)
    refine bodyPost_ret (xE HG rfl rfl) rfl ?_;exact fh_fin F4.out HR.out HO.out (Nat.le_refl _)
end Go.Proofs.YtnpcombfgdbhkaaDoor.rtw
end
