/- T -/
import Derived.BigQuiet
import Derived.BigRegion
import Derived.Deep.Cut
import Derived.Deep.CutBlock
import Derived.Deep.DeepCutAuto
import Derived.Deep.Onto
import Derived.Deep.QuietTactic
import Derived.Deep.RegionHeld3
import Derived.Deep.RegionWith
import Derived.Great.BuildSlice
import Derived.IntWalk
import Derived.Laws.AppendOwn
import Derived.Laws.AppendOwnNone
import Derived.Laws.BitsLemmas
import Derived.Laws.BytesArg
import Derived.Laws.CopyRow
import Derived.Laws.Cover2
import Derived.Laws.Cover3
import Derived.Laws.FloatArith
import Derived.Laws.OwnMore
import Derived.Laws.RangeAny
import Derived.Laws.Rows
import Derived.Laws.Shifts
import Derived.Laws.StructEq
import Derived.Lib.BytesEntry
import Derived.Lib.ConvBytes
import Derived.Lib.Hide
import Derived.Lib.LaidTab
import Derived.Lib.OwnBridge
import Derived.Lib.QuietBelow
import Derived.LoopN
import Derived.Maps.AppendAt
import Derived.Maps.OwnSet
import Derived.OpenShut
import Derived.Outline
import Derived.OwnWalk
import Derived.ProofKit
import Derived.RegionTactic
import Derived.Shelf.Abstract
import Derived.Shelf.Bytes.SlIndexAt
import Derived.Shelf.Lays8
import Derived.Shelf.SlLaysC2
import Derived.Shelf.SlLaysE
import Derived.Shelf.SlLaysE0
import Derived.Shelf.SlLaysF
import Derived.Shelf.SlLaysH
import Derived.Shelf.SlicesE.Clone
import Derived.Shelf.SlicesE.Equal
import Derived.Shelf.SlicesE.IndexFunc
import Derived.Shelf.SlicesG.Cmp
import Derived.Shelf.Spec.SlicesGrow
import Derived.Sort.Grow
import Derived.Sort.Walk0
import Derived.StillTailTactics
import Derived.Test.YtnpcombfgdbhkaaDoorChecked
import Derived.Test.YtnpcombfgdbhkaaDoorRows
import Derived.WalkKit
import Derived.WalkLawsBesides
import Derived.WalkMore
import Derived.WalkSpells
import GoSem.Core.Float
import Derived.Test.YtnpcombfgdbhkaaDoorBPm01
set_option maxHeartbeats 16000000
set_option maxRecDepth 1000000
section
namespace Go.Proofs.YtnpcombfgdbhkaaDoor.psm
open sq
open Go tkp trp rpp
open rtw (TkG Adj)
theorem a_size : ∀ f g : F, (F.app f g).size = f.size + g.size
 | .nil, g => by simp [F.app, F.size]
 | .cons _ _ r, g => by rw [F.app, F.size, a_size r g, F.size]; omega
theorem a_len : ∀ f g : F, (F.app f g).len = f.len + g.len
 | .nil, g => by simp [F.app, F.len]
 | .cons _ _ r, g => by rw [F.app, F.len, a_len r g, F.len]; omega
theorem a_deep : ∀ f g : F, (F.app f g).deep = max f.deep g.deep
 | .nil, g => by simp [F.app, F.deep]
 | .cons _ _ r, g => by rw [F.app, F.deep, a_deep r g, F.deep]; omega
theorem a_all : ∀ f g : F, allP f = true → allP g = true → allP (F.app f g) = true
 | .nil, _, _, h => h
 | .cons x k r, g, h, h2 => by rw [allP, Bool.and_eq_true, Bool.and_eq_true] at h;rw [F.app, allP, a_all r g h.2 h2, h.1.1, h.1.2];rfl
theorem one_gd {K : Int} {l : F} (hK : l.len ≠ 1 → mayP (lab K 0, l) = true) (h : allP l = true) : ∃ x k, oneF K l = F.one x k ∧ allP (oneF K l) = true ∧ (oneF K l).size ≤ l.size + 1 ∧ (l.len = 1 → (oneF K l).size = l.size) ∧ (oneF K l).deep ≤ l.deep + 1 := by
 match l, hK, h with
 | .cons x k .nil, _, h => exact ⟨x, k, rfl, h, Nat.le_succ _, fun _ => rfl, Nat.le_succ _⟩
 | .nil, hK, h => exact ⟨lab K 0, .nil, rfl, by simp only [oneF, allP, hK (by decide), Bool.and_self], by simp [oneF, F.size], fun e => (by cases e), by simp [oneF, F.deep]⟩
 | .cons x k (.cons y j r), hK, h =>
  refine ⟨lab K 0, .cons x k (.cons y j r), rfl, ?_, ?_, fun e => by simp [F.len] at e, ?_⟩
  ·rw [oneF, allP, hK (by simp [F.len]), h]
   ·rfl
   ·intro a b e; cases e
  ·rw [oneF]
   ·simp only [F.size]; omega
   ·intro a b e; cases e
  ·rw [oneF]
   ·simp only [F.deep]; omega
   ·intro a b e; cases e
def AccG (op : Nat) : Md → Prop
 | .alt acc => allP acc = true ∧ acc.deep ≤ 4 * (40 - op) + 3
 | .seq acc => allP acc = true ∧ acc.deep ≤ 4 * (40 - op) + 2
 | .thing => True
def Fu (L : List Tk) (n : Nat) (s : Ps) : Md → Prop
 | .alt _ => 3 * rem L s + 3 ≤ n
 | .seq _ => 3 * rem L s + 2 ≤ n
 | .thing => 3 * rem L s + 1 ≤ n
def Gd (L : List Tk) (s : Ps) (r : F × Ps) : Md → Prop
 | .thing => ∃ x k, r.1 = F.one x k ∧ allP r.1 = true ∧ r.1.size + 1 + 2 * s.i ≤ 2 * r.2.i ∧ r.1.deep ≤ 4 * (40 - s.op) + 1 ∧ ((L.getD s.i zeroT).kind = 10 → 5 ≤ (L.getD s.i zeroT).n → (L.getD s.i zeroT).n ≤ 8 → x.kind = 18)
 | .seq acc => ∃ x k, r.1 = F.one x k ∧ allP r.1 = true ∧ r.1.size + 2 * s.i ≤ acc.size + 2 * r.2.i + 1 ∧ r.1.deep ≤ 4 * (40 - s.op) + 3
 | .alt acc => allP r.1 = true ∧ acc.len < r.1.len ∧ r.1.size + r.1.len + 2 * s.i ≤ acc.size + acc.len + 2 * r.2.i + 2 ∧ r.1.deep ≤ 4 * (40 - s.op) + 3
theorem leaf_may {t : Tk} (h : TkG t) (h10 : t.kind ≠ 10) : mayP (leafL t nil3, .nil) = true := by
 obtain ⟨⟨hk1, hk2⟩, h1, h2, h4, h9, ha, hb, hc, hd, he⟩ := h;obtain ⟨kind, at_, to_, c, set, neg, n, m, mode, name, on, off⟩ := t;simp only at *;have hk : kind = 1 ∨ kind = 2 ∨ kind = 3 ∨ kind = 4 ∨ kind = 5 ∨ kind = 6 ∨ kind = 7 ∨ kind = 8 ∨ kind = 9 ∨ kind = 11 ∨ kind = 12 ∨ kind = 13 ∨ kind = 14 ∨ kind = 15 := by omega
 rcases hk with rfl | rfl | rfl | rfl | rfl | rfl | rfl | rfl | rfl | rfl | rfl | rfl | rfl | rfl <;> simp [mayP, leafL, leafK, leafP, F.len, wi] at * <;> first | exact h1 | exact h2 | exact h4 | exact hc | exact hd | exact he | omega
theorem may_seq {l : F} (h : l.len ≠ 1) : mayP (lab 12 0, l) = true := by simp [mayP, lab, h]
theorem may_alt {l : F} (h0 : 1 ≤ l.len) (h : l.len ≠ 1) : mayP (lab 13 0, l) = true := by simp only [mayP, lab];rw [if_neg (by decide), if_pos trivial];exact decide_eq_true (by omega)
theorem getD_at {L : List Tk} {i : Nat} {t : Tk} (h : L[i]? = some t) : L.getD i zeroT = t := by simp [List.getD, h]
theorem fail_0 {s : Ps} {e a : Int} (he : e ≠ 0) : ¬ (failS s e a).e = 0 := failS_e he
theorem group_gd {t : Tk} (ht : TkG t) (h10 : t.kind = 10) {look l : F} {s : Ps} (hl : allP l = true) (hl1 : 1 ≤ l.len) (hs : (zf t l s).e = 0)
 (hk : if t.n = 13 then ∃ x k, look = F.one x k ∧ allP look = true ∧ x.kind = 18 else look = .nil) {D C : Nat} (hd : l.deep ≤ D) (hd2 : look.deep ≤ D) (hz : l.size + l.len ≤ C + 2) :
 ∃ x k, jf t look l = F.one x k ∧ allP (jf t look l) = true ∧ (jf t look l).size ≤ look.size + C + 2 ∧ (jf t look l).deep ≤ D + 2 ∧ (5 ≤ t.n → t.n ≤ 8 → x.kind = 18) := by
 obtain ⟨x, k, ho, ha, hz1, hz2, hdp⟩ := one_gd (K := 13) (l := l) (fun h => may_alt hl1 h) hl;have hz3 : (oneF 13 l).size ≤ C + 1 := by
  by_cases h1 : l.len = 1
  ·have := hz2 h1; omega
  ·omega
 have hn := ht.ha h10;have hol : (oneF 13 l).len = 1 := by rw [ho]; rfl
 have mk : ∀ y : Lab, mayP (y, oneF 13 l) = true → (∃ x k, F.one y (oneF 13 l) = F.one x k ∧ allP (F.one y (oneF 13 l)) = true ∧ (F.one y (oneF 13 l)).size ≤ look.size + C + 2 ∧ (F.one y (oneF 13 l)).deep ≤ D + 2 ∧ (5 ≤ t.n → t.n ≤ 8 → y.kind = 18 → x.kind = 18)) := fun y hy =>
  ⟨y, _, rfl, by rw [F.one, allP, hy, ha]; rfl, by simp only [F.one, F.size]; omega, by simp only [F.one, F.deep]; omega, fun _ _ h => h⟩
 unfold jf;by_cases h1 : t.n = 1
 ·rw [if_pos h1];obtain ⟨x, k, a, b, c, d, _⟩ := mk { lab 14 t.at_ with name := t.name } (by simp [mayP, lab, hol]);exact ⟨x, k, a, b, c, d, fun e => by omega⟩
 rw [if_neg h1];by_cases h2 : t.n = 2
 ·rw [if_pos h2];obtain ⟨x, k, a, b, c, d, _⟩ := mk { lab 15 t.at_ with on := t.on, off := t.off } (by simp [mayP, lab, hol]);exact ⟨x, k, a, b, c, d, fun e => by omega⟩
 rw [if_neg h2];by_cases h4 : t.n = 4
 ·rw [if_pos h4];obtain ⟨x, k, a, b, c, d, _⟩ := mk (lab 17 t.at_) (by simp [mayP, lab, hol]);exact ⟨x, k, a, b, c, d, fun e => by omega⟩
 rw [if_neg h4];by_cases h5 : t.n = 5 ∨ t.n = 6 ∨ t.n = 7 ∨ t.n = 8
 ·rw [if_pos h5];obtain ⟨x, k, a, b, c, d, e⟩ := mk { lab 18 t.at_ with n := t.n } (by simp [mayP, lab, hol, wi]; omega);exact ⟨x, k, a, b, c, d, fun e1 e2 => e e1 e2 rfl⟩
 rw [if_neg h5];by_cases h3 : t.n = 3
 ·rw [if_pos h3];refine ⟨lab 16 t.at_, l, rfl, ?_, by simp only [F.one, F.size]; omega, by simp only [F.one, F.deep]; omega, fun e => by omega⟩;rw [F.one, allP, hl];simp only [mayP, lab, allP];rw [if_neg (by decide), if_neg (by decide), if_pos trivial];simp [hl1]
 rw [if_neg h3];have hb := ht.hb h10 (by omega);have hc : condT t = true := by simp only [condT, Bool.not_eq_true', Bool.and_eq_false_iff, decide_eq_false_iff_not]; omega
 have hll : ¬ (2 < l.len ∨ (1 < l.len ∧ t.n = 12)) := fun h => by unfold zf at hs;rw [if_pos ⟨hc, h⟩] at hs;exact fail_0 (by decide) hs
 refine ⟨_, F.app look l, rfl, ?_, by simp only [F.one, F.size, a_size]; omega, by simp only [F.one, F.deep, a_deep]; omega, fun e => by omega⟩;have hla : allP look = true := by
  split at hk
  ·obtain ⟨_, _, _, h, _⟩ := hk;exact h
  ·rw [hk]; rfl
 rw [F.one, allP, a_all _ _ hla hl];have hcd : condP { lab 19 t.at_ with n := t.n, m := t.m, mode := t.mode, name := t.name } (F.app look l) = true := by
  simp only [condP, wi, a_len];by_cases h13 : t.n = 13
  ·rw [if_pos h13] at hk;obtain ⟨y, j, rfl, _, hy⟩ := hk;rw [if_neg (by omega), if_neg (by omega), if_pos h13];have e : (F.app (F.one y j) l).hd = 18 := hy;have e2 : (F.one y j).len = 1 := rfl;rw [e, e2];simp only [decide_true, Bool.and_true, Bool.and_eq_true, decide_eq_true_eq];omega
  ·rw [if_neg h13] at hk;subst hk;have e : F.nil.len = 0 := rfl;rw [e];by_cases h12 : t.n = 12
   ·rw [if_neg (by omega), if_pos h12];simp only [Bool.and_eq_true, decide_eq_true_eq];omega
   ·rw [if_pos (by omega)];simp only [Bool.and_eq_true, decide_eq_true_eq];omega
 simp only [mayP, lab] at hcd ⊢;rw [if_neg (by decide), if_neg (by decide), if_neg (by decide), if_neg (by decide), if_neg (by decide), if_pos trivial];rw [hcd];rfl
end Go.Proofs.YtnpcombfgdbhkaaDoor.psm
end
section
namespace Go.Proofs.YtnpcombfgdbhkaaDoor.psm
open sq
open Go tkp trp rpp
open rtw (TkG Adj)
theorem gS_i (t : Tk) (l : F) (s : Ps) : (zf t l s).i = s.i := by
 unfold zf failS;split
 ·split <;> rfl
 ·rfl
theorem rep_may {t : Tk} (h : TkG t) (h9 : t.kind = 9) {x : Lab} {k : F} (hr : repK x.kind = true) : mayP ({ lab 20 t.at_ with n := t.n, m := t.m, mode := t.mode }, F.one x k) = true := by have := h.h9 h9;have e : (F.one x k).hd = x.kind := rfl;have e2 : (F.one x k).len = 1 := rfl;simp only [mayP, lab, repP, wi, e, e2, hr];rw [if_neg (by decide), if_neg (by decide), if_neg (by decide), if_neg (by decide), if_neg (by decide), if_neg (by decide), if_pos trivial];simp only [Bool.and_true, Bool.and_eq_true, Bool.or_eq_true, decide_eq_true_eq];exact ⟨trivial, ⟨⟨this.1, this.2.1⟩, this.2.2.1⟩, this.2.2.2⟩
theorem run_gd {L : List Tk} (hG : ∀ t ∈ L, TkG t) (hA : Adj L) : ∀ (n : Nat) (md : Md) (s : Ps), s.i ≤ L.length → s.op ≤ 40 → Fu L n s md → (md = .thing → s.e = 0 ∧ s.i < L.length) → AccG s.op md → (run L n md s).2.e = 0 → Gd L s (run L n md s) md
 | 0, md, s, _, _, hf, _, _, _ => by cases md <;> · unfold Fu at hf; omega
 | n + 1, .alt acc, s, h1, h2, hf, _, hacc, he => by
  have iv := (zq L n (.seq .nil) s h1 h2 (fun h => by cases h)).1;have hf1 : 3 * rem L s + 3 ≤ n + 1 := hf;have ih := run_gd hG hA n (.seq .nil) s h1 h2 (show 3 * rem L s + 2 ≤ n by omega) (fun h => by cases h) ⟨rfl, Nat.zero_le _⟩;rw [run] at he ⊢;simp only at he ⊢;generalize run L n (.seq .nil) s = r at *;by_cases h7 : kindS L r.2 = 7
  ·rw [if_pos h7] at he ⊢;obtain ⟨re, ri, _⟩ := zW (L := L) (s := r.2) (by rw [h7]; decide);have hs0 := (iv.e re).1;have hop := (iv.e re).2;have hi := iv.i;rw [rem_ok hs0] at hf1;obtain ⟨x, k, hx, ha, hz, hd⟩ := ih re;have g := run_gd hG hA n (.alt (F.app acc r.1)) { r.2 with i := r.2.i + 1 } ri iv.op (by
    show 3 * rem L { r.2 with i := r.2.i + 1 } + 3 ≤ n;rw [rem_ok (s := { r.2 with i := r.2.i + 1 }) re];show 3 * (L.length - (r.2.i + 1)) + 3 ≤ n;omega) (fun h => by cases h) ⟨a_all _ _ hacc.1 ha, by have := hacc.2;show (F.app acc r.1).deep ≤ 4 * (40 - r.2.op) + 3;rw [a_deep, hop];omega⟩ he
   obtain ⟨b1, b2, b3, b4⟩ := g;have hl1 : r.1.len = 1 := by rw [hx]; rfl
   simp only [a_len, a_size, hl1, F.size] at b2 b3 hz;exact ⟨b1, by omega, by omega, by rw [← hop]; exact b4⟩
  ·rw [if_neg h7] at he ⊢;obtain ⟨x, k, hx, ha, hz, hd⟩ := ih he;have hl1 : r.1.len = 1 := by rw [hx]; rfl
   simp only [F.size] at hz;have := hacc.2;exact ⟨a_all _ _ hacc.1 ha, by show acc.len < (F.app acc r.1).len; rw [a_len, hl1]; omega, by show (F.app acc r.1).size + (F.app acc r.1).len + 2 * s.i ≤ acc.size + acc.len + 2 * r.2.i + 2; rw [a_len, a_size, hl1]; omega, by show (F.app acc r.1).deep ≤ _; rw [a_deep]; omega⟩
 | n + 1, .seq acc, s, h1, h2, hf, _, hacc, he => by
  have hf1 : 3 * rem L s + 2 ≤ n + 1 := hf;rw [run] at he ⊢;by_cases h0 : kindS L s = 0 ∨ kindS L s = 7 ∨ kindS L s = 8
  ·rw [if_pos h0] at he ⊢;obtain ⟨x, k, a, b, c, _, d⟩ := one_gd (K := 12) (l := acc) may_seq hacc.1;have := hacc.2;exact ⟨x, k, a, b, by show (oneF 12 acc).size + 2 * s.i ≤ acc.size + 2 * s.i + 1; omega, by show (oneF 12 acc).deep ≤ _; omega⟩
  rw [if_neg h0] at he ⊢;by_cases h9 : kindS L s = 9
  ·rw [if_pos h9] at he;exact absurd he (fail_0 (by decide))
  rw [if_neg h9] at he ⊢;obtain ⟨hs0, hsi, t, ht, hkt⟩ := zW (L := L) (s := s) (fun h => h0 (Or.inl h));have iv := (zq L n .thing s h1 h2 (fun _ => ⟨hs0, hsi⟩)).1;have ih := run_gd hG hA n .thing s h1 h2 (show 3 * rem L s + 1 ≤ n by omega) (fun _ => ⟨hs0, hsi⟩) trivial;rw [rem_ok hs0] at hf1;simp only at he ⊢;generalize run L n .thing s = r at *;have hi := iv.i;by_cases hc : kindS L r.2 = 9 ∧ repK r.1.hd = true
  ·rw [if_pos hc] at he ⊢;obtain ⟨re, ri, u, hu, hku⟩ := zW (L := L) (s := r.2) (by rw [hc.1]; decide);have hop := (iv.e re).2;obtain ⟨x, k, hx, ha, hz, hd, _⟩ := ih re;rw [getD_at hu] at he ⊢;have hm := rep_may (hG u (List.mem_of_getElem? hu)) (hku.symm.trans hc.1) (x := x) (k := k) (by have := hc.2; rw [hx] at this; exact this);rw [← hx] at hm;have hrz : (repF u r.1).size = r.1.size + 1 := by simp only [repF, F.one, F.size]
   have hrd : (repF u r.1).deep = r.1.deep + 1 := by simp only [repF, F.one, F.deep]; omega
   have hra : allP (repF u r.1) = true := by rw [repF, F.one, allP, hm, ha]; rfl
   have := hacc.2;have g := run_gd hG hA n (.seq (F.app acc (repF u r.1))) { r.2 with i := r.2.i + 1 } ri iv.op (by
    show 3 * rem L { r.2 with i := r.2.i + 1 } + 2 ≤ n;rw [rem_ok (s := { r.2 with i := r.2.i + 1 }) re];show 3 * (L.length - (r.2.i + 1)) + 2 ≤ n;omega) (fun h => by cases h) ⟨a_all _ _ hacc.1 hra, by show (F.app acc (repF u r.1)).deep ≤ 4 * (40 - r.2.op) + 2;rw [a_deep, hop, hrd];omega⟩ he
   obtain ⟨y, j, b1, b2, b3, b4⟩ := g;simp only [a_size, hrz] at b3;exact ⟨y, j, b1, b2, by omega, by rw [← hop]; exact b4⟩
  ·rw [if_neg hc] at he ⊢;have iv2 := (zq L n (.seq (F.app acc r.1)) r.2 iv.n iv.op (fun h => by cases h)).1;have re := (iv2.e he).1;have hop := (iv.e re).2;obtain ⟨x, k, hx, ha, hz, hd, _⟩ := ih re;have := hacc.2;have hrs : 0 < r.1.size := by rw [hx]; simp only [F.one, F.size]; omega
   have g := run_gd hG hA n (.seq (F.app acc r.1)) r.2 iv.n iv.op (by
    show 3 * rem L r.2 + 2 ≤ n;rw [rem_ok re];omega) (fun h => by cases h) ⟨a_all _ _ hacc.1 ha, by show (F.app acc r.1).deep ≤ 4 * (40 - r.2.op) + 2;rw [a_deep, hop];omega⟩ he
   obtain ⟨y, j, b1, b2, b3, b4⟩ := g;simp only [a_size] at b3;exact ⟨y, j, b1, b2, by omega, by rw [← hop]; exact b4⟩
 | n + 1, .thing, s, h1, h2, hf, hth, _, he => by
  obtain ⟨hs0, hsi⟩ := hth rfl;have hf1 : 3 * rem L s + 1 ≤ n + 1 := hf;rw [rem_ok hs0] at hf1;obtain ⟨t, ht⟩ : ∃ t, L[s.i]? = some t := ⟨_, List.getElem?_eq_getElem hsi⟩;have htm := hG t (List.mem_of_getElem? ht);rw [run] at he ⊢;simp only at he ⊢;unfold Gd;rw [getD_at ht] at he ⊢;by_cases h10 : t.kind ≠ 10
  ·rw [if_pos h10] at he ⊢;exact ⟨_, _, rfl, by rw [F.one, allP, leaf_may htm h10]; rfl, by simp only [F.one, F.size]; omega, by simp only [F.one, F.deep]; omega, fun h => absurd h h10⟩
  rw [if_neg h10] at he ⊢;have h10' : t.kind = 10 := Decidable.not_not.1 h10;by_cases h40 : s.op = 40
  ·rw [if_pos h40] at he;exact absurd he (fail_0 (by decide))
  rw [if_neg h40] at he ⊢;obtain ⟨q, hq⟩ : ∃ q, (if t.n = 13 ∧ kindS L ⟨s.i + 1, s.op + 1, s.e, s.at_⟩ = 10 then run L n .thing ⟨s.i + 1, s.op + 1, s.e, s.at_⟩ else (.nil, ⟨s.i + 1, s.op + 1, s.e, s.at_⟩)) = q := ⟨_, rfl⟩;rw [hq] at he ⊢;have hp1 : ∀ h10 : kindS L ⟨s.i + 1, s.op + 1, s.e, s.at_⟩ = 10, (Md.thing = .thing → (⟨s.i + 1, s.op + 1, s.e, s.at_⟩ : Ps).e = 0 ∧ (⟨s.i + 1, s.op + 1, s.e, s.at_⟩ : Ps).i < L.length) := fun h _ => by obtain ⟨a, b, _⟩ := zW (L := L) (s := ⟨s.i + 1, s.op + 1, s.e, s.at_⟩) (by rw [h]; decide);exact ⟨a, b⟩
  have ivq : Inv L ⟨s.i + 1, s.op + 1, s.e, s.at_⟩ q.2 := by
   rw [← hq];split
   ·rename_i h;exact (zq L n .thing ⟨s.i + 1, s.op + 1, s.e, s.at_⟩ hsi (by show s.op + 1 ≤ 40; omega) (hp1 h.2)).1
   ·exact Inv.refl hsi (by show s.op + 1 ≤ 40; omega)
  have ivr := (zq L n (.alt .nil) q.2 ivq.n ivq.op (fun h => by cases h)).1;have ir := run_gd hG hA n (.alt .nil) q.2 ivq.n ivq.op;generalize run L n (.alt .nil) q.2 = r at *;by_cases h8 : kindS L r.2 ≠ 8
  ·rw [if_pos h8] at he;exact absurd he (fail_0 (by decide))
  rw [if_neg h8] at he ⊢;have h8' : kindS L r.2 = 8 := Decidable.not_not.1 h8;obtain ⟨re, ri, _⟩ := zW (L := L) (s := r.2) (by rw [h8']; decide);have qe := (ivr.e re).1;have qop : q.2.op = s.op + 1 := (ivq.e qe).2;have qi : s.i + 1 ≤ q.2.i := ivq.i;have ri2 := ivr.i;obtain ⟨c1, c2, c3, c4⟩ := ir (by
   show 3 * rem L q.2 + 3 ≤ n;rw [rem_ok qe];omega) (fun h => by cases h) ⟨rfl, Nat.zero_le _⟩ re
  simp only [F.len, F.size, qop] at c2 c3 c4;have hk : (if t.n = 13 then ∃ x k, q.1 = F.one x k ∧ allP q.1 = true ∧ x.kind = 18 else q.1 = .nil) ∧ q.1.deep ≤ 4 * (40 - (s.op + 1)) + 3 ∧ q.1.size + 2 * (s.i + 1) ≤ 2 * q.2.i := by
   by_cases h13 : t.n = 13
   ·rw [if_pos h13];have hlt : s.i + 1 < L.length := by omega
    obtain ⟨u, hu⟩ : ∃ u, L[s.i + 1]? = some u := ⟨_, List.getElem?_eq_getElem hlt⟩;have ha := hA s.i t u ht hu h10' h13;have hks : kindS L ⟨s.i + 1, s.op + 1, s.e, s.at_⟩ = 10 := by unfold kindS;rw [if_neg (by simp [hs0])];simp only [hu];exact ha.1
    rw [if_pos ⟨h13, hks⟩] at hq;have g := run_gd hG hA n .thing ⟨s.i + 1, s.op + 1, s.e, s.at_⟩ hsi (by show s.op + 1 ≤ 40; omega) (by
     show 3 * rem L ⟨s.i + 1, s.op + 1, s.e, s.at_⟩ + 1 ≤ n;rw [rem_ok (s := ⟨s.i + 1, s.op + 1, s.e, s.at_⟩) hs0];show 3 * (L.length - (s.i + 1)) + 1 ≤ n;omega) (hp1 hks) trivial (by rw [hq]; exact qe)
    rw [hq] at g;obtain ⟨x, k, hx, ha2, hz, hd, h18⟩ := g;simp only [getD_at hu] at h18;exact ⟨⟨x, k, hx, ha2, h18 ha.1 ha.2.1 ha.2.2⟩, by simp only at hd; omega, by simp only at hz; omega⟩
   ·rw [if_neg h13];rw [if_neg (fun h => h13 h.1)] at hq;rw [← hq];exact ⟨rfl, by simp [F.deep], by simp [F.size]⟩
  obtain ⟨x, k, d1, d2, d3, d4, d5⟩ := group_gd htm h10' (look := q.1) (l := r.1) c1 (by omega) he hk.1 (D := 4 * (40 - (s.op + 1)) + 3) (C := 2 * r.2.i - 2 * q.2.i) c4 hk.2.1 (by omega);refine ⟨x, k, d1, d2, ?_, by simp only; omega, fun _ => d5⟩;have e3 := hk.2.2;simp only [gS_i];omega
theorem parse_may {L : List Tk} (hG : ∀ t ∈ L, TkG t) (hA : Adj L) {N : Int} {f : F} (h : parseP L N = .ok f) : ∃ x k, f = F.one x k ∧ allP f = true ∧ f.size ≤ 2 * L.length + 1 ∧ f.deep ≤ 164 := by
 have iv := (zq L (3 * L.length + 3) (.alt .nil) { i := 0 } (Nat.zero_le _) (Nat.zero_le _) (fun h => by cases h)).1;have g := run_gd hG hA (3 * L.length + 3) (.alt .nil) { i := 0 } (Nat.zero_le _) (Nat.zero_le _) (by
  show 3 * rem L { i := 0 } + 3 ≤ _;rw [rem_ok (s := { i := 0 }) rfl];exact Nat.le_refl _) (fun h => by cases h) ⟨rfl, Nat.zero_le _⟩
 unfold parseP at h;generalize run L (3 * L.length + 3) (.alt .nil) { i := 0 } = r at *;simp only at h;by_cases hc : r.2.e = 0 ∧ r.2.i < L.length
 ·rw [show (if r.2.e = 0 ∧ r.2.i < L.length then failS r.2 31 (L.getD r.2.i zeroT).at_ else r.2) = failS r.2 31 (L.getD r.2.i zeroT).at_ from if_pos hc] at h;have e : (failS r.2 31 (L.getD r.2.i zeroT).at_).e = 31 := by unfold failS; rw [if_pos hc.1]
  rw [e, if_neg (by decide), if_pos (by decide)] at h;cases h
 ·rw [show (if r.2.e = 0 ∧ r.2.i < L.length then failS r.2 31 (L.getD r.2.i zeroT).at_ else r.2) = r.2 from if_neg hc] at h;by_cases h20 : r.2.e = 20
  ·rw [if_pos h20] at h; cases h
  rw [if_neg h20] at h;by_cases he : r.2.e = 0
  ·rw [if_neg (fun q => q he)] at h;cases h;obtain ⟨b1, b2, b3, b4⟩ := g he;simp only [F.len, F.size] at b2 b3 b4;have hn := iv.n;obtain ⟨x, k, c1, c2, c3, c4, c5⟩ := one_gd (K := 13) (l := r.1) (fun h => may_alt (by omega) h) b1;refine ⟨x, k, c1, c2, ?_, by omega⟩;by_cases h1 : r.1.len = 1
   ·have := c4 h1; omega
   ·omega
  ·rw [if_pos he] at h; cases h
def EOk (N : Int) (s : Ps) : Prop := s.e = 0 ∨ s.e = 20 ∨ (0 ≤ s.at_ ∧ s.at_ ≤ N)
theorem eok_fail {N : Int} {s : Ps} (h : EOk N s) {e a : Int} (ha : e = 20 ∨ (0 ≤ a ∧ a ≤ N)) : EOk N (failS s e a) := by
 unfold failS;split
 ·exact Or.inr ha
 ·exact h
theorem getD_in {L : List Tk} {N : Nat} (hL : ∀ t ∈ L, t.at_ ≤ N) (i : Nat) : (0 : Int) ≤ ((L.getD i zeroT).at_ : Int) ∧ ((L.getD i zeroT).at_ : Int) ≤ (N : Int) := by
 by_cases hi : i < L.length
 ·have : L.getD i zeroT ∈ L := by rw [List.getD, List.getElem?_eq_getElem hi, Option.getD_some];exact List.getElem_mem hi
  have := hL _ this;omega
 ·rw [List.getD, List.getElem?_eq_none (by omega)];simp [zeroT]
theorem run_at {L : List Tk} {N : Nat} (hL : ∀ t ∈ L, t.at_ ≤ N) : ∀ (n : Nat) (md : Md) (s : Ps), EOk N s → EOk N (run L n md s).2
 | 0, _, _, h => h
 | n + 1, .alt acc, s, h => by
  have a := run_at hL n (.seq .nil) s h;rw [run];simp only;split
  ·exact run_at hL n (.alt _) _ a
  ·exact a
 | n + 1, .seq acc, s, h => by
  rw [run];split
  ·exact h
  ·split
   ·exact eok_fail h (Or.inr (getD_in hL _))
   ·have a := run_at hL n .thing s h;simp only;split
    ·exact run_at hL n (.seq _) _ a
    ·exact run_at hL n (.seq _) _ a
 | n + 1, .thing, s, h => by
  rw [run];simp only;split
  ·exact h
  ·split
   ·exact eok_fail h (Or.inr (getD_in hL _))
   ·have hq : EOk N (if (L.getD s.i zeroT).n = 13 ∧ kindS L ⟨s.i + 1, s.op + 1, s.e, s.at_⟩ = 10 then run L n .thing ⟨s.i + 1, s.op + 1, s.e, s.at_⟩ else (.nil, ⟨s.i + 1, s.op + 1, s.e, s.at_⟩)).2 := by
     split
     ·exact run_at hL n .thing _ h
     ·exact h
    generalize (if (L.getD s.i zeroT).n = 13 ∧ kindS L ⟨s.i + 1, s.op + 1, s.e, s.at_⟩ = 10 then run L n .thing ⟨s.i + 1, s.op + 1, s.e, s.at_⟩ else (.nil, ⟨s.i + 1, s.op + 1, s.e, s.at_⟩)) = q at *;have a := run_at hL n (.alt .nil) q.2 hq;split
    ·exact eok_fail a (Or.inl rfl)
    ·unfold zf;split
     ·exact eok_fail (s := { (run L n (.alt .nil) q.2).2 with i := (run L n (.alt .nil) q.2).2.i + 1, op := (run L n (.alt .nil) q.2).2.op - 1 }) a (Or.inr (getD_in hL _))
     ·exact a
theorem parse_at {L : List Tk} {N : Nat} (hL : ∀ t ∈ L, t.at_ ≤ N) {x : Int × Int} (h : parseP L N = .error x) : 0 ≤ x.2 ∧ x.2 ≤ N := by
 have a := run_at hL (3 * L.length + 3) (.alt .nil) { i := 0 } (Or.inl rfl);unfold parseP at h;generalize run L (3 * L.length + 3) (.alt .nil) { i := 0 } = r at *;simp only at h;have b : EOk N (if r.2.e = 0 ∧ r.2.i < L.length then failS r.2 31 (L.getD r.2.i zeroT).at_ else r.2) := by
  split
  ·exact eok_fail a (Or.inr (getD_in hL _))
  ·exact a
 generalize (if r.2.e = 0 ∧ r.2.i < L.length then failS r.2 31 (L.getD r.2.i zeroT).at_ else r.2) = s at *;split at h
 ·cases h;exact ⟨Int.natCast_nonneg _, Int.le_refl _⟩
 ·rename_i h20;split at h
  ·rename_i h0;cases h;rcases b with b | b | b
   ·exact absurd b h0
   ·exact absurd b h20
   ·exact b
  ·cases h
theorem s_size : ∀ f : F, (strip f).size = f.size
 | .nil => rfl
 | .cons _ k r => by rw [strip, F.size, F.size, s_size k, s_size r]
theorem s_deep : ∀ f : F, (strip f).deep = f.deep
 | .nil => rfl
 | .cons _ k r => by rw [strip, F.deep, F.deep, s_deep k, s_deep r]
theorem s_len : ∀ f : F, (strip f).len = f.len
 | .nil => rfl
 | .cons _ _ r => by rw [strip, F.len, F.len, s_len r]
theorem s_hd : ∀ f : F, (strip f).hd = f.hd
 | .nil => rfl
 | .cons _ _ _ => rfl
theorem s_may (x : Lab) (k : F) : mayP ({ x with sv := nil3, kv := nil3 }, strip k) = mayP (x, k) := by simp only [mayP, condP, repP, leafP, s_len, s_hd]
theorem s_all : ∀ f : F, allP (strip f) = allP f
 | .nil => rfl
 | .cons x k r => by rw [strip, allP, allP, s_may, s_all k, s_all r]
theorem check_of {L : List Tk} (hG : ∀ t ∈ L, TkG t) (hA : Adj L) (hl : L.length ≤ 1900) {N : Int} {x : Lab} {k : F} (h : parseP L N = .ok (strip (F.one x k))) : checkP (x, k) = true := by obtain ⟨_, _, _, h1, h2, h3⟩ := parse_may hG hA h;rw [s_all] at h1;rw [s_size] at h2;rw [s_deep] at h3;simp only [F.one, F.size, F.deep, allP, Bool.and_true] at h1 h2 h3;unfold checkP;simp only [h1, Bool.and_true, Bool.and_eq_true, decide_eq_true_eq];omega
end Go.Proofs.YtnpcombfgdbhkaaDoor.psm
end
section
namespace Go.Proofs.YtnpcombfgdbhkaaDoor.trw
open sq
open Go Go.RowKit trp
theorem all_any : ∀ (n : Nat) (x : Lab) (k : F) (w : World), k.size < n → NdAt w (x, k) → Calls Tryd.prog 30 #[ndV x] w (BoolB (mayP (x, k) && allP k) w) := by
 intro n
 induction n with
 | zero => intro x k w hn; omega
 | succ n ih =>
  intro x k w hn hd;have HMy := xH (fun w1 (hb : Below w.heap.size w w1) => may_any x k w1 (vO hb hd));obtain ⟨R, hR⟩ : ∃ R, (mayP (x, k) && allP k) = R := ⟨_, rfl⟩;rw [hR];obtain ⟨my, hmy⟩ : ∃ my, mayP (x, k) = my := ⟨_, rfl⟩;rw [hmy] at HMy hR;clear hmy;obtain ⟨hlab, hrg, hk⟩ := hd;obtain ⟨a, cap, hkv⟩ := kids_len hk;obtain ⟨xk, xa, xc, xs, xset, xneg, xn, xm, xmode, xname, xon, xoff, xkv⟩ := x;simp only at hk hkv hrg hlab;subst hkv;have HK := xH hk;have HR := xH hR;clear hk hlab hrg hR;unfold ndV at HMy ⊢;have HM1 := xH (HMy.out _ (qg w (.cells #[.int .i64 xk, .int .i64 xa, .int .i64 xc, xs, .bool xneg, .int .i64 xn, .int .i64 xm, .int .i64 xmode, .string xname, .int .i64 xon, .int .i64 xoff, .slice a k.len cap] 31)));clear HMy;go_enter Tryd.func30, Tryd.ntmps30;go_wp2_with fail
  refine HM1.out.mono ?_;rintro e w1 ⟨rfl, hb1⟩;have hc11 := qf hb1 (a := ⟨w.heap.size, 11, none⟩) (v := .slice a k.len cap) (by simp);have HB := xH (qi (qg w _) hb1);obtain ⟨B, hB⟩ : ∃ B, w.heap.size = B := ⟨_, rfl⟩;rw [hB] at hc11 ⊢;have HC := xH hc11;clear hb1 hc11;cases my with
  | false =>
   go_wp2_with fail
   go_ret
   exact ⟨by rw [← HR.out]; rfl, HB.out⟩
  | true =>
   have HR := xH (show allP k = R by rw [← HR.out]; rfl);go_wp2_with fail
   go_loopw [4, 5] (fun iv _ wr => ∃ i : Nat, iv = .int .i64 i ∧ i ≤ k.len ∧ Hid (allP (k.drop i) = R) ∧ Below w1.heap.size w1 wr) (fun iv _ _ => k.len - (intOf iv).toNat)
   case atStart => exact ⟨0, rfl, Nat.zero_le _, xH (by rw [drop_zero]; exact HR.out), Below.refl _ _⟩
   case round =>
    obtain ⟨i, rfl, hi, HA, hb⟩ := hrel;have hcell : wr.cell? ⟨B, 11, none⟩ = some (.slice a k.len cap) := qf hb HC.out;by_cases hend : i = k.len
    ·have HRes := xH (show true = R by have := HA.out; rw [drop_end (by omega)] at this; exact this);subst hend;go_wp2_with fail
     go_ret
     exact ⟨by rw [← HRes.out]; rfl, qi HB.out hb⟩
    ·have hlt0 : i < k.len := by omega
     obtain ⟨y, k', r, hdr⟩ := drop_lt (f := k) (i := i) (by omega);obtain ⟨b, o, cap', hv2, hcap, hcap2, hlt, hf⟩ := kid_at (below_kids (qi HB.out hb) HK.out) hdr;obtain ⟨rfl, rfl⟩ : a = some ⟨b, o, none⟩ ∧ cap = cap' := by have := hv2;simp only [Value.slice.injEq] at this;exact ⟨this.1, this.2.2⟩
     have hnd := fAt_head hf;have hcs := xH hf.1;have hsz := size_lt hdr;have hadd := add_row b o i 12;have HI := xH (ih y k' wr (by omega) hnd);have HN := xH (show (mayP (y, k') && allP k' && allP (k.drop (i + 1))) = R by rw [drop_succ hdr, ← HA.out, hdr];rfl)
     obtain ⟨q, hq⟩ : ∃ q, (mayP (y, k') && allP k') = q := ⟨_, rfl⟩;rw [hq] at HI HN;clear hf hnd hdr hq hv2;cases q with
     | false =>
      go_wp2_with (refine jv rfl _ rfl b (o + i * 12) rfl y hcs.out ?_)
      refine HI.out.mono ?_;rintro e w2 ⟨rfl, hb2⟩;go_wp2_with fail
      go_ret
      exact ⟨by rw [← HN.out]; rfl, qi (qi HB.out hb) hb2⟩
     | true =>
      go_wp2_with (refine jv rfl _ rfl b (o + i * 12) rfl y hcs.out ?_)
      refine HI.out.mono ?_;rintro e w2 ⟨rfl, hb2⟩;go_wp2_with fail
      go_roundw
      case rel => exact ⟨i + 1, by go_num, hlt, xH (by rw [← HN.out]; rfl), qi hb hb2⟩
      case measure => simp [intOf]; omega
theorem rdepth_any (x : Lab) (k : F) (w : World) (hd : NdAt w (x, k)) : Calls Tryd.prog 29 #[ndV x] w (IntB (min 301 (k.deep + 1) : Nat) w) := by
 have HC := xH (fun w1 (hb : Below w.heap.size w w1) => deep_any (k.size + 1) x k 301 w1 (Nat.lt_succ_self _) (vO hb hd) (by omega) (by omega));clear hd;unfold ndV at *;go_enter Tryd.func29, Tryd.ntmps29;go_wp2_with fail
 refine (HC.out _ (qg w _)).mono ?_;rintro e w2 ⟨rfl, hb2⟩;go_wp2_with fail
 go_ret
 exact ⟨rfl, below_box hb2⟩
theorem rcheck_any (x : Lab) (k : F) (w : World) (hd : NdAt w (x, k)) : Calls Tryd.prog 15 #[ndV x] w (BoolB (checkP (x, k)) w) := by
 have H1 := xH (fun w1 (hb : Below w.heap.size w w1) => small_any x k w1 (vO hb hd));have H2 := xH (fun w1 (hb : Below w.heap.size w w1) => rdepth_any x k w1 (vO hb hd));have H3 := xH (fun w1 (hb : Below w.heap.size w w1) => all_any (k.size + 1) x k w1 (Nat.lt_succ_self _) (vO hb hd));obtain ⟨R, hR⟩ : ∃ R, checkP (x, k) = R := ⟨_, rfl⟩;rw [hR];have HR := xH (show (decide (k.size + 1 ≤ 4000) && decide (k.deep + 1 ≤ 300) && (mayP (x, k) && allP k)) = R by rw [← hR]; rfl);clear hd hR;generalize decide (k.size + 1 ≤ 4000) = s at *;generalize (mayP (x, k) && allP k) = q at *;obtain ⟨d, hd1, hd2⟩ : ∃ d, min 301 (k.deep + 1) = d ∧ (decide (k.deep + 1 ≤ 300) = decide (d ≤ 300)) := ⟨_, rfl, decide_eq_decide.2 (by omega)⟩;rw [hd1] at H2;rw [hd2] at HR;clear hd1 hd2;have hcx : ∀ (w1 : World), (w1.heap[w.heap.size]? = some (.cells (ndC x).toArray 31)) → ∀ j v, (ndC x)[j]? = some v → w1.cell? ⟨w.heap.size, 0 + j, none⟩ = some v := fun w1 h j v hj => by rw [cell_of_row _ _ _ _ _ _ h, Nat.zero_add];simpa using hj
 have HX := xH hcx;clear hcx;have hb0 := qg w (.cells (ndC x).toArray 31);have h0 := heap_alloc_new w (.cells (ndC x).toArray 31);unfold ndC at hb0 h0;have hk1 : ∀ w1, Below (w.alloc (.cells (ndC x).toArray 31)).heap.size (w.alloc (.cells (ndC x).toArray 31)) w1 → w1.heap[w.heap.size]? = some (.cells (ndC x).toArray 31) := fun w1 hb => by rw [hb.block w.heap.size (by simp)];exact heap_alloc_new w _
 unfold ndC at hk1;have HK1 := xH hk1;clear hk1 h0;cases s with
 | false =>
  have HR := xH (show false = R by rw [← HR.out]; rfl);unfold ndV at *;go_enter Tryd.func15, Tryd.ntmps15;go_wp2_with fail
  refine (H1.out _ (qg w _)).mono ?_;rintro e w2 ⟨rfl, hb2⟩;go_wp2_with fail
  go_ret
  exact ⟨by rw [← HR.out]; rfl, below_box hb2⟩
 | true =>
  by_cases hd : d ≤ 300
  ·have HR := xH (show q = R by rw [← HR.out]; simp [hd]);have hdi : (d : Int) ≤ 300 := by omega
   have edd : decide ((d : Int) ≤ 300) = true := by simpa using hdi
   go_enter Tryd.func15, Tryd.ntmps15;unfold ndV;go_wp2_with fail
   refine (H1.out _ (qg w _)).mono ?_;rintro e w2 ⟨rfl, hb2⟩;have hx2 := xH (HX.out w2 (HK1.out w2 hb2));have hx2b := HK1.out w2 hb2;have f0 : w2.cell? ⟨w.heap.size, 0, none⟩ = some (.int .i64 x.kind) := by have := hx2.out 0 _ rfl; rwa [Nat.zero_add] at this
   have f1 : w2.cell? ⟨w.heap.size, 1, none⟩ = some (.int .i64 x.at_) := by have := hx2.out 1 _ rfl; rwa [Nat.zero_add] at this
   have f2 : w2.cell? ⟨w.heap.size, 2, none⟩ = some (.int .i64 x.c) := by have := hx2.out 2 _ rfl; rwa [Nat.zero_add] at this
   have f3 : w2.cell? ⟨w.heap.size, 3, none⟩ = some (x.sv) := by have := hx2.out 3 _ rfl; rwa [Nat.zero_add] at this
   have f4 : w2.cell? ⟨w.heap.size, 4, none⟩ = some (.bool x.neg) := by have := hx2.out 4 _ rfl; rwa [Nat.zero_add] at this
   have f5 : w2.cell? ⟨w.heap.size, 5, none⟩ = some (.int .i64 x.n) := by have := hx2.out 5 _ rfl; rwa [Nat.zero_add] at this
   have f6 : w2.cell? ⟨w.heap.size, 6, none⟩ = some (.int .i64 x.m) := by have := hx2.out 6 _ rfl; rwa [Nat.zero_add] at this
   have f7 : w2.cell? ⟨w.heap.size, 7, none⟩ = some (.int .i64 x.mode) := by have := hx2.out 7 _ rfl; rwa [Nat.zero_add] at this
   have f8 : w2.cell? ⟨w.heap.size, 8, none⟩ = some (.string x.name) := by have := hx2.out 8 _ rfl; rwa [Nat.zero_add] at this
   have f9 : w2.cell? ⟨w.heap.size, 9, none⟩ = some (.int .i64 x.on) := by have := hx2.out 9 _ rfl; rwa [Nat.zero_add] at this
   have f10 : w2.cell? ⟨w.heap.size, 10, none⟩ = some (.int .i64 x.off) := by have := hx2.out 10 _ rfl; rwa [Nat.zero_add] at this
   have f11 : w2.cell? ⟨w.heap.size, 11, none⟩ = some (x.kv) := by have := hx2.out 11 _ rfl; rwa [Nat.zero_add] at this
   go_wp2_with fail
   refine (H2.out w2 (below_box hb2)).mono ?_;rintro e w3 ⟨rfl, hb3⟩;have hx3 := xH (HX.out w3 (by rw [hb3.block w.heap.size (by have := hb2.size; simp at this; omega)]; exact hx2b));clear hx2b;clear f0 f1 f2 f3 f4 f5 f6 f7 f8 f9 f10 f11;have f0 : w3.cell? ⟨w.heap.size, 0, none⟩ = some (.int .i64 x.kind) := by have := hx3.out 0 _ rfl; rwa [Nat.zero_add] at this
   have f1 : w3.cell? ⟨w.heap.size, 1, none⟩ = some (.int .i64 x.at_) := by have := hx3.out 1 _ rfl; rwa [Nat.zero_add] at this
   have f2 : w3.cell? ⟨w.heap.size, 2, none⟩ = some (.int .i64 x.c) := by have := hx3.out 2 _ rfl; rwa [Nat.zero_add] at this
   have f3 : w3.cell? ⟨w.heap.size, 3, none⟩ = some (x.sv) := by have := hx3.out 3 _ rfl; rwa [Nat.zero_add] at this
   have f4 : w3.cell? ⟨w.heap.size, 4, none⟩ = some (.bool x.neg) := by have := hx3.out 4 _ rfl; rwa [Nat.zero_add] at this
   have f5 : w3.cell? ⟨w.heap.size, 5, none⟩ = some (.int .i64 x.n) := by have := hx3.out 5 _ rfl; rwa [Nat.zero_add] at this
   have f6 : w3.cell? ⟨w.heap.size, 6, none⟩ = some (.int .i64 x.m) := by have := hx3.out 6 _ rfl; rwa [Nat.zero_add] at this
   have f7 : w3.cell? ⟨w.heap.size, 7, none⟩ = some (.int .i64 x.mode) := by have := hx3.out 7 _ rfl; rwa [Nat.zero_add] at this
   have f8 : w3.cell? ⟨w.heap.size, 8, none⟩ = some (.string x.name) := by have := hx3.out 8 _ rfl; rwa [Nat.zero_add] at this
   have f9 : w3.cell? ⟨w.heap.size, 9, none⟩ = some (.int .i64 x.on) := by have := hx3.out 9 _ rfl; rwa [Nat.zero_add] at this
   have f10 : w3.cell? ⟨w.heap.size, 10, none⟩ = some (.int .i64 x.off) := by have := hx3.out 10 _ rfl; rwa [Nat.zero_add] at this
   have f11 : w3.cell? ⟨w.heap.size, 11, none⟩ = some (x.kv) := by have := hx3.out 11 _ rfl; rwa [Nat.zero_add] at this
   go_wp2_with fail
   refine (H3.out w3 (qi (below_box hb2) hb3)).mono ?_;rintro e w4 ⟨rfl, hb4⟩;go_wp2_with fail
   go_ret
   exact ⟨by rw [← HR.out]; rfl, qi (qi (below_box hb2) hb3) hb4⟩
  ·have HR := xH (show false = R by rw [← HR.out]; simp [hd]);have hdi : (300 : Int) < (d : Int) := by omega
   go_enter Tryd.func15, Tryd.ntmps15;unfold ndV;go_wp2_with fail
   refine (H1.out _ (qg w _)).mono ?_;rintro e w2 ⟨rfl, hb2⟩;have hx2 := xH (HX.out w2 (HK1.out w2 hb2));have f0 : w2.cell? ⟨w.heap.size, 0, none⟩ = some (.int .i64 x.kind) := by have := hx2.out 0 _ rfl; rwa [Nat.zero_add] at this
   have f1 : w2.cell? ⟨w.heap.size, 1, none⟩ = some (.int .i64 x.at_) := by have := hx2.out 1 _ rfl; rwa [Nat.zero_add] at this
   have f2 : w2.cell? ⟨w.heap.size, 2, none⟩ = some (.int .i64 x.c) := by have := hx2.out 2 _ rfl; rwa [Nat.zero_add] at this
   have f3 : w2.cell? ⟨w.heap.size, 3, none⟩ = some (x.sv) := by have := hx2.out 3 _ rfl; rwa [Nat.zero_add] at this
   have f4 : w2.cell? ⟨w.heap.size, 4, none⟩ = some (.bool x.neg) := by have := hx2.out 4 _ rfl; rwa [Nat.zero_add] at this
   have f5 : w2.cell? ⟨w.heap.size, 5, none⟩ = some (.int .i64 x.n) := by have := hx2.out 5 _ rfl; rwa [Nat.zero_add] at this
   have f6 : w2.cell? ⟨w.heap.size, 6, none⟩ = some (.int .i64 x.m) := by have := hx2.out 6 _ rfl; rwa [Nat.zero_add] at this
   have f7 : w2.cell? ⟨w.heap.size, 7, none⟩ = some (.int .i64 x.mode) := by have := hx2.out 7 _ rfl; rwa [Nat.zero_add] at this
   have f8 : w2.cell? ⟨w.heap.size, 8, none⟩ = some (.string x.name) := by have := hx2.out 8 _ rfl; rwa [Nat.zero_add] at this
   have f9 : w2.cell? ⟨w.heap.size, 9, none⟩ = some (.int .i64 x.on) := by have := hx2.out 9 _ rfl; rwa [Nat.zero_add] at this
   have f10 : w2.cell? ⟨w.heap.size, 10, none⟩ = some (.int .i64 x.off) := by have := hx2.out 10 _ rfl; rwa [Nat.zero_add] at this
   have f11 : w2.cell? ⟨w.heap.size, 11, none⟩ = some (x.kv) := by have := hx2.out 11 _ rfl; rwa [Nat.zero_add] at this
   go_wp2_with fail
   refine (H2.out w2 (below_box hb2)).mono ?_;rintro e w3 ⟨rfl, hb3⟩;go_wp2_with fail
   go_ret
   exact ⟨by rw [← HR.out]; rfl, qi (below_box hb2) hb3⟩
end Go.Proofs.YtnpcombfgdbhkaaDoor.trw
end
section
namespace Go.Proofs.YtnpcombfgdbhkaaDoor.psl
open sq
open Go Go.RowKit Go.Maps tkp trp trw rpp rtp setw psw psp
open rpw (qp zero_at qh sees jB)
open rtw (LexB rlex_any)
open tkw (sg)
open utfw (strOf Sl)
theorem may_law (v : Value) (n : Nat) (g : Nat → Int) (o : Int) (w : World) (hT : TabP w) (hv : Sl w v n g) : Calls Tryd.prog 4 #[v, .int .i64 o] w (BoolB true w) := by
 have HL := xH (fun w1 (hb : Below w.heap.size w w1) => rlex_any v n g o w1 (utfw.below_sl hb hv));have HT := xH hT;have HAW := xH (awake_any w hT);have hn48 : (n : Int) ≤ 140737488355328 := by have := hv.2.1; omega
 obtain ⟨a, cap, rfl⟩ : ∃ a c, v = .slice a n c := by
  obtain ⟨_, _, ⟨rfl, a, c, hv, _⟩ | ⟨b, off, cap, hv, _⟩⟩ := hv
  ·exact ⟨_, _, hv⟩
  ·exact ⟨_, _, hv⟩
 have HER := xH (fun x (h : rlexP (sg (strOf n g)) n o = .error x) => rtw.rlex_e _ _ _ _ h);have HLX := xH (fun T => lx_of (n := n) (g := g) (o := o) (T := T));clear hT hv;go_enter Tryd.func4, Tryd.ntmps4;go_wp2_with fail
 refine HAW.out.mono ?_;rintro e w1 ⟨rfl, hb1⟩;have HB1 := xH hb1;clear hb1 HAW;go_wp2_with fail
 refine (HL.out w1 HB1.out).mono ?_;obtain ⟨q, hq⟩ : ∃ q, rlexP (sg (strOf n g)) n o = q := ⟨_, rfl⟩;rw [hq] at HER HLX ⊢;clear hq HL;cases q with
 | error x =>
  rintro e w2 ⟨hb2, rfl⟩;have b1 : (x.1 != 0) = true := by simpa using HER.out x rfl
  have HB2 := xH (trw.qi HB1.out hb2);clear hb2 HB1 HER HLX;dsimp only;go_wp2_with fail
  go_ret
  exact ⟨rfl, HB2.out⟩
 | ok T =>
  rintro e w2 ⟨hb2, v1, rfl, hrow⟩;have hx := HLX.out T rfl;have HX := xH hx;have HIN := xH (tkIn_of (zh := fun _ => false) hrow (fun i hi => by cases hi) (fun t ht => (hx.b t ht).1.w) hx.ltk.n);have HB2 := xH (trw.qi HB1.out hb2);have HPA := xH (parse_any (fun _ => false) v1 T (n : Int) w2 (fun i hi => by cases hi) (tabP_below HB2.out HT.out) HIN.out hx.ltk);have HSE := xH (stack_eq hx.tok (n : Int));have HPE := xH (fun x (h : parseP T (n : Int) = .error x) => parse_err h);obtain ⟨a1, c1, rfl⟩ : ∃ a c, v1 = .slice a T.length c := by obtain ⟨a, c, h, _⟩ := HIN.out;exact ⟨a, c, h⟩
  have HAT := xH (fun x (h : parseP T (n : Int) = .error x) => psm.parse_at (N := n) (fun t ht => (hx.b t ht).2) h);have HCH := xH (fun x k (h : parseP T (n : Int) = .ok (strip (F.one x k))) => psm.check_of hx.g hx.a (by have := hx.m; have := hx.l; omega) h);clear hb2 hrow hx HER HLX HB1 HIN HX;dsimp only;go_wp2_with fail
  refine HPA.out.mono ?_;rw [HSE.out];obtain ⟨q, hq⟩ : ∃ q, parseP T (n : Int) = q := ⟨_, rfl⟩;rw [hq] at HPE HAT HCH ⊢;clear hq HPA HSE;cases q with
  | error x =>
   rintro e w3 ⟨hb3, rfl⟩;have hx0 := HPE.out x rfl;have b1 : (x.1 != 0) = true := by simpa using hx0
   have hat := HAT.out x rfl;have HB3 := xH (trw.qi HB2.out hb3);have HG3 := xH (heap_alloc_new w3 (.cells zC.toArray 31));have HT3 := xH (zO w3 (lab 0 0));have HO3 := xH zero_ones;unfold zC at HG3 HT3;clear hb3 hx0 HPE HB2 HAT HCH;dsimp only;go_upto_region 8 with (refine qh rfl rfl _ _ rfl w3.heap.size rfl _ (lab 0 0) HG3.out rfl HO3.out rfl ?_)
   generalize (w3.alloc _).setRow _ _ = w4 at *;have HB4 := xH (trw.qi HB3.out HT3.out.b);clear HB3 HG3 HT3 HO3;generalize w3.heap.size = V3 at *;obtain ⟨x1, x2⟩ := x;simp only at b1 hat ⊢;have g1 : decide (0 ≤ x2) = true := decide_eq_true hat.1;have g2 : decide (x2 ≤ (n : Int)) = true := decide_eq_true hat.2;obtain ⟨g3, g4⟩ := hat;go_wp2_with fail
   go_ret
   exact ⟨rfl, HB4.out⟩
  | ok f =>
   rintro e w3 ⟨hb3, x, k, rfl, hn, hst⟩;have hch := HCH.out x k (by rw [hst]);have HB3 := xH (trw.qi HB2.out hb3);have HND := xH (nd_out hn);have HO := xH (qp hn);have HG3 := xH (heap_alloc_new w3 (.cells zC.toArray 31));have HT3 := xH (zO w3 x);have HCK := xH (fun w4 (h : NdAt w4 (x, k)) => rcheck_any x k w4 h);rw [hch] at HCK;unfold zC at HG3 HT3;clear hb3 hn hst hch HPE HB2 HAT HCH;dsimp only;go_upto_region 8 with (refine qh rfl rfl _ _ rfl w3.heap.size rfl _ x HG3.out rfl HO.out rfl ?_)
   generalize (w3.alloc _).setRow _ _ = w4 at *;have HB4 := xH (trw.qi HB3.out HT3.out.b);have HN4 := xH (trw.vO HT3.out.b HND.out);have HC := xH HT3.out.c;clear HB3 HG3 HND HO HT3;generalize w3.heap.size = V3 at *;go_wp2_with (refine jv rfl _ rfl V3 0 rfl x HC.out ?_)
   refine (HCK.out w4 HN4.out).mono ?_;rintro e w5 ⟨rfl, hb5⟩;have HB5 := xH (trw.qi HB4.out hb5);clear hb5;go_wp2_with fail
   go_ret
   exact ⟨rfl, HB5.out⟩
end Go.Proofs.YtnpcombfgdbhkaaDoor.psl
end
