/- T -/
import Derived.BigQuiet
import Derived.BigRegion
import Derived.Deep.Cut
import Derived.Deep.CutBlock
import Derived.Deep.DeepCutAuto
import Derived.Deep.Onto
import Derived.Deep.QuietTactic
import Derived.Deep.RegionHeld3
import Derived.Deep.RegionWith
import Derived.Great.BuildSlice
import Derived.IntWalk
import Derived.Laws.AppendOwn
import Derived.Laws.AppendOwnNone
import Derived.Laws.BitsLemmas
import Derived.Laws.BytesArg
import Derived.Laws.CopyRow
import Derived.Laws.Cover2
import Derived.Laws.Cover3
import Derived.Laws.FloatArith
import Derived.Laws.OwnMore
import Derived.Laws.RangeAny
import Derived.Laws.Rows
import Derived.Laws.Shifts
import Derived.Laws.StructEq
import Derived.Lib.BytesEntry
import Derived.Lib.ConvBytes
import Derived.Lib.Hide
import Derived.Lib.LaidTab
import Derived.Lib.OwnBridge
import Derived.Lib.QuietBelow
import Derived.LoopN
import Derived.Maps.AppendAt
import Derived.Maps.OwnSet
import Derived.OpenShut
import Derived.Outline
import Derived.OwnWalk
import Derived.ProofKit
import Derived.RegionTactic
import Derived.Shelf.Abstract
import Derived.Shelf.Bytes.SlIndexAt
import Derived.Shelf.Lays8
import Derived.Shelf.SlLaysC2
import Derived.Shelf.SlLaysE
import Derived.Shelf.SlLaysE0
import Derived.Shelf.SlLaysF
import Derived.Shelf.SlLaysH
import Derived.Shelf.SlicesE.Clone
import Derived.Shelf.SlicesE.Equal
import Derived.Shelf.SlicesE.IndexFunc
import Derived.Shelf.SlicesG.Cmp
import Derived.Shelf.Spec.SlicesGrow
import Derived.Sort.Grow
import Derived.Sort.Walk0
import Derived.StillTailTactics
import Derived.Test.YtnpcombfgdbhkaaDoorChecked
import Derived.Test.YtnpcombfgdbhkaaDoorRows
import Derived.WalkKit
import Derived.WalkLawsBesides
import Derived.WalkMore
import Derived.WalkSpells
import GoSem.Core.Float
import Derived.Test.YtnpcombfgdbhkaaDoorBPw01
set_option maxHeartbeats 16000000
set_option maxRecDepth 1000000
section
namespace Go.Proofs.YtnpcombfgdbhkaaDoor.ext
open sq
open Go tkp trp rpp
def na : F → F
 | .nil => .nil
 | .cons x k r => .cons { x with at_ := 0, sv := nil3, kv := nil3 } (na k) (na r)
theorem na_app : ∀ f g : F, na (F.app f g) = F.app (na f) (na g)
 | .nil, _ => rfl
 | .cons x k r, g => by simp only [F.app, na, na_app r g]
theorem na_len : ∀ f : F, (na f).len = f.len
 | .nil => rfl
 | .cons x k r => by simp only [na, F.len, na_len r]
theorem len_na {f g : F} (h : na f = na g) : f.len = g.len := by rw [← na_len f, h, na_len g]
theorem hd_na {f g : F} (h : na f = na g) : f.hd = g.hd := by
 have e : ∀ f : F, (na f).hd = f.hd := fun f => by cases f <;> rfl
 rw [← e f, h, e g]
theorem na_oneF {K : Int} {f g : F} (h : na f = na g) : na (oneF K f) = na (oneF K g) := by
 have e : ∀ f : F, na (oneF K f) = (match na f with | .cons x k .nil => .cons x k .nil | l => .cons (lab K 0) l .nil) := fun f => by
  cases f with
  | nil => rfl
  | cons x k r => cases r <;> rfl
 rw [e f, e g, h]
theorem same_na : ∀ f g : F, na f = na g → sameF f g = true
 | .nil, .nil, _ => rfl
 | .nil, .cons _ _ _, h => by cases h
 | .cons _ _ _, .nil, h => by cases h
 | .cons x k r, .cons y k' r', h => by simp only [na, F.cons.injEq, Lab.mk.injEq] at h;obtain ⟨⟨e1, _, e3, _, e5, e6, e7, e8, e9, e10, e11, e12, _⟩, hk, hr⟩ := h;simp only [sameF, labEq, e1, e3, e5, e6, e7, e8, e9, e10, e11, e12, len_na hk, same_na k k' hk, same_na r r' hr, decide_true, beq_self_eq_true, Bool.and_true]
theorem same_na1 {x y : Lab} {k j : F} (h : na (F.one x k) = na (F.one y j)) : sameT (x, k) (y, j) = true := by have := same_na _ _ h;simpa only [F.one, sameF, Bool.and_true, sameT] using this
theorem app_assocX : ∀ f g h : F, F.app (F.app f g) h = F.app f (F.app g h)
 | .nil, _, _ => rfl
 | .cons x k r, g, h => by simp only [F.app, app_assocX r g h]
theorem run_err (L : List Tk) {s : Ps} (h : s.e ≠ 0) : ∀ (n : Nat) (acc : F), (run L n (.seq acc) s).2 = s ∧ (run L n (.alt acc) s).2 = s := by
 have hk : kindS L s = 0 := by unfold kindS; rw [if_pos h]
 have h1 : ∀ n acc, (run L n (.seq acc) s).2 = s := fun n acc => by
  cases n with
  | zero => rfl
  | succ n => rw [run, if_pos (Or.inl hk)]
 intro n acc;refine ⟨h1 n acc, ?_⟩;cases n with
 | zero => rfl
 | succ n =>
  rw [run];simp only [h1 n .nil, hk];rw [if_neg (by decide)]
structure Emb (S L : List Tk) (a d : Nat) (K : Int) : Prop where
 t : ∀ i, i < S.length → L[i + a]? = (S[i]?).map (shT d)
 e : (L[S.length + a]? = none ∧ K = 0) ∨ ∃ t, L[S.length + a]? = some t ∧ t.kind = K
 k : K = 0 ∨ K = 7 ∨ K = 8
theorem emb_kind {S L : List Tk} {a d : Nat} {K : Int} (h : Emb S L a d K) {s s' : Ps} (h1 : s.e = 0) (h2 : s'.e = 0) (hi : s'.i = s.i + a) (hl : s.i < S.length) : kindS L s' = kindS S s := by unfold kindS;rw [if_neg (by simp [h2]), if_neg (by simp [h1]), hi, h.t _ hl, List.getElem?_eq_getElem hl];rfl
theorem emb_end {S L : List Tk} {a d : Nat} {K : Int} (h : Emb S L a d K) {s s' : Ps} (h2 : s'.e = 0) (hi : s'.i = s.i + a) (hl : s.i = S.length) : kindS L s' = K := by
 unfold kindS;rw [if_neg (by simp [h2]), hi, hl];rcases h.e with ⟨e, rfl⟩ | ⟨t, e, e2⟩
 ·rw [e]
 ·rw [e]; exact e2
theorem emb_get {S L : List Tk} {a d : Nat} {K : Int} (h : Emb S L a d K) {i j : Nat} (hi : j = i + a) (hl : i < S.length) : L.getD j zeroT = shT d (S.getD i zeroT) := by subst hi;rw [List.getD_eq_getElem?_getD, List.getD_eq_getElem?_getD, h.t _ hl, List.getElem?_eq_getElem hl];rfl
theorem kind_endX {S : List Tk} {s : Ps} (hl : s.i = S.length) : kindS S s = 0 := by
 unfold kindS;split
 ·rfl
 ·rw [List.getElem?_eq_none (by omega)]
def Fue (L : List Tk) (n : Nat) (s : Ps) : Md → Prop
 | .alt _ => 3 * rem L s + 3 ≤ n
 | .seq _ => 3 * rem L s + 2 ≤ n
 | .thing => 3 * rem L s + 1 ≤ n
def MdE : Md → Md → Prop
 | .alt _, .alt _ => True
 | .seq x, .seq y => na y = na x
 | .thing, .thing => True
 | _, _ => False
def ResE : Md → Md → F → F → Prop
 | .alt x, .alt y, f, g => ∃ u v, f = F.app x u ∧ g = F.app y v ∧ na v = na u
 | _, _, f, g => na g = na f
structure AtX (a o : Nat) (s s' : Ps) : Prop where
 e : s.e = 0
 e' : s'.e = 0
 i : s'.i = s.i + a
 o : s'.op = s.op + o
theorem at_step {a o : Nat} {s s' : Ps} (h : AtX a o s s') : AtX a o { s with i := s.i + 1 } { s' with i := s'.i + 1 } := ⟨h.e, h.e', by show s'.i + 1 = s.i + 1 + a; rw [h.i]; omega, h.o⟩
theorem na_leaf {t : Tk} {d : Nat} {f g : F} (h : na g = na f) : na (F.one (leafL (shT d t) nil3) g) = na (F.one (leafL t nil3) f) := by simp only [F.one, na, h, leafL, shT]
theorem na_rep {t : Tk} {d : Nat} {f g : F} (h : na g = na f) : na (repF (shT d t) g) = na (repF t f) := by simp only [repF, F.one, na, h, lab, shT]
theorem na_group {t : Tk} {d : Nat} {q q' l l' : F} (hq : na q' = na q) (hl : na l' = na l) : na (jf (shT d t) q' l') = na (jf t q l) := by
 have h1 := na_oneF (K := 13) hl;have h2 : na (F.app q' l') = na (F.app q l) := by rw [na_app, na_app, hq, hl]
 unfold jf;show na (if t.n = 1 then _ else if t.n = 2 then _ else if t.n = 4 then _ else if t.n = 5 ∨ t.n = 6 ∨ t.n = 7 ∨ t.n = 8 then _ else if t.n = 3 then _ else _) = _
 repeat' split
 all_goals simp only [F.one, na, lab, shT, h1, h2, hl]
theorem run_ext {S L : List Tk} {a d : Nat} {K : Int} (h : Emb S L a d K) {o : Nat} : ∀ (n n' : Nat) (md md' : Md) (s s' : Ps), n ≤ n' → AtX a o s s' → s.i ≤ S.length → s.op ≤ 40 → Fue S n s md → (md = .thing → s.i < S.length) → MdE md md' →
 (run S n md s).2.e = 0 → ((∃ x, md = .alt x) → K = 7 → (run S n md s).2.i < S.length) →
 ((run L n' md' s').2.e = 11 ∧ o ≠ 0) ∨ (AtX a o (run S n md s).2 (run L n' md' s').2 ∧ ResE md md' (run S n md s).1 (run L n' md' s').1)
 | 0, _, md, _, _, _, _, _, _, _, hf, _, _, _, _ => by cases md <;> · unfold Fue at hf; omega
 | n + 1, 0, _, _, _, _, hn, _, _, _, _, _, _, _, _ => by omega
 | n + 1, n' + 1, .alt x, md', s, s', hn, hs, hi, hop, hf, _, hm, he, hK => by
  obtain ⟨y, rfl⟩ : ∃ y, md' = .alt y := by cases md' <;> first | exact ⟨_, rfl⟩ | exact hm.elim
  have hf1 : 3 * rem S s + 3 ≤ n + 1 := hf;have iv := (zq S n (.seq .nil) s hi hop (fun h => by cases h)).1;have ih := run_ext h n n' (.seq .nil) (.seq .nil) s s' (by omega) hs hi hop (show 3 * rem S s + 2 ≤ n by omega) (fun h => by cases h) rfl;have hK2 := hK ⟨x, rfl⟩;rw [run] at he hK2 ⊢;rw [run];simp only at he hK2 ⊢;generalize run S n (.seq .nil) s = r at *;generalize hr' : run L n' (.seq .nil) s' = r' at *;rw [rem_ok hs.e] at hf1;by_cases h7 : kindS S r.2 = 7
  ·rw [if_pos h7] at he hK2 ⊢;obtain ⟨re, ri, _⟩ := zW (L := S) (s := r.2) (by rw [h7]; decide);rcases ih re (fun h => by obtain ⟨_, h⟩ := h; cases h) with ⟨e11, o0⟩ | ⟨ha, hna⟩
   ·left;have : kindS L r'.2 = 0 := by unfold kindS; rw [if_pos (by rw [e11]; decide)]
    rw [if_neg (by rw [this]; decide)];exact ⟨e11, o0⟩
   ·have hri := iv.i;rw [if_pos (by rw [emb_kind h ha.e ha.e' ha.i ri]; exact h7)];rcases run_ext h n n' (.alt (F.app x r.1)) (.alt (F.app y r'.1)) _ _ (by omega) (at_step ha) ri iv.op (by
     show 3 * rem S { r.2 with i := r.2.i + 1 } + 3 ≤ n;rw [rem_ok (s := { r.2 with i := r.2.i + 1 }) re];show 3 * (S.length - (r.2.i + 1)) + 3 ≤ n;omega) (fun h => by cases h) trivial he (fun _ => hK2) with g | ⟨g1, u, v, g2, g3, g4⟩
    ·exact Or.inl g
    ·right;have hna' : na r'.1 = na r.1 := hna;refine ⟨g1, F.app r.1 u, F.app r'.1 v, by rw [g2, app_assocX], by rw [g3, app_assocX], by rw [na_app, na_app, hna', g4]⟩
  ·rw [if_neg h7] at he hK2 ⊢;rcases ih he (fun h => by obtain ⟨_, h⟩ := h; cases h) with ⟨e11, o0⟩ | ⟨ha, hna⟩
   ·left;have : kindS L r'.2 = 0 := by unfold kindS; rw [if_pos (by rw [e11]; decide)]
    rw [if_neg (by rw [this]; decide)];exact ⟨e11, o0⟩
   ·right;have : ¬ kindS L r'.2 = 7 := by
     by_cases hl : r.2.i < S.length
     ·rw [emb_kind h ha.e ha.e' ha.i hl]; exact h7
     ·rw [emb_end h ha.e' ha.i (by have := iv.n; omega)];intro k7;exact hl (hK2 k7)
    rw [if_neg this];exact ⟨ha, r.1, r'.1, rfl, rfl, hna⟩
 | n + 1, n' + 1, .seq x, md', s, s', hn, hs, hi, hop, hf, _, hm, he, hK => by
  obtain ⟨y, rfl⟩ : ∃ y, md' = .seq y := by cases md' <;> first | exact ⟨_, rfl⟩ | exact hm.elim
  have hm' : na y = na x := hm;have hf1 : 3 * rem S s + 2 ≤ n + 1 := hf;rw [run] at he ⊢;rw [run];by_cases h0 : kindS S s = 0 ∨ kindS S s = 7 ∨ kindS S s = 8
  ·rw [if_pos h0] at he ⊢;have : kindS L s' = 0 ∨ kindS L s' = 7 ∨ kindS L s' = 8 := by
    by_cases hl : s.i < S.length
    ·rw [emb_kind h hs.e hs.e' hs.i hl]; exact h0
    ·rw [emb_end h hs.e' hs.i (by omega)]; exact h.k
   rw [if_pos this];exact Or.inr ⟨hs, na_oneF hm'⟩
  ·rw [if_neg h0] at he ⊢;obtain ⟨_, hsi, _⟩ := zW (L := S) (s := s) (fun h => h0 (Or.inl h));have hkk := emb_kind h hs.e hs.e' hs.i hsi;rw [if_neg (by rw [hkk]; exact h0)];by_cases h9 : kindS S s = 9
   ·rw [if_pos h9] at he;exact absurd he (failS_e (by decide))
   rw [if_neg h9] at he ⊢;rw [if_neg (by rw [hkk]; exact h9)];have iv := (zq S n .thing s hi hop (fun _ => ⟨hs.e, hsi⟩)).1;have hlt : n ≠ 0 → rem S (run S n .thing s).2 < rem S s := fun hn => run_rem hn hop hs.e hsi
   have ih := run_ext h n n' .thing .thing s s' (by omega) hs hi hop (show 3 * rem S s + 1 ≤ n by omega) (fun _ => hsi) trivial;simp only at he ⊢;generalize run S n .thing s = r at *;generalize run L n' .thing s' = r' at *;have hre : r.2.e = 0 := by
    by_cases hx : r.2.e = 0
    ·exact hx
    ·exfalso;have hk0 : kindS S r.2 = 0 := by unfold kindS; rw [if_pos hx]
     rw [if_neg (by rw [hk0]; exact fun x => absurd x.1 (by decide)), (run_err S hx n _).1] at he;exact hx he
   have hn0 : n ≠ 0 := by rw [rem_ok hs.e] at hf1; omega
   have hlt := hlt hn0;rcases ih hre (fun h => by obtain ⟨_, h⟩ := h; cases h) with ⟨e11, o0⟩ | ⟨ha, hna⟩
   ·left;have hk0 : kindS L r'.2 = 0 := by unfold kindS; rw [if_pos (by rw [e11]; decide)]
    rw [if_neg (by rw [hk0]; exact fun x => absurd x.1 (by decide)), (run_err L (by rw [e11]; decide) n' _).1];exact ⟨e11, o0⟩
   ·have hna' : na r'.1 = na r.1 := hna;by_cases hc : kindS S r.2 = 9 ∧ repK r.1.hd = true
    ·obtain ⟨_, ri, _⟩ := zW (L := S) (s := r.2) (by rw [hc.1]; decide);rw [if_pos hc] at he ⊢;rw [if_pos ⟨by rw [emb_kind h ha.e ha.e' ha.i ri]; exact hc.1, by rw [hd_na hna']; exact hc.2⟩];have hfu : 3 * rem S { r.2 with i := r.2.i + 1 } + 2 ≤ n := by have : rem S { r.2 with i := r.2.i + 1 } ≤ rem S r.2 := rem_le S (fun e => e) (Nat.le_succ _);omega
     refine run_ext h n n' (.seq _) (.seq _) _ _ (by omega) (at_step ha) ri iv.op hfu (fun h => by cases h) ?_ he (fun h => by obtain ⟨_, h⟩ := h; cases h);show na (F.app y _) = na (F.app x _);rw [na_app, na_app, hm', emb_get h ha.i ri, na_rep hna']
    ·rw [if_neg hc] at he ⊢;have hc' : ¬ (kindS L r'.2 = 9 ∧ repK r'.1.hd = true) := by
      rintro ⟨c1, c2⟩;by_cases hl : r.2.i < S.length
      ·rw [emb_kind h ha.e ha.e' ha.i hl] at c1;rw [hd_na hna'] at c2;exact hc ⟨c1, c2⟩
      ·rw [emb_end h ha.e' ha.i (by have := iv.n; omega)] at c1;rcases h.k with k | k | k <;> · rw [k] at c1; exact absurd c1 (by decide)
     rw [if_neg hc'];refine run_ext h n n' (.seq _) (.seq _) _ _ (by omega) ha iv.n iv.op (show 3 * rem S r.2 + 2 ≤ n by omega) (fun h => by cases h) ?_ he (fun h => by obtain ⟨_, h⟩ := h; cases h);show na (F.app y _) = na (F.app x _);rw [na_app, na_app, hm', hna']
 | n + 1, n' + 1, .thing, md', s, s', hn, hs, hi, hop, hf, hth, hm, he, hK => by
  obtain rfl : md' = .thing := by cases md' <;> first | rfl | exact hm.elim
  have hsi := hth rfl;have hf1 : 3 * rem S s + 1 ≤ n + 1 := hf;rw [rem_ok hs.e] at hf1;rw [run] at he ⊢;rw [run];simp only at he ⊢;rw [emb_get h hs.i hsi];generalize S.getD s.i zeroT = t at *;by_cases h10 : t.kind ≠ 10
  ·rw [if_pos h10] at he ⊢;rw [if_pos (show (shT d t).kind ≠ 10 from h10)];exact Or.inr ⟨at_step hs, na_leaf rfl⟩
  rw [if_neg h10] at he ⊢;rw [if_neg (show ¬ (shT d t).kind ≠ 10 from h10)];by_cases h40 : s.op = 40
  ·rw [if_pos h40] at he;exact absurd he (failS_e (by decide))
  rw [if_neg h40] at he ⊢;by_cases h40' : s'.op = 40
  ·rw [if_pos h40'];left;have ho := hs.o;refine ⟨?_, by omega⟩;unfold failS;rw [if_pos hs.e']
  rw [if_neg h40'];have a1 : AtX a o ⟨s.i + 1, s.op + 1, s.e, s.at_⟩ ⟨s'.i + 1, s'.op + 1, s'.e, s'.at_⟩ := ⟨hs.e, hs.e', by show s'.i + 1 = s.i + 1 + a; rw [hs.i]; omega, by show s'.op + 1 = s.op + 1 + o; rw [hs.o]; omega⟩;have g0 : (⟨s.i + 1, s.op + 1, s.e, s.at_⟩ : Ps).i ≤ S.length := hsi;have g1 : (⟨s.i + 1, s.op + 1, s.e, s.at_⟩ : Ps).op ≤ 40 := by simp only; omega
  have gr : rem S ⟨s.i + 1, s.op + 1, s.e, s.at_⟩ = S.length - (s.i + 1) := rem_ok (s := ⟨s.i + 1, s.op + 1, s.e, s.at_⟩) hs.e
  -- the look of a condition
  obtain ⟨q, hq⟩ : ∃ q, (if t.n = 13 ∧ kindS S ⟨s.i + 1, s.op + 1, s.e, s.at_⟩ = 10 then run S n .thing ⟨s.i + 1, s.op + 1, s.e, s.at_⟩ else (.nil, ⟨s.i + 1, s.op + 1, s.e, s.at_⟩)) = q := ⟨_, rfl⟩;obtain ⟨q', hq'⟩ : ∃ q', (if (shT d t).n = 13 ∧ kindS L ⟨s'.i + 1, s'.op + 1, s'.e, s'.at_⟩ = 10 then run L n' .thing ⟨s'.i + 1, s'.op + 1, s'.e, s'.at_⟩ else (.nil, ⟨s'.i + 1, s'.op + 1, s'.e, s'.at_⟩)) = q' := ⟨_, rfl⟩;have hn13 : (shT d t).n = t.n := rfl;rw [hn13] at hq';rw [hn13, hq'] ;rw [hq] at he ⊢;have hQ : Inv S ⟨s.i + 1, s.op + 1, s.e, s.at_⟩ q.2 ∧ (q.2.e = 0 → ((q'.2.e = 11 ∧ o ≠ 0) ∨ (AtX a o q.2 q'.2 ∧ na q'.1 = na q.1))) := by
   by_cases hk : t.n = 13 ∧ kindS S ⟨s.i + 1, s.op + 1, s.e, s.at_⟩ = 10
   ·obtain ⟨k1, k2, _⟩ := zW (L := S) (s := ⟨s.i + 1, s.op + 1, s.e, s.at_⟩) (by rw [hk.2]; decide);rw [if_pos hk] at hq;rw [if_pos ⟨hk.1, by rw [emb_kind h a1.e a1.e' a1.i k2]; exact hk.2⟩] at hq';subst hq; subst hq';refine ⟨(zq S n .thing _ g0 g1 (fun _ => ⟨k1, k2⟩)).1, fun e0 => ?_⟩;exact run_ext h n n' .thing .thing _ _ (by omega) a1 g0 g1 (by show 3 * rem S _ + 1 ≤ n; rw [gr]; omega) (fun _ => k2) trivial e0 (fun h => by obtain ⟨_, h⟩ := h; cases h)
   ·rw [if_neg hk] at hq;have hk' : ¬ (t.n = 13 ∧ kindS L ⟨s'.i + 1, s'.op + 1, s'.e, s'.at_⟩ = 10) := by
     rintro ⟨c1, c2⟩;by_cases hl : s.i + 1 < S.length
     ·rw [emb_kind h a1.e a1.e' a1.i hl] at c2;exact hk ⟨c1, c2⟩
     ·rw [emb_end h a1.e' a1.i (by show s.i + 1 = S.length; omega)] at c2;rcases h.k with k | k | k <;> · rw [k] at c2; exact absurd c2 (by decide)
    rw [if_neg hk'] at hq';subst hq; subst hq';exact ⟨Inv.refl g0 g1, fun _ => Or.inr ⟨a1, rfl⟩⟩
  clear hq hq';obtain ⟨iq, hQ⟩ := hQ;have iv := (zq S n (.alt .nil) q.2 iq.n iq.op (fun h => by cases h)).1;have ih := run_ext h (o := o) n n' (.alt .nil) (.alt .nil) q.2 q'.2;have hqi := iq.i;generalize hr : run S n (.alt .nil) q.2 = r at *;have her := fun (x : q'.2.e ≠ 0) => (run_err L x n' .nil).2
  generalize hr' : run L n' (.alt .nil) q'.2 = r' at *;by_cases h8 : kindS S r.2 ≠ 8
  ·rw [if_pos h8] at he;exact absurd he (failS_e (by decide))
  rw [if_neg h8] at he ⊢;obtain ⟨re, ri, _⟩ := zW (L := S) (s := r.2) (by
   intro e;apply h8;rw [e];decide)
  have qe := (iv.e re).1;have fail11 : r'.2.e = 11 → (if kindS L r'.2 ≠ 8 then (zeroF, failS r'.2 20 (-1)) else (jf (shT d t) q'.1 r'.1, zf (shT d t) r'.1 ⟨r'.2.i + 1, r'.2.op - 1, r'.2.e, r'.2.at_⟩)).2.e = 11 := fun e11 => by
   have hk0 : kindS L r'.2 = 0 := by unfold kindS; rw [if_pos (by rw [e11]; decide)]
   rw [if_pos (by rw [hk0]; decide)];unfold failS;rw [if_neg (by rw [e11]; decide)];exact e11
  rcases hQ qe with ⟨e11, o0⟩ | ⟨aq, nq⟩
  ·left;exact ⟨fail11 (by rw [her (by rw [e11]; decide)]; exact e11), o0⟩
  have qi : s.i + 1 ≤ q.2.i := hqi;rcases ih (by omega) aq iq.n iq.op (by show 3 * rem S q.2 + 3 ≤ n; rw [rem_ok qe]; omega) (fun h => by cases h) trivial re (fun _ _ => ri) with ⟨e11, o0⟩ | ⟨ar, u, v, r1, r2, r3⟩
  ·left;exact ⟨fail11 e11, o0⟩
  right;have hna : na r'.1 = na r.1 := by rw [r1, r2]; exact r3
  rw [if_neg (by rw [emb_kind h ar.e ar.e' ar.i ri]; exact h8)];have hgs : zf t r.1 ⟨r.2.i + 1, r.2.op - 1, r.2.e, r.2.at_⟩ = ⟨r.2.i + 1, r.2.op - 1, r.2.e, r.2.at_⟩ ∧ ¬ (condT t = true ∧ (2 < r.1.len ∨ (1 < r.1.len ∧ t.n = 12))) := by
   unfold zf at he ⊢;by_cases hc : condT t = true ∧ (2 < r.1.len ∨ (1 < r.1.len ∧ t.n = 12))
   ·rw [if_pos hc] at he;exact absurd he (failS_e (by decide))
   ·rw [if_neg hc];exact ⟨rfl, hc⟩
  have hgs' : zf (shT d t) r'.1 ⟨r'.2.i + 1, r'.2.op - 1, r'.2.e, r'.2.at_⟩ = ⟨r'.2.i + 1, r'.2.op - 1, r'.2.e, r'.2.at_⟩ := by unfold zf;rw [if_neg];show ¬ (condT t = true ∧ (2 < r'.1.len ∨ (1 < r'.1.len ∧ t.n = 12)));rw [len_na hna];exact hgs.2
  have hop1 : r.2.op = q.2.op := (iv.e re).2;have hop2 : q.2.op = s.op + 1 := (iq.e qe).2;rw [hgs.1, hgs'];have aro := ar.o;refine ⟨⟨ar.e, ar.e', by show r'.2.i + 1 = r.2.i + 1 + a; rw [ar.i]; omega, by show r'.2.op - 1 = r.2.op - 1 + o; omega⟩, ?_⟩;exact na_group nq hna
end Go.Proofs.YtnpcombfgdbhkaaDoor.ext
end
section
namespace Go.Proofs.YtnpcombfgdbhkaaDoor.ext
open sq
open Go utfp tkp rtp trp rpp
def tx (g : Nat → Int) (n : Nat) : R F := match rlexP g n 0 with
 | .error x => .error x
 | .ok T => parseP T n
def pt (g : Nat → Int) (n : Nat) : Pt := { g := g, n := n, u := false, x := false }
theorem rl0 {g : Nat → Int} {n : Nat} (hn : n ≤ 1000) : rlexP g n 0 = lexF (pt g n) (n + 1) false [] 0 := by
 unfold rlexP;rw [if_neg (by omega), if_neg (by omega)];have h5 : (0 : Int).toNat.testBit 5 = false := by decide
 have h3 : (0 : Int).toNat.testBit 3 = false := by decide
 rw [h5, h3, if_neg (by simp)];rfl
theorem has_notX {p : Pt} {c : UInt8} {l : List UInt8} {i : Nat} (h : p.g i ≠ (c.toNat : Int)) : p.has (c :: l) i = false := by rw [Pt.has, decide_eq_false h];simp
theorem has_is {p : Pt} {c : UInt8} {i : Nat} (hi : i < p.n) (h : p.g i = (c.toNat : Int)) : p.has [c] i = true := by show (decide (i < p.n) && decide (p.g i = (c.toNat : Int)) && true) = true;rw [decide_eq_true hi, decide_eq_true h];rfl
theorem lex_tok {p : Pt} {k i to_ : Nat} {T : List Tk} {t : Tk} (hi : i < p.n) (h : p.g i ≠ 92) (e : tokR p i = .ok (some t, to_)) : lexF p (k + 1) false T i = lexF p k false (T ++ [t]) to_ := by rw [lexF, if_neg (by omega), if_neg (by simp), has_notX (c := 92) h, if_neg (by simp), e]
theorem lex_end {p : Pt} {k i : Nat} {b : Bool} {T : List Tk} (hi : p.n ≤ i) : lexF p k b T i = .ok T := by
 cases k with
 | zero => rfl
 | succ k => rw [lexF, if_pos hi]
theorem tok_plainX {p : Pt} (hx : p.x = false) (hn : 4 ≤ p.n) (h0 : p.g 0 = 40) (h1 : p.g 1 = 63) (h2 : p.g 2 = 58) : tokR p 0 = .ok (some (lay { kind := 10, n := 2 } 0 3), 3) := by unfold tokR;rw [char_lowX p (by omega) h0 (by decide) (by decide)];dsimp only;rw [if_neg (by simp [hx]), if_neg (by simp [hx]), if_neg (by decide), if_neg (by decide), if_pos rfl];unfold openR;rw [has_notX (p := p) (c := 42) (l := []) (i := 0 + 1) (by rw [h1]; decide), has_is (p := p) (c := 63) (i := 0 + 1) (by omega) (by rw [h1]; rfl), if_neg (by simp), if_neg (by simp), if_neg (by omega)];unfold kindsT;rw [kindR, has_is (p := p) (c := 58) (i := 0 + 2) (by omega) (by rw [h2]; rfl), if_pos rfl];rfl
theorem tok_shut {p : Pt} (hx : p.x = false) {i : Nat} (hi : i < p.n) (h : p.g i = 41) : tokR p i = .ok (some (lay { kind := 8 } i (i + 1)), i + 1) := by unfold tokR;rw [char_lowX p hi h (by decide) (by decide)];dsimp only;rw [if_neg (by simp [hx]), if_neg (by simp [hx]), if_neg (by decide), if_neg (by decide), if_neg (by decide), if_neg (by decide), if_neg (by decide), if_neg (by decide), if_neg (by decide), if_pos rfl];rfl
theorem no_q {g : Nat → Int} {n : Nat} (hQ : ∀ i, i + 1 < n → ¬ (g i = 92 ∧ g (i + 1) = 81)) (i : Nat) : (pt g n).has [92, 81] i = false := by
 cases h : (pt g n).has [92, 81] i with
 | false => rfl
 | true =>
  exfalso;have hb : i + 2 ≤ n := has_inX _ _ _ h (by simp);rw [Pt.has, Pt.has] at h;simp only [Bool.and_eq_true, decide_eq_true_eq] at h;exact hQ i (by omega) ⟨h.1.2, h.2.1.2⟩
theorem one_F (K : Int) (l : F) : ∃ x k, oneF K l = F.one x k := by
 cases l with
 | nil => exact ⟨_, _, rfl⟩
 | cons x k r => cases r with
  | nil => exact ⟨_, _, rfl⟩
  | cons _ _ _ => exact ⟨_, _, rfl⟩
def r0 : Ps := { i := 0 }
def finX (L : List Tk) (n : Int) (r : F × Ps) : R F :=
 if (if r.2.e = 0 ∧ r.2.i < L.length then failS r.2 31 (L.getD r.2.i zeroT).at_ else r.2).e = 20 then .error (20, n)
 else if (if r.2.e = 0 ∧ r.2.i < L.length then failS r.2 31 (L.getD r.2.i zeroT).at_ else r.2).e ≠ 0 then .error ((if r.2.e = 0 ∧ r.2.i < L.length then failS r.2 31 (L.getD r.2.i zeroT).at_ else r.2).e, (if r.2.e = 0 ∧ r.2.i < L.length then failS r.2 31 (L.getD r.2.i zeroT).at_ else r.2).at_)
 else .ok (oneF 13 r.1)
theorem parse_fin (L : List Tk) (n : Int) : parseP L n = finX L n (run L (3 * L.length + 3) (.alt .nil) r0) := rfl
theorem parse_run {L : List Tk} {n : Int} {f : F} (e : parseP L n = .ok f) : (run L (3 * L.length + 3) (.alt .nil) r0).2.e = 0 ∧ (run L (3 * L.length + 3) (.alt .nil) r0).2.i = L.length ∧ f = oneF 13 (run L (3 * L.length + 3) (.alt .nil) r0).1 := by
 have iv := (zq L (3 * L.length + 3) (.alt .nil) r0 (Nat.zero_le _) (Nat.zero_le _) (fun h => by cases h)).1;rw [parse_fin] at e;generalize run L (3 * L.length + 3) (.alt .nil) r0 = r at *;unfold finX at e;by_cases h1 : r.2.e = 0 ∧ r.2.i < L.length
 ·rw [if_pos h1] at e;have h31 : (failS r.2 31 (L.getD r.2.i zeroT).at_).e = 31 := by unfold failS; rw [if_pos h1.1]
  rw [h31, if_neg (by decide), if_pos (by decide)] at e;cases e
 ·rw [if_neg h1] at e;by_cases h2 : r.2.e = 20
  ·rw [if_pos h2] at e; cases e
  rw [if_neg h2] at e;by_cases h3 : r.2.e = 0
  ·rw [if_neg (by simp [h3])] at e;cases e;have := iv.n;exact ⟨h3, by omega, rfl⟩
  ·rw [if_pos h3] at e; cases e
theorem run_parse {L : List Tk} {n : Int} {r : F × Ps} (e : run L (3 * L.length + 3) (.alt .nil) r0 = r) : (r.2.e = 11 → parseP L n = .error (11, r.2.at_)) ∧ (r.2.e = 0 → r.2.i = L.length → parseP L n = .ok (oneF 13 r.1)) := by
 rw [parse_fin, e];unfold finX;constructor
 ·intro h;rw [if_neg (show ¬ (r.2.e = 0 ∧ r.2.i < L.length) by rw [h]; exact fun x => absurd x.1 (by decide)), h, if_neg (by decide), if_pos (by decide)]
 ·intro h hi;rw [if_neg (show ¬ (r.2.e = 0 ∧ r.2.i < L.length) by omega), h, if_neg (by decide), if_neg (by decide)]
theorem seq_stop {L : List Tk} {n : Nat} {acc : F} {s : Ps} (h : kindS L s = 0) : run L (n + 1) (.seq acc) s = (oneF 12 acc, s) := by rw [run, if_pos (Or.inl h)]
theorem tx_lex {g : Nat → Int} {n : Nat} (hn : n ≤ 1000) {f : F} (e : tx g n = .ok f) : ∃ T, lexF (pt g n) (n + 1) false [] 0 = .ok T ∧ parseP T n = .ok f := by
 unfold tx at e;rw [rl0 hn] at e;cases h : lexF (pt g n) (n + 1) false [] 0 with
 | error x => rw [h] at e; cases e
 | ok T => rw [h] at e; exact ⟨T, rfl, e⟩
theorem within_tx {g g' : Nat → Int} {n : Nat} (hn : n ≤ 900) (h0 : g' 0 = 40) (h1 : g' 1 = 63) (h2 : g' 2 = 58) (hg : ∀ i, i < n → g' (i + 3) = g i) (h41 : g' (n + 3) = 41) (hQ : ∀ i, i + 1 < n → ¬ (g i = 92 ∧ g (i + 1) = 81)) (hgo : Go_ (pt g n)) {f : F} (e : tx g n = .ok f) :
 (∃ a, tx g' (n + 4) = .error (11, a)) ∨ ∃ x y j, tx g' (n + 4) = .ok (F.one x (F.one y j)) ∧ x.kind = 15 ∧ na (F.one y j) = na f := by
 obtain ⟨T, hT, hP⟩ := tx_lex (by omega) e;have hx : Ext (pt g n) (pt g' (n + 4)) 3 := ⟨rfl, rfl, (fun h => by cases h), hg, Or.inr ⟨by show n + 3 < n + 4; omega, Or.inl h41⟩⟩;obtain ⟨S, hS, hL⟩ := lex_ext hx hgo (Or.inr (no_q hQ)) (n + 1) 0 false [] (by show n + 1 - 0 ≤ n + 1; omega) (Nat.zero_le _) (Or.inr rfl) hT;rw [List.nil_append] at hS;subst hS;obtain ⟨k2, b2, hk, hb, hl⟩ := hL (n + 4) ([] ++ [lay { kind := 10, n := 2 } 0 3]) (by show n + 1 - 0 ≤ n + 4; omega);obtain rfl : b2 = false := by
  rcases hb with hb | hb
  ·exact absurd (show n + 4 = n + 3 from hb) (by omega)
  ·exact hb
 have hk' : n + 4 ≤ k2 + (n - 0) := hk;obtain ⟨k3, rfl⟩ : ∃ k3, k2 = k3 + 1 := ⟨k2 - 1, by omega⟩;have hlex : lexF (pt g' (n + 4)) (n + 4 + 1) false [] 0 = .ok (lay { kind := 10, n := 2 } 0 3 :: (T.map (shT 3) ++ [lay { kind := 8 } (n + 3) (n + 3 + 1)])) := by rw [lex_tok (show 0 < n + 4 by omega) (by show g' 0 ≠ 92; rw [h0]; decide) (tok_plainX rfl (show 4 ≤ n + 4 by omega) h0 h1 h2)];refine hl.trans ?_;rw [lex_tok (show n + 3 < n + 4 by omega) (by show g' (n + 3) ≠ 92; rw [h41]; decide) (tok_shut rfl (show n + 3 < n + 4 by omega) h41), lex_end (Nat.le_refl (n + 4))];simp;rfl
 obtain ⟨L, hLd⟩ : ∃ L, lay { kind := 10, n := 2 } 0 3 :: (T.map (shT 3) ++ [lay { kind := 8 } (n + 3) (n + 3 + 1)]) = L := ⟨_, rfl⟩;have hlen : L.length = T.length + 2 := by rw [← hLd]; simp
 have hem : Emb T L 1 3 8 := by
  refine ⟨fun i hi => ?_, Or.inr ⟨lay { kind := 8 } (n + 3) (n + 3 + 1), ?_, rfl⟩, Or.inr (Or.inr rfl)⟩
  ·rw [← hLd, List.getElem?_cons_succ, List.getElem?_append_left (by simpa using hi), List.getElem?_map]
  ·rw [← hLd, List.getElem?_cons_succ, List.getElem?_append_right (by simp)];simp
 have hL0 : L[0]? = some (lay { kind := 10, n := 2 } 0 3) := by rw [← hLd]; rfl
 have ht : tx g' (n + 4) = parseP L ((n + 4 : Nat) : Int) := by unfold tx;rw [rl0 (by omega), hlex, hLd]
 rw [ht];clear hlex hl hLd ht hL hT hk hk' hb;obtain ⟨re, ri, rf⟩ := parse_run hP;have main := run_ext hem (o := 1) (3 * T.length + 3) (3 * T.length + 6) (.alt .nil) (.alt .nil) r0 { i := 1, op := 1 } (by omega) ⟨rfl, rfl, rfl, rfl⟩ (Nat.zero_le _) (Nat.zero_le _) (by show 3 * rem T r0 + 3 ≤ _; rw [rem_ok rfl]; show 3 * (T.length - 0) + 3 ≤ _; omega) (fun h => by cases h) trivial re (fun _ h => absurd h (by decide));have iv := (zq T (3 * T.length + 3) (.alt .nil) r0 (Nat.zero_le _) (Nat.zero_le _) (fun h => by cases h)).1;generalize run T (3 * T.length + 3) (.alt .nil) r0 = r at *;obtain ⟨R, hR⟩ : ∃ R, run L (3 * T.length + 6) (.alt .nil) { i := 1, op := 1 } = R := ⟨_, rfl⟩;have hk0 : kindS L r0 = 10 := by show (if (0 : Int) ≠ 0 then (0 : Int) else match L[0]? with | none => (0 : Int) | some t => t.kind) = 10;rw [if_neg (by decide), hL0];rfl
 have hget : L.getD 0 zeroT = lay { kind := 10, n := 2 } 0 3 := by rw [List.getD_eq_getElem?_getD, hL0]; rfl
 obtain ⟨Q, hQd⟩ : ∃ Q, (if kindS L R.2 ≠ 8 then (zeroF, failS R.2 20 (-1)) else (jf (lay { kind := 10, n := 2 } 0 3) .nil R.1, zf (lay { kind := 10, n := 2 } 0 3) R.1 { R.2 with i := R.2.i + 1, op := R.2.op - 1 })) = Q := ⟨_, rfl⟩;have e1 : run L (3 * T.length + 7) .thing r0 = Q := by rw [run];simp only;rw [show L.getD r0.i zeroT = lay { kind := 10, n := 2 } 0 3 from hget];rw [if_neg (by decide), if_neg (by decide), if_neg (show ¬ ((lay { kind := 10, n := 2 } 0 3).n = 13 ∧ _) from fun x => absurd x.1 (by decide))];rw [← hQd, ← hR];rfl
 have e2 : run L (3 * T.length + 8) (.seq .nil) r0 = (if kindS L Q.2 = 9 ∧ repK Q.1.hd = true then run L (3 * T.length + 7) (.seq (F.app .nil (repF (L.getD Q.2.i zeroT) Q.1))) { Q.2 with i := Q.2.i + 1 } else run L (3 * T.length + 7) (.seq (F.app .nil Q.1)) Q.2) := by rw [run, if_neg (by rw [hk0]; decide), if_neg (by rw [hk0]; decide)];simp only;rw [e1]
 have e3 : run L (3 * L.length + 3) (.alt .nil) r0 = (let q := run L (3 * T.length + 8) (.seq .nil) r0; if kindS L q.2 = 7 then run L (3 * T.length + 8) (.alt (F.app .nil q.1)) { q.2 with i := q.2.i + 1 } else (F.app .nil q.1, q.2)) := by rw [show 3 * L.length + 3 = (3 * T.length + 8) + 1 by omega, run]
 rcases main with ⟨m11, _⟩ | ⟨ma, u, v, m1, m2, m3⟩
 ·left;rw [hR] at m11;have hkR : kindS L R.2 = 0 := by unfold kindS; rw [if_pos (by rw [m11]; decide)]
  rw [if_pos (by rw [hkR]; decide)] at hQd;have hQ2 : Q.2 = R.2 := by rw [← hQd]; unfold failS; rw [if_neg (by rw [m11]; decide)]
  have hne : R.2.e ≠ 0 := by rw [m11]; decide
  rw [hQ2, if_neg (by rw [hkR]; exact fun x => absurd x.1 (by decide))] at e2;have hq : (run L (3 * T.length + 8) (.seq .nil) r0).2 = R.2 := by rw [e2, (run_err L hne _ _).1]
  simp only at e3;rw [hq, if_neg (by rw [hkR]; decide)] at e3;have := (run_parse (n := ((n + 4 : Nat) : Int)) e3).1 m11;exact ⟨_, this⟩
 ·right;rw [hR] at ma m2;have hkR : kindS L R.2 = 8 := emb_end hem ma.e' ma.i ri;have hop : R.2.op = 1 := by have := ma.o; have := (iv.e re).2; have : r0.op = 0 := rfl; omega
  have hi : R.2.i = T.length + 1 := by have := ma.i; omega
  rw [if_neg (by rw [hkR]; decide)] at hQd;have hcd : condT (lay { kind := 10, n := 2 } 0 3) = false := rfl;unfold zf at hQd;rw [hcd, if_neg (by simp)] at hQd;have hg2 : jf (lay { kind := 10, n := 2 } 0 3) .nil R.1 = F.one { lab 15 0 with on := 0, off := 0 } (oneF 13 R.1) := rfl;rw [hg2] at hQd;have hkQ : kindS L Q.2 = 0 := by rw [← hQd];exact kind_endX (by show R.2.i + 1 = _; omega)
  rw [if_neg (by rw [hkQ]; exact fun x => absurd x.1 (by decide)), seq_stop hkQ] at e2;have e2' : run L (3 * T.length + 8) (.seq .nil) r0 = (Q.1, Q.2) := by rw [e2, ← hQd];rfl
  simp only at e3;rw [e2'] at e3;simp only at e3;rw [if_neg (by rw [hkQ]; decide)] at e3;have hp := (run_parse (n := ((n + 4 : Nat) : Int)) e3).2 (by rw [← hQd]; exact ma.e') (by rw [← hQd]; show R.2.i + 1 = _; omega);obtain ⟨y, j, hyj⟩ := one_F 13 R.1;refine ⟨{ lab 15 0 with on := 0, off := 0 }, y, j, ?_, rfl, ?_⟩
  ·rw [hp, ← hQd, ← hyj]; rfl
  ·rw [← hyj, rf];refine na_oneF ?_;rw [m1, m2];exact m3
end Go.Proofs.YtnpcombfgdbhkaaDoor.ext
end
section
namespace Go.Proofs.YtnpcombfgdbhkaaDoor.psl
open sq
open Go.Sort Go Go.RowKit Go.Maps tkp trp trw rpp rtp setw psw psp
open rpw (qp zero_at qh sees jB)
open rtw (cellR Pat tokR_bd)
open tkw (sg sg_bd)
open utfw (strOf Sl conv_sl)
open ext (na pt tx Go_)
theorem text_err {s : ByteArray} {x : Int × Int} (h : textP s = .error x) : x.1 ≠ 0 := by
 unfold textP at h;cases hq : rlexP (sg (strOf s.size (sg s))) s.size 0 with
 | error y =>
  rw [hq] at h;cases h;exact rtw.rlex_e _ _ _ _ hq
 | ok T =>
  rw [hq] at h;exact parse_err h
theorem na_strip : ∀ f : F, na (strip f) = na f
 | .nil => rfl
 | .cons x k r => by simp only [strip, na, na_strip k, na_strip r]
theorem go_pt (s : ByteArray) (hs : s.size ≤ 1000) : Go_ (pt (sg s) s.size) := fun i x k hi h => by
 have hP : Pat s (pt (sg s) s.size) := ⟨rfl, rfl, hs⟩;exact tokR_bd hP hi h
theorem within_text {S : ByteArray} (hn : S.size ≤ 900) (hQ : ∀ i, i + 1 < S.size → ¬ (sg S i = 92 ∧ sg S (i + 1) = 81)) {f : F} (e : textP S = .ok f) :
 (∃ a, textP (((⟨#[40, 63, 58]⟩ : ByteArray) ++ S) ++ ⟨#[41]⟩) = .error (11, a)) ∨ ∃ x y j, textP (((⟨#[40, 63, 58]⟩ : ByteArray) ++ S) ++ ⟨#[41]⟩) = .ok (F.one x (F.one y j)) ∧ x.kind = 15 ∧ na (F.one y j) = na f := by
 have h3 : (⟨#[40, 63, 58]⟩ : ByteArray).size = 3 := rfl;have h1 : (⟨#[41]⟩ : ByteArray).size = 1 := rfl;have hz1 : ((⟨#[40, 63, 58]⟩ : ByteArray) ++ S).size = 3 + S.size := by rw [ByteArray.size_append]; rfl
 have hz : (((⟨#[40, 63, 58]⟩ : ByteArray) ++ S) ++ ⟨#[41]⟩).size = S.size + 4 := by rw [ByteArray.size_append, hz1]; omega
 have e' : tx (sg S) S.size = .ok f := (text_g S).symm.trans e;have k0 : ∀ i, i < 3 → sg (((⟨#[40, 63, 58]⟩ : ByteArray) ++ S) ++ ⟨#[41]⟩) i = sg ⟨#[40, 63, 58]⟩ i := fun i hi => by rw [s_left (by omega), s_left (by omega)]
 have := ext.within_tx (g' := sg (((⟨#[40, 63, 58]⟩ : ByteArray) ++ S) ++ ⟨#[41]⟩)) hn (k0 0 (by decide)) (k0 1 (by decide)) (k0 2 (by decide)) (fun i hi => by rw [s_left (by omega), s_right (j := i) (by omega)]) (by rw [s_right (j := 0) (by omega)]; rfl) hQ (go_pt S (by omega)) e';rw [← hz] at this;rw [text_g];exact this
theorem kid_same {x y : Lab} {j : F} {X x1 : Lab} {K k1 : F} {f : F} (h : strip (F.one X K) = F.one x (F.one y j)) (hx : x.kind = 15) (h1 : strip (F.one x1 k1) = f) (hn : na (F.one y j) = na f) : X.kind = 15 ∧ ∃ Y J, K = F.one Y J ∧ sameT (Y, J) (x1, k1) = true := by
 simp only [F.one, strip, F.cons.injEq, and_true] at h;obtain ⟨hX, hK⟩ := h;refine ⟨by rw [← hx, ← hX], ?_⟩;cases K with
 | nil => cases hK
 | cons Y J r =>
  cases r with
  | cons _ _ _ => simp only [strip, F.cons.injEq, reduceCtorEq, and_false] at hK
  | nil =>
   refine ⟨Y, J, rfl, ext.same_na1 ?_⟩;rw [← na_strip (F.one Y J), ← na_strip (F.one x1 k1), h1, ← hn];exact congrArg na hK
theorem within_law (v : Value) (n : Nat) (g : Nat → Int) (w : World) (hT : TabP w) (hv : Sl w v n g) : Calls Tryd.prog 5 #[v] w (BoolB true w) := by
 have HSl := xH (fun w1 (hb : Below w.heap.size w w1) => conv_sl (utfw.below_sl hb hv));have HT := xH hT;have HAW := xH (awake_any w hT);have HGb := xH hv.1;have hn48 : (n : Int) ≤ 140737488355328 := by have := hv.2.1; omega
 have hg := hv.1;obtain ⟨a, cap, rfl, hvc⟩ : ∃ a c, v = .slice a n c ∧ (n = 0 ∨ ∃ b off, a = some ⟨b, off, none⟩ ∧ ∀ i, i < n → w.cell? ⟨b, off + i, none⟩ = some (.int .u8 (g i))) := by
  obtain ⟨_, _, ⟨rfl, a, c, hv, _⟩ | ⟨b, off, cap, hv, _, hc⟩⟩ := hv
  ·exact ⟨_, _, hv, Or.inl rfl⟩
  ·exact ⟨_, _, hv, Or.inr ⟨b, off, rfl, hc⟩⟩
 have HV := xH hvc;clear hT hv hvc;by_cases hbig : 900 < n
 ·have hbigI : (900 : Int) < (n : Int) := by omega
  clear HSl HGb HV hg;go_enter Tryd.func5, Tryd.ntmps5;go_wp2_with fail
  refine HAW.out.mono ?_;rintro e w1 ⟨rfl, hb1⟩;go_wp2_with fail
  go_ret
  exact ⟨rfl, hb1⟩
 have hbigI : ¬ (900 : Int) < (n : Int) := by omega
 have hsmall : n ≤ 900 := by omega
 have HGG := xH (fun i (hi : i < n) => s_str hg hi);clear hbig hg;go_enter Tryd.func5, Tryd.ntmps5;go_wp2_with fail
 refine HAW.out.mono ?_;rintro e w1 ⟨rfl, hb1⟩;clear HAW;go_wp2_with fail
 go_loopw [4] (fun iv wr => ∃ i : Nat, iv = .int .i64 i ∧ i ≤ n ∧ Hid (∀ j, j < i → j + 1 < n → ¬ (g j = 92 ∧ g (j + 1) = 81)) ∧ Below w.heap.size w wr) (fun iv _ => n - (intOf iv).toNat)
 case atStart => exact ⟨0, rfl, Nat.zero_le _, xH (fun j hj => by omega), hb1⟩
 case round =>
  obtain ⟨i, rfl, hi, HN, hb⟩ := hrel;by_cases hlt : i + 1 < n
  ·clear HSl HGG;rcases HV.out with h0 | ⟨b, off, rfl, hbyte⟩
   ·omega
   have d4 : wr.cell? ⟨b, off + i, none⟩ = some (.int .u8 (g i)) := trw.qf hb (hbyte i (by omega));have d5 : wr.cell? ⟨b, off + (i + 1), none⟩ = some (.int .u8 (g (i + 1))) := trw.qf hb (hbyte (i + 1) hlt);have hltI : (i : Int) + 1 < (n : Int) := by omega
   have HS := xH (show ¬ (g i = 92 ∧ g (i + 1) = 81) → ∀ j, j < i + 1 → j + 1 < n → ¬ (g j = 92 ∧ g (j + 1) = 81) from fun h j hj h2 => by
    by_cases e : j = i
    ·subst e; exact h
    ·exact HN.out j (by omega) h2)
   obtain ⟨y0, y1⟩ := HGb.out i;obtain ⟨z0, z1⟩ := HGb.out (i + 1);clear HN hbyte;generalize g i = y at d4 y0 y1 HS;generalize g (i + 1) = z at d5 z0 z1 HS;by_cases hy : y = 92
   ·have b1 : (y == 92) = true := by simp [hy]
    by_cases hz : z = 81
    ·have b2 : (z == 81) = true := by simp [hz]
     clear hy hz HS;go_wp2_with fail
     go_ret
     exact ⟨rfl, hb⟩
    ·have b2 : (z == 81) = false := by simp [hz]
     have HS2 := xH (HS.out (fun h => hz h.2));clear hy hz HS;go_wp2_with fail
     go_roundw
     case rel => exact ⟨i + 1, by go_num, by omega, HS2, hb⟩
     case measure => simp [intOf]; omega
   ·have b1 : (y == 92) = false := by simp [hy]
    have HS2 := xH (HS.out (fun h => hy h.1));clear hy HS;go_wp2_with fail
    go_roundw
    case rel => exact ⟨i + 1, by go_num, by omega, HS2, hb⟩
    case measure => simp [intOf]; omega
  ·have hltI : ¬ (i : Int) + 1 < (n : Int) := by omega
   have hs : (strOf n g).size = n := strOf_size n g;have HQ := xH (show ∀ j, j + 1 < (strOf n g).size → ¬ (sg (strOf n g) j = 92 ∧ sg (strOf n g) (j + 1) = 81) from fun j hj => by rw [hs] at hj;rw [HGG.out j (by omega), HGG.out (j + 1) hj];exact HN.out j (by omega) hj)
   clear HN HGG HGb HV;have s0 : (strOf n g).size ≤ 1000 := by omega
   have hs9 : (strOf n g).size ≤ 900 := by omega
   clear hs;generalize strOf n g = S at *;have s1 : ByteArray.size ⟨#[40, 63, 58]⟩ ≤ 1000 := by decide
   have s2 : ByteArray.size ⟨#[41]⟩ ≤ 1000 := by decide
   have s3 : ByteArray.size ((⟨#[40, 63, 58]⟩ : ByteArray) ++ S) ≤ 1000 := by rw [ByteArray.size_append]; show 3 + S.size ≤ 1000; omega
   have s4 : ByteArray.size (((⟨#[40, 63, 58]⟩ : ByteArray) ++ S) ++ ⟨#[41]⟩) ≤ 1000 := by rw [ByteArray.size_append, ByteArray.size_append]; show 3 + S.size + 1 ≤ 1000; omega
   have HW := xH (fun f (h : textP S = .ok f) => within_text hs9 HQ.out h);have HP1 := xH (fun w1 (hb : Below w.heap.size w w1) => parsed_any S w1 (tabP_below hb HT.out) s0);have HP2 := xH (fun w1 (hb : Below w.heap.size w w1) => parsed_any (((⟨#[40, 63, 58]⟩ : ByteArray) ++ S) ++ ⟨#[41]⟩) w1 (tabP_below hb HT.out) s4);have HE := xH (fun x (h : textP S = .error x) => text_err h);have hcv := HSl.out wr hb;have HB0 := xH hb;clear HQ hb hs9;go_wp2_with fail
   refine (HP1.out wr HB0.out).mono ?_;obtain ⟨q, hq⟩ : ∃ q, textP S = q := ⟨_, rfl⟩;rw [hq] at HE HW ⊢;clear hq HP1 hcv;cases q with
   | error x =>
    rintro e w3 ⟨hb3, rfl⟩;have b1 : (x.1 != 0) = true := by simpa using HE.out x rfl
    have HB3 := xH (trw.qi HB0.out hb3);have HG3 := xH (heap_alloc_new w3 (.cells zC.toArray 31));have HT3 := xH (zO w3 (lab 0 0));have HO3 := xH zero_ones;unfold zC at HG3 HT3;clear hb3 HE HW HP2 HSl s1 s2 s3 s4;dsimp only;go_upto_region 12 with (refine qh rfl rfl _ _ rfl w3.heap.size rfl _ (lab 0 0) HG3.out rfl HO3.out rfl ?_)
    generalize (w3.alloc _).setRow _ _ = w4 at *;have HB4 := xH (trw.qi HB3.out HT3.out.b);clear HG3 HT3 HO3 HB3;obtain ⟨x1, x2⟩ := x;simp only at b1 ⊢;go_wp2_with fail
    go_ret
    exact ⟨rfl, HB4.out⟩
   | ok f =>
    have HW2 := xH (HW.out f rfl);rintro e w3 ⟨hb3, x, k, rfl, hn3, hst3⟩;have HB3 := xH (trw.qi HB0.out hb3);have HND := xH (nd_out (zh := fun _ => false) (qY (fun a v hc => jB.2 ⟨rfl, hc⟩) hn3));have HST := xH hst3;have HO := xH (qp hn3);have HG3 := xH (heap_alloc_new w3 (.cells zC.toArray 31));have HT3 := xH (zO w3 x);unfold zC at HG3 HT3;clear hb3 hn3 hst3 HE HW HB0;dsimp only;go_upto_region 12 with (refine qh rfl rfl _ _ rfl w3.heap.size rfl _ x HG3.out rfl HO.out rfl ?_)
    generalize (w3.alloc _).setRow _ _ = w4 at *;have HB4 := xH (trw.qi HB3.out HT3.out.b);have HN4 := xH (trw.vO HT3.out.b HND.out);have HC4 := xH HT3.out.c;clear HB3 HG3 HND HO HT3;generalize w3.heap.size = V3 at *;have hcv := HSl.out w4 HB4.out;go_wp2_with fail
    refine (HP2.out w4 HB4.out).mono ?_;clear hcv HP2 HSl s0 s1 s2 s3 s4;rcases HW2.out with ⟨at11, h11⟩ | ⟨y, z, j, hok, hy, hz⟩
    ·rw [h11];rintro e w5 ⟨hb5, rfl⟩;have HB5 := xH (trw.qi HB4.out hb5);have HG5 := xH (heap_alloc_new w5 (.cells zC.toArray 31));have HT5 := xH (zO w5 (lab 0 0));have HO5 := xH zero_ones;unfold zC at HG5 HT5;clear hb5 HW2 HC4 HN4 HST h11;dsimp only;go_upto_region 15 with (refine qh rfl rfl _ _ rfl w5.heap.size rfl _ (lab 0 0) HG5.out rfl HO5.out rfl ?_)
     generalize (w5.alloc _).setRow _ _ = w6 at *;have HB6 := xH (trw.qi HB5.out HT5.out.b);clear HG5 HT5 HO5 HB5;go_wp2_with fail
     go_ret
     exact ⟨rfl, HB6.out⟩
    ·rw [hok];rintro e w5 ⟨hb5, X, K, rfl, hn5, hst5⟩;obtain ⟨hX, Y, J, rfl, hsame⟩ := kid_same hst5 hy HST.out hz;have HB5 := xH (trw.qi HB4.out hb5);have HN5 := xH (trw.vO hb5 HN4.out);have HC5 := xH (fun j u hj => trw.qf hb5 (HC4.out j u hj));have HX5 := xH hn5;have HSM := xH hsame;have HO5 := xH (qp hn5);have HG5 := xH (heap_alloc_new w5 (.cells zC.toArray 31));have HT5 := xH (zO w5 X);have HXK := xH hX;unfold zC at HG5 HT5;clear hb5 hn5 hst5 HW2 HC4 HN4 HST hok hy hz hsame hX;dsimp only;go_upto_region 15 with (refine qh rfl rfl _ _ rfl w5.heap.size rfl _ X HG5.out rfl HO5.out rfl ?_)
     generalize (w5.alloc _).setRow _ _ = w6 at *;have HB6 := xH (trw.qi HB5.out HT5.out.b);have HX6 := xH (trw.vO HT5.out.b HX5.out);have HN6 := xH (trw.vO HT5.out.b HN5.out);have HC6 := xH (fun j u hj => trw.qf HT5.out.b (HC5.out j u hj));have HD6 := xH HT5.out.c;clear HG5 HO5 HB5 HX5 HN5 HC5 HT5;generalize w5.heap.size = V5 at *;obtain ⟨kb, ko, kc, hkv, _, _, _, hfa⟩ := kid_at (i := 0) HX6.out.2.2 rfl;obtain ⟨hk1, hk2, hk3, _⟩ := hfa;have HKN := xH (show NdAt w6 (Y, J) from ⟨hk2.1, hk2.2, hk3⟩);have cS : ∀ d os, Calls Tryd.prog 13 #[ndV Y, ndV x] (grow (redrawn w6 d) os) fun e w'' => e = .returned (.bool true) ∧ ∃ q : Regrown, w'' = grow (redrawn w6 q.d) q.os := fun d os => by have h := rsame_any (J.size + 1) (Y, J) (x, k) (grow (redrawn w6 d) os) (Nat.lt_succ_self _) (trw.vO (below_regrown w6 d os) HKN.out) (trw.vO (below_regrown w6 d os) HN6.out);rw [HSM.out] at h;exact Calls.regrown_of h
     have e0 := cellR (show w6.cell? ⟨V5, 0, none⟩ = some (.int .i64 15) from by have := HD6.out 0 _ rfl; rw [HXK.out] at this; simpa using this);have e11 := cellR (show w6.cell? ⟨V5, 11, none⟩ = some (.slice (some ⟨kb, ko, none⟩) 1 kc) from by have := HD6.out 11 _ rfl; rw [hkv] at this; simpa [F.len, F.one] using this);simp only [Nat.zero_mul, Nat.add_zero] at hk1;have a0 : ∀ (b o : Nat), (⟨b, o, none⟩ : Addr).add (0 * 12) = ⟨b, o, none⟩ := fun b o => by unfold Addr.add; split <;> simp_all
     have k0 := cellR (show w6.cell? ⟨kb, ko, none⟩ = some (.int .i64 Y.kind) from by have := hk1 0 _ rfl; simpa using this);have k1 := cellR (show w6.cell? ⟨kb, ko + 1, none⟩ = some (.int .i64 Y.at_) from by have := hk1 1 _ rfl; simpa using this);have k2 := cellR (show w6.cell? ⟨kb, ko + 2, none⟩ = some (.int .i64 Y.c) from by have := hk1 2 _ rfl; simpa using this);have k3 := cellR (show w6.cell? ⟨kb, ko + 3, none⟩ = some (Y.sv) from by have := hk1 3 _ rfl; simpa using this);have k4 := cellR (show w6.cell? ⟨kb, ko + 4, none⟩ = some (.bool Y.neg) from by have := hk1 4 _ rfl; simpa using this);have k5 := cellR (show w6.cell? ⟨kb, ko + 5, none⟩ = some (.int .i64 Y.n) from by have := hk1 5 _ rfl; simpa using this);have k6 := cellR (show w6.cell? ⟨kb, ko + 6, none⟩ = some (.int .i64 Y.m) from by have := hk1 6 _ rfl; simpa using this);have k7 := cellR (show w6.cell? ⟨kb, ko + 7, none⟩ = some (.int .i64 Y.mode) from by have := hk1 7 _ rfl; simpa using this);have k8 := cellR (show w6.cell? ⟨kb, ko + 8, none⟩ = some (.string Y.name) from by have := hk1 8 _ rfl; simpa using this);have k9 := cellR (show w6.cell? ⟨kb, ko + 9, none⟩ = some (.int .i64 Y.on) from by have := hk1 9 _ rfl; simpa using this);have k10 := cellR (show w6.cell? ⟨kb, ko + 10, none⟩ = some (.int .i64 Y.off) from by have := hk1 10 _ rfl; simpa using this);have k11 := cellR (show w6.cell? ⟨kb, ko + 11, none⟩ = some (Y.kv) from by have := hk1 11 _ rfl; simpa using this);have f0 := cellR (show w6.cell? ⟨V3, 0, none⟩ = some (.int .i64 x.kind) from by have := HC6.out 0 _ rfl; simpa using this);have f1 := cellR (show w6.cell? ⟨V3, 1, none⟩ = some (.int .i64 x.at_) from by have := HC6.out 1 _ rfl; simpa using this);have f2 := cellR (show w6.cell? ⟨V3, 2, none⟩ = some (.int .i64 x.c) from by have := HC6.out 2 _ rfl; simpa using this);have f3 := cellR (show w6.cell? ⟨V3, 3, none⟩ = some (x.sv) from by have := HC6.out 3 _ rfl; simpa using this);have f4 := cellR (show w6.cell? ⟨V3, 4, none⟩ = some (.bool x.neg) from by have := HC6.out 4 _ rfl; simpa using this);have f5 := cellR (show w6.cell? ⟨V3, 5, none⟩ = some (.int .i64 x.n) from by have := HC6.out 5 _ rfl; simpa using this);have f6 := cellR (show w6.cell? ⟨V3, 6, none⟩ = some (.int .i64 x.m) from by have := HC6.out 6 _ rfl; simpa using this);have f7 := cellR (show w6.cell? ⟨V3, 7, none⟩ = some (.int .i64 x.mode) from by have := HC6.out 7 _ rfl; simpa using this);have f8 := cellR (show w6.cell? ⟨V3, 8, none⟩ = some (.string x.name) from by have := HC6.out 8 _ rfl; simpa using this);have f9 := cellR (show w6.cell? ⟨V3, 9, none⟩ = some (.int .i64 x.on) from by have := HC6.out 9 _ rfl; simpa using this);have f10 := cellR (show w6.cell? ⟨V3, 10, none⟩ = some (.int .i64 x.off) from by have := HC6.out 10 _ rfl; simpa using this);have f11 := cellR (show w6.cell? ⟨V3, 11, none⟩ = some (x.kv) from by have := HC6.out 11 _ rfl; simpa using this);unfold ndV at cS;clear hk1 hk2 hk3 HKN HX6 HN6 HC6 HD6 HSM HXK hkv;go_wp2_with fail
     refine wp_region_quiet_below (by kernel_rfl) (by kernel_rfl) ?_
     repeat (go_big_quiet_step (first | exact cS _ _))
     refine wpQuiet_nil ?_;intro _ hw';obtain ⟨⟨dq, osq⟩, hw''⟩ := hw';subst hw'';have HB7 := xH (trw.qi HB6.out (below_regrown w6 dq osq));generalize grow (redrawn w6 dq) osq = w7 at *;go_wp2_with fail
     go_ret
     exact ⟨rfl, HB7.out⟩
end Go.Proofs.YtnpcombfgdbhkaaDoor.psl
end
