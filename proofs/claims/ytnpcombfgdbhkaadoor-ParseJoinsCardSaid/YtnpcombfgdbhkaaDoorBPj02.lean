/- T -/
import Derived.BigQuiet
import Derived.BigRegion
import Derived.Deep.Cut
import Derived.Deep.CutBlock
import Derived.Deep.DeepCutAuto
import Derived.Deep.Onto
import Derived.Deep.QuietTactic
import Derived.Deep.RegionHeld3
import Derived.Deep.RegionWith
import Derived.Great.BuildSlice
import Derived.IntWalk
import Derived.Laws.AppendOwn
import Derived.Laws.AppendOwnNone
import Derived.Laws.BitsLemmas
import Derived.Laws.BytesArg
import Derived.Laws.Closers25b
import Derived.Laws.CopyRow
import Derived.Laws.Cover2
import Derived.Laws.Cover3
import Derived.Laws.FloatArith
import Derived.Laws.OwnMore
import Derived.Laws.RangeAny
import Derived.Laws.Rows
import Derived.Laws.Shifts
import Derived.Laws.StructEq
import Derived.Lib.BytesEntry
import Derived.Lib.ConvBytes
import Derived.Lib.Hide
import Derived.Lib.LaidTab
import Derived.Lib.OwnBridge
import Derived.Lib.QuietBelow
import Derived.LoopN
import Derived.Maps.AppendAt
import Derived.Maps.OwnSet
import Derived.OpenShut
import Derived.Outline
import Derived.OwnWalk
import Derived.ProofKit
import Derived.RegionTactic
import Derived.Shelf.Abstract
import Derived.Shelf.Bytes.SlIndexAt
import Derived.Shelf.Lays8
import Derived.Shelf.SlLaysC2
import Derived.Shelf.SlLaysE
import Derived.Shelf.SlLaysE0
import Derived.Shelf.SlLaysF
import Derived.Shelf.SlLaysH
import Derived.Shelf.SlicesE.Clone
import Derived.Shelf.SlicesE.Equal
import Derived.Shelf.SlicesE.IndexFunc
import Derived.Shelf.SlicesG.Cmp
import Derived.Shelf.Spec.SlicesGrow
import Derived.Sort.Grow
import Derived.Sort.Walk0
import Derived.StillTailTactics
import Derived.Test.YtnpcombfgdbhkaaDoorChecked
import Derived.Test.YtnpcombfgdbhkaaDoorRows
import Derived.WalkKit
import Derived.WalkLawsBesides
import Derived.WalkMore
import Derived.WalkSpells
import GoSem.Core.Float
import Derived.Test.YtnpcombfgdbhkaaDoorBPj01
set_option maxHeartbeats 16000000
set_option maxRecDepth 1000000
section
namespace Go.Proofs.YtnpcombfgdbhkaaDoor.ext
open sq
open Go tkp trp rpp
def na : F → F
 | .nil => .nil
 | .cons x k r => .cons { x with at_ := 0, sv := nil3, kv := nil3 } (na k) (na r)
theorem na_app : ∀ f g : F, na (F.app f g) = F.app (na f) (na g)
 | .nil, _ => rfl
 | .cons x k r, g => by simp only [F.app, na, na_app r g]
theorem na_len : ∀ f : F, (na f).len = f.len
 | .nil => rfl
 | .cons x k r => by simp only [na, F.len, na_len r]
theorem len_na {f g : F} (h : na f = na g) : f.len = g.len := by rw [← na_len f, h, na_len g]
theorem hd_na {f g : F} (h : na f = na g) : f.hd = g.hd := by
 have e : ∀ f : F, (na f).hd = f.hd := fun f => by cases f <;> rfl
 rw [← e f, h, e g]
theorem na_oneF {K : Int} {f g : F} (h : na f = na g) : na (oneF K f) = na (oneF K g) := by
 have e : ∀ f : F, na (oneF K f) = (match na f with | .cons x k .nil => .cons x k .nil | l => .cons (lab K 0) l .nil) := fun f => by
  cases f with
  | nil => rfl
  | cons x k r => cases r <;> rfl
 rw [e f, e g, h]
theorem same_na : ∀ f g : F, na f = na g → sameF f g = true
 | .nil, .nil, _ => rfl
 | .nil, .cons _ _ _, h => by cases h
 | .cons _ _ _, .nil, h => by cases h
 | .cons x k r, .cons y k' r', h => by simp only [na, F.cons.injEq, Lab.mk.injEq] at h;obtain ⟨⟨e1, _, e3, _, e5, e6, e7, e8, e9, e10, e11, e12, _⟩, hk, hr⟩ := h;simp only [sameF, labEq, e1, e3, e5, e6, e7, e8, e9, e10, e11, e12, len_na hk, same_na k k' hk, same_na r r' hr, decide_true, beq_self_eq_true, Bool.and_true]
theorem same_na1 {x y : Lab} {k j : F} (h : na (F.one x k) = na (F.one y j)) : sameT (x, k) (y, j) = true := by have := same_na _ _ h;simpa only [F.one, sameF, Bool.and_true, sameT] using this
theorem app_assocX : ∀ f g h : F, F.app (F.app f g) h = F.app f (F.app g h)
 | .nil, _, _ => rfl
 | .cons x k r, g, h => by simp only [F.app, app_assocX r g h]
theorem app_lenX : ∀ f g : F, (F.app f g).len = f.len + g.len
 | .nil, _ => by simp [F.app, F.len]
 | .cons x k r, g => by simp only [F.app, F.len, app_lenX r g]; omega
theorem run_err (L : List Tk) {s : Ps} (h : s.e ≠ 0) : ∀ (n : Nat) (acc : F), (run L n (.seq acc) s).2 = s ∧ (run L n (.alt acc) s).2 = s := by
 have hk : kindS L s = 0 := by unfold kindS; rw [if_pos h]
 have h1 : ∀ n acc, (run L n (.seq acc) s).2 = s := fun n acc => by
  cases n with
  | zero => rfl
  | succ n => rw [run, if_pos (Or.inl hk)]
 intro n acc;refine ⟨h1 n acc, ?_⟩;cases n with
 | zero => rfl
 | succ n =>
  rw [run];simp only [h1 n .nil, hk];rw [if_neg (by decide)]
structure Emb (S L : List Tk) (a d : Nat) (K : Int) : Prop where
 t : ∀ i, i < S.length → L[i + a]? = (S[i]?).map (shT d)
 e : (L[S.length + a]? = none ∧ K = 0) ∨ ∃ t, L[S.length + a]? = some t ∧ t.kind = K
 k : K = 0 ∨ K = 7 ∨ K = 8
theorem emb_kind {S L : List Tk} {a d : Nat} {K : Int} (h : Emb S L a d K) {s s' : Ps} (h1 : s.e = 0) (h2 : s'.e = 0) (hi : s'.i = s.i + a) (hl : s.i < S.length) : kindS L s' = kindS S s := by unfold kindS;rw [if_neg (by simp [h2]), if_neg (by simp [h1]), hi, h.t _ hl, List.getElem?_eq_getElem hl];rfl
theorem emb_end {S L : List Tk} {a d : Nat} {K : Int} (h : Emb S L a d K) {s s' : Ps} (h2 : s'.e = 0) (hi : s'.i = s.i + a) (hl : s.i = S.length) : kindS L s' = K := by
 unfold kindS;rw [if_neg (by simp [h2]), hi, hl];rcases h.e with ⟨e, rfl⟩ | ⟨t, e, e2⟩
 ·rw [e]
 ·rw [e]; exact e2
theorem emb_get {S L : List Tk} {a d : Nat} {K : Int} (h : Emb S L a d K) {i j : Nat} (hi : j = i + a) (hl : i < S.length) : L.getD j zeroT = shT d (S.getD i zeroT) := by subst hi;rw [List.getD_eq_getElem?_getD, List.getD_eq_getElem?_getD, h.t _ hl, List.getElem?_eq_getElem hl];rfl
def Fue (L : List Tk) (n : Nat) (s : Ps) : Md → Prop
 | .alt _ => 3 * rem L s + 3 ≤ n
 | .seq _ => 3 * rem L s + 2 ≤ n
 | .thing => 3 * rem L s + 1 ≤ n
def MdE : Md → Md → Prop
 | .alt _, .alt _ => True
 | .seq x, .seq y => na y = na x
 | .thing, .thing => True
 | _, _ => False
def ResE : Md → Md → F → F → Prop
 | .alt x, .alt y, f, g => ∃ u v, f = F.app x u ∧ g = F.app y v ∧ na v = na u
 | _, _, f, g => na g = na f
structure AtX (a o : Nat) (s s' : Ps) : Prop where
 e : s.e = 0
 e' : s'.e = 0
 i : s'.i = s.i + a
 o : s'.op = s.op + o
theorem at_step {a o : Nat} {s s' : Ps} (h : AtX a o s s') : AtX a o { s with i := s.i + 1 } { s' with i := s'.i + 1 } := ⟨h.e, h.e', by show s'.i + 1 = s.i + 1 + a; rw [h.i]; omega, h.o⟩
theorem na_leaf {t : Tk} {d : Nat} {f g : F} (h : na g = na f) : na (F.one (leafL (shT d t) nil3) g) = na (F.one (leafL t nil3) f) := by simp only [F.one, na, h, leafL, shT]
theorem na_rep {t : Tk} {d : Nat} {f g : F} (h : na g = na f) : na (repF (shT d t) g) = na (repF t f) := by simp only [repF, F.one, na, h, lab, shT]
theorem na_group {t : Tk} {d : Nat} {q q' l l' : F} (hq : na q' = na q) (hl : na l' = na l) : na (jf (shT d t) q' l') = na (jf t q l) := by
 have h1 := na_oneF (K := 13) hl;have h2 : na (F.app q' l') = na (F.app q l) := by rw [na_app, na_app, hq, hl]
 unfold jf;show na (if t.n = 1 then _ else if t.n = 2 then _ else if t.n = 4 then _ else if t.n = 5 ∨ t.n = 6 ∨ t.n = 7 ∨ t.n = 8 then _ else if t.n = 3 then _ else _) = _
 repeat' split
 all_goals simp only [F.one, na, lab, shT, h1, h2, hl]
theorem run_ext {S L : List Tk} {a d : Nat} {K : Int} (h : Emb S L a d K) {o : Nat} : ∀ (n n' : Nat) (md md' : Md) (s s' : Ps), n ≤ n' → AtX a o s s' → s.i ≤ S.length → s.op ≤ 40 → Fue S n s md → (md = .thing → s.i < S.length) → MdE md md' →
 (run S n md s).2.e = 0 → ((∃ x, md = .alt x) → K = 7 → (run S n md s).2.i < S.length) →
 ((run L n' md' s').2.e = 11 ∧ o ≠ 0) ∨ (AtX a o (run S n md s).2 (run L n' md' s').2 ∧ ResE md md' (run S n md s).1 (run L n' md' s').1)
 | 0, _, md, _, _, _, _, _, _, _, hf, _, _, _, _ => by cases md <;> · unfold Fue at hf; omega
 | n + 1, 0, _, _, _, _, hn, _, _, _, _, _, _, _, _ => by omega
 | n + 1, n' + 1, .alt x, md', s, s', hn, hs, hi, hop, hf, _, hm, he, hK => by
  obtain ⟨y, rfl⟩ : ∃ y, md' = .alt y := by cases md' <;> first | exact ⟨_, rfl⟩ | exact hm.elim
  have hf1 : 3 * rem S s + 3 ≤ n + 1 := hf;have iv := (zq S n (.seq .nil) s hi hop (fun h => by cases h)).1;have ih := run_ext h n n' (.seq .nil) (.seq .nil) s s' (by omega) hs hi hop (show 3 * rem S s + 2 ≤ n by omega) (fun h => by cases h) rfl;have hK2 := hK ⟨x, rfl⟩;rw [run] at he hK2 ⊢;rw [run];simp only at he hK2 ⊢;generalize run S n (.seq .nil) s = r at *;generalize hr' : run L n' (.seq .nil) s' = r' at *;rw [rem_ok hs.e] at hf1;by_cases h7 : kindS S r.2 = 7
  ·rw [if_pos h7] at he hK2 ⊢;obtain ⟨re, ri, _⟩ := zW (L := S) (s := r.2) (by rw [h7]; decide);rcases ih re (fun h => by obtain ⟨_, h⟩ := h; cases h) with ⟨e11, o0⟩ | ⟨ha, hna⟩
   ·left;have : kindS L r'.2 = 0 := by unfold kindS; rw [if_pos (by rw [e11]; decide)]
    rw [if_neg (by rw [this]; decide)];exact ⟨e11, o0⟩
   ·have hri := iv.i;rw [if_pos (by rw [emb_kind h ha.e ha.e' ha.i ri]; exact h7)];rcases run_ext h n n' (.alt (F.app x r.1)) (.alt (F.app y r'.1)) _ _ (by omega) (at_step ha) ri iv.op (by
     show 3 * rem S { r.2 with i := r.2.i + 1 } + 3 ≤ n;rw [rem_ok (s := { r.2 with i := r.2.i + 1 }) re];show 3 * (S.length - (r.2.i + 1)) + 3 ≤ n;omega) (fun h => by cases h) trivial he (fun _ => hK2) with g | ⟨g1, u, v, g2, g3, g4⟩
    ·exact Or.inl g
    ·right;have hna' : na r'.1 = na r.1 := hna;refine ⟨g1, F.app r.1 u, F.app r'.1 v, by rw [g2, app_assocX], by rw [g3, app_assocX], by rw [na_app, na_app, hna', g4]⟩
  ·rw [if_neg h7] at he hK2 ⊢;rcases ih he (fun h => by obtain ⟨_, h⟩ := h; cases h) with ⟨e11, o0⟩ | ⟨ha, hna⟩
   ·left;have : kindS L r'.2 = 0 := by unfold kindS; rw [if_pos (by rw [e11]; decide)]
    rw [if_neg (by rw [this]; decide)];exact ⟨e11, o0⟩
   ·right;have : ¬ kindS L r'.2 = 7 := by
     by_cases hl : r.2.i < S.length
     ·rw [emb_kind h ha.e ha.e' ha.i hl]; exact h7
     ·rw [emb_end h ha.e' ha.i (by have := iv.n; omega)];intro k7;exact hl (hK2 k7)
    rw [if_neg this];exact ⟨ha, r.1, r'.1, rfl, rfl, hna⟩
 | n + 1, n' + 1, .seq x, md', s, s', hn, hs, hi, hop, hf, _, hm, he, hK => by
  obtain ⟨y, rfl⟩ : ∃ y, md' = .seq y := by cases md' <;> first | exact ⟨_, rfl⟩ | exact hm.elim
  have hm' : na y = na x := hm;have hf1 : 3 * rem S s + 2 ≤ n + 1 := hf;rw [run] at he ⊢;rw [run];by_cases h0 : kindS S s = 0 ∨ kindS S s = 7 ∨ kindS S s = 8
  ·rw [if_pos h0] at he ⊢;have : kindS L s' = 0 ∨ kindS L s' = 7 ∨ kindS L s' = 8 := by
    by_cases hl : s.i < S.length
    ·rw [emb_kind h hs.e hs.e' hs.i hl]; exact h0
    ·rw [emb_end h hs.e' hs.i (by omega)]; exact h.k
   rw [if_pos this];exact Or.inr ⟨hs, na_oneF hm'⟩
  ·rw [if_neg h0] at he ⊢;obtain ⟨_, hsi, _⟩ := zW (L := S) (s := s) (fun h => h0 (Or.inl h));have hkk := emb_kind h hs.e hs.e' hs.i hsi;rw [if_neg (by rw [hkk]; exact h0)];by_cases h9 : kindS S s = 9
   ·rw [if_pos h9] at he;exact absurd he (failS_e (by decide))
   rw [if_neg h9] at he ⊢;rw [if_neg (by rw [hkk]; exact h9)];have iv := (zq S n .thing s hi hop (fun _ => ⟨hs.e, hsi⟩)).1;have hlt : n ≠ 0 → rem S (run S n .thing s).2 < rem S s := fun hn => run_rem hn hop hs.e hsi
   have ih := run_ext h n n' .thing .thing s s' (by omega) hs hi hop (show 3 * rem S s + 1 ≤ n by omega) (fun _ => hsi) trivial;simp only at he ⊢;generalize run S n .thing s = r at *;generalize run L n' .thing s' = r' at *;have hre : r.2.e = 0 := by
    by_cases hx : r.2.e = 0
    ·exact hx
    ·exfalso;have hk0 : kindS S r.2 = 0 := by unfold kindS; rw [if_pos hx]
     rw [if_neg (by rw [hk0]; exact fun x => absurd x.1 (by decide)), (run_err S hx n _).1] at he;exact hx he
   have hn0 : n ≠ 0 := by rw [rem_ok hs.e] at hf1; omega
   have hlt := hlt hn0;rcases ih hre (fun h => by obtain ⟨_, h⟩ := h; cases h) with ⟨e11, o0⟩ | ⟨ha, hna⟩
   ·left;have hk0 : kindS L r'.2 = 0 := by unfold kindS; rw [if_pos (by rw [e11]; decide)]
    rw [if_neg (by rw [hk0]; exact fun x => absurd x.1 (by decide)), (run_err L (by rw [e11]; decide) n' _).1];exact ⟨e11, o0⟩
   ·have hna' : na r'.1 = na r.1 := hna;by_cases hc : kindS S r.2 = 9 ∧ repK r.1.hd = true
    ·obtain ⟨_, ri, _⟩ := zW (L := S) (s := r.2) (by rw [hc.1]; decide);rw [if_pos hc] at he ⊢;rw [if_pos ⟨by rw [emb_kind h ha.e ha.e' ha.i ri]; exact hc.1, by rw [hd_na hna']; exact hc.2⟩];have hfu : 3 * rem S { r.2 with i := r.2.i + 1 } + 2 ≤ n := by have : rem S { r.2 with i := r.2.i + 1 } ≤ rem S r.2 := rem_le S (fun e => e) (Nat.le_succ _);omega
     refine run_ext h n n' (.seq _) (.seq _) _ _ (by omega) (at_step ha) ri iv.op hfu (fun h => by cases h) ?_ he (fun h => by obtain ⟨_, h⟩ := h; cases h);show na (F.app y _) = na (F.app x _);rw [na_app, na_app, hm', emb_get h ha.i ri, na_rep hna']
    ·rw [if_neg hc] at he ⊢;have hc' : ¬ (kindS L r'.2 = 9 ∧ repK r'.1.hd = true) := by
      rintro ⟨c1, c2⟩;by_cases hl : r.2.i < S.length
      ·rw [emb_kind h ha.e ha.e' ha.i hl] at c1;rw [hd_na hna'] at c2;exact hc ⟨c1, c2⟩
      ·rw [emb_end h ha.e' ha.i (by have := iv.n; omega)] at c1;rcases h.k with k | k | k <;> · rw [k] at c1; exact absurd c1 (by decide)
     rw [if_neg hc'];refine run_ext h n n' (.seq _) (.seq _) _ _ (by omega) ha iv.n iv.op (show 3 * rem S r.2 + 2 ≤ n by omega) (fun h => by cases h) ?_ he (fun h => by obtain ⟨_, h⟩ := h; cases h);show na (F.app y _) = na (F.app x _);rw [na_app, na_app, hm', hna']
 | n + 1, n' + 1, .thing, md', s, s', hn, hs, hi, hop, hf, hth, hm, he, hK => by
  obtain rfl : md' = .thing := by cases md' <;> first | rfl | exact hm.elim
  have hsi := hth rfl;have hf1 : 3 * rem S s + 1 ≤ n + 1 := hf;rw [rem_ok hs.e] at hf1;rw [run] at he ⊢;rw [run];simp only at he ⊢;rw [emb_get h hs.i hsi];generalize S.getD s.i zeroT = t at *;by_cases h10 : t.kind ≠ 10
  ·rw [if_pos h10] at he ⊢;rw [if_pos (show (shT d t).kind ≠ 10 from h10)];exact Or.inr ⟨at_step hs, na_leaf rfl⟩
  rw [if_neg h10] at he ⊢;rw [if_neg (show ¬ (shT d t).kind ≠ 10 from h10)];by_cases h40 : s.op = 40
  ·rw [if_pos h40] at he;exact absurd he (failS_e (by decide))
  rw [if_neg h40] at he ⊢;by_cases h40' : s'.op = 40
  ·rw [if_pos h40'];left;have ho := hs.o;refine ⟨?_, by omega⟩;unfold failS;rw [if_pos hs.e']
  rw [if_neg h40'];have a1 : AtX a o ⟨s.i + 1, s.op + 1, s.e, s.at_⟩ ⟨s'.i + 1, s'.op + 1, s'.e, s'.at_⟩ := ⟨hs.e, hs.e', by show s'.i + 1 = s.i + 1 + a; rw [hs.i]; omega, by show s'.op + 1 = s.op + 1 + o; rw [hs.o]; omega⟩;have g0 : (⟨s.i + 1, s.op + 1, s.e, s.at_⟩ : Ps).i ≤ S.length := hsi;have g1 : (⟨s.i + 1, s.op + 1, s.e, s.at_⟩ : Ps).op ≤ 40 := by simp only; omega
  have gr : rem S ⟨s.i + 1, s.op + 1, s.e, s.at_⟩ = S.length - (s.i + 1) := rem_ok (s := ⟨s.i + 1, s.op + 1, s.e, s.at_⟩) hs.e
  -- the look of a condition
  obtain ⟨q, hq⟩ : ∃ q, (if t.n = 13 ∧ kindS S ⟨s.i + 1, s.op + 1, s.e, s.at_⟩ = 10 then run S n .thing ⟨s.i + 1, s.op + 1, s.e, s.at_⟩ else (.nil, ⟨s.i + 1, s.op + 1, s.e, s.at_⟩)) = q := ⟨_, rfl⟩;obtain ⟨q', hq'⟩ : ∃ q', (if (shT d t).n = 13 ∧ kindS L ⟨s'.i + 1, s'.op + 1, s'.e, s'.at_⟩ = 10 then run L n' .thing ⟨s'.i + 1, s'.op + 1, s'.e, s'.at_⟩ else (.nil, ⟨s'.i + 1, s'.op + 1, s'.e, s'.at_⟩)) = q' := ⟨_, rfl⟩;have hn13 : (shT d t).n = t.n := rfl;rw [hn13] at hq';rw [hn13, hq'] ;rw [hq] at he ⊢;have hQ : Inv S ⟨s.i + 1, s.op + 1, s.e, s.at_⟩ q.2 ∧ (q.2.e = 0 → ((q'.2.e = 11 ∧ o ≠ 0) ∨ (AtX a o q.2 q'.2 ∧ na q'.1 = na q.1))) := by
   by_cases hk : t.n = 13 ∧ kindS S ⟨s.i + 1, s.op + 1, s.e, s.at_⟩ = 10
   ·obtain ⟨k1, k2, _⟩ := zW (L := S) (s := ⟨s.i + 1, s.op + 1, s.e, s.at_⟩) (by rw [hk.2]; decide);rw [if_pos hk] at hq;rw [if_pos ⟨hk.1, by rw [emb_kind h a1.e a1.e' a1.i k2]; exact hk.2⟩] at hq';subst hq; subst hq';refine ⟨(zq S n .thing _ g0 g1 (fun _ => ⟨k1, k2⟩)).1, fun e0 => ?_⟩;exact run_ext h n n' .thing .thing _ _ (by omega) a1 g0 g1 (by show 3 * rem S _ + 1 ≤ n; rw [gr]; omega) (fun _ => k2) trivial e0 (fun h => by obtain ⟨_, h⟩ := h; cases h)
   ·rw [if_neg hk] at hq;have hk' : ¬ (t.n = 13 ∧ kindS L ⟨s'.i + 1, s'.op + 1, s'.e, s'.at_⟩ = 10) := by
     rintro ⟨c1, c2⟩;by_cases hl : s.i + 1 < S.length
     ·rw [emb_kind h a1.e a1.e' a1.i hl] at c2;exact hk ⟨c1, c2⟩
     ·rw [emb_end h a1.e' a1.i (by show s.i + 1 = S.length; omega)] at c2;rcases h.k with k | k | k <;> · rw [k] at c2; exact absurd c2 (by decide)
    rw [if_neg hk'] at hq';subst hq; subst hq';exact ⟨Inv.refl g0 g1, fun _ => Or.inr ⟨a1, rfl⟩⟩
  clear hq hq';obtain ⟨iq, hQ⟩ := hQ;have iv := (zq S n (.alt .nil) q.2 iq.n iq.op (fun h => by cases h)).1;have ih := run_ext h (o := o) n n' (.alt .nil) (.alt .nil) q.2 q'.2;have hqi := iq.i;generalize hr : run S n (.alt .nil) q.2 = r at *;have her := fun (x : q'.2.e ≠ 0) => (run_err L x n' .nil).2
  generalize hr' : run L n' (.alt .nil) q'.2 = r' at *;by_cases h8 : kindS S r.2 ≠ 8
  ·rw [if_pos h8] at he;exact absurd he (failS_e (by decide))
  rw [if_neg h8] at he ⊢;obtain ⟨re, ri, _⟩ := zW (L := S) (s := r.2) (by
   intro e;apply h8;rw [e];decide)
  have qe := (iv.e re).1;have fail11 : r'.2.e = 11 → (if kindS L r'.2 ≠ 8 then (zeroF, failS r'.2 20 (-1)) else (jf (shT d t) q'.1 r'.1, zf (shT d t) r'.1 ⟨r'.2.i + 1, r'.2.op - 1, r'.2.e, r'.2.at_⟩)).2.e = 11 := fun e11 => by
   have hk0 : kindS L r'.2 = 0 := by unfold kindS; rw [if_pos (by rw [e11]; decide)]
   rw [if_pos (by rw [hk0]; decide)];unfold failS;rw [if_neg (by rw [e11]; decide)];exact e11
  rcases hQ qe with ⟨e11, o0⟩ | ⟨aq, nq⟩
  ·left;exact ⟨fail11 (by rw [her (by rw [e11]; decide)]; exact e11), o0⟩
  have qi : s.i + 1 ≤ q.2.i := hqi;rcases ih (by omega) aq iq.n iq.op (by show 3 * rem S q.2 + 3 ≤ n; rw [rem_ok qe]; omega) (fun h => by cases h) trivial re (fun _ _ => ri) with ⟨e11, o0⟩ | ⟨ar, u, v, r1, r2, r3⟩
  ·left;exact ⟨fail11 e11, o0⟩
  right;have hna : na r'.1 = na r.1 := by rw [r1, r2]; exact r3
  rw [if_neg (by rw [emb_kind h ar.e ar.e' ar.i ri]; exact h8)];have hgs : zf t r.1 ⟨r.2.i + 1, r.2.op - 1, r.2.e, r.2.at_⟩ = ⟨r.2.i + 1, r.2.op - 1, r.2.e, r.2.at_⟩ ∧ ¬ (condT t = true ∧ (2 < r.1.len ∨ (1 < r.1.len ∧ t.n = 12))) := by
   unfold zf at he ⊢;by_cases hc : condT t = true ∧ (2 < r.1.len ∨ (1 < r.1.len ∧ t.n = 12))
   ·rw [if_pos hc] at he;exact absurd he (failS_e (by decide))
   ·rw [if_neg hc];exact ⟨rfl, hc⟩
  have hgs' : zf (shT d t) r'.1 ⟨r'.2.i + 1, r'.2.op - 1, r'.2.e, r'.2.at_⟩ = ⟨r'.2.i + 1, r'.2.op - 1, r'.2.e, r'.2.at_⟩ := by unfold zf;rw [if_neg];show ¬ (condT t = true ∧ (2 < r'.1.len ∨ (1 < r'.1.len ∧ t.n = 12)));rw [len_na hna];exact hgs.2
  have hop1 : r.2.op = q.2.op := (iv.e re).2;have hop2 : q.2.op = s.op + 1 := (iq.e qe).2;rw [hgs.1, hgs'];have aro := ar.o;refine ⟨⟨ar.e, ar.e', by show r'.2.i + 1 = r.2.i + 1 + a; rw [ar.i]; omega, by show r'.2.op - 1 = r.2.op - 1 + o; omega⟩, ?_⟩;exact na_group nq hna
end Go.Proofs.YtnpcombfgdbhkaaDoor.ext
end
section
namespace Go.Proofs.YtnpcombfgdbhkaaDoor.ext
open sq
open Go utfp tkp rtp trp rpp
def tx (g : Nat → Int) (n : Nat) : R F := match rlexP g n 0 with
 | .error x => .error x
 | .ok T => parseP T n
def pt (g : Nat → Int) (n : Nat) : Pt := { g := g, n := n, u := false, x := false }
theorem rl0 {g : Nat → Int} {n : Nat} (hn : n ≤ 1000) : rlexP g n 0 = lexF (pt g n) (n + 1) false [] 0 := by
 unfold rlexP;rw [if_neg (by omega), if_neg (by omega)];have h5 : (0 : Int).toNat.testBit 5 = false := by decide
 have h3 : (0 : Int).toNat.testBit 3 = false := by decide
 rw [h5, h3, if_neg (by simp)];rfl
theorem has_notX {p : Pt} {c : UInt8} {l : List UInt8} {i : Nat} (h : p.g i ≠ (c.toNat : Int)) : p.has (c :: l) i = false := by rw [Pt.has, decide_eq_false h];simp
theorem lex_tok {p : Pt} {k i to_ : Nat} {T : List Tk} {t : Tk} (hi : i < p.n) (h : p.g i ≠ 92) (e : tokR p i = .ok (some t, to_)) : lexF p (k + 1) false T i = lexF p k false (T ++ [t]) to_ := by rw [lexF, if_neg (by omega), if_neg (by simp), has_notX (c := 92) h, if_neg (by simp), e]
theorem lex_end {p : Pt} {k i : Nat} {b : Bool} {T : List Tk} (hi : p.n ≤ i) : lexF p k b T i = .ok T := by
 cases k with
 | zero => rfl
 | succ k => rw [lexF, if_pos hi]
theorem tok_bar {p : Pt} (hx : p.x = false) {i : Nat} (hi : i < p.n) (h : p.g i = 124) : tokR p i = .ok (some (lay { kind := 7 } i (i + 1)), i + 1) := by unfold tokR;rw [char_lowX p hi h (by decide) (by decide)];dsimp only;rw [if_neg (by simp [hx]), if_neg (by simp [hx]), if_neg (by decide), if_neg (by decide), if_neg (by decide), if_neg (by decide), if_neg (by decide), if_neg (by decide), if_pos rfl];rfl
theorem no_q {g : Nat → Int} {n : Nat} (hQ : ∀ i, i + 1 < n → ¬ (g i = 92 ∧ g (i + 1) = 81)) (i : Nat) : (pt g n).has [92, 81] i = false := by
 cases h : (pt g n).has [92, 81] i with
 | false => rfl
 | true =>
  exfalso;have hb : i + 2 ≤ n := has_inX _ _ _ h (by simp);rw [Pt.has, Pt.has] at h;simp only [Bool.and_eq_true, decide_eq_true_eq] at h;exact hQ i (by omega) ⟨h.1.2, h.2.1.2⟩
def r0 : Ps := { i := 0 }
def finX (L : List Tk) (n : Int) (r : F × Ps) : R F :=
 if (if r.2.e = 0 ∧ r.2.i < L.length then failS r.2 31 (L.getD r.2.i zeroT).at_ else r.2).e = 20 then .error (20, n)
 else if (if r.2.e = 0 ∧ r.2.i < L.length then failS r.2 31 (L.getD r.2.i zeroT).at_ else r.2).e ≠ 0 then .error ((if r.2.e = 0 ∧ r.2.i < L.length then failS r.2 31 (L.getD r.2.i zeroT).at_ else r.2).e, (if r.2.e = 0 ∧ r.2.i < L.length then failS r.2 31 (L.getD r.2.i zeroT).at_ else r.2).at_)
 else .ok (oneF 13 r.1)
theorem parse_fin (L : List Tk) (n : Int) : parseP L n = finX L n (run L (3 * L.length + 3) (.alt .nil) r0) := rfl
theorem parse_run {L : List Tk} {n : Int} {f : F} (e : parseP L n = .ok f) : (run L (3 * L.length + 3) (.alt .nil) r0).2.e = 0 ∧ (run L (3 * L.length + 3) (.alt .nil) r0).2.i = L.length ∧ f = oneF 13 (run L (3 * L.length + 3) (.alt .nil) r0).1 := by
 have iv := (zq L (3 * L.length + 3) (.alt .nil) r0 (Nat.zero_le _) (Nat.zero_le _) (fun h => by cases h)).1;rw [parse_fin] at e;generalize run L (3 * L.length + 3) (.alt .nil) r0 = r at *;unfold finX at e;by_cases h1 : r.2.e = 0 ∧ r.2.i < L.length
 ·rw [if_pos h1] at e;have h31 : (failS r.2 31 (L.getD r.2.i zeroT).at_).e = 31 := by unfold failS; rw [if_pos h1.1]
  rw [h31, if_neg (by decide), if_pos (by decide)] at e;cases e
 ·rw [if_neg h1] at e;by_cases h2 : r.2.e = 20
  ·rw [if_pos h2] at e; cases e
  rw [if_neg h2] at e;by_cases h3 : r.2.e = 0
  ·rw [if_neg (by simp [h3])] at e;cases e;have := iv.n;exact ⟨h3, by omega, rfl⟩
  ·rw [if_pos h3] at e; cases e
theorem run_parse {L : List Tk} {n : Int} {r : F × Ps} (e : run L (3 * L.length + 3) (.alt .nil) r0 = r) : (r.2.e = 11 → parseP L n = .error (11, r.2.at_)) ∧ (r.2.e = 0 → r.2.i = L.length → parseP L n = .ok (oneF 13 r.1)) := by
 rw [parse_fin, e];unfold finX;constructor
 ·intro h;rw [if_neg (show ¬ (r.2.e = 0 ∧ r.2.i < L.length) by rw [h]; exact fun x => absurd x.1 (by decide)), h, if_neg (by decide), if_pos (by decide)]
 ·intro h hi;rw [if_neg (show ¬ (r.2.e = 0 ∧ r.2.i < L.length) by omega), h, if_neg (by decide), if_neg (by decide)]
theorem tx_lex {g : Nat → Int} {n : Nat} (hn : n ≤ 1000) {f : F} (e : tx g n = .ok f) : ∃ T, lexF (pt g n) (n + 1) false [] 0 = .ok T ∧ parseP T n = .ok f := by
 unfold tx at e;rw [rl0 hn] at e;cases h : lexF (pt g n) (n + 1) false [] 0 with
 | error x => rw [h] at e; cases e
 | ok T => rw [h] at e; exact ⟨T, rfl, e⟩
end Go.Proofs.YtnpcombfgdbhkaaDoor.ext
end
section
namespace Go.Proofs.YtnpcombfgdbhkaaDoor.psl
open sq
open Go.Sort Go Go.RowKit Go.Maps tkp trp trw rpp rtp setw psw psp
open rpw (qp zero_at qh sees jB)
open rtw (cellR Pat tokR_bd)
open tkw (sg sg_bd)
open utfw (strOf Sl conv_sl)
open ext (na pt tx Go_)
theorem text_err {s : ByteArray} {x : Int × Int} (h : textP s = .error x) : x.1 ≠ 0 := by
 unfold textP at h;cases hq : rlexP (sg (strOf s.size (sg s))) s.size 0 with
 | error y =>
  rw [hq] at h;cases h;exact rtw.rlex_e _ _ _ _ hq
 | ok T =>
  rw [hq] at h;exact parse_err h
theorem na_strip : ∀ f : F, na (strip f) = na f
 | .nil => rfl
 | .cons x k r => by simp only [strip, na, na_strip k, na_strip r]
theorem go_pt (s : ByteArray) (hs : s.size ≤ 1000) : Go_ (pt (sg s) s.size) := fun i x k hi h => by
 have hP : Pat s (pt (sg s) s.size) := ⟨rfl, rfl, hs⟩;exact tokR_bd hP hi h
end Go.Proofs.YtnpcombfgdbhkaaDoor.psl
end
section
namespace Go.Proofs.YtnpcombfgdbhkaaDoor.ext
open sq
open Go utfp tkp rtp trp rpp
def no13 : F → Prop
 | .nil => True
 | .cons x _ r => x.kind ≠ 13 ∧ no13 r
theorem no13_app : ∀ {f g : F}, no13 f → no13 g → no13 (F.app f g)
 | .nil, _, _, h => h
 | .cons _ _ _, _, h, k => ⟨h.1, no13_app h.2 k⟩
theorem leafK_neX (k : Int) : leafK k ≠ 13 := by
 unfold leafK
 repeat' split
 all_goals decide
theorem thing_13 (L : List Tk) : ∀ (n : Nat) (s : Ps), no13 (run L n .thing s).1
 | 0, _ => trivial
 | n + 1, s => by
  rw [run];simp only;have hz : no13 zeroF := ⟨by decide, trivial⟩;split
  ·exact ⟨leafK_neX _, trivial⟩
  ·split
   ·exact hz
   ·have hg : ∀ (t : Tk) (q l : F), no13 (jf t q l) := fun t q l => by
     unfold jf
     repeat' split
     all_goals exact ⟨by simp [lab], trivial⟩
    split
    all_goals
     split
     ·exact hz
     ·exact hg _ _ _
theorem seq_13 (L : List Tk) : ∀ (n : Nat) (acc : F) (s : Ps), no13 acc → s.i ≤ L.length → s.op ≤ 40 → 3 * rem L s + 2 ≤ n → (run L n (.seq acc) s).2.e = 0 → ∃ x k, (run L n (.seq acc) s).1 = F.one x k ∧ x.kind ≠ 13
 | 0, _, _, _, _, _, hf, _ => by omega
 | n + 1, acc, s, ha, h1, h2, hf, he => by
  rw [run] at he ⊢;by_cases h0 : kindS L s = 0 ∨ kindS L s = 7 ∨ kindS L s = 8
  ·rw [if_pos h0];cases acc with
   | nil => exact ⟨_, _, rfl, by decide⟩
   | cons x k r => cases r with
    | nil => exact ⟨x, k, rfl, ha.1⟩
    | cons _ _ _ => exact ⟨_, _, rfl, by decide⟩
  rw [if_neg h0] at he ⊢;by_cases h9 : kindS L s = 9
  ·rw [if_pos h9] at he;exact absurd he (failS_e (by decide))
  rw [if_neg h9] at he ⊢;obtain ⟨hs, hi, -⟩ := zW (L := L) (s := s) (fun h => h0 (Or.inl h));have iv := (zq L n .thing s h1 h2 (fun _ => ⟨hs, hi⟩)).1;rw [rem_ok hs] at hf;have hlt : rem L (run L n .thing s).2 < rem L s := run_rem (by omega) h2 hs hi;rw [rem_ok hs] at hlt;have h13 := thing_13 L n s;simp only at he ⊢;generalize run L n .thing s = r at *;by_cases hc : kindS L r.2 = 9 ∧ repK r.1.hd = true
  ·obtain ⟨_, ri, -⟩ := zW (L := L) (s := r.2) (by rw [hc.1]; decide);rw [if_pos hc] at he ⊢;refine seq_13 L n _ _ (no13_app ha ⟨by simp [lab], trivial⟩) ri iv.op ?_ he;have : rem L ⟨r.2.i + 1, r.2.op, r.2.e, r.2.at_⟩ ≤ rem L r.2 := rem_le L (fun e => e) (Nat.le_succ _);omega
  ·rw [if_neg hc] at he ⊢;exact seq_13 L n _ _ (no13_app ha h13) iv.n iv.op (by omega) he
theorem alt_13 (L : List Tk) : ∀ (n : Nat) (acc : F) (s : Ps), s.i ≤ L.length → s.op ≤ 40 → 3 * rem L s + 3 ≤ n → (run L n (.alt acc) s).2.e = 0 → ∃ u, (run L n (.alt acc) s).1 = F.app acc u ∧ no13 u ∧ 1 ≤ u.len
 | 0, _, _, _, _, hf, _ => by omega
 | n + 1, acc, s, h1, h2, hf, he => by
  have iv := (zq L n (.seq .nil) s h1 h2 (fun h => by cases h)).1;have hq := seq_13 L n .nil s trivial h1 h2 (by omega);rw [run] at he ⊢;simp only at he ⊢;generalize run L n (.seq .nil) s = r at *;by_cases h7 : kindS L r.2 = 7
  ·rw [if_pos h7] at he ⊢;obtain ⟨re, ri, -⟩ := zW (L := L) (s := r.2) (by rw [h7]; decide);obtain ⟨x, k, hx, hk⟩ := hq re;clear hq;have hs := (iv.e re).1;have hi := iv.i;rw [rem_ok hs] at hf;obtain ⟨u, u1, u2, u3⟩ := alt_13 L n (F.app acc r.1) ⟨r.2.i + 1, r.2.op, r.2.e, r.2.at_⟩ ri iv.op (by
    rw [rem_ok (s := ⟨r.2.i + 1, r.2.op, r.2.e, r.2.at_⟩) re];show 3 * (L.length - (r.2.i + 1)) + 3 ≤ n;omega) he
   exact ⟨F.app r.1 u, by rw [u1, app_assocX], no13_app (by rw [hx]; exact ⟨hk, trivial⟩) u2, by rw [app_lenX]; omega⟩
  ·rw [if_neg h7] at he ⊢;obtain ⟨x, k, hx, hk⟩ := hq he;exact ⟨r.1, rfl, by rw [hx]; exact ⟨hk, trivial⟩, by rw [hx]; exact Nat.le_refl _⟩
theorem alt_bar {S L : List Tk} {a d : Nat} (h : Emb S L a d 7) : ∀ (n n' : Nat) (x y : F) (s s' : Ps), n ≤ n' → AtX a 0 s s' → s.i ≤ S.length → s.op ≤ 40 → 3 * rem S s + 3 ≤ n → (run S n (.alt x) s).2.e = 0 → (run S n (.alt x) s).2.i = S.length →
 ∃ u v n2 s2, (run S n (.alt x) s).1 = F.app x u ∧ na v = na u ∧ n' ≤ n2 + (rem S s + 1) ∧ run L n' (.alt y) s' = run L n2 (.alt (F.app y v)) s2 ∧ s2.e = 0 ∧ s2.i = S.length + a + 1 ∧ s2.op = s.op
 | 0, _, _, _, _, _, _, _, _, _, hf, _, _ => by omega
 | n + 1, 0, _, _, _, _, hn, _, _, _, _, _, _ => by omega
 | n + 1, n' + 1, x, y, s, s', hn, hs, hi, hop, hf, he, hend => by
  have iv := (zq S n (.seq .nil) s hi hop (fun h => by cases h)).1;have ih := run_ext h (o := 0) n n' (.seq .nil) (.seq .nil) s s' (by omega) hs hi hop (show 3 * rem S s + 2 ≤ n by omega) (fun h => by cases h) rfl;rw [run] at he hend ⊢;rw [run];simp only at he hend ⊢;generalize run S n (.seq .nil) s = r at *;generalize run L n' (.seq .nil) s' = r' at *;rw [rem_ok hs.e] at hf ⊢;by_cases h7 : kindS S r.2 = 7
  ·rw [if_pos h7] at he hend ⊢;obtain ⟨re, ri, -⟩ := zW (L := S) (s := r.2) (by rw [h7]; decide);rcases ih re (fun h => by obtain ⟨_, h⟩ := h; cases h) with ⟨_, o0⟩ | ⟨ha, hna⟩
   ·exact absurd rfl o0
   have hri := iv.i;have hro := (iv.e re).2;have hna' : na r'.1 = na r.1 := hna;rw [if_pos (by rw [emb_kind h ha.e ha.e' ha.i ri]; exact h7)];have hrem : rem S ⟨r.2.i + 1, r.2.op, r.2.e, r.2.at_⟩ = S.length - (r.2.i + 1) := rem_ok (s := ⟨r.2.i + 1, r.2.op, r.2.e, r.2.at_⟩) re;obtain ⟨u, v, n2, s2, q1, q2, q3, q4, q5, q6, q7⟩ := alt_bar h n n' (F.app x r.1) (F.app y r'.1) ⟨r.2.i + 1, r.2.op, r.2.e, r.2.at_⟩ ⟨r'.2.i + 1, r'.2.op, r'.2.e, r'.2.at_⟩ (by omega) (at_step ha) ri iv.op (by rw [hrem]; omega) he hend;rw [hrem] at q3;refine ⟨F.app r.1 u, F.app r'.1 v, n2, s2, by rw [q1, app_assocX], by rw [na_app, na_app, hna', q2], by omega, by rw [q4, app_assocX], q5, q6, by rw [q7]; exact hro⟩
  ·rw [if_neg h7] at he hend ⊢;rcases ih he (fun h => by obtain ⟨_, h⟩ := h; cases h) with ⟨_, o0⟩ | ⟨ha, hna⟩
   ·exact absurd rfl o0
   rw [if_pos (emb_end h ha.e' ha.i hend)];refine ⟨r.1, r'.1, n', _, rfl, hna, by omega, rfl, ha.e', ?_, ?_⟩
   ·show r'.2.i + 1 = _;have := ha.i;have : r.2.i = S.length := hend;omega
   ·show r'.2.op = s.op;have := ha.o;have := (iv.e he).2;omega
def altsF : F → F
 | .cons x k .nil => if x.kind = 13 then k else .cons x k .nil
 | f => f
theorem alts_one {u : F} (h : no13 u) (hl : 1 ≤ u.len) : altsF (oneF 13 u) = u := by
 cases u with
 | nil => exact absurd hl (by decide)
 | cons x k r => cases r with
  | nil =>
   show (if x.kind = 13 then k else .cons x k .nil) = _;rw [if_neg h.1]
  | cons a b c => rfl
theorem joins_tx {g g1 g2 : Nat → Int} {n m : Nat} (hn : n ≤ 450) (hm : m ≤ 450) (hg1 : ∀ i, i < n → g i = g1 i) (h124 : g n = 124) (hg2 : ∀ i, i < m → g (n + 1 + i) = g2 i) (hQ : ∀ i, i + 1 < n → ¬ (g1 i = 92 ∧ g1 (i + 1) = 81)) (hgo1 : Go_ (pt g1 n)) (hgo2 : Go_ (pt g2 m)) {f1 f2 : F} (e1 : tx g1 n = .ok f1) (e2 : tx g2 m = .ok f2) :
 ∃ k, tx g (n + 1 + m) = .ok (F.one (lab 13 0) k) ∧ na k = na (F.app (altsF f1) (altsF f2)) ∧ 2 ≤ k.len := by
 obtain ⟨T1, hT1, hP1⟩ := tx_lex (by omega) e1;obtain ⟨T2, hT2, hP2⟩ := tx_lex (by omega) e2;have x1 : Ext (pt g1 n) (pt g (n + 1 + m)) 0 := ⟨rfl, rfl, (fun h => by cases h), hg1, Or.inr ⟨by show n + 0 < n + 1 + m; omega, Or.inr (Or.inl h124)⟩⟩;have x2 : Ext (pt g2 m) (pt g (n + 1 + m)) (n + 1) := ⟨rfl, rfl, (fun h => by cases h), fun i hi => by rw [Nat.add_comm i]; exact hg2 i hi, Or.inl (by show n + 1 + m = m + (n + 1); omega)⟩;obtain ⟨S1, hS1, hL1⟩ := lex_ext x1 hgo1 (Or.inr (no_q hQ)) (n + 1) 0 false [] (by show n + 1 - 0 ≤ n + 1; omega) (Nat.zero_le _) (Or.inr rfl) hT1;obtain ⟨S2, hS2, hL2⟩ := lex_ext x2 hgo2 (Or.inl (by show n + 1 + m = m + (n + 1); omega)) (m + 1) 0 false [] (by show m + 1 - 0 ≤ m + 1; omega) (Nat.zero_le _) (Or.inr rfl) hT2;rw [List.nil_append] at hS1 hS2;subst hS1; subst hS2;obtain ⟨k2, b2, hk, hb, hl⟩ := hL1 (n + 1 + m + 1) [] (by show n + 1 - 0 ≤ _; omega);obtain rfl : b2 = false := by
  rcases hb with hb | hb
  ·exact absurd (show n + 1 + m = n + 0 from hb) (by omega)
  ·exact hb
 have hk' : n + 1 + m + 1 ≤ k2 + (n - 0) := hk;obtain ⟨k3, rfl⟩ : ∃ k3, k2 = k3 + 1 := ⟨k2 - 1, by omega⟩;obtain ⟨k4, b4, hk4, _, hl4⟩ := hL2 k3 ([] ++ T1.map (shT 0) ++ [lay { kind := 7 } n (n + 1)]) (by show m + 1 - 0 ≤ k3; omega);have hlex : lexF (pt g (n + 1 + m)) (n + 1 + m + 1) false [] 0 = .ok (T1.map (shT 0) ++ lay { kind := 7 } n (n + 1) :: T2.map (shT (n + 1))) := by refine hl.trans ?_;show lexF (pt g (n + 1 + m)) (k3 + 1) false ([] ++ T1.map (shT 0)) n = _;rw [lex_tok (show n < n + 1 + m by omega) (by show g n ≠ 92; rw [h124]; decide) (tok_bar rfl (show n < n + 1 + m by omega) h124)];refine Eq.trans (congrArg (lexF _ _ _ _) (show n + 1 = 0 + (n + 1) by omega)) (hl4.trans ?_);rw [lex_end (show n + 1 + m ≤ m + (n + 1) by omega)];simp
 obtain ⟨L, hLd⟩ : ∃ L, T1.map (shT 0) ++ lay { kind := 7 } n (n + 1) :: T2.map (shT (n + 1)) = L := ⟨_, rfl⟩;have hlen : L.length = T1.length + 1 + T2.length := by rw [← hLd]; simp; omega
 have em1 : Emb T1 L 0 0 7 := by
  refine ⟨fun i hi => ?_, Or.inr ⟨lay { kind := 7 } n (n + 1), ?_, rfl⟩, Or.inr (Or.inl rfl)⟩
  ·rw [← hLd, List.getElem?_append_left (by simpa using hi), List.getElem?_map];rfl
  ·rw [← hLd, List.getElem?_append_right (by simp)];simp
 have em2 : Emb T2 L (T1.length + 1) (n + 1) 0 := by
  refine ⟨fun i hi => ?_, Or.inl ⟨?_, rfl⟩, Or.inl rfl⟩
  ·rw [← hLd, List.getElem?_append_right (by simp; omega), List.length_map, show i + (T1.length + 1) - T1.length = i + 1 by omega, List.getElem?_cons_succ, List.getElem?_map]
  ·rw [List.getElem?_eq_none (by omega)]
 have ht : tx g (n + 1 + m) = parseP L ((n + 1 + m : Nat) : Int) := by unfold tx;rw [rl0 (by omega), hlex, hLd]
 rw [ht];obtain ⟨p1, p2, p3⟩ := parse_run hP1;obtain ⟨q1, q2, q3⟩ := parse_run hP2;obtain ⟨u1, w1, w2, w3⟩ := alt_13 T1 (3 * T1.length + 3) .nil r0 (Nat.zero_le _) (Nat.zero_le _) (by rw [rem_ok rfl]; show 3 * (T1.length - 0) + 3 ≤ _; omega) p1;obtain ⟨u2, y1, y2, y3⟩ := alt_13 T2 (3 * T2.length + 3) .nil r0 (Nat.zero_le _) (Nat.zero_le _) (by rw [rem_ok rfl]; show 3 * (T2.length - 0) + 3 ≤ _; omega) q1;obtain ⟨v1, v2, n2, s2, z1, z2, z3, z4, z5, z6, z7⟩ := alt_bar em1 (3 * T1.length + 3) (3 * L.length + 3) .nil .nil r0 r0 (by omega) ⟨rfl, rfl, rfl, rfl⟩ (Nat.zero_le _) (Nat.zero_le _) (by rw [rem_ok rfl]; show 3 * (T1.length - 0) + 3 ≤ _; omega) p1 p2;have z3' : 3 * L.length + 3 ≤ n2 + (T1.length - 0 + 1) := by rw [rem_ok rfl] at z3; exact z3
 have main := run_ext em2 (o := 0) (3 * T2.length + 3) n2 (.alt .nil) (.alt (F.app .nil v2)) r0 s2 (by omega) ⟨rfl, z5, by rw [z6]; show T1.length + 0 + 1 = 0 + (T1.length + 1); omega, by rw [z7]; rfl⟩ (Nat.zero_le _) (Nat.zero_le _) (by show 3 * rem T2 r0 + 3 ≤ _; rw [rem_ok rfl]; show 3 * (T2.length - 0) + 3 ≤ _; omega) (fun h => by cases h) trivial q1 (fun _ h => absurd h (by decide));rcases main with ⟨_, o0⟩ | ⟨ma, u, v, m1, m2, m3⟩
 ·exact absurd rfl o0
 have hres : (run L (3 * L.length + 3) (.alt .nil) r0).1 = F.app v2 v := by rw [z4, m2]; rfl
 have hrun := (run_parse (n := ((n + 1 + m : Nat) : Int)) (show run L (3 * L.length + 3) (.alt .nil) r0 = _ from rfl)).2 (by rw [z4]; exact ma.e') (by rw [z4, ma.i, q2]; omega);rw [hrun, hres];have hu1 : u1 = v1 := by have h1 : F.app .nil u1 = F.app .nil v1 := w1.symm.trans z1;exact h1
 have hu2 : u2 = u := by have h1 : F.app .nil u2 = F.app .nil u := y1.symm.trans m1;exact h1
 subst hu1; subst hu2;have hv2 := len_na z2;have hv := len_na m3;have hl2 : 2 ≤ (F.app v2 v).len := by rw [app_lenX]; omega
 refine ⟨F.app v2 v, ?_, ?_, hl2⟩
 ·congr 1
  cases hc : F.app v2 v with
  | nil => rw [hc] at hl2; exact absurd hl2 (by decide)
  | cons x k r => cases r with
   | nil => rw [hc] at hl2; exact absurd hl2 (by simp [F.len])
   | cons _ _ _ => rfl
 ·rw [p3, q3, w1, y1];show _ = na (F.app (altsF (oneF 13 u1)) (altsF (oneF 13 u2)));rw [alts_one w2 w3, alts_one y2 y3, na_app, na_app, z2, m3]
end Go.Proofs.YtnpcombfgdbhkaaDoor.ext
end
section
namespace Go.Proofs.YtnpcombfgdbhkaaDoor.rsp
open sq
open Go tkp trp rpp setp setw
theorem app_nil : ∀ f : F, F.app f .nil = f
 | .nil => rfl
 | .cons x k r => by rw [F.app, app_nil r]
theorem jd : ∀ f g : F, (F.app f g).len = f.len + g.len
 | .nil, g => by simp [F.app, F.len]
 | .cons x k r, g => by rw [F.app, F.len, F.len, jd r g]; omega
end Go.Proofs.YtnpcombfgdbhkaaDoor.rsp
end
section
namespace Go.Proofs.YtnpcombfgdbhkaaDoor.rsw
open sq
open Go.Sort Go Go.RowKit Go.Maps tkp trp trw rpp rsp
open rpw (sees jB qU fC jP FSub vw jQ app_sub jH jm own_below qp)
def Old (h : Nat → Bool) (n : Nat) : Prop := ∀ i, h i = true → i < n
theorem Old.le {h : Nat → Bool} {n m : Nat} (H : Old h n) (hn : n ≤ m) : Old h m := fun i hi => Nat.lt_of_lt_of_le (H i hi) hn
def hx (h : Nat → Bool) (v : Value) (i : Nat) : Bool := h i || decide (v.ownBlock = some i)
theorem hx_old {h : Nat → Bool} {n m : Nat} {w : World} {v : Value} {e : TypeId} {s k : Nat} {xs : List Value} (H : Old h n) (hn : n ≤ m) (hr : w.ownsRow n e s v k xs) (hw : w.heap.size ≤ m) : Old (hx h v) m := fun i hi => by
 simp only [hx, Bool.or_eq_true, decide_eq_true_eq] at hi;rcases hi with hi | hi
 ·have := H i hi; omega
 ·have := own_below hr hi; omega
def OwnH (h : Nat → Bool) (n : Nat) (w : World) (v : Value) (f : F) : Prop := w.ownsRow n 31 12 v f.len (fC f) ∧ (f.len = 0 → v = nil3) ∧ FSub (sees (hx h v) w) f
theorem ownH_nil (h : Nat → Bool) (n : Nat) (w : World) : OwnH h n w nil3 .nil := ⟨World.ownsRow_nil w n _ 12, fun _ => rfl, trivial⟩
theorem sees_below {h : Nat → Bool} {w w' : World} (hb : Below w.heap.size w w') : ∀ a v, (sees h w).cell? a = some v → (sees h w').cell? a = some v := qU fun _ _ h1 hc => ⟨h1, trw.qf hb hc⟩
theorem qV {h : Nat → Bool} {w w' : World} (hb : Below w.heap.size w w') {t : Nd} (H : NdAt (sees h w) t) : NdAt (sees h w') t := qY (sees_below hb) H
theorem kidsH_below {h : Nat → Bool} {w w' : World} (hb : Below w.heap.size w w') {v : Value} {k : F} (H : jr (sees h w) v k) : jr (sees h w') v k := jh (sees_below hb) H
theorem sees_to {h : Nat → Bool} {w : World} {a : Addr} {v : Value} (hc : (sees h w).cell? a = some v) : w.cell? a = some v := (jB.1 hc).2
theorem zY {h : Nat → Bool} {w w' : World} {v : Value} {n : Nat} (hb : Below n w w') (hn : w.heap.size ≤ n) (hv : ∀ g, v.ownBlock = some g → n ≤ g) : ∀ a u, (sees h w).cell? a = some u → (sees (hx h v) w').cell? a = some u :=
 qU fun a u h1 hc => by have hl := cell_lt hc;refine ⟨?_, (World.cell?_of_block (hb.block a.block (by omega))).trans hc⟩;simp only [hx, h1, Bool.false_or, decide_eq_false_iff_not];intro e;have := hv _ e;omega
theorem fAt_C {w : World} {b : Nat} : ∀ {f : F} {o : Nat}, FAt w b o f → ∀ j u, (fC f)[j]? = some u → w.cell? ⟨b, o + j, none⟩ = some u
 | .nil, _, _, j, u, hj => by simp [fC] at hj
 | .cons x k r, o, H, j, u, hj => by
  by_cases h : j < 12
  ·exact H.1 j u (by rw [fC, List.getElem?_append_left (by simpa [ndC] using h)] at hj; exact hj)
  ·have := fAt_C (fAt_tail H) (j - 12) u (by rw [fC, List.getElem?_append_right (by simp [ndC]; omega)] at hj; simpa [ndC] using hj);rw [show o + j = o + 12 + (j - 12) by omega];exact this
theorem fAt_sub {w : World} {b : Nat} : ∀ {f : F} {o : Nat}, FAt w b o f → FSub w f
 | .nil, _, _ => trivial
 | .cons _ _ _, _, H => ⟨fAt_head H, fAt_sub (fAt_tail H)⟩
theorem fC_one {w : World} : ∀ {f : F}, FSub w f → ∀ u ∈ fC f, u.oneCell' = true
 | .nil, _, u, hu => by simp [fC] at hu
 | .cons x k r, H, u, hu => by
  rw [fC, List.mem_append] at hu;rcases hu with hu | hu
  ·exact qp H.1 u hu
  ·exact fC_one H.2 u hu
theorem own_fAtH {w w' : World} {g : Nat} : ∀ {f : F} {o : Nat}, FSub w f → (∀ a v, w.cell? a = some v → w'.cell? a = some v) → (∀ j v, (fC f)[j]? = some v → w'.cell? ⟨g, o + j, none⟩ = some v) → FAt w' g o f := fun h1 h2 h3 => rpw.vW h1 h2 h3
theorem ownH_kids {h : Nat → Bool} {n : Nat} {w : World} {v : Value} {f : F} (H : OwnH h n w v f) (ho : Old h n) : jr (sees h w) v f := by
 rcases H.1.2 with ⟨hv, h0⟩ | ⟨g, cap, cur, hv, hg, hh, h1, h2, _, _⟩
 ·exact ⟨none, 0, by rw [hv, h0], by omega, by decide, Or.inl h0⟩
 ·unfold maxLen at h2;refine ⟨_, cap, hv, h1, by omega, Or.inr ⟨g, 0, rfl, own_fAtH H.2.2 (qU fun a u k1 kc => ⟨?_, kc⟩) fun j u hj => jB.2 ⟨?_, ?_⟩⟩⟩
  ·simp only [hx, Bool.or_eq_false_iff] at k1;exact k1.1
  ·cases e : h g with
   | false => rfl
   | true => have := ho g e; omega
  ·rw [Nat.zero_add, World.ownsRow.cellAt (hv ▸ H.1) j (by have := (List.getElem?_eq_some_iff.1 hj).1; rw [jP] at this; exact this)];exact hj
theorem ownH_below {h : Nat → Bool} {n : Nat} {w w' : World} {v : Value} {f : F} (H : OwnH h n w v f) (hb : Below w.heap.size w w') : OwnH h n w' v f :=
 ⟨tkw.jJ H.1 (fun k hk => hb.block k (own_below H.1 hk).2), H.2.1, vw (sees_below hb) H.2.2⟩
theorem wpList_append_h {ops : Array Oper} {rest : List Oper} {o : Oper} {a : Act} {w : World} {Q : Exit → Act → World → Prop} (hgd : o.guard = none) (s x : Operand)
 (ho : o.op = .call { callee := .builtin .append, args := #[s, x], argTypes := #[29, 29] }) (h : Nat → Bool) (n : Nat) (v : Value) (f : F) (hs : a.eval s = v) (hown : OwnH h n w v f) (_hold : Old h n)
 (vx : Value) (gf : F) (hx' : a.eval x = vx) (hgf : jr (sees (hx h v) w) vx gf) (hlen : f.len + gf.len ≤ 200000) (hbase : n ≤ w.heap.size)
 (hq : ∀ v' w', OwnH h n w' v' (F.app f gf) → Below n w w' → wpList Tryd.prog ops Q rest (a.put o.dst v') w') :
 wpList Tryd.prog ops Q (o :: rest) a w := by
 obtain ⟨i0, hi, hz0, hz1, hz2⟩ := info_parts infoNd;by_cases h0 : gf.len = 0
 ·obtain ⟨ga, gc, rfl, hgc1, hgc2, _⟩ := hgf;have hgn : gf = .nil := by
   cases gf with
   | nil => rfl
   | cons _ _ _ => simp [F.len] at h0
  subst hgn;refine wpList_plain hgd fun K hK => ?_
  have hrun := setw.run_append_zero (P := Tryd.prog) (w := w) 29 o.type i0 Tryd.underlying29 hi hown.1 ga gc;unfold Oper.wp;simp [execOp, ho, resolve, invoke, builtin, hs, hx', hrun, Result.andThen, F.len];exact hK _ _ (hq v w (by rw [app_nil]; exact hown) (Below.refl _ _))
 ·obtain ⟨ga, gc, rfl, hgc1, hgc2, h1 | ⟨b, go, rfl, hfa⟩⟩ := hgf
  ·exact absurd h1 h0
  refine wpList_plain hgd fun K hK => ?_
  obtain ⟨v', w', hr, h2, h3, _, h5⟩ := run_append_own_at (P := Tryd.prog) w n 29 o.type 31 i0 _ 12 136 Tryd.underlying29 hi hz0 hz1 hz2 rfl (by decide) v f.len (fC f) hown.1 ⟨b, go, none⟩ gf.len gc (fC gf) (jP gf)
   (fun j u hj => by rw [add_plain];exact sees_to (fAt_C hfa j u hj)) (fC_one (fAt_sub hfa)) (by unfold maxLen; omega) (by omega) hbase
  unfold Oper.wp execOp;simp only [ho, resolve, invoke, builtin, Sem.run_bind, Sem.run_pure, Result.andThen_ok, List.map_toArray, List.map_cons, List.map_nil, hs, hx', hr];have hlt := World.ownsRow.lt hown.1;have hblk : ∀ q, q < w.heap.size → v.ownBlock ≠ some q → w'.heap[q]? = w.heap[q]? := fun q hq hne => h3.block q hq (fun e => hne e.symm)
  have hbw : Below n w w' := (Below.refl n w).grown h3 hbase (fun k hk => (hlt k hk).1);have hv' : ∀ g, v'.ownBlock = some g → v.ownBlock = some g ∨ w.heap.size ≤ g := fun g hg' => by
   rcases h5 with e | e
   ·exact Or.inl (e.symm.trans hg')
   ·rw [e] at hg';simp only [Option.some.injEq] at hg';exact Or.inr (by omega)
  have hK2 := hK _ _ (hq v' w' ⟨by rw [jd, jQ]; exact h2, fun e => by rw [jd] at e;exact absurd (show gf.len = 0 by omega) h0, ?_⟩ hbw)
  ·simpa [Oper.upon] using hK2
  ·have key : ∀ a u, hx h v a.block = false → w.cell? a = some u → hx h v' a.block = false ∧ w'.cell? a = some u := fun a u k1 kc => by
    simp only [hx, Bool.or_eq_false_iff, decide_eq_false_iff_not] at k1 ⊢;have hl := cell_lt kc;refine ⟨⟨k1.1, fun e => ?_⟩, (World.cell?_of_block (hblk a.block hl k1.2)).trans kc⟩;rcases hv' _ e with e2 | e2
    ·exact k1.2 e2
    ·omega
   exact app_sub (vw (qU key) hown.2.2) (vw (qU key) (fAt_sub hfa))
end Go.Proofs.YtnpcombfgdbhkaaDoor.rsw
end
section
namespace Go.Proofs.YtnpcombfgdbhkaaDoor.psm
open sq
open Go tkp trp rpp
open rtw (TkG Adj)
theorem a_size : ∀ f g : F, (F.app f g).size = f.size + g.size
 | .nil, g => by simp [F.app, F.size]
 | .cons _ _ r, g => by rw [F.app, F.size, a_size r g, F.size]; omega
theorem a_len : ∀ f g : F, (F.app f g).len = f.len + g.len
 | .nil, g => by simp [F.app, F.len]
 | .cons _ _ r, g => by rw [F.app, F.len, a_len r g, F.len]; omega
theorem a_deep : ∀ f g : F, (F.app f g).deep = max f.deep g.deep
 | .nil, g => by simp [F.app, F.deep]
 | .cons _ _ r, g => by rw [F.app, F.deep, a_deep r g, F.deep]; omega
theorem a_all : ∀ f g : F, allP f = true → allP g = true → allP (F.app f g) = true
 | .nil, _, _, h => h
 | .cons x k r, g, h, h2 => by rw [allP, Bool.and_eq_true, Bool.and_eq_true] at h;rw [F.app, allP, a_all r g h.2 h2, h.1.1, h.1.2];rfl
theorem one_gd {K : Int} {l : F} (hK : l.len ≠ 1 → mayP (lab K 0, l) = true) (h : allP l = true) : ∃ x k, oneF K l = F.one x k ∧ allP (oneF K l) = true ∧ (oneF K l).size ≤ l.size + 1 ∧ (l.len = 1 → (oneF K l).size = l.size) ∧ (oneF K l).deep ≤ l.deep + 1 := by
 match l, hK, h with
 | .cons x k .nil, _, h => exact ⟨x, k, rfl, h, Nat.le_succ _, fun _ => rfl, Nat.le_succ _⟩
 | .nil, hK, h => exact ⟨lab K 0, .nil, rfl, by simp only [oneF, allP, hK (by decide), Bool.and_self], by simp [oneF, F.size], fun e => (by cases e), by simp [oneF, F.deep]⟩
 | .cons x k (.cons y j r), hK, h =>
  refine ⟨lab K 0, .cons x k (.cons y j r), rfl, ?_, ?_, fun e => by simp [F.len] at e, ?_⟩
  ·rw [oneF, allP, hK (by simp [F.len]), h]
   ·rfl
   ·intro a b e; cases e
  ·rw [oneF]
   ·simp only [F.size]; omega
   ·intro a b e; cases e
  ·rw [oneF]
   ·simp only [F.deep]; omega
   ·intro a b e; cases e
def AccG (op : Nat) : Md → Prop
 | .alt acc => allP acc = true ∧ acc.deep ≤ 4 * (40 - op) + 3
 | .seq acc => allP acc = true ∧ acc.deep ≤ 4 * (40 - op) + 2
 | .thing => True
def Fu (L : List Tk) (n : Nat) (s : Ps) : Md → Prop
 | .alt _ => 3 * rem L s + 3 ≤ n
 | .seq _ => 3 * rem L s + 2 ≤ n
 | .thing => 3 * rem L s + 1 ≤ n
def Gd (L : List Tk) (s : Ps) (r : F × Ps) : Md → Prop
 | .thing => ∃ x k, r.1 = F.one x k ∧ allP r.1 = true ∧ r.1.size + 1 + 2 * s.i ≤ 2 * r.2.i ∧ r.1.deep ≤ 4 * (40 - s.op) + 1 ∧ ((L.getD s.i zeroT).kind = 10 → 5 ≤ (L.getD s.i zeroT).n → (L.getD s.i zeroT).n ≤ 8 → x.kind = 18)
 | .seq acc => ∃ x k, r.1 = F.one x k ∧ allP r.1 = true ∧ r.1.size + 2 * s.i ≤ acc.size + 2 * r.2.i + 1 ∧ r.1.deep ≤ 4 * (40 - s.op) + 3
 | .alt acc => allP r.1 = true ∧ acc.len < r.1.len ∧ r.1.size + r.1.len + 2 * s.i ≤ acc.size + acc.len + 2 * r.2.i + 2 ∧ r.1.deep ≤ 4 * (40 - s.op) + 3
theorem leaf_may {t : Tk} (h : TkG t) (h10 : t.kind ≠ 10) : mayP (leafL t nil3, .nil) = true := by
 obtain ⟨⟨hk1, hk2⟩, h1, h2, h4, h9, ha, hb, hc, hd, he⟩ := h;obtain ⟨kind, at_, to_, c, set, neg, n, m, mode, name, on, off⟩ := t;simp only at *;have hk : kind = 1 ∨ kind = 2 ∨ kind = 3 ∨ kind = 4 ∨ kind = 5 ∨ kind = 6 ∨ kind = 7 ∨ kind = 8 ∨ kind = 9 ∨ kind = 11 ∨ kind = 12 ∨ kind = 13 ∨ kind = 14 ∨ kind = 15 := by omega
 rcases hk with rfl | rfl | rfl | rfl | rfl | rfl | rfl | rfl | rfl | rfl | rfl | rfl | rfl | rfl <;> simp [mayP, leafL, leafK, leafP, F.len, wi] at * <;> first | exact h1 | exact h2 | exact h4 | exact hc | exact hd | exact he | omega
theorem may_seq {l : F} (h : l.len ≠ 1) : mayP (lab 12 0, l) = true := by simp [mayP, lab, h]
theorem may_alt {l : F} (h0 : 1 ≤ l.len) (h : l.len ≠ 1) : mayP (lab 13 0, l) = true := by simp only [mayP, lab];rw [if_neg (by decide), if_pos trivial];exact decide_eq_true (by omega)
theorem getD_at {L : List Tk} {i : Nat} {t : Tk} (h : L[i]? = some t) : L.getD i zeroT = t := by simp [List.getD, h]
theorem fail_0 {s : Ps} {e a : Int} (he : e ≠ 0) : ¬ (failS s e a).e = 0 := failS_e he
theorem group_gd {t : Tk} (ht : TkG t) (h10 : t.kind = 10) {look l : F} {s : Ps} (hl : allP l = true) (hl1 : 1 ≤ l.len) (hs : (zf t l s).e = 0)
 (hk : if t.n = 13 then ∃ x k, look = F.one x k ∧ allP look = true ∧ x.kind = 18 else look = .nil) {D C : Nat} (hd : l.deep ≤ D) (hd2 : look.deep ≤ D) (hz : l.size + l.len ≤ C + 2) :
 ∃ x k, jf t look l = F.one x k ∧ allP (jf t look l) = true ∧ (jf t look l).size ≤ look.size + C + 2 ∧ (jf t look l).deep ≤ D + 2 ∧ (5 ≤ t.n → t.n ≤ 8 → x.kind = 18) := by
 obtain ⟨x, k, ho, ha, hz1, hz2, hdp⟩ := one_gd (K := 13) (l := l) (fun h => may_alt hl1 h) hl;have hz3 : (oneF 13 l).size ≤ C + 1 := by
  by_cases h1 : l.len = 1
  ·have := hz2 h1; omega
  ·omega
 have hn := ht.ha h10;have hol : (oneF 13 l).len = 1 := by rw [ho]; rfl
 have mk : ∀ y : Lab, mayP (y, oneF 13 l) = true → (∃ x k, F.one y (oneF 13 l) = F.one x k ∧ allP (F.one y (oneF 13 l)) = true ∧ (F.one y (oneF 13 l)).size ≤ look.size + C + 2 ∧ (F.one y (oneF 13 l)).deep ≤ D + 2 ∧ (5 ≤ t.n → t.n ≤ 8 → y.kind = 18 → x.kind = 18)) := fun y hy =>
  ⟨y, _, rfl, by rw [F.one, allP, hy, ha]; rfl, by simp only [F.one, F.size]; omega, by simp only [F.one, F.deep]; omega, fun _ _ h => h⟩
 unfold jf;by_cases h1 : t.n = 1
 ·rw [if_pos h1];obtain ⟨x, k, a, b, c, d, _⟩ := mk { lab 14 t.at_ with name := t.name } (by simp [mayP, lab, hol]);exact ⟨x, k, a, b, c, d, fun e => by omega⟩
 rw [if_neg h1];by_cases h2 : t.n = 2
 ·rw [if_pos h2];obtain ⟨x, k, a, b, c, d, _⟩ := mk { lab 15 t.at_ with on := t.on, off := t.off } (by simp [mayP, lab, hol]);exact ⟨x, k, a, b, c, d, fun e => by omega⟩
 rw [if_neg h2];by_cases h4 : t.n = 4
 ·rw [if_pos h4];obtain ⟨x, k, a, b, c, d, _⟩ := mk (lab 17 t.at_) (by simp [mayP, lab, hol]);exact ⟨x, k, a, b, c, d, fun e => by omega⟩
 rw [if_neg h4];by_cases h5 : t.n = 5 ∨ t.n = 6 ∨ t.n = 7 ∨ t.n = 8
 ·rw [if_pos h5];obtain ⟨x, k, a, b, c, d, e⟩ := mk { lab 18 t.at_ with n := t.n } (by simp [mayP, lab, hol, wi]; omega);exact ⟨x, k, a, b, c, d, fun e1 e2 => e e1 e2 rfl⟩
 rw [if_neg h5];by_cases h3 : t.n = 3
 ·rw [if_pos h3];refine ⟨lab 16 t.at_, l, rfl, ?_, by simp only [F.one, F.size]; omega, by simp only [F.one, F.deep]; omega, fun e => by omega⟩;rw [F.one, allP, hl];simp only [mayP, lab, allP];rw [if_neg (by decide), if_neg (by decide), if_pos trivial];simp [hl1]
 rw [if_neg h3];have hb := ht.hb h10 (by omega);have hc : condT t = true := by simp only [condT, Bool.not_eq_true', Bool.and_eq_false_iff, decide_eq_false_iff_not]; omega
 have hll : ¬ (2 < l.len ∨ (1 < l.len ∧ t.n = 12)) := fun h => by unfold zf at hs;rw [if_pos ⟨hc, h⟩] at hs;exact fail_0 (by decide) hs
 refine ⟨_, F.app look l, rfl, ?_, by simp only [F.one, F.size, a_size]; omega, by simp only [F.one, F.deep, a_deep]; omega, fun e => by omega⟩;have hla : allP look = true := by
  split at hk
  ·obtain ⟨_, _, _, h, _⟩ := hk;exact h
  ·rw [hk]; rfl
 rw [F.one, allP, a_all _ _ hla hl];have hcd : condP { lab 19 t.at_ with n := t.n, m := t.m, mode := t.mode, name := t.name } (F.app look l) = true := by
  simp only [condP, wi, a_len];by_cases h13 : t.n = 13
  ·rw [if_pos h13] at hk;obtain ⟨y, j, rfl, _, hy⟩ := hk;rw [if_neg (by omega), if_neg (by omega), if_pos h13];have e : (F.app (F.one y j) l).hd = 18 := hy;have e2 : (F.one y j).len = 1 := rfl;rw [e, e2];simp only [decide_true, Bool.and_true, Bool.and_eq_true, decide_eq_true_eq];omega
  ·rw [if_neg h13] at hk;subst hk;have e : F.nil.len = 0 := rfl;rw [e];by_cases h12 : t.n = 12
   ·rw [if_neg (by omega), if_pos h12];simp only [Bool.and_eq_true, decide_eq_true_eq];omega
   ·rw [if_pos (by omega)];simp only [Bool.and_eq_true, decide_eq_true_eq];omega
 simp only [mayP, lab] at hcd ⊢;rw [if_neg (by decide), if_neg (by decide), if_neg (by decide), if_neg (by decide), if_neg (by decide), if_pos trivial];rw [hcd];rfl
end Go.Proofs.YtnpcombfgdbhkaaDoor.psm
end
