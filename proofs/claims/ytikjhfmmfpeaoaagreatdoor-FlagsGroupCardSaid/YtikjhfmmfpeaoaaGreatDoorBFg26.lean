/- T -/
import Derived.Test.YtikjhfmmfpeaoaaGreatDoorBFg24
import Derived.Test.YtikjhfmmfpeaoaaGreatDoorBFg25
set_option maxHeartbeats 16000000
set_option maxRecDepth 1000000
namespace Go.Proofs.YtikjhfmmfpeaoaaGreatDoor
section
namespace ext
open sq
open Go tkp trp rpp
def na : F → F
 | .nil => .nil
 | .cons x k r => .cons { x with at_ := 0, sv := nil3, kv := nil3 } (na k) (na r)
theorem na_app : ∀ f g : F, na (F.app f g) = F.app (na f) (na g)
 | .nil, _ => rfl
 | .cons x k r, g => by simp only [F.app, na, na_app r g]
theorem na_len : ∀ f : F, (na f).len = f.len
 | .nil => rfl
 | .cons x k r => by simp only [na, F.len, na_len r]
theorem len_na {f g : F} (h : na f = na g) : f.len = g.len := by rw [← na_len f, h, na_len g]
theorem hd_na {f g : F} (h : na f = na g) : f.hd = g.hd := by
 have e : ∀ f : F, (na f).hd = f.hd := fun f => by cases f <;> rfl
 rw [← e f, h, e g]
theorem na_oneF {K : Int} {f g : F} (h : na f = na g) : na (oneF K f) = na (oneF K g) := by
 have e : ∀ f : F, na (oneF K f) = (match na f with | .cons x k .nil => .cons x k .nil | l => .cons (lab K 0) l .nil) := fun f => by
  cases f with
  | nil => rfl
  | cons x k r => cases r <;> rfl
 rw [e f, e g, h]
theorem same_na : ∀ f g : F, na f = na g → sameF f g = true
 | .nil, .nil, _ => rfl
 | .nil, .cons _ _ _, h => by cases h
 | .cons _ _ _, .nil, h => by cases h
 | .cons x k r, .cons y k' r', h => by simp only [na, F.cons.injEq, Lab.mk.injEq] at h;obtain ⟨⟨e1, _, e3, _, e5, e6, e7, e8, e9, e10, e11, e12, _⟩, hk, hr⟩ := h;simp only [sameF, labEq, e1, e3, e5, e6, e7, e8, e9, e10, e11, e12, len_na hk, same_na k k' hk, same_na r r' hr, decide_true, beq_self_eq_true, Bool.and_true]
theorem same_na1 {x y : Lab} {k j : F} (h : na (F.one x k) = na (F.one y j)) : sameT (x, k) (y, j) = true := by have := same_na _ _ h;simpa only [F.one, sameF, Bool.and_true, sameT] using this
theorem app_assocX : ∀ f g h : F, F.app (F.app f g) h = F.app f (F.app g h)
 | .nil, _, _ => rfl
 | .cons x k r, g, h => by simp only [F.app, app_assocX r g h]
theorem run_err (L : List Tk) {s : Ps} (h : s.e ≠ 0) : ∀ (n : Nat) (acc : F), (run L n (.seq acc) s).2 = s ∧ (run L n (.alt acc) s).2 = s := by
 have hk : kindS L s = 0 := by unfold kindS; rw [if_pos h]
 have h1 : ∀ n acc, (run L n (.seq acc) s).2 = s := fun n acc => by
  cases n with
  | zero => rfl
  | succ n => rw [run, if_pos (Or.inl hk)]
 intro n acc;refine ⟨h1 n acc, ?_⟩;cases n with
 | zero => rfl
 | succ n =>
  rw [run];simp only [h1 n .nil, hk];rw [if_neg (by decide)]
structure Emb (S L : List Tk) (a d : Nat) (K : Int) : Prop where
 t : ∀ i, i < S.length → L[i + a]? = (S[i]?).map (shT d)
 e : (L[S.length + a]? = none ∧ K = 0) ∨ ∃ t, L[S.length + a]? = some t ∧ t.kind = K
 k : K = 0 ∨ K = 7 ∨ K = 8
theorem emb_kind {S L : List Tk} {a d : Nat} {K : Int} (h : Emb S L a d K) {s s' : Ps} (h1 : s.e = 0) (h2 : s'.e = 0) (hi : s'.i = s.i + a) (hl : s.i < S.length) : kindS L s' = kindS S s := by unfold kindS;rw [if_neg (by simp [h2]), if_neg (by simp [h1]), hi, h.t _ hl, List.getElem?_eq_getElem hl];rfl
theorem emb_end {S L : List Tk} {a d : Nat} {K : Int} (h : Emb S L a d K) {s s' : Ps} (h2 : s'.e = 0) (hi : s'.i = s.i + a) (hl : s.i = S.length) : kindS L s' = K := by
 unfold kindS;rw [if_neg (by simp [h2]), hi, hl];rcases h.e with ⟨e, rfl⟩ | ⟨t, e, e2⟩
 ·rw [e]
 ·rw [e]; exact e2
theorem emb_get {S L : List Tk} {a d : Nat} {K : Int} (h : Emb S L a d K) {i j : Nat} (hi : j = i + a) (hl : i < S.length) : L.getD j zeroT = shT d (S.getD i zeroT) := by subst hi;rw [List.getD_eq_getElem?_getD, List.getD_eq_getElem?_getD, h.t _ hl, List.getElem?_eq_getElem hl];rfl
theorem kind_endX {S : List Tk} {s : Ps} (hl : s.i = S.length) : kindS S s = 0 := by
 unfold kindS;split
 ·rfl
 ·rw [List.getElem?_eq_none (by omega)]
def Fue (L : List Tk) (n : Nat) (s : Ps) : Md → Prop
 | .alt _ => 3 * rem L s + 3 ≤ n
 | .seq _ => 3 * rem L s + 2 ≤ n
 | .thing => 3 * rem L s + 1 ≤ n
def MdE : Md → Md → Prop
 | .alt _, .alt _ => True
 | .seq x, .seq y => na y = na x
 | .thing, .thing => True
 | _, _ => False
def ResE : Md → Md → F → F → Prop
 | .alt x, .alt y, f, g => ∃ u v, f = F.app x u ∧ g = F.app y v ∧ na v = na u
 | _, _, f, g => na g = na f
structure AtX (a o : Nat) (s s' : Ps) : Prop where
 e : s.e = 0
 e' : s'.e = 0
 i : s'.i = s.i + a
 o : s'.op = s.op + o
theorem at_step {a o : Nat} {s s' : Ps} (h : AtX a o s s') : AtX a o { s with i := s.i + 1 } { s' with i := s'.i + 1 } := ⟨h.e, h.e', by show s'.i + 1 = s.i + 1 + a; rw [h.i]; omega, h.o⟩
theorem na_leaf {t : Tk} {d : Nat} {f g : F} (h : na g = na f) : na (F.one (leafL (shT d t) nil3) g) = na (F.one (leafL t nil3) f) := by simp only [F.one, na, h, leafL, shT]
theorem na_rep {t : Tk} {d : Nat} {f g : F} (h : na g = na f) : na (repF (shT d t) g) = na (repF t f) := by simp only [repF, F.one, na, h, lab, shT]
theorem na_group {t : Tk} {d : Nat} {q q' l l' : F} (hq : na q' = na q) (hl : na l' = na l) : na (jf (shT d t) q' l') = na (jf t q l) := by
 have h1 := na_oneF (K := 13) hl;have h2 : na (F.app q' l') = na (F.app q l) := by rw [na_app, na_app, hq, hl]
 unfold jf;show na (if t.n = 1 then _ else if t.n = 2 then _ else if t.n = 4 then _ else if t.n = 5 ∨ t.n = 6 ∨ t.n = 7 ∨ t.n = 8 then _ else if t.n = 3 then _ else _) = _
 repeat' split
 all_goals simp only [F.one, na, lab, shT, h1, h2, hl]
theorem run_ext {S L : List Tk} {a d : Nat} {K : Int} (h : Emb S L a d K) {o : Nat} : ∀ (n n' : Nat) (md md' : Md) (s s' : Ps), n ≤ n' → AtX a o s s' → s.i ≤ S.length → s.op ≤ 40 → Fue S n s md → (md = .thing → s.i < S.length) → MdE md md' →
 (run S n md s).2.e = 0 → ((∃ x, md = .alt x) → K = 7 → (run S n md s).2.i < S.length) →
 ((run L n' md' s').2.e = 11 ∧ o ≠ 0) ∨ (AtX a o (run S n md s).2 (run L n' md' s').2 ∧ ResE md md' (run S n md s).1 (run L n' md' s').1)
 | 0, _, md, _, _, _, _, _, _, _, hf, _, _, _, _ => by cases md <;> · unfold Fue at hf; omega
 | n + 1, 0, _, _, _, _, hn, _, _, _, _, _, _, _, _ => by omega
 | n + 1, n' + 1, .alt x, md', s, s', hn, hs, hi, hop, hf, _, hm, he, hK => by
  obtain ⟨y, rfl⟩ : ∃ y, md' = .alt y := by cases md' <;> first | exact ⟨_, rfl⟩ | exact hm.elim
  have hf1 : 3 * rem S s + 3 ≤ n + 1 := hf;have iv := (zq S n (.seq .nil) s hi hop (fun h => by cases h)).1;have ih := run_ext h n n' (.seq .nil) (.seq .nil) s s' (by omega) hs hi hop (show 3 * rem S s + 2 ≤ n by omega) (fun h => by cases h) rfl;have hK2 := hK ⟨x, rfl⟩;rw [run] at he hK2 ⊢;rw [run];simp only at he hK2 ⊢;generalize run S n (.seq .nil) s = r at *;generalize hr' : run L n' (.seq .nil) s' = r' at *;rw [rem_ok hs.e] at hf1;by_cases h7 : kindS S r.2 = 7
  ·rw [if_pos h7] at he hK2 ⊢;obtain ⟨re, ri, _⟩ := zW (L := S) (s := r.2) (by rw [h7]; decide);rcases ih re (fun h => by obtain ⟨_, h⟩ := h; cases h) with ⟨e11, o0⟩ | ⟨ha, hna⟩
   ·left;have : kindS L r'.2 = 0 := by unfold kindS; rw [if_pos (by rw [e11]; decide)]
    rw [if_neg (by rw [this]; decide)];exact ⟨e11, o0⟩
   ·have hri := iv.i;rw [if_pos (by rw [emb_kind h ha.e ha.e' ha.i ri]; exact h7)];rcases run_ext h n n' (.alt (F.app x r.1)) (.alt (F.app y r'.1)) _ _ (by omega) (at_step ha) ri iv.op (by
     show 3 * rem S { r.2 with i := r.2.i + 1 } + 3 ≤ n;rw [rem_ok (s := { r.2 with i := r.2.i + 1 }) re];show 3 * (S.length - (r.2.i + 1)) + 3 ≤ n;omega) (fun h => by cases h) trivial he (fun _ => hK2) with g | ⟨g1, u, v, g2, g3, g4⟩
    ·exact Or.inl g
    ·right;have hna' : na r'.1 = na r.1 := hna;refine ⟨g1, F.app r.1 u, F.app r'.1 v, by rw [g2, app_assocX], by rw [g3, app_assocX], by rw [na_app, na_app, hna', g4]⟩
  ·rw [if_neg h7] at he hK2 ⊢;rcases ih he (fun h => by obtain ⟨_, h⟩ := h; cases h) with ⟨e11, o0⟩ | ⟨ha, hna⟩
   ·left;have : kindS L r'.2 = 0 := by unfold kindS; rw [if_pos (by rw [e11]; decide)]
    rw [if_neg (by rw [this]; decide)];exact ⟨e11, o0⟩
   ·right;have : ¬ kindS L r'.2 = 7 := by
     by_cases hl : r.2.i < S.length
     ·rw [emb_kind h ha.e ha.e' ha.i hl]; exact h7
     ·rw [emb_end h ha.e' ha.i (by have := iv.n; omega)];intro k7;exact hl (hK2 k7)
    rw [if_neg this];exact ⟨ha, r.1, r'.1, rfl, rfl, hna⟩
 | n + 1, n' + 1, .seq x, md', s, s', hn, hs, hi, hop, hf, _, hm, he, hK => by
  obtain ⟨y, rfl⟩ : ∃ y, md' = .seq y := by cases md' <;> first | exact ⟨_, rfl⟩ | exact hm.elim
  have hm' : na y = na x := hm;have hf1 : 3 * rem S s + 2 ≤ n + 1 := hf;rw [run] at he ⊢;rw [run];by_cases h0 : kindS S s = 0 ∨ kindS S s = 7 ∨ kindS S s = 8
  ·rw [if_pos h0] at he ⊢;have : kindS L s' = 0 ∨ kindS L s' = 7 ∨ kindS L s' = 8 := by
    by_cases hl : s.i < S.length
    ·rw [emb_kind h hs.e hs.e' hs.i hl]; exact h0
    ·rw [emb_end h hs.e' hs.i (by omega)]; exact h.k
   rw [if_pos this];exact Or.inr ⟨hs, na_oneF hm'⟩
  ·rw [if_neg h0] at he ⊢;obtain ⟨_, hsi, _⟩ := zW (L := S) (s := s) (fun h => h0 (Or.inl h));have hkk := emb_kind h hs.e hs.e' hs.i hsi;rw [if_neg (by rw [hkk]; exact h0)];by_cases h9 : kindS S s = 9
   ·rw [if_pos h9] at he;exact absurd he (failS_e (by decide))
   rw [if_neg h9] at he ⊢;rw [if_neg (by rw [hkk]; exact h9)];have iv := (zq S n .thing s hi hop (fun _ => ⟨hs.e, hsi⟩)).1;have hlt : n ≠ 0 → rem S (run S n .thing s).2 < rem S s := fun hn => run_rem hn hop hs.e hsi
   have ih := run_ext h n n' .thing .thing s s' (by omega) hs hi hop (show 3 * rem S s + 1 ≤ n by omega) (fun _ => hsi) trivial;simp only at he ⊢;generalize run S n .thing s = r at *;generalize run L n' .thing s' = r' at *;have hre : r.2.e = 0 := by
    by_cases hx : r.2.e = 0
    ·exact hx
    ·exfalso;have hk0 : kindS S r.2 = 0 := by unfold kindS; rw [if_pos hx]
     rw [if_neg (by rw [hk0]; exact fun x => absurd x.1 (by decide)), (run_err S hx n _).1] at he;exact hx he
   have hn0 : n ≠ 0 := by rw [rem_ok hs.e] at hf1; omega
   have hlt := hlt hn0;rcases ih hre (fun h => by obtain ⟨_, h⟩ := h; cases h) with ⟨e11, o0⟩ | ⟨ha, hna⟩
   ·left;have hk0 : kindS L r'.2 = 0 := by unfold kindS; rw [if_pos (by rw [e11]; decide)]
    rw [if_neg (by rw [hk0]; exact fun x => absurd x.1 (by decide)), (run_err L (by rw [e11]; decide) n' _).1];exact ⟨e11, o0⟩
   ·have hna' : na r'.1 = na r.1 := hna;by_cases hc : kindS S r.2 = 9 ∧ repK r.1.hd = true
    ·obtain ⟨_, ri, _⟩ := zW (L := S) (s := r.2) (by rw [hc.1]; decide);rw [if_pos hc] at he ⊢;rw [if_pos ⟨by rw [emb_kind h ha.e ha.e' ha.i ri]; exact hc.1, by rw [hd_na hna']; exact hc.2⟩];have hfu : 3 * rem S { r.2 with i := r.2.i + 1 } + 2 ≤ n := by have : rem S { r.2 with i := r.2.i + 1 } ≤ rem S r.2 := rem_le S (fun e => e) (Nat.le_succ _);omega
     refine run_ext h n n' (.seq _) (.seq _) _ _ (by omega) (at_step ha) ri iv.op hfu (fun h => by cases h) ?_ he (fun h => by obtain ⟨_, h⟩ := h; cases h);show na (F.app y _) = na (F.app x _);rw [na_app, na_app, hm', emb_get h ha.i ri, na_rep hna']
    ·rw [if_neg hc] at he ⊢;have hc' : ¬ (kindS L r'.2 = 9 ∧ repK r'.1.hd = true) := by
      rintro ⟨c1, c2⟩;by_cases hl : r.2.i < S.length
      ·rw [emb_kind h ha.e ha.e' ha.i hl] at c1;rw [hd_na hna'] at c2;exact hc ⟨c1, c2⟩
      ·rw [emb_end h ha.e' ha.i (by have := iv.n; omega)] at c1;rcases h.k with k | k | k <;> · rw [k] at c1; exact absurd c1 (by decide)
     rw [if_neg hc'];refine run_ext h n n' (.seq _) (.seq _) _ _ (by omega) ha iv.n iv.op (show 3 * rem S r.2 + 2 ≤ n by omega) (fun h => by cases h) ?_ he (fun h => by obtain ⟨_, h⟩ := h; cases h);show na (F.app y _) = na (F.app x _);rw [na_app, na_app, hm', hna']
 | n + 1, n' + 1, .thing, md', s, s', hn, hs, hi, hop, hf, hth, hm, he, hK => by
  obtain rfl : md' = .thing := by cases md' <;> first | rfl | exact hm.elim
  have hsi := hth rfl;have hf1 : 3 * rem S s + 1 ≤ n + 1 := hf;rw [rem_ok hs.e] at hf1;rw [run] at he ⊢;rw [run];simp only at he ⊢;rw [emb_get h hs.i hsi];generalize S.getD s.i zeroT = t at *;by_cases h10 : t.kind ≠ 10
  ·rw [if_pos h10] at he ⊢;rw [if_pos (show (shT d t).kind ≠ 10 from h10)];exact Or.inr ⟨at_step hs, na_leaf rfl⟩
  rw [if_neg h10] at he ⊢;rw [if_neg (show ¬ (shT d t).kind ≠ 10 from h10)];by_cases h40 : s.op = 40
  ·rw [if_pos h40] at he;exact absurd he (failS_e (by decide))
  rw [if_neg h40] at he ⊢;by_cases h40' : s'.op = 40
  ·rw [if_pos h40'];left;have ho := hs.o;refine ⟨?_, by omega⟩;unfold failS;rw [if_pos hs.e']
  rw [if_neg h40'];have a1 : AtX a o ⟨s.i + 1, s.op + 1, s.e, s.at_⟩ ⟨s'.i + 1, s'.op + 1, s'.e, s'.at_⟩ := ⟨hs.e, hs.e', by show s'.i + 1 = s.i + 1 + a; rw [hs.i]; omega, by show s'.op + 1 = s.op + 1 + o; rw [hs.o]; omega⟩;have g0 : (⟨s.i + 1, s.op + 1, s.e, s.at_⟩ : Ps).i ≤ S.length := hsi;have g1 : (⟨s.i + 1, s.op + 1, s.e, s.at_⟩ : Ps).op ≤ 40 := by simp only; omega
  have gr : rem S ⟨s.i + 1, s.op + 1, s.e, s.at_⟩ = S.length - (s.i + 1) := rem_ok (s := ⟨s.i + 1, s.op + 1, s.e, s.at_⟩) hs.e
  -- the look of a condition
  obtain ⟨q, hq⟩ : ∃ q, (if t.n = 13 ∧ kindS S ⟨s.i + 1, s.op + 1, s.e, s.at_⟩ = 10 then run S n .thing ⟨s.i + 1, s.op + 1, s.e, s.at_⟩ else (.nil, ⟨s.i + 1, s.op + 1, s.e, s.at_⟩)) = q := ⟨_, rfl⟩;obtain ⟨q', hq'⟩ : ∃ q', (if (shT d t).n = 13 ∧ kindS L ⟨s'.i + 1, s'.op + 1, s'.e, s'.at_⟩ = 10 then run L n' .thing ⟨s'.i + 1, s'.op + 1, s'.e, s'.at_⟩ else (.nil, ⟨s'.i + 1, s'.op + 1, s'.e, s'.at_⟩)) = q' := ⟨_, rfl⟩;have hn13 : (shT d t).n = t.n := rfl;rw [hn13] at hq';rw [hn13, hq'] ;rw [hq] at he ⊢;have hQ : Inv S ⟨s.i + 1, s.op + 1, s.e, s.at_⟩ q.2 ∧ (q.2.e = 0 → ((q'.2.e = 11 ∧ o ≠ 0) ∨ (AtX a o q.2 q'.2 ∧ na q'.1 = na q.1))) := by
   by_cases hk : t.n = 13 ∧ kindS S ⟨s.i + 1, s.op + 1, s.e, s.at_⟩ = 10
   ·obtain ⟨k1, k2, _⟩ := zW (L := S) (s := ⟨s.i + 1, s.op + 1, s.e, s.at_⟩) (by rw [hk.2]; decide);rw [if_pos hk] at hq;rw [if_pos ⟨hk.1, by rw [emb_kind h a1.e a1.e' a1.i k2]; exact hk.2⟩] at hq';subst hq; subst hq';refine ⟨(zq S n .thing _ g0 g1 (fun _ => ⟨k1, k2⟩)).1, fun e0 => ?_⟩;exact run_ext h n n' .thing .thing _ _ (by omega) a1 g0 g1 (by show 3 * rem S _ + 1 ≤ n; rw [gr]; omega) (fun _ => k2) trivial e0 (fun h => by obtain ⟨_, h⟩ := h; cases h)
   ·rw [if_neg hk] at hq;have hk' : ¬ (t.n = 13 ∧ kindS L ⟨s'.i + 1, s'.op + 1, s'.e, s'.at_⟩ = 10) := by
     rintro ⟨c1, c2⟩;by_cases hl : s.i + 1 < S.length
     ·rw [emb_kind h a1.e a1.e' a1.i hl] at c2;exact hk ⟨c1, c2⟩
     ·rw [emb_end h a1.e' a1.i (by show s.i + 1 = S.length; omega)] at c2;rcases h.k with k | k | k <;> · rw [k] at c2; exact absurd c2 (by decide)
    rw [if_neg hk'] at hq';subst hq; subst hq';exact ⟨Inv.refl g0 g1, fun _ => Or.inr ⟨a1, rfl⟩⟩
  clear hq hq';obtain ⟨iq, hQ⟩ := hQ;have iv := (zq S n (.alt .nil) q.2 iq.n iq.op (fun h => by cases h)).1;have ih := run_ext h (o := o) n n' (.alt .nil) (.alt .nil) q.2 q'.2;have hqi := iq.i;generalize hr : run S n (.alt .nil) q.2 = r at *;have her := fun (x : q'.2.e ≠ 0) => (run_err L x n' .nil).2
  generalize hr' : run L n' (.alt .nil) q'.2 = r' at *;by_cases h8 : kindS S r.2 ≠ 8
  ·rw [if_pos h8] at he;exact absurd he (failS_e (by decide))
  rw [if_neg h8] at he ⊢;obtain ⟨re, ri, _⟩ := zW (L := S) (s := r.2) (by
   intro e;apply h8;rw [e];decide)
  have qe := (iv.e re).1;have fail11 : r'.2.e = 11 → (if kindS L r'.2 ≠ 8 then (zeroF, failS r'.2 20 (-1)) else (jf (shT d t) q'.1 r'.1, zf (shT d t) r'.1 ⟨r'.2.i + 1, r'.2.op - 1, r'.2.e, r'.2.at_⟩)).2.e = 11 := fun e11 => by
   have hk0 : kindS L r'.2 = 0 := by unfold kindS; rw [if_pos (by rw [e11]; decide)]
   rw [if_pos (by rw [hk0]; decide)];unfold failS;rw [if_neg (by rw [e11]; decide)];exact e11
  rcases hQ qe with ⟨e11, o0⟩ | ⟨aq, nq⟩
  ·left;exact ⟨fail11 (by rw [her (by rw [e11]; decide)]; exact e11), o0⟩
  have qi : s.i + 1 ≤ q.2.i := hqi;rcases ih (by omega) aq iq.n iq.op (by show 3 * rem S q.2 + 3 ≤ n; rw [rem_ok qe]; omega) (fun h => by cases h) trivial re (fun _ _ => ri) with ⟨e11, o0⟩ | ⟨ar, u, v, r1, r2, r3⟩
  ·left;exact ⟨fail11 e11, o0⟩
  right;have hna : na r'.1 = na r.1 := by rw [r1, r2]; exact r3
  rw [if_neg (by rw [emb_kind h ar.e ar.e' ar.i ri]; exact h8)];have hgs : zf t r.1 ⟨r.2.i + 1, r.2.op - 1, r.2.e, r.2.at_⟩ = ⟨r.2.i + 1, r.2.op - 1, r.2.e, r.2.at_⟩ ∧ ¬ (condT t = true ∧ (2 < r.1.len ∨ (1 < r.1.len ∧ t.n = 12))) := by
   unfold zf at he ⊢;by_cases hc : condT t = true ∧ (2 < r.1.len ∨ (1 < r.1.len ∧ t.n = 12))
   ·rw [if_pos hc] at he;exact absurd he (failS_e (by decide))
   ·rw [if_neg hc];exact ⟨rfl, hc⟩
  have hgs' : zf (shT d t) r'.1 ⟨r'.2.i + 1, r'.2.op - 1, r'.2.e, r'.2.at_⟩ = ⟨r'.2.i + 1, r'.2.op - 1, r'.2.e, r'.2.at_⟩ := by unfold zf;rw [if_neg];show ¬ (condT t = true ∧ (2 < r'.1.len ∨ (1 < r'.1.len ∧ t.n = 12)));rw [len_na hna];exact hgs.2
  have hop1 : r.2.op = q.2.op := (iv.e re).2;have hop2 : q.2.op = s.op + 1 := (iq.e qe).2;rw [hgs.1, hgs'];have aro := ar.o;refine ⟨⟨ar.e, ar.e', by show r'.2.i + 1 = r.2.i + 1 + a; rw [ar.i]; omega, by show r'.2.op - 1 = r.2.op - 1 + o; omega⟩, ?_⟩;exact na_group nq hna
end ext
end
section
namespace ext
open sq
open Go utfp tkp rtp trp rpp
theorem has_notX {p : Pt} {c : UInt8} {l : List UInt8} {i : Nat} (h : p.g i ≠ (c.toNat : Int)) : p.has (c :: l) i = false := by rw [Pt.has, decide_eq_false h];simp
theorem has_is {p : Pt} {c : UInt8} {i : Nat} (hi : i < p.n) (h : p.g i = (c.toNat : Int)) : p.has [c] i = true := by show (decide (i < p.n) && decide (p.g i = (c.toNat : Int)) && true) = true;rw [decide_eq_true hi, decide_eq_true h];rfl
theorem lex_tok {p : Pt} {k i to_ : Nat} {T : List Tk} {t : Tk} (hi : i < p.n) (h : p.g i ≠ 92) (e : tokR p i = .ok (some t, to_)) : lexF p (k + 1) false T i = lexF p k false (T ++ [t]) to_ := by rw [lexF, if_neg (by omega), if_neg (by simp), has_notX (c := 92) h, if_neg (by simp), e]
theorem lex_end {p : Pt} {k i : Nat} {b : Bool} {T : List Tk} (hi : p.n ≤ i) : lexF p k b T i = .ok T := by
 cases k with
 | zero => rfl
 | succ k => rw [lexF, if_pos hi]
theorem one_F (K : Int) (l : F) : ∃ x k, oneF K l = F.one x k := by
 cases l with
 | nil => exact ⟨_, _, rfl⟩
 | cons x k r => cases r with
  | nil => exact ⟨_, _, rfl⟩
  | cons _ _ _ => exact ⟨_, _, rfl⟩
def r0 : Ps := { i := 0 }
def finX (L : List Tk) (n : Int) (r : F × Ps) : R F :=
 if (if r.2.e = 0 ∧ r.2.i < L.length then failS r.2 31 (L.getD r.2.i zeroT).at_ else r.2).e = 20 then .error (20, n)
 else if (if r.2.e = 0 ∧ r.2.i < L.length then failS r.2 31 (L.getD r.2.i zeroT).at_ else r.2).e ≠ 0 then .error ((if r.2.e = 0 ∧ r.2.i < L.length then failS r.2 31 (L.getD r.2.i zeroT).at_ else r.2).e, (if r.2.e = 0 ∧ r.2.i < L.length then failS r.2 31 (L.getD r.2.i zeroT).at_ else r.2).at_)
 else .ok (oneF 13 r.1)
theorem parse_fin (L : List Tk) (n : Int) : parseP L n = finX L n (run L (3 * L.length + 3) (.alt .nil) r0) := rfl
theorem parse_run {L : List Tk} {n : Int} {f : F} (e : parseP L n = .ok f) : (run L (3 * L.length + 3) (.alt .nil) r0).2.e = 0 ∧ (run L (3 * L.length + 3) (.alt .nil) r0).2.i = L.length ∧ f = oneF 13 (run L (3 * L.length + 3) (.alt .nil) r0).1 := by
 have iv := (zq L (3 * L.length + 3) (.alt .nil) r0 (Nat.zero_le _) (Nat.zero_le _) (fun h => by cases h)).1;rw [parse_fin] at e;generalize run L (3 * L.length + 3) (.alt .nil) r0 = r at *;unfold finX at e;by_cases h1 : r.2.e = 0 ∧ r.2.i < L.length
 ·rw [if_pos h1] at e;have h31 : (failS r.2 31 (L.getD r.2.i zeroT).at_).e = 31 := by unfold failS; rw [if_pos h1.1]
  rw [h31, if_neg (by decide), if_pos (by decide)] at e;cases e
 ·rw [if_neg h1] at e;by_cases h2 : r.2.e = 20
  ·rw [if_pos h2] at e; cases e
  rw [if_neg h2] at e;by_cases h3 : r.2.e = 0
  ·rw [if_neg (by simp [h3])] at e;cases e;have := iv.n;exact ⟨h3, by omega, rfl⟩
  ·rw [if_pos h3] at e; cases e
theorem run_parse {L : List Tk} {n : Int} {r : F × Ps} (e : run L (3 * L.length + 3) (.alt .nil) r0 = r) : (r.2.e = 11 → parseP L n = .error (11, r.2.at_)) ∧ (r.2.e = 0 → r.2.i = L.length → parseP L n = .ok (oneF 13 r.1)) := by
 rw [parse_fin, e];unfold finX;constructor
 ·intro h;rw [if_neg (show ¬ (r.2.e = 0 ∧ r.2.i < L.length) by rw [h]; exact fun x => absurd x.1 (by decide)), h, if_neg (by decide), if_pos (by decide)]
 ·intro h hi;rw [if_neg (show ¬ (r.2.e = 0 ∧ r.2.i < L.length) by omega), h, if_neg (by decide), if_neg (by decide)]
theorem seq_stop {L : List Tk} {n : Nat} {acc : F} {s : Ps} (h : kindS L s = 0) : run L (n + 1) (.seq acc) s = (oneF 12 acc, s) := by rw [run, if_pos (Or.inl h)]
theorem group_parse {T : List Tk} {m N : Int} {hd_ z_ : Nat} {on_ of_ : Int} {f : F} (hP : parseP T m = .ok f) :
 (∃ a, parseP (lay { kind := 10, n := 2, on := on_, off := of_ } 0 hd_ :: (T.map (shT hd_) ++ [lay { kind := 8 } z_ (z_ + 1)])) N = .error (11, a)) ∨ ∃ y j, parseP (lay { kind := 10, n := 2, on := on_, off := of_ } 0 hd_ :: (T.map (shT hd_) ++ [lay { kind := 8 } z_ (z_ + 1)])) N = .ok (F.one { lab 15 0 with on := on_, off := of_ } (F.one y j)) ∧ na (F.one y j) = na f := by
 obtain ⟨L, hLd⟩ : ∃ L, lay { kind := 10, n := 2, on := on_, off := of_ } 0 hd_ :: (T.map (shT hd_) ++ [lay { kind := 8 } z_ (z_ + 1)]) = L := ⟨_, rfl⟩;have hlen : L.length = T.length + 2 := by rw [← hLd]; simp
 have hem : Emb T L 1 hd_ 8 := by
  refine ⟨fun i hi => ?_, Or.inr ⟨lay { kind := 8 } z_ (z_ + 1), ?_, rfl⟩, Or.inr (Or.inr rfl)⟩
  ·rw [← hLd, List.getElem?_cons_succ, List.getElem?_append_left (by simpa using hi), List.getElem?_map]
  ·rw [← hLd, List.getElem?_cons_succ, List.getElem?_append_right (by simp)];simp
 have hL0 : L[0]? = some (lay { kind := 10, n := 2, on := on_, off := of_ } 0 hd_) := by rw [← hLd]; rfl
 rw [hLd];obtain ⟨re, ri, rf⟩ := parse_run hP;have main := run_ext hem (o := 1) (3 * T.length + 3) (3 * T.length + 6) (.alt .nil) (.alt .nil) r0 { i := 1, op := 1 } (by omega) ⟨rfl, rfl, rfl, rfl⟩ (Nat.zero_le _) (Nat.zero_le _) (by show 3 * rem T r0 + 3 ≤ _; rw [rem_ok rfl]; show 3 * (T.length - 0) + 3 ≤ _; omega) (fun h => by cases h) trivial re (fun _ h => absurd h (by decide));have iv := (zq T (3 * T.length + 3) (.alt .nil) r0 (Nat.zero_le _) (Nat.zero_le _) (fun h => by cases h)).1;generalize run T (3 * T.length + 3) (.alt .nil) r0 = r at *;obtain ⟨R, hR⟩ : ∃ R, run L (3 * T.length + 6) (.alt .nil) { i := 1, op := 1 } = R := ⟨_, rfl⟩;have hk0 : kindS L r0 = 10 := by show (if (0 : Int) ≠ 0 then (0 : Int) else match L[0]? with | none => (0 : Int) | some t => t.kind) = 10;rw [if_neg (by decide), hL0];rfl
 have hget : L.getD 0 zeroT = lay { kind := 10, n := 2, on := on_, off := of_ } 0 hd_ := by rw [List.getD_eq_getElem?_getD, hL0]; rfl
 obtain ⟨Q, hQd⟩ : ∃ Q, (if kindS L R.2 ≠ 8 then (zeroF, failS R.2 20 (-1)) else (jf (lay { kind := 10, n := 2, on := on_, off := of_ } 0 hd_) .nil R.1, zf (lay { kind := 10, n := 2, on := on_, off := of_ } 0 hd_) R.1 { R.2 with i := R.2.i + 1, op := R.2.op - 1 })) = Q := ⟨_, rfl⟩;have e1 : run L (3 * T.length + 7) .thing r0 = Q := by rw [run];simp only;rw [show L.getD r0.i zeroT = lay { kind := 10, n := 2, on := on_, off := of_ } 0 hd_ from hget];rw [if_neg (by intro hh; exact hh rfl), if_neg (by decide), if_neg (show ¬ ((lay { kind := 10, n := 2, on := on_, off := of_ } 0 hd_).n = 13 ∧ _) from fun x => absurd (show (2 : Int) = 13 from x.1) (by decide))];rw [← hQd, ← hR];rfl
 have e2 : run L (3 * T.length + 8) (.seq .nil) r0 = (if kindS L Q.2 = 9 ∧ repK Q.1.hd = true then run L (3 * T.length + 7) (.seq (F.app .nil (repF (L.getD Q.2.i zeroT) Q.1))) { Q.2 with i := Q.2.i + 1 } else run L (3 * T.length + 7) (.seq (F.app .nil Q.1)) Q.2) := by rw [run, if_neg (by rw [hk0]; decide), if_neg (by rw [hk0]; decide)];simp only;rw [e1]
 have e3 : run L (3 * L.length + 3) (.alt .nil) r0 = (let q := run L (3 * T.length + 8) (.seq .nil) r0; if kindS L q.2 = 7 then run L (3 * T.length + 8) (.alt (F.app .nil q.1)) { q.2 with i := q.2.i + 1 } else (F.app .nil q.1, q.2)) := by rw [show 3 * L.length + 3 = (3 * T.length + 8) + 1 by omega, run]
 rcases main with ⟨m11, _⟩ | ⟨ma, u, v, m1, m2, m3⟩
 ·left;rw [hR] at m11;have hkR : kindS L R.2 = 0 := by unfold kindS; rw [if_pos (by rw [m11]; decide)]
  rw [if_pos (by rw [hkR]; decide)] at hQd;have hQ2 : Q.2 = R.2 := by rw [← hQd]; unfold failS; rw [if_neg (by rw [m11]; decide)]
  have hne : R.2.e ≠ 0 := by rw [m11]; decide
  rw [hQ2, if_neg (by rw [hkR]; exact fun x => absurd x.1 (by decide))] at e2;have hq : (run L (3 * T.length + 8) (.seq .nil) r0).2 = R.2 := by rw [e2, (run_err L hne _ _).1]
  simp only at e3;rw [hq, if_neg (by rw [hkR]; decide)] at e3;have := (run_parse (n := N) e3).1 m11;exact ⟨_, this⟩
 ·right;rw [hR] at ma m2;have hkR : kindS L R.2 = 8 := emb_end hem ma.e' ma.i ri;have hop : R.2.op = 1 := by have := ma.o; have := (iv.e re).2; have : r0.op = 0 := rfl; omega
  have hi : R.2.i = T.length + 1 := by have := ma.i; omega
  rw [if_neg (by rw [hkR]; decide)] at hQd;have hcd : condT (lay { kind := 10, n := 2, on := on_, off := of_ } 0 hd_) = false := rfl;unfold zf at hQd;rw [hcd, if_neg (by simp)] at hQd;have hg2 : jf (lay { kind := 10, n := 2, on := on_, off := of_ } 0 hd_) .nil R.1 = F.one { lab 15 0 with on := on_, off := of_ } (oneF 13 R.1) := rfl;rw [hg2] at hQd;have hkQ : kindS L Q.2 = 0 := by rw [← hQd];exact kind_endX (by show R.2.i + 1 = _; omega)
  rw [if_neg (by rw [hkQ]; exact fun x => absurd x.1 (by decide)), seq_stop hkQ] at e2;have e2' : run L (3 * T.length + 8) (.seq .nil) r0 = (Q.1, Q.2) := by rw [e2, ← hQd];rfl
  simp only at e3;rw [e2'] at e3;simp only at e3;rw [if_neg (by rw [hkQ]; decide)] at e3;have hp := (run_parse (n := N) e3).2 (by rw [← hQd]; exact ma.e') (by rw [← hQd]; show R.2.i + 1 = _; omega);obtain ⟨y, j, hyj⟩ := one_F 13 R.1;refine ⟨y, j, ?_, ?_⟩
  ·rw [hp, ← hQd, ← hyj]; rfl
  ·rw [← hyj, rf];refine na_oneF ?_;rw [m1, m2];exact m3
theorem open_hd {q : Pt} (hn : 1 ≤ q.n) (h0 : q.g 0 = 40) : tokR q 0 = openR q 0 := by unfold tokR;rw [char_lowX q hn h0 (by decide) (by decide)];dsimp only;rw [if_neg (by omega), if_neg (by omega), if_neg (by decide), if_neg (by decide), if_pos rfl]
theorem shut_hd {p : Pt} {i : Nat} (hi : i < p.n) (h : p.g i = 41) : tokR p i = .ok (some (lay { kind := 8 } i (i + 1)), i + 1) := by unfold tokR;rw [char_lowX p hi h (by decide) (by decide)];dsimp only;rw [if_neg (by omega), if_neg (by omega), if_neg (by decide), if_neg (by decide), if_neg (by decide), if_neg (by decide), if_neg (by decide), if_neg (by decide), if_neg (by decide), if_pos rfl];rfl
theorem open_fl {q : Pt} (hn : 5 ≤ q.n) (h1 : q.g 1 = 63) (h2 : q.g 2 = 105 ∨ q.g 2 = 109 ∨ q.g 2 = 115 ∨ q.g 2 = 85 ∨ (q.g 2 = 45 ∧ ¬ (48 ≤ q.g 3 ∧ q.g 3 ≤ 57))) : openR q 0 = flagR q 0 (q.n - 1) 2 false 0 0 := by
 have hc : q.g 2 ≠ 58 ∧ q.g 2 ≠ 124 ∧ q.g 2 ≠ 62 ∧ q.g 2 ≠ 61 ∧ q.g 2 ≠ 33 ∧ q.g 2 ≠ 60 ∧ q.g 2 ≠ 35 ∧ q.g 2 ≠ 80 ∧ q.g 2 ≠ 39 ∧ q.g 2 ≠ 38 ∧ q.g 2 ≠ 82 ∧ q.g 2 ≠ 67 ∧ q.g 2 ≠ 40 := by omega
 obtain ⟨a1, a2, a3, a4, a5, a6, a7, a8, a9, a10, a11, a12, a13⟩ := hc;have hN : numB q 2 = false := by
  unfold numB;rw [Bool.or_eq_false_iff, Bool.or_eq_false_iff];refine ⟨⟨decide_eq_false (by omega), ?_⟩, ?_⟩
  ·unfold isDig;rw [Bool.and_eq_false_iff, decide_eq_false_iff_not, decide_eq_false_iff_not];omega
  ·rw [Bool.and_eq_false_iff, Bool.and_eq_false_iff];by_cases h : q.g 2 = 45
   ·right;unfold isDig;rw [Bool.and_eq_false_iff, decide_eq_false_iff_not, decide_eq_false_iff_not];show ¬ 48 ≤ q.g 3 ∨ ¬ q.g 3 ≤ 57;omega
   ·exact .inl (.inl (decide_eq_false h))
 have n1 : ∀ (c : UInt8) (l : List UInt8), q.g 2 ≠ (c.toNat : Int) → q.has (c :: l) (0 + 2) = false := fun c l h => has_notX h
 have hk : kindR q 0 (0 + 2) kindsT = none := by unfold kindsT;rw [kindR, n1 58 [] a1, if_neg (by simp), kindR, n1 124 [] a2, if_neg (by simp), kindR, n1 62 [] a3, if_neg (by simp), kindR, n1 61 [] a4, if_neg (by simp), kindR, n1 33 [] a5, if_neg (by simp), kindR, n1 60 [61] a6, if_neg (by simp), kindR, n1 60 [33] a6, if_neg (by simp), kindR]
 unfold openR;rw [has_notX (p := q) (c := 42) (l := []) (i := 0 + 1) (by rw [h1]; decide), has_is (p := q) (c := 63) (i := 0 + 1) (by omega) (by rw [h1]; rfl), if_neg (by simp), if_neg (by simp), if_neg (by omega), hk];show openK q 0 (0 + 2) = _;unfold openK;rw [n1 35 [] a7, if_neg (by simp), n1 80 [60] a8, if_neg (by simp), n1 60 [] a6, if_neg (by simp), n1 39 [] a9, if_neg (by simp), n1 80 [61] a8, if_neg (by simp), n1 80 [62] a8, if_neg (by simp), n1 38 [] a10, if_neg (by simp), n1 82 [] a11, if_neg (by simp), n1 67 [] a12, if_neg (by simp), n1 40 [] a13, if_neg (by simp), hN, if_neg (by simp)];rfl
theorem head_on {q : Pt} (hn : 5 ≤ q.n) {c : Int} (hc : c = 105 ∨ c = 109 ∨ c = 115 ∨ c = 85) (h0 : q.g 0 = 40) (h1 : q.g 1 = 63) (h2 : q.g 2 = c) (h3 : q.g 3 = 58) :
 tokR q 0 = .ok (some (lay { kind := 10, n := 2, on := (optV c : Int), off := 0 } 0 4), 4) := by
 rw [open_hd (by omega) h0, open_fl hn h1 (by rw [h2]; omega)];obtain ⟨k, hk⟩ : ∃ k, q.n - 1 = k + 1 + 1 := ⟨q.n - 3, by omega⟩;have ho : isOpt c = true := by rcases hc with rfl | rfl | rfl | rfl <;> decide
 rw [hk, flagR, if_neg (by omega), if_neg (by rw [h2]; omega), if_neg (by rw [h2]; omega), if_neg (by rw [h2]; omega), if_pos (by rw [h2]; exact ho), if_neg (by decide), flagR, if_neg (by omega)];rw [show 2 + 1 = 3 from rfl, h3, if_neg (by decide), if_pos rfl, h2];rcases hc with rfl | rfl | rfl | rfl <;> rfl
theorem head_off {q : Pt} (hn : 6 ≤ q.n) {c : Int} (hc : c = 105 ∨ c = 109 ∨ c = 115 ∨ c = 85) (h0 : q.g 0 = 40) (h1 : q.g 1 = 63) (h2 : q.g 2 = 45) (h3 : q.g 3 = c) (h4 : q.g 4 = 58) :
 tokR q 0 = .ok (some (lay { kind := 10, n := 2, on := 0, off := (optV c : Int) } 0 5), 5) := by
 rw [open_hd (by omega) h0, open_fl (by omega) h1 (by rw [h2, h3]; omega)];obtain ⟨k, hk⟩ : ∃ k, q.n - 1 = k + 1 + 1 + 1 := ⟨q.n - 4, by omega⟩;have ho : isOpt c = true := by rcases hc with rfl | rfl | rfl | rfl <;> decide
 rw [hk, flagR, if_neg (by omega), if_neg (by rw [h2]; omega), if_neg (by rw [h2]; omega), if_pos h2, if_neg (by decide), flagR, if_neg (by omega)];rw [show 2 + 1 = 3 from rfl, if_neg (by rw [h3]; omega), if_neg (by rw [h3]; omega), if_neg (by rw [h3]; omega), if_pos (by rw [h3]; exact ho), if_pos rfl, flagR, if_neg (by omega)];rw [show 3 + 1 = 4 from rfl, h4, if_neg (by decide), if_pos rfl, h3];rcases hc with rfl | rfl | rfl | rfl <;> rfl
end ext
end
section
namespace ext
open sq
open Go utfp tkp rtp trp rpp rsp fgp setp
theorem lex_group {p q : Pt} {h : Nat} {on_ of_ : Int} (hE : Ext p q h) (hn : q.n = p.n + h + 1) (h41 : q.g (p.n + h) = 41) (hgo : Go_ p) (hQ : ∀ i, p.has [92, 81] i = false) (h0 : q.g 0 = 40)
 (hh : tokR q 0 = .ok (some (lay { kind := 10, n := 2, on := on_, off := of_ } 0 h), h)) {T : List Tk} (e : lexF p (p.n + 1) false [] 0 = .ok T) :
 lexF q (q.n + 1) false [] 0 = .ok (lay { kind := 10, n := 2, on := on_, off := of_ } 0 h :: (T.map (shT h) ++ [lay { kind := 8 } (p.n + h) (p.n + h + 1)])) := by
 obtain ⟨S, hS, hL⟩ := lex_ext hE hgo (Or.inr hQ) (p.n + 1) 0 false [] (by omega) (Nat.zero_le _) (Or.inr rfl) e;rw [List.nil_append] at hS;subst hS;obtain ⟨k2, b2, hk, hb, hl⟩ := hL q.n ([] ++ [lay { kind := 10, n := 2, on := on_, off := of_ } 0 h]) (by omega);obtain rfl : b2 = false := by
  rcases hb with hb | hb
  ·omega
  ·exact hb
 obtain ⟨k3, rfl⟩ : ∃ k3, k2 = k3 + 1 := ⟨k2 - 1, by omega⟩;rw [Nat.zero_add] at hl;rw [lex_tok (by omega) (by rw [h0]; decide) hh];refine hl.trans ?_;rw [lex_tok (by omega) (by rw [h41]; decide) (shut_hd (by omega) h41), lex_end (by omega)];simp
theorem na_at {x y : Lab} {k j r s : F} (h : na (.cons x k r) = na (.cons y j s)) : { x with at_ := 0, sv := nil3, kv := nil3 } = { y with at_ := 0, sv := nil3, kv := nil3 } ∧ na k = na j ∧ na r = na s := by rw [na, na] at h;injection h with a b c;exact ⟨a, b, c⟩
theorem na_own (u : Bool) (m : Int) {x y : Lab} {k j : F} (f : Int) (h : { x with at_ := 0, sv := nil3, kv := nil3 } = { y with at_ := 0, sv := nil3, kv := nil3 }) (hk : na k = na j) : na (ownF u m x k f) = na (ownF u m y j f) := by
 obtain ⟨kind, at_, c, sv, set, neg, n, m', mode, name, on, off, kv⟩ := x;obtain ⟨kind2, at2, c2, sv2, set2, neg2, n2, m2, mode2, name2, on2, off2, kv2⟩ := y;simp only [Lab.mk.injEq, true_and, and_true] at h;obtain ⟨rfl, rfl, rfl, rfl, rfl, rfl, rfl, rfl, rfl, rfl⟩ := h;unfold ownF;simp only
 repeat' split
 all_goals simp [na, F.one, bare, lineF, setL, F.app, lab, hk]
theorem na_both (u : Bool) (m : Int) : ∀ (l l' : F) (f : Int), na l = na l' → na (bothP u m l f).1.1 = na (bothP u m l' f).1.1 ∧ (bothP u m l f).1.2 = (bothP u m l' f).1.2 ∧ na (bothP u m l f).2 = na (bothP u m l' f).2
 | .nil, .nil, _, _ => ⟨rfl, rfl, rfl⟩
 | .nil, .cons _ _ _, _, h => by rw [na, na] at h; cases h
 | .cons _ _ _, .nil, _, h => by rw [na, na] at h; cases h
 | .cons x k r, .cons y j s, f, h => by
  obtain ⟨hx, hk, hr⟩ := na_at h;have kd : x.kind = y.kind := (congrArg Lab.kind hx : _);have eo : x.on = y.on := (congrArg Lab.on hx : _);have ef : x.off = y.off := (congrArg Lab.off hx : _);have t : na (putP u m (fun g => (bothP u m k g).1) (fun g => (bothP u m k g).2) x f).1 = na (putP u m (fun g => (bothP u m j g).1) (fun g => (bothP u m j g).2) y f).1 ∧ (putP u m (fun g => (bothP u m k g).1) (fun g => (bothP u m k g).2) x f).2 = (putP u m (fun g => (bothP u m j g).1) (fun g => (bothP u m j g).2) y f).2 := by
   unfold putP;rw [kd, eo, ef];split
   ·exact ⟨rfl, rfl⟩
   split
   ·exact ⟨(na_both u m k j f hk).1, (na_both u m k j f hk).2.1⟩
   split
   ·exact ⟨(na_both u m k j _ hk).1, rfl⟩
   ·exact ⟨na_own u m f hx (na_both u m k j f hk).2.2, rfl⟩
  obtain ⟨a, b, c⟩ := na_both u m r s (putP u m (fun g => (bothP u m k g).1) (fun g => (bothP u m k g).2) x f).2 hr;rw [bothP, bothP];simp only [na_app];rw [← t.2, t.1, a, b, c, na_oneF t.1];exact ⟨rfl, rfl, rfl⟩
theorem answer_group {x y z : Lab} {k j : F} {o o' : Int} (hx : x.kind = 15) (ho : decide (andI o 32 ≠ 0) = decide (andI o' 32 ≠ 0)) (hf : Ag (turnI o x.on x.off) o') (e : na (F.one y j) = na (F.one z k)) :
 na (answerP (x, F.one y j) o) = na (answerP (z, k) o') := by
 have hm : (if andI o 32 ≠ 0 then (1114111 : Int) else 255) = if andI o' 32 ≠ 0 then 1114111 else 255 := by
  by_cases c : andI o 32 ≠ 0
  ·rw [decide_eq_true c] at ho;rw [if_pos c, if_pos (of_decide_eq_true ho.symm)]
  ·rw [decide_eq_false c] at ho;rw [if_neg c, if_neg (of_decide_eq_false ho.symm)]
 unfold answerP;rw [ho, hm];generalize decide (andI o' 32 ≠ 0) = u;generalize (if andI o' 32 ≠ 0 then (1114111 : Int) else 255) = m;have a : (putP u m (fun g => (bothP u m (F.one y j) g).1) (fun g => (bothP u m (F.one y j) g).2) x o).1 = (bothP u m (F.one y j) (turnI o x.on x.off)).1.1 := by unfold putP;rw [if_neg (by rw [hx]; decide), if_neg (by rw [hx]; decide), if_pos hx]
 have b := (both_ag u m (F.one y j) hf).1;have c := (na_both u m _ _ o' e).1;have d : (bothP u m (F.one z k) o').1.1 = (putP u m (fun g => (bothP u m k g).1) (fun g => (bothP u m k g).2) z o').1 := by rw [F.one, bothP];simp only [bothP, app_nil]
 show na (oneF 12 (putP u m (fun g => (bothP u m (F.one y j) g).1) (fun g => (bothP u m (F.one y j) g).2) x o).1) = na (oneF 12 (putP u m (fun g => (bothP u m k g).1) (fun g => (bothP u m k g).2) z o').1);refine na_oneF ?_;rw [a, b, c, d]
theorem rlex_ok {g : Nat → Int} {n : Nat} {o : Int} {T : List Tk} (e : rlexP g n o = .ok T) : lexF { g := g, n := n, u := o.toNat.testBit 5, x := o.toNat.testBit 3 } (n + 1) false [] 0 = .ok T := by
 unfold rlexP at e;split at e
 ·cases e
 split at e
 ·cases e
 split at e
 ·cases e
 exact e
theorem group_says {g g' : Nat → Int} {n h : Nat} {o o' on_ of_ : Int} (h40 : g' 0 = 40) (hg : ∀ i, i < n → g' (i + h) = g i) (h41 : g' (n + h) = 41) (h35 : ∀ i, i < n → g i ≠ 35) (hQ : ∀ i, i + 1 < n → ¬ (g i = 92 ∧ g (i + 1) = 81))
 (hh : ∀ u x, tokR { g := g', n := n + h + 1, u := u, x := x } 0 = .ok (some (lay { kind := 10, n := 2, on := on_, off := of_ } 0 h), h)) (hgo : Go_ { g := g, n := n, u := o.toNat.testBit 5, x := o.toNat.testBit 3 })
 (b5 : o'.toNat.testBit 5 = o.toNat.testBit 5) (b3 : o'.toNat.testBit 3 = o.toNat.testBit 3) (a5 : decide (andI o' 32 ≠ 0) = decide (andI o 32 ≠ 0)) (hf : Ag (turnI o' on_ of_) o)
 {T L : List Tk} {x z : Lab} {k j : F} (eT : rlexP g n o = .ok T) (ez : parseP T n = .ok (F.one z k)) (eL : rlexP g' (n + h + 1) o' = .ok L) (ex : parseP L ((n + h + 1 : Nat) : Int) = .ok (F.one x j)) :
 na (answerP (x, j) o') = na (answerP (z, k) o) := by
 have hT := rlex_ok eT;have hL := rlex_ok eL;rw [b5, b3] at hL;have hq : ∀ i, ({ g := g, n := n, u := o.toNat.testBit 5, x := o.toNat.testBit 3 } : Pt).has [92, 81] i = false := fun i => by
  cases e : ({ g := g, n := n, u := o.toNat.testBit 5, x := o.toNat.testBit 3 } : Pt).has [92, 81] i with
  | false => rfl
  | true =>
   exfalso;have hb : i + 2 ≤ n := has_inX _ _ _ e (by simp);rw [Pt.has, Pt.has] at e;simp only [Bool.and_eq_true, decide_eq_true_eq] at e;exact hQ i (by omega) ⟨e.1.2, e.2.1.2⟩
 have l := lex_group (p := { g := g, n := n, u := o.toNat.testBit 5, x := o.toNat.testBit 3 }) (q := { g := g', n := n + h + 1, u := o.toNat.testBit 5, x := o.toNat.testBit 3 }) (h := h) ⟨rfl, rfl, fun _ => h35, hg, Or.inr ⟨Nat.lt_succ_self _, Or.inl h41⟩⟩ rfl h41 hgo hq h40 (hh _ _) hT;rw [hL] at l;injection l with l;subst l;rcases group_parse (N := ((n + h + 1 : Nat) : Int)) (hd_ := h) (z_ := n + h) (on_ := on_) (of_ := of_) ez with ⟨a, c⟩ | ⟨y, q, c, d⟩
 ·rw [c] at ex;cases ex
 ·rw [c] at ex;injection ex with ex;injection ex with e1 e2;subst e1 e2;exact answer_group rfl a5 hf d
theorem ag_on (o f : Int) : Ag (turnI (bits .andNot .i64 o f) f 0) (bits .or .i64 o f) := by unfold Ag turnI;rw [B_not, B_or, B_not, B_or];exact z51
theorem ag_off (o f : Int) : Ag (turnI (bits .or .i64 o f) 0 f) (bits .andNot .i64 o f) := by unfold Ag turnI;rw [B_not, B_or, B_or, B_not];exact z51
end ext
end
section
namespace ext
open sq
open Go utfp ucdp tkp trp setp setw rpp fgp rsp
theorem wrap_bits {v : BitVec 64} (h : v.toNat < 2 ^ 63) (i : Nat) : (IntKind.i64.wrap (v.toNat : Int)).toNat.testBit i = v.getLsbD i := by rw [wrap_nat _ v.isLt, if_pos h, Int.toNat_natCast];rfl
theorem B_nat {o : Int} (h0 : 0 ≤ o) (h1 : o ≤ 65535) : (B o).toNat = o.toNat := by unfold B;rw [BitVec.toNat_ofInt];omega
theorem B_bit {o : Int} (h0 : 0 ≤ o) (h1 : o ≤ 65535) (i : Nat) : o.toNat.testBit i = (B o).getLsbD i := by rw [← B_nat h0 h1];rfl
def Fl1 (f : Int) : Prop := f = 1 ∨ f = 2 ∨ f = 4 ∨ f = 16
theorem fl_bit {f : Int} (h : Fl1 f) : (B f).getLsbD 5 = false ∧ (B f).getLsbD 3 = false ∧ (B f).toNat < 65536 := by rcases h with rfl | rfl | rfl | rfl <;> decide
theorem or_lt {o f : Int} (h0 : 0 ≤ o) (h1 : o ≤ 65535) (hf : Fl1 f) : (B o ||| B f).toNat < 65536 := by rw [BitVec.toNat_or];exact Nat.or_lt_two_pow (n := 16) (by rw [B_nat h0 h1]; omega) (fl_bit hf).2.2
theorem not_lt {o f : Int} (h0 : 0 ≤ o) (h1 : o ≤ 65535) : (B o &&& ~~~B f).toNat < 65536 := by rw [BitVec.toNat_and];have := B_nat h0 h1;have := Nat.and_le_left (n := (B o).toNat) (m := (~~~B f).toNat);omega
theorem or_bit {o f : Int} (h0 : 0 ≤ o) (h1 : o ≤ 65535) (hf : Fl1 f) : (bits .or .i64 o f).toNat.testBit 5 = o.toNat.testBit 5 ∧ (bits .or .i64 o f).toNat.testBit 3 = o.toNat.testBit 3 := by
 have k := or_lt h0 h1 hf;obtain ⟨a, b, _⟩ := fl_bit hf;rw [B_bit h0 h1, B_bit h0 h1];constructor
 ·refine (wrap_bits (v := B o ||| B f) (by omega) 5).trans ?_;rw [BitVec.getLsbD_or, a, Bool.or_false]
 ·refine (wrap_bits (v := B o ||| B f) (by omega) 3).trans ?_;rw [BitVec.getLsbD_or, b, Bool.or_false]
theorem not_bit {o f : Int} (h0 : 0 ≤ o) (h1 : o ≤ 65535) (hf : Fl1 f) : (bits .andNot .i64 o f).toNat.testBit 5 = o.toNat.testBit 5 ∧ (bits .andNot .i64 o f).toNat.testBit 3 = o.toNat.testBit 3 := by
 have k := not_lt (f := f) h0 h1;obtain ⟨a, b, _⟩ := fl_bit hf;rw [B_bit h0 h1, B_bit h0 h1];constructor
 ·refine (wrap_bits (v := B o &&& ~~~B f) (by omega) 5).trans ?_;rw [BitVec.getLsbD_and, BitVec.getLsbD_not, a];simp
 ·refine (wrap_bits (v := B o &&& ~~~B f) (by omega) 3).trans ?_;rw [BitVec.getLsbD_and, BitVec.getLsbD_not, b];simp
theorem and_32_eq (o f : Int) (hf : Fl1 f) : andI (bits .or .i64 o f) 32 = andI o 32 ∧ andI (bits .andNot .i64 o f) 32 = andI o 32 := by
 have z : B f &&& B 32 = 0#64 ∧ ~~~B f &&& B 32 = B 32 := by rcases hf with rfl | rfl | rfl | rfl <;> decide
 constructor
 ·show IntKind.i64.wrap ((B (bits .or .i64 o f) &&& B 32).toNat : Int) = IntKind.i64.wrap ((B o &&& B 32).toNat : Int);have e : B (bits .or .i64 o f) &&& B 32 = B o &&& B 32 := by
   rw [B_or];have : (B o ||| B f) &&& B 32 = (B o &&& B 32) ||| (B f &&& B 32) := by
    refine BitVec.eq_of_getLsbD_eq fun i _ => ?_
    simp only [BitVec.getLsbD_and, BitVec.getLsbD_or];cases (B o).getLsbD i <;> cases (B f).getLsbD i <;> cases (B 32).getLsbD i <;> rfl
   rw [this, z.1, BitVec.or_zero]
  rw [e]
 ·show IntKind.i64.wrap ((B (bits .andNot .i64 o f) &&& B 32).toNat : Int) = IntKind.i64.wrap ((B o &&& B 32).toNat : Int);rw [B_not, BitVec.and_assoc, z.2]
end ext
end
section
namespace ext
open sq
open Go utfp tkp trp setp rtp rpp fgp rsp
theorem fl_of {c : Int} (hc : c = 105 ∨ c = 109 ∨ c = 115 ∨ c = 85) : Fl1 (optV c : Int) := by
 rcases hc with rfl | rfl | rfl | rfl
 ·exact .inl rfl
 ·exact .inr (.inl rfl)
 ·exact .inr (.inr (.inl rfl))
 ·exact .inr (.inr (.inr rfl))
theorem flag_on {g g' : Nat → Int} {n : Nat} {o c : Int} (hc : c = 105 ∨ c = 109 ∨ c = 115 ∨ c = 85) (o0 : 0 ≤ o) (o1 : o ≤ 65535) (h0 : g' 0 = 40) (h1 : g' 1 = 63) (h2 : g' 2 = c) (h3 : g' 3 = 58) (hg : ∀ i, i < n → g' (i + 4) = g i) (h41 : g' (n + 4) = 41)
 (h35 : ∀ i, i < n → g i ≠ 35) (hQ : ∀ i, i + 1 < n → ¬ (g i = 92 ∧ g (i + 1) = 81)) (hgo : ∀ u x, Go_ { g := g, n := n, u := u, x := x })
 {T L : List Tk} {x z : Lab} {k j : F} (eT : rlexP g n (bits .or .i64 o (optV c)) = .ok T) (ez : parseP T n = .ok (F.one z k)) (eL : rlexP g' (n + 4 + 1) (bits .andNot .i64 o (optV c)) = .ok L) (ex : parseP L ((n + 4 + 1 : Nat) : Int) = .ok (F.one x j)) :
 na (answerP (x, j) (bits .andNot .i64 o (optV c))) = na (answerP (z, k) (bits .or .i64 o (optV c))) := by
 have hf := fl_of hc;have a := or_bit o0 o1 hf;have b := not_bit o0 o1 hf;have d := and_32_eq o _ hf;exact group_says h0 hg h41 h35 hQ (fun u x => head_on (q := { g := g', n := n + 4 + 1, u := u, x := x }) (by show 5 ≤ n + 4 + 1; omega) hc h0 h1 h2 h3) (hgo _ _) (by rw [a.1, b.1]) (by rw [a.2, b.2]) (by rw [d.1, d.2]) (ag_on o _) eT ez eL ex
theorem flag_off {g g' : Nat → Int} {n : Nat} {o c : Int} (hc : c = 105 ∨ c = 109 ∨ c = 115 ∨ c = 85) (o0 : 0 ≤ o) (o1 : o ≤ 65535) (h0 : g' 0 = 40) (h1 : g' 1 = 63) (h2 : g' 2 = 45) (h3 : g' 3 = c) (h4 : g' 4 = 58) (hg : ∀ i, i < n → g' (i + 5) = g i) (h41 : g' (n + 5) = 41)
 (h35 : ∀ i, i < n → g i ≠ 35) (hQ : ∀ i, i + 1 < n → ¬ (g i = 92 ∧ g (i + 1) = 81)) (hgo : ∀ u x, Go_ { g := g, n := n, u := u, x := x })
 {T L : List Tk} {x z : Lab} {k j : F} (eT : rlexP g n (bits .andNot .i64 o (optV c)) = .ok T) (ez : parseP T n = .ok (F.one z k)) (eL : rlexP g' (n + 5 + 1) (bits .or .i64 o (optV c)) = .ok L) (ex : parseP L ((n + 5 + 1 : Nat) : Int) = .ok (F.one x j)) :
 na (answerP (x, j) (bits .or .i64 o (optV c))) = na (answerP (z, k) (bits .andNot .i64 o (optV c))) := by
 have hf := fl_of hc;have a := or_bit o0 o1 hf;have b := not_bit o0 o1 hf;have d := and_32_eq o _ hf;exact group_says h0 hg h41 h35 hQ (fun u x => head_off (q := { g := g', n := n + 5 + 1, u := u, x := x }) (by show 6 ≤ n + 5 + 1; omega) hc h0 h1 h2 h3 h4) (hgo _ _) (by rw [a.1, b.1]) (by rw [a.2, b.2]) (by rw [d.1, d.2]) (ag_off o _) eT ez eL ex
end ext
end
section
namespace fll
open sq
open Go Go.RowKit Go.Maps utfw tkp trp rpp rsp rtp fgp
open tkw (sg sg_bd)
open ext (na Go_ flag_on flag_off)
open rtw (Pat tokR_bd)
theorem s_left8 {A B : ByteArray} {i : Nat} (h : i < A.size) : sg (A ++ B) i = sg A i := by
 have h' : i < A.data.toList.length := by simpa using h
 unfold sg;have : (A ++ B).data.toList = A.data.toList ++ B.data.toList := by simp [ByteArray.data_append]
 rw [this, List.getD_eq_getElem?_getD, List.getElem?_append_left h', List.getD_eq_getElem?_getD]
theorem s_right8 {A B : ByteArray} {i j : Nat} (h : i = A.size + j) : sg (A ++ B) i = sg B j := by
 have h' : A.data.toList.length = A.size := by simp
 unfold sg;have : (A ++ B).data.toList = A.data.toList ++ B.data.toList := by simp [ByteArray.data_append]
 rw [this, List.getD_eq_getElem?_getD, List.getElem?_append_right (by omega), List.getD_eq_getElem?_getD, show i - A.data.toList.length = j by omega]
theorem s_end8 {A : ByteArray} {i : Nat} (h : A.size ≤ i) : sg A i = 0 := by
 have h' : A.data.toList.length ≤ i := by simpa using h
 unfold sg;rw [List.getD_eq_getElem?_getD, List.getElem?_eq_none h'];rfl
theorem strOf_sg8 (s : ByteArray) : sg (strOf s.size (sg s)) = sg s := funext fun i => by
 by_cases h : i < s.size
 ·exact rtw.sg_str (sg_bd s) h
 ·rw [s_end8 (by rw [rtw.str_size]; omega), s_end8 (by omega)]
def rawT (s : ByteArray) (o : Int) : Option F := rawP (sg (strOf s.size (sg s))) s.size o
theorem rawT_of {s : ByteArray} {o : Int} {t : F} (h : rawT s o = some t) : ∃ T, rlexP (sg s) s.size o = .ok T ∧ parseP T (s.size : Int) = .ok t := by
 unfold rawT rawP at h;rw [strOf_sg8] at h;cases hl : rlexP (sg s) s.size o with
 | error e => rw [hl] at h; cases h
 | ok T =>
  rw [hl] at h;cases hp : parseP T (s.size : Int) with
  | error e => simp only [hp] at h; cases h
  | ok f =>
   simp only [hp] at h;cases h;exact ⟨T, rfl, hp⟩
theorem rawT_str {n : Nat} {g : Nat → Int} {o : Int} : rawT (strOf n g) o = rawP (sg (strOf n g)) n o := by unfold rawT;rw [strOf_sg8, rtw.str_size]
theorem go8 (s : ByteArray) (hs : s.size ≤ 1000) (u x : Bool) : Go_ { g := sg s, n := s.size, u := u, x := x } := fun i t k hi h => by
 have hP : Pat s { g := sg s, n := s.size, u := u, x := x } := ⟨rfl, rfl, hs⟩;exact tokR_bd hP hi h
def onT (lt S : ByteArray) : ByteArray := (((((⟨#[40, 63]⟩ : ByteArray) ++ lt) ++ ⟨#[58]⟩) ++ S) ++ ⟨#[41]⟩)
def offT (lt S : ByteArray) : ByteArray := (((((⟨#[40, 63, 45]⟩ : ByteArray) ++ lt) ++ ⟨#[58]⟩) ++ S) ++ ⟨#[41]⟩)
theorem onT_size {lt S : ByteArray} (h : lt.size = 1) : (onT lt S).size = S.size + 4 + 1 := by unfold onT;simp only [ByteArray.size_append, h];show 2 + 1 + 1 + S.size + 1 = _;omega
theorem offT_size {lt S : ByteArray} (h : lt.size = 1) : (offT lt S).size = S.size + 5 + 1 := by unfold offT;simp only [ByteArray.size_append, h];show 3 + 1 + 1 + S.size + 1 = _;omega
theorem grp_on8 {S lt : ByteArray} {c o : Int} (hc : c = 105 ∨ c = 109 ∨ c = 115 ∨ c = 85) (hl : lt.size = 1) (hl0 : sg lt 0 = c) (hn : S.size ≤ 900) (o0 : 0 ≤ o) (o1 : o ≤ 65535) (h35 : ∀ i, i < S.size → sg S i ≠ 35) (hQ : ∀ i, i + 1 < S.size → ¬ (sg S i = 92 ∧ sg S (i + 1) = 81))
 {x z : Lab} {k j : F} (eA : rawT S (bits .or .i64 o (optV c)) = some (F.one z k)) (eB : rawT (onT lt S) (bits .andNot .i64 o (optV c)) = some (F.one x j)) : na (answerP (x, j) (bits .andNot .i64 o (optV c))) = na (answerP (z, k) (bits .or .i64 o (optV c))) := by
 obtain ⟨T, eT, ez⟩ := rawT_of eA;obtain ⟨L, eL, ex⟩ := rawT_of eB;rw [onT_size hl] at eL ex;have z2 : (⟨#[40, 63]⟩ : ByteArray).size = 2 := rfl;have z1 : (⟨#[58]⟩ : ByteArray).size = 1 := rfl;have s1 : ((⟨#[40, 63]⟩ : ByteArray) ++ lt).size = 3 := by rw [ByteArray.size_append, hl, z2]
 have s2 : (((⟨#[40, 63]⟩ : ByteArray) ++ lt) ++ ⟨#[58]⟩).size = 4 := by rw [ByteArray.size_append, s1, z1]
 have s3 : ((((⟨#[40, 63]⟩ : ByteArray) ++ lt) ++ ⟨#[58]⟩) ++ S).size = 4 + S.size := by rw [ByteArray.size_append, s2]
 refine flag_on (g := sg S) (g' := sg (onT lt S)) (n := S.size) hc o0 o1 ?_ ?_ ?_ ?_ ?_ ?_ h35 hQ (go8 S (by omega)) eT ez eL ex
 ·unfold onT; rw [s_left8 (by omega), s_left8 (by omega), s_left8 (by omega), s_left8 (by omega)]; rfl
 ·unfold onT; rw [s_left8 (by omega), s_left8 (by omega), s_left8 (by omega), s_left8 (by omega)]; rfl
 ·unfold onT; rw [s_left8 (by omega), s_left8 (by omega), s_left8 (by omega), s_right8 (j := 0) (by omega)]; exact hl0
 ·unfold onT; rw [s_left8 (by omega), s_left8 (by omega), s_right8 (j := 0) (by omega)]; rfl
 ·intro i hi; unfold onT; rw [s_left8 (by omega), s_right8 (j := i) (by omega)]
 ·unfold onT; rw [s_right8 (j := 0) (by omega)]; rfl
theorem grp_off8 {S lt : ByteArray} {c o : Int} (hc : c = 105 ∨ c = 109 ∨ c = 115 ∨ c = 85) (hl : lt.size = 1) (hl0 : sg lt 0 = c) (hn : S.size ≤ 900) (o0 : 0 ≤ o) (o1 : o ≤ 65535) (h35 : ∀ i, i < S.size → sg S i ≠ 35) (hQ : ∀ i, i + 1 < S.size → ¬ (sg S i = 92 ∧ sg S (i + 1) = 81))
 {x z : Lab} {k j : F} (eA : rawT S (bits .andNot .i64 o (optV c)) = some (F.one z k)) (eB : rawT (offT lt S) (bits .or .i64 o (optV c)) = some (F.one x j)) : na (answerP (x, j) (bits .or .i64 o (optV c))) = na (answerP (z, k) (bits .andNot .i64 o (optV c))) := by
 obtain ⟨T, eT, ez⟩ := rawT_of eA;obtain ⟨L, eL, ex⟩ := rawT_of eB;rw [offT_size hl] at eL ex;have z2 : (⟨#[40, 63, 45]⟩ : ByteArray).size = 3 := rfl;have z1 : (⟨#[58]⟩ : ByteArray).size = 1 := rfl;have s1 : ((⟨#[40, 63, 45]⟩ : ByteArray) ++ lt).size = 4 := by rw [ByteArray.size_append, hl, z2]
 have s2 : (((⟨#[40, 63, 45]⟩ : ByteArray) ++ lt) ++ ⟨#[58]⟩).size = 5 := by rw [ByteArray.size_append, s1, z1]
 have s3 : ((((⟨#[40, 63, 45]⟩ : ByteArray) ++ lt) ++ ⟨#[58]⟩) ++ S).size = 5 + S.size := by rw [ByteArray.size_append, s2]
 refine flag_off (g := sg S) (g' := sg (offT lt S)) (n := S.size) hc o0 o1 ?_ ?_ ?_ ?_ ?_ ?_ ?_ h35 hQ (go8 S (by omega)) eT ez eL ex
 ·unfold offT; rw [s_left8 (by omega), s_left8 (by omega), s_left8 (by omega), s_left8 (by omega)]; rfl
 ·unfold offT; rw [s_left8 (by omega), s_left8 (by omega), s_left8 (by omega), s_left8 (by omega)]; rfl
 ·unfold offT; rw [s_left8 (by omega), s_left8 (by omega), s_left8 (by omega), s_left8 (by omega)]; rfl
 ·unfold offT; rw [s_left8 (by omega), s_left8 (by omega), s_left8 (by omega), s_right8 (j := 0) (by omega)]; exact hl0
 ·unfold offT; rw [s_left8 (by omega), s_left8 (by omega), s_right8 (j := 0) (by omega)]; rfl
 ·intro i hi; unfold offT; rw [s_left8 (by omega), s_right8 (j := i) (by omega)]
 ·unfold offT; rw [s_right8 (j := 0) (by omega)]; rfl
end fll
end
section
namespace trw
open sq
open Go.Sort Go Go.RowKit trp
def eqRs : List (Int × Int) → List (Int × Int) → Bool
 | [], [] => true
 | a :: l, b :: m => decide (a = b) && eqRs l m
 | _, _ => false
theorem eqRs_eq : ∀ l m, eqRs l m = decide (l = m)
 | [], [] => rfl
 | [], _ :: _ => by simp [eqRs]
 | _ :: _, [] => by simp [eqRs]
 | a :: l, b :: m => by simp [eqRs, eqRs_eq l m]
theorem eqRs_drop {l m : List (Int × Int)} {i : Nat} {a b : Int × Int} (ha : l[i]? = some a) (hb : m[i]? = some b) : eqRs (l.drop i) (m.drop i) = (decide (a = b) && eqRs (l.drop (i + 1)) (m.drop (i + 1))) := by obtain ⟨h1, rfl⟩ := List.getElem?_eq_some_iff.1 ha;obtain ⟨h2, rfl⟩ := List.getElem?_eq_some_iff.1 hb;rw [List.drop_eq_getElem_cons h1, List.drop_eq_getElem_cons h2, eqRs]
end trw
end
section
namespace trw
open sq
open Go Go.RowKit trp
theorem bytes_list {a b : ByteArray} (h : a.toList = b.toList) : a = b := by rw [ByteArray.toList_eq, ByteArray.toList_eq] at h;exact WideShapes.bytes_inj h
end trw
end
end Go.Proofs.YtikjhfmmfpeaoaaGreatDoor
