/- T -/
import Derived.Test.YtikjhfmmfpeaoaaGreatDoorBFg04
set_option maxHeartbeats 16000000
set_option maxRecDepth 1000000
namespace Go.Proofs.YtikjhfmmfpeaoaaGreatDoor
section
namespace ext
open sq
open Go utfp ucdp setp prp tkp rtp
def StX (c : Int) : Prop := c = 41 ∨ c = 124 ∨ c = 10
structure Ext (p q : Pt) (d : Nat) : Prop where
 u : q.u = p.u
 x : q.x = p.x
 nx : p.x = true → ∀ i, i < p.n → p.g i ≠ 35
 g : ∀ i, i < p.n → q.g (i + d) = p.g i
 n : q.n = p.n + d ∨ (p.n + d < q.n ∧ StX (q.g (p.n + d)))
theorem Ext.le {p q : Pt} {d : Nat} (h : Ext p q d) : p.n + d ≤ q.n := by rcases h.n with h | h <;> omega
theorem Ext.most {p q : Pt} {d : Nat} (h : Ext p q d) : q.most = p.most := by unfold Pt.most; rw [h.u]
theorem has_eq {p q : Pt} {d : Nat} (h : Ext p q d) : ∀ (l : List UInt8) (i : Nat), i ≤ p.n → (∀ c ∈ l, c.toNat ≠ 41 ∧ c.toNat ≠ 124 ∧ c.toNat ≠ 10) → q.has l (i + d) = p.has l i
 | [], _, _, _ => rfl
 | c :: l, i, hi, hc => by
  have ih := fun h1 => has_eq h l (i + 1) h1 (fun c hm => hc c (List.mem_cons_of_mem _ hm))
  rw [Pt.has, Pt.has];by_cases hlt : i < p.n
  ·rw [h.g i hlt, show i + d + 1 = i + 1 + d by omega, ih hlt];have := h.le;rw [decide_eq_true (show i + d < q.n by omega), decide_eq_true hlt]
  ·have hc0 := hc c List.mem_cons_self;rw [decide_eq_false hlt];rcases h.n with hn | ⟨hn, hs⟩
   ·rw [decide_eq_false (show ¬ i + d < q.n by omega)]; rfl
   ·rw [show i + d = p.n + d by omega, decide_eq_false (show ¬ q.g (p.n + d) = (c.toNat : Int) by unfold StX at hs; omega)];simp
theorem has_true {p q : Pt} {d : Nat} (h : Ext p q d) : ∀ (l : List UInt8) (i : Nat), p.has l i = true → q.has l (i + d) = true
 | [], _, _ => rfl
 | c :: l, i, e => by rw [Pt.has] at e ⊢;simp only [Bool.and_eq_true, decide_eq_true_eq] at e ⊢;obtain ⟨⟨e1, e2⟩, e3⟩ := e;have := h.le;refine ⟨⟨by omega, by rw [h.g i e1]; exact e2⟩, ?_⟩;rw [show i + d + 1 = i + 1 + d by omega];exact has_true h l (i + 1) e3
theorem has_oneX {p q : Pt} {d : Nat} (h : Ext p q d) {c : UInt8} {i : Nat} (hi : i < p.n) : q.has [c] (i + d) = p.has [c] i := by have := h.le;show (decide (i + d < q.n) && decide (q.g (i + d) = (c.toNat : Int)) && true) = (decide (i < p.n) && decide (p.g i = (c.toNat : Int)) && true);rw [h.g i hi, decide_eq_true hi, decide_eq_true (show i + d < q.n by omega)]
theorem has_inX (p : Pt) : ∀ (l : List UInt8) (i : Nat), p.has l i = true → l ≠ [] → i + l.length ≤ p.n
 | [], _, _, hl => absurd rfl hl
 | c :: l, i, e, _ => by
  rw [Pt.has] at e;simp only [Bool.and_eq_true, decide_eq_true_eq] at e;obtain ⟨⟨e1, e2⟩, e3⟩ := e;by_cases hl : l = []
  ·subst hl; simp only [List.length_cons, List.length_nil]; omega
  ·have := has_inX p l (i + 1) e3 hl;simp only [List.length_cons]; omega
theorem run_bdX (p : Pt) (fits : Int → Bool) : ∀ (k i : Nat), i ≤ p.run fits k i ∧ (i ≤ p.n → p.run fits k i ≤ p.n)
 | 0, i => ⟨xL _, fun h => h⟩
 | k + 1, i => by
  have ih := run_bdX p fits k (i + 1);rw [Pt.run];split
  ·rename_i e;simp only [Bool.and_eq_true, decide_eq_true_eq] at e;exact ⟨by omega, fun _ => ih.2 e.1⟩
  ·exact ⟨xL _, fun h => h⟩
theorem run_eq {p q : Pt} {d : Nat} (h : Ext p q d) {fits : Int → Bool} (hs : fits 41 = false ∧ fits 124 = false ∧ fits 10 = false) : ∀ (k i : Nat), i ≤ p.n → q.run fits k (i + d) = p.run fits k i + d
 | 0, _, _ => rfl
 | k + 1, i, hi => by
  rw [Pt.run, Pt.run];by_cases hlt : i < p.n
  ·have := h.le;rw [h.g i hlt, decide_eq_true hlt, decide_eq_true (show i + d < q.n by omega), show i + d + 1 = i + 1 + d by omega, run_eq h hs k (i + 1) hlt];split <;> rfl
  ·rw [decide_eq_false hlt];rcases h.n with hn | ⟨hn, hq⟩
   ·rw [decide_eq_false (show ¬ i + d < q.n by omega)]; rfl
   ·rw [show i + d = p.n + d by omega];have : fits (q.g (p.n + d)) = false := by
     rcases hq with e | e | e <;> rw [e]
     ·exact hs.1
     ·exact hs.2.1
     ·exact hs.2.2
    rw [this];simp only [Bool.and_false, Bool.false_and, Bool.false_eq_true, if_false];omega
theorem sub_eq {p q : Pt} {d : Nat} (h : Ext p q d) {a b : Nat} (hb : b ≤ p.n) : q.sub (a + d) (b + d) = p.sub a b := by
 unfold Pt.sub;rw [show b + d - (a + d) = b - a by omega]
 congr 1
 refine List.map_congr_left (fun i hi => ?_);rw [List.mem_range] at hi;rw [show a + d + i = a + i + d by omega];exact h.g _ (by omega)
theorem val_eq {p q : Pt} {d : Nat} (h : Ext p q d) {a : Nat} : ∀ k, a + k ≤ p.n → q.val (a + d) k = p.val a k
 | 0, _ => rfl
 | k + 1, hk => by rw [Pt.val, Pt.val, val_eq h k (by omega), show a + d + k = a + k + d by omega, h.g _ (by omega)]
theorem digits_eq {p q : Pt} {d : Nat} (h : Ext p q d) {i : Nat} (hi : i ≤ p.n) : q.digits (i + d) = ((p.digits i).1, (p.digits i).2 + d) := by have r := run_bdX p isDig 1000 i;unfold Pt.digits;rw [run_eq h (by decide) _ _ hi, show p.run isDig 1000 i + d - (i + d) = p.run isDig 1000 i - i by omega, val_eq h _ (by have := r.2 hi; omega)]
theorem digits_bdX (p : Pt) {i : Nat} (hi : i ≤ p.n) : i ≤ (p.digits i).2 ∧ (p.digits i).2 ≤ p.n := ⟨(run_bdX p isDig 1000 i).1, (run_bdX p isDig 1000 i).2 hi⟩
theorem num_eq {p q : Pt} {d : Nat} (h : Ext p q d) {i : Nat} (hi : i ≤ p.n) : num q (i + d) = ((num p i).1, (num p i).2.1 + d, (num p i).2.2) := by unfold num;rw [digits_eq h hi]
theorem num_bdX (p : Pt) {i : Nat} (hi : i ≤ p.n) : i ≤ (num p i).2.1 ∧ (num p i).2.1 ≤ p.n := digits_bdX p hi
theorem sign_eqX {p q : Pt} {d : Nat} (h : Ext p q d) {i : Nat} (hi : i ≤ p.n) : q.sign (i + d) = ((p.sign i).1, (p.sign i).2 + d) := by
 unfold Pt.sign;rw [has_eq h [45] i hi (by decide), has_eq h [43] i hi (by decide)]
 repeat' split
 all_goals simp only [Prod.mk.injEq, true_and]
 all_goals omega
theorem sign_bdX (p : Pt) {i : Nat} (hi : i ≤ p.n) : i ≤ (p.sign i).2 ∧ (p.sign i).2 ≤ p.n := by
 unfold Pt.sign;split
 ·rename_i e; have := has_inX p _ _ e (by simp); simp at this; simp; omega
 ·split
  ·rename_i e; have := has_inX p _ _ e (by simp); simp at this; simp; omega
  ·simp; omega
theorem mode_eq {p q : Pt} {d : Nat} (h : Ext p q d) {i : Nat} (hi : i ≤ p.n) : q.mode (i + d) = ((p.mode i).1, (p.mode i).2 + d) := by
 unfold Pt.mode;rw [has_eq h [63] i hi (by decide), has_eq h [43] i hi (by decide)]
 repeat' split
 all_goals simp only [Prod.mk.injEq, true_and]
 all_goals omega
theorem sgn_eq {p q : Pt} {d : Nat} (h : Ext p q d) {i : Nat} (hi : i ≤ p.n) : sgn q (i + d) = ((sgn p i).1, (sgn p i).2.1, (sgn p i).2.2.1 + d, (sgn p i).2.2.2) := by
 have hs := sign_bdX p hi;unfold sgn;rw [sign_eqX h hi];simp only;rw [num_eq h hs.2];by_cases e : (num p (p.sign i).2).2.1 = (p.sign i).2
 ·rw [if_pos e, if_pos (by simp only; omega)]
 ·rw [if_neg e, if_neg (by simp only; omega)]
theorem sgn_bdX (p : Pt) {i : Nat} (hi : i ≤ p.n) : i ≤ (sgn p i).2.2.1 ∧ (sgn p i).2.2.1 ≤ p.n := by
 have hs := sign_bdX p hi;have hn := num_bdX p hs.2;unfold sgn;split
 ·exact ⟨xL _, hi⟩
 ·exact ⟨by simp only; omega, hn.2⟩
theorem name_eq {p q : Pt} {d : Nat} (h : Ext p q d) {i : Nat} (hi : i ≤ p.n) : q.name (i + d) = ((p.name i).1 + d, (p.name i).2) := by
 have r := run_bdX p isWrd 1000 i;unfold Pt.name;rw [run_eq h (by decide) _ _ hi];simp only [Prod.mk.injEq, true_and];rw [show p.run isWrd 1000 i + d - (i + d) = p.run isWrd 1000 i - i by omega];by_cases hlt : i < p.run isWrd 1000 i
 ·rw [h.g i (by have := r.2 hi; omega), decide_eq_true hlt, decide_eq_true (show i + d < p.run isWrd 1000 i + d by omega)]
 ·rw [decide_eq_false hlt, decide_eq_false (show ¬ i + d < p.run isWrd 1000 i + d by omega)];rfl
theorem name_bdX (p : Pt) {i : Nat} (hi : i ≤ p.n) : i ≤ (p.name i).1 ∧ (p.name i).1 ≤ p.n := ⟨(run_bdX p isWrd 1000 i).1, (run_bdX p isWrd 1000 i).2 hi⟩
theorem find_eq {p q : Pt} {d : Nat} (h : Ext p q d) (c : Int) : ∀ k a, a + k ≤ p.n → q.find c k (a + d) = (p.find c k a).map (· + d)
 | 0, _, _ => rfl
 | k + 1, a, hk => by rw [Pt.find, Pt.find, h.g a (by omega), show a + d + 1 = a + 1 + d by omega, find_eq h c k (a + 1) (by omega)];split <;> rfl
theorem find_more (p : Pt) (c : Int) : ∀ k k' a r, p.find c k a = some r → k ≤ k' → p.find c k' a = some r
 | 0, _, _, _, e, _ => by cases e
 | k + 1, 0, _, _, _, hk => by omega
 | k + 1, k' + 1, a, r, e, hk => by
  rw [Pt.find] at e ⊢;split
  ·rename_i hc; rw [if_pos hc] at e; exact e
  ·rename_i hc; rw [if_neg hc] at e; exact find_more p c k k' (a + 1) r e (by omega)
theorem find_bdX (p : Pt) (c : Int) : ∀ k a r, p.find c k a = some r → a ≤ r ∧ r < a + k
 | 0, _, _, e => by cases e
 | k + 1, a, r, e => by
  rw [Pt.find] at e;split at e
  ·cases e; omega
  ·have := find_bdX p c k (a + 1) r e; omega
theorem until_ok {p q : Pt} {d : Nat} (h : Ext p q d) {c : Int} {a r : Nat} (e : p.until c a = some r) : q.until c (a + d) = some (r + d) := by have := h.le;unfold Pt.until at e ⊢;have b := find_bdX p c _ _ _ e;refine find_more q c (p.n - a) _ _ _ ?_ (by omega);rw [find_eq h c _ _ (by omega), e];rfl
theorem until_bdX {p : Pt} {c : Int} {a r : Nat} (e : p.until c a = some r) : a ≤ r ∧ r < p.n := by have b := find_bdX p c _ _ _ e;omega
theorem hexVal_eq {p q : Pt} {d : Nat} (h : Ext p q d) {a : Nat} : ∀ k, a + k ≤ p.n → q.hexVal (a + d) k = p.hexVal a k
 | 0, _ => rfl
 | k + 1, hk => by rw [Pt.hexVal, Pt.hexVal, hexVal_eq h k (by omega), show a + d + k = a + k + d by omega, h.g _ (by omega)]
theorem hexd_eq {p q : Pt} {d : Nat} (h : Ext p q d) {m i : Nat} (hi : i ≤ p.n) : q.hexd m (i + d) = ((p.hexd m i).1, (p.hexd m i).2 + d) := by have r := run_bdX p zn m i;unfold Pt.hexd;rw [run_eq h (by decide) _ _ hi, show p.run zn m i + d - (i + d) = p.run zn m i - i by omega, hexVal_eq h _ (by have := r.2 hi; omega)]
theorem hexd_bdX (p : Pt) {m i : Nat} (hi : i ≤ p.n) : i ≤ (p.hexd m i).2 ∧ (p.hexd m i).2 ≤ p.n := ⟨(run_bdX p zn m i).1, (run_bdX p zn m i).2 hi⟩
theorem hexC_eq {p q : Pt} {d : Nat} (h : Ext p q d) (v : Int) (k : Nat) : hexC q (v, k + d) = (hexC p (v, k)).map (fun r => (r.1, r.2 + d)) := by unfold hexC;rw [h.most, h.u];split <;> rfl
theorem hexz_eq {p q : Pt} {d : Nat} (h : Ext p q d) {i : Nat} (hi : i ≤ p.n) : hexz q (i + d) = (hexz p i).map (fun r => (r.1, r.2 + d)) := by
 unfold hexz;rw [has_eq h [123] i hi (by decide)];by_cases e : p.has [123] i = true
 ·have hi1 : i + 1 ≤ p.n := has_inX p _ _ e (by simp);have hb := hexd_bdX p (m := 7) (i := i + 1) hi1;rw [if_pos e, if_pos e, show i + d + 1 = i + 1 + d by omega, hexd_eq h hi1];simp only;rw [has_eq h [125] _ hb.2 (by decide), show (p.hexd 7 (i + 1)).2 + d + 1 = (p.hexd 7 (i + 1)).2 + 1 + d by omega, hexC_eq h];by_cases e2 : (p.hexd 7 (i + 1)).2 = i + 1 ∨ i + 7 < (p.hexd 7 (i + 1)).2 ∨ p.has [125] (p.hexd 7 (i + 1)).2 = false
  ·rw [if_pos e2, if_pos]
   ·rfl
   ·rcases e2 with e2 | e2 | e2
    ·exact Or.inl (by omega)
    ·exact Or.inr (Or.inl (by omega))
    ·exact Or.inr (Or.inr e2)
  ·rw [if_neg e2, if_neg];intro h2;apply e2;rcases h2 with h2 | h2 | h2
   ·exact Or.inl (by omega)
   ·exact Or.inr (Or.inl (by omega))
   ·exact Or.inr (Or.inr h2)
 ·rw [if_neg e, if_neg e, hexd_eq h hi, hexC_eq h]
theorem conts_same {g g' : Nat → Int} {a b : Nat} : ∀ k, (∀ j, j < k → g' (b + 1 + j) = g (a + 1 + j)) → conts g' b k = conts g a k
 | 0, _ => rfl
 | k + 1, h => by rw [conts, conts, conts_same k (fun j hj => h j (by omega)), h k (by omega)]
theorem acc_same {g g' : Nat → Int} {a b : Nat} {x : Int} (h0 : g' b = g a) : ∀ k, (∀ j, j < k → g' (b + 1 + j) = g (a + 1 + j)) → acc g' b x k = acc g a x k
 | 0, _ => by rw [acc, acc, h0]
 | k + 1, h => by rw [acc, acc, acc_same h0 k (fun j hj => h j (by omega)), h k (by omega)]
theorem seqAt_eq {p q : Pt} {d : Nat} (h : Ext p q d) {i : Nat} (hi : i < p.n) : seqAt q.g q.n (i + d) = seqAt p.g p.n i := by
 have h0 := h.g i hi;have hL := len0_cases (p.g i);by_cases hin : (i : Int) + len0 (p.g i) ≤ p.n
 ·have hj : ∀ j, j < (len0 (p.g i) - 1).toNat → q.g (i + d + 1 + j) = p.g (i + 1 + j) := fun j hj => by rw [show i + d + 1 + j = i + 1 + j + d by omega];exact h.g _ (by omega)
  unfold seqAt;rw [h0, conts_same _ hj, acc_same h0 _ hj];have := h.le;by_cases e : len0 (p.g i) = 0
  ·rw [if_pos (Or.inl e), if_pos (Or.inl e)]
  ·rw [if_neg (c := len0 (p.g i) = 0 ∨ (q.n : Int) - ((i + d : Nat) : Int) < len0 (p.g i)) (by omega), if_neg (c := len0 (p.g i) = 0 ∨ (p.n : Int) - (i : Int) < len0 (p.g i)) (by omega)]
 ·rw [seqAt_none (g := p.g) (n := p.n) (p := i) (Or.inr (by omega))];rcases h.n with hn | ⟨hn, hs⟩
  ·exact seqAt_none (Or.inr (by rw [h0]; omega))
  ·refine seqAt_cont (k := p.n - i - 1) (s := len0 (p.g i)) (by rw [h0]) (by omega) ?_;rw [show i + d + 1 + (p.n - i - 1) = p.n + d by omega];unfold StX at hs;omega
theorem char_eq {p q : Pt} {d : Nat} (h : Ext p q d) {i : Nat} (hi : i < p.n) : q.char (i + d) = ((p.char i).1, (p.char i).2 + d) := by
 have := h.le;unfold Pt.char nextP;rw [if_neg (by omega), if_neg (by omega), Int.toNat_natCast, Int.toNat_natCast];unfold stepv;rw [seqAt_eq h hi, h.u, h.g i hi];split
 ·simp only [Prod.mk.injEq, true_and]; omega
 ·simp only [Prod.mk.injEq, true_and]; omega
def shT (d : Nat) (t : Tk) : Tk := { t with at_ := t.at_ + d, «to» := t.to + d }
def shG (d : Nat) (r : Option Tk × Nat) : Option Tk × Nat := (r.1.map (shT d), r.2 + d)
def shI (d : Nat) (r : List Rg × Bool × Nat) : List Rg × Bool × Nat := (r.1, r.2.1, r.2.2 + d)
theorem ite_ext {ε α β : Type} {c c' : Prop} [Decidable c] [Decidable c'] {A A2 : Except ε α} {B B2 : Except ε β} {r : α} {r' : β} (hc : c' ↔ c) (h1 : c → A = .ok r → B = .ok r') (h2 : ¬ c → A2 = .ok r → B2 = .ok r') (e : (if c then A else A2) = .ok r) : (if c' then B else B2) = .ok r' := by
 by_cases k : c
 ·rw [if_pos k] at e; rw [if_pos (hc.2 k)]; exact h1 k e
 ·rw [if_neg k] at e; rw [if_neg (fun x => k (hc.1 x))]; exact h2 k e
theorem er_ext {P : Prop} {ε α : Type} {x : ε} {r : α} (e : (Except.error x : Except ε α) = .ok r) : P := by cases e
theorem gtok_ext {d : Nat} {t : Tk} {f b f' b' : Nat} {r : Option Tk × Nat} (hf : f' = f + d) (hb : b' = b + d) (e : gtok t f b = .ok r) : gtok t f' b' = .ok (shG d r) := by subst hf; subst hb;unfold gtok at e ⊢;cases e;rfl
theorem seqAt_in {g : Nat → Int} {n i : Nat} (hi : i < n) (h : 0 < (seqAt g n i).2) : (i : Int) + (seqAt g n i).2 ≤ n := by
 unfold seqAt at h ⊢;by_cases h1 : len0 (g i) = 0 ∨ (n : Int) - i < len0 (g i)
 ·rw [if_pos h1] at h; exact absurd h (by decide)
 ·rw [if_neg h1] at h ⊢;split
  ·simp only; omega
  ·simp only; omega
theorem char_bdX (p : Pt) {i : Nat} (hi : i < p.n) : i < (p.char i).2 ∧ (p.char i).2 ≤ p.n := by
 unfold Pt.char nextP;rw [if_neg (by omega), Int.toNat_natCast];unfold stepv;split
 ·rename_i h0;have := seqAt_in hi h0.2;have := h0.2;simp only;omega
 ·simp only;omega
theorem char_lowX (p : Pt) {i : Nat} (hi : i < p.n) {c : Int} (h : p.g i = c) (h0 : 0 ≤ c) (h1 : c < 128) : p.char i = (c, i + 1) := by
 have hs : seqAt p.g p.n i = (c, 1) := by
  have hl : len0 (p.g i) = 1 := by rw [h]; unfold len0; rw [if_pos h1]
  have hw : wid (acc p.g i (head0 1) 0) = 1 := by show wid (p.g i - 0) = 1;rw [h];unfold wid;rw [if_neg (by omega), if_pos (by omega)]
  rw [seqAt_full (k := 0) hl (by decide) (by omega) (by decide) rfl, if_pos hw];show (p.g i - 0, (1 : Int)) = (c, 1);rw [h];simp
 unfold Pt.char nextP;rw [if_neg (by omega), Int.toNat_natCast];unfold stepv;rw [hs];split
 ·simp only [Prod.mk.injEq, true_and]; omega
 ·simp only [Prod.mk.injEq]; exact ⟨h, by omega⟩
theorem brac_ext {p q : Pt} {d : Nat} (h : Ext p q d) {i : Nat} {r : ByteArray × Nat} (e : brac p i = some r) : brac q (i + d) = some (r.1, r.2 + d) ∧ r.2 ≤ p.n := by
 have hle := h.le;unfold brac at e ⊢;by_cases h0 : p.n ≤ i
 ·rw [if_pos h0] at e; cases e
 rw [if_neg h0] at e;rw [if_neg (by omega), h.g i (by omega), char_eq h (by omega)];have hc := char_bdX p (i := i) (by omega);by_cases h1 : p.g i = 123
 ·rw [if_pos h1] at e ⊢;cases hu : p.until 125 (i + 1) with
  | none => rw [hu] at e; cases e
  | some k =>
   have hk := until_bdX hu;rw [hu] at e;rw [show i + d + 1 = i + 1 + d by omega, until_ok h hu];simp only [Option.some.injEq] at e ⊢;subst e;rw [sub_eq h (by omega)];exact ⟨by simp only [Prod.mk.injEq, true_and]; omega, by simp only; omega⟩
 ·rw [if_neg h1] at e ⊢;simp only [Option.some.injEq] at e ⊢;subst e;rw [sub_eq h hc.2];exact ⟨rfl, hc.2⟩
theorem many_ext {p q : Pt} {d : Nat} (h : Ext p q d) {c : Int} {i : Nat} {r : Option (List Rg × Bool × Nat)} (e : many p c i = .ok r) : many q c (i + d) = .ok (r.map (shI d)) ∧ (i ≤ p.n → ∀ x ∈ r, x.2.2 ≤ p.n) := by
 unfold many at e ⊢;by_cases h0 : c = 112 ∨ c = 80
 ·rw [if_pos h0] at e ⊢;cases hb : brac p i with
  | none => rw [hb] at e; cases e
  | some x =>
   obtain ⟨s, to_⟩ := x;obtain ⟨b1, b2⟩ := brac_ext h hb;rw [hb] at e;rw [b1];simp only at e ⊢;by_cases h1 : isP (unhat s) = true
   ·rw [if_pos h1] at e ⊢;cases e;rw [h.most];refine ⟨rfl, fun _ x hx => ?_⟩;cases hx;exact b2
   ·rw [if_neg h1] at e; cases e
 ·rw [if_neg h0] at e ⊢;by_cases h1 : escB (lowC c) = true
  ·rw [if_pos h1] at e ⊢;cases e;rw [h.most];refine ⟨rfl, fun hi x hx => ?_⟩;cases hx;exact hi
  ·rw [if_neg h1] at e ⊢;cases e;exact ⟨rfl, fun _ x hx => by cases hx⟩
def FrX (l : List UInt8) : Prop := ∀ c ∈ l, c.toNat ≠ 41 ∧ c.toNat ≠ 124 ∧ c.toNat ≠ 10
theorem fr_one (c : UInt8) (h : c.toNat ≠ 41 ∧ c.toNat ≠ 124 ∧ c.toNat ≠ 10) : FrX [c] := fun x hx => by
 rw [List.mem_singleton] at hx;subst hx;exact h
theorem back_ext {p q : Pt} {d : Nat} (h : Ext p q d) {f z : Nat} (hz : z ≤ p.n) {r : Option Tk × Nat} : ∀ l : List (List UInt8 × List UInt8), (∀ x ∈ l, x.1 ≠ [] ∧ FrX x.1 ∧ FrX x.2) → backR p f z l = .ok r → backR q (f + d) (z + d) l = .ok (shG d r)
 | [], _, e => by cases e
 | (o, y) :: l, hl, e => by
  have ih := back_ext h (f := f) hz (r := r) l (fun x hx => hl x (List.mem_cons_of_mem _ hx));obtain ⟨l1, l2, l3⟩ := hl (o, y) List.mem_cons_self;rw [backR] at e ⊢;rw [has_eq h o z hz l2];by_cases h1 : p.has o z = true
  ·rw [if_pos h1] at e ⊢;have b1 : z + 1 ≤ p.n := by
    have := has_inX p _ _ h1 l1;cases o with
    | nil => exact absurd rfl l1
    | cons a t => simp only [List.length_cons] at this; omega
   have b2 := name_bdX p b1;rw [show z + d + 1 = z + 1 + d by omega, name_eq h b1];simp only;rw [has_eq h y _ b2.2 l3, sub_eq h b2.2];exact ite_ext Iff.rfl (fun _ => gtok_ext rfl (by omega)) (fun _ => ih) e
  ·rw [if_neg h1] at e ⊢;exact ih e
theorem quotes_eq {p q : Pt} {d : Nat} (h : Ext p q d) {i : Nat} (hi : i ≤ p.n) : q.quotes (i + d) = ((p.quotes i).1, (p.quotes i).2.1, (p.quotes i).2.2 + d) ∧ (p.quotes i).2.2 ≤ p.n ∧ FrX (p.quotes i).2.1 := by
 unfold Pt.quotes;rw [has_eq h [60] i hi (by decide), has_eq h [39] i hi (by decide), has_eq h [123] i hi (by decide)];split
 ·rename_i e;exact z125
 ·split
  ·rename_i e;exact z125
  ·split
   ·rename_i e;exact z125
   ·exact ⟨rfl, hi, fun _ hx => by cases hx⟩
theorem refR_ext {p q : Pt} {d : Nat} (h : Ext p q d) {f i : Nat} (hi : i ≤ p.n) {r : Option Tk × Nat} (e : refR p f i = .ok r) : refR q (f + d) (i + d) = .ok (shG d r) := by
 obtain ⟨k1, k2, k3⟩ := quotes_eq h hi;have s2 := sgn_bdX p k2;have n2 := name_bdX p k2;unfold refR at e ⊢;rw [k1];dsimp only at e ⊢;rw [sgn_eq h k2, name_eq h k2];dsimp only;rw [has_eq h _ _ s2.2 k3, has_eq h _ _ n2.2 k3, sub_eq h n2.2];revert e;refine ite_ext Iff.rfl (fun _ => er_ext) (fun _ => ?_);refine ite_ext (by omega) (fun _ => ?_) (fun _ => ?_)
 ·refine ite_ext Iff.rfl (fun _ => er_ext) (fun _ => ?_);exact ite_ext Iff.rfl (fun _ => er_ext) (fun _ => gtok_ext rfl (by omega))
 ·exact ite_ext Iff.rfl (fun _ => er_ext) (fun _ => gtok_ext rfl (by omega))
theorem hexz_bd (p : Pt) {i : Nat} (hi : i ≤ p.n) {r : Int × Nat} (e : hexz p i = some r) : r.2 ≤ p.n := by
 have hC : ∀ x : Int × Nat, x.2 ≤ p.n → hexC p x = some r → r.2 ≤ p.n := fun x hx e => by
  unfold hexC at e;split at e
  ·cases e
  ·cases e; exact hx
 unfold hexz at e;split at e
 ·split at e
  ·cases e
  ·rename_i h1;have h2 : p.has [125] (p.hexd 7 (i + 1)).2 = true := by
    cases h3 : p.has [125] (p.hexd 7 (i + 1)).2 with
    | true => rfl
    | false => exact absurd (Or.inr (Or.inr h3)) h1
   exact hC _ (has_inX p _ _ h2 (by simp)) e
 ·exact hC _ (hexd_bdX p hi).2 e
theorem esc_ext {p q : Pt} {d : Nat} (h : Ext p q d) {i : Nat} (hi : i < p.n) {r : Option Tk × Nat} (e : escR p i = .ok r) : escR q (i + d) = .ok (shG d r) := by
 have hle := h.le;unfold escR at e ⊢;by_cases h0 : i + 1 = p.n
 ·rw [if_pos h0] at e; cases e
 rw [if_neg h0] at e;rw [if_neg (by omega)];have hc := char_bdX p (i := i + 1) (by omega);rw [show i + d + 1 = i + 1 + d by omega, char_eq h (by omega), num_eq h (by omega)];dsimp only at e ⊢;rw [hexz_eq h hc.2];revert e;refine ite_ext Iff.rfl (fun _ => gtok_ext rfl rfl) (fun _ => ?_);refine ite_ext Iff.rfl (fun _ e => ?_) (fun _ => ?_)
 ·cases hx : hexz p (p.char (i + 1)).2 with
  | none => rw [hx] at e; cases e
  | some x => rw [hx] at e; exact gtok_ext rfl rfl e
 refine ite_ext Iff.rfl (fun _ => gtok_ext rfl rfl) (fun _ => ?_);refine ite_ext Iff.rfl (fun _ => gtok_ext rfl rfl) (fun _ => ?_);refine ite_ext Iff.rfl (fun _ => gtok_ext rfl rfl) (fun _ => ?_);refine ite_ext Iff.rfl (fun _ => gtok_ext rfl rfl) (fun _ => ?_);refine ite_ext Iff.rfl (fun _ e => ?_) (fun _ => ?_)
 ·cases e; rfl
 refine ite_ext Iff.rfl (fun _ => ?_) (fun _ => ?_)
 ·exact ite_ext Iff.rfl (fun _ => er_ext) (fun _ => gtok_ext rfl rfl)
 refine ite_ext Iff.rfl (fun _ => refR_ext h hc.2) (fun _ => ?_);refine ite_ext Iff.rfl (fun _ => back_ext h hc.2 _ (by unfold quotT FrX; decide)) (fun _ e => ?_);cases hm : many p (p.char (i + 1)).1 (p.char (i + 1)).2 with
 | error x => rw [hm] at e; cases e
 | ok x =>
  rw [(many_ext h hm).1];rw [hm] at e;cases x with
  | none => exact ite_ext Iff.rfl (fun _ => er_ext) (fun _ => gtok_ext rfl rfl) e
  | some x => exact gtok_ext rfl rfl e
theorem itemE_ext {p q : Pt} {d : Nat} (h : Ext p q d) {i b : Nat} (hb : b < p.n) {r : List Rg × Bool × Nat} (e : itemE p i b = .ok r) : itemE q (i + d) (b + d) = .ok (shI d r) ∧ r.2.2 ≤ p.n := by
 have hc := char_bdX p hb;unfold itemE at e ⊢;rw [char_eq h hb];dsimp only at e ⊢;rw [hexz_eq h hc.2];by_cases t0 : (p.char b).1 = 120
 ·rw [if_pos t0] at e ⊢;cases hx : hexz p (p.char b).2 with
  | none => rw [hx] at e; cases e
  | some x =>
   have := hexz_bd p hc.2 hx;rw [hx] at e;cases e;exact ⟨rfl, this⟩
 rw [if_neg t0] at e ⊢;by_cases t1 : ji (p.char b).1 ≠ 0
 ·rw [if_pos t1] at e ⊢;cases e;exact ⟨rfl, hc.2⟩
 rw [if_neg t1] at e ⊢;by_cases t2 : (p.char b).1 = 98
 ·rw [if_pos t2] at e ⊢;cases e;exact ⟨rfl, hc.2⟩
 rw [if_neg t2] at e ⊢;cases hm : many p (p.char b).1 (p.char b).2 with
 | error x => rw [hm] at e; cases e
 | ok x =>
  obtain ⟨m1, m2⟩ := many_ext h hm;rw [m1];rw [hm] at e;cases x with
  | none =>
   simp only [Option.map_none] at e ⊢;by_cases t3 : (isLet (p.char b).1 || isDig (p.char b).1) = true
   ·rw [if_pos t3] at e; cases e
   ·rw [if_neg t3] at e ⊢;cases e;exact ⟨rfl, hc.2⟩
  | some x =>
   obtain ⟨l, neg, k⟩ := x;have := m2 hc.2 _ rfl;cases e;refine ⟨?_, this⟩;simp only [Option.map_some, shI, notL, h.most]
theorem itemC_ext {p q : Pt} {d : Nat} (h : Ext p q d) {i : Nat} (hi : i < p.n) {r : List Rg × Bool × Nat} (e : itemC p i = .ok r) : itemC q (i + d) = .ok (shI d r) ∧ r.2.2 ≤ p.n := by
 have hle := h.le;have hc := char_bdX p hi;unfold itemC at e ⊢;rw [char_eq h hi];dsimp only;by_cases t0 : (p.char i).1 = 92
 ·rw [if_pos t0] at e ⊢;by_cases t1 : (p.char i).2 = p.n
  ·rw [if_pos t1] at e; cases e
  ·rw [if_neg t1] at e;rw [if_neg (by omega)];exact itemE_ext h (by omega) e
 ·rw [if_neg t0] at e ⊢;cases e;exact ⟨rfl, hc.2⟩
theorem posB_eq {p q : Pt} {d : Nat} (h : Ext p q d) {i : Nat} (hi : i + 2 ≤ p.n) : posB q (i + d) = posB p i + d ∧ posB p i ≤ p.n ∧ q.has [94] (i + d + 2) = p.has [94] (i + 2) := by
 have e2 : q.has [94] (i + d + 2) = p.has [94] (i + 2) := by rw [show i + d + 2 = i + 2 + d by omega, has_eq h [94] _ hi (by decide)]
 unfold posB;rw [e2];split
 ·rename_i e;have : i + 2 + 1 ≤ p.n := has_inX p _ _ e (by simp);exact ⟨by omega, by omega, rfl⟩
 ·exact ⟨by omega, hi, rfl⟩
theorem itemR_ext {p q : Pt} {d : Nat} (h : Ext p q d) {i : Nat} (hi : i < p.n) {r : List Rg × Bool × Nat} (e : itemR p i = .ok r) : itemR q (i + d) = .ok (shI d r) ∧ r.2.2 ≤ p.n := by
 unfold itemR at e ⊢;rw [has_eq h [91, 58] i (by omega) (by decide)];by_cases t0 : p.has [91, 58] i = true
 ·have b0 : i + 2 ≤ p.n := has_inX p _ _ t0 (by simp);obtain ⟨b1, b2, b3⟩ := posB_eq h b0;have b4 := (run_bdX p isLet 1000 (posB p i)).2 b2;rw [b1, run_eq h (by decide) _ _ b2, has_eq h [58, 93] _ b4 (by decide), sub_eq h b4, b3];by_cases t1 : p.has [58, 93] (p.run isLet 1000 (posB p i)) = true
  ·have b5 : p.run isLet 1000 (posB p i) + 2 ≤ p.n := has_inX p _ _ t1 (by simp);rw [if_pos ⟨t0, t1⟩] at e ⊢;by_cases t2 : vz (p.sub (posB p i) (p.run isLet 1000 (posB p i))) = true
   ·rw [if_pos t2] at e ⊢;cases e;refine ⟨?_, b5⟩;simp only [shI, notL, h.most, Except.ok.injEq, Prod.mk.injEq, true_and];omega
   ·rw [if_neg t2] at e; cases e
  ·rw [if_neg (fun x => t1 x.2)] at e ⊢;exact itemC_ext h hi e
 ·rw [if_neg (fun x => t0 x.1)] at e ⊢;exact itemC_ext h hi e
theorem range_ext {p q : Pt} {d : Nat} (h : Ext p q d) {i : Nat} (hi : i < p.n) {r : List Rg × Nat} (e : rangeR p i = .ok r) : r.2 ≤ p.n ∧ (¬ (r.2 + 1 = p.n ∧ p.has [45] r.2 = true) → rangeR q (i + d) = .ok (r.1, r.2 + d)) := by
 have hle := h.le;unfold rangeR at e ⊢;cases hI : itemR p i with
 | error x => rw [hI] at e; cases e
 | ok x =>
  obtain ⟨l1, s1, t1⟩ := x;obtain ⟨a1, a2⟩ := itemR_ext h hi hI;rw [a1];rw [hI] at e;simp only at e a2;show _ ∧ (_ → (if s1 = true ∧ q.has [45] (t1 + d) = true ∧ t1 + d + 1 < q.n ∧ q.g (t1 + d + 1) ≠ 93 then _ else _) = _);have e45 : q.has [45] (t1 + d) = p.has [45] t1 := has_eq h [45] t1 a2 (by decide);by_cases hc : s1 = true ∧ p.has [45] t1 = true ∧ t1 + 1 < p.n ∧ p.g (t1 + 1) ≠ 93
  ·obtain ⟨c1, c2, c3, c4⟩ := hc;rw [if_pos ⟨c1, c2, c3, c4⟩] at e;rw [if_pos ⟨c1, e45.trans c2, by omega, by rw [show t1 + d + 1 = t1 + 1 + d by omega, h.g _ c3]; exact c4⟩, show t1 + d + 1 = t1 + 1 + d by omega];cases hJ : itemR p (t1 + 1) with
   | error x => rw [hJ] at e; cases e
   | ok x =>
    obtain ⟨l2, s2, t2⟩ := x;obtain ⟨b1, b2⟩ := itemR_ext h c3 hJ;rw [b1];rw [hJ] at e;simp only [shI] at e b2 ⊢;by_cases t3 : s2 = false ∨ loR l2 < loR l1
    ·rw [if_pos t3] at e; cases e
    ·rw [if_neg t3] at e;cases e;exact ⟨b2, fun _ => if_neg t3⟩
  ·rw [if_neg hc] at e;cases e;refine ⟨a2, fun hn => ?_⟩;rw [if_neg];rintro ⟨c1, c2, c3, c4⟩;rw [e45] at c2;have c5 : t1 + 1 ≤ p.n := has_inX p _ _ c2 (by simp);have c6 : t1 + 1 < p.n := by
    by_cases c7 : t1 + 1 = p.n
    ·exact absurd ⟨c7, c2⟩ hn
    ·omega
   rw [show t1 + d + 1 = t1 + 1 + d by omega, h.g _ c6] at c4;exact hc ⟨c1, c2, c6, c4⟩
theorem cls_end {p : Pt} {first k i : Nat} {all : List Rg} {r : List Rg × Nat} (e : clsL p first k all i = .ok r) : ¬ (i + 1 = p.n ∧ p.has [45] i = true) := by
 rintro ⟨h1, h2⟩;have hg : p.g i = 45 := by rw [Pt.has] at h2;simp only [Bool.and_eq_true, decide_eq_true_eq] at h2;exact h2.1.2
 have hi : i < p.n := by omega
 have hI : itemR p i = .ok ([(45, 45)], true, i + 1) := by
  unfold itemR;have : p.has [91, 58] i = false := by rw [Pt.has, hg];simp
  rw [this, if_neg (by simp)];unfold itemC;rw [char_lowX p hi hg (by decide) (by decide)];rfl
 have hR : rangeR p i = .ok ([(45, 45)], i + 1) := by
  unfold rangeR;rw [hI];have : p.has [45] (i + 1) = false := by rw [Pt.has, decide_eq_false (by omega)];rfl
  simp only [this];rw [if_neg (by simp)]
 cases k with
 | zero => cases e
 | succ k =>
  rw [clsL, if_neg (by omega), if_neg (by rw [hg]; exact fun x => absurd x.1 (by decide)), hR] at e;simp only at e;cases k with
  | zero => cases e
  | succ k =>
   rw [clsL, if_pos (by omega)] at e;cases e
theorem clsL_ext {p q : Pt} {d : Nat} (h : Ext p q d) {first : Nat} {r : List Rg × Nat} : ∀ (k k' : Nat) (all : List Rg) (i : Nat), k ≤ k' → clsL p first k all i = .ok r → clsL q (first + d) k' all (i + d) = .ok (r.1, r.2 + d)
 | 0, _, _, _, _, e => by cases e
 | k + 1, 0, _, _, hk, _ => by omega
 | k + 1, k' + 1, all, i, hk, e => by
  have hle := h.le;rw [clsL] at e ⊢;by_cases h0 : p.n ≤ i
  ·rw [if_pos h0] at e; cases e
  rw [if_neg h0] at e;rw [if_neg (by omega), h.g i (by omega)];by_cases h1 : p.g i = 93 ∧ first < i
  ·rw [if_pos h1] at e;rw [if_pos ⟨h1.1, by omega⟩];cases e;simp only [Except.ok.injEq, Prod.mk.injEq, true_and];omega
  rw [if_neg h1] at e;rw [if_neg (fun x => h1 ⟨x.1, by omega⟩)];cases hR : rangeR p i with
  | error x => rw [hR] at e; cases e
  | ok x =>
   obtain ⟨l, to_⟩ := x;rw [hR] at e;simp only at e;have a := (range_ext h (by omega) hR).2 (cls_end e);rw [a];exact clsL_ext h k k' _ _ (by omega) e
theorem cls_ext {p q : Pt} {d : Nat} (h : Ext p q d) {f : Nat} (hf : f < p.n) {r : Option Tk × Nat} (e : clsR p f = .ok r) : clsR q (f + d) = .ok (shG d r) := by
 have hle := h.le;unfold clsR at e ⊢;dsimp only at e ⊢;rw [show f + d + 1 = f + 1 + d by omega, has_eq h [94] (f + 1) (by omega) (by decide)];obtain ⟨i, hi⟩ : ∃ i, (if p.has [94] (f + 1) = true then f + 2 else f + 1) = i := ⟨_, rfl⟩;rw [hi] at e;have hi' : (if p.has [94] (f + 1) = true then f + d + 2 else f + 1 + d) = i + d := by rw [← hi];split <;> omega
 rw [hi'];cases hL : clsL p i (p.n + 1 - i) [] i with
 | error x => rw [hL] at e; cases e
 | ok x =>
  rw [hL] at e;rw [clsL_ext h _ (q.n + 1 - (i + d)) _ _ (by omega) hL];simp only at e ⊢;rw [h.most];exact gtok_ext rfl rfl e
theorem len_in (p : Pt) {l : List UInt8} {i : Nat} (e : p.has l i = true) (hi : i ≤ p.n) : i + l.length ≤ p.n := by
 cases l with
 | nil => exact hi
 | cons c l => exact has_inX p _ _ e (by simp)
theorem shut_ext {p q : Pt} {d : Nat} (h : Ext p q d) {t : Tk} {f i : Nat} {s : List UInt8} {x : Int} {r : Option Tk × Nat} (e : shutR p t f i s x = .ok r) : shutR q t (f + d) (i + d) s x = .ok (shG d r) := by
 unfold shutR at e ⊢;by_cases h1 : p.has s i = true
 ·rw [if_pos h1] at e;rw [if_pos (has_true h _ _ h1)];exact gtok_ext rfl (by omega) e
 ·rw [if_neg h1] at e;split at e <;> cases e
theorem call_ext {p q : Pt} {d : Nat} (h : Ext p q d) {t : Tk} {f i : Nat} (hi : i ≤ p.n) {s : List UInt8} {r : Option Tk × Nat} (e : callR p t f i s = .ok r) : callR q t (f + d) (i + d) s = .ok (shG d r) := by
 have hle := h.le;have n2 := name_bdX p hi;unfold callR at e ⊢;rw [name_eq h hi];dsimp only;rw [sub_eq h n2.2];by_cases h0 : p.n ≤ (p.name i).1
 ·rw [if_pos h0] at e; cases e
 rw [if_neg h0] at e;rw [if_neg (by omega)];by_cases h1 : (p.name i).2 = false ∨ p.has s (p.name i).1 = false
 ·rw [if_pos h1] at e; cases e
 rw [if_neg h1] at e;have h2 : p.has s (p.name i).1 = true := by
  cases h3 : p.has s (p.name i).1 with
  | true => rfl
  | false => exact absurd (Or.inr h3) h1
 rw [if_neg]
 ·exact gtok_ext rfl (by omega) e
 ·rintro (x | x)
  ·exact h1 (Or.inl x)
  ·rw [has_true h _ _ h2] at x; cases x
theorem flag_ext {p q : Pt} {d : Nat} (h : Ext p q d) {f : Nat} {r : Option Tk × Nat} : ∀ (k k' i : Nat) (off : Bool) (on of_ : Int), k ≤ k' → flagR p f k i off on of_ = .ok r → flagR q (f + d) k' (i + d) off on of_ = .ok (shG d r)
 | 0, _, _, _, _, _, _, e => by cases e
 | k + 1, 0, _, _, _, _, hk, _ => by omega
 | k + 1, k' + 1, i, off, on, of_, hk, e => by
  have hle := h.le;rw [flagR] at e ⊢;by_cases h0 : p.n ≤ i
  ·rw [if_pos h0] at e; cases e
  rw [if_neg h0] at e;rw [if_neg (by omega), h.g i (by omega), show i + d + 1 = i + 1 + d by omega];revert e;refine ite_ext Iff.rfl (fun _ => gtok_ext rfl rfl) (fun _ => ?_);refine ite_ext Iff.rfl (fun _ => gtok_ext rfl rfl) (fun _ => ?_);refine ite_ext Iff.rfl (fun _ => ?_) (fun _ => ?_)
  ·exact ite_ext Iff.rfl (fun _ => er_ext) (fun _ => flag_ext h k k' _ _ _ _ (by omega))
  refine ite_ext Iff.rfl (fun _ => ?_) (fun _ => er_ext);exact ite_ext Iff.rfl (fun _ => flag_ext h k k' _ _ _ _ (by omega)) (fun _ => flag_ext h k k' _ _ _ _ (by omega))
theorem condE_ext {p q : Pt} {d : Nat} (h : Ext p q d) {f to_ : Nat} {t : Tk} {ok : Bool} {r : Option Tk × Nat} (e : condE p f t to_ ok = .ok r) : condE q (f + d) t (to_ + d) ok = .ok (shG d r) := by
 unfold condE at e ⊢;by_cases h1 : ok = false ∨ p.has [41] to_ = false
 ·rw [if_pos h1] at e; cases e
 rw [if_neg h1] at e;have h2 : p.has [41] to_ = true := by
  cases h3 : p.has [41] to_ with
  | true => rfl
  | false => exact absurd (Or.inr h3) h1
 rw [if_neg]
 ·exact ite_ext Iff.rfl (fun _ => er_ext) (fun _ => gtok_ext rfl (by omega)) e
 ·rintro (x | x)
  ·exact h1 (Or.inl x)
  ·rw [has_true h _ _ h2] at x; cases x
theorem condN_ext {p q : Pt} {d : Nat} (h : Ext p q d) {f i : Nat} (hi : i + 1 ≤ p.n) {z : List UInt8} (hz : FrX z) {r : Option Tk × Nat} (e : condN p f i z = .ok r) : condN q (f + d) (i + d) z = .ok (shG d r) := by have n2 := name_bdX p hi;unfold condN at e ⊢;rw [show i + d + 1 = i + 1 + d by omega, name_eq h hi];dsimp only;rw [sub_eq h n2.2, has_eq h z _ n2.2 hz, show (p.name (i + 1)).1 + d + 1 = (p.name (i + 1)).1 + 1 + d by omega];exact condE_ext h e
theorem cond_ext {p q : Pt} {d : Nat} (h : Ext p q d) {f i : Nat} (hi : i ≤ p.n) {r : Option Tk × Nat} (e : condR p f i = .ok r) : condR q (f + d) (i + d) = .ok (shG d r) := by
 unfold condR at e ⊢;rw [has_eq h [63, 61] i hi (by decide), has_eq h [63, 33] i hi (by decide), has_eq h [63, 60, 61] i hi (by decide), has_eq h [63, 60, 33] i hi (by decide), has_eq h [60] i hi (by decide), has_eq h [39] i hi (by decide), has_eq h [68, 69, 70, 73, 78, 69] i hi (by decide), has_eq h [82, 38] i hi (by decide), has_eq h [82] i hi (by decide), sgn_eq h hi];dsimp only;revert e;refine ite_ext Iff.rfl (fun _ => gtok_ext rfl (by omega)) (fun _ => ?_);refine ite_ext Iff.rfl (fun c => condN_ext h (len_in p c hi) (fr_one _ (by decide))) (fun _ => ?_);refine ite_ext Iff.rfl (fun c => condN_ext h (len_in p c hi) (fr_one _ (by decide))) (fun _ => ?_);refine ite_ext Iff.rfl (fun _ e => ?_) (fun _ => ?_)
 ·rw [show i + d + 6 = i + 6 + d by omega]; exact condE_ext h e
 refine ite_ext Iff.rfl (fun c e => ?_) (fun _ => ?_)
 ·have hi2 : i + 2 ≤ p.n := len_in p c hi;have n2 := name_bdX p hi2;rw [show i + d + 2 = i + 2 + d by omega, name_eq h hi2];dsimp only;rw [sub_eq h n2.2];exact condE_ext h e
 refine ite_ext Iff.rfl (fun c => ?_) (fun _ => ?_)
 ·have hi2 : i + 1 ≤ p.n := len_in p c hi;rw [show i + d + 1 = i + 1 + d by omega, num_eq h hi2];dsimp only;refine ite_ext Iff.rfl (fun _ => er_ext) (fun _ e => ?_);have := condE_ext h e;rw [show (if (num p (i + 1)).2.1 + d = i + 1 + d then (-1 : Int) else (num p (i + 1)).1) = if (num p (i + 1)).2.1 = i + 1 then -1 else (num p (i + 1)).1 from by
   by_cases x : (num p (i + 1)).2.1 = i + 1
   ·rw [if_pos x, if_pos (by omega)]
   ·rw [if_neg x, if_neg (by omega)]]
  exact this
 refine ite_ext Iff.rfl (fun _ => er_ext) (fun _ e => ?_);rw [show decide (i + d < (sgn p i).2.2.1 + d) = decide (i < (sgn p i).2.2.1) from decide_eq_decide.2 (by omega)];exact condE_ext h e
theorem verb_ext {p q : Pt} {d : Nat} (h : Ext p q d) {f : Nat} {r : Option Tk × Nat} (e : verbR p f = .ok r) : verbR q (f + d) = .ok (shG d r) := by
 have hv : ∀ {i : Nat} {word arg : ByteArray} {w : Bool}, verbG f i word arg w = .ok r → verbG (f + d) (i + d) word arg w = .ok (shG d r) := fun {i word arg w} e => by unfold verbG at e ⊢;exact ite_ext Iff.rfl (fun _ => er_ext) (fun _ => gtok_ext rfl (by omega)) e
 unfold verbR at e ⊢;cases hu : p.until 41 (f + 2) with
 | none => rw [hu] at e; cases e
 | some i =>
  have hb := until_bdX hu;rw [hu] at e;rw [show f + d + 2 = f + 2 + d by omega, until_ok h hu];simp only at e ⊢;rw [show i + d - (f + 2 + d) = i - (f + 2) by omega, find_eq h 58 _ _ (by omega)];cases hf : p.find 58 (i - (f + 2)) (f + 2) with
  | none =>
   rw [hf] at e;simp only [Option.map_none] at e ⊢;rw [sub_eq h (by omega)];exact hv e
  | some j =>
   have hj := find_bdX p 58 _ _ _ hf;rw [hf] at e;simp only [Option.map_some] at e ⊢;rw [sub_eq h (by omega), show j + d + 1 = j + 1 + d by omega, sub_eq h (by omega)];exact hv e
theorem kind_ext {p q : Pt} {d : Nat} {f i : Nat} : ∀ l : List (List UInt8 × Int), (∀ x ∈ l, q.has x.1 (i + d) = p.has x.1 i) → (kindR p f i l = none ∧ kindR q (f + d) (i + d) l = none) ∨ ∃ r, kindR p f i l = some (.ok r) ∧ kindR q (f + d) (i + d) l = some (.ok (shG d r))
 | [], _ => Or.inl ⟨rfl, rfl⟩
 | (s, k) :: l, hl => by
  have ih := kind_ext (f := f) l (fun x hx => hl x (List.mem_cons_of_mem _ hx));rw [kindR, kindR, hl (s, k) List.mem_cons_self];by_cases h1 : p.has s i = true
  ·rw [if_pos h1, if_pos h1];exact Or.inr ⟨_, rfl, congrArg some (gtok_ext rfl (by omega) rfl)⟩
  ·rw [if_neg h1, if_neg h1];exact ih
theorem numB_eq {p q : Pt} {d : Nat} (h : Ext p q d) {i : Nat} (hi : i < p.n) : numB q (i + d) = numB p i := by
 have hle := h.le;unfold numB;rw [h.g i hi];by_cases h1 : i + 1 < p.n
 ·rw [show i + d + 1 = i + 1 + d by omega, h.g _ h1, decide_eq_true h1, decide_eq_true (show i + 1 + d < q.n by omega)]
 ·rw [decide_eq_false h1];have : (decide (i + d + 1 < q.n) && isDig (q.g (i + d + 1))) = false := by
   rcases h.n with hn | ⟨hn, hs⟩
   ·rw [decide_eq_false (show ¬ i + d + 1 < q.n by omega)]; rfl
   ·rw [show i + d + 1 = p.n + d by omega];have : isDig (q.g (p.n + d)) = false := by rcases hs with e | e | e <;> rw [e] <;> rfl
    rw [this];simp
  rw [Bool.and_assoc, this];simp
theorem numR_ext {p q : Pt} {d : Nat} (h : Ext p q d) {f i : Nat} (hi : i ≤ p.n) {r : Option Tk × Nat} (e : numR p f i = .ok r) : numR q (f + d) (i + d) = .ok (shG d r) := by
 unfold numR at e ⊢;dsimp only at e ⊢;rw [sgn_eq h hi];dsimp only;revert e;refine ite_ext Iff.rfl (fun _ => er_ext) (fun _ => ?_);refine ite_ext (by omega) (fun _ e => ?_) (fun _ e => ?_)
 ·split at e <;> cases e
 ·cases hs : shutR p { kind := 12, n := (sgn p i).1, m := (sgn p i).2.1 } f (sgn p i).2.2.1 [41] 26 with
  | error x => rw [hs] at e; cases e
  | ok x =>
   rw [shut_ext h hs];rw [hs] at e;simp only at e ⊢;exact ite_ext Iff.rfl (fun _ => er_ext) (fun _ e => by cases e; rfl) e
theorem openK_ext {p q : Pt} {d : Nat} (h : Ext p q d) {f i : Nat} (hi : i < p.n) {r : Option Tk × Nat} (e : openK p f i = .ok r) : openK q (f + d) (i + d) = .ok (shG d r) := by
 have hle := h.le;have hi' : i ≤ p.n := by omega
 unfold openK at e ⊢;rw [has_eq h [35] i hi' (by decide), has_eq h [80, 60] i hi' (by decide), has_eq h [60] i hi' (by decide), has_eq h [39] i hi' (by decide), has_eq h [80, 61] i hi' (by decide), has_eq h [80, 62] i hi' (by decide), has_eq h [38] i hi' (by decide), has_eq h [82] i hi' (by decide), has_eq h [67] i hi' (by decide), has_eq h [40] i hi' (by decide), numB_eq h hi, show i + d + 1 = i + 1 + d by omega, show i + d + 2 = i + 2 + d by omega];revert e;refine ite_ext Iff.rfl (fun _ e => ?_) (fun _ => ?_)
 ·cases hu : p.until 41 i with
  | none => rw [hu] at e; cases e
  | some j =>
   rw [until_ok h hu];rw [hu] at e;cases e;simp only [shG, Option.map_none, Except.ok.injEq, Prod.mk.injEq, true_and];omega
 refine ite_ext Iff.rfl (fun c => call_ext h (len_in p c hi')) (fun _ => ?_);refine ite_ext Iff.rfl (fun c => call_ext h (len_in p c hi')) (fun _ => ?_);refine ite_ext Iff.rfl (fun c => call_ext h (len_in p c hi')) (fun _ => ?_);refine ite_ext Iff.rfl (fun c => call_ext h (len_in p c hi')) (fun _ => ?_);refine ite_ext Iff.rfl (fun c => call_ext h (len_in p c hi')) (fun _ => ?_);refine ite_ext Iff.rfl (fun c => call_ext h (len_in p c hi')) (fun _ => ?_);refine ite_ext Iff.rfl (fun _ => shut_ext h) (fun _ => ?_);refine ite_ext Iff.rfl (fun c => ?_) (fun _ => ?_)
 ·rw [num_eq h (show i + 1 ≤ p.n from len_in p c hi')];exact ite_ext Iff.rfl (fun _ => er_ext) (fun _ => shut_ext h)
 refine ite_ext Iff.rfl (fun c => cond_ext h (len_in p c hi')) (fun _ => ?_);refine ite_ext Iff.rfl (fun _ => numR_ext h hi') (fun _ => ?_);exact flag_ext h _ _ _ _ _ _ (by omega)
theorem open_ext {p q : Pt} {d : Nat} (h : Ext p q d) {f : Nat} (hf : f < p.n) {r : Option Tk × Nat} (e : openR p f = .ok r) : openR q (f + d) = .ok (shG d r) := by
 have hle := h.le;unfold openR at e ⊢;rw [show f + d + 1 = f + 1 + d by omega, has_eq h [42] _ hf (by decide), has_eq h [63] _ hf (by decide), show f + d + 2 = f + 2 + d by omega];revert e;refine ite_ext Iff.rfl (fun _ => verb_ext h) (fun _ => ?_);by_cases h63 : p.has [63] (f + 1) = false
 ·rw [if_pos h63, if_pos h63];exact gtok_ext rfl rfl
 rw [if_neg h63, if_neg h63];have h64 : p.has [63] (f + 1) = true := by simpa using h63
 have h2 : f + 2 ≤ p.n := len_in p h64 hf;by_cases h3 : f + 2 = p.n
 ·rw [if_pos h3]; intro e; cases e
 rw [if_neg h3, if_neg (by omega)];have hk : ∀ x ∈ kindsT, q.has x.1 (f + 2 + d) = p.has x.1 (f + 2) := by
  intro x hx;simp only [kindsT, List.mem_cons, List.not_mem_nil, or_false] at hx;rcases hx with rfl | rfl | rfl | rfl | rfl | rfl | rfl
  ·exact has_oneX h (by omega)
  ·exact has_oneX h (by omega)
  ·exact has_oneX h (by omega)
  ·exact has_oneX h (by omega)
  ·exact has_oneX h (by omega)
  ·exact has_eq h _ _ h2 (by decide)
  ·exact has_eq h _ _ h2 (by decide)
 rcases kind_ext (f := f) kindsT hk with ⟨k1, k2⟩ | ⟨x, k1, k2⟩
 ·rw [k1, k2];exact openK_ext h (by omega)
 ·rw [k1, k2];intro e;cases e;rfl
theorem brac_eq {p q : Pt} {d : Nat} (h : Ext p q d) {i : Nat} (hi : i < p.n) : bracR q (i + d) = (bracR p i).map (fun r => (r.1, r.2.1, r.2.2.1 + d, r.2.2.2)) := by
 have n1 := num_bdX p (i := i + 1) hi;unfold bracR;dsimp only;rw [show i + d + 1 = i + 1 + d by omega, num_eq h (by omega)];dsimp only;rw [has_eq h [44] _ n1.2 (by decide), has_eq h [125] _ n1.2 (by decide)];by_cases h1 : i + 1 < (num p (i + 1)).2.1 ∧ p.has [44] (num p (i + 1)).2.1 = true
 ·have b2 : (num p (i + 1)).2.1 + 1 ≤ p.n := len_in p h1.2 n1.2;have n2 := num_bdX p b2;rw [if_pos h1, if_pos ⟨by omega, h1.2⟩, show (num p (i + 1)).2.1 + d + 1 = (num p (i + 1)).2.1 + 1 + d by omega, num_eq h b2];dsimp only;rw [has_eq h [125] _ n2.2 (by decide)];split
  ·simp only [Option.map_some, Option.some.injEq, Prod.mk.injEq, true_and, and_true];by_cases x : (num p ((num p (i + 1)).2.1 + 1)).2.1 = (num p (i + 1)).2.1 + 1
   ·rw [if_pos x, if_pos (by omega)]
   ·rw [if_neg x, if_neg (by omega)]
  ·rfl
 ·rw [if_neg h1, if_neg (fun x => h1 ⟨by omega, x.2⟩)];by_cases h2 : (num p (i + 1)).2.1 = i + 1 ∨ p.has [125] (num p (i + 1)).2.1 = false
  ·rw [if_pos h2, if_pos]
   ·rfl
   ·rcases h2 with x | x
    ·exact Or.inl (by omega)
    ·exact Or.inr x
  ·rw [if_neg h2, if_neg]
   ·rfl
   ·rintro (x | x)
    ·exact h2 (Or.inl (by omega))
    ·exact h2 (Or.inr x)
theorem quan_ext {p q : Pt} {d : Nat} (h : Ext p q d) {i to_ : Nat} (ht : to_ ≤ p.n) {n m : Int} {r : Option Tk × Nat} (e : quan p i to_ n m = .ok r) : quan q (i + d) (to_ + d) n m = .ok (shG d r) := by unfold quan at e ⊢;rw [mode_eq h ht];exact gtok_ext rfl rfl e
theorem token_ext {p q : Pt} {d : Nat} (h : Ext p q d) {i : Nat} (hi : i < p.n) {r : Option Tk × Nat} (e : tokR p i = .ok r) : tokR q (i + d) = .ok (shG d r) := by
 have hc := char_bdX p hi;unfold tokR at e ⊢;rw [char_eq h hi, h.x];dsimp only at e ⊢;rw [brac_eq h hi];revert e;refine ite_ext Iff.rfl (fun _ e => by cases e; rfl) (fun _ => ?_);by_cases h35 : p.x = true ∧ (p.char i).1 = 35
 ·intro _;exfalso;have h1 := h.nx h35.1 i hi;have h2 := h35.2;unfold Pt.char nextP at h2;rw [if_neg (by omega), Int.toNat_natCast] at h2;unfold stepv at h2;split at h2
  ·rename_i h3;have hs := h3.2;simp only at h2;unfold seqAt at h2 hs;by_cases h4 : len0 (p.g i) = 0 ∨ (p.n : Int) - i < len0 (p.g i)
   ·rw [if_pos h4] at hs; exact absurd hs (by decide)
   ·rw [if_neg h4] at h2 hs;by_cases h5 : conts p.g i (len0 (p.g i) - 1).toNat = true ∧ wid (acc p.g i (head0 (len0 (p.g i))) (len0 (p.g i) - 1).toNat) = len0 (p.g i)
    ·rw [if_pos h5] at h2;simp only at h2;have h6 := h5.2;rw [h2] at h6;have h7 : len0 (p.g i) = 1 := by rw [← h6]; decide
     rw [h7] at h2;have : p.g i - 0 = 35 := h2;omega
    ·rw [if_neg h5] at hs; exact absurd hs (by decide)
  ·exact h1 h2
 rw [if_neg h35, if_neg h35];refine ite_ext Iff.rfl (fun _ => esc_ext h hi) (fun _ => ?_);refine ite_ext Iff.rfl (fun _ => cls_ext h hi) (fun _ => ?_);refine ite_ext Iff.rfl (fun _ => open_ext h hi) (fun _ => ?_);refine ite_ext Iff.rfl (fun _ => gtok_ext rfl rfl) (fun _ => ?_);refine ite_ext Iff.rfl (fun _ => gtok_ext rfl rfl) (fun _ => ?_);refine ite_ext Iff.rfl (fun _ => gtok_ext rfl rfl) (fun _ => ?_);refine ite_ext Iff.rfl (fun _ => gtok_ext rfl rfl) (fun _ => ?_);refine ite_ext Iff.rfl (fun _ => gtok_ext rfl rfl) (fun _ => ?_);refine ite_ext Iff.rfl (fun _ => quan_ext h hc.2) (fun _ => ?_);refine ite_ext Iff.rfl (fun _ => quan_ext h hc.2) (fun _ => ?_);refine ite_ext Iff.rfl (fun _ => quan_ext h hc.2) (fun _ => ?_);refine ite_ext Iff.rfl (fun _ e => ?_) (fun _ => gtok_ext rfl rfl);cases hb : bracR p i with
 | none => rw [hb] at e; exact gtok_ext rfl rfl e
 | some x =>
  obtain ⟨n, m, b, great⟩ := x;rw [hb] at e;simp only [Option.map_some] at e ⊢;have hb1 : b + 1 ≤ p.n := by
   unfold bracR at hb;dsimp only at hb;split at hb
   ·split at hb
    ·rename_i h2;cases hb;exact has_inX p _ _ h2 (by simp)
    ·cases hb
   ·split at hb
    ·cases hb
    ·rename_i h2;cases hb;refine has_inX p [125] _ ?_ (by simp);cases h3 : p.has [125] (num p (i + 1)).2.1 with
     | true => rfl
     | false => exact absurd (Or.inr h3) h2
  revert e;refine ite_ext Iff.rfl (fun _ => er_ext) (fun _ => ?_);refine ite_ext Iff.rfl (fun _ => er_ext) (fun _ e => ?_);rw [show b + d + 1 = b + 1 + d by omega];exact quan_ext h hb1 e
def Go_ (p : Pt) : Prop := ∀ i x k, i < p.n → tokR p i = .ok (x, k) → i < k ∧ k ≤ p.n
theorem lex_ext {p q : Pt} {d : Nat} (h : Ext p q d) (hg : Go_ p) (hQ : q.n = p.n + d ∨ ∀ i, p.has [92, 81] i = false) {R : List Tk} : ∀ (k i : Nat) (b : Bool) (T : List Tk), p.n + 1 - i ≤ k → i ≤ p.n → (q.n = p.n + d ∨ b = false) → lexF p k b T i = .ok R →
 ∃ S, R = T ++ S ∧ ∀ (k' : Nat) (T0 : List Tk), p.n + 1 - i ≤ k' → ∃ k2 b2, k' ≤ k2 + (p.n - i) ∧ (q.n = p.n + d ∨ b2 = false) ∧ lexF q k' b T0 (i + d) = lexF q k2 b2 (T0 ++ S.map (shT d)) (p.n + d)
 | 0, i, _, _, hk, hi, _, _ => by omega
 | k + 1, i, b, T, hk, hi, hb, e => by
  have hle := h.le;rw [lexF] at e;by_cases h0 : p.n ≤ i
  ·rw [if_pos h0] at e;cases e;obtain rfl : i = p.n := by omega
   exact ⟨[], by simp, fun k' T0 hk' => ⟨k', b, by omega, hb, by simp⟩⟩
  rw [if_neg h0] at e;have hi' : i < p.n := by omega
  have hc := char_bdX p hi';have step : ∀ {T' : List Tk} {i' : Nat} {b' : Bool} (S0 : List Tk), i < i' → i' ≤ p.n → (q.n = p.n + d ∨ b' = false) → T' = T ++ S0 → lexF p k b' T' i' = .ok R →
   (∀ k1 T0, lexF q (k1 + 1) b T0 (i + d) = lexF q k1 b' (T0 ++ S0.map (shT d)) (i' + d)) →
   ∃ S, R = T ++ S ∧ ∀ (k' : Nat) (T0 : List Tk), p.n + 1 - i ≤ k' → ∃ k2 b2, k' ≤ k2 + (p.n - i) ∧ (q.n = p.n + d ∨ b2 = false) ∧ lexF q k' b T0 (i + d) = lexF q k2 b2 (T0 ++ S.map (shT d)) (p.n + d) := by
   intro T' i' b' S0 g1 g2 g3 g4 g5 g6;obtain ⟨S, r1, r2⟩ := lex_ext h hg hQ k i' b' T' (by omega) g2 g3 g5;subst g4;refine ⟨S0 ++ S, by rw [r1, List.append_assoc], fun k' T0 hk' => ?_⟩;obtain ⟨k1, rfl⟩ : ∃ k1, k' = k1 + 1 := ⟨k' - 1, by omega⟩;obtain ⟨k2, b2, s1, s2, s3⟩ := r2 k1 (T0 ++ S0.map (shT d)) (by omega);exact ⟨k2, b2, by omega, s2, by rw [g6, s3, List.map_append, List.append_assoc]⟩
  have hn : ¬ q.n ≤ i + d := by omega
  by_cases hq : b = true
  ·have hend : q.n = p.n + d := by
    rcases hb with x | x
    ·exact x
    ·rw [hq] at x; cases x
   subst hq;rw [if_pos rfl] at e;have e69 : q.has [92, 69] (i + d) = p.has [92, 69] i := has_eq h _ _ hi (by decide);by_cases h1 : p.has [92, 69] i = true
   ·rw [if_pos h1] at e;have c2 : i + 2 ≤ p.n := len_in p h1 hi;refine step [] (by omega) c2 (Or.inr rfl) (by simp) e (fun k1 T0 => ?_);rw [lexF, if_neg hn, if_pos rfl, e69, if_pos h1];simp only [List.map_nil, List.append_nil];rw [show i + d + 2 = i + 2 + d by omega]
   ·rw [if_neg h1] at e;refine step [lay { kind := 1, c := (p.char i).1 } i (p.char i).2] hc.1 hc.2 (Or.inl hend) rfl e (fun k1 T0 => ?_);rw [lexF, if_neg hn, if_pos rfl, e69, if_neg h1, char_eq h hi'];rfl
  ·rw [if_neg hq] at e;have e81 : q.has [92, 81] (i + d) = p.has [92, 81] i := has_eq h _ _ hi (by decide);by_cases h1 : p.has [92, 81] i = true
   ·rw [if_pos h1] at e;have hend : q.n = p.n + d := by
     rcases hQ with x | x
     ·exact x
     ·rw [x i] at h1; cases h1
    have c2 : i + 2 ≤ p.n := len_in p h1 hi;refine step [] (by omega) c2 (Or.inl hend) (by simp) e (fun k1 T0 => ?_);rw [lexF, if_neg hn, if_neg hq, e81, if_pos h1];simp only [List.map_nil, List.append_nil];rw [show i + d + 2 = i + 2 + d by omega]
   ·rw [if_neg h1] at e;cases ht : tokR p i with
    | error x => rw [ht] at e; cases e
    | ok x =>
     obtain ⟨t, to_⟩ := x;obtain ⟨b1, b2⟩ := hg i t to_ hi' ht;have ht2 := token_ext h hi' ht;rw [ht] at e;cases t with
     | none =>
      refine step [] b1 b2 (Or.inr rfl) (by simp) e (fun k1 T0 => ?_);rw [lexF, if_neg hn, if_neg hq, e81, if_neg h1, ht2];simp [shG]
     | some t =>
      refine step [t] b1 b2 (Or.inr rfl) rfl e (fun k1 T0 => ?_);rw [lexF, if_neg hn, if_neg hq, e81, if_neg h1, ht2];simp [shG]
end ext
end
end Go.Proofs.YtikjhfmmfpeaoaaGreatDoor
