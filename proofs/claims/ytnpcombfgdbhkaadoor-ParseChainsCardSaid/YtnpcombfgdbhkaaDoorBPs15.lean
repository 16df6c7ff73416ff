/- T -/
import Derived.Test.YtnpcombfgdbhkaaDoorBPs14
set_option maxHeartbeats 16000000
set_option maxRecDepth 1000000
section
namespace Go.Proofs.YtnpcombfgdbhkaaDoor.rtw
open sq
open setw (Wf)
open Go utfp ucdp setp prp tkp rtp
open trp (rises)
structure TkG (t : Tk) : Prop where
 k : 1 ≤ t.kind ∧ t.kind ≤ 15
 h1 : t.kind = 1 → 0 ≤ t.c ∧ t.c ≤ 1114111
 h2 : t.kind = 2 → rises 0 t.set = true
 h4 : t.kind = 4 → 1 ≤ t.n ∧ t.n ≤ 10
 h9 : t.kind = 9 → 0 ≤ t.n ∧ t.n ≤ 255 ∧ (t.m = -1 ∨ (t.n ≤ t.m ∧ t.m ≤ 255)) ∧ 0 ≤ t.mode ∧ t.mode ≤ 2
 ha : t.kind = 10 → 1 ≤ t.n ∧ t.n ≤ 13
 hb : t.kind = 10 → 9 ≤ t.n → -1 ≤ t.mode ∧ t.mode ≤ 255 ∧ 0 ≤ t.m ∧ t.m ≤ 3
 hc : t.kind = 11 ∨ t.kind = 12 → 0 ≤ t.m ∧ t.m ≤ 3 ∧ 0 ≤ t.n ∧ t.n ≤ 255
 hd : t.kind = 13 → 1 ≤ t.n ∧ t.n ≤ 7
 he : t.kind = 14 → 0 ≤ t.n ∧ t.n ≤ 255
def lookAt (p : Pt) (b : Nat) : Prop := p.has [40] b = true ∧ (p.has [63, 61] (b + 1) = true ∨ p.has [63, 33] (b + 1) = true ∨ p.has [63, 60, 61] (b + 1) = true ∨ p.has [63, 60, 33] (b + 1) = true)
def GG (p : Pt) (r : G) : Prop := ∀ t b, r = .ok (some t, b) → TkG t ∧ (t.kind = 10 → t.n = 13 → lookAt p b)
theorem gg_err (p : Pt) (e : Int × Int) : GG p (.error e) := fun t b h => by cases h
theorem gg_none (p : Pt) (b : Nat) : GG p (.ok (none, b)) := fun t b h => by cases h
theorem gg_tok {p : Pt} {t : Tk} (h : TkG t) (h2 : t.kind = 10 → t.n ≠ 13) (f b : Nat) : GG p (gtok t f b) := fun t' b' e => by
 unfold gtok at e;cases e;exact ⟨⟨h.k, h.h1, h.h2, h.h4, h.h9, h.ha, h.hb, h.hc, h.hd, h.he⟩, fun e1 e2 => absurd e2 (h2 e1)⟩
theorem gg_ite {p : Pt} {c : Prop} [Decidable c] {a b : G} (h1 : c → GG p a) (h2 : ¬ c → GG p b) : GG p (if c then a else b) := by
 by_cases h : c
 ·rw [if_pos h]; exact h1 h
 ·rw [if_neg h]; exact h2 h
theorem tg {k c n m mode on off : Int} {neg : Bool} {name : ByteArray} {a b : Nat} (hk : 1 ≤ k ∧ k ≤ 15 ∧ k ≠ 2 := by first | omega | (dsimp only; omega)) (h1 : k = 1 → 0 ≤ c ∧ c ≤ 1114111 := by first | omega | (dsimp only; omega)) (h4 : k = 4 → 1 ≤ n ∧ n ≤ 10 := by first | omega | (dsimp only; omega))
 (h9 : k = 9 → 0 ≤ n ∧ n ≤ 255 ∧ (m = -1 ∨ (n ≤ m ∧ m ≤ 255)) ∧ 0 ≤ mode ∧ mode ≤ 2 := by first | omega | (dsimp only; omega)) (ha : k = 10 → 1 ≤ n ∧ n ≤ 13 := by first | omega | (dsimp only; omega)) (hb : k = 10 → 9 ≤ n → -1 ≤ mode ∧ mode ≤ 255 ∧ 0 ≤ m ∧ m ≤ 3 := by first | omega | (dsimp only; omega)) (hc : k = 11 ∨ k = 12 → 0 ≤ m ∧ m ≤ 3 ∧ 0 ≤ n ∧ n ≤ 255 := by first | omega | (dsimp only; omega)) (hd : k = 13 → 1 ≤ n ∧ n ≤ 7 := by first | omega | (dsimp only; omega)) (he : k = 14 → 0 ≤ n ∧ n ≤ 255 := by first | omega | (dsimp only; omega)) :
 TkG { kind := k, at_ := a, «to» := b, c := c, set := [], neg := neg, n := n, m := m, mode := mode, name := name, on := on, off := off } :=
 ⟨⟨hk.1, hk.2.1⟩, h1, fun e => absurd e hk.2.2, h4, h9, ha, hb, hc, hd, he⟩
theorem rises_of : ∀ (S : List Rg) (lo : Int), Canon S → (∀ r ∈ S, lo ≤ r.1) → rises lo S = true
 | [], _, _, _ => rfl
 | r :: S, lo, ⟨h1, h2⟩, h3 => by have a := h2 r (List.mem_cons_self ..);have b := h3 r (List.mem_cons_self ..);rw [List.pairwise_cons] at h1;unfold rises;rw [rises_of S (r.2 + 2) ⟨h1.2, fun q hq => h2 q (List.mem_cons_of_mem _ hq)⟩ (fun q hq => by have := h1.1 q hq; omega)];simp only [Bool.and_true, Bool.and_eq_true, decide_eq_true_eq];exact ⟨⟨b, a.2.1⟩, a.2.2⟩
theorem ts {l : List Rg} {neg : Bool} {a b : Nat} (h : Canon l) : TkG { kind := 2, at_ := a, «to» := b, set := l, neg := neg } :=
 ⟨by show (1 : Int) ≤ 2 ∧ (2 : Int) ≤ 15; omega, fun e => absurd (show (2 : Int) = 1 from e) (by decide), fun _ => rises_of l 0 h (fun r hr => (h.2 r hr).1), fun e => absurd (show (2 : Int) = 4 from e) (by decide), fun e => absurd (show (2 : Int) = 9 from e) (by decide), fun e => absurd (show (2 : Int) = 10 from e) (by decide), fun e => absurd (show (2 : Int) = 10 from e) (by decide), fun e => absurd (show (2 : Int) = 11 ∨ (2 : Int) = 12 from e) (by decide), fun e => absurd (show (2 : Int) = 13 from e) (by decide), fun e => absurd (show (2 : Int) = 14 from e) (by decide)⟩
theorem num_in (p : Pt) (a : Nat) (h : ¬ (num p a).2.2 = true) : 0 ≤ (num p a).1 ∧ (num p a).1 ≤ 255 := by have := dig0 p a;unfold num at h ⊢;simp only [decide_eq_true_eq] at h;simp only;rw [if_neg h];omega
theorem sign_in (p : Pt) (a : Nat) : 0 ≤ (p.sign a).1 ∧ (p.sign a).1 ≤ 3 := by
 unfold Pt.sign
 repeat' split
 all_goals constructor <;> simp only <;> omega
theorem sgn_in (p : Pt) (a : Nat) (h : ¬ (sgn p a).2.2.2 = true) : 0 ≤ (sgn p a).1 ∧ (sgn p a).1 ≤ 255 ∧ 0 ≤ (sgn p a).2.1 ∧ (sgn p a).2.1 ≤ 3 := by
 have h2 := sign_in p a;unfold sgn at h ⊢;split at h
 ·rename_i h3;rw [if_pos h3];exact ⟨Int.le_refl _, by show (0 : Int) ≤ 255; omega, h2.1, h2.2⟩
 ·rename_i h3;rw [if_neg h3];have := num_in p _ h;exact ⟨this.1, this.2, h2.1, h2.2⟩
theorem mode_in (p : Pt) (a : Nat) : 0 ≤ (p.mode a).1 ∧ (p.mode a).1 ≤ 2 := by
 unfold Pt.mode
 repeat' split
 all_goals constructor <;> simp only <;> omega
theorem quan_gg (p : Pt) (i to_ : Nat) {n m : Int} (hn : 0 ≤ n ∧ n ≤ 255) (hm : m = -1 ∨ (n ≤ m ∧ m ≤ 255)) : GG p (quan p i to_ n m) := by have h := mode_in p to_;exact gg_tok (tg (h9 := fun _ => ⟨hn.1, hn.2, hm, h.1, h.2⟩)) (by intro e; simp at e) _ _
theorem simE_in (c : Int) : 0 ≤ ji c ∧ ji c ≤ 1114111 := by
 unfold ji
 repeat' split
 all_goals omega
theorem assE_in (c : Int) (h : vZ c ≠ 0) : 1 ≤ vZ c ∧ vZ c ≤ 10 := by
 unfold vZ at h ⊢
 repeat' split
 all_goals first | omega | (simp_all)
theorem quotes_in (p : Pt) (a : Nat) : (p.quotes a).1 = 11 ∨ (p.quotes a).1 = 12 := by
 unfold Pt.quotes
 repeat' split
 all_goals simp
theorem refR_gg (p : Pt) (f i : Nat) : GG p (refR p f i) := by
 have hq := quotes_in p i;unfold refR;simp only;refine gg_ite (fun _ => gg_err _ _) (fun h0 => ?_);have hs := sgn_in p (p.quotes i).2.2 h0;refine gg_ite (fun _ => ?_) (fun _ => ?_)
 ·refine gg_ite (fun _ => gg_err _ _) (fun _ => ?_);refine gg_ite (fun _ => gg_err _ _) (fun _ => ?_);exact gg_tok tg (by intro e; simp only at e; omega) _ _
 ·refine gg_ite (fun _ => gg_err _ _) (fun _ => ?_);exact gg_tok tg (by intro e; simp only at e; omega) _ _
theorem backR_gg (p : Pt) (i to_ : Nat) : ∀ l, GG p (backR p i to_ l)
 | [] => gg_err _ _
 | (o, z) :: l => by rw [backR];refine gg_ite (fun _ => ?_) (fun _ => backR_gg p i to_ l);refine gg_ite (fun _ => ?_) (fun _ => backR_gg p i to_ l);exact gg_tok tg (by intro e; simp at e) _ _
theorem escR_gg {S : ByteArray} {p : Pt} (h : Pat S p) {i : Nat} (hi : i < p.n) : GG p (escR p i) := by
 rw [escR_eq];refine gg_ite (fun _ => gg_err _ _) (fun h1 => ?_);have hc := char_val h (a := i + 1) (by omega);have hb := zM h (a := i + 1) (by omega);refine gg_ite (fun _ => ?_) (fun _ => ?_)
 ·have := simE_in (p.char (i + 1)).1;exact gg_tok tg (by intro e; simp at e) _ _
 refine gg_ite (fun _ => ?_) (fun _ => ?_)
 ·split
  ·exact gg_err _ _
  ·rename_i v e hv;have := hexz_in h hb.2 hv;exact gg_tok tg (by intro e; simp at e) _ _
 refine gg_ite (fun _ => ?_) (fun _ => ?_)
 ·exact gg_tok (ts ⟨List.Pairwise.cons (fun _ hh => by cases hh) List.Pairwise.nil, fun r hr => by simp only [List.mem_cons, List.not_mem_nil, or_false] at hr;subst hr;simp⟩) (by intro e; simp at e) _ _
 refine gg_ite (fun h4 => ?_) (fun _ => ?_)
 ·have := assE_in _ h4;exact gg_tok tg (by intro e; simp at e) _ _
 refine gg_ite (fun _ => ?_) (fun _ => ?_)
 ·exact gg_tok tg (by intro e; simp at e) _ _
 refine gg_ite (fun _ => ?_) (fun _ => ?_)
 ·exact gg_tok tg (by intro e; simp at e) _ _
 refine gg_ite (fun _ => gg_none _ _) (fun _ => ?_);refine gg_ite (fun _ => ?_) (fun _ => ?_)
 ·refine gg_ite (fun _ => gg_err _ _) (fun h0 => ?_);have := num_in p (i + 1) h0;exact gg_tok tg (by intro e; simp at e) _ _
 refine gg_ite (fun _ => refR_gg _ _ _) (fun _ => ?_);refine gg_ite (fun _ => backR_gg _ _ _ _) (fun _ => ?_);split
 ·exact gg_err _ _
 ·rename_i l neg e hm;exact gg_tok (ts (many_len (S := S) hm).2) (by intro e; simp at e) _ _
 ·refine gg_ite (fun _ => gg_err _ _) (fun _ => ?_);exact gg_tok tg (by intro e; simp at e) _ _
theorem clsR_gg (p : Pt) (f : Nat) : GG p (clsR p f) := by
 unfold clsR;simp only;split
 ·exact gg_err _ _
 ·exact gg_tok (ts (ja (vH p) _)) (by intro e; simp at e) _ _
theorem shutR_gg (p : Pt) {t : Tk} (ht : TkG t) (h2 : t.kind = 10 → t.n ≠ 13) (f i : Nat) (s : List UInt8) (e : Int) : GG p (shutR p t f i s e) := by unfold shutR;refine gg_ite (fun _ => gg_tok ht h2 _ _) (fun _ => ?_);exact gg_ite (fun _ => gg_err _ _) (fun _ => gg_err _ _)
theorem callR_gg (p : Pt) {t : Tk} (ht : TkG t) (h2 : t.kind = 10 → t.n ≠ 13) (f i : Nat) (s : List UInt8) : GG p (callR p t f i s) := by unfold callR;refine gg_ite (fun _ => gg_err _ _) (fun _ => ?_);refine gg_ite (fun _ => gg_err _ _) (fun _ => ?_);exact gg_tok (t := { t with name := p.sub i (p.name i).1 }) ⟨ht.k, ht.h1, ht.h2, ht.h4, ht.h9, ht.ha, ht.hb, ht.hc, ht.hd, ht.he⟩ h2 _ _
theorem flagR_gg (p : Pt) (f : Nat) : ∀ (k i : Nat) (off : Bool) (on of_ : Int), GG p (flagR p f k i off on of_)
 | 0, _, _, _, _ => gg_err _ _
 | k + 1, i, off, on, of_ => by rw [flagR];refine gg_ite (fun _ => gg_err _ _) (fun _ => ?_);refine gg_ite (fun _ => gg_tok tg (by intro e; simp at e) _ _) (fun _ => ?_);refine gg_ite (fun _ => gg_tok tg (by intro _; show (2 : Int) ≠ 13; decide) _ _) (fun _ => ?_);refine gg_ite (fun _ => gg_ite (fun _ => gg_err _ _) (fun _ => flagR_gg p f k _ _ _ _)) (fun _ => ?_);refine gg_ite (fun _ => gg_ite (fun _ => flagR_gg p f k _ _ _ _) (fun _ => flagR_gg p f k _ _ _ _)) (fun _ => gg_err _ _)
theorem condE_gg (p : Pt) (f : Nat) {t : Tk} (ht : TkG t) (h2 : t.kind = 10 → t.n ≠ 13) (to_ : Nat) (ok : Bool) : GG p (condE p f t to_ ok) := by unfold condE;refine gg_ite (fun _ => gg_err _ _) (fun _ => ?_);exact gg_ite (fun _ => gg_err _ _) (fun _ => gg_tok ht h2 _ _)
theorem condR_gg (p : Pt) (f : Nat) (h40 : p.has [40] (f + 2) = true) : GG p (condR p f (f + 3)) := by
 unfold condR condN;refine gg_ite (fun hl => ?_) (fun _ => ?_)
 ·intro t b e;unfold gtok at e;cases e;exact ⟨tg, fun _ _ => ⟨h40, hl⟩⟩
 refine gg_ite (fun _ => condE_gg _ _ tg (by intro _; show (10 : Int) ≠ 13; decide) _ _) (fun _ => ?_);refine gg_ite (fun _ => condE_gg _ _ tg (by intro _; show (10 : Int) ≠ 13; decide) _ _) (fun _ => ?_);refine gg_ite (fun _ => condE_gg _ _ tg (by intro _; show (12 : Int) ≠ 13; decide) _ _) (fun _ => ?_);refine gg_ite (fun _ => condE_gg _ _ tg (by intro _; show (11 : Int) ≠ 13; decide) _ _) (fun _ => ?_);refine gg_ite (fun _ => gg_ite (fun _ => gg_err _ _) (fun h0 => ?_)) (fun _ => gg_ite (fun _ => gg_err _ _) (fun h0 => ?_))
 ·have hn := num_in p (f + 3 + 1) h0;refine condE_gg _ _ (tg (hb := fun _ _ => ?_)) (by intro _; show (11 : Int) ≠ 13; decide) _ _;split
  ·exact ⟨by omega, by omega, by omega, by omega⟩
  ·exact ⟨by omega, by omega, by omega, by omega⟩
 ·have hs := sgn_in p (f + 3) h0;exact condE_gg _ _ tg (by intro _; show (9 : Int) ≠ 13; decide) _ _
theorem verbV_in (s : ByteArray) (h : ¬ verbV s = 0) : 1 ≤ verbV s ∧ verbV s ≤ 7 := by
 unfold verbV at h ⊢
 repeat' split
 all_goals first | omega | (simp_all)
theorem verbG_gg (p : Pt) (f i : Nat) (word arg : ByteArray) (wth : Bool) : GG p (verbG f i word arg wth) := by unfold verbG;refine gg_ite (fun _ => gg_err _ _) (fun h => ?_);have := verbV_in word (fun e => h (Or.inl e));exact gg_tok tg (by intro e; simp at e) _ _
theorem verbR_gg (p : Pt) (f : Nat) : GG p (verbR p f) := by
 unfold verbR;split
 ·exact gg_err _ _
 ·split
  ·exact verbG_gg _ _ _ _ _ _
  ·exact verbG_gg _ _ _ _ _ _
theorem kindR_gg (p : Pt) (f i : Nat) : ∀ (l : List (List UInt8 × Int)), (∀ q ∈ l, 1 ≤ q.2 ∧ q.2 ≤ 8) → ∀ g, kindR p f i l = some g → GG p g
 | [], _, g, h => by cases h
 | (s, k) :: l, hl, g, h => by
  have hk := hl _ (List.mem_cons_self ..);simp only at hk;rw [kindR] at h;split at h
  ·cases h;exact gg_tok tg (by intro _; show k ≠ 13; omega) _ _
  ·exact kindR_gg p f i l (fun q hq => hl q (List.mem_cons_of_mem _ hq)) g h
theorem numR_gg (p : Pt) (f i : Nat) : GG p (numR p f i) := by
 unfold numR;simp only;refine gg_ite (fun _ => gg_err _ _) (fun h0 => ?_);have hs := sgn_in p i h0;have h1 := shutR_gg p (t := { kind := 12, n := (sgn p i).1, m := (sgn p i).2.1 }) tg (by intro e; simp at e) f (sgn p i).2.2.1 [41] 26;refine gg_ite (fun _ => gg_ite (fun _ => gg_err _ _) (fun _ => gg_err _ _)) (fun _ => ?_);split
 ·exact gg_err _ _
 ·rename_i r hr;refine gg_ite (fun _ => gg_err _ _) (fun _ => ?_);rw [hr] at h1;exact h1
theorem openK_gg (p : Pt) (f : Nat) : GG p (openK p f (f + 2)) := by
 have n1 : ({ kind := 10, n := 1 } : Tk).kind = 10 → ({ kind := 10, n := 1 } : Tk).n ≠ 13 := fun _ => by decide
 unfold openK;refine gg_ite (fun _ => ?_) (fun _ => ?_)
 ·split
  ·exact gg_err _ _
  ·exact gg_none _ _
 refine gg_ite (fun _ => callR_gg _ tg n1 _ _ _) (fun _ => ?_);refine gg_ite (fun _ => callR_gg _ tg n1 _ _ _) (fun _ => ?_);refine gg_ite (fun _ => callR_gg _ tg n1 _ _ _) (fun _ => ?_);refine gg_ite (fun _ => callR_gg _ tg (by intro e; simp at e) _ _ _) (fun _ => ?_);refine gg_ite (fun _ => callR_gg _ tg (by intro e; simp at e) _ _ _) (fun _ => ?_);refine gg_ite (fun _ => callR_gg _ tg (by intro e; simp at e) _ _ _) (fun _ => ?_);refine gg_ite (fun _ => shutR_gg _ tg (by intro e; simp at e) _ _ _ _) (fun _ => ?_);refine gg_ite (fun _ => gg_ite (fun _ => gg_err _ _) (fun h0 => ?_)) (fun _ => ?_)
 ·have := num_in p (f + 2 + 1) h0;exact shutR_gg _ tg (by intro e; simp at e) _ _ _ _
 refine gg_ite (fun h => condR_gg p f h) (fun _ => ?_);exact gg_ite (fun _ => numR_gg _ _ _) (fun _ => flagR_gg _ _ _ _ _ _ _)
theorem openR_gg (p : Pt) (f : Nat) : GG p (openR p f) := by
 unfold openR;refine gg_ite (fun _ => verbR_gg _ _) (fun _ => ?_);refine gg_ite (fun _ => gg_tok tg (by intro _; show (1 : Int) ≠ 13; decide) _ _) (fun _ => ?_);refine gg_ite (fun _ => gg_err _ _) (fun _ => ?_);split
 ·rename_i g hg;exact kindR_gg p f (f + 2) kindsT (fun q hq => by simp only [kindsT, List.mem_cons, List.not_mem_nil, or_false] at hq;rcases hq with rfl | rfl | rfl | rfl | rfl | rfl | rfl <;> simp only <;> omega) g hg
 ·exact openK_gg _ _
theorem bracR_in (p : Pt) (i : Nat) {n m : Int} {b : Nat} {g : Bool} (h : bracR p i = some (n, m, b, g)) (hg : ¬ g = true) : 0 ≤ n ∧ n ≤ 255 ∧ -1 ≤ m ∧ m ≤ 255 := by
 unfold bracR at h;simp only at h;split at h
 ·split at h
  ·simp only [Option.some.injEq, Prod.mk.injEq] at h;obtain ⟨rfl, rfl, _, rfl⟩ := h;simp only [Bool.or_eq_true, not_or] at hg;have h1 := num_in p _ hg.1;have h2 := num_in p _ hg.2;refine ⟨h1.1, h1.2, ?_, ?_⟩
   ·split <;> omega
   ·split <;> omega
  ·cases h
 ·split at h
  ·cases h
  ·simp only [Option.some.injEq, Prod.mk.injEq] at h;obtain ⟨rfl, rfl, _, rfl⟩ := h;have h1 := num_in p _ hg;exact ⟨h1.1, h1.2, by omega, h1.2⟩
theorem tokR_gg {S : ByteArray} {p : Pt} (h : Pat S p) {i : Nat} (hi : i < p.n) : GG p (tokR p i) := by
 have hc := char_val h hi;rw [tokR_eq];refine gg_ite (fun _ => gg_none _ _) (fun _ => ?_);refine gg_ite (fun _ => gg_none _ _) (fun _ => ?_);refine gg_ite (fun _ => escR_gg h hi) (fun _ => ?_);refine gg_ite (fun _ => clsR_gg _ _) (fun _ => ?_);refine gg_ite (fun _ => openR_gg _ _) (fun _ => ?_);refine gg_ite (fun _ => gg_tok tg (by intro e; simp at e) _ _) (fun _ => ?_);refine gg_ite (fun _ => gg_tok tg (by intro e; simp at e) _ _) (fun _ => ?_);refine gg_ite (fun _ => gg_tok tg (by intro e; simp at e) _ _) (fun _ => ?_);refine gg_ite (fun _ => gg_tok tg (by intro e; simp at e) _ _) (fun _ => ?_);refine gg_ite (fun _ => gg_tok tg (by intro e; simp at e) _ _) (fun _ => ?_);refine gg_ite (fun _ => quan_gg _ _ _ (by omega) (by omega)) (fun _ => ?_);refine gg_ite (fun _ => quan_gg _ _ _ (by omega) (by omega)) (fun _ => ?_);refine gg_ite (fun _ => quan_gg _ _ _ (by omega) (by omega)) (fun _ => ?_);refine gg_ite (fun _ => ?_) (fun _ => ?_)
 ·split
  ·exact gg_tok tg (by intro e; simp at e) _ _
  ·rename_i n m b g hb;refine gg_ite (fun _ => gg_err _ _) (fun hg => ?_);have := bracR_in p i hb hg;refine gg_ite (fun _ => gg_err _ _) (fun _ => ?_);exact quan_gg _ _ _ (by omega) (by omega)
 ·exact gg_tok tg (by intro e; simp at e) _ _
theorem char_low {S : ByteArray} {p : Pt} (h : Pat S p) {a : Nat} (ha : a < p.n) (h1 : p.g a < 128) : p.char a = (p.g a, a + 1) := by
 have hg := jS h;have h0 := hg a;unfold Pt.char;rw [nextP_step _ _ _ _ hg ha];have hl : len0 (p.g a) = 1 := by rcases len0_cases (p.g a) with q | q | q | q | q <;> omega
 have hs : seqAt p.g p.n a = (p.g a, 1) := by
  unfold seqAt;rw [hl, if_neg (by omega)];have ha' : acc p.g a (head0 1) ((1 : Int) - 1).toNat = p.g a := by show acc p.g a (head0 1) 0 = p.g a;simp [acc, head0]
  have hw : wid (p.g a) = 1 := by rcases wid_cases (p.g a) with q | q | q | q | q <;> omega
  rw [ha', if_pos ⟨rfl, hw⟩]
 have hv : stepv p.u p.g p.n a = (p.g a, (a : Int) + 1) := by unfold stepv;rw [hs];split <;> rfl
 unfold stepN;rw [hv];simp
theorem look_tok {S : ByteArray} {p : Pt} (h : Pat S p) {i : Nat} (hl : lookAt p i) : i < p.n ∧ p.has [92, 81] i = false ∧ ∃ t b, tokR p i = .ok (some t, b) ∧ t.kind = 10 ∧ 5 ≤ t.n ∧ t.n ≤ 8 := by
 obtain ⟨h40, hs⟩ := hl;have hi : i < p.n ∧ p.g i = 40 := by simp only [Pt.has, Bool.and_true, Bool.and_eq_true, decide_eq_true_eq] at h40;exact ⟨h40.1, h40.2⟩
 have h63 : i + 1 < p.n ∧ p.g (i + 1) = 63 ∧ i + 2 < p.n ∧ (p.g (i + 2) = 61 ∨ p.g (i + 2) = 33 ∨ (p.g (i + 2) = 60 ∧ i + 3 < p.n ∧ (p.g (i + 3) = 61 ∨ p.g (i + 3) = 33))) := by
  simp only [Pt.has, Bool.and_true, Bool.and_eq_true, decide_eq_true_eq] at hs;rcases hs with hs | hs | hs | hs
  ·exact ⟨hs.1.1, hs.1.2, hs.2.1, Or.inl hs.2.2⟩
  ·exact ⟨hs.1.1, hs.1.2, hs.2.1, Or.inr (Or.inl hs.2.2)⟩
  ·exact ⟨hs.1.1, hs.1.2, hs.2.1.1, Or.inr (Or.inr ⟨hs.2.1.2, hs.2.2.1, Or.inl hs.2.2.2⟩)⟩
  ·exact ⟨hs.1.1, hs.1.2, hs.2.1.1, Or.inr (Or.inr ⟨hs.2.1.2, hs.2.2.1, Or.inr hs.2.2.2⟩)⟩
 have hch := char_low h hi.1 (by omega);have key : ∃ k b, 5 ≤ k ∧ k ≤ 8 ∧ kindR p i (i + 2) kindsT = some (gtok { kind := 10, n := k } i b) := by
  rcases h63.2.2.2 with e | e | ⟨e, e1, e2⟩
  ·exact ⟨5, _, by omega, by omega, by simp [kindsT, kindR, Pt.has, e, h63.2.2.1]; rfl⟩
  ·exact ⟨6, _, by omega, by omega, by simp [kindsT, kindR, Pt.has, e, h63.2.2.1]; rfl⟩
  ·rcases e2 with e2 | e2
   ·exact ⟨7, _, by omega, by omega, by simp [kindsT, kindR, Pt.has, e, e1, e2, h63.2.2.1]; rfl⟩
   ·exact ⟨8, _, by omega, by omega, by simp [kindsT, kindR, Pt.has, e, e1, e2, h63.2.2.1]; rfl⟩
 obtain ⟨k, b, k5, k8, hk⟩ := key;have h42 : p.has [42] (i + 1) = false := by simp [Pt.has, h63.2.1]
 have h63' : p.has [63] (i + 1) = true := by simp [Pt.has, h63.1, h63.2.1]
 refine ⟨hi.1, by simp [Pt.has, hi.2], lay { kind := 10, n := k } i b, b, ?_, rfl, k5, k8⟩;rw [tokR_eq, hch];simp only [hi.2];rw [if_neg (fun q => by have := q.2; omega), if_neg (fun q => by have := q.2; omega), if_neg (by omega), if_neg (by omega), if_pos trivial];unfold openR;rw [h42, h63', hk, if_neg (by decide), if_neg (by decide), if_neg (by omega)];rfl
def Adj (T : List Tk) : Prop := ∀ j t u, T[j]? = some t → T[j + 1]? = some u → t.kind = 10 → t.n = 13 → u.kind = 10 ∧ 5 ≤ u.n ∧ u.n ≤ 8
theorem adj_snoc {T : List Tk} {x : Tk} (h : Adj T) (hx : ∀ a, T.getLast? = some a → a.kind = 10 → a.n = 13 → x.kind = 10 ∧ 5 ≤ x.n ∧ x.n ≤ 8) : Adj (T ++ [x]) := fun j t u h1 h2 h3 h4 => by
 by_cases hj : j + 1 < T.length
 ·rw [List.getElem?_append_left (by omega)] at h1;rw [List.getElem?_append_left hj] at h2;exact h j t u h1 h2 h3 h4
 ·have hj2 := (List.getElem?_eq_some_iff.1 h2).1;rw [List.length_append, List.length_singleton] at hj2;have e : T.length = j + 1 := by omega
  rw [List.getElem?_append_left (by omega)] at h1;rw [List.getElem?_append_right (by omega), e, Nat.sub_self] at h2;simp only [List.getElem?_cons_zero, Option.some.injEq] at h2;subst h2;exact hx t (by rw [List.getLast?_eq_getElem?, e]; exact h1) h3 h4
theorem last_snoc (T : List Tk) (x a : Tk) (h : (T ++ [x]).getLast? = some a) : a = x := by rw [List.getLast?_append] at h;simpa using h.symm
theorem lexF_adj {S : ByteArray} {p : Pt} (h : Pat S p) : ∀ (k : Nat) (q : Bool) (T : List Tk) (i : Nat) (R : List Tk), Adj T → (∀ t ∈ T, TkG t) → (∀ a, T.getLast? = some a → a.kind = 10 → a.n = 13 → q = false ∧ lookAt p i) → lexF p k q T i = .ok R → Adj R ∧ ∀ t ∈ R, TkG t
 | 0, _, T, i, R, h1, h2, _, e => by rw [lexF] at e;cases e;exact ⟨h1, h2⟩
 | k + 1, q, T, i, R, h1, h2, h3, e => by
  rw [lexF] at e;split at e
  ·cases e;exact ⟨h1, h2⟩
  rename_i hi;have hc := char_val h (a := i) (by omega);split at e
  ·rename_i hq;have hno : ∀ a, T.getLast? = some a → a.kind = 10 → a.n = 13 → False := fun a ha k10 n13 => by have := (h3 a ha k10 n13).1;rw [hq] at this;cases this
   split at e
   ·exact lexF_adj h k _ _ _ _ h1 h2 (fun a ha k10 n13 => (hno a ha k10 n13).elim) e
   ·refine lexF_adj h k _ _ _ _ (adj_snoc h1 (fun a ha k10 n13 => (hno a ha k10 n13).elim)) (fun t ht => ?_) (fun a ha k10 n13 => ?_) e
    ·rcases List.mem_append.1 ht with ht | ht
     ·exact h2 t ht
     ·simp only [List.mem_cons, List.not_mem_nil, or_false] at ht;subst ht;exact tg
    ·have := last_snoc T _ a ha;subst this;exact absurd k10 (by show (1 : Int) ≠ 10; decide)
  ·rename_i hq;have hq' : q = false := by simpa using hq
   split at e
   ·rename_i h81;refine lexF_adj h k _ _ _ _ h1 h2 (fun a ha k10 n13 => ?_) e;have := (look_tok h (h3 a ha k10 n13).2).2.1;rw [h81] at this;cases this
   ·split at e
    ·cases e
    ·rename_i to_ ht;refine lexF_adj h k _ _ _ _ h1 h2 (fun a ha k10 n13 => ?_) e;obtain ⟨_, _, t, b, e1, _⟩ := look_tok h (h3 a ha k10 n13).2;rw [ht] at e1;cases e1
    ·rename_i t to_ ht;have hg := tokR_gg h (show i < p.n by omega) t to_ ht;refine lexF_adj h k _ _ _ _ (adj_snoc h1 (fun a ha k10 n13 => ?_)) (fun t' ht' => ?_) (fun a ha k10 n13 => ?_) e
     ·obtain ⟨_, _, t2, b, e1, e2⟩ := look_tok h (h3 a ha k10 n13).2;rw [ht] at e1;cases e1;exact e2
     ·rcases List.mem_append.1 ht' with ht' | ht'
      ·exact h2 t' ht'
      ·simp only [List.mem_cons, List.not_mem_nil, or_false] at ht';subst ht';exact hg.1
     ·have := last_snoc T _ a ha;subst this;exact ⟨rfl, hg.2 k10 n13⟩
end Go.Proofs.YtnpcombfgdbhkaaDoor.rtw
end
