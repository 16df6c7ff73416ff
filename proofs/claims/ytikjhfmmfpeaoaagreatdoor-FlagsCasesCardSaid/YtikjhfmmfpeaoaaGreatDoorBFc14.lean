/- T -/
import Derived.Laws.BytesArg
import Derived.Test.YtikjhfmmfpeaoaaGreatDoorBFc13
set_option maxHeartbeats 16000000
set_option maxRecDepth 1000000
section
namespace Go.Proofs.YtikjhfmmfpeaoaaGreatDoor.rtw
open sq
open Go Go.RowKit Go.Maps utfp utfw ucdp setp setw prp tkp rtp
open tkw (sg sg_bd vJ jM qK tkR qO qM vI)
theorem has_ne {S : ByteArray} {p : Pt} (h : Pat S p) {s : List UInt8} {i : Nat} (e : p.has s i = true) (hs : s ≠ []) : i + s.length ≤ p.n := by
 rcases has_lt h e with h | h
 ·exact h
 ·exact absurd h hs
theorem jA {t : Tk} {f b to_ : Nat} {x : Option Tk} (e : gtok t f b = .ok (x, to_)) : to_ = b := by unfold gtok at e;simp only [Except.ok.injEq, Prod.mk.injEq] at e;exact e.2.symm
theorem back_bd {S : ByteArray} {p : Pt} (h : Pat S p) {i z : Nat} (hz : i < z) (hz2 : z ≤ p.n) {x : Option Tk} {to_ : Nat} : ∀ l : List (List UInt8 × List UInt8), (∀ q ∈ l, q.1.length = 1 ∧ q.2.length = 1) → backR p i z l = .ok (x, to_) → i < to_ ∧ to_ ≤ p.n
 | [], _, e => by cases e
 | (a, b) :: l, hl, e => by
  have ih := back_bd h hz hz2 (x := x) (to_ := to_) l (fun q hq => hl q (List.mem_cons_of_mem _ hq));have hl1 := hl (a, b) List.mem_cons_self;rw [backR] at e;split at e
  ·rename_i h1;split at e
   ·rename_i h2;have b1 := has_ne h h1 (fun e => by rw [e] at hl1; exact absurd hl1.1 (by simp));have b2 := has_ne h h2.2 (fun e => by rw [e] at hl1; exact absurd hl1.2 (by simp));have b3 := zh (p := p) (a := z + 1) (by rw [hl1.1] at b1; exact b1);rw [hl1.2] at b2;have := jA e;omega
   ·exact ih e
  ·exact ih e
theorem qt_bd {S : ByteArray} {p : Pt} (h : Pat S p) {i : Nat} (hi : i ≤ p.n) : i ≤ (p.quotes i).2.2 ∧ (p.quotes i).2.2 ≤ p.n ∧ ((p.quotes i).2.1.length = 1 ∨ (p.quotes i).2.1 = []) := by
 unfold Pt.quotes;split
 ·rename_i e; have := qR h e; simp at this ⊢; omega
 ·split
  ·rename_i e; have := qR h e; simp at this ⊢; omega
  ·split
   ·rename_i e; have := qR h e; simp at this ⊢; omega
   ·simp; omega
theorem refR_bd {S : ByteArray} {p : Pt} (h : Pat S p) {f i : Nat} (hf : f < i) (hi : i ≤ p.n) {x : Option Tk} {to_ : Nat} (e : refR p f i = .ok (x, to_)) : f < to_ ∧ to_ ≤ p.n := by
 have q := qt_bd h hi;have s := sgn_bd h q.2.1;unfold refR at e;simp only at e;split at e
 ·cases e
 ·split at e
  ·split at e
   ·cases e
   ·rename_i hz;split at e
    ·cases e
    ·have hb : p.has (p.quotes i).2.1 (sgn p (p.quotes i).2.2).2.2.1 = true := by simpa using hz
     have := jA e;by_cases q2 : (p.quotes i).2.1 = []
     ·rw [q2] at this;simp at this;omega
     ·have := has_ne h hb q2;omega
  ·split at e
   ·cases e
   ·rename_i hz;have hne : ¬ (p.quotes i).2.1 = [] := fun e2 => hz (Or.inl e2)
    have hh : p.has (p.quotes i).2.1 (p.name (p.quotes i).2.2).1 = true := by
     cases e2 : p.has (p.quotes i).2.1 (p.name (p.quotes i).2.2).1 with
     | true => rfl
     | false => exact absurd (Or.inr (Or.inr e2)) hz
    have hb := has_ne h hh hne;have nb := zh (p := p) q.2.1;have := jA e;rcases q.2.2 with q2 | q2
    ·omega
    ·exact absurd q2 hne
theorem escR_eq (p : Pt) (i : Nat) : escR p i = if i + 1 = p.n then .error (20, p.n) else if ji (p.char (i + 1)).1 ≠ 0 then gtok { kind := 1, c := ji (p.char (i + 1)).1 } i (p.char (i + 1)).2 else if (p.char (i + 1)).1 = 120 then (match hexz p (p.char (i + 1)).2 with | none => .error (21, i) | some (v, e) => gtok { kind := 1, c := v } i e) else if (p.char (i + 1)).1 = 78 then gtok { kind := 2, set := [(10, 10)], neg := true } i (p.char (i + 1)).2 else if vZ (p.char (i + 1)).1 ≠ 0 then gtok { kind := 4, n := vZ (p.char (i + 1)).1 } i (p.char (i + 1)).2 else if (p.char (i + 1)).1 = 75 then gtok { kind := 5 } i (p.char (i + 1)).2 else if (p.char (i + 1)).1 = 82 then gtok { kind := 6 } i (p.char (i + 1)).2 else if (p.char (i + 1)).1 = 69 then .ok (none, (p.char (i + 1)).2) else if 49 ≤ (p.char (i + 1)).1 ∧ (p.char (i + 1)).1 ≤ 57 then (if (num p (i + 1)).2.2 = true then .error (25, i) else gtok { kind := 11, n := (num p (i + 1)).1 } i (num p (i + 1)).2.1) else if (p.char (i + 1)).1 = 103 then refR p i (p.char (i + 1)).2 else if (p.char (i + 1)).1 = 107 then backR p i (p.char (i + 1)).2 quotT else match many p (p.char (i + 1)).1 (p.char (i + 1)).2 with | .error e => .error (e, i) | .ok (some (l, neg, e)) => gtok { kind := 2, set := l, neg := neg } i e | .ok none => if (p.char (i + 1)).1 = 48 ∨ isLet (p.char (i + 1)).1 = true then .error (21, i) else gtok { kind := 1, c := (p.char (i + 1)).1 } i (p.char (i + 1)).2 := rfl
theorem escR_bd {S : ByteArray} {p : Pt} (h : Pat S p) {i : Nat} (hi : i < p.n) {x : Option Tk} {to_ : Nat} (e : escR p i = .ok (x, to_)) : i < to_ ∧ to_ ≤ p.n := by
 rw [escR_eq] at e;by_cases h0 : i + 1 = p.n
 ·rw [if_pos h0] at e; cases e
 rw [if_neg h0] at e;have c := zM h (a := i + 1) (by omega);by_cases t0 : ji (p.char (i + 1)).1 ≠ 0
 ·rw [if_pos t0] at e;have := jA e; omega
 rw [if_neg t0] at e;by_cases t1 : (p.char (i + 1)).1 = 120
 ·rw [if_pos t1] at e;cases hv : hexz p (p.char (i + 1)).2 with
  | none => rw [hv] at e; cases e
  | some q =>
   obtain ⟨v, j⟩ := q;rw [hv] at e;have := hexz_in h c.2 hv;have := jA e;omega
 rw [if_neg t1] at e;by_cases t2 : (p.char (i + 1)).1 = 78
 ·rw [if_pos t2] at e;have := jA e; omega
 rw [if_neg t2] at e;by_cases t3 : vZ (p.char (i + 1)).1 ≠ 0
 ·rw [if_pos t3] at e;have := jA e; omega
 rw [if_neg t3] at e;by_cases t4 : (p.char (i + 1)).1 = 75
 ·rw [if_pos t4] at e;have := jA e; omega
 rw [if_neg t4] at e;by_cases t5 : (p.char (i + 1)).1 = 82
 ·rw [if_pos t5] at e;have := jA e; omega
 rw [if_neg t5] at e;by_cases t6 : (p.char (i + 1)).1 = 69
 ·rw [if_pos t6] at e;simp only [Except.ok.injEq, Prod.mk.injEq] at e; omega
 rw [if_neg t6] at e;by_cases t7 : 49 ≤ (p.char (i + 1)).1 ∧ (p.char (i + 1)).1 ≤ 57
 ·rw [if_pos t7] at e;by_cases hg : (num p (i + 1)).2.2 = true
  ·rw [if_pos hg] at e; cases e
  ·rw [if_neg hg] at e;have := num_bd (p := p) (a := i + 1) (by omega);have := jA e;omega
 rw [if_neg t7] at e;by_cases t8 : (p.char (i + 1)).1 = 103
 ·rw [if_pos t8] at e;exact refR_bd h (by omega) c.2 e
 rw [if_neg t8] at e;by_cases t9 : (p.char (i + 1)).1 = 107
 ·rw [if_pos t9] at e;exact back_bd h (by omega) c.2 quotT (by decide) e
 rw [if_neg t9] at e;cases hm : many p (p.char (i + 1)).1 (p.char (i + 1)).2 with
 | error x => rw [hm] at e; cases e
 | ok y =>
  cases y with
  | none =>
   rw [hm] at e;by_cases h48 : (p.char (i + 1)).1 = 48 ∨ isLet (p.char (i + 1)).1 = true
   ·simp only [h48, if_true] at e;cases e
   ·simp only [h48, if_false] at e;have := jA e; omega
  | some q =>
   obtain ⟨l, neg, j⟩ := q;rw [hm] at e;have := many_bd h c.2 hm;have := jA e;omega
theorem cls_bd {S : ByteArray} {p : Pt} (h : Pat S p) {first to_ : Nat} {r : List Rg} : ∀ (k : Nat) (all : List Rg) (i : Nat), clsL p first k all i = .ok (r, to_) → i < to_ ∧ to_ ≤ p.n
 | 0, _, _, e => by cases e
 | k + 1, all, i, e => by
  rw [clsL] at e;split at e
  ·cases e
  ·split at e
   ·simp only [Except.ok.injEq, Prod.mk.injEq] at e;omega
   ·split at e
    ·cases e
    ·rename_i l j hr;have b1 := range_bd h (by omega) hr;have b2 := cls_bd h k _ _ e;omega
theorem clsR_bd {S : ByteArray} {p : Pt} (h : Pat S p) {f : Nat} {x : Option Tk} {to_ : Nat} (e : clsR p f = .ok (x, to_)) : f < to_ ∧ to_ ≤ p.n := by
 unfold clsR at e;simp only at e;split at e
 ·cases e
 ·rename_i all b hc;have b1 := cls_bd h _ _ _ hc;have := jA e;split at b1 <;> omega
theorem shut_bd {S : ByteArray} {p : Pt} (h : Pat S p) {t : Tk} {f i : Nat} {s : List UInt8} {c : Int} {x : Option Tk} {to_ : Nat} (e : shutR p t f i s c = .ok (x, to_)) : to_ = i + s.length ∧ (s ≠ [] → to_ ≤ p.n) := by
 unfold shutR at e;split at e
 ·rename_i h1;have := jA e;exact ⟨this, fun hs => by have b := has_ne h h1 hs; omega⟩
 ·split at e <;> cases e
theorem call_bd {S : ByteArray} {p : Pt} (h : Pat S p) {t : Tk} {f i : Nat} {s : List UInt8} (hs : s ≠ []) (hi : i ≤ p.n) {x : Option Tk} {to_ : Nat} (e : callR p t f i s = .ok (x, to_)) : i ≤ to_ ∧ to_ ≤ p.n := by
 have nb := zh (p := p) hi;unfold callR at e;split at e
 ·cases e
 ·split at e
  ·cases e
  ·rename_i hz;have hh : p.has s (p.name i).1 = true := by
    cases e2 : p.has s (p.name i).1 with
    | true => rfl
    | false => exact absurd (Or.inr e2) hz
   have b := has_ne h hh hs;have := jA e;omega
theorem flag_bd {p : Pt} {f : Nat} {x : Option Tk} {to_ : Nat} : ∀ (k i : Nat) (off : Bool) (on of_ : Int), flagR p f k i off on of_ = .ok (x, to_) → i < to_ ∧ to_ ≤ p.n
 | 0, _, _, _, _, e => by cases e
 | k + 1, i, off, on, of_, e => by
  rw [flagR] at e;split at e
  ·cases e
  ·split at e
   ·have := jA e; omega
   ·split at e
    ·have := jA e; omega
    ·split at e
     ·split at e
      ·cases e
      ·have := flag_bd _ _ _ _ _ e; omega
     ·split at e
      ·split at e <;> (have := flag_bd _ _ _ _ _ e; omega)
      ·cases e
theorem condE_bd {S : ByteArray} {p : Pt} (h : Pat S p) {f to_ : Nat} {t : Tk} {ok : Bool} {x : Option Tk} {b : Nat} (e : condE p f t to_ ok = .ok (x, b)) : b = to_ + 1 ∧ b ≤ p.n := by
 unfold condE at e;split at e
 ·cases e
 ·rename_i hz;have hh : p.has [41] to_ = true := by
   cases e2 : p.has [41] to_ with
   | true => rfl
   | false => exact absurd (Or.inr e2) hz
  have b := qR h hh;simp only [List.length_nil] at b;split at e
  ·cases e
  ·have := jA e; omega
theorem condR_bd {S : ByteArray} {p : Pt} (h : Pat S p) {f i : Nat} (hf : f + 2 < i) (hi : i ≤ p.n) {x : Option Tk} {b : Nat} (e : condR p f i = .ok (x, b)) : f < b ∧ b ≤ p.n := by
 unfold condR at e;split at e
 ·have := jA e; omega
 ·split at e
  ·rename_i h1;have b1 := qR h h1;simp only [List.length_nil] at b1;have nb := zh (p := p) (a := i + 1) (by omega);unfold condN at e;have := condE_bd h e;omega
  ·split at e
   ·rename_i h1;have b1 := qR h h1;simp only [List.length_nil] at b1;have nb := zh (p := p) (a := i + 1) (by omega);unfold condN at e;have := condE_bd h e;omega
   ·split at e
    ·have := condE_bd h e; omega
    ·split at e
     ·rename_i h1;have b1 := qR h h1;simp only [List.length_cons, List.length_nil] at b1;have nb := zh (p := p) (a := i + 2) (by omega);have := condE_bd h e;omega
     ·split at e
      ·rename_i h1;have b1 := qR h h1;simp only [List.length_nil] at b1;have nb := num_bd (p := p) (a := i + 1) (by omega);split at e
       ·cases e
       ·have := condE_bd h e; omega
      ·have sb := sgn_bd h hi;split at e
       ·cases e
       ·have := condE_bd h e; omega
theorem verb_bd {p : Pt} {f : Nat} {x : Option Tk} {b : Nat} (e : verbR p f = .ok (x, b)) : f < b ∧ b ≤ p.n := by
 unfold verbR at e;split at e
 ·cases e
 ·rename_i i hi;unfold Pt.until at hi;have b1 := tkw.find_bd hi;split at e
  all_goals
   unfold verbG at e;split at e
   ·cases e
   ·have := jA e; omega
theorem kind_bd {S : ByteArray} {p : Pt} (h : Pat S p) {f i : Nat} {g : G} : ∀ l : List (List UInt8 × Int), (∀ q ∈ l, q.1 ≠ []) → kindR p f i l = some g → ∃ t b, g = gtok t f b ∧ i < b ∧ b ≤ p.n
 | [], _, e => by cases e
 | (s, k) :: l, hl, e => by
  rw [kindR] at e;split at e
  ·rename_i h1;have hs := hl (s, k) List.mem_cons_self;have b := has_ne h h1 hs;have : s.length ≠ 0 := fun e => hs (List.length_eq_zero_iff.1 e)
   exact ⟨_, _, (Option.some.inj e).symm, by omega, by omega⟩
  ·exact kind_bd h l (fun q hq => hl q (List.mem_cons_of_mem _ hq)) e
theorem numR_bd {S : ByteArray} {p : Pt} (h : Pat S p) {f i : Nat} (hi : i ≤ p.n) {x : Option Tk} {b : Nat} (e : numR p f i = .ok (x, b)) : i < b ∧ b ≤ p.n := by
 have sb := sgn_bd h hi;unfold numR at e;simp only at e;split at e
 ·cases e
 ·split at e
  ·split at e <;> cases e
  ·split at e
   ·cases e
   ·rename_i r hr;split at e
    ·cases e
    ·obtain ⟨y, j⟩ := r;simp only [Except.ok.injEq, Prod.mk.injEq] at e;have := shut_bd h hr;simp only [List.length_cons, List.length_nil] at this;have h2 := this.2 (by simp);omega
theorem openR_bd {S : ByteArray} {p : Pt} (h : Pat S p) {f : Nat} (hf : f < p.n) {x : Option Tk} {b : Nat} (e : openR p f = .ok (x, b)) : f < b ∧ b ≤ p.n := by
 unfold openR at e;split at e
 ·exact verb_bd e
 ·split at e
  ·have := jA e; omega
  ·rename_i hq;have b0 := qR h (by simpa using hq : p.has [63] (f + 1) = true);simp only [List.length_nil] at b0;split at e
   ·cases e
   ·split at e
    ·rename_i g hg;obtain ⟨t, j, rfl, h1, h2⟩ := kind_bd h kindsT (by decide) hg;have := jA e;omega
    ·unfold openK at e;have key : ∀ {c : UInt8} {s : List UInt8}, p.has (c :: s) (f + 2) = true → f + 2 + (c :: s).length ≤ p.n := fun h1 => qR h h1
     by_cases t0 : p.has [35] (f + 2) = true
     ·rw [if_pos t0] at e;cases hj : p.until 41 (f + 2) with
      | none => rw [hj] at e; cases e
      | some j =>
       rw [hj] at e;unfold Pt.until at hj;have := tkw.find_bd hj;simp only [Except.ok.injEq, Prod.mk.injEq] at e;omega
     rw [if_neg t0] at e;by_cases t1 : p.has [80, 60] (f + 2) = true
     ·rw [if_pos t1] at e;have := key t1;simp only [List.length_cons, List.length_nil] at this;have := call_bd h (by simp) (by omega) e;omega
     rw [if_neg t1] at e;by_cases t2 : p.has [60] (f + 2) = true
     ·rw [if_pos t2] at e;have := key t2;simp only [List.length_cons, List.length_nil] at this;have := call_bd h (by simp) (by omega) e;omega
     rw [if_neg t2] at e;by_cases t3 : p.has [39] (f + 2) = true
     ·rw [if_pos t3] at e;have := key t3;simp only [List.length_cons, List.length_nil] at this;have := call_bd h (by simp) (by omega) e;omega
     rw [if_neg t3] at e;by_cases t4 : p.has [80, 61] (f + 2) = true
     ·rw [if_pos t4] at e;have := key t4;simp only [List.length_cons, List.length_nil] at this;have := call_bd h (by simp) (by omega) e;omega
     rw [if_neg t4] at e;by_cases t5 : p.has [80, 62] (f + 2) = true
     ·rw [if_pos t5] at e;have := key t5;simp only [List.length_cons, List.length_nil] at this;have := call_bd h (by simp) (by omega) e;omega
     rw [if_neg t5] at e;by_cases t6 : p.has [38] (f + 2) = true
     ·rw [if_pos t6] at e;have := key t6;simp only [List.length_cons, List.length_nil] at this;have := call_bd h (by simp) (by omega) e;omega
     rw [if_neg t6] at e;by_cases t7 : p.has [82] (f + 2) = true
     ·rw [if_pos t7] at e;have := shut_bd h e;simp only [List.length_cons, List.length_nil] at this;have h2 := this.2 (by simp);omega
     rw [if_neg t7] at e;by_cases t8 : p.has [67] (f + 2) = true
     ·rw [if_pos t8] at e;have := key t8;simp only [List.length_cons, List.length_nil] at this;have nb := num_bd (p := p) (a := f + 2 + 1) (by omega);by_cases hg : (num p (f + 2 + 1)).2.2 = true
      ·rw [if_pos hg] at e; cases e
      ·rw [if_neg hg] at e;have := shut_bd h e;simp only [List.length_cons, List.length_nil] at this;have h2 := this.2 (by simp);omega
     rw [if_neg t8] at e;by_cases t9 : p.has [40] (f + 2) = true
     ·rw [if_pos t9] at e;have := key t9;simp only [List.length_cons, List.length_nil] at this;exact condR_bd h (by omega) (by omega) e
     rw [if_neg t9] at e;by_cases t10 : numB p (f + 2) = true
     ·rw [if_pos t10] at e;have := numR_bd h (by omega) e; omega
     rw [if_neg t10] at e;have := flag_bd _ _ _ _ _ e;omega
theorem skip_bd {p : Pt} : ∀ (k a : Nat), a ≤ p.n → a ≤ skipC p k a ∧ skipC p k a ≤ p.n
 | 0, a, h => ⟨Nat.le_refl _, h⟩
 | k + 1, a, h => by
  rw [skipC];split
  ·have := skip_bd (p := p) k (a + 1) (by omega); omega
  ·omega
theorem mode_bd {S : ByteArray} {p : Pt} (h : Pat S p) {a : Nat} (ha : a ≤ p.n) : a ≤ (p.mode a).2 ∧ (p.mode a).2 ≤ p.n := by
 unfold Pt.mode;split
 ·rename_i e; have := qR h e; simp at this ⊢; omega
 ·split
  ·rename_i e; have := qR h e; simp at this ⊢; omega
  ·simp; omega
theorem quan_bd {S : ByteArray} {p : Pt} (h : Pat S p) {i a : Nat} {n m : Int} (ha : a ≤ p.n) {x : Option Tk} {b : Nat} (e : quan p i a n m = .ok (x, b)) : a ≤ b ∧ b ≤ p.n := by have := mode_bd h ha;unfold quan at e;have := jA e;omega
theorem bracR_bd {S : ByteArray} {p : Pt} (h : Pat S p) {i b : Nat} (hi : i < p.n) {n m : Int} {g : Bool} (e : bracR p i = some (n, m, b, g)) : i < b ∧ b < p.n := by
 have n1 := num_bd (p := p) (a := i + 1) (by omega);unfold bracR at e;simp only at e;split at e
 ·rename_i h1;have b1 := qR h h1.2;simp only [List.length_nil] at b1;have n2 := num_bd (p := p) (a := (num p (i + 1)).2.1 + 1) (by omega);split at e
  ·rename_i h2;have b2 := qR h h2;simp only [List.length_nil] at b2;simp only [Option.some.injEq, Prod.mk.injEq] at e;omega
  ·cases e
 ·split at e
  ·cases e
  ·rename_i hz;have hh : p.has [125] (num p (i + 1)).2.1 = true := by
    cases e2 : p.has [125] (num p (i + 1)).2.1 with
    | true => rfl
    | false => exact absurd (Or.inr e2) hz
   have b2 := qR h hh;simp only [List.length_nil] at b2;simp only [Option.some.injEq, Prod.mk.injEq] at e;omega
theorem tokR_eq (p : Pt) (i : Nat) : tokR p i = if p.x = true ∧ (9 ≤ (p.char i).1 ∧ (p.char i).1 ≤ 13 ∨ (p.char i).1 = 32) then .ok (none, (p.char i).2) else if p.x = true ∧ (p.char i).1 = 35 then .ok (none, skipC p p.n (p.char i).2) else if (p.char i).1 = 92 then escR p i else if (p.char i).1 = 91 then clsR p i else if (p.char i).1 = 40 then openR p i else if (p.char i).1 = 46 then gtok { kind := 3 } i (p.char i).2 else if (p.char i).1 = 94 then gtok { kind := 4, n := 1 } i (p.char i).2 else if (p.char i).1 = 36 then gtok { kind := 4, n := 2 } i (p.char i).2 else if (p.char i).1 = 124 then gtok { kind := 7 } i (p.char i).2 else if (p.char i).1 = 41 then gtok { kind := 8 } i (p.char i).2 else if (p.char i).1 = 42 then quan p i (p.char i).2 0 (-1) else if (p.char i).1 = 43 then quan p i (p.char i).2 1 (-1) else if (p.char i).1 = 63 then quan p i (p.char i).2 0 1 else if (p.char i).1 = 123 then (match bracR p i with | none => gtok { kind := 1, c := (p.char i).1 } i (p.char i).2 | some (n, m, b, great) => if great = true then .error (25, i) else if 0 ≤ m ∧ m < n then .error (23, i) else quan p i (b + 1) n m) else gtok { kind := 1, c := (p.char i).1 } i (p.char i).2 := rfl
theorem tokR_bd {S : ByteArray} {p : Pt} (h : Pat S p) {i : Nat} (hi : i < p.n) {x : Option Tk} {b : Nat} (e : tokR p i = .ok (x, b)) : i < b ∧ b ≤ p.n := by
 have c := zM h hi;rw [tokR_eq] at e;by_cases t0 : p.x = true ∧ (9 ≤ (p.char i).1 ∧ (p.char i).1 ≤ 13 ∨ (p.char i).1 = 32)
 ·rw [if_pos t0] at e;simp only [Except.ok.injEq, Prod.mk.injEq] at e; omega
 rw [if_neg t0] at e;by_cases t1 : p.x = true ∧ (p.char i).1 = 35
 ·rw [if_pos t1] at e;have := skip_bd (p := p) p.n _ c.2;simp only [Except.ok.injEq, Prod.mk.injEq] at e; omega
 rw [if_neg t1] at e;by_cases t2 : (p.char i).1 = 92
 ·rw [if_pos t2] at e;exact escR_bd h hi e
 rw [if_neg t2] at e;by_cases t3 : (p.char i).1 = 91
 ·rw [if_pos t3] at e;exact clsR_bd h e
 rw [if_neg t3] at e;by_cases t4 : (p.char i).1 = 40
 ·rw [if_pos t4] at e;exact openR_bd h hi e
 rw [if_neg t4] at e;by_cases t5 : (p.char i).1 = 46
 ·rw [if_pos t5] at e;have := jA e; omega
 rw [if_neg t5] at e;by_cases t6 : (p.char i).1 = 94
 ·rw [if_pos t6] at e;have := jA e; omega
 rw [if_neg t6] at e;by_cases t7 : (p.char i).1 = 36
 ·rw [if_pos t7] at e;have := jA e; omega
 rw [if_neg t7] at e;by_cases t8 : (p.char i).1 = 124
 ·rw [if_pos t8] at e;have := jA e; omega
 rw [if_neg t8] at e;by_cases t9 : (p.char i).1 = 41
 ·rw [if_pos t9] at e;have := jA e; omega
 rw [if_neg t9] at e;by_cases t10 : (p.char i).1 = 42
 ·rw [if_pos t10] at e;have := quan_bd h c.2 e; omega
 rw [if_neg t10] at e;by_cases t11 : (p.char i).1 = 43
 ·rw [if_pos t11] at e;have := quan_bd h c.2 e; omega
 rw [if_neg t11] at e;by_cases t12 : (p.char i).1 = 63
 ·rw [if_pos t12] at e;have := quan_bd h c.2 e; omega
 rw [if_neg t12] at e;by_cases t13 : (p.char i).1 = 123
 ·rw [if_pos t13] at e;cases hb : bracR p i with
  | none => rw [hb] at e; have := jA e; omega
  | some q =>
   obtain ⟨n, m, j, g⟩ := q;rw [hb] at e;have := bracR_bd h hi hb;simp only at e;by_cases hg : g = true
   ·rw [if_pos hg] at e; cases e
   ·rw [if_neg hg] at e;by_cases hm : 0 ≤ m ∧ m < n
    ·rw [if_pos hm] at e; cases e
    ·rw [if_neg hm] at e;have := quan_bd h (by omega) e; omega
 rw [if_neg t13] at e;have := jA e; omega
end Go.Proofs.YtikjhfmmfpeaoaaGreatDoor.rtw
end
section
namespace Go.Proofs.YtikjhfmmfpeaoaaGreatDoor.rtw
open sq
open setw (Wf)
open Go utfp ucdp setp prp tkp rtp
def Bd (a : Int) : Prop := -2000000 ≤ a ∧ a ≤ 2000000
theorem nm_e : (⟨#[]⟩ : ByteArray).size ≤ 9223372036854775807 := by decide
theorem nm_len (p : Pt) (a b : Nat) : (p.sub a b).size ≤ b - a := by unfold Pt.sub strOfNums;simp [ByteArray.size]
theorem run_le1 (p : Pt) (fits : Int → Bool) : ∀ k a, p.run fits k a ≤ a + k
 | 0, a => Nat.le_refl _
 | k + 1, a => by
  rw [Pt.run];split
  ·have := run_le1 p fits k (a + 1); omega
  ·omega
theorem find_lt {p : Pt} {c : Int} : ∀ {k a j : Nat}, p.find c k a = some j → a ≤ j ∧ j < a + k
 | 0, _, _, h => by cases h
 | k + 1, a, j, h => by
  rw [Pt.find] at h;split at h
  ·cases h; omega
  ·have := find_lt h; omega
theorem nm_name (p : Pt) (a : Nat) : (p.sub a (p.name a).1).size ≤ 9223372036854775807 := by have h := nm_len p a (p.name a).1;have h2 : (p.name a).1 ≤ a + 1000 := run_le1 p isWrd 1000 a;omega
structure TkB (t : Tk) : Prop where
 k : Bd t.kind
 c : Bd t.c
 n : Bd t.n
 m : Bd t.m
 mode : Bd t.mode
 on : Bd t.on
 off : Bd t.off
 s : t.set.length ≤ 90000
 w : Wf t.set
 nm : t.name.size ≤ 9223372036854775807
def GOk (f : Nat) (r : G) : Prop := ∀ t b, r = .ok (some t, b) → TkB t ∧ t.at_ = f
theorem jK (f : Nat) (e : Int × Int) : GOk f (.error e) := fun t b h => by cases h
theorem gok_none (f b : Nat) : GOk f (.ok (none, b)) := fun t b h => by cases h
theorem jo {t : Tk} (h : TkB t) (f b : Nat) : GOk f (gtok t f b) := fun t' b' e => by
 unfold gtok at e;cases e;exact ⟨⟨h.k, h.c, h.n, h.m, h.mode, h.on, h.off, h.s, h.w, h.nm⟩, rfl⟩
theorem je {f : Nat} {c : Prop} [Decidable c] {a b : G} (h1 : c → GOk f a) (h2 : ¬ c → GOk f b) : GOk f (if c then a else b) := by
 by_cases h : c
 ·rw [if_pos h]; exact h1 h
 ·rw [if_neg h]; exact h2 h
theorem bd0 : Bd 0 := by unfold Bd; omega
theorem tkB {k c n m mode on off : Int} {neg : Bool} {name : ByteArray} {a b : Nat} (h1 : Bd k) (h2 : Bd c) (h3 : Bd n) (h4 : Bd m) (h5 : Bd mode) (h6 : Bd on) (h7 : Bd off) (h8 : name.size ≤ 9223372036854775807 := by first | exact nm_e | exact nm_name _ _ | assumption) : TkB { kind := k, at_ := a, «to» := b, c := c, set := [], neg := neg, n := n, m := m, mode := mode, name := name, on := on, off := off } := ⟨h1, h2, h3, h4, h5, h6, h7, by simp, fun r hr => (by cases hr), h8⟩
theorem tkS {l : List Rg} {neg : Bool} {a b : Nat} (h : l.length ≤ 90000) (hw : Wf l) : TkB { kind := 2, at_ := a, «to» := b, set := l, neg := neg } := ⟨by unfold Bd; simp, bd0, bd0, bd0, bd0, bd0, bd0, h, hw, nm_e⟩
theorem dig0 (p : Pt) (a : Nat) : 0 ≤ (p.digits a).1 := by refine (tkw.val_bd _ (fun i hi => ?_)).1;have := tkw.run_fits (p := p) (fits := isDig) (k := 1000) (a := a) (i := a + i) (by omega) (by omega);simpa [isDig] using this
theorem num0 (p : Pt) (a : Nat) : Bd (num p a).1 := by have := dig0 p a;unfold num Bd;split <;> constructor <;> simp only <;> omega
theorem sign0 (p : Pt) (a : Nat) : Bd (p.sign a).1 := by
 unfold Pt.sign Bd
 repeat' split
 all_goals constructor <;> simp only <;> omega
theorem sgn0 (p : Pt) (a : Nat) : Bd (sgn p a).1 ∧ Bd (sgn p a).2.1 := by
 have h1 := num0 p (p.sign a).2;have h2 := sign0 p a;unfold sgn;split
 ·exact ⟨bd0, h2⟩
 ·exact ⟨h1, h2⟩
theorem mode0 (p : Pt) (a : Nat) : Bd (p.mode a).1 := by
 unfold Pt.mode Bd
 repeat' split
 all_goals constructor <;> simp only <;> omega
theorem quan_ok (p : Pt) (i to_ : Nat) {n m : Int} (hn : Bd n) (hm : Bd m) : GOk i (quan p i to_ n m) := jo (tkB (by unfold Bd; omega) bd0 hn hm (mode0 p to_) bd0 bd0) _ _
theorem simE0 (c : Int) : Bd (ji c) := by
 unfold ji Bd
 repeat' split
 all_goals omega
theorem assE0 (c : Int) : Bd (vZ c) := by
 unfold vZ Bd
 repeat' split
 all_goals omega
theorem quotes0 (p : Pt) (a : Nat) : Bd (p.quotes a).1 := by
 unfold Pt.quotes Bd
 repeat' split
 all_goals constructor <;> simp only <;> omega
theorem refR_ok (p : Pt) (f i : Nat) : GOk f (refR p f i) := by
 have hs := sgn0 p (p.quotes i).2.2;have hq := quotes0 p i;unfold refR;simp only
 repeat' split
 any_goals exact jK _ _
 ·exact jo (tkB hq bd0 hs.1 hs.2 bd0 bd0 bd0) _ _
 ·exact jo (tkB hq bd0 bd0 (by unfold Bd; omega) bd0 bd0 bd0) _ _
theorem backR_ok (p : Pt) (i to_ : Nat) : ∀ l, GOk i (backR p i to_ l)
 | [] => jK _ _
 | (o, z) :: l => by
  rw [backR]
  repeat' split
  any_goals exact backR_ok p i to_ l
  exact jo (tkB (by unfold Bd; omega) bd0 bd0 (by unfold Bd; omega) bd0 bd0 bd0) _ _
theorem escR_ok {S : ByteArray} {p : Pt} (h : Pat S p) {i : Nat} (hi : i < p.n) : GOk i (escR p i) := by
 rw [escR_eq];refine je (fun _ => ?_) (fun h1 => ?_)
 ·exact jK _ _
 have hc := char_val h (a := i + 1) (by omega);have hb := zM h (a := i + 1) (by omega);refine je (fun _ => ?_) (fun _ => ?_)
 ·exact jo (tkB (by unfold Bd; omega) (simE0 _) bd0 bd0 bd0 bd0 bd0) _ _
 refine je (fun _ => ?_) (fun _ => ?_)
 ·split
  ·exact jK _ _
  ·rename_i v e hv;have := hexz_in h hb.2 hv;exact jo (tkB (by unfold Bd; omega) (by unfold Bd; omega) bd0 bd0 bd0 bd0 bd0) _ _
 refine je (fun _ => ?_) (fun _ => ?_)
 ·exact jo (tkS (by simp) (fun r hr => by simp only [List.mem_cons, List.not_mem_nil, or_false] at hr;subst hr;simp)) _ _
 refine je (fun _ => ?_) (fun _ => ?_)
 ·exact jo (tkB (by unfold Bd; omega) bd0 (assE0 _) bd0 bd0 bd0 bd0) _ _
 refine je (fun _ => ?_) (fun _ => ?_)
 ·exact jo (tkB (by unfold Bd; omega) bd0 bd0 bd0 bd0 bd0 bd0) _ _
 refine je (fun _ => ?_) (fun _ => ?_)
 ·exact jo (tkB (by unfold Bd; omega) bd0 bd0 bd0 bd0 bd0 bd0) _ _
 refine je (fun _ => ?_) (fun _ => ?_)
 ·exact gok_none _ _
 refine je (fun _ => ?_) (fun _ => ?_)
 ·split
  ·exact jK _ _
  ·exact jo (tkB (by unfold Bd; omega) bd0 (num0 _ _) bd0 bd0 bd0 bd0) _ _
 refine je (fun _ => ?_) (fun _ => ?_)
 ·exact refR_ok _ _ _
 refine je (fun _ => ?_) (fun _ => ?_)
 ·exact backR_ok _ _ _ _
 split
 ·exact jK _ _
 ·rename_i l neg e hm;have := many_len (S := S) hm;exact jo (tkS (by omega) (setw.jX this.2.2)) _ _
 ·split
  ·exact jK _ _
  ·exact jo (tkB (by unfold Bd; omega) (by unfold Bd; omega) bd0 bd0 bd0 bd0 bd0) _ _
theorem item2 {S : ByteArray} {p : Pt} (h : Pat S p) {i to_ : Nat} {l : List Rg} {s : Bool} (hi : i < p.n) (e : itemR p i = .ok (l, s, to_)) : 2 * l.length ≤ 101 * (to_ - i) := by
 have hb := item_bd h hi e;have hc := zM h (a := i) hi;by_cases h2 : i + 2 ≤ to_
 ·omega
 ·suffices l.length ≤ 1 by omega
  unfold itemR at e;split at e
  ·split at e
   ·simp only [Except.ok.injEq, Prod.mk.injEq] at e;obtain ⟨rfl, rfl, rfl⟩ := e;rename_i h1 _;have hin := qR h h1.1;have hpb : i < posB p i ∧ posB p i ≤ p.n := by
     simp only [List.length_cons, List.length_nil] at hin;unfold posB;split
     ·rename_i h3;have := qR h h3;simp only [List.length_nil] at this;omega
     ·omega
    have h4 := tkw.run_bd (fits := isLet) (k := 1000) hpb.2;omega
   ·cases e
  ·unfold itemC at e;split at e
   ·split at e
    ·cases e
    ·rename_i hne;have := itemE_bd h (show (p.char i).2 < p.n by omega) e;omega
   ·simp only [Except.ok.injEq, Prod.mk.injEq] at e;obtain ⟨rfl, rfl, rfl⟩ := e;simp
theorem range2 {S : ByteArray} {p : Pt} (h : Pat S p) {i to_ : Nat} {l : List Rg} (hi : i < p.n) (e : rangeR p i = .ok (l, to_)) : 2 * l.length ≤ 101 * (to_ - i) := by
 have hb := range_bd h hi e;unfold rangeR at e;split at e
 ·cases e
 ·rename_i l1 s1 to1 h1;have b1 := item2 h hi h1;split at e
  ·split at e
   ·cases e
   ·split at e
    ·cases e
    ·simp only [Except.ok.injEq, Prod.mk.injEq] at e;obtain ⟨rfl, rfl⟩ := e;simp only [List.length_cons, List.length_nil];omega
  ·simp only [Except.ok.injEq, Prod.mk.injEq] at e;obtain ⟨rfl, rfl⟩ := e;exact b1
theorem clsL_len {S : ByteArray} {p : Pt} (h : Pat S p) (first : Nat) : ∀ (k : Nat) (all : List Rg) (i : Nat) (r : List Rg) (b : Nat), i ≤ p.n → 2 * all.length ≤ 101 * i → clsL p first k all i = .ok (r, b) → 2 * r.length ≤ 101 * p.n
 | 0, _, _, _, _, _, _, e => by cases e
 | k + 1, all, i, r, b, hi, hl, e => by
  rw [clsL] at e;split at e
  ·cases e
  ·split at e
   ·simp only [Except.ok.injEq, Prod.mk.injEq] at e;obtain ⟨rfl, rfl⟩ := e;omega
   ·split at e
    ·cases e
    ·rename_i l to_ hr;have b1 := range_bd h (show i < p.n by omega) hr;have b2 := range2 h (show i < p.n by omega) hr;exact clsL_len h first k _ _ _ _ b1.2.1 (by rw [List.length_append]; omega) e
theorem clsR_ok {S : ByteArray} {p : Pt} (h : Pat S p) {f : Nat} (hf : f < p.n) : GOk f (clsR p f) := by
 have hn := h.n;have hle := h.le;unfold clsR;simp only;split
 ·exact jK _ _
 ·rename_i all b hr;have h1 : (if p.has [94] (f + 1) = true then f + 2 else f + 1) ≤ p.n := by
   split
   ·rename_i h3;have := qR h h3;simp only [List.length_nil] at this;omega
   ·omega
  have := clsL_len h _ _ _ _ _ _ h1 (by simp) hr;have h2 := tkw.yg p.most all;exact jo (tkS (by omega) (setw.jX (ja (vH p) all).2)) _ _
theorem shutR_ok (p : Pt) {t : Tk} (ht : TkB t) (f i : Nat) (s : List UInt8) (e : Int) : GOk f (shutR p t f i s e) := by
 unfold shutR
 repeat' split
 any_goals exact jK _ _
 exact jo ht _ _
theorem callR_ok (p : Pt) {t : Tk} (ht : TkB t) (f i : Nat) (s : List UInt8) : GOk f (callR p t f i s) := by
 unfold callR
 repeat' split
 any_goals exact jK _ _
 exact jo (t := { t with name := p.sub i (p.name i).1 }) ⟨ht.k, ht.c, ht.n, ht.m, ht.mode, ht.on, ht.off, ht.s, ht.w, nm_name p i⟩ _ _
theorem optV_lt (c : Int) : optV c < 2 ^ 5 := by
 unfold optV
 repeat' split
 all_goals decide
theorem flagR_ok (p : Pt) (f : Nat) : ∀ (k i : Nat) (off : Bool) (on of_ : Int), 0 ≤ on ∧ on < 32 → 0 ≤ of_ ∧ of_ < 32 → GOk f (flagR p f k i off on of_)
 | 0, _, _, _, _, _, _ => jK _ _
 | k + 1, i, off, on, of_, h1, h2 => by
  have or_lt : ∀ (a : Int) (c : Int), 0 ≤ a ∧ a < 32 → 0 ≤ ((a.toNat ||| optV c : Nat) : Int) ∧ ((a.toNat ||| optV c : Nat) : Int) < 32 := fun a c ha => by
   have : a.toNat ||| optV c < 2 ^ 5 := Nat.or_lt_two_pow (by omega) (optV_lt c)
   omega
  rw [flagR]
  repeat' split
  any_goals exact jK _ _
  ·exact jo (tkB (by unfold Bd; omega) bd0 bd0 bd0 bd0 (by unfold Bd; omega) (by unfold Bd; omega)) _ _
  ·exact jo (tkB (by unfold Bd; omega) bd0 (by unfold Bd; omega) bd0 bd0 (by unfold Bd; omega) (by unfold Bd; omega)) _ _
  ·exact flagR_ok p f k _ _ _ _ h1 h2
  ·exact flagR_ok p f k _ _ _ _ h1 (or_lt _ _ h2)
  ·exact flagR_ok p f k _ _ _ _ (or_lt _ _ h1) h2
theorem condE_ok (p : Pt) (f : Nat) {t : Tk} (ht : TkB t) (to_ : Nat) (ok : Bool) : GOk f (condE p f t to_ ok) := by
 unfold condE
 repeat' split
 any_goals exact jK _ _
 exact jo ht _ _
theorem condR_ok (p : Pt) (f i : Nat) : GOk f (condR p f i) := by
 have hs := sgn0 p i;unfold condR condN
 repeat' split
 any_goals exact jK _ _
 ·exact jo (tkB (by unfold Bd; omega) bd0 (by unfold Bd; omega) bd0 bd0 bd0 bd0) _ _
 ·exact condE_ok _ _ (tkB (by unfold Bd; omega) bd0 (by unfold Bd; omega) bd0 bd0 bd0 bd0) _ _
 ·exact condE_ok _ _ (tkB (by unfold Bd; omega) bd0 (by unfold Bd; omega) bd0 bd0 bd0 bd0) _ _
 ·exact condE_ok _ _ (tkB (by unfold Bd; omega) bd0 (by unfold Bd; omega) bd0 bd0 bd0 bd0) _ _
 ·exact condE_ok _ _ (tkB (by unfold Bd; omega) bd0 (by unfold Bd; omega) (by unfold Bd; omega) bd0 bd0 bd0) _ _
 ·exact condE_ok _ _ (tkB (by unfold Bd; omega) bd0 (by unfold Bd; omega) bd0 (by unfold Bd; omega) bd0 bd0) _ _
 ·exact condE_ok _ _ (tkB (by unfold Bd; omega) bd0 (by unfold Bd; omega) bd0 (num0 _ _) bd0 bd0) _ _
 ·exact condE_ok _ _ (tkB (by unfold Bd; omega) bd0 (by unfold Bd; omega) hs.2 hs.1 bd0 bd0) _ _
theorem verbV0 (s : ByteArray) : Bd (verbV s) := by
 unfold verbV Bd
 repeat' split
 all_goals omega
theorem verbG_ok (f i : Nat) (word arg : ByteArray) (wth : Bool) (ha : arg.size ≤ 9223372036854775807) : GOk f (verbG f i word arg wth) := by
 have := verbV0 word;unfold verbG;split
 ·exact jK _ _
 ·exact jo (tkB (by unfold Bd; omega) bd0 this bd0 bd0 bd0 bd0) _ _
theorem verbR_ok (p : Pt) (hn : p.n ≤ 9223372036854775807) (f : Nat) : GOk f (verbR p f) := by
 unfold verbR;split
 ·exact jK _ _
 ·rename_i i hi;split
  ·exact verbG_ok _ _ _ _ _ nm_e
  ·rename_i j hj;refine verbG_ok _ _ _ _ _ ?_;have h1 := find_lt (p := p) (show p.find 41 (p.n - (f + 2)) (f + 2) = some i from hi);have h2 := find_lt hj;have h3 := nm_len p (j + 1) i;omega
theorem kindR_ok (p : Pt) (f i : Nat) : ∀ (l : List (List UInt8 × Int)), (∀ q ∈ l, Bd q.2) → ∀ g, kindR p f i l = some g → GOk f g
 | [], _, g, h => by cases h
 | (s, k) :: l, hl, g, h => by
  rw [kindR] at h;split at h
  ·cases h;exact jo (tkB (by unfold Bd; omega) bd0 (hl _ (List.mem_cons_self ..)) bd0 bd0 bd0 bd0) _ _
  ·exact kindR_ok p f i l (fun q hq => hl q (List.mem_cons_of_mem _ hq)) g h
theorem numR_ok (p : Pt) (f i : Nat) : GOk f (numR p f i) := by
 have hs := sgn0 p i;have h1 := shutR_ok p (t := { kind := 12, n := (sgn p i).1, m := (sgn p i).2.1 }) (tkB (by unfold Bd; omega) bd0 hs.1 hs.2 bd0 bd0 bd0) f (sgn p i).2.2.1 [41] 26;unfold numR;simp only;split
 ·exact jK _ _
 ·split
  ·split
   ·exact jK _ _
   ·exact jK _ _
  ·split
   ·exact jK _ _
   ·rename_i r hr;split
    ·exact jK _ _
    ·rw [hr] at h1;exact h1
theorem openK_ok (p : Pt) (f i : Nat) : GOk f (openK p f i) := by
 have z : Bd 1 := by unfold Bd; omega
 have z3 : Bd 3 := by unfold Bd; omega
 have k10 : Bd 10 := by unfold Bd; omega
 have k11 : Bd 11 := by unfold Bd; omega
 have k12 : Bd 12 := by unfold Bd; omega
 unfold openK;refine je (fun _ => ?_) (fun _ => ?_)
 ·split
  ·exact jK _ _
  ·exact gok_none _ _
 refine je (fun _ => ?_) (fun _ => ?_)
 ·exact callR_ok _ (tkB k10 bd0 z bd0 bd0 bd0 bd0) _ _ _
 refine je (fun _ => ?_) (fun _ => ?_)
 ·exact callR_ok _ (tkB k10 bd0 z bd0 bd0 bd0 bd0) _ _ _
 refine je (fun _ => ?_) (fun _ => ?_)
 ·exact callR_ok _ (tkB k10 bd0 z bd0 bd0 bd0 bd0) _ _ _
 refine je (fun _ => ?_) (fun _ => ?_)
 ·exact callR_ok _ (tkB k11 bd0 bd0 z3 bd0 bd0 bd0) _ _ _
 refine je (fun _ => ?_) (fun _ => ?_)
 ·exact callR_ok _ (tkB k12 bd0 bd0 z3 bd0 bd0 bd0) _ _ _
 refine je (fun _ => ?_) (fun _ => ?_)
 ·exact callR_ok _ (tkB k12 bd0 bd0 z3 bd0 bd0 bd0) _ _ _
 refine je (fun _ => ?_) (fun _ => ?_)
 ·exact shutR_ok _ (tkB k12 bd0 bd0 bd0 bd0 bd0 bd0) _ _ _ _
 refine je (fun _ => ?_) (fun _ => ?_)
 ·split
  ·exact jK _ _
  ·exact shutR_ok _ (tkB (by unfold Bd; omega) bd0 (num0 _ _) bd0 bd0 bd0 bd0) _ _ _ _
 refine je (fun _ => ?_) (fun _ => ?_)
 ·exact condR_ok _ _ _
 refine je (fun _ => ?_) (fun _ => ?_)
 ·exact numR_ok _ _ _
 ·exact flagR_ok _ _ _ _ _ _ _ (by omega) (by omega)
theorem openR_ok (p : Pt) (hn : p.n ≤ 9223372036854775807) (f : Nat) : GOk f (openR p f) := by
 unfold openR;split
 ·exact verbR_ok _ hn _
 split
 ·exact jo (tkB (by unfold Bd; omega) bd0 (by unfold Bd; omega) bd0 bd0 bd0 bd0) _ _
 split
 ·exact jK _ _
 split
 ·rename_i g hg;exact kindR_ok p f (f + 2) kindsT (fun q hq => by simp only [kindsT, List.mem_cons, List.not_mem_nil, or_false] at hq;unfold Bd;rcases hq with rfl | rfl | rfl | rfl | rfl | rfl | rfl <;> simp only <;> omega) g hg
 ·exact openK_ok _ _ _
theorem bracR_ok (p : Pt) (i : Nat) {n m : Int} {b : Nat} {g : Bool} (h : bracR p i = some (n, m, b, g)) : Bd n ∧ Bd m := by
 have h1 := num0 p (i + 1);have h2 := num0 p ((num p (i + 1)).2.1 + 1);unfold bracR at h;simp only at h;split at h
 ·split at h
  ·simp only [Option.some.injEq, Prod.mk.injEq] at h;obtain ⟨rfl, rfl, _, _⟩ := h;refine ⟨h1, ?_⟩;split
   ·unfold Bd; omega
   ·exact h2
  ·cases h
 ·split at h
  ·cases h
  ·simp only [Option.some.injEq, Prod.mk.injEq] at h;obtain ⟨rfl, rfl, _, _⟩ := h;exact ⟨h1, h1⟩
theorem tokR_ok {S : ByteArray} {p : Pt} (h : Pat S p) {i : Nat} (hi : i < p.n) : GOk i (tokR p i) := by
 have hc := char_val h hi;rw [tokR_eq];refine je (fun _ => ?_) (fun _ => ?_)
 ·exact gok_none _ _
 refine je (fun _ => ?_) (fun _ => ?_)
 ·exact gok_none _ _
 refine je (fun _ => ?_) (fun _ => ?_)
 ·exact escR_ok h hi
 refine je (fun _ => ?_) (fun _ => ?_)
 ·exact clsR_ok h hi
 refine je (fun _ => ?_) (fun _ => ?_)
 ·exact openR_ok _ (by have := h.n; have := h.le; omega) _
 refine je (fun _ => ?_) (fun _ => ?_)
 ·exact jo (tkB (by unfold Bd; omega) bd0 bd0 bd0 bd0 bd0 bd0) _ _
 refine je (fun _ => ?_) (fun _ => ?_)
 ·exact jo (tkB (by unfold Bd; omega) bd0 (by unfold Bd; omega) bd0 bd0 bd0 bd0) _ _
 refine je (fun _ => ?_) (fun _ => ?_)
 ·exact jo (tkB (by unfold Bd; omega) bd0 (by unfold Bd; omega) bd0 bd0 bd0 bd0) _ _
 refine je (fun _ => ?_) (fun _ => ?_)
 ·exact jo (tkB (by unfold Bd; omega) bd0 bd0 bd0 bd0 bd0 bd0) _ _
 refine je (fun _ => ?_) (fun _ => ?_)
 ·exact jo (tkB (by unfold Bd; omega) bd0 bd0 bd0 bd0 bd0 bd0) _ _
 refine je (fun _ => ?_) (fun _ => ?_)
 ·exact quan_ok _ _ _ bd0 (by unfold Bd; omega)
 refine je (fun _ => ?_) (fun _ => ?_)
 ·exact quan_ok _ _ _ (by unfold Bd; omega) (by unfold Bd; omega)
 refine je (fun _ => ?_) (fun _ => ?_)
 ·exact quan_ok _ _ _ bd0 (by unfold Bd; omega)
 refine je (fun _ => ?_) (fun _ => ?_)
 ·split
  ·exact jo (tkB (by unfold Bd; omega) (by unfold Bd; omega) bd0 bd0 bd0 bd0 bd0) _ _
  ·rename_i n m b g hb;have := bracR_ok p i hb
   repeat' split
   any_goals exact jK _ _
   exact quan_ok _ _ _ this.1 this.2
 ·exact jo (tkB (by unfold Bd; omega) (by unfold Bd; omega) bd0 bd0 bd0 bd0 bd0) _ _
theorem lexF_ok {S : ByteArray} {p : Pt} (h : Pat S p) : ∀ (k : Nat) (q : Bool) (T : List Tk) (i : Nat) (R : List Tk), (∀ t ∈ T, TkB t ∧ t.at_ ≤ p.n) → T.length ≤ i → i ≤ p.n → lexF p k q T i = .ok R → (∀ t ∈ R, TkB t ∧ t.at_ ≤ p.n) ∧ R.length ≤ p.n
 | 0, _, T, i, R, h1, h2, h3, e => by rw [lexF] at e;cases e;exact ⟨h1, by omega⟩
 | k + 1, q, T, i, R, h1, h2, h3, e => by
  rw [lexF] at e;split at e
  ·cases e;exact ⟨h1, by omega⟩
  ·rename_i hi;have hc := char_val h (a := i) (by omega);have hb := zM h (a := i) (by omega);split at e
   ·split at e
    ·rename_i h4;have := qR h h4;simp only [List.length_cons, List.length_nil] at this;exact lexF_ok h k _ _ _ _ h1 (by omega) (by omega) e
    ·refine lexF_ok h k _ _ _ _ (fun t ht => ?_) (by simp only [List.length_append, List.length_cons, List.length_nil]; omega) hb.2 e;rcases List.mem_append.1 ht with ht | ht
     ·exact h1 t ht
     ·simp only [List.mem_cons, List.not_mem_nil, or_false] at ht;subst ht;exact ⟨(jo (tkB (k := 1) (c := (p.char i).1) (a := 0) (b := 0) (neg := false) (name := ⟨#[]⟩) (by unfold Bd; omega) (by unfold Bd; omega) bd0 bd0 bd0 bd0 bd0) i (p.char i).2 _ _ rfl).1, by show i ≤ p.n; omega⟩
   ·split at e
    ·rename_i h4;have := qR h h4;simp only [List.length_cons, List.length_nil] at this;exact lexF_ok h k _ _ _ _ h1 (by omega) (by omega) e
    ·split at e
     ·cases e
     ·rename_i to_ ht;have := tokR_bd h (show i < p.n by omega) ht;exact lexF_ok h k _ _ _ _ h1 (by omega) (by omega) e
     ·rename_i t to_ ht;have b := tokR_bd h (show i < p.n by omega) ht;have c := tokR_ok h (show i < p.n by omega) t to_ ht;refine lexF_ok h k _ _ _ _ (fun t' ht' => ?_) (by simp only [List.length_append, List.length_cons, List.length_nil]; omega) b.2 e;rcases List.mem_append.1 ht' with ht' | ht'
      ·exact h1 t' ht'
      ·simp only [List.mem_cons, List.not_mem_nil, or_false] at ht';subst ht';exact ⟨c.1, by rw [c.2]; omega⟩
end Go.Proofs.YtikjhfmmfpeaoaaGreatDoor.rtw
end
section
namespace Go.Proofs.YtikjhfmmfpeaoaaGreatDoor.trp
open sq
open Go
structure Lab where
 kind : Int
 at_ : Int
 c : Int
 sv : Value
 set : List (Int × Int)
 neg : Bool
 n : Int
 m : Int
 mode : Int
 name : ByteArray
 on : Int
 off : Int
 kv : Value
inductive F where
 | nil
 | cons (x : Lab) (k r : F)
def F.len : F → Nat
 | .nil => 0
 | .cons _ _ r => r.len + 1
def F.size : F → Nat
 | .nil => 0
 | .cons _ k r => k.size + r.size + 1
def F.hd : F → Int
 | .nil => 0
 | .cons x _ _ => x.kind
def F.drop : F → Nat → F
 | f, 0 => f
 | .nil, _ + 1 => .nil
 | .cons _ _ r, n + 1 => r.drop n
abbrev Nd := Lab × F
def repK (k : Int) : Bool := !(decide (k = 4) || decide (k = 5) || decide (k = 9) || decide (k = 10) || decide (k = 11))
end Go.Proofs.YtikjhfmmfpeaoaaGreatDoor.trp
end
section
namespace Go.Proofs.YtikjhfmmfpeaoaaGreatDoor.rpp
open sq
open Go tkp trp
structure Ps where
 i : Nat
 op : Nat := 0
 e : Int := 0
 at_ : Int := 0
abbrev nil3 : Value := .slice none 0 0
def lab (kind at_ : Int) : Lab := { kind := kind, at_ := at_, c := 0, sv := nil3, set := [], neg := false, n := 0, m := 0, mode := 0, name := ⟨#[]⟩, on := 0, off := 0, kv := nil3 }
def strip : F → F
 | .nil => .nil
 | .cons x k r => .cons { x with sv := nil3, kv := nil3 } (strip k) (strip r)
def F.app : F → F → F
 | .nil, g => g
 | .cons x k r, g => .cons x k (F.app r g)
def F.one (x : Lab) (k : F) : F := .cons x k .nil
def oneF (kind : Int) : F → F
 | .cons x k .nil => .cons x k .nil
 | l => .cons (lab kind 0) l .nil
def kindS (L : List Tk) (s : Ps) : Int := if s.e ≠ 0 then 0 else match L[s.i]? with
 | none => 0
 | some t => t.kind
def failS (s : Ps) (e a : Int) : Ps := if s.e = 0 then { s with e := e, at_ := a } else s
def leafK (k : Int) : Int := if k = 1 then 1 else if k = 2 then 2 else if k = 3 then 3 else if k = 4 then 4 else if k = 5 then 5 else if k = 6 then 6 else if k = 11 then 7 else if k = 12 then 8 else if k = 13 then 9 else if k = 14 then 10 else 11
def leafL (t : Tk) (sv : Value) : Lab := { kind := leafK t.kind, at_ := t.at_, c := t.c, sv := sv, set := t.set, neg := t.neg, n := t.n, m := t.m, mode := 0, name := t.name, on := t.on, off := t.off, kv := nil3 }
def zeroF : F := F.one (lab 0 0) .nil
def repF (t : Tk) (q : F) : F := F.one { lab 20 t.at_ with n := t.n, m := t.m, mode := t.mode } q
def jf (t : Tk) (look l : F) : F :=
 if t.n = 1 then F.one { lab 14 t.at_ with name := t.name } (oneF 13 l)
 else if t.n = 2 then F.one { lab 15 t.at_ with on := t.on, off := t.off } (oneF 13 l)
 else if t.n = 4 then F.one (lab 17 t.at_) (oneF 13 l)
 else if t.n = 5 ∨ t.n = 6 ∨ t.n = 7 ∨ t.n = 8 then F.one { lab 18 t.at_ with n := t.n } (oneF 13 l)
 else if t.n = 3 then F.one (lab 16 t.at_) l
 else F.one { lab 19 t.at_ with n := t.n, m := t.m, mode := t.mode, name := t.name } (F.app look l)
def condT (t : Tk) : Bool := !(decide (1 ≤ t.n) && decide (t.n ≤ 8))
def zf (t : Tk) (l : F) (s : Ps) : Ps := if condT t = true ∧ (2 < l.len ∨ (1 < l.len ∧ t.n = 12)) then failS s 32 t.at_ else s
def zeroT : Tk := { kind := 0 }
inductive Md where
 | alt (acc : F)
 | seq (acc : F)
 | thing
def run (L : List Tk) : Nat → Md → Ps → F × Ps
 | 0, _, s => (.nil, s)
 | n + 1, .alt acc, s =>
  let r := run L n (.seq .nil) s
  if kindS L r.2 = 7 then run L n (.alt (F.app acc r.1)) { r.2 with i := r.2.i + 1 } else (F.app acc r.1, r.2)
 | n + 1, .seq acc, s =>
  if kindS L s = 0 ∨ kindS L s = 7 ∨ kindS L s = 8 then (oneF 12 acc, s)
  else if kindS L s = 9 then (zeroF, failS s 30 (L.getD s.i zeroT).at_)
  else
   let r := run L n .thing s
   if kindS L r.2 = 9 ∧ repK r.1.hd = true then run L n (.seq (F.app acc (repF (L.getD r.2.i zeroT) r.1))) { r.2 with i := r.2.i + 1 }
   else run L n (.seq (F.app acc r.1)) r.2
 | n + 1, .thing, s =>
  let t := L.getD s.i zeroT
  if t.kind ≠ 10 then (F.one (leafL t nil3) .nil, { s with i := s.i + 1 })
  else if s.op = 40 then (zeroF, failS s 11 t.at_)
  else
   let s1 : Ps := { s with i := s.i + 1, op := s.op + 1 }
   let q := if t.n = 13 ∧ kindS L s1 = 10 then run L n .thing s1 else (.nil, s1)
   let r := run L n (.alt .nil) q.2
   if kindS L r.2 ≠ 8 then (zeroF, failS r.2 20 (-1))
   else (jf t q.1 r.1, zf t r.1 { r.2 with i := r.2.i + 1, op := r.2.op - 1 })
def parseP (L : List Tk) (n : Int) : R F :=
 let r := run L (3 * L.length + 3) (.alt .nil) { i := 0 }
 let s := if r.2.e = 0 ∧ r.2.i < L.length then failS r.2 31 (L.getD r.2.i zeroT).at_ else r.2
 if s.e = 20 then .error (20, n) else if s.e ≠ 0 then .error (s.e, s.at_) else .ok (oneF 13 r.1)
end Go.Proofs.YtikjhfmmfpeaoaaGreatDoor.rpp
end
section
namespace Go.Proofs.YtikjhfmmfpeaoaaGreatDoor.rsp
open sq
open Go tkp trp rpp setp setw
def setP (u : Bool) (m : Int) (l : List Rg) (cl neg : Bool) : List Rg :=
 let x := normR m l
 let y := if cl = true then normR m (caseM x u) else x
 if neg = true then notR m (normR m y) else y
def andI (f n : Int) : Int := bits BinOp.and .i64 f n
def turnI (f on off : Int) : Int := bits BinOp.andNot .i64 (bits BinOp.or .i64 f on) off
def bare (x : Lab) : Lab := { x with sv := nil3, kv := nil3 }
def setL (at_ : Int) (l : List Rg) : F := F.one { lab 2 at_ with set := l } .nil
def lineF (m at_ : Int) : F :=
 F.one (lab 17 at_) (F.one (lab 13 at_) (F.app (F.one (lab 12 0) (F.app (setL at_ [(13, 13)]) (setL at_ [(10, 10)]))) (setL at_ (normR m [(10, 13), (133, 133), (8232, 8233)]))))
def assN (f n : Int) : Int := if andI f 2 ≠ 0 ∧ n = 1 then 9 else if andI f 2 ≠ 0 ∧ n = 2 then 10 else n
def repM (f k m : Int) : Int := if k = 20 ∧ andI f 16 ≠ 0 ∧ m = 0 then 1 else if k = 20 ∧ andI f 16 ≠ 0 ∧ m = 1 then 0 else m
def OkF : F → Prop
 | .nil => True
 | .cons x k r => x.set.length ≤ 90000 ∧ (x.kind = 15 → k.len ≠ 0) ∧ OkF k ∧ OkF r
theorem okF_app : ∀ {f g : F}, OkF f → OkF g → OkF (F.app f g)
 | .nil, _, _, h => h
 | .cons _ _ _, _, h, k => ⟨h.1, h.2.1, h.2.2.1, okF_app h.2.2.2 k⟩
theorem okF_drop : ∀ {f : F} (i : Nat), OkF f → OkF (f.drop i)
 | .nil, i, h => by cases i <;> exact h
 | .cons _ _ r, 0, h => h
 | .cons _ _ r, i + 1, h => okF_drop (f := r) i h.2.2.2
theorem app_nil : ∀ f : F, F.app f .nil = f
 | .nil => rfl
 | .cons x k r => by rw [F.app, app_nil r]
theorem app_assoc : ∀ f g h : F, F.app (F.app f g) h = F.app f (F.app g h)
 | .nil, _, _ => rfl
 | .cons x k r, g, h => by rw [F.app, F.app, app_assoc r g h]; rfl
theorem app_size : ∀ f g : F, (F.app f g).size = f.size + g.size
 | .nil, g => by simp [F.app, F.size]
 | .cons x k r, g => by rw [F.app, F.size, F.size, app_size r g]; omega
theorem jd : ∀ f g : F, (F.app f g).len = f.len + g.len
 | .nil, g => by simp [F.app, F.len]
 | .cons x k r, g => by rw [F.app, F.len, F.len, jd r g]; omega
theorem len_size : ∀ f : F, f.len ≤ f.size
 | .nil => Nat.le_refl _
 | .cons _ k r => by have := len_size r; simp only [F.len, F.size]; omega
theorem oneF_size (k : Int) : ∀ l : F, (oneF k l).size ≤ l.size + 1
 | .nil => by simp [oneF, F.size]
 | .cons x k .nil => by simp [oneF]
 | .cons x k (.cons _ _ _) => by simp only [oneF, F.size]; omega
end Go.Proofs.YtikjhfmmfpeaoaaGreatDoor.rsp
end
section
namespace Go.Proofs.YtikjhfmmfpeaoaaGreatDoor.rpp
open sq
open Go tkp trp
def rem (L : List Tk) (s : Ps) : Nat := if s.e ≠ 0 then 0 else L.length - s.i
structure Inv (L : List Tk) (s q : Ps) : Prop where
 i : s.i ≤ q.i
 n : q.i ≤ L.length
 op : q.op ≤ 40
 e : q.e = 0 → s.e = 0 ∧ q.op = s.op
 r : rem L q ≤ rem L s
theorem Inv.trans {L : List Tk} {a b c : Ps} (h : Inv L a b) (k : Inv L b c) : Inv L a c :=
 ⟨Nat.le_trans h.i k.i, k.n, k.op, fun e => ⟨(h.e (k.e e).1).1, (k.e e).2.trans (h.e (k.e e).1).2⟩, Nat.le_trans k.r h.r⟩
theorem Inv.refl {L : List Tk} {s : Ps} (h1 : s.i ≤ L.length) (h2 : s.op ≤ 40) : Inv L s s := ⟨Nat.le_refl _, h1, h2, fun e => ⟨e, rfl⟩, Nat.le_refl _⟩
theorem zW {L : List Tk} {s : Ps} (h : kindS L s ≠ 0) : s.e = 0 ∧ s.i < L.length ∧ ∃ t, L[s.i]? = some t ∧ kindS L s = t.kind := by
 unfold kindS at *;by_cases he : s.e ≠ 0
 ·rw [if_pos he] at h; exact absurd rfl h
 ·rw [if_neg he] at h ⊢;cases ht : L[s.i]? with
  | none => rw [ht] at h; exact absurd rfl h
  | some t => exact ⟨by simpa using he, (List.getElem?_eq_some_iff.1 ht).1, t, rfl, rfl⟩
theorem inv_fail {L : List Tk} {s : Ps} (h1 : s.i ≤ L.length) (h2 : s.op ≤ 40) {e a : Int} (he : e ≠ 0) : Inv L s (failS s e a) := by
 unfold failS;split
 ·rename_i h0;exact ⟨Nat.le_refl _, h1, h2, fun h => absurd h he, by unfold rem; simp [he]⟩
 ·exact Inv.refl h1 h2
theorem failS_e {s : Ps} {e a : Int} (he : e ≠ 0) : (failS s e a).e ≠ 0 := by
 unfold failS;split
 ·exact he
 ·rename_i h; exact h
theorem rem_ok {L : List Tk} {s : Ps} (h : s.e = 0) : rem L s = L.length - s.i := by unfold rem; rw [if_neg (by simp [h])]
theorem rem_err {L : List Tk} {s : Ps} (h : s.e ≠ 0) : rem L s = 0 := by unfold rem; rw [if_pos h]
theorem rem_le (L : List Tk) {s q : Ps} (h : q.e = 0 → s.e = 0) (hi : s.i ≤ q.i) : rem L q ≤ rem L s := by
 by_cases hq : q.e = 0
 ·rw [rem_ok hq, rem_ok (h hq)]; omega
 ·rw [rem_err hq]; omega
theorem inv_step {L : List Tk} {s : Ps} (h : s.i < L.length) (h2 : s.op ≤ 40) : Inv L s { s with i := s.i + 1 } := by exact ⟨Nat.le_succ _, h, h2, fun e => ⟨e, rfl⟩, rem_le L (fun e => e) (Nat.le_succ _)⟩
theorem rem_lt {L : List Tk} {s q : Ps} (h0 : s.e = 0) (h : s.i < L.length) (hq : q.e ≠ 0 ∨ s.i < q.i) : rem L q < rem L s := by
 rw [rem_ok h0];by_cases hz : q.e = 0
 ·rw [rem_ok hz];rcases hq with hq | hq
  ·exact absurd hz hq
  ·omega
 ·rw [rem_err hz]; omega
theorem zq (L : List Tk) : ∀ (n : Nat) (md : Md) (s : Ps), s.i ≤ L.length → s.op ≤ 40 → (md = .thing → s.e = 0 ∧ s.i < L.length) →
 Inv L s (run L n md s).2 ∧ (md = .thing → n ≠ 0 → (run L n md s).2.e ≠ 0 ∨ s.i < (run L n md s).2.i)
 | 0, _, s, h1, h2, _ => ⟨Inv.refl h1 h2, fun _ h => absurd rfl h⟩
 | n + 1, .alt acc, s, h1, h2, _ => by
  refine ⟨?_, fun h => by cases h⟩;have a := (zq L n (.seq .nil) s h1 h2 (fun h => by cases h)).1;rw [run];simp only;generalize run L n (.seq .nil) s = r at *;split
  ·rename_i hk;obtain ⟨_, hi, _⟩ := zW (L := L) (s := r.2) (by rw [hk]; decide);have b := inv_step hi a.op;exact a.trans (b.trans (zq L n _ _ b.n b.op (fun h => by cases h)).1)
  ·exact a
 | n + 1, .seq acc, s, h1, h2, _ => by
  refine ⟨?_, fun h => by cases h⟩;rw [run];split
  ·exact Inv.refl h1 h2
  ·rename_i hk0;split
   ·exact inv_fail h1 h2 (by decide)
   ·obtain ⟨he, hi, _⟩ := zW (L := L) (s := s) (fun e => hk0 (Or.inl e));have a := (zq L n .thing s h1 h2 (fun _ => ⟨he, hi⟩)).1;simp only;generalize run L n .thing s = r at *;split
    ·rename_i hq;obtain ⟨_, hi2, _⟩ := zW (L := L) (s := r.2) (by rw [hq.1]; decide);have b := inv_step hi2 a.op;exact a.trans (b.trans (zq L n _ _ b.n b.op (fun h => by cases h)).1)
    ·exact a.trans (zq L n _ _ a.n a.op (fun h => by cases h)).1
 | n + 1, .thing, s, h1, h2, h3 => by
  obtain ⟨he, hi⟩ := h3 rfl;have key : Inv L s (run L (n + 1) .thing s).2 ∧ ((run L (n + 1) .thing s).2.e ≠ 0 ∨ s.i < (run L (n + 1) .thing s).2.i) := by
   rw [run];simp only;split
   ·exact ⟨inv_step hi h2, Or.inr (Nat.lt_succ_self _)⟩
   ·split
    ·exact ⟨inv_fail h1 h2 (by decide), Or.inl (failS_e (by decide))⟩
    ·rename_i h40;have g0 : (⟨s.i + 1, s.op + 1, s.e, s.at_⟩ : Ps).i ≤ L.length := hi;have g1 : (⟨s.i + 1, s.op + 1, s.e, s.at_⟩ : Ps).op ≤ 40 := by simp only; omega
     have a : Inv L ⟨s.i + 1, s.op + 1, s.e, s.at_⟩ (if (L.getD s.i zeroT).n = 13 ∧ kindS L ⟨s.i + 1, s.op + 1, s.e, s.at_⟩ = 10 then run L n .thing ⟨s.i + 1, s.op + 1, s.e, s.at_⟩ else (.nil, ⟨s.i + 1, s.op + 1, s.e, s.at_⟩)).2 := by
      split
      ·rename_i hk;obtain ⟨k1, k2, _⟩ := zW (L := L) (s := ⟨s.i + 1, s.op + 1, s.e, s.at_⟩) (by rw [hk.2]; decide);exact (zq L n .thing _ g0 g1 (fun _ => ⟨k1, k2⟩)).1
      ·exact Inv.refl g0 g1
     generalize (if (L.getD s.i zeroT).n = 13 ∧ kindS L ⟨s.i + 1, s.op + 1, s.e, s.at_⟩ = 10 then run L n .thing ⟨s.i + 1, s.op + 1, s.e, s.at_⟩ else (.nil, ⟨s.i + 1, s.op + 1, s.e, s.at_⟩)) = q at *;have b := a.trans (zq L n (.alt .nil) q.2 a.n a.op (fun h => by cases h)).1;generalize run L n (.alt .nil) q.2 = r at *;have bi : s.i + 1 ≤ r.2.i := b.i;have rs : ∀ {x : Ps}, rem L x ≤ rem L ⟨s.i + 1, s.op + 1, s.e, s.at_⟩ → rem L x ≤ rem L s := fun {x} h => by have : rem L ⟨s.i + 1, s.op + 1, s.e, s.at_⟩ ≤ rem L s := rem_le L (fun e => e) (Nat.le_succ _);omega
     split
     ·have f := inv_fail (L := L) (s := r.2) b.n b.op (e := 20) (a := -1) (by decide);exact ⟨⟨Nat.le_trans (by omega) f.i, f.n, f.op, fun e => absurd e (failS_e (by decide)), rs (Nat.le_trans f.r b.r)⟩, Or.inl (failS_e (by decide))⟩
     ·rename_i hk;obtain ⟨k1, k2, _⟩ := zW (L := L) (s := r.2) (by
       intro e;apply hk;rw [e];decide)
      have hop : r.2.op = s.op + 1 := (b.e k1).2;have c : Inv L s ⟨r.2.i + 1, r.2.op - 1, r.2.e, r.2.at_⟩ := ⟨by show s.i ≤ r.2.i + 1; omega, k2, by show r.2.op - 1 ≤ 40; omega, fun _ => ⟨he, by show r.2.op - 1 = s.op; omega⟩, rem_le L (fun _ => he) (by show s.i ≤ r.2.i + 1; omega)⟩;unfold zf;split
      ·exact ⟨c.trans (inv_fail c.n c.op (by decide)), Or.inl (failS_e (by decide))⟩
      ·exact ⟨c, Or.inr (by show s.i < r.2.i + 1; omega)⟩
  exact ⟨key.1, fun _ _ => key.2⟩
theorem run_rem {L : List Tk} {n : Nat} {s : Ps} (hn : n ≠ 0) (h2 : s.op ≤ 40) (he : s.e = 0) (hi : s.i < L.length) : rem L (run L n .thing s).2 < rem L s :=
 rem_lt he hi ((zq L n .thing s (by omega) h2 (fun _ => ⟨he, hi⟩)).2 rfl hn)
end Go.Proofs.YtikjhfmmfpeaoaaGreatDoor.rpp
end
