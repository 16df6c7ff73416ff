/- T -/
import Derived.Test.YtdgfclbajjjcgaaBGs19
set_option maxHeartbeats 16000000
set_option maxRecDepth 1000000
namespace Go.Proofs.Ytdgfclbajjjcgaa
section
namespace rtw
open sq
open setw (Wf)
open Go utfp ucdp setp prp tkp rtp
def Bd (a : Int) : Prop := -2000000 ≤ a ∧ a ≤ 2000000
theorem nm_e : (⟨#[]⟩ : ByteArray).size ≤ 9223372036854775807 := by decide
theorem nm_len (p : Pt) (a b : Nat) : (p.sub a b).size ≤ b - a := by unfold Pt.sub strOfNums;simp [ByteArray.size]
theorem run_le1 (p : Pt) (fits : Int → Bool) : ∀ k a, p.run fits k a ≤ a + k
 | 0, a => xL _
 | k + 1, a => by
  rw [Pt.run];split
  ·have := run_le1 p fits k (a + 1); omega
  ·omega
theorem find_lt {p : Pt} {c : Int} : ∀ {k a j : Nat}, p.find c k a = some j → a ≤ j ∧ j < a + k
 | 0, _, _, h => by cases h
 | k + 1, a, j, h => by
  rw [Pt.find] at h;split at h
  ·cases h; omega
  ·have := find_lt h; omega
theorem nm_name (p : Pt) (a : Nat) : (p.sub a (p.name a).1).size ≤ 9223372036854775807 := by have h := nm_len p a (p.name a).1;have h2 : (p.name a).1 ≤ a + 1000 := run_le1 p isWrd 1000 a;omega
structure TkB (t : Tk) : Prop where
 k : Bd t.kind
 c : Bd t.c
 n : Bd t.n
 m : Bd t.m
 mode : Bd t.mode
 on : Bd t.on
 off : Bd t.off
 s : t.set.length ≤ 90000
 w : Wf t.set
 nm : t.name.size ≤ 9223372036854775807
def GOk (f : Nat) (r : G) : Prop := ∀ t b, r = .ok (some t, b) → TkB t ∧ t.at_ = f
theorem jK (f : Nat) (e : Int × Int) : GOk f (.error e) := fun t b h => by cases h
theorem gok_none (f b : Nat) : GOk f (.ok (none, b)) := fun t b h => by cases h
theorem jo {t : Tk} (h : TkB t) (f b : Nat) : GOk f (gtok t f b) := fun t' b' e => by
 unfold gtok at e;cases e;exact ⟨⟨h.k, h.c, h.n, h.m, h.mode, h.on, h.off, h.s, h.w, h.nm⟩, rfl⟩
theorem je {f : Nat} {c : Prop} [Decidable c] {a b : G} (h1 : c → GOk f a) (h2 : ¬ c → GOk f b) : GOk f (if c then a else b) := by
 by_cases h : c
 ·rw [if_pos h]; exact h1 h
 ·rw [if_neg h]; exact h2 h
theorem bd0 : Bd 0 := by unfold Bd; omega
theorem tkB {k c n m mode on off : Int} {neg : Bool} {name : ByteArray} {a b : Nat} (h1 : Bd k) (h2 : Bd c) (h3 : Bd n) (h4 : Bd m) (h5 : Bd mode) (h6 : Bd on) (h7 : Bd off) (h8 : name.size ≤ 9223372036854775807 := by first | exact nm_e | exact nm_name _ _ | assumption) : TkB { kind := k, at_ := a, «to» := b, c := c, set := [], neg := neg, n := n, m := m, mode := mode, name := name, on := on, off := off } := ⟨h1, h2, h3, h4, h5, h6, h7, by simp, fun r hr => (by cases hr), h8⟩
theorem tkS {l : List Rg} {neg : Bool} {a b : Nat} (h : l.length ≤ 90000) (hw : Wf l) : TkB { kind := 2, at_ := a, «to» := b, set := l, neg := neg } := ⟨by unfold Bd; simp, bd0, bd0, bd0, bd0, bd0, bd0, h, hw, nm_e⟩
theorem dig0 (p : Pt) (a : Nat) : 0 ≤ (p.digits a).1 := by exact z98
theorem num0 (p : Pt) (a : Nat) : Bd (num p a).1 := by have := dig0 p a;unfold num Bd;split <;> constructor <;> simp only <;> omega
theorem sign0 (p : Pt) (a : Nat) : Bd (p.sign a).1 := by
 unfold Pt.sign Bd
 repeat' split
 all_goals constructor <;> simp only <;> omega
theorem sgn0 (p : Pt) (a : Nat) : Bd (sgn p a).1 ∧ Bd (sgn p a).2.1 := by
 have h1 := num0 p (p.sign a).2;have h2 := sign0 p a;unfold sgn;split
 ·exact ⟨bd0, h2⟩
 ·exact ⟨h1, h2⟩
theorem mode0 (p : Pt) (a : Nat) : Bd (p.mode a).1 := by
 unfold Pt.mode Bd
 repeat' split
 all_goals constructor <;> simp only <;> omega
theorem quan_ok (p : Pt) (i to_ : Nat) {n m : Int} (hn : Bd n) (hm : Bd m) : GOk i (quan p i to_ n m) := jo (tkB (by unfold Bd; omega) bd0 hn hm (mode0 p to_) bd0 bd0) _ _
theorem simE0 (c : Int) : Bd (ji c) := by
 unfold ji Bd
 repeat' split
 all_goals omega
theorem assE0 (c : Int) : Bd (vZ c) := by
 unfold vZ Bd
 repeat' split
 all_goals omega
theorem quotes0 (p : Pt) (a : Nat) : Bd (p.quotes a).1 := by
 unfold Pt.quotes Bd
 repeat' split
 all_goals constructor <;> simp only <;> omega
theorem refR_ok (p : Pt) (f i : Nat) : GOk f (refR p f i) := by
 have hs := sgn0 p (p.quotes i).2.2;have hq := quotes0 p i;unfold refR;simp only
 repeat' split
 any_goals exact jK _ _
 ·exact jo (tkB hq bd0 hs.1 hs.2 bd0 bd0 bd0) _ _
 ·exact jo (tkB hq bd0 bd0 (by unfold Bd; omega) bd0 bd0 bd0) _ _
theorem backR_ok (p : Pt) (i to_ : Nat) : ∀ l, GOk i (backR p i to_ l)
 | [] => jK _ _
 | (o, z) :: l => by
  rw [backR]
  repeat' split
  any_goals exact backR_ok p i to_ l
  exact jo (tkB (by unfold Bd; omega) bd0 bd0 (by unfold Bd; omega) bd0 bd0 bd0) _ _
theorem escR_ok {S : ByteArray} {p : Pt} (h : Pat S p) {i : Nat} (hi : i < p.n) : GOk i (escR p i) := by
 rw [escR_eq];refine je (fun _ => ?_) (fun h1 => ?_)
 ·exact jK _ _
 have hc := char_val h (a := i + 1) (by omega);have hb := zM h (a := i + 1) (by omega);refine je (fun _ => ?_) (fun _ => ?_)
 ·exact jo (tkB (by unfold Bd; omega) (simE0 _) bd0 bd0 bd0 bd0 bd0) _ _
 refine je (fun _ => ?_) (fun _ => ?_)
 ·split
  ·exact jK _ _
  ·rename_i v e hv;have := hexz_in h hb.2 hv;exact jo (tkB (by unfold Bd; omega) (by unfold Bd; omega) bd0 bd0 bd0 bd0 bd0) _ _
 refine je (fun _ => ?_) (fun _ => ?_)
 ·exact jo (tkS (by simp) (fun r hr => by simp only [List.mem_cons, List.not_mem_nil, or_false] at hr;subst hr;simp)) _ _
 refine je (fun _ => ?_) (fun _ => ?_)
 ·exact jo (tkB (by unfold Bd; omega) bd0 (assE0 _) bd0 bd0 bd0 bd0) _ _
 refine je (fun _ => ?_) (fun _ => ?_)
 ·exact jo (tkB (by unfold Bd; omega) bd0 bd0 bd0 bd0 bd0 bd0) _ _
 refine je (fun _ => ?_) (fun _ => ?_)
 ·exact jo (tkB (by unfold Bd; omega) bd0 bd0 bd0 bd0 bd0 bd0) _ _
 refine je (fun _ => ?_) (fun _ => ?_)
 ·exact gok_none _ _
 refine je (fun _ => ?_) (fun _ => ?_)
 ·split
  ·exact jK _ _
  ·exact jo (tkB (by unfold Bd; omega) bd0 (num0 _ _) bd0 bd0 bd0 bd0) _ _
 refine je (fun _ => ?_) (fun _ => ?_)
 ·exact refR_ok _ _ _
 refine je (fun _ => ?_) (fun _ => ?_)
 ·exact backR_ok _ _ _ _
 split
 ·exact jK _ _
 ·rename_i l neg e hm;have := many_len (S := S) hm;exact jo (tkS (by omega) (setw.jX this.2.2)) _ _
 ·split
  ·exact jK _ _
  ·exact jo (tkB (by unfold Bd; omega) (by unfold Bd; omega) bd0 bd0 bd0 bd0 bd0) _ _
theorem item2 {S : ByteArray} {p : Pt} (h : Pat S p) {i to_ : Nat} {l : List Rg} {s : Bool} (hi : i < p.n) (e : itemR p i = .ok (l, s, to_)) : 2 * l.length ≤ 101 * (to_ - i) := by
 have hb := item_bd h hi e;have hc := zM h (a := i) hi;by_cases h2 : i + 2 ≤ to_
 ·omega
 ·suffices l.length ≤ 1 by omega
  unfold itemR at e;split at e
  ·split at e
   ·simp only [Except.ok.injEq, Prod.mk.injEq] at e;obtain ⟨rfl, rfl, rfl⟩ := e;rename_i h1 _;have hin := qR h h1.1;have hpb : i < posB p i ∧ posB p i ≤ p.n := by simp only [List.length_cons, List.length_nil] at hin;unfold posB;exact z133
    have h4 := tkw.run_bd (fits := isLet) (k := 1000) hpb.2;omega
   ·cases e
  ·unfold itemC at e;split at e
   ·split at e
    ·cases e
    ·rename_i hne;have := itemE_bd h (show (p.char i).2 < p.n by omega) e;omega
   ·simp only [Except.ok.injEq, Prod.mk.injEq] at e;obtain ⟨rfl, rfl, rfl⟩ := e;simp
theorem range2 {S : ByteArray} {p : Pt} (h : Pat S p) {i to_ : Nat} {l : List Rg} (hi : i < p.n) (e : rangeR p i = .ok (l, to_)) : 2 * l.length ≤ 101 * (to_ - i) := by
 have hb := range_bd h hi e;unfold rangeR at e;split at e
 ·cases e
 ·rename_i l1 s1 to1 h1;have b1 := item2 h hi h1;split at e
  ·split at e
   ·cases e
   ·split at e
    ·cases e
    ·simp only [Except.ok.injEq, Prod.mk.injEq] at e;obtain ⟨rfl, rfl⟩ := e;simp only [List.length_cons, List.length_nil];omega
  ·simp only [Except.ok.injEq, Prod.mk.injEq] at e;obtain ⟨rfl, rfl⟩ := e;exact b1
theorem clsL_len {S : ByteArray} {p : Pt} (h : Pat S p) (first : Nat) : ∀ (k : Nat) (all : List Rg) (i : Nat) (r : List Rg) (b : Nat), i ≤ p.n → 2 * all.length ≤ 101 * i → clsL p first k all i = .ok (r, b) → 2 * r.length ≤ 101 * p.n
 | 0, _, _, _, _, _, _, e => by cases e
 | k + 1, all, i, r, b, hi, hl, e => by
  rw [clsL] at e;split at e
  ·cases e
  ·split at e
   ·simp only [Except.ok.injEq, Prod.mk.injEq] at e;obtain ⟨rfl, rfl⟩ := e;omega
   ·split at e
    ·cases e
    ·rename_i l to_ hr;have b1 := range_bd h (show i < p.n by omega) hr;have b2 := range2 h (show i < p.n by omega) hr;exact clsL_len h first k _ _ _ _ b1.2.1 (by rw [List.length_append]; omega) e
theorem clsR_ok {S : ByteArray} {p : Pt} (h : Pat S p) {f : Nat} (hf : f < p.n) : GOk f (clsR p f) := by
 have hn := h.n;have hle := h.le;unfold clsR;simp only;split
 ·exact jK _ _
 ·rename_i all b hr;have h1 : (if p.has [94] (f + 1) = true then f + 2 else f + 1) ≤ p.n := by exact z133
  have := clsL_len h _ _ _ _ _ _ h1 (by simp) hr;have h2 := tkw.yg p.most all;exact jo (tkS (by omega) (setw.jX (ja (vH p) all).2)) _ _
theorem shutR_ok (p : Pt) {t : Tk} (ht : TkB t) (f i : Nat) (s : List UInt8) (e : Int) : GOk f (shutR p t f i s e) := by
 unfold shutR
 repeat' split
 any_goals exact jK _ _
 exact jo ht _ _
theorem callR_ok (p : Pt) {t : Tk} (ht : TkB t) (f i : Nat) (s : List UInt8) : GOk f (callR p t f i s) := by
 unfold callR
 repeat' split
 any_goals exact jK _ _
 exact jo (t := { t with name := p.sub i (p.name i).1 }) ⟨ht.k, ht.c, ht.n, ht.m, ht.mode, ht.on, ht.off, ht.s, ht.w, nm_name p i⟩ _ _
theorem optV_lt (c : Int) : optV c < 2 ^ 5 := by
 unfold optV
 repeat' split
 all_goals decide
theorem flagR_ok (p : Pt) (f : Nat) : ∀ (k i : Nat) (off : Bool) (on of_ : Int), 0 ≤ on ∧ on < 32 → 0 ≤ of_ ∧ of_ < 32 → GOk f (flagR p f k i off on of_)
 | 0, _, _, _, _, _, _ => jK _ _
 | k + 1, i, off, on, of_, h1, h2 => by
  have or_lt : ∀ (a : Int) (c : Int), 0 ≤ a ∧ a < 32 → 0 ≤ ((a.toNat ||| optV c : Nat) : Int) ∧ ((a.toNat ||| optV c : Nat) : Int) < 32 := fun a c ha => by
   have : a.toNat ||| optV c < 2 ^ 5 := Nat.or_lt_two_pow (by omega) (optV_lt c)
   omega
  rw [flagR]
  repeat' split
  any_goals exact jK _ _
  ·exact jo (tkB (by unfold Bd; omega) bd0 bd0 bd0 bd0 (by unfold Bd; omega) (by unfold Bd; omega)) _ _
  ·exact jo (tkB (by unfold Bd; omega) bd0 (by unfold Bd; omega) bd0 bd0 (by unfold Bd; omega) (by unfold Bd; omega)) _ _
  ·exact flagR_ok p f k _ _ _ _ h1 h2
  ·exact flagR_ok p f k _ _ _ _ h1 (or_lt _ _ h2)
  ·exact flagR_ok p f k _ _ _ _ (or_lt _ _ h1) h2
theorem condE_ok (p : Pt) (f : Nat) {t : Tk} (ht : TkB t) (to_ : Nat) (ok : Bool) : GOk f (condE p f t to_ ok) := by
 unfold condE
 repeat' split
 any_goals exact jK _ _
 exact jo ht _ _
theorem condR_ok (p : Pt) (f i : Nat) : GOk f (condR p f i) := by
 have hs := sgn0 p i;unfold condR condN
 repeat' split
 any_goals exact jK _ _
 ·exact jo (tkB (by unfold Bd; omega) bd0 (by unfold Bd; omega) bd0 bd0 bd0 bd0) _ _
 ·exact condE_ok _ _ (tkB (by unfold Bd; omega) bd0 (by unfold Bd; omega) bd0 bd0 bd0 bd0) _ _
 ·exact condE_ok _ _ (tkB (by unfold Bd; omega) bd0 (by unfold Bd; omega) bd0 bd0 bd0 bd0) _ _
 ·exact condE_ok _ _ (tkB (by unfold Bd; omega) bd0 (by unfold Bd; omega) bd0 bd0 bd0 bd0) _ _
 ·exact condE_ok _ _ (tkB (by unfold Bd; omega) bd0 (by unfold Bd; omega) (by unfold Bd; omega) bd0 bd0 bd0) _ _
 ·exact condE_ok _ _ (tkB (by unfold Bd; omega) bd0 (by unfold Bd; omega) bd0 (by unfold Bd; omega) bd0 bd0) _ _
 ·exact condE_ok _ _ (tkB (by unfold Bd; omega) bd0 (by unfold Bd; omega) bd0 (num0 _ _) bd0 bd0) _ _
 ·exact condE_ok _ _ (tkB (by unfold Bd; omega) bd0 (by unfold Bd; omega) hs.2 hs.1 bd0 bd0) _ _
theorem verbV0 (s : ByteArray) : Bd (verbV s) := by
 unfold verbV Bd
 repeat' split
 all_goals omega
theorem verbG_ok (f i : Nat) (word arg : ByteArray) (wth : Bool) (ha : arg.size ≤ 9223372036854775807) : GOk f (verbG f i word arg wth) := by
 have := verbV0 word;unfold verbG;split
 ·exact jK _ _
 ·exact jo (tkB (by unfold Bd; omega) bd0 this bd0 bd0 bd0 bd0) _ _
theorem verbR_ok (p : Pt) (hn : p.n ≤ 9223372036854775807) (f : Nat) : GOk f (verbR p f) := by
 unfold verbR;split
 ·exact jK _ _
 ·rename_i i hi;split
  ·exact verbG_ok _ _ _ _ _ nm_e
  ·rename_i j hj;refine verbG_ok _ _ _ _ _ ?_;have h1 := find_lt (p := p) (show p.find 41 (p.n - (f + 2)) (f + 2) = some i from hi);have h2 := find_lt hj;have h3 := nm_len p (j + 1) i;omega
theorem kindR_ok (p : Pt) (f i : Nat) : ∀ (l : List (List UInt8 × Int)), (∀ q ∈ l, Bd q.2) → ∀ g, kindR p f i l = some g → GOk f g
 | [], _, g, h => by cases h
 | (s, k) :: l, hl, g, h => by
  rw [kindR] at h;split at h
  ·cases h;exact jo (tkB (by unfold Bd; omega) bd0 (hl _ (List.mem_cons_self ..)) bd0 bd0 bd0 bd0) _ _
  ·exact kindR_ok p f i l (fun q hq => hl q (List.mem_cons_of_mem _ hq)) g h
theorem numR_ok (p : Pt) (f i : Nat) : GOk f (numR p f i) := by
 have hs := sgn0 p i;have h1 := shutR_ok p (t := { kind := 12, n := (sgn p i).1, m := (sgn p i).2.1 }) (tkB (by unfold Bd; omega) bd0 hs.1 hs.2 bd0 bd0 bd0) f (sgn p i).2.2.1 [41] 26;unfold numR;simp only;split
 ·exact jK _ _
 ·split
  ·split
   ·exact jK _ _
   ·exact jK _ _
  ·split
   ·exact jK _ _
   ·rename_i r hr;split
    ·exact jK _ _
    ·rw [hr] at h1;exact h1
theorem openK_ok (p : Pt) (f i : Nat) : GOk f (openK p f i) := by
 have z : Bd 1 := by unfold Bd; omega
 have z3 : Bd 3 := by unfold Bd; omega
 have k10 : Bd 10 := by unfold Bd; omega
 have k11 : Bd 11 := by unfold Bd; omega
 have k12 : Bd 12 := by unfold Bd; omega
 unfold openK;refine je (fun _ => ?_) (fun _ => ?_)
 ·split
  ·exact jK _ _
  ·exact gok_none _ _
 refine je (fun _ => ?_) (fun _ => ?_)
 ·exact callR_ok _ (tkB k10 bd0 z bd0 bd0 bd0 bd0) _ _ _
 refine je (fun _ => ?_) (fun _ => ?_)
 ·exact callR_ok _ (tkB k10 bd0 z bd0 bd0 bd0 bd0) _ _ _
 refine je (fun _ => ?_) (fun _ => ?_)
 ·exact callR_ok _ (tkB k10 bd0 z bd0 bd0 bd0 bd0) _ _ _
 refine je (fun _ => ?_) (fun _ => ?_)
 ·exact callR_ok _ (tkB k11 bd0 bd0 z3 bd0 bd0 bd0) _ _ _
 refine je (fun _ => ?_) (fun _ => ?_)
 ·exact callR_ok _ (tkB k12 bd0 bd0 z3 bd0 bd0 bd0) _ _ _
 refine je (fun _ => ?_) (fun _ => ?_)
 ·exact callR_ok _ (tkB k12 bd0 bd0 z3 bd0 bd0 bd0) _ _ _
 refine je (fun _ => ?_) (fun _ => ?_)
 ·exact shutR_ok _ (tkB k12 bd0 bd0 bd0 bd0 bd0 bd0) _ _ _ _
 refine je (fun _ => ?_) (fun _ => ?_)
 ·split
  ·exact jK _ _
  ·exact shutR_ok _ (tkB (by unfold Bd; omega) bd0 (num0 _ _) bd0 bd0 bd0 bd0) _ _ _ _
 refine je (fun _ => ?_) (fun _ => ?_)
 ·exact condR_ok _ _ _
 refine je (fun _ => ?_) (fun _ => ?_)
 ·exact numR_ok _ _ _
 ·exact flagR_ok _ _ _ _ _ _ _ (by omega) (by omega)
theorem openR_ok (p : Pt) (hn : p.n ≤ 9223372036854775807) (f : Nat) : GOk f (openR p f) := by
 unfold openR;split
 ·exact verbR_ok _ hn _
 split
 ·exact jo (tkB (by unfold Bd; omega) bd0 (by unfold Bd; omega) bd0 bd0 bd0 bd0) _ _
 split
 ·exact jK _ _
 split
 ·rename_i g hg;exact kindR_ok p f (f + 2) kindsT (fun q hq => by simp only [kindsT, List.mem_cons, List.not_mem_nil, or_false] at hq;unfold Bd;rcases hq with rfl | rfl | rfl | rfl | rfl | rfl | rfl <;> simp only <;> omega) g hg
 ·exact openK_ok _ _ _
theorem bracR_ok (p : Pt) (i : Nat) {n m : Int} {b : Nat} {g : Bool} (h : bracR p i = some (n, m, b, g)) : Bd n ∧ Bd m := by
 have h1 := num0 p (i + 1);have h2 := num0 p ((num p (i + 1)).2.1 + 1);unfold bracR at h;simp only at h;split at h
 ·split at h
  ·simp only [Option.some.injEq, Prod.mk.injEq] at h;obtain ⟨rfl, rfl, _, _⟩ := h;refine ⟨h1, ?_⟩;split
   ·unfold Bd; omega
   ·exact h2
  ·cases h
 ·split at h
  ·cases h
  ·simp only [Option.some.injEq, Prod.mk.injEq] at h;obtain ⟨rfl, rfl, _, _⟩ := h;exact ⟨h1, h1⟩
theorem tokR_ok {S : ByteArray} {p : Pt} (h : Pat S p) {i : Nat} (hi : i < p.n) : GOk i (tokR p i) := by
 have hc := char_val h hi;rw [tokR_eq];refine je (fun _ => ?_) (fun _ => ?_)
 ·exact gok_none _ _
 refine je (fun _ => ?_) (fun _ => ?_)
 ·exact gok_none _ _
 refine je (fun _ => ?_) (fun _ => ?_)
 ·exact escR_ok h hi
 refine je (fun _ => ?_) (fun _ => ?_)
 ·exact clsR_ok h hi
 refine je (fun _ => ?_) (fun _ => ?_)
 ·exact openR_ok _ (by have := h.n; have := h.le; omega) _
 refine je (fun _ => ?_) (fun _ => ?_)
 ·exact jo (tkB (by unfold Bd; omega) bd0 bd0 bd0 bd0 bd0 bd0) _ _
 refine je (fun _ => ?_) (fun _ => ?_)
 ·exact jo (tkB (by unfold Bd; omega) bd0 (by unfold Bd; omega) bd0 bd0 bd0 bd0) _ _
 refine je (fun _ => ?_) (fun _ => ?_)
 ·exact jo (tkB (by unfold Bd; omega) bd0 (by unfold Bd; omega) bd0 bd0 bd0 bd0) _ _
 refine je (fun _ => ?_) (fun _ => ?_)
 ·exact jo (tkB (by unfold Bd; omega) bd0 bd0 bd0 bd0 bd0 bd0) _ _
 refine je (fun _ => ?_) (fun _ => ?_)
 ·exact jo (tkB (by unfold Bd; omega) bd0 bd0 bd0 bd0 bd0 bd0) _ _
 refine je (fun _ => ?_) (fun _ => ?_)
 ·exact quan_ok _ _ _ bd0 (by unfold Bd; omega)
 refine je (fun _ => ?_) (fun _ => ?_)
 ·exact quan_ok _ _ _ (by unfold Bd; omega) (by unfold Bd; omega)
 refine je (fun _ => ?_) (fun _ => ?_)
 ·exact quan_ok _ _ _ bd0 (by unfold Bd; omega)
 refine je (fun _ => ?_) (fun _ => ?_)
 ·split
  ·exact jo (tkB (by unfold Bd; omega) (by unfold Bd; omega) bd0 bd0 bd0 bd0 bd0) _ _
  ·rename_i n m b g hb;have := bracR_ok p i hb
   repeat' split
   any_goals exact jK _ _
   exact quan_ok _ _ _ this.1 this.2
 ·exact jo (tkB (by unfold Bd; omega) (by unfold Bd; omega) bd0 bd0 bd0 bd0 bd0) _ _
theorem lexF_ok {S : ByteArray} {p : Pt} (h : Pat S p) : ∀ (k : Nat) (q : Bool) (T : List Tk) (i : Nat) (R : List Tk), (∀ t ∈ T, TkB t ∧ t.at_ ≤ p.n) → T.length ≤ i → i ≤ p.n → lexF p k q T i = .ok R → (∀ t ∈ R, TkB t ∧ t.at_ ≤ p.n) ∧ R.length ≤ p.n
 | 0, _, T, i, R, h1, h2, h3, e => by rw [lexF] at e;cases e;exact ⟨h1, by omega⟩
 | k + 1, q, T, i, R, h1, h2, h3, e => by
  rw [lexF] at e;split at e
  ·cases e;exact ⟨h1, by omega⟩
  ·rename_i hi;have hc := char_val h (a := i) (by omega);have hb := zM h (a := i) (by omega);split at e
   ·split at e
    ·rename_i h4;have := qR h h4;simp only [List.length_cons, List.length_nil] at this;exact lexF_ok h k _ _ _ _ h1 (by omega) (by omega) e
    ·refine lexF_ok h k _ _ _ _ (fun t ht => ?_) (by simp only [List.length_append, List.length_cons, List.length_nil]; omega) hb.2 e;rcases List.mem_append.1 ht with ht | ht
     ·exact h1 t ht
     ·simp only [List.mem_cons, List.not_mem_nil, or_false] at ht;subst ht;exact ⟨(jo (tkB (k := 1) (c := (p.char i).1) (a := 0) (b := 0) (neg := false) (name := ⟨#[]⟩) (by unfold Bd; omega) (by unfold Bd; omega) bd0 bd0 bd0 bd0 bd0) i (p.char i).2 _ _ rfl).1, by show i ≤ p.n; omega⟩
   ·split at e
    ·rename_i h4;have := qR h h4;simp only [List.length_cons, List.length_nil] at this;exact lexF_ok h k _ _ _ _ h1 (by omega) (by omega) e
    ·split at e
     ·cases e
     ·rename_i to_ ht;have := tokR_bd h (show i < p.n by omega) ht;exact lexF_ok h k _ _ _ _ h1 (by omega) (by omega) e
     ·rename_i t to_ ht;have b := tokR_bd h (show i < p.n by omega) ht;have c := tokR_ok h (show i < p.n by omega) t to_ ht;refine lexF_ok h k _ _ _ _ (fun t' ht' => ?_) (by simp only [List.length_append, List.length_cons, List.length_nil]; omega) b.2 e;rcases List.mem_append.1 ht' with ht' | ht'
      ·exact h1 t' ht'
      ·simp only [List.mem_cons, List.not_mem_nil, or_false] at ht';subst ht';exact ⟨c.1, by rw [c.2]; omega⟩
end rtw
end
section
namespace rsp
open sq
open Go tkp trp rpp
theorem okF_one {x : Lab} {k : F} (h1 : x.set.length ≤ 90000) (h2 : x.kind = 15 → k.len ≠ 0) (h3 : OkF k) : OkF (F.one x k) := ⟨h1, h2, h3, trivial⟩
theorem okF_oneF {kind : Int} (hk : kind ≠ 15) : ∀ {l : F}, OkF l → OkF (oneF kind l)
 | .nil, _ => ⟨by simp [lab], fun h => absurd h hk, trivial, trivial⟩
 | .cons x k .nil, h => h
 | .cons x k (.cons y j r), h => ⟨by simp [lab], fun e => absurd e hk, h, trivial⟩
theorem oneF_len (kind : Int) : ∀ l : F, (oneF kind l).len = 1
 | .nil => rfl
 | .cons _ _ .nil => rfl
 | .cons _ _ (.cons _ _ _) => rfl
theorem getD_set {L : List Tk} (hL : ∀ t ∈ L, t.set.length ≤ 90000) (i : Nat) : (L.getD i zeroT).set.length ≤ 90000 := by
 rw [List.getD_eq_getElem?_getD];cases h : L[i]? with
 | none => simp [zeroT]
 | some t => exact hL t (List.mem_of_getElem? h)
theorem leafK_ne (k : Int) : leafK k ≠ 15 := by
 unfold leafK
 repeat' (first | omega | split)
theorem okF_group {t : Tk} {look l : F} (h1 : OkF look) (h2 : OkF l) : OkF (jf t look l) := by
 have ho := okF_oneF (kind := 13) (by decide) h2;have hl := oneF_len 13 l;unfold jf
 repeat' split
 ·exact okF_one (by simp [lab]) (fun e => by rw [hl]; decide) ho
 ·exact okF_one (by simp [lab]) (fun e => by rw [hl]; decide) ho
 ·exact okF_one (by simp [lab]) (fun e => by rw [hl]; decide) ho
 ·exact okF_one (by simp [lab]) (fun e => by rw [hl]; decide) ho
 ·exact okF_one (by simp [lab]) (fun e => by simp [lab] at e) h2
 ·exact okF_one (by simp [lab]) (fun e => by simp [lab] at e) (okF_app h1 h2)
theorem okF_zero : OkF zeroF := okF_one (by simp [lab]) (fun e => by simp [lab] at e) trivial
def accOk : Md → Prop
 | .alt acc => OkF acc
 | .seq acc => OkF acc
 | .thing => True
theorem run_okF {L : List Tk} (hL : ∀ t ∈ L, t.set.length ≤ 90000) : ∀ (n : Nat) (md : Md) (s : Ps), accOk md → OkF (run L n md s).1
 | 0, _, _, _ => trivial
 | n + 1, .alt acc, s, h => by
  have a := run_okF hL n (.seq .nil) s trivial;rw [run];simp only;split
  ·exact run_okF hL n (.alt _) _ (okF_app h a)
  ·exact okF_app h a
 | n + 1, .seq acc, s, h => by
  rw [run];split
  ·exact okF_oneF (by decide) h
  ·split
   ·exact okF_zero
   ·have a := run_okF hL n .thing s trivial;simp only;split
    ·exact run_okF hL n (.seq _) _ (okF_app h (okF_one (by simp [lab]) (fun e => by simp [lab] at e) a))
    ·exact run_okF hL n (.seq _) _ (okF_app h a)
 | n + 1, .thing, s, _ => by
  rw [run];simp only;split
  ·exact okF_one (getD_set hL s.i) (fun e => absurd e (leafK_ne _)) trivial
  ·split
   ·exact okF_zero
   ·have hq : OkF (if (L.getD s.i zeroT).n = 13 ∧ kindS L ⟨s.i + 1, s.op + 1, s.e, s.at_⟩ = 10 then run L n .thing ⟨s.i + 1, s.op + 1, s.e, s.at_⟩ else (.nil, ⟨s.i + 1, s.op + 1, s.e, s.at_⟩)).1 := by
     split
     ·exact run_okF hL n .thing _ trivial
     ·trivial
    generalize (if (L.getD s.i zeroT).n = 13 ∧ kindS L ⟨s.i + 1, s.op + 1, s.e, s.at_⟩ = 10 then run L n .thing ⟨s.i + 1, s.op + 1, s.e, s.at_⟩ else (.nil, ⟨s.i + 1, s.op + 1, s.e, s.at_⟩)) = q at *;split
    ·exact okF_zero
    ·exact okF_group hq (run_okF hL n (.alt .nil) _ trivial)
theorem group_size (t : Tk) (look l : F) : (jf t look l).size ≤ look.size + l.size + 2 := by
 have := oneF_size 13 l;unfold jf
 repeat' split
 all_goals simp only [F.one, F.size, app_size]
 all_goals omega
theorem groupS_i (t : Tk) (l : F) (s : Ps) : (zf t l s).i = s.i := by
 unfold zf;split
 ·unfold failS; split <;> rfl
 ·rfl
theorem failS_i2 (s : Ps) (e a : Int) : (failS s e a).i = s.i := by unfold failS; split <;> rfl
def SzOk (md : Md) (s : Ps) (r : F × Ps) : Prop := s.i ≤ r.2.i ∧ match md with
 | .alt acc => r.1.size ≤ acc.size + 6 * (r.2.i - s.i) + 2
 | .seq acc => r.1.size ≤ acc.size + 6 * (r.2.i - s.i) + 2 ∧ (s.e ≠ 0 → r.1.size ≤ acc.size + 1 ∧ r.2.i = s.i)
 | .thing => (s.i < r.2.i ∧ r.1.size + 2 ≤ 6 * (r.2.i - s.i)) ∨ (r.2.i = s.i ∧ r.1.size ≤ 1 ∧ (r.2.e ≠ 0 ∨ r.1.size = 0))
theorem kindS_err {L : List Tk} {s : Ps} (h : s.e ≠ 0) : kindS L s = 0 := by unfold kindS; rw [if_pos h]
theorem run_size (L : List Tk) : ∀ (n : Nat) (md : Md) (s : Ps), SzOk md s (run L n md s)
 | 0, .alt acc, s => ⟨xL _, by simp only [run, F.size]; omega⟩
 | 0, .seq acc, s => ⟨xL _, by simp only [run, F.size]; omega, fun _ => ⟨by simp only [run, F.size]; omega, rfl⟩⟩
 | 0, .thing, s => ⟨xL _, Or.inr ⟨rfl, by simp [run, F.size], Or.inr (by simp [run, F.size])⟩⟩
 | n + 1, .alt acc, s => by
  obtain ⟨a1, a2, _⟩ := run_size L n (.seq .nil) s;rw [run];simp only;generalize run L n (.seq .nil) s = r at *;simp only [F.size] at a2;split
  ·obtain ⟨b1, b2⟩ := run_size L n (.alt (F.app acc r.1)) { r.2 with i := r.2.i + 1 };generalize run L n (.alt (F.app acc r.1)) { r.2 with i := r.2.i + 1 } = q at *;simp only [app_size] at b1 b2;exact ⟨by show s.i ≤ q.2.i; omega, by show q.1.size ≤ _; omega⟩
  ·exact ⟨a1, by show (F.app acc r.1).size ≤ acc.size + 6 * (r.2.i - s.i) + 2; rw [app_size]; omega⟩
 | n + 1, .seq acc, s => by
  rw [run];split
  ·have := oneF_size 12 acc;exact ⟨xL _, by show (oneF 12 acc).size ≤ acc.size + 6 * (s.i - s.i) + 2; omega, fun _ => ⟨this, rfl⟩⟩
  ·rename_i hk;have he : s.e = 0 := by apply Classical.byContradiction;intro he;exact hk (Or.inl (kindS_err he))
   split
   ·refine ⟨by show s.i ≤ (failS s 30 _).i; rw [failS_i2]; exact xL _, ?_, fun h => absurd he h⟩;simp only [zeroF, F.one, F.size];omega
   ·have a := run_size L n .thing s;simp only;generalize run L n .thing s = r at *;obtain ⟨a1, a2⟩ := a;split
    ·rename_i hq;have hre : r.2.e = 0 := by apply Classical.byContradiction;intro h;rw [kindS_err h] at hq;exact absurd hq.1 (by decide)
     obtain ⟨b1, b2, _⟩ := run_size L n (.seq (F.app acc (repF (L.getD r.2.i zeroT) r.1))) { r.2 with i := r.2.i + 1 };generalize run L n (.seq (F.app acc (repF (L.getD r.2.i zeroT) r.1))) { r.2 with i := r.2.i + 1 } = q at *;simp only [app_size, repF, F.one, F.size] at b1 b2;refine ⟨by show s.i ≤ q.2.i; omega, ?_, fun h => absurd he h⟩;show q.1.size ≤ _;rcases a2 with ⟨c1, c2⟩ | ⟨c1, c2, _⟩ <;> omega
    ·obtain ⟨b1, b2, b3⟩ := run_size L n (.seq (F.app acc r.1)) r.2;generalize run L n (.seq (F.app acc r.1)) r.2 = q at *;simp only [app_size] at b1 b2 b3;refine ⟨by show s.i ≤ q.2.i; omega, ?_, fun h => absurd he h⟩;show q.1.size ≤ _;rcases a2 with ⟨c1, c2⟩ | ⟨c1, c2, c3 | c3⟩
     ·omega
     ·have := b3 c3;omega
     ·omega
 | n + 1, .thing, s => by
  rw [run];simp only;split
  ·exact ⟨Nat.le_succ _, Or.inl ⟨Nat.lt_succ_self _, by show (F.one _ _).size + 2 ≤ 6 * (s.i + 1 - s.i); simp only [F.one, F.size]; omega⟩⟩
  ·split
   ·exact ⟨by show s.i ≤ (failS s 11 _).i; rw [failS_i2]; exact xL _, Or.inr ⟨failS_i2 _ _ _, by simp [zeroF, F.one, F.size], Or.inl (failS_e (by decide))⟩⟩
   ·have hq : s.i + 1 ≤ (if (L.getD s.i zeroT).n = 13 ∧ kindS L ⟨s.i + 1, s.op + 1, s.e, s.at_⟩ = 10 then run L n .thing ⟨s.i + 1, s.op + 1, s.e, s.at_⟩ else (.nil, ⟨s.i + 1, s.op + 1, s.e, s.at_⟩)).2.i ∧
     (if (L.getD s.i zeroT).n = 13 ∧ kindS L ⟨s.i + 1, s.op + 1, s.e, s.at_⟩ = 10 then run L n .thing ⟨s.i + 1, s.op + 1, s.e, s.at_⟩ else (.nil, ⟨s.i + 1, s.op + 1, s.e, s.at_⟩)).1.size ≤ 6 * ((if (L.getD s.i zeroT).n = 13 ∧ kindS L ⟨s.i + 1, s.op + 1, s.e, s.at_⟩ = 10 then run L n .thing ⟨s.i + 1, s.op + 1, s.e, s.at_⟩ else (.nil, ⟨s.i + 1, s.op + 1, s.e, s.at_⟩)).2.i - (s.i + 1)) + 1 := by
     split
     ·obtain ⟨a1, a2⟩ := run_size L n .thing ⟨s.i + 1, s.op + 1, s.e, s.at_⟩;generalize run L n .thing ⟨s.i + 1, s.op + 1, s.e, s.at_⟩ = r at *;simp only at a1 a2;rcases a2 with ⟨c1, c2⟩ | ⟨c1, c2, _⟩ <;> omega
     ·exact ⟨xL _, by simp [F.size]⟩
    generalize (if (L.getD s.i zeroT).n = 13 ∧ kindS L ⟨s.i + 1, s.op + 1, s.e, s.at_⟩ = 10 then run L n .thing ⟨s.i + 1, s.op + 1, s.e, s.at_⟩ else (.nil, ⟨s.i + 1, s.op + 1, s.e, s.at_⟩)) = q at *;obtain ⟨a1, a2⟩ := run_size L n (.alt .nil) q.2;generalize run L n (.alt .nil) q.2 = r at *;simp only [F.size] at a2;obtain ⟨q1, q2⟩ := hq;split
    ·refine ⟨by show s.i ≤ (failS r.2 20 _).i; rw [failS_i2]; omega, Or.inl ⟨by show s.i < (failS r.2 20 _).i; rw [failS_i2]; omega, ?_⟩⟩;show zeroF.size + 2 ≤ 6 * ((failS r.2 20 _).i - s.i);rw [failS_i2];simp only [zeroF, F.one, F.size];omega
    ·have g := group_size (L.getD s.i zeroT) q.1 r.1;refine ⟨by show s.i ≤ (zf _ _ _).i; rw [groupS_i]; show s.i ≤ r.2.i + 1; omega, Or.inl ⟨by show s.i < (zf _ _ _).i; rw [groupS_i]; show s.i < r.2.i + 1; omega, ?_⟩⟩;show (jf _ _ _).size + 2 ≤ 6 * ((zf _ _ _).i - s.i);rw [groupS_i];show (jf _ _ _).size + 2 ≤ 6 * (r.2.i + 1 - s.i);omega
theorem zU {L : List Tk} {n : Int} {f : F} (hL : ∀ t ∈ L, t.set.length ≤ 90000) (h : parseP L n = .ok f) : OkF f ∧ f.size ≤ 6 * L.length + 3 ∧ ∃ x k, f = F.one x k := by
 have a := run_okF hL (3 * L.length + 3) (.alt .nil) { i := 0 } trivial;obtain ⟨b1, b2⟩ := run_size L (3 * L.length + 3) (.alt .nil) { i := 0 };have c := (zq L (3 * L.length + 3) (.alt .nil) { i := 0 } (Nat.zero_le _) (Nat.zero_le _) (fun h => by cases h)).1.n;unfold parseP at h;generalize run L (3 * L.length + 3) (.alt .nil) { i := 0 } = r at *;simp only at h;generalize (if r.2.e = 0 ∧ r.2.i < L.length then failS r.2 31 (L.getD r.2.i zeroT).at_ else r.2) = s at h;split at h
 ·cases h
 ·split at h
  ·cases h
  ·cases h;have d := oneF_size 13 r.1;simp only [F.size] at b2;refine ⟨okF_oneF (by decide) a, by omega, ?_⟩
   match r.1 with
   | .nil => exact ⟨_, _, rfl⟩
   | .cons x k .nil => exact ⟨x, k, rfl⟩
   | .cons _ _ (.cons _ _ _) => exact ⟨_, _, rfl⟩
end rsp
end
section
namespace rsw
open sq
open Go Go.RowKit tkp trp trw rpp rtp setw
open rtw (TkB Bd)
open rpw (TkIn LOk sees jB)
open tkw (qO yw)
theorem lok_of {n : Nat} {L : List Tk} (h : ∀ t ∈ L, TkB t ∧ t.at_ ≤ n) (hn : n ≤ 1000) (hl : L.length ≤ n) : LOk L :=
 ⟨by omega, fun t ht => by obtain ⟨b, ha⟩ := h t ht;obtain ⟨k, c, n', m, mode, on, off, _, _⟩ := b;unfold Bd at *;unfold I64;refine ⟨by omega, by omega, by omega, by omega, by omega, by omega, by omega, by omega⟩⟩
theorem flat12 {α : Type} (f : α → List Value) (hf : ∀ a, (f a).length = 12) : ∀ (l : List α) (i j : Nat), j < 12 → (l.flatMap f)[i * 12 + j]? = (l[i]?).bind fun a => (f a)[j]?
 | [], i, j, _ => by simp
 | a :: l, 0, j, hj => by rw [List.flatMap_cons, List.getElem?_append_left (by rw [hf]; omega)];simp
 | a :: l, i + 1, j, hj => by rw [List.flatMap_cons, List.getElem?_append_right (by rw [hf]; omega), hf, show (i + 1) * 12 + j - 12 = i * 12 + j by omega, flat12 f hf l i j hj];simp
theorem tkC12 (p : Tk × Value) : (qO p.2 p.1).length = 12 := rfl
theorem tkIn_of {w : World} {base : Nat} {v : Value} {T : List Tk} (h : yw w base v T) (hb : ∀ t ∈ T, Wf t.set) (hl : T.length ≤ 50000) : TkIn (sees (fun i => decide (i < base)) w) v T := by
 obtain ⟨l, h1, h2, h3⟩ := h;have hlen : l.length = T.length := by rw [← h1]; simp
 rw [hlen] at h3;rcases h3.2 with ⟨rfl, h0⟩ | ⟨g, cap, cur, hv, hgb, _, hc1, hc2, _, _⟩
 ·have : T = [] := List.length_eq_zero_iff.1 h0;subst this;exact ⟨none, 0, rfl, by simp, by decide, by simp, Or.inl rfl⟩
 ·subst hv;unfold maxLen at hc2;refine ⟨_, cap, rfl, hc1, by omega, by omega, Or.inr ⟨g, 0, rfl, fun i t hi => ?_⟩⟩;have hlt : i < l.length := by rw [hlen];exact (List.getElem?_eq_some_iff.1 hi).1
  obtain ⟨p, hp⟩ : ∃ p, l[i]? = some p := ⟨_, List.getElem?_eq_getElem hlt⟩;have ht : p.1 = t := by rw [← h1, List.getElem?_map, hp] at hi;exact Option.some.inj hi
  subst ht;have hmem : p ∈ l := List.mem_of_getElem? hp;have hmt : p.1 ∈ T := List.mem_of_getElem? hi;refine ⟨p.2, own_rg (h2 p hmem) (hb p.1 hmt) (fun i hi => by simpa using hi), fun j u hj => ?_⟩;have hj12 : j < 12 := by have := (List.getElem?_eq_some_iff.1 hj).1;rw [tkC12] at this;exact this
  refine jB.2 ⟨by simp only [decide_eq_false_iff_not]; omega, ?_⟩;rw [Nat.zero_add, World.ownsRow.cellAt h3 (i * 12 + j) (by rw [hlen] at hlt; omega), flat12 _ tkC12 l i j hj12, hp];exact hj
end rsw
end
section
namespace rsw
open sq
open Go.Sort Go Go.RowKit Go.Maps setp setw tkp trp trw rpp rsp
open rpw (sees jB qU fC jP FSub vw jQ app_sub jH jm own_below qp oneR zk jV qA qh jU lab_ok rg_nil ql)
open rpw (jc qI)
open tkw (qM)
theorem node_plain {u : Bool} {m : Int} {k : F} (_hm0 : 0 ≤ m) (_hm : m ≤ 1114111) (hnode : ∀ k' : F, k'.size < k.size → NodeC u m k') (x : Lab) (f : Int) (w : World) (h : Nat → Bool) (hold : Old h w.heap.size) (hnd : NdAt (sees h w) (x, k)) (hok : OkF (F.one x k)) (hsz : k.size ≤ 30000) (hk : x.kind = 15) : Calls Try.prog 53 #[ctxV u m, ndV x, .int .i64 f] w (NodB h (nodeP u m (fun g => rowP u m k g) x k f) w) := by
 have HF0 := xH (vK (u := u) (m := m) hold hnd);have HOLD := xH hold;have HOKF := xH hok;have HLO := xH hnd.1;obtain ⟨R, hR⟩ : ∃ R, nodeP u m (fun g => rowP u m k g) x k f = R := ⟨_, rfl⟩;rw [hR];have HNO := xH hnode;have HR0 := xH (hR.symm.trans (show _ = (firstF (rowP u m k (turnI f x.on x.off)).1, f) by unfold nodeP; rw [if_neg (by omega), if_neg (by omega), if_neg (by omega), if_neg (by omega), if_neg (by omega), if_neg (by omega), if_neg (by omega), if_neg (by omega), if_neg (by omega), if_pos hk]));obtain ⟨x0, k0, r0, rfl⟩ : ∃ a b c, k = .cons a b c := by
  cases k with
  | nil => exact absurd rfl (hok.2.1 hk)
  | cons a b c => exact ⟨a, b, c, rfl⟩
 clear hnode;have b1 : (x.kind == 1) = false := by simp [hk]
 have b2 : (x.kind == 2) = false := by simp [hk]
 have b3 : (x.kind == 3) = false := by simp [hk]
 have b4 : (x.kind == 4) = false := by simp [hk]
 have b6 : (x.kind == 6) = false := by simp [hk]
 have b7 : (x.kind == 7) = false := by simp [hk]
 have b11 : (x.kind == 11) = false := by simp [hk]
 have b12 : (x.kind == 12) = false := by simp [hk]
 have b13 : (x.kind == 13) = false := by simp [hk]
 have b15 : (x.kind == 15) = true := by simp [hk]
 clear hold hnd hok hk hR;unfold ctxV;unfold ndC zC at HF0;go_enter Try.func53, Try.ntmps53;unfold ndV;go_upto_region 1 with (fail)
 generalize ((w.alloc _).alloc _).alloc _ = w0 at *;have d0 : w0.cell? ⟨w.heap.size, 0, none⟩ = some (.bool u) := by unfold World.cell?; rw [HF0.out.c]; rfl
 have d1 : w0.cell? ⟨w.heap.size, 1, none⟩ = some (.int .i64 m) := by unfold World.cell?; rw [HF0.out.c]; rfl
 have e0 : w0.cell? ⟨w.heap.size + 1, 0, none⟩ = some (.int .i64 x.kind) := by unfold World.cell?; rw [HF0.out.n]; rfl
 have e9 : w0.cell? ⟨w.heap.size + 1, 9, none⟩ = some (.int .i64 x.on) := by unfold World.cell?; rw [HF0.out.n]; rfl
 have e10 : w0.cell? ⟨w.heap.size + 1, 10, none⟩ = some (.int .i64 x.off) := by unfold World.cell?; rw [HF0.out.n]; rfl
 have e11 : w0.cell? ⟨w.heap.size + 1, 11, none⟩ = some (x.kv) := by unfold World.cell?; rw [HF0.out.n]; rfl
 obtain ⟨b, o0, cap0, hkv, hc1, hc2, hil, hfa⟩ := kid_at HF0.out.t.2.2 (i := 0) rfl;rw [hkv] at e11;have HX := xH (fAt_head hfa);have HE := xH (fun j v hj => sees_to (hfa.1 j v hj));have HNC := xH (HNO.out k0 (by simp only [F.size]; omega));have HOK0 := xH (show OkF (F.one x0 k0) from ⟨HOKF.out.2.2.1.1, HOKF.out.2.2.1.2.1, HOKF.out.2.2.1.2.2.1, trivial⟩);have HSZ0 := xH (show k0.size ≤ 30000 by simp only [F.size] at hsz; omega);have HR := xH (show ∀ t, nodeP u m (fun g => rowP u m k0 g) x0 k0 (turnI f x.on x.off) = t → R = (firstF (F.app t.1 (rowP u m r0 t.2).1), f) from fun t ht => by rw [HR0.out, rowP, ht]);obtain ⟨t, ht⟩ : ∃ t, nodeP u m (fun g => rowP u m k0 g) x0 k0 (turnI f x.on x.off) = t := ⟨_, rfl⟩;have HR2 := xH (HR.out t ht);have HNC2 := xH HNC.out;have a1 := add_row b o0 0 12;have HT := xH ht;have hz0 : (0 : Int) < ((F.cons x0 k0 r0).len : Int) := by simp only [F.len]; omega
 clear hkv hfa HR HR0 HNC2 ht hil;go_upto_region 42 with (fail)
 go_cut [18] (fun v18 wx => ∃ B y j, v18 = .pointer (some ⟨B, 0, none⟩) ∧ Hid (wx.heap[B]? = some (.cells (ndC y).toArray 27 (0, 0))) ∧ Hid (Below w0.heap.size w0 wx) ∧ Hid (NdAt (sees (hN h (w.heap.size + 2)) wx) (y, j)) ∧ Hid (strip (F.one y j) = (nodeP u m (fun g => rowP u m k0 g) x0 k0 (turnI f x.on x.off)).1))
 case first =>
  go_wp2_with fail
  refine wp_region_held_drew (S := fun w' => Below w0.heap.size w0 w') (by kernel_rfl) (qL w0) (fun hHeld => ?_);have HBwD := xH hHeld;clear hHeld;generalize w0.drew = wD at *;refine yG 0 (fun w' hSw => trw.qf hSw d0) (fun w' hSw => trw.qf hSw d1) ?_;simp only [xS];refine yT 1 ?_;simp only [xS];refine yF 2 (fun w' hSw => trw.qf hSw e11) ?_;simp only [xS];refine yT 3 ?_;simp only [xS];refine xT 4 rfl ?_ ?_ ?_;rotate_left
  ·intro w' hSw;refine jT (x := .tmp 183) (b := b) (off := o0 + 0 * 12) (l := x0) ?_ ?_ (fun j v hj => trw.qf hSw (HE.out j v hj)) <;> rfl
  simp only [xS];refine yT 5 ?_;simp only [xS];refine yT 6 ?_;simp only [xS];refine yF 7 (fun w' hSw => trw.qf hSw e9) ?_;simp only [xS];refine yT 8 ?_;simp only [xS];refine yF 9 (fun w' hSw => trw.qf hSw e10) ?_;simp only [xS];refine wpAnyH_ready (rs := [10, 15]) (by kernel_rfl) (by simp) ?_;refine AllReadyH.cons rfl (fun K hK => ?_) (AllReadyH.cons rfl (fun K hK => ?_) AllReadyH.nil)
  ·go_simp;refine (turn_any f x.on x.off _).mono ?_;rintro e wq1 ⟨rfl, hbn⟩;dsimp only;have HBwq1 := xH (HBwD.out.trans (hbn.mono HBwD.out.size));clear hbn;refine hK.out _ _ HBwq1.out (fun hHeld => ?_);clear hK K;try simp only [xS]
   refine wpAnyH_ready (rs := [11, 15]) (by kernel_rfl) (by simp) ?_;refine AllReadyH.cons rfl (fun K hK => ?_) (AllReadyH.cons rfl (fun K hK => ?_) AllReadyH.nil)
   ·go_simp;refine (HNC.out x0 (turnI f x.on x.off) _ (hN h (w.heap.size + 2)) (HF0.out.o.le HBwq1.out.size) (qV HBwq1.out HX.out) HOK0.out HSZ0.out).mono ?_;rintro e wq2 ⟨hbn, y, j, rfl, hn2, hst2⟩;have HN2 := xH hn2;have HT2 := xH hst2;clear hn2 hst2;dsimp only;have HBwq2 := xH (HBwq1.out.trans (hbn.mono HBwq1.out.size));clear hbn;refine hK.out _ _ HBwq2.out (fun hHeld => ?_);clear hK K;try simp only [xS]
    refine yT 12 ?_;simp only [xS];refine yT 13 ?_;simp only [xS];refine yT 14 ?_;simp only [xS];refine xD 15 rfl (fun K hK => ?_);go_simp;obtain ⟨wq3, hA, HBwq3, HDwq3, HGwq3, HAwq3⟩ := yA HBwq2 (.cells #[.int .i64 0, .int .i64 0, .int .i64 0, .slice none 0 0, .bool false, .int .i64 0, .int .i64 0, .int .i64 0, .string ⟨#[]⟩, .int .i64 0, .int .i64 0, .slice none 0 0] 27);rw [← hA];clear hA;refine hK.out _ _ HBwq3.out (fun hHeld => ?_);clear hK K;try simp only [xS]
    refine xD 16 rfl (fun K hK => ?_);refine qI rfl rfl _ _ rfl wq2.heap.size rfl _ y HGwq3.out rfl (qp HN2.out) rfl ?_;have HB4 := xH (rpw.qC HBwq3.out (ndC y).toArray (show w0.heap.size ≤ wq2.heap.size from HBwq2.out.size));have HG4 := xH (setRow_heap _ _ _ (ndC y).toArray _ _ HGwq3.out);refine hK.out _ _ HB4.out (fun hHeld => ?_);clear hK K;try simp only [xS]
    refine yT 17 ?_;simp only [xS];refine wpAnyH_done (by kernel_rfl) ?_ _;have HN4 := xH (show NdAt (sees (hN h (w.heap.size + 2)) (wq3.setRow wq2.heap.size (ndC y).toArray)) (y, j) from by
     first
     | exact vG HN2.out
     | exact qV (rpw.qC HDwq3.out (ndC y).toArray (xL _)) HN2.out)
    go_wp2_with fail
    go_meet
    exact ⟨wq2.heap.size, y, j, rfl, HG4, HB4, HN4, HT2⟩
   ·go_simp;obtain ⟨wq4, hA, HBwq4, HDwq4, HGwq4, HAwq4⟩ := yA HBwq1 (.cells #[.int .i64 0, .int .i64 0, .int .i64 0, .slice none 0 0, .bool false, .int .i64 0, .int .i64 0, .int .i64 0, .string ⟨#[]⟩, .int .i64 0, .int .i64 0, .slice none 0 0] 27);rw [← hA];clear hA;refine hK.out _ _ HBwq4.out (fun hHeld => ?_);clear hK K;try simp only [xS]
    refine xD 11 rfl (fun K hK => ?_);go_simp;refine (HNC.out x0 (turnI f x.on x.off) _ (hx (hN h (w.heap.size + 2)) (.slice (some ⟨wq1.heap.size, 0, none⟩) 1 1)) (old_add (HF0.out.o.le HBwq4.out.size) HAwq4.out) (qY (zY HBwq4.out (xL _) (fun q hq => by simp only [Value.ownBlock, Option.some.injEq] at hq; have := HBwq1.out.size; omega)) HX.out) HOK0.out HSZ0.out).mono ?_;rintro e wq5 ⟨hbn, y, j, rfl, hn2, hst2⟩;have HN2 := xH hn2;have HT2 := xH hst2;clear hn2 hst2;dsimp only;have HBwq5 := xH (HBwq4.out.trans (hbn.mono HBwq4.out.size));have HGwq5 := xH ((hbn.block wq1.heap.size (by have := HAwq4.out; omega)).trans HGwq4.out);have HAwq5 := xH (show wq1.heap.size < wq5.heap.size by have := HAwq4.out; have := hbn.size; omega);clear hbn;refine hK.out _ _ HBwq5.out (fun hHeld => ?_);clear hK K;try simp only [xS]
    refine yT 12 ?_;simp only [xS];refine yT 13 ?_;simp only [xS];refine yT 14 ?_;simp only [xS];refine xD 16 rfl (fun K hK => ?_);refine qI rfl rfl _ _ rfl wq1.heap.size rfl _ y HGwq5.out rfl (qp HN2.out) rfl ?_;have HB4 := xH (rpw.qC HBwq5.out (ndC y).toArray (show w0.heap.size ≤ wq1.heap.size from HBwq1.out.size));have HG4 := xH (setRow_heap _ _ _ (ndC y).toArray _ _ HGwq5.out);refine hK.out _ _ HB4.out (fun hHeld => ?_);clear hK K;try simp only [xS]
    refine yT 17 ?_;simp only [xS];refine wpAnyH_done (by kernel_rfl) ?_ _;have HN4 := xH (show NdAt (sees (hN h (w.heap.size + 2)) (wq5.setRow wq1.heap.size (ndC y).toArray)) (y, j) from by
     first
     | exact vG HN2.out
     | exact qV (rpw.qC HDwq5.out (ndC y).toArray (xL _)) HN2.out)
    go_wp2_with fail
    go_meet
    exact ⟨wq1.heap.size, y, j, rfl, HG4, HB4, HN4, HT2⟩
  ·go_simp;obtain ⟨wq6, hA, HBwq6, HDwq6, HGwq6, HAwq6⟩ := yA HBwD (.cells #[.int .i64 0, .int .i64 0, .int .i64 0, .slice none 0 0, .bool false, .int .i64 0, .int .i64 0, .int .i64 0, .string ⟨#[]⟩, .int .i64 0, .int .i64 0, .slice none 0 0] 27);rw [← hA];clear hA;refine hK.out _ _ HBwq6.out (fun hHeld => ?_);clear hK K;try simp only [xS]
   refine xD 10 rfl (fun K hK => ?_);go_simp;refine (turn_any f x.on x.off _).mono ?_;rintro e wq7 ⟨rfl, hbn⟩;dsimp only;have HBwq7 := xH (HBwq6.out.trans (hbn.mono HBwq6.out.size));have HGwq7 := xH ((hbn.block wD.heap.size (by have := HAwq6.out; omega)).trans HGwq6.out);have HAwq7 := xH (show wD.heap.size < wq7.heap.size by have := HAwq6.out; have := hbn.size; omega);clear hbn;refine hK.out _ _ HBwq7.out (fun hHeld => ?_);clear hK K;try simp only [xS]
   refine xD 11 rfl (fun K hK => ?_);go_simp;refine (HNC.out x0 (turnI f x.on x.off) _ (hx (hN h (w.heap.size + 2)) (.slice (some ⟨wD.heap.size, 0, none⟩) 1 1)) (old_add (HF0.out.o.le HBwq7.out.size) HAwq7.out) (qY (zY HBwq7.out (xL _) (fun q hq => by simp only [Value.ownBlock, Option.some.injEq] at hq; have := HBwD.out.size; omega)) HX.out) HOK0.out HSZ0.out).mono ?_;rintro e wq8 ⟨hbn, y, j, rfl, hn2, hst2⟩;have HN2 := xH hn2;have HT2 := xH hst2;clear hn2 hst2;dsimp only;have HBwq8 := xH (HBwq7.out.trans (hbn.mono HBwq7.out.size));have HGwq8 := xH ((hbn.block wD.heap.size (by have := HAwq7.out; omega)).trans HGwq7.out);have HAwq8 := xH (show wD.heap.size < wq8.heap.size by have := HAwq7.out; have := hbn.size; omega);clear hbn;refine hK.out _ _ HBwq8.out (fun hHeld => ?_);clear hK K;try simp only [xS]
   refine yT 12 ?_;simp only [xS];refine yT 13 ?_;simp only [xS];refine yT 14 ?_;simp only [xS];refine xD 16 rfl (fun K hK => ?_);refine qI rfl rfl _ _ rfl wD.heap.size rfl _ y HGwq8.out rfl (qp HN2.out) rfl ?_;have HB4 := xH (rpw.qC HBwq8.out (ndC y).toArray (show w0.heap.size ≤ wD.heap.size from HBwD.out.size));have HG4 := xH (setRow_heap _ _ _ (ndC y).toArray _ _ HGwq8.out);refine hK.out _ _ HB4.out (fun hHeld => ?_);clear hK K;try simp only [xS]
   refine yT 17 ?_;simp only [xS];refine wpAnyH_done (by kernel_rfl) ?_ _;have HN4 := xH (show NdAt (sees (hN h (w.heap.size + 2)) (wq8.setRow wD.heap.size (ndC y).toArray)) (y, j) from by
    first
    | exact vG HN2.out
    | exact qV (rpw.qC HDwq8.out (ndC y).toArray (xL _)) HN2.out)
   go_wp2_with fail
   go_meet
   exact ⟨wD.heap.size, y, j, rfl, HG4, HB4, HN4, HT2⟩
 case rest =>
  obtain ⟨B, y, j, rfl, HG, HB, HT5, HS5⟩ := hcut;have HRV := xH ((HB.out.block _ (by have := HF0.out.s; omega)).trans HF0.out.r);have H1 := xH (qp HT5.out);have HB1 := xH (HB.out.mono (show w.heap.size + 1 ≤ w0.heap.size by have := HF0.out.s; omega));have HS6 := xH (HS5.out.trans (congrArg Prod.fst HT.out));clear d0 d1 e0 e9 e10 e11 HX HE HNC HS5;go_wp2_with (first
   | (refine ql rfl _ rfl B rfl y HG.out ?_)
   | (refine qh rfl rfl _ _ rfl (w.heap.size + 2) rfl _ y HRV.out rfl H1.out rfl ?_))
  refine xB (qZ rfl _ _ (w.heap.size + 2) y rfl (setRow_heap _ _ _ _ _ _ HRV.out)) rfl ?_;exact vX HF0.out HB1.out HT5.out (by rw [HR2.out, ← HS6.out]; rfl) (by rw [HR2.out])
theorem node_seq {u : Bool} {m : Int} {k : F} (_hm0 : 0 ≤ m) (_hm : m ≤ 1114111) (hnode : ∀ k' : F, k'.size < k.size → NodeC u m k') (x : Lab) (f : Int) (w : World) (h : Nat → Bool) (hold : Old h w.heap.size) (hnd : NdAt (sees h w) (x, k)) (hok : OkF (F.one x k)) (hsz : k.size ≤ 30000) (hk : x.kind = 12) : Calls Try.prog 53 #[ctxV u m, ndV x, .int .i64 f] w (NodB h (nodeP u m (fun g => rowP u m k g) x k f) w) := by
 have HF0 := xH (vK (u := u) (m := m) hold hnd);have HOLD := xH hold;have HOKF := xH hok;have HLO := xH hnd.1;obtain ⟨R, hR⟩ : ∃ R, nodeP u m (fun g => rowP u m k g) x k f = R := ⟨_, rfl⟩;rw [hR];have HNO := xH hnode;have HR0 := xH (show (oneF 12 (F.app (strip F.nil) (flatF (rowP u m (k.drop 0) f).1)), (rowP u m (k.drop 0) f).2) = R from by rw [drop_zero, ← hR];unfold nodeP;rw [if_neg (by omega), if_neg (by omega), if_neg (by omega), if_neg (by omega), if_neg (by omega), if_neg (by omega), if_neg (by omega), if_pos hk];rfl)
 clear hnode;have b1 : (x.kind == 1) = false := by simp [hk]
 have b2 : (x.kind == 2) = false := by simp [hk]
 have b3 : (x.kind == 3) = false := by simp [hk]
 have b4 : (x.kind == 4) = false := by simp [hk]
 have b6 : (x.kind == 6) = false := by simp [hk]
 have b7 : (x.kind == 7) = false := by simp [hk]
 have b11 : (x.kind == 11) = false := by simp [hk]
 have b12 : (x.kind == 12) = true := by simp [hk]
 clear hold hnd hok hk hR;unfold ctxV;unfold ndC zC at HF0;go_enter Try.func53, Try.ntmps53;unfold ndV;go_upto_region 1 with (fail)
 generalize ((w.alloc _).alloc _).alloc _ = w0 at *;have d0 : w0.cell? ⟨w.heap.size, 0, none⟩ = some (.bool u) := by unfold World.cell?; rw [HF0.out.c]; rfl
 have d1 : w0.cell? ⟨w.heap.size, 1, none⟩ = some (.int .i64 m) := by unfold World.cell?; rw [HF0.out.c]; rfl
 have e0 : w0.cell? ⟨w.heap.size + 1, 0, none⟩ = some (.int .i64 x.kind) := by unfold World.cell?; rw [HF0.out.n]; rfl
 have e11 : w0.cell? ⟨w.heap.size + 1, 11, none⟩ = some (x.kv) := by unfold World.cell?; rw [HF0.out.n]; rfl
 obtain ⟨a3, q3, hkv⟩ := kids_len HF0.out.t.2.2;have HKV := xH HF0.out.t.2.2;rw [hkv] at e11 HKV;have HKE := xH hkv;have hlen : k.len ≤ 30000 := by have := rsp.len_size k; omega
 clear hkv;go_wp2_with fail
 go_loopw [2, 14, 15] (fun vf vo vi wr => SeqRel (hN h (w.heap.size + 2)) u m k R w0 vf vo vi wr) (fun _ _ vi _ => k.len - (intOf vi).toNat)
 case atStart => exact ⟨0, f, F.nil, rfl, rfl, Nat.zero_le _, (by rw [drop_zero]; simp [F.len]), xH (ownH_nil _ _ _), xH (Below.refl _ _), HR0⟩
 case round =>
  obtain ⟨i, f, g, rfl, rfl, hi, hg, hO, hB, hR⟩ := hrel;have HO := xH hO.out;have HB := xH hB.out;have HR := xH hR.out;have HFR := xH (HF0.out.below HB.out);have HG0 := xH hg;clear hO hB hR HR0 hg
  replace d0 := trw.qf HB.out d0
  replace d1 := trw.qf HB.out d1
  replace e11 := trw.qf HB.out e11
  clear e0;by_cases hlt : i < k.len
  ·obtain ⟨x0, k0, r0, hd⟩ := drop_lt hlt;obtain ⟨b, o0, cap', hv, hc1, hc2, hil, hfa⟩ := kid_at HKV.out hd;cases hv;have HS := xH (size_lt hd);have HSD := xH (drop_size hd);have HE := xH (fun j v hj => trw.qf HB.out (sees_to (hfa.1 j v hj)));have HX := xH (qY (zY HB.out (xL _) (fun q hq => (own_below HO.out.1 hq).1)) (fAt_head hfa));have HOXX := xH (fun (W : World) (hw : Below wr.heap.size wr W) => hx_old (v := u14) (m := W.heap.size) HF0.out.o (Nat.le_trans HB.out.size hw.size) HO.out.1 hw.size);have HNC := xH (fun (f : Int) W (h2 : Nat → Bool) (ho2 : Old h2 W.heap.size) (hn2 : NdAt (sees h2 W) (x0, k0)) => HNO.out k0 HS.out x0 f W h2 ho2 hn2 (okF_at HOKF.out.2.2.1 hd) (by have := HS.out; omega));have HSZ := xH (node_size u m (fun g => rowP u m k0 g) x0 k0 f (fun g => row_size u m k0 g));obtain ⟨t, ht⟩ : ∃ t, nodeP u m (fun g => rowP u m k0 g) x0 k0 f = t := ⟨_, rfl⟩;have HT := xH ht;rw [ht] at HSZ;have HNC := xH (show ∀ W (h2 : Nat → Bool), Old h2 W.heap.size → NdAt (sees h2 W) (x0, k0) → Calls Try.prog 53 #[ctxV u m, ndV x0, .int .i64 f] W (NodB h2 t W) from fun W h2 a b => ht ▸ HNC.out f W h2 a b);have HD := xH hd;have a1 := add_row b o0 i 12;clear hd hfa ht;have i1 : (i : Int) < (k.len : Int) := by omega
   go_upto_region 34 with (fail)
   go_cut [16, 17] (fun v16 v17 wx => ∃ B y j, v16 = .pointer (some ⟨B, 0, none⟩) ∧ v17 = .int .i64 t.2 ∧ Hid (wx.heap[B]? = some (.cells (ndC y).toArray 27 (0, 0))) ∧ Hid (Below wr.heap.size wr wx) ∧ Hid (NdAt (sees (hx (hN h (w.heap.size + 2)) u14) wx) (y, j)) ∧ Hid (strip (F.one y j) = t.1))
   case first =>
    go_wp2_with fail
    refine wp_region_held_drew (S := fun w' => Below wr.heap.size wr w') (by kernel_rfl) (qL wr) (fun hHeld => ?_);have HBwD := xH hHeld;clear hHeld;generalize wr.drew = wD at *;refine yG 0 (fun w' hSw => trw.qf hSw d0) (fun w' hSw => trw.qf hSw d1) ?_;simp only [xS];refine yT 1 ?_;simp only [xS];refine yF 2 (fun w' hSw => trw.qf hSw e11) ?_;simp only [xS];refine yT 3 ?_;simp only [xS];refine yT 4 ?_;simp only [xS];refine xT 5 rfl ?_ ?_ ?_;rotate_left
    ·intro w' hSw;refine jT (x := .tmp 150) (b := b) (off := o0 + i * 12) (l := x0) ?_ ?_ (fun j v hj => trw.qf hSw (HE.out j v hj)) <;> rfl
    simp only [xS];refine yT 6 ?_;simp only [xS];refine wpAnyH_ready (rs := [7, 11]) (by kernel_rfl) (by simp) ?_;refine AllReadyH.cons rfl (fun K hK => ?_) (AllReadyH.cons rfl (fun K hK => ?_) AllReadyH.nil)
    ·go_simp;refine (HNC.out _ (hx (hN h (w.heap.size + 2)) u14) (HOXX.out _ HBwD.out) (qV HBwD.out HX.out)).mono ?_;rintro e wq9 ⟨hbn, y, j, rfl, hn2, hst2⟩;have HN2 := xH hn2;have HT2 := xH hst2;clear hn2 hst2;dsimp only;have HBwq9 := xH (HBwD.out.trans (hbn.mono HBwD.out.size));clear hbn;refine hK.out _ _ HBwq9.out (fun hHeld => ?_);clear hK K;try simp only [xS]
     refine yT 8 ?_;simp only [xS];refine yT 9 ?_;simp only [xS];refine yT 10 ?_;simp only [xS];refine xD 11 rfl (fun K hK => ?_);go_simp;obtain ⟨wq10, hA, HBwq10, HDwq10, HGwq10, HAwq10⟩ := yA HBwq9 (.cells #[.int .i64 0, .int .i64 0, .int .i64 0, .slice none 0 0, .bool false, .int .i64 0, .int .i64 0, .int .i64 0, .string ⟨#[]⟩, .int .i64 0, .int .i64 0, .slice none 0 0] 27);rw [← hA];clear hA;refine hK.out _ _ HBwq10.out (fun hHeld => ?_);clear hK K;try simp only [xS]
     refine xD 12 rfl (fun K hK => ?_);refine qI rfl rfl _ _ rfl wq9.heap.size rfl _ y HGwq10.out rfl (qp HN2.out) rfl ?_;have HB4 := xH (rpw.qC HBwq10.out (ndC y).toArray (show wr.heap.size ≤ wq9.heap.size from HBwq9.out.size));have HG4 := xH (setRow_heap _ _ _ (ndC y).toArray _ _ HGwq10.out);refine hK.out _ _ HB4.out (fun hHeld => ?_);clear hK K;try simp only [xS]
     refine yT 13 ?_;simp only [xS];refine wpAnyH_done (by kernel_rfl) ?_ _;have HN4 := xH (show NdAt (sees (hx (hN h (w.heap.size + 2)) u14) (wq10.setRow wq9.heap.size (ndC y).toArray)) (y, j) from by
      first
      | exact vG HN2.out
      | exact qV (rpw.qC HDwq10.out (ndC y).toArray (xL _)) HN2.out)
     go_wp2_with fail
     go_meet
     exact ⟨wq9.heap.size, y, j, rfl, rfl, HG4, HB4, HN4, HT2⟩
    ·go_simp;obtain ⟨wq11, hA, HBwq11, HDwq11, HGwq11, HAwq11⟩ := yA HBwD (.cells #[.int .i64 0, .int .i64 0, .int .i64 0, .slice none 0 0, .bool false, .int .i64 0, .int .i64 0, .int .i64 0, .string ⟨#[]⟩, .int .i64 0, .int .i64 0, .slice none 0 0] 27);rw [← hA];clear hA;refine hK.out _ _ HBwq11.out (fun hHeld => ?_);clear hK K;try simp only [xS]
     refine xD 7 rfl (fun K hK => ?_);go_simp;refine (HNC.out _ (hx (hx (hN h (w.heap.size + 2)) u14) (.slice (some ⟨wD.heap.size, 0, none⟩) 1 1)) (old_add (HOXX.out _ HBwq11.out) HAwq11.out) (qY (zY HBwq11.out (xL _) (fun q hq => by simp only [Value.ownBlock, Option.some.injEq] at hq; have := HBwD.out.size; omega)) HX.out)).mono ?_;rintro e wq12 ⟨hbn, y, j, rfl, hn2, hst2⟩;have HN2 := xH hn2;have HT2 := xH hst2;clear hn2 hst2;dsimp only;have HBwq12 := xH (HBwq11.out.trans (hbn.mono HBwq11.out.size));have HGwq12 := xH ((hbn.block wD.heap.size (by have := HAwq11.out; omega)).trans HGwq11.out);have HAwq12 := xH (show wD.heap.size < wq12.heap.size by have := HAwq11.out; have := hbn.size; omega);clear hbn;refine hK.out _ _ HBwq12.out (fun hHeld => ?_);clear hK K;try simp only [xS]
     refine yT 8 ?_;simp only [xS];refine yT 9 ?_;simp only [xS];refine yT 10 ?_;simp only [xS];refine xD 12 rfl (fun K hK => ?_);refine qI rfl rfl _ _ rfl wD.heap.size rfl _ y HGwq12.out rfl (qp HN2.out) rfl ?_;have HB4 := xH (rpw.qC HBwq12.out (ndC y).toArray (show wr.heap.size ≤ wD.heap.size from HBwD.out.size));have HG4 := xH (setRow_heap _ _ _ (ndC y).toArray _ _ HGwq12.out);refine hK.out _ _ HB4.out (fun hHeld => ?_);clear hK K;try simp only [xS]
     refine yT 13 ?_;simp only [xS];refine wpAnyH_done (by kernel_rfl) ?_ _;have HN4 := xH (show NdAt (sees (hx (hN h (w.heap.size + 2)) u14) (wq12.setRow wD.heap.size (ndC y).toArray)) (y, j) from by
      first
      | exact vG HN2.out
      | exact qV (rpw.qC HDwq12.out (ndC y).toArray (xL _)) HN2.out)
     go_wp2_with fail
     go_meet
     exact ⟨wD.heap.size, y, j, rfl, rfl, HG4, HB4, HN4, HT2⟩
   case rest =>
    obtain ⟨B, y, j, rfl, rfl, HG4, HB4, HN4, HT4⟩ := hcut;have HO4 := xH (ownH_below HO.out HB4.out);have HB5 := xH (HB.out.trans (HB4.out.mono HB.out.size));have HLI := xH (list_any (hx (hN h (w.heap.size + 2)) u14) y j wc (HOXX.out wc HB4.out) HN4.out);clear HNC HOXX HX HE HKV HO HB HB4 d0 d1 e11;go_wp2_with (refine ql rfl _ rfl B rfl y HG4.out ?_)
    refine HLI.out.mono ?_;rintro e w5 ⟨hb5, v5, g5, rfl, hk5, hs5⟩;have HO5 := xH (ownH_below HO4.out hb5);have HB6 := xH (HB5.out.trans (hb5.mono HB5.out.size));have HK5 := xH hk5;have HS5 := xH hs5;have HL5 := xH (show g5.len ≤ 6 * k0.size + 6 from by
     have e1 : g5.len = (listF (bare y) (strip j)).len := by rw [← hs5, jm]
     have e2 := listF_len (bare y) (strip j);have e3 : (F.one (bare y) (strip j)).size = t.1.size := by rw [← HT4.out]; rfl
     have e4 := HSZ.out;omega)
    have HLN := xH (show g.len + g5.len ≤ 200000 by have := HL5.out; have := HSD.out; have := HG0.out; omega);have HSW := xH HB6.out.size;clear hb5 hk5 hs5 HO4 HB5 HLI HN4 HG4;dsimp only;go_wp2_with (at_builtin; refine wpList_append_h rfl _ _ rfl (hN h (w.heap.size + 2)) w0.heap.size u14 g rfl HO5.out HF0.out.o _ g5 rfl HK5.out HLN.out HSW.out ?_; intro v18 w18 h18 hb18; have HO18 := xH h18; have HB18 := xH (HB6.out.trans hb18); clear h18 hb18)
    have hi1 : i + 1 ≤ k.len := by omega
    refine ⟨⟨i + 1, t.2, F.app g g5, rfl, rfl, hi1, ?_, HO18, HB18, xH ?_⟩, ?_⟩
    ·rw [rsp.jd];have := HL5.out;have := HSD.out;have := HG0.out;omega
    ·rw [← HR.out, jH, HS5.out, HD.out, rowP, HT.out, drop_succ HD.out];simp only;rw [app_assoc, ← HT4.out];rfl
    ·simp only [intOf];omega
  ·have hge : ¬ ((i : Int) < (k.len : Int)) := by omega
   obtain ⟨qa, qc, rfl⟩ : ∃ a c, u14 = .slice a g.len c := zJ HO.out.1;have HE := xH (show k.drop i = .nil from drop_end (by omega));have HKD := xH (ownH_kids HO.out HF0.out.o);have HVT := xH (zk 12 (by unfold I64; omega) HKD.out);have HOS := xH (jV 12 (.slice qa g.len qc) g);have HON := xH (seq_any (.slice qa g.len qc) g wr (jh (fun _ _ hc => sees_to hc) HKD.out));generalize oneR 12 (.slice qa g.len qc) g = tt at *;clear hlt;go_wp2_with fail
   refine HON.out.mono ?_;rintro e w4 ⟨rfl, hb⟩;have HT4 := xH (qV hb HVT.out);have HRV := xH (HFR.out.below hb).r;have HB4 := xH (show Below (w.heap.size + 1) w0 w4 from (HB.out.trans (hb.mono HB.out.size)).mono (by have := HF0.out.s; omega));have H1 := xH (qp HT4.out);clear hb;dsimp only;go_wp2_with (refine qh rfl rfl _ _ rfl (w.heap.size + 2) rfl _ tt.1 HRV.out rfl H1.out rfl ?_)
   refine xB (qZ rfl _ _ (w.heap.size + 2) tt.1 rfl (setRow_heap _ _ _ _ _ _ HRV.out)) rfl ?_;exact vX (j := tt.2) HF0.out HB4.out HT4.out (by rw [← HR.out, HE.out, HOS.out]; show oneF 12 (strip g) = oneF 12 (F.app (strip g) .nil); rw [app_nil]) (by rw [← HR.out, HE.out]; rfl)
end rsw
end
end Go.Proofs.Ytdgfclbajjjcgaa
