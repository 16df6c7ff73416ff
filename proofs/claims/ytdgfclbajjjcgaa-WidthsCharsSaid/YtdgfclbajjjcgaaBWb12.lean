/- T -/
import Derived.BigQuiet
import Derived.Deep.Cut
import Derived.Deep.RegionHeld3
import Derived.Laws.BytesArg
import Derived.Laws.CopyRow
import Derived.Laws.OwnMore
import Derived.Laws.Rows
import Derived.Lib.Hide
import Derived.Lib.QuietBelow
import Derived.Maps.AppendAt
import Derived.OwnWalk
import Derived.Shelf.Abstract
import Derived.Test.YtdgfclbajjjcgaaRows
import Derived.WalkKit
import Derived.WalkMore
import Derived.Test.YtdgfclbajjjcgaaBWb11
set_option maxHeartbeats 16000000
set_option maxRecDepth 1000000
namespace Go.Proofs.Ytdgfclbajjjcgaa
section
namespace rtw
open sq
open setw (Wf)
open Go utfp ucdp setp prp tkp rtp
def Bd (a : Int) : Prop := -2000000 ≤ a ∧ a ≤ 2000000
theorem nm_e : (⟨#[]⟩ : ByteArray).size ≤ 9223372036854775807 := by decide
theorem nm_len (p : Pt) (a b : Nat) : (p.sub a b).size ≤ b - a := by unfold Pt.sub strOfNums;simp [ByteArray.size]
theorem run_le1 (p : Pt) (fits : Int → Bool) : ∀ k a, p.run fits k a ≤ a + k
 | 0, a => xL _
 | k + 1, a => by
  rw [Pt.run];split
  ·have := run_le1 p fits k (a + 1); omega
  ·omega
theorem find_lt {p : Pt} {c : Int} : ∀ {k a j : Nat}, p.find c k a = some j → a ≤ j ∧ j < a + k
 | 0, _, _, h => by cases h
 | k + 1, a, j, h => by
  rw [Pt.find] at h;split at h
  ·cases h; omega
  ·have := find_lt h; omega
theorem nm_name (p : Pt) (a : Nat) : (p.sub a (p.name a).1).size ≤ 9223372036854775807 := by have h := nm_len p a (p.name a).1;have h2 : (p.name a).1 ≤ a + 1000 := run_le1 p isWrd 1000 a;omega
structure TkB (t : Tk) : Prop where
 k : Bd t.kind
 c : Bd t.c
 n : Bd t.n
 m : Bd t.m
 mode : Bd t.mode
 on : Bd t.on
 off : Bd t.off
 s : t.set.length ≤ 90000
 w : Wf t.set
 nm : t.name.size ≤ 9223372036854775807
def GOk (f : Nat) (r : G) : Prop := ∀ t b, r = .ok (some t, b) → TkB t ∧ t.at_ = f
theorem jK (f : Nat) (e : Int × Int) : GOk f (.error e) := fun t b h => by cases h
theorem gok_none (f b : Nat) : GOk f (.ok (none, b)) := fun t b h => by cases h
theorem jo {t : Tk} (h : TkB t) (f b : Nat) : GOk f (gtok t f b) := fun t' b' e => by
 unfold gtok at e;cases e;exact ⟨⟨h.k, h.c, h.n, h.m, h.mode, h.on, h.off, h.s, h.w, h.nm⟩, rfl⟩
theorem je {f : Nat} {c : Prop} [Decidable c] {a b : G} (h1 : c → GOk f a) (h2 : ¬ c → GOk f b) : GOk f (if c then a else b) := by
 by_cases h : c
 ·rw [if_pos h]; exact h1 h
 ·rw [if_neg h]; exact h2 h
theorem bd0 : Bd 0 := by unfold Bd; omega
theorem tkB {k c n m mode on off : Int} {neg : Bool} {name : ByteArray} {a b : Nat} (h1 : Bd k) (h2 : Bd c) (h3 : Bd n) (h4 : Bd m) (h5 : Bd mode) (h6 : Bd on) (h7 : Bd off) (h8 : name.size ≤ 9223372036854775807 := by first | exact nm_e | exact nm_name _ _ | assumption) : TkB { kind := k, at_ := a, «to» := b, c := c, set := [], neg := neg, n := n, m := m, mode := mode, name := name, on := on, off := off } := ⟨h1, h2, h3, h4, h5, h6, h7, by simp, fun r hr => (by cases hr), h8⟩
theorem tkS {l : List Rg} {neg : Bool} {a b : Nat} (h : l.length ≤ 90000) (hw : Wf l) : TkB { kind := 2, at_ := a, «to» := b, set := l, neg := neg } := ⟨by unfold Bd; simp, bd0, bd0, bd0, bd0, bd0, bd0, h, hw, nm_e⟩
theorem dig0 (p : Pt) (a : Nat) : 0 ≤ (p.digits a).1 := by exact z101
theorem num0 (p : Pt) (a : Nat) : Bd (num p a).1 := by have := dig0 p a;unfold num Bd;split <;> constructor <;> simp only <;> omega
theorem sign0 (p : Pt) (a : Nat) : Bd (p.sign a).1 := by
 unfold Pt.sign Bd
 repeat' split
 all_goals constructor <;> simp only <;> omega
theorem sgn0 (p : Pt) (a : Nat) : Bd (sgn p a).1 ∧ Bd (sgn p a).2.1 := by
 have h1 := num0 p (p.sign a).2;have h2 := sign0 p a;unfold sgn;split
 ·exact ⟨bd0, h2⟩
 ·exact ⟨h1, h2⟩
theorem mode0 (p : Pt) (a : Nat) : Bd (p.mode a).1 := by
 unfold Pt.mode Bd
 repeat' split
 all_goals constructor <;> simp only <;> omega
theorem quan_ok (p : Pt) (i to_ : Nat) {n m : Int} (hn : Bd n) (hm : Bd m) : GOk i (quan p i to_ n m) := jo (tkB (by unfold Bd; omega) bd0 hn hm (mode0 p to_) bd0 bd0) _ _
theorem simE0 (c : Int) : Bd (ji c) := by
 unfold ji Bd
 repeat' split
 all_goals omega
theorem assE0 (c : Int) : Bd (vZ c) := by
 unfold vZ Bd
 repeat' split
 all_goals omega
theorem quotes0 (p : Pt) (a : Nat) : Bd (p.quotes a).1 := by
 unfold Pt.quotes Bd
 repeat' split
 all_goals constructor <;> simp only <;> omega
theorem refR_ok (p : Pt) (f i : Nat) : GOk f (refR p f i) := by
 have hs := sgn0 p (p.quotes i).2.2;have hq := quotes0 p i;unfold refR;simp only
 repeat' split
 any_goals exact jK _ _
 ·exact jo (tkB hq bd0 hs.1 hs.2 bd0 bd0 bd0) _ _
 ·exact jo (tkB hq bd0 bd0 (by unfold Bd; omega) bd0 bd0 bd0) _ _
theorem backR_ok (p : Pt) (i to_ : Nat) : ∀ l, GOk i (backR p i to_ l)
 | [] => jK _ _
 | (o, z) :: l => by
  rw [backR]
  repeat' split
  any_goals exact backR_ok p i to_ l
  exact jo (tkB (by unfold Bd; omega) bd0 bd0 (by unfold Bd; omega) bd0 bd0 bd0) _ _
theorem escR_ok {S : ByteArray} {p : Pt} (h : Pat S p) {i : Nat} (hi : i < p.n) : GOk i (escR p i) := by
 rw [escR_eq];refine je (fun _ => ?_) (fun h1 => ?_)
 ·exact jK _ _
 have hc := char_val h (a := i + 1) (by omega);have hb := zM h (a := i + 1) (by omega);refine je (fun _ => ?_) (fun _ => ?_)
 ·exact jo (tkB (by unfold Bd; omega) (simE0 _) bd0 bd0 bd0 bd0 bd0) _ _
 refine je (fun _ => ?_) (fun _ => ?_)
 ·split
  ·exact jK _ _
  ·rename_i v e hv;have := hexz_in h hb.2 hv;exact jo (tkB (by unfold Bd; omega) (by unfold Bd; omega) bd0 bd0 bd0 bd0 bd0) _ _
 refine je (fun _ => ?_) (fun _ => ?_)
 ·exact jo (tkS (by simp) (fun r hr => by simp only [List.mem_cons, dM, or_false] at hr;subst hr;simp)) _ _
 refine je (fun _ => ?_) (fun _ => ?_)
 ·exact jo (tkB (by unfold Bd; omega) bd0 (assE0 _) bd0 bd0 bd0 bd0) _ _
 refine je (fun _ => ?_) (fun _ => ?_)
 ·exact jo (tkB (by unfold Bd; omega) bd0 bd0 bd0 bd0 bd0 bd0) _ _
 refine je (fun _ => ?_) (fun _ => ?_)
 ·exact jo (tkB (by unfold Bd; omega) bd0 bd0 bd0 bd0 bd0 bd0) _ _
 refine je (fun _ => ?_) (fun _ => ?_)
 ·exact gok_none _ _
 refine je (fun _ => ?_) (fun _ => ?_)
 ·split
  ·exact jK _ _
  ·exact jo (tkB (by unfold Bd; omega) bd0 (num0 _ _) bd0 bd0 bd0 bd0) _ _
 refine je (fun _ => ?_) (fun _ => ?_)
 ·exact refR_ok _ _ _
 refine je (fun _ => ?_) (fun _ => ?_)
 ·exact backR_ok _ _ _ _
 split
 ·exact jK _ _
 ·rename_i l neg e hm;have := many_len (S := S) hm;exact jo (tkS (by omega) (setw.jX this.2.2)) _ _
 ·split
  ·exact jK _ _
  ·exact jo (tkB (by unfold Bd; omega) (by unfold Bd; omega) bd0 bd0 bd0 bd0 bd0) _ _
theorem item2 {S : ByteArray} {p : Pt} (h : Pat S p) {i to_ : Nat} {l : List Rg} {s : Bool} (hi : i < p.n) (e : itemR p i = .ok (l, s, to_)) : 2 * l.length ≤ 101 * (to_ - i) := by
 have hb := item_bd h hi e;have hc := zM h (a := i) hi;by_cases h2 : i + 2 ≤ to_
 ·omega
 ·suffices l.length ≤ 1 by omega
  unfold itemR at e;split at e
  ·split at e
   ·simp only [Except.ok.injEq, dL] at e;obtain ⟨rfl, rfl, rfl⟩ := e;rename_i h1 _;have hin := qR h h1.1;have hpb : i < posB p i ∧ posB p i ≤ p.n := by simp only [dB, dA] at hin;unfold posB;exact z141
    have h4 := tkw.run_bd (fits := isLet) (k := 1000) hpb.2;omega
   ·cases e
  ·unfold itemC at e;split at e
   ·split at e
    ·cases e
    ·rename_i hne;have := itemE_bd h (show (p.char i).2 < p.n by omega) e;omega
   ·simp only [Except.ok.injEq, dL] at e;obtain ⟨rfl, rfl, rfl⟩ := e;simp
theorem range2 {S : ByteArray} {p : Pt} (h : Pat S p) {i to_ : Nat} {l : List Rg} (hi : i < p.n) (e : rangeR p i = .ok (l, to_)) : 2 * l.length ≤ 101 * (to_ - i) := by
 have hb := range_bd h hi e;unfold rangeR at e;split at e
 ·cases e
 ·rename_i l1 s1 to1 h1;have b1 := item2 h hi h1;split at e
  ·split at e
   ·cases e
   ·split at e
    ·cases e
    ·simp only [Except.ok.injEq, dL] at e;obtain ⟨rfl, rfl⟩ := e;simp only [dB, dA];omega
  ·simp only [Except.ok.injEq, dL] at e;obtain ⟨rfl, rfl⟩ := e;exact b1
theorem clsL_len {S : ByteArray} {p : Pt} (h : Pat S p) (first : Nat) : ∀ (k : Nat) (all : List Rg) (i : Nat) (r : List Rg) (b : Nat), i ≤ p.n → 2 * all.length ≤ 101 * i → clsL p first k all i = .ok (r, b) → 2 * r.length ≤ 101 * p.n
 | 0, _, _, _, _, _, _, e => by cases e
 | k + 1, all, i, r, b, hi, hl, e => by
  rw [clsL] at e;split at e
  ·cases e
  ·split at e
   ·simp only [Except.ok.injEq, dL] at e;obtain ⟨rfl, rfl⟩ := e;omega
   ·split at e
    ·cases e
    ·rename_i l to_ hr;have b1 := range_bd h (show i < p.n by omega) hr;have b2 := range2 h (show i < p.n by omega) hr;exact clsL_len h first k _ _ _ _ b1.2.1 (by rw [List.length_append]; omega) e
theorem clsR_ok {S : ByteArray} {p : Pt} (h : Pat S p) {f : Nat} (hf : f < p.n) : GOk f (clsR p f) := by
 have hn := h.n;have hle := h.le;unfold clsR;simp only;split
 ·exact jK _ _
 ·rename_i all b hr;have h1 : (if p.has [94] (f + 1) = true then f + 2 else f + 1) ≤ p.n := by exact z141
  have := clsL_len h _ _ _ _ _ _ h1 (by simp) hr;have h2 := tkw.yg p.most all;exact jo (tkS (by omega) (setw.jX (ja (vH p) all).2)) _ _
theorem shutR_ok (p : Pt) {t : Tk} (ht : TkB t) (f i : Nat) (s : List UInt8) (e : Int) : GOk f (shutR p t f i s e) := by
 unfold shutR
 repeat' split
 any_goals exact jK _ _
 exact jo ht _ _
theorem callR_ok (p : Pt) {t : Tk} (ht : TkB t) (f i : Nat) (s : List UInt8) : GOk f (callR p t f i s) := by
 unfold callR
 repeat' split
 any_goals exact jK _ _
 exact jo (t := { t with name := p.sub i (p.name i).1 }) ⟨ht.k, ht.c, ht.n, ht.m, ht.mode, ht.on, ht.off, ht.s, ht.w, nm_name p i⟩ _ _
theorem optV_lt (c : Int) : optV c < 2 ^ 5 := by
 unfold optV
 repeat' split
 all_goals decide
theorem flagR_ok (p : Pt) (f : Nat) : ∀ (k i : Nat) (off : Bool) (on of_ : Int), 0 ≤ on ∧ on < 32 → 0 ≤ of_ ∧ of_ < 32 → GOk f (flagR p f k i off on of_)
 | 0, _, _, _, _, _, _ => jK _ _
 | k + 1, i, off, on, of_, h1, h2 => by
  have or_lt : ∀ (a : Int) (c : Int), 0 ≤ a ∧ a < 32 → 0 ≤ ((a.toNat ||| optV c : Nat) : Int) ∧ ((a.toNat ||| optV c : Nat) : Int) < 32 := fun a c ha => by
   have : a.toNat ||| optV c < 2 ^ 5 := Nat.or_lt_two_pow (by omega) (optV_lt c)
   omega
  rw [flagR]
  repeat' split
  any_goals exact jK _ _
  ·exact jo (tkB (by unfold Bd; omega) bd0 bd0 bd0 bd0 (by unfold Bd; omega) (by unfold Bd; omega)) _ _
  ·exact jo (tkB (by unfold Bd; omega) bd0 (by unfold Bd; omega) bd0 bd0 (by unfold Bd; omega) (by unfold Bd; omega)) _ _
  ·exact flagR_ok p f k _ _ _ _ h1 h2
  ·exact flagR_ok p f k _ _ _ _ h1 (or_lt _ _ h2)
  ·exact flagR_ok p f k _ _ _ _ (or_lt _ _ h1) h2
theorem condE_ok (p : Pt) (f : Nat) {t : Tk} (ht : TkB t) (to_ : Nat) (ok : Bool) : GOk f (condE p f t to_ ok) := by
 unfold condE
 repeat' split
 any_goals exact jK _ _
 exact jo ht _ _
theorem condR_ok (p : Pt) (f i : Nat) : GOk f (condR p f i) := by
 have hs := sgn0 p i;unfold condR condN
 repeat' split
 any_goals exact jK _ _
 ·exact jo (tkB (by unfold Bd; omega) bd0 (by unfold Bd; omega) bd0 bd0 bd0 bd0) _ _
 ·exact condE_ok _ _ (tkB (by unfold Bd; omega) bd0 (by unfold Bd; omega) bd0 bd0 bd0 bd0) _ _
 ·exact condE_ok _ _ (tkB (by unfold Bd; omega) bd0 (by unfold Bd; omega) bd0 bd0 bd0 bd0) _ _
 ·exact condE_ok _ _ (tkB (by unfold Bd; omega) bd0 (by unfold Bd; omega) bd0 bd0 bd0 bd0) _ _
 ·exact condE_ok _ _ (tkB (by unfold Bd; omega) bd0 (by unfold Bd; omega) (by unfold Bd; omega) bd0 bd0 bd0) _ _
 ·exact condE_ok _ _ (tkB (by unfold Bd; omega) bd0 (by unfold Bd; omega) bd0 (by unfold Bd; omega) bd0 bd0) _ _
 ·exact condE_ok _ _ (tkB (by unfold Bd; omega) bd0 (by unfold Bd; omega) bd0 (num0 _ _) bd0 bd0) _ _
 ·exact condE_ok _ _ (tkB (by unfold Bd; omega) bd0 (by unfold Bd; omega) hs.2 hs.1 bd0 bd0) _ _
theorem verbV0 (s : ByteArray) : Bd (verbV s) := by
 unfold verbV Bd
 repeat' split
 all_goals omega
theorem verbG_ok (f i : Nat) (word arg : ByteArray) (wth : Bool) (ha : arg.size ≤ 9223372036854775807) : GOk f (verbG f i word arg wth) := by
 have := verbV0 word;unfold verbG;split
 ·exact jK _ _
 ·exact jo (tkB (by unfold Bd; omega) bd0 this bd0 bd0 bd0 bd0) _ _
theorem verbR_ok (p : Pt) (hn : p.n ≤ 9223372036854775807) (f : Nat) : GOk f (verbR p f) := by
 unfold verbR;split
 ·exact jK _ _
 ·rename_i i hi;split
  ·exact verbG_ok _ _ _ _ _ nm_e
  ·rename_i j hj;refine verbG_ok _ _ _ _ _ ?_;have h1 := find_lt (p := p) (show p.find 41 (p.n - (f + 2)) (f + 2) = some i from hi);have h2 := find_lt hj;have h3 := nm_len p (j + 1) i;omega
theorem kindR_ok (p : Pt) (f i : Nat) : ∀ (l : List (List UInt8 × Int)), (∀ q ∈ l, Bd q.2) → ∀ g, kindR p f i l = some g → GOk f g
 | [], _, g, h => by cases h
 | (s, k) :: l, hl, g, h => by
  rw [kindR] at h;split at h
  ·cases h;exact jo (tkB (by unfold Bd; omega) bd0 (hl _ (dJ ..)) bd0 bd0 bd0 bd0) _ _
  ·exact kindR_ok p f i l (fun q hq => hl q (List.mem_cons_of_mem _ hq)) g h
theorem numR_ok (p : Pt) (f i : Nat) : GOk f (numR p f i) := by
 have hs := sgn0 p i;have h1 := shutR_ok p (t := { kind := 12, n := (sgn p i).1, m := (sgn p i).2.1 }) (tkB (by unfold Bd; omega) bd0 hs.1 hs.2 bd0 bd0 bd0) f (sgn p i).2.2.1 [41] 26;unfold numR;simp only;split
 ·exact jK _ _
 ·split
  ·split
   ·exact jK _ _
   ·exact jK _ _
  ·split
   ·exact jK _ _
   ·rename_i r hr;split
    ·exact jK _ _
    ·rw [hr] at h1;exact h1
theorem openK_ok (p : Pt) (f i : Nat) : GOk f (openK p f i) := by
 have z : Bd 1 := by unfold Bd; omega
 have z3 : Bd 3 := by unfold Bd; omega
 have k10 : Bd 10 := by unfold Bd; omega
 have k11 : Bd 11 := by unfold Bd; omega
 have k12 : Bd 12 := by unfold Bd; omega
 unfold openK;refine je (fun _ => ?_) (fun _ => ?_)
 ·split
  ·exact jK _ _
  ·exact gok_none _ _
 refine je (fun _ => ?_) (fun _ => ?_)
 ·exact callR_ok _ (tkB k10 bd0 z bd0 bd0 bd0 bd0) _ _ _
 refine je (fun _ => ?_) (fun _ => ?_)
 ·exact callR_ok _ (tkB k10 bd0 z bd0 bd0 bd0 bd0) _ _ _
 refine je (fun _ => ?_) (fun _ => ?_)
 ·exact callR_ok _ (tkB k10 bd0 z bd0 bd0 bd0 bd0) _ _ _
 refine je (fun _ => ?_) (fun _ => ?_)
 ·exact callR_ok _ (tkB k11 bd0 bd0 z3 bd0 bd0 bd0) _ _ _
 refine je (fun _ => ?_) (fun _ => ?_)
 ·exact callR_ok _ (tkB k12 bd0 bd0 z3 bd0 bd0 bd0) _ _ _
 refine je (fun _ => ?_) (fun _ => ?_)
 ·exact callR_ok _ (tkB k12 bd0 bd0 z3 bd0 bd0 bd0) _ _ _
 refine je (fun _ => ?_) (fun _ => ?_)
 ·exact shutR_ok _ (tkB k12 bd0 bd0 bd0 bd0 bd0 bd0) _ _ _ _
 refine je (fun _ => ?_) (fun _ => ?_)
 ·split
  ·exact jK _ _
  ·exact shutR_ok _ (tkB (by unfold Bd; omega) bd0 (num0 _ _) bd0 bd0 bd0 bd0) _ _ _ _
 refine je (fun _ => ?_) (fun _ => ?_)
 ·exact condR_ok _ _ _
 refine je (fun _ => ?_) (fun _ => ?_)
 ·exact numR_ok _ _ _
 ·exact flagR_ok _ _ _ _ _ _ _ (by omega) (by omega)
theorem openR_ok (p : Pt) (hn : p.n ≤ 9223372036854775807) (f : Nat) : GOk f (openR p f) := by
 unfold openR;split
 ·exact verbR_ok _ hn _
 split
 ·exact jo (tkB (by unfold Bd; omega) bd0 (by unfold Bd; omega) bd0 bd0 bd0 bd0) _ _
 split
 ·exact jK _ _
 split
 ·rename_i g hg;exact kindR_ok p f (f + 2) kindsT (fun q hq => by simp only [kindsT, List.mem_cons, dM, or_false] at hq;unfold Bd;rcases hq with rfl | rfl | rfl | rfl | rfl | rfl | rfl <;> simp only <;> omega) g hg
 ·exact openK_ok _ _ _
theorem bracR_ok (p : Pt) (i : Nat) {n m : Int} {b : Nat} {g : Bool} (h : bracR p i = some (n, m, b, g)) : Bd n ∧ Bd m := by
 have h1 := num0 p (i + 1);have h2 := num0 p ((num p (i + 1)).2.1 + 1);unfold bracR at h;simp only at h;split at h
 ·split at h
  ·simp only [dG, dL] at h;obtain ⟨rfl, rfl, _, _⟩ := h;refine ⟨h1, ?_⟩;split
   ·unfold Bd; omega
   ·exact h2
  ·cases h
 ·split at h
  ·cases h
  ·simp only [dG, dL] at h;obtain ⟨rfl, rfl, _, _⟩ := h;exact ⟨h1, h1⟩
theorem tokR_ok {S : ByteArray} {p : Pt} (h : Pat S p) {i : Nat} (hi : i < p.n) : GOk i (tokR p i) := by
 have hc := char_val h hi;rw [tokR_eq];refine je (fun _ => ?_) (fun _ => ?_)
 ·exact gok_none _ _
 refine je (fun _ => ?_) (fun _ => ?_)
 ·exact gok_none _ _
 refine je (fun _ => ?_) (fun _ => ?_)
 ·exact escR_ok h hi
 refine je (fun _ => ?_) (fun _ => ?_)
 ·exact clsR_ok h hi
 refine je (fun _ => ?_) (fun _ => ?_)
 ·exact openR_ok _ (by have := h.n; have := h.le; omega) _
 refine je (fun _ => ?_) (fun _ => ?_)
 ·exact jo (tkB (by unfold Bd; omega) bd0 bd0 bd0 bd0 bd0 bd0) _ _
 refine je (fun _ => ?_) (fun _ => ?_)
 ·exact jo (tkB (by unfold Bd; omega) bd0 (by unfold Bd; omega) bd0 bd0 bd0 bd0) _ _
 refine je (fun _ => ?_) (fun _ => ?_)
 ·exact jo (tkB (by unfold Bd; omega) bd0 (by unfold Bd; omega) bd0 bd0 bd0 bd0) _ _
 refine je (fun _ => ?_) (fun _ => ?_)
 ·exact jo (tkB (by unfold Bd; omega) bd0 bd0 bd0 bd0 bd0 bd0) _ _
 refine je (fun _ => ?_) (fun _ => ?_)
 ·exact jo (tkB (by unfold Bd; omega) bd0 bd0 bd0 bd0 bd0 bd0) _ _
 refine je (fun _ => ?_) (fun _ => ?_)
 ·exact quan_ok _ _ _ bd0 (by unfold Bd; omega)
 refine je (fun _ => ?_) (fun _ => ?_)
 ·exact quan_ok _ _ _ (by unfold Bd; omega) (by unfold Bd; omega)
 refine je (fun _ => ?_) (fun _ => ?_)
 ·exact quan_ok _ _ _ bd0 (by unfold Bd; omega)
 refine je (fun _ => ?_) (fun _ => ?_)
 ·split
  ·exact jo (tkB (by unfold Bd; omega) (by unfold Bd; omega) bd0 bd0 bd0 bd0 bd0) _ _
  ·rename_i n m b g hb;have := bracR_ok p i hb
   repeat' split
   any_goals exact jK _ _
   exact quan_ok _ _ _ this.1 this.2
 ·exact jo (tkB (by unfold Bd; omega) (by unfold Bd; omega) bd0 bd0 bd0 bd0 bd0) _ _
theorem lexF_ok {S : ByteArray} {p : Pt} (h : Pat S p) : ∀ (k : Nat) (q : Bool) (T : List Tk) (i : Nat) (R : List Tk), (∀ t ∈ T, TkB t ∧ t.at_ ≤ p.n) → T.length ≤ i → i ≤ p.n → lexF p k q T i = .ok R → (∀ t ∈ R, TkB t ∧ t.at_ ≤ p.n) ∧ R.length ≤ p.n
 | 0, _, T, i, R, h1, h2, h3, e => by rw [lexF] at e;cases e;exact ⟨h1, by omega⟩
 | k + 1, q, T, i, R, h1, h2, h3, e => by
  rw [lexF] at e;split at e
  ·cases e;exact ⟨h1, by omega⟩
  ·rename_i hi;have hc := char_val h (a := i) (by omega);have hb := zM h (a := i) (by omega);split at e
   ·split at e
    ·rename_i h4;have := qR h h4;simp only [dB, dA] at this;exact lexF_ok h k _ _ _ _ h1 (by omega) (by omega) e
    ·refine lexF_ok h k _ _ _ _ (fun t ht => ?_) (by simp only [List.length_append, dB, dA]; omega) hb.2 e;rcases List.mem_append.1 ht with ht | ht
     ·exact h1 t ht
     ·simp only [List.mem_cons, dM, or_false] at ht;subst ht;exact ⟨(jo (tkB (k := 1) (c := (p.char i).1) (a := 0) (b := 0) (neg := false) (name := ⟨#[]⟩) (by unfold Bd; omega) (by unfold Bd; omega) bd0 bd0 bd0 bd0 bd0) i (p.char i).2 _ _ rfl).1, by show i ≤ p.n; omega⟩
   ·split at e
    ·rename_i h4;have := qR h h4;simp only [dB, dA] at this;exact lexF_ok h k _ _ _ _ h1 (by omega) (by omega) e
    ·split at e
     ·cases e
     ·rename_i to_ ht;have := tokR_bd h (show i < p.n by omega) ht;exact lexF_ok h k _ _ _ _ h1 (by omega) (by omega) e
     ·rename_i t to_ ht;have b := tokR_bd h (show i < p.n by omega) ht;have c := tokR_ok h (show i < p.n by omega) t to_ ht;refine lexF_ok h k _ _ _ _ (fun t' ht' => ?_) (by simp only [List.length_append, dB, dA]; omega) b.2 e;rcases List.mem_append.1 ht' with ht' | ht'
      ·exact h1 t' ht'
      ·simp only [List.mem_cons, dM, or_false] at ht';subst ht';exact ⟨c.1, by rw [c.2]; omega⟩
end rtw
end
section
namespace trp
open sq
open Go
structure Lab where
 kind : Int
 at_ : Int
 c : Int
 sv : Value
 set : List (Int × Int)
 neg : Bool
 n : Int
 m : Int
 mode : Int
 name : ByteArray
 on : Int
 off : Int
 kv : Value
inductive F where
 | nil
 | cons (x : Lab) (k r : F)
def F.len : F → Nat
 | .nil => 0
 | .cons _ _ r => r.len + 1
def F.size : F → Nat
 | .nil => 0
 | .cons _ k r => k.size + r.size + 1
def F.hd : F → Int
 | .nil => 0
 | .cons x _ _ => x.kind
def F.drop : F → Nat → F
 | f, 0 => f
 | .nil, _ + 1 => .nil
 | .cons _ _ r, n + 1 => r.drop n
abbrev Nd := Lab × F
def repK (k : Int) : Bool := !(decide (k = 4) || decide (k = 5) || decide (k = 9) || decide (k = 10) || decide (k = 11))
def cnt : F → Int → Int
 | .nil, l => l
 | .cons _ k r, l => if l < 0 then l else cnt r (cnt k (l - 1))
end trp
end
section
namespace rpp
open sq
open Go tkp trp
structure Ps where
 i : Nat
 op : Nat := 0
 e : Int := 0
 at_ : Int := 0
abbrev nil3 : Value := .slice none 0 0
def lab (kind at_ : Int) : Lab := (Lab.mk kind at_ 0 nil3 [] false 0 0 0 ⟨#[]⟩ 0 0 nil3)
def strip : F → F
 | .nil => .nil
 | .cons x k r => .cons { x with sv := nil3, kv := nil3 } (strip k) (strip r)
def F.app : F → F → F
 | .nil, g => g
 | .cons x k r, g => .cons x k (F.app r g)
def F.one (x : Lab) (k : F) : F := .cons x k .nil
def oneF (kind : Int) : F → F
 | .cons x k .nil => .cons x k .nil
 | l => .cons (lab kind 0) l .nil
def kindS (L : List Tk) (s : Ps) : Int := if s.e ≠ 0 then 0 else match L[s.i]? with
 | none => 0
 | some t => t.kind
def failS (s : Ps) (e a : Int) : Ps := if s.e = 0 then { s with e := e, at_ := a } else s
def leafK (k : Int) : Int := if k = 1 then 1 else if k = 2 then 2 else if k = 3 then 3 else if k = 4 then 4 else if k = 5 then 5 else if k = 6 then 6 else if k = 11 then 7 else if k = 12 then 8 else if k = 13 then 9 else if k = 14 then 10 else 11
def leafL (t : Tk) (sv : Value) : Lab := (Lab.mk (leafK t.kind) t.at_ t.c sv t.set t.neg t.n t.m 0 t.name t.on t.off nil3)
def zeroF : F := F.one (lab 0 0) .nil
def repF (t : Tk) (q : F) : F := F.one { lab 20 t.at_ with n := t.n, m := t.m, mode := t.mode } q
def jf (t : Tk) (look l : F) : F :=
 if t.n = 1 then F.one { lab 14 t.at_ with name := t.name } (oneF 13 l)
 else if t.n = 2 then F.one { lab 15 t.at_ with on := t.on, off := t.off } (oneF 13 l)
 else if t.n = 4 then F.one (lab 17 t.at_) (oneF 13 l)
 else if t.n = 5 ∨ t.n = 6 ∨ t.n = 7 ∨ t.n = 8 then F.one { lab 18 t.at_ with n := t.n } (oneF 13 l)
 else if t.n = 3 then F.one (lab 16 t.at_) l
 else F.one { lab 19 t.at_ with n := t.n, m := t.m, mode := t.mode, name := t.name } (F.app look l)
def condT (t : Tk) : Bool := !(decide (1 ≤ t.n) && decide (t.n ≤ 8))
def zf (t : Tk) (l : F) (s : Ps) : Ps := if condT t = true ∧ (2 < l.len ∨ (1 < l.len ∧ t.n = 12)) then failS s 32 t.at_ else s
def zeroT : Tk := { kind := 0 }
inductive Md where
 | alt (acc : F)
 | seq (acc : F)
 | thing
def run (L : List Tk) : Nat → Md → Ps → F × Ps
 | 0, _, s => (.nil, s)
 | n + 1, .alt acc, s =>
  let r := run L n (.seq .nil) s
  if kindS L r.2 = 7 then run L n (.alt (F.app acc r.1)) { r.2 with i := r.2.i + 1 } else (F.app acc r.1, r.2)
 | n + 1, .seq acc, s =>
  if kindS L s = 0 ∨ kindS L s = 7 ∨ kindS L s = 8 then (oneF 12 acc, s)
  else if kindS L s = 9 then (zeroF, failS s 30 (L.getD s.i zeroT).at_)
  else
   let r := run L n .thing s
   if kindS L r.2 = 9 ∧ repK r.1.hd = true then run L n (.seq (F.app acc (repF (L.getD r.2.i zeroT) r.1))) { r.2 with i := r.2.i + 1 }
   else run L n (.seq (F.app acc r.1)) r.2
 | n + 1, .thing, s =>
  let t := L.getD s.i zeroT
  if t.kind ≠ 10 then (F.one (leafL t nil3) .nil, { s with i := s.i + 1 })
  else if s.op = 40 then (zeroF, failS s 11 t.at_)
  else
   let s1 : Ps := { s with i := s.i + 1, op := s.op + 1 }
   let q := if t.n = 13 ∧ kindS L s1 = 10 then run L n .thing s1 else (.nil, s1)
   let r := run L n (.alt .nil) q.2
   if kindS L r.2 ≠ 8 then (zeroF, failS r.2 20 (-1))
   else (jf t q.1 r.1, zf t r.1 { r.2 with i := r.2.i + 1, op := r.2.op - 1 })
def parseP (L : List Tk) (n : Int) : R F :=
 let r := run L (3 * L.length + 3) (.alt .nil) { i := 0 }
 let s := if r.2.e = 0 ∧ r.2.i < L.length then failS r.2 31 (L.getD r.2.i zeroT).at_ else r.2
 if s.e = 20 then .error (20, n) else if s.e ≠ 0 then .error (s.e, s.at_) else .ok (oneF 13 r.1)
end rpp
end
section
namespace rsp
open sq
open Go tkp trp rpp setp setw
def setP (u : Bool) (m : Int) (l : List Rg) (cl neg : Bool) : List Rg :=
 let x := normR m l
 let y := if cl = true then normR m (caseM x u) else x
 if neg = true then notR m (normR m y) else y
def andI (f n : Int) : Int := bits BinOp.and .i64 f n
def turnI (f on off : Int) : Int := bits BinOp.andNot .i64 (bits BinOp.or .i64 f on) off
def bare (x : Lab) : Lab := { x with sv := nil3, kv := nil3 }
def setL (at_ : Int) (l : List Rg) : F := F.one { lab 2 at_ with set := l } .nil
def listF (x : Lab) (k : F) : F := if x.kind = 12 then k else F.one x k
def flatF : F → F
 | .nil => .nil
 | .cons x k r => F.app (listF x k) (flatF r)
def firstF : F → F
 | .nil => .nil
 | .cons x k _ => F.one x k
def lineF (m at_ : Int) : F :=
 F.one (lab 17 at_) (F.one (lab 13 at_) (F.app (F.one (lab 12 0) (F.app (setL at_ [(13, 13)]) (setL at_ [(10, 10)]))) (setL at_ (normR m [(10, 13), (133, 133), (8232, 8233)]))))
def assN (f n : Int) : Int := if andI f 2 ≠ 0 ∧ n = 1 then 9 else if andI f 2 ≠ 0 ∧ n = 2 then 10 else n
def repM (f k m : Int) : Int := if k = 20 ∧ andI f 16 ≠ 0 ∧ m = 0 then 1 else if k = 20 ∧ andI f 16 ≠ 0 ∧ m = 1 then 0 else m
def nodeP (u : Bool) (m : Int) (rk : Int → F × Int) (x : Lab) (k : F) (f : Int) : F × Int :=
 if x.kind = 1 then (setL x.at_ (setP u m [(x.c, x.c)] (decide (andI f 1 ≠ 0)) false), f)
 else if x.kind = 2 then (setL x.at_ (setP u m x.set (decide (andI f 1 ≠ 0)) x.neg), f)
 else if x.kind = 3 then (setL x.at_ (setP u m (if andI f 4 = 0 then [(10, 10)] else []) false true), f)
 else if x.kind = 4 then (F.one { bare x with n := assN f x.n } (strip k), f)
 else if x.kind = 6 then (lineF m x.at_, f)
 else if x.kind = 7 then (F.one { bare x with on := andI f 1 } (strip k), f)
 else if x.kind = 11 then (F.one (lab 12 0) .nil, turnI f x.on x.off)
 else if x.kind = 12 then (oneF 12 (flatF (rk f).1), (rk f).2)
 else if x.kind = 13 then (F.one (bare x) (rk f).1, (rk f).2)
 else if x.kind = 15 then (firstF (rk (turnI f x.on x.off)).1, f)
 else (F.one { bare x with mode := repM f x.kind x.mode } (rk f).1, f)
def rowP (u : Bool) (m : Int) : F → Int → F × Int
 | .nil, f => (.nil, f)
 | .cons x k r, f =>
  let t := nodeP u m (fun g => rowP u m k g) x k f
  let q := rowP u m r t.2
  (F.app t.1 q.1, q.2)
def resP (t : Nd) (o : Int) : F := (nodeP (decide (andI o 32 ≠ 0)) (if andI o 32 ≠ 0 then 1114111 else 255) (fun g => rowP (decide (andI o 32 ≠ 0)) (if andI o 32 ≠ 0 then 1114111 else 255) t.2 g) t.1 t.2 (andI o 23)).1
def OkF : F → Prop
 | .nil => True
 | .cons x k r => x.set.length ≤ 90000 ∧ (x.kind = 15 → k.len ≠ 0) ∧ OkF k ∧ OkF r
theorem okF_app : ∀ {f g : F}, OkF f → OkF g → OkF (F.app f g)
 | .nil, _, _, h => h
 | .cons _ _ _, _, h, k => ⟨h.1, h.2.1, h.2.2.1, okF_app h.2.2.2 k⟩
theorem okF_drop : ∀ {f : F} (i : Nat), OkF f → OkF (f.drop i)
 | .nil, i, h => by cases i <;> exact h
 | .cons _ _ r, 0, h => h
 | .cons _ _ r, i + 1, h => okF_drop (f := r) i h.2.2.2
theorem app_nil : ∀ f : F, F.app f .nil = f
 | .nil => rfl
 | .cons x k r => by rw [F.app, app_nil r]
theorem app_assoc : ∀ f g h : F, F.app (F.app f g) h = F.app f (F.app g h)
 | .nil, _, _ => rfl
 | .cons x k r, g, h => by rw [F.app, F.app, app_assoc r g h]; rfl
theorem app_size : ∀ f g : F, (F.app f g).size = f.size + g.size
 | .nil, g => by simp [F.app, F.size]
 | .cons x k r, g => by rw [F.app, F.size, F.size, app_size r g]; omega
theorem jd : ∀ f g : F, (F.app f g).len = f.len + g.len
 | .nil, g => by simp [F.app, F.len]
 | .cons x k r, g => by rw [F.app, F.len, F.len, jd r g]; omega
theorem strip_size : ∀ f : F, (strip f).size = f.size
 | .nil => rfl
 | .cons _ k r => by rw [strip, F.size, strip_size k, strip_size r, F.size]
theorem len_size : ∀ f : F, f.len ≤ f.size
 | .nil => xL _
 | .cons _ k r => by have := len_size r; simp only [F.len, F.size]; omega
theorem oneF_size (k : Int) : ∀ l : F, (oneF k l).size ≤ l.size + 1
 | .nil => by simp [oneF, F.size]
 | .cons x k .nil => by simp [oneF]
 | .cons x k (.cons _ _ _) => by simp only [oneF, F.size]; omega
theorem listF_size (x : Lab) (k : F) : (listF x k).size ≤ k.size + 1 := by
 unfold listF;split
 ·omega
 ·simp [F.one, F.size]
theorem flatF_size : ∀ f : F, (flatF f).size ≤ f.size
 | .nil => xL _
 | .cons x k r => by have a := flatF_size r;have b := listF_size x k;rw [flatF, app_size, F.size];omega
theorem firstF_size : ∀ f : F, (firstF f).size ≤ f.size
 | .nil => xL _
 | .cons x k r => by simp only [firstF, F.one, F.size]; omega
theorem line_size (m at_ : Int) : (lineF m at_).size = 6 := by simp [lineF, setL, F.one, F.size, F.app]
theorem node_size (u : Bool) (m : Int) (rk : Int → F × Int) (x : Lab) (k : F) (f : Int) (h : ∀ g, (rk g).1.size ≤ 6 * k.size) : (nodeP u m rk x k f).1.size ≤ 6 * k.size + 6 := by
 unfold nodeP
 repeat' split
 all_goals simp only [setL, F.one, F.size, line_size, strip_size]
 any_goals omega
 ·have a := oneF_size 12 (flatF (rk f).1);have b := flatF_size (rk f).1;have := h f;omega
 ·have := h f;omega
 ·have a := firstF_size (rk (turnI f x.on x.off)).1;have := h (turnI f x.on x.off);omega
 ·have := h f;omega
theorem row_size (u : Bool) (m : Int) : ∀ (l : F) (f : Int), (rowP u m l f).1.size ≤ 6 * l.size
 | .nil, f => by simp [rowP, F.size]
 | .cons x k r, f => by have a := node_size u m (fun g => rowP u m k g) x k f (fun g => row_size u m k g);have b := row_size u m r (nodeP u m (fun g => rowP u m k g) x k f).2;rw [rowP];simp only;rw [app_size, F.size];omega
end rsp
end
section
namespace rpp
open sq
open Go tkp trp
def rem (L : List Tk) (s : Ps) : Nat := if s.e ≠ 0 then 0 else L.length - s.i
structure Inv (L : List Tk) (s q : Ps) : Prop where
 i : s.i ≤ q.i
 n : q.i ≤ L.length
 op : q.op ≤ 40
 e : q.e = 0 → s.e = 0 ∧ q.op = s.op
 r : rem L q ≤ rem L s
theorem Inv.trans {L : List Tk} {a b c : Ps} (h : Inv L a b) (k : Inv L b c) : Inv L a c :=
 ⟨Nat.le_trans h.i k.i, k.n, k.op, fun e => ⟨(h.e (k.e e).1).1, (k.e e).2.trans (h.e (k.e e).1).2⟩, Nat.le_trans k.r h.r⟩
theorem Inv.refl {L : List Tk} {s : Ps} (h1 : s.i ≤ L.length) (h2 : s.op ≤ 40) : Inv L s s := ⟨xL _, h1, h2, fun e => ⟨e, rfl⟩, xL _⟩
theorem zW {L : List Tk} {s : Ps} (h : kindS L s ≠ 0) : s.e = 0 ∧ s.i < L.length ∧ ∃ t, L[s.i]? = some t ∧ kindS L s = t.kind := by
 unfold kindS at *;by_cases he : s.e ≠ 0
 ·rw [if_pos he] at h; exact absurd rfl h
 ·rw [if_neg he] at h ⊢;cases ht : L[s.i]? with
  | none => rw [ht] at h; exact absurd rfl h
  | some t => exact ⟨by simpa using he, (List.getElem?_eq_some_iff.1 ht).1, t, rfl, rfl⟩
theorem inv_fail {L : List Tk} {s : Ps} (h1 : s.i ≤ L.length) (h2 : s.op ≤ 40) {e a : Int} (he : e ≠ 0) : Inv L s (failS s e a) := by
 unfold failS;split
 ·rename_i h0;exact ⟨xL _, h1, h2, fun h => absurd h he, by unfold rem; simp [he]⟩
 ·exact Inv.refl h1 h2
theorem failS_e {s : Ps} {e a : Int} (he : e ≠ 0) : (failS s e a).e ≠ 0 := by
 unfold failS;split
 ·exact he
 ·rename_i h; exact h
theorem rem_ok {L : List Tk} {s : Ps} (h : s.e = 0) : rem L s = L.length - s.i := by unfold rem; rw [if_neg (by simp [h])]
theorem rem_err {L : List Tk} {s : Ps} (h : s.e ≠ 0) : rem L s = 0 := by unfold rem; rw [if_pos h]
theorem rem_le (L : List Tk) {s q : Ps} (h : q.e = 0 → s.e = 0) (hi : s.i ≤ q.i) : rem L q ≤ rem L s := by
 by_cases hq : q.e = 0
 ·rw [rem_ok hq, rem_ok (h hq)]; omega
 ·rw [rem_err hq]; omega
theorem inv_step {L : List Tk} {s : Ps} (h : s.i < L.length) (h2 : s.op ≤ 40) : Inv L s { s with i := s.i + 1 } := by exact ⟨Nat.le_succ _, h, h2, fun e => ⟨e, rfl⟩, rem_le L (fun e => e) (Nat.le_succ _)⟩
theorem rem_lt {L : List Tk} {s q : Ps} (h0 : s.e = 0) (h : s.i < L.length) (hq : q.e ≠ 0 ∨ s.i < q.i) : rem L q < rem L s := by
 rw [rem_ok h0];by_cases hz : q.e = 0
 ·rw [rem_ok hz];rcases hq with hq | hq
  ·exact absurd hz hq
  ·omega
 ·rw [rem_err hz]; omega
theorem zq (L : List Tk) : ∀ (n : Nat) (md : Md) (s : Ps), s.i ≤ L.length → s.op ≤ 40 → (md = .thing → s.e = 0 ∧ s.i < L.length) →
 Inv L s (run L n md s).2 ∧ (md = .thing → n ≠ 0 → (run L n md s).2.e ≠ 0 ∨ s.i < (run L n md s).2.i)
 | 0, _, s, h1, h2, _ => ⟨Inv.refl h1 h2, fun _ h => absurd rfl h⟩
 | n + 1, .alt acc, s, h1, h2, _ => by
  refine ⟨?_, fun h => by cases h⟩;have a := (zq L n (.seq .nil) s h1 h2 (fun h => by cases h)).1;rw [run];simp only;generalize run L n (.seq .nil) s = r at *;split
  ·rename_i hk;obtain ⟨_, hi, _⟩ := zW (L := L) (s := r.2) (by rw [hk]; decide);have b := inv_step hi a.op;exact a.trans (b.trans (zq L n _ _ b.n b.op (fun h => by cases h)).1)
  ·exact a
 | n + 1, .seq acc, s, h1, h2, _ => by
  refine ⟨?_, fun h => by cases h⟩;rw [run];split
  ·exact Inv.refl h1 h2
  ·rename_i hk0;split
   ·exact inv_fail h1 h2 (by decide)
   ·obtain ⟨he, hi, _⟩ := zW (L := L) (s := s) (fun e => hk0 (Or.inl e));have a := (zq L n .thing s h1 h2 (fun _ => ⟨he, hi⟩)).1;simp only;generalize run L n .thing s = r at *;split
    ·rename_i hq;obtain ⟨_, hi2, _⟩ := zW (L := L) (s := r.2) (by rw [hq.1]; decide);have b := inv_step hi2 a.op;exact a.trans (b.trans (zq L n _ _ b.n b.op (fun h => by cases h)).1)
    ·exact a.trans (zq L n _ _ a.n a.op (fun h => by cases h)).1
 | n + 1, .thing, s, h1, h2, h3 => by
  obtain ⟨he, hi⟩ := h3 rfl;have key : Inv L s (run L (n + 1) .thing s).2 ∧ ((run L (n + 1) .thing s).2.e ≠ 0 ∨ s.i < (run L (n + 1) .thing s).2.i) := by
   rw [run];simp only;split
   ·exact ⟨inv_step hi h2, Or.inr (Nat.lt_succ_self _)⟩
   ·split
    ·exact ⟨inv_fail h1 h2 (by decide), Or.inl (failS_e (by decide))⟩
    ·rename_i h40;have g0 : (⟨s.i + 1, s.op + 1, s.e, s.at_⟩ : Ps).i ≤ L.length := hi;have g1 : (⟨s.i + 1, s.op + 1, s.e, s.at_⟩ : Ps).op ≤ 40 := by simp only; omega
     have a : Inv L ⟨s.i + 1, s.op + 1, s.e, s.at_⟩ (if (L.getD s.i zeroT).n = 13 ∧ kindS L ⟨s.i + 1, s.op + 1, s.e, s.at_⟩ = 10 then run L n .thing ⟨s.i + 1, s.op + 1, s.e, s.at_⟩ else (.nil, ⟨s.i + 1, s.op + 1, s.e, s.at_⟩)).2 := by
      split
      ·rename_i hk;obtain ⟨k1, k2, _⟩ := zW (L := L) (s := ⟨s.i + 1, s.op + 1, s.e, s.at_⟩) (by rw [hk.2]; decide);exact (zq L n .thing _ g0 g1 (fun _ => ⟨k1, k2⟩)).1
      ·exact Inv.refl g0 g1
     generalize (if (L.getD s.i zeroT).n = 13 ∧ kindS L ⟨s.i + 1, s.op + 1, s.e, s.at_⟩ = 10 then run L n .thing ⟨s.i + 1, s.op + 1, s.e, s.at_⟩ else (.nil, ⟨s.i + 1, s.op + 1, s.e, s.at_⟩)) = q at *;have b := a.trans (zq L n (.alt .nil) q.2 a.n a.op (fun h => by cases h)).1;generalize run L n (.alt .nil) q.2 = r at *;have bi : s.i + 1 ≤ r.2.i := b.i;have rs : ∀ {x : Ps}, rem L x ≤ rem L ⟨s.i + 1, s.op + 1, s.e, s.at_⟩ → rem L x ≤ rem L s := fun {x} h => by have : rem L ⟨s.i + 1, s.op + 1, s.e, s.at_⟩ ≤ rem L s := rem_le L (fun e => e) (Nat.le_succ _);omega
     split
     ·have f := inv_fail (L := L) (s := r.2) b.n b.op (e := 20) (a := -1) (by decide);exact ⟨⟨Nat.le_trans (by omega) f.i, f.n, f.op, fun e => absurd e (failS_e (by decide)), rs (Nat.le_trans f.r b.r)⟩, Or.inl (failS_e (by decide))⟩
     ·rename_i hk;obtain ⟨k1, k2, _⟩ := zW (L := L) (s := r.2) (by
       intro e;apply hk;rw [e];decide)
      have hop : r.2.op = s.op + 1 := (b.e k1).2;have c : Inv L s ⟨r.2.i + 1, r.2.op - 1, r.2.e, r.2.at_⟩ := ⟨by show s.i ≤ r.2.i + 1; omega, k2, by show r.2.op - 1 ≤ 40; omega, fun _ => ⟨he, by show r.2.op - 1 = s.op; omega⟩, rem_le L (fun _ => he) (by show s.i ≤ r.2.i + 1; omega)⟩;unfold zf;split
      ·exact ⟨c.trans (inv_fail c.n c.op (by decide)), Or.inl (failS_e (by decide))⟩
      ·exact ⟨c, Or.inr (by show s.i < r.2.i + 1; omega)⟩
  exact ⟨key.1, fun _ _ => key.2⟩
theorem run_rem {L : List Tk} {n : Nat} {s : Ps} (hn : n ≠ 0) (h2 : s.op ≤ 40) (he : s.e = 0) (hi : s.i < L.length) : rem L (run L n .thing s).2 < rem L s :=
 rem_lt he hi ((zq L n .thing s (by omega) h2 (fun _ => ⟨he, hi⟩)).2 rfl hn)
end rpp
end
section
namespace rsp
open sq
open Go tkp trp rpp
theorem okF_one {x : Lab} {k : F} (h1 : x.set.length ≤ 90000) (h2 : x.kind = 15 → k.len ≠ 0) (h3 : OkF k) : OkF (F.one x k) := ⟨h1, h2, h3, trivial⟩
theorem okF_oneF {kind : Int} (hk : kind ≠ 15) : ∀ {l : F}, OkF l → OkF (oneF kind l)
 | .nil, _ => ⟨by simp [lab], fun h => absurd h hk, trivial, trivial⟩
 | .cons x k .nil, h => h
 | .cons x k (.cons y j r), h => ⟨by simp [lab], fun e => absurd e hk, h, trivial⟩
theorem oneF_len (kind : Int) : ∀ l : F, (oneF kind l).len = 1
 | .nil => rfl
 | .cons _ _ .nil => rfl
 | .cons _ _ (.cons _ _ _) => rfl
theorem getD_set {L : List Tk} (hL : ∀ t ∈ L, t.set.length ≤ 90000) (i : Nat) : (L.getD i zeroT).set.length ≤ 90000 := by
 rw [List.getD_eq_getElem?_getD];cases h : L[i]? with
 | none => simp [zeroT]
 | some t => exact hL t (List.mem_of_getElem? h)
theorem leafK_ne (k : Int) : leafK k ≠ 15 := by
 unfold leafK
 repeat' (first | omega | split)
theorem okF_group {t : Tk} {look l : F} (h1 : OkF look) (h2 : OkF l) : OkF (jf t look l) := by
 have ho := okF_oneF (kind := 13) (by decide) h2;have hl := oneF_len 13 l;unfold jf
 repeat' split
 ·exact okF_one (by simp [lab]) (fun e => by rw [hl]; decide) ho
 ·exact okF_one (by simp [lab]) (fun e => by rw [hl]; decide) ho
 ·exact okF_one (by simp [lab]) (fun e => by rw [hl]; decide) ho
 ·exact okF_one (by simp [lab]) (fun e => by rw [hl]; decide) ho
 ·exact okF_one (by simp [lab]) (fun e => by simp [lab] at e) h2
 ·exact okF_one (by simp [lab]) (fun e => by simp [lab] at e) (okF_app h1 h2)
theorem okF_zero : OkF zeroF := okF_one (by simp [lab]) (fun e => by simp [lab] at e) trivial
def accOk : Md → Prop
 | .alt acc => OkF acc
 | .seq acc => OkF acc
 | .thing => True
theorem run_okF {L : List Tk} (hL : ∀ t ∈ L, t.set.length ≤ 90000) : ∀ (n : Nat) (md : Md) (s : Ps), accOk md → OkF (run L n md s).1
 | 0, _, _, _ => trivial
 | n + 1, .alt acc, s, h => by
  have a := run_okF hL n (.seq .nil) s trivial;rw [run];simp only;split
  ·exact run_okF hL n (.alt _) _ (okF_app h a)
  ·exact okF_app h a
 | n + 1, .seq acc, s, h => by
  rw [run];split
  ·exact okF_oneF (by decide) h
  ·split
   ·exact okF_zero
   ·have a := run_okF hL n .thing s trivial;simp only;split
    ·exact run_okF hL n (.seq _) _ (okF_app h (okF_one (by simp [lab]) (fun e => by simp [lab] at e) a))
    ·exact run_okF hL n (.seq _) _ (okF_app h a)
 | n + 1, .thing, s, _ => by
  rw [run];simp only;split
  ·exact okF_one (getD_set hL s.i) (fun e => absurd e (leafK_ne _)) trivial
  ·split
   ·exact okF_zero
   ·have hq : OkF (if (L.getD s.i zeroT).n = 13 ∧ kindS L ⟨s.i + 1, s.op + 1, s.e, s.at_⟩ = 10 then run L n .thing ⟨s.i + 1, s.op + 1, s.e, s.at_⟩ else (.nil, ⟨s.i + 1, s.op + 1, s.e, s.at_⟩)).1 := by
     split
     ·exact run_okF hL n .thing _ trivial
     ·trivial
    generalize (if (L.getD s.i zeroT).n = 13 ∧ kindS L ⟨s.i + 1, s.op + 1, s.e, s.at_⟩ = 10 then run L n .thing ⟨s.i + 1, s.op + 1, s.e, s.at_⟩ else (.nil, ⟨s.i + 1, s.op + 1, s.e, s.at_⟩)) = q at *;split
    ·exact okF_zero
    ·exact okF_group hq (run_okF hL n (.alt .nil) _ trivial)
theorem group_size (t : Tk) (look l : F) : (jf t look l).size ≤ look.size + l.size + 2 := by
 have := oneF_size 13 l;unfold jf
 repeat' split
 all_goals simp only [F.one, F.size, app_size]
 all_goals omega
theorem groupS_i (t : Tk) (l : F) (s : Ps) : (zf t l s).i = s.i := by
 unfold zf;split
 ·unfold failS; split <;> rfl
 ·rfl
theorem failS_i2 (s : Ps) (e a : Int) : (failS s e a).i = s.i := by unfold failS; split <;> rfl
def SzOk (md : Md) (s : Ps) (r : F × Ps) : Prop := s.i ≤ r.2.i ∧ match md with
 | .alt acc => r.1.size ≤ acc.size + 6 * (r.2.i - s.i) + 2
 | .seq acc => r.1.size ≤ acc.size + 6 * (r.2.i - s.i) + 2 ∧ (s.e ≠ 0 → r.1.size ≤ acc.size + 1 ∧ r.2.i = s.i)
 | .thing => (s.i < r.2.i ∧ r.1.size + 2 ≤ 6 * (r.2.i - s.i)) ∨ (r.2.i = s.i ∧ r.1.size ≤ 1 ∧ (r.2.e ≠ 0 ∨ r.1.size = 0))
theorem kindS_err {L : List Tk} {s : Ps} (h : s.e ≠ 0) : kindS L s = 0 := by unfold kindS; rw [if_pos h]
theorem run_size (L : List Tk) : ∀ (n : Nat) (md : Md) (s : Ps), SzOk md s (run L n md s)
 | 0, .alt acc, s => ⟨xL _, by simp only [run, F.size]; omega⟩
 | 0, .seq acc, s => ⟨xL _, by simp only [run, F.size]; omega, fun _ => ⟨by simp only [run, F.size]; omega, rfl⟩⟩
 | 0, .thing, s => ⟨xL _, Or.inr ⟨rfl, by simp [run, F.size], Or.inr (by simp [run, F.size])⟩⟩
 | n + 1, .alt acc, s => by
  obtain ⟨a1, a2, _⟩ := run_size L n (.seq .nil) s;rw [run];simp only;generalize run L n (.seq .nil) s = r at *;simp only [F.size] at a2;split
  ·obtain ⟨b1, b2⟩ := run_size L n (.alt (F.app acc r.1)) { r.2 with i := r.2.i + 1 };generalize run L n (.alt (F.app acc r.1)) { r.2 with i := r.2.i + 1 } = q at *;simp only [app_size] at b1 b2;exact ⟨by show s.i ≤ q.2.i; omega, by show q.1.size ≤ _; omega⟩
  ·exact ⟨a1, by show (F.app acc r.1).size ≤ acc.size + 6 * (r.2.i - s.i) + 2; rw [app_size]; omega⟩
 | n + 1, .seq acc, s => by
  rw [run];split
  ·have := oneF_size 12 acc;exact ⟨xL _, by show (oneF 12 acc).size ≤ acc.size + 6 * (s.i - s.i) + 2; omega, fun _ => ⟨this, rfl⟩⟩
  ·rename_i hk;have he : s.e = 0 := by apply dC;intro he;exact hk (Or.inl (kindS_err he))
   split
   ·refine ⟨by show s.i ≤ (failS s 30 _).i; rw [failS_i2]; exact xL _, ?_, fun h => absurd he h⟩;simp only [zeroF, F.one, F.size];omega
   ·have a := run_size L n .thing s;simp only;generalize run L n .thing s = r at *;obtain ⟨a1, a2⟩ := a;split
    ·rename_i hq;have hre : r.2.e = 0 := by apply dC;intro h;rw [kindS_err h] at hq;exact absurd hq.1 (by decide)
     obtain ⟨b1, b2, _⟩ := run_size L n (.seq (F.app acc (repF (L.getD r.2.i zeroT) r.1))) { r.2 with i := r.2.i + 1 };generalize run L n (.seq (F.app acc (repF (L.getD r.2.i zeroT) r.1))) { r.2 with i := r.2.i + 1 } = q at *;simp only [app_size, repF, F.one, F.size] at b1 b2;refine ⟨by show s.i ≤ q.2.i; omega, ?_, fun h => absurd he h⟩;show q.1.size ≤ _;rcases a2 with ⟨c1, c2⟩ | ⟨c1, c2, _⟩ <;> omega
    ·obtain ⟨b1, b2, b3⟩ := run_size L n (.seq (F.app acc r.1)) r.2;generalize run L n (.seq (F.app acc r.1)) r.2 = q at *;simp only [app_size] at b1 b2 b3;refine ⟨by show s.i ≤ q.2.i; omega, ?_, fun h => absurd he h⟩;show q.1.size ≤ _;rcases a2 with ⟨c1, c2⟩ | ⟨c1, c2, c3 | c3⟩
     ·omega
     ·have := b3 c3;omega
     ·omega
 | n + 1, .thing, s => by
  rw [run];simp only;split
  ·exact ⟨Nat.le_succ _, Or.inl ⟨Nat.lt_succ_self _, by show (F.one _ _).size + 2 ≤ 6 * (s.i + 1 - s.i); simp only [F.one, F.size]; omega⟩⟩
  ·split
   ·exact ⟨by show s.i ≤ (failS s 11 _).i; rw [failS_i2]; exact xL _, Or.inr ⟨failS_i2 _ _ _, by simp [zeroF, F.one, F.size], Or.inl (failS_e (by decide))⟩⟩
   ·have hq : s.i + 1 ≤ (if (L.getD s.i zeroT).n = 13 ∧ kindS L ⟨s.i + 1, s.op + 1, s.e, s.at_⟩ = 10 then run L n .thing ⟨s.i + 1, s.op + 1, s.e, s.at_⟩ else (.nil, ⟨s.i + 1, s.op + 1, s.e, s.at_⟩)).2.i ∧
     (if (L.getD s.i zeroT).n = 13 ∧ kindS L ⟨s.i + 1, s.op + 1, s.e, s.at_⟩ = 10 then run L n .thing ⟨s.i + 1, s.op + 1, s.e, s.at_⟩ else (.nil, ⟨s.i + 1, s.op + 1, s.e, s.at_⟩)).1.size ≤ 6 * ((if (L.getD s.i zeroT).n = 13 ∧ kindS L ⟨s.i + 1, s.op + 1, s.e, s.at_⟩ = 10 then run L n .thing ⟨s.i + 1, s.op + 1, s.e, s.at_⟩ else (.nil, ⟨s.i + 1, s.op + 1, s.e, s.at_⟩)).2.i - (s.i + 1)) + 1 := by
     split
     ·obtain ⟨a1, a2⟩ := run_size L n .thing ⟨s.i + 1, s.op + 1, s.e, s.at_⟩;generalize run L n .thing ⟨s.i + 1, s.op + 1, s.e, s.at_⟩ = r at *;simp only at a1 a2;rcases a2 with ⟨c1, c2⟩ | ⟨c1, c2, _⟩ <;> omega
     ·exact ⟨xL _, by simp [F.size]⟩
    generalize (if (L.getD s.i zeroT).n = 13 ∧ kindS L ⟨s.i + 1, s.op + 1, s.e, s.at_⟩ = 10 then run L n .thing ⟨s.i + 1, s.op + 1, s.e, s.at_⟩ else (.nil, ⟨s.i + 1, s.op + 1, s.e, s.at_⟩)) = q at *;obtain ⟨a1, a2⟩ := run_size L n (.alt .nil) q.2;generalize run L n (.alt .nil) q.2 = r at *;simp only [F.size] at a2;obtain ⟨q1, q2⟩ := hq;split
    ·refine ⟨by show s.i ≤ (failS r.2 20 _).i; rw [failS_i2]; omega, Or.inl ⟨by show s.i < (failS r.2 20 _).i; rw [failS_i2]; omega, ?_⟩⟩;show zeroF.size + 2 ≤ 6 * ((failS r.2 20 _).i - s.i);rw [failS_i2];simp only [zeroF, F.one, F.size];omega
    ·have g := group_size (L.getD s.i zeroT) q.1 r.1;refine ⟨by show s.i ≤ (zf _ _ _).i; rw [groupS_i]; show s.i ≤ r.2.i + 1; omega, Or.inl ⟨by show s.i < (zf _ _ _).i; rw [groupS_i]; show s.i < r.2.i + 1; omega, ?_⟩⟩;show (jf _ _ _).size + 2 ≤ 6 * ((zf _ _ _).i - s.i);rw [groupS_i];show (jf _ _ _).size + 2 ≤ 6 * (r.2.i + 1 - s.i);omega
theorem zU {L : List Tk} {n : Int} {f : F} (hL : ∀ t ∈ L, t.set.length ≤ 90000) (h : parseP L n = .ok f) : OkF f ∧ f.size ≤ 6 * L.length + 3 ∧ ∃ x k, f = F.one x k := by
 have a := run_okF hL (3 * L.length + 3) (.alt .nil) { i := 0 } trivial;obtain ⟨b1, b2⟩ := run_size L (3 * L.length + 3) (.alt .nil) { i := 0 };have c := (zq L (3 * L.length + 3) (.alt .nil) { i := 0 } (Nat.zero_le _) (Nat.zero_le _) (fun h => by cases h)).1.n;unfold parseP at h;generalize run L (3 * L.length + 3) (.alt .nil) { i := 0 } = r at *;simp only at h;generalize (if r.2.e = 0 ∧ r.2.i < L.length then failS r.2 31 (L.getD r.2.i zeroT).at_ else r.2) = s at h;split at h
 ·cases h
 ·split at h
  ·cases h
  ·cases h;have d := oneF_size 13 r.1;simp only [F.size] at b2;refine ⟨okF_oneF (by decide) a, by omega, ?_⟩
   match r.1 with
   | .nil => exact ⟨_, _, rfl⟩
   | .cons x k .nil => exact ⟨x, k, rfl⟩
   | .cons _ _ (.cons _ _ _) => exact ⟨_, _, rfl⟩
end rsp
end
section
namespace trw
open sq
open Go Go.RowKit trp
theorem cell_lt {w : World} {a : Addr} {v : Value} (h : w.cell? a = some v) : a.block < w.heap.size := by exact z125
theorem qf {w w' : World} (h : Below w.heap.size w w') {a : Addr} {v : Value} (hc : w.cell? a = some v) : w'.cell? a = some v := by rw [h.cell (cell_lt hc)]; exact hc
theorem qi {a b c : World} (h : Below a.heap.size a b) (k : Below b.heap.size b c) : Below a.heap.size a c := h.trans (k.mono h.size)
theorem qL (w : World) : Below w.heap.size w w.drew := ⟨rfl, rfl, rfl, xL _, fun _ _ => rfl⟩
theorem qg (w : World) (o : Obj) : Below w.heap.size w (w.alloc o) := (Below.refl _ _).alloc (xL _) o
def BoolB (r : Bool) (w : World) (e : Ending) (w' : World) : Prop := e = .returned (.bool r) ∧ Below w.heap.size w w'
def IntB (r : Int) (w : World) (e : Ending) (w' : World) : Prop := e = .returned (.int .i64 r) ∧ Below w.heap.size w w'
def ndC (x : Lab) : List Value := [.int .i64 x.kind, .int .i64 x.at_, .int .i64 x.c, x.sv, .bool x.neg, .int .i64 x.n, .int .i64 x.m, .int .i64 x.mode, .string x.name, .int .i64 x.on, .int .i64 x.off, x.kv]
def ndV (x : Lab) : Value := .agg #[.int .i64 x.kind, .int .i64 x.at_, .int .i64 x.c, x.sv, .bool x.neg, .int .i64 x.n, .int .i64 x.m, .int .i64 x.mode, .string x.name, .int .i64 x.on, .int .i64 x.off, x.kv]
def I64 (n : Int) : Prop := -9223372036854775808 ≤ n ∧ n ≤ 9223372036854775807
def RgAt (w : World) (v : Value) (l : List (Int × Int)) : Prop :=
 ∃ a cap, v = .slice a l.length cap ∧ l.length ≤ cap ∧ cap ≤ 9223372036854775807 ∧ (l = [] ∨ ∃ b o, a = some ⟨b, o, none⟩ ∧
  ∀ i r, l[i]? = some r → w.cell? ⟨b, o + i * 2, none⟩ = some (.int .i64 r.1) ∧ w.cell? ⟨b, o + i * 2 + 1, none⟩ = some (.int .i64 r.2) ∧ I64 r.1 ∧ I64 r.2)
def LabOk (x : Lab) : Prop := I64 x.kind ∧ I64 x.at_ ∧ I64 x.c ∧ I64 x.n ∧ I64 x.m ∧ I64 x.mode ∧ I64 x.on ∧ I64 x.off
def FAt (w : World) : Nat → Nat → F → Prop
 | _, _, .nil => True
 | b, o, .cons x k r => (∀ j v, (ndC x)[j]? = some v → w.cell? ⟨b, o + j, none⟩ = some v) ∧ (LabOk x ∧ RgAt w x.sv x.set) ∧
  (∃ a cap, x.kv = .slice a k.len cap ∧ k.len ≤ cap ∧ cap ≤ 9223372036854775807 ∧ (k.len = 0 ∨ ∃ b' o', a = some ⟨b', o', none⟩ ∧ FAt w b' o' k)) ∧ FAt w b (o + 12) r
def jr (w : World) (v : Value) (k : F) : Prop :=
 ∃ a cap, v = .slice a k.len cap ∧ k.len ≤ cap ∧ cap ≤ 9223372036854775807 ∧ (k.len = 0 ∨ ∃ b o, a = some ⟨b, o, none⟩ ∧ FAt w b o k)
def NdAt (w : World) (t : Nd) : Prop := LabOk t.1 ∧ RgAt w t.1.sv t.1.set ∧ jr w t.1.kv t.2
theorem rgAt_mono {w w' : World} (h : ∀ a v, w.cell? a = some v → w'.cell? a = some v) {v : Value} {l : List (Int × Int)} (hr : RgAt w v l) : RgAt w' v l := by
 obtain ⟨a, cap, h1, h2, h3, h4 | ⟨b, o, h4, h5⟩⟩ := hr
 ·exact ⟨a, cap, h1, h2, h3, Or.inl h4⟩
 ·exact ⟨a, cap, h1, h2, h3, Or.inr ⟨b, o, h4, fun i r hi => ⟨h _ _ (h5 i r hi).1, h _ _ (h5 i r hi).2.1, (h5 i r hi).2.2⟩⟩⟩
theorem fAt_mono {w w' : World} (h : ∀ a v, w.cell? a = some v → w'.cell? a = some v) : ∀ {f : F} {b o : Nat}, FAt w b o f → FAt w' b o f
 | .nil, _, _, _ => trivial
 | .cons x k r, b, o, ⟨h1, h2, ⟨a, cap, h3, h4, h5, h6⟩, h7⟩ => by
  refine ⟨fun j v hj => h _ _ (h1 j v hj), ⟨h2.1, rgAt_mono h h2.2⟩, ⟨a, cap, h3, h4, h5, ?_⟩, fAt_mono h h7⟩;rcases h6 with h6 | ⟨b', o', h6, h8⟩
  ·exact Or.inl h6
  ·exact Or.inr ⟨b', o', h6, fAt_mono h h8⟩
theorem jh {w w' : World} (h : ∀ a v, w.cell? a = some v → w'.cell? a = some v) {v : Value} {k : F} (hk : jr w v k) : jr w' v k := by
 obtain ⟨a, cap, h1, h2, h3, h4 | ⟨b, o, h4, h5⟩⟩ := hk
 ·exact ⟨a, cap, h1, h2, h3, Or.inl h4⟩
 ·exact ⟨a, cap, h1, h2, h3, Or.inr ⟨b, o, h4, fAt_mono h h5⟩⟩
theorem qY {w w' : World} (h : ∀ a v, w.cell? a = some v → w'.cell? a = some v) {t : Nd} (hn : NdAt w t) : NdAt w' t := ⟨hn.1, rgAt_mono h hn.2.1, jh h hn.2.2⟩
theorem below_kids {w w' : World} (h : Below w.heap.size w w') {v : Value} {k : F} (hk : jr w v k) : jr w' v k := jh (fun _ _ hc => qf h hc) hk
theorem vO {w w' : World} (h : Below w.heap.size w w') {t : Nd} (hn : NdAt w t) : NdAt w' t := qY (fun _ _ hc => qf h hc) hn
theorem fAt_head {w : World} {b o : Nat} {x : Lab} {k r : F} (h : FAt w b o (.cons x k r)) : NdAt w (x, k) := ⟨h.2.1.1, h.2.1.2, h.2.2.1⟩
theorem fAt_tail {w : World} {b o : Nat} {x : Lab} {k r : F} (h : FAt w b o (.cons x k r)) : FAt w b (o + 12) r := h.2.2.2
theorem fAt_drop {w : World} : ∀ {f : F} {b o : Nat} (i : Nat), FAt w b o f → FAt w b (o + i * 12) (f.drop i)
 | .nil, b, o, i, h => by cases i <;> exact trivial
 | .cons x k r, b, o, 0, h => h
 | .cons x k r, b, o, i + 1, h => by have := fAt_drop (f := r) (b := b) (o := o + 12) i h.2.2.2;rwa [show o + 12 + i * 12 = o + (i + 1) * 12 by omega] at this
theorem drop_len : ∀ (f : F) (i : Nat), (f.drop i).len = f.len - i
 | .nil, 0 => rfl
 | .nil, i + 1 => by simp [F.drop, F.len]
 | .cons _ _ r, 0 => rfl
 | .cons _ _ r, i + 1 => by show (r.drop i).len = _;rw [drop_len r i];show r.len - i = r.len + 1 - (i + 1);omega
theorem drop_succ : ∀ {f : F} {i : Nat} {x : Lab} {k r : F}, f.drop i = .cons x k r → f.drop (i + 1) = r
 | .nil, 0, _, _, _, h => by cases h
 | .nil, i + 1, _, _, _, h => by cases h
 | .cons _ _ r', 0, _, _, _, h => by cases h; cases r' <;> rfl
 | .cons _ _ r', i + 1, _, _, _, h => drop_succ (f := r') (i := i) h
theorem drop_lt {f : F} {i : Nat} (h : i < f.len) : ∃ x k r, f.drop i = .cons x k r := by
 cases hf : f.drop i with
 | nil =>
  have := drop_len f i;rw [hf] at this;simp [F.len] at this;omega
 | cons x k r => exact ⟨x, k, r, rfl⟩
section
variable {P : Program}
theorem run_loadVar_at (w : World) (a : Addr) (ty : TypeId) (cs : List Value) (d : TypeDesc) (hc : ∀ j v, cs[j]? = some v → w.cell? (a.add j) = some v)
 (hu : P.underlying ty = some d) (hd : (match d with | .struct _ | .array _ _ => true | _ => false) = true) (hi : (P.info? ty).map (·.size) = some cs.length) :
 (loadVar ty a).run P w = .ok (.agg cs.toArray) w := by
 have hl : (loadCells a cs.length).run P w = .ok cs.toArray w := run_loadCells_list (P := P) w a cs hc;cases hq : P.info? ty with
 | none => simp [hq] at hi
 | some i =>
  have hs : i.size = cs.length := by simpa [hq] using hi
  have hagg : (isAgg ty).run P w = .ok true w := by unfold isAgg;rw [Sem.run_bind, run_underlying hu w];cases d <;> simp_all
  simp [loadVar, Sem.run_bind, hagg, sizeOf, typeInfo, hq, hs, hl]
theorem wpList_load_at {ops : Array Oper} {rest : List Oper} {o : Oper} {a : Act} {w : World} {Q : Exit → Act → World → Prop} (hgd : o.guard = none) (ty : TypeId) (x : Operand) (ho : o.op = .load ty x)
 (ad : Addr) (hx : a.eval x = .pointer (some ad)) (cs : List Value) (d : TypeDesc) (hc : ∀ j v, cs[j]? = some v → w.cell? (ad.add j) = some v)
 (hu : P.underlying ty = some d) (hd : (match d with | .struct _ | .array _ _ => true | _ => false) = true) (hi : (P.info? ty).map (·.size) = some cs.length)
 (h : wpList P ops Q rest (a.put o.dst (.agg cs.toArray)) w) : wpList P ops Q (o :: rest) a w :=
 wpList_plain hgd fun K hK => by unfold Oper.wp execOp;simp only [ho, hx, Instr.loadAt, Instr.sureAddr, Sem.run_bind, Sem.run_pure, Result.andThen_ok, run_loadVar_at w ad ty cs d hc hu hd hi];exact hK _ _ h
end
theorem ndInfo : (Try.prog.info? 27).map (·.size) = some 12 := by kernel_rfl
theorem add_plain (b o j : Nat) : (⟨b, o, none⟩ : Addr).add j = ⟨b, o + j, none⟩ := by unfold Addr.add; split <;> simp_all
theorem jv {ops : Array Oper} {rest : List Oper} {o : Oper} {a : Act} {w : World} {Q : Exit → Act → World → Prop} (hgd : o.guard = none) (x : Operand) (ho : o.op = .load 27 x)
 (b off : Nat) (hx : a.eval x = .pointer (some ⟨b, off, none⟩)) (l : Lab) (hc : ∀ j v, (ndC l)[j]? = some v → w.cell? ⟨b, off + j, none⟩ = some v)
 (h : wpList Try.prog ops Q rest (a.put o.dst (ndV l)) w) : wpList Try.prog ops Q (o :: rest) a w :=
 wpList_load_at hgd 27 x ho ⟨b, off, none⟩ hx (ndC l) _ (fun j v hj => by rw [add_plain]; exact hc j v hj) Try.underlying27 rfl (by rw [ndInfo]; rfl) h
theorem run_load_nd (w : World) (b off : Nat) (l : Lab) (hc : ∀ j v, (ndC l)[j]? = some v → w.cell? ⟨b, off + j, none⟩ = some v) : (loadVar 27 ⟨b, off, none⟩).run Try.prog w = .ok (ndV l) w :=
 run_loadVar_at w ⟨b, off, none⟩ 27 (ndC l) _ (fun j v hj => by rw [add_plain]; exact hc j v hj) Try.underlying27 rfl (by rw [ndInfo]; rfl)
theorem kids_len {w : World} {v : Value} {k : F} (h : jr w v k) : ∃ a cap, v = .slice a k.len cap := by obtain ⟨a, cap, h, _⟩ := h;exact ⟨a, cap, h⟩
theorem size_lt {f : F} {i : Nat} {x : Lab} {k r : F} (h : f.drop i = .cons x k r) : k.size < f.size := by
 induction f generalizing i with
 | nil => cases i <;> cases h
 | cons y k' r' _ ih =>
  cases i with
  | zero => cases h; simp only [F.size]; omega
  | succ i =>
   have := ih (i := i) h;simp only [F.size];omega
theorem drop_zero (f : F) : f.drop 0 = f := by cases f <;> rfl
theorem drop_end {f : F} {i : Nat} (h : f.len ≤ i) : f.drop i = .nil := by
 cases hf : f.drop i with
 | nil => rfl
 | cons x k r =>
  have := drop_len f i;rw [hf] at this;simp only [F.len] at this;omega
theorem kid_at {w : World} {v : Value} {f : F} (h : jr w v f) {i : Nat} {x : Lab} {k r : F} (hd : f.drop i = .cons x k r) : ∃ b o cap, v = .slice (some ⟨b, o, none⟩) f.len cap ∧ f.len ≤ cap ∧ cap ≤ 9223372036854775807 ∧ i < f.len ∧ FAt w b (o + i * 12) (.cons x k r) := by
 have hl := drop_len f i;rw [hd] at hl;simp only [F.len] at hl;obtain ⟨a, cap, h1, h2, h3, h4 | ⟨b, o, rfl, h5⟩⟩ := h
 ·omega
 ·have := fAt_drop i h5;rw [hd] at this;exact ⟨b, o, cap, h1, h2, h3, by omega, this⟩
theorem add_row (b o i s : Nat) : (⟨b, o, none⟩ : Addr).add (i * s) = ⟨b, o + i * s, none⟩ := by unfold Addr.add; split <;> simp_all
structure Fr where
 kv : Value
 f : F
 i : Nat
structure Lk (S : Type) where
 P : List (Nd × List Nat)
 g : Nat
 lb : Array Value
 ans : Nat → Bool
 Inv : Nat → S → World → Prop
 Own : S → Nat → Prop
structure Chg {S : Type} (Own : S → Nat → Prop) (s s' : S) (w w' : World) : Prop where
 os : w'.os = w.os
 tape : w'.tape = w.tape
 output : w'.output = w.output
 size : w.heap.size ≤ w'.heap.size
 block : ∀ k, k < w.heap.size → ¬ Own s k → w'.heap[k]? = w.heap[k]?
 own : ∀ k, k < w.heap.size → Own s' k → Own s k
theorem jJ {w w' : World} {base : Nat} {e : TypeId} {size : Nat} {v : Value} {n : Nat} {xs : List Value} (h : w.ownsRow base e size v n xs) (hb : ∀ k, v.ownBlock = some k → w'.heap[k]? = w.heap[k]?) : w'.ownsRow base e size v n xs := by exact z108
section
variable {S : Type} {w0 w wr : World} {L : Lk S} {s0 s : S} {N1 j : Nat} {fs lo : List Fr} {X : Fr} {rv av : Value}
end
end trw
end
section
namespace trw
open sq
open Go.Sort Go Go.RowKit trp
theorem jT {o : Oper} {ρ : Operand → Value} {x : Operand} (ho : o.op = .load 27 x) {b off : Nat} (hx : ρ x = .pointer (some ⟨b, off, none⟩)) {w : World} {l : Lab} (hc : ∀ j v, (ndC l)[j]? = some v → w.cell? ⟨b, off + j, none⟩ = some v) :
 (execOp ρ o).run Try.prog w = .ok (.value (ndV l)) w := by
 unfold execOp;simp only [ho, hx, Instr.loadAt, Instr.sureAddr, Sem.run_bind, Sem.run_pure, Result.andThen_ok, run_load_nd w b off l hc]
end trw
end
section
namespace trw
open sq
open Go Go.RowKit trp
theorem heap_set {w : World} {L o : Nat} {C : Array Value} {T : TypeId} {fz : Nat × Nat} {v : Value} (h : w.heap[L]? = some (.cells C T fz)) : (w.setCell ⟨L, o, none⟩ v).heap[L]? = some (.cells (C.setIfInBounds o v) T fz) := by simp [World.setCell, Array.getElem?_modify, h]
end trw
end
section
namespace trp
open sq
open Go
def mx (P : List (Nd × List Nat)) (j : Nat) : Nat := (P.take j).foldl (fun d q => max d q.2.length) 0
end trp
end
section
namespace trw
open sq
open Go.Sort Go Go.RowKit trp
theorem zJ {w : World} {base : Nat} {e : TypeId} {size : Nat} {v : Value} {n : Nat} {xs : List Value} (h : w.ownsRow base e size v n xs) : ∃ a c, v = .slice a n c := by
 rcases h.2 with ⟨rfl, rfl⟩ | ⟨g, cap, _, rfl, _⟩
 ·exact ⟨none, 0, rfl⟩
 ·exact ⟨_, cap, rfl⟩
end trw
end
end Go.Proofs.Ytdgfclbajjjcgaa
