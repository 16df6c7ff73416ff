/- T -/
import Derived.BigQuiet
import Derived.BigRegion
import Derived.Deep.CutBlock
import Derived.Deep.DeepCutAuto
import Derived.Deep.QuietTactic
import Derived.Deep.RegionHeld3
import Derived.Deep.RegionWith
import Derived.IntWalk
import Derived.Laws.AppendOwn
import Derived.Laws.BytesArg
import Derived.Laws.CopyRow
import Derived.Laws.Cover2
import Derived.Laws.Cover3
import Derived.Laws.FloatArith
import Derived.Laws.RangeAny
import Derived.Laws.Rows
import Derived.Lib.BytesEntry
import Derived.Lib.ConvBytes
import Derived.Lib.Hide
import Derived.Lib.LaidTab
import Derived.Lib.OwnBridge
import Derived.LoopN
import Derived.Maps.OwnSet
import Derived.OpenShut
import Derived.Outline
import Derived.OwnWalk
import Derived.ProofKit
import Derived.RegionTactic
import Derived.Shelf.Abstract
import Derived.Shelf.Bytes.SlIndexAt
import Derived.Shelf.Lays8
import Derived.Shelf.SlLaysC2
import Derived.Shelf.SlLaysE
import Derived.Shelf.SlLaysE0
import Derived.Shelf.SlLaysF
import Derived.Shelf.SlLaysH
import Derived.Shelf.SlicesE.Equal
import Derived.Shelf.SlicesE.IndexFunc
import Derived.Shelf.SlicesG.Cmp
import Derived.Sort.Grow
import Derived.Sort.Walk0
import Derived.StillTailTactics
import Derived.Test.YtdgfclbajjjcgaaChecked
import Derived.Test.YtdgfclbajjjcgaaRows
import Derived.WalkKit
import Derived.WalkLawsBesides
import Derived.WalkSpells
import GoSem.Core.Float
import Derived.Test.YtdgfclbajjjcgaaBWb03
set_option maxHeartbeats 16000000
set_option maxRecDepth 1000000
namespace Go.Proofs.Ytdgfclbajjjcgaa
section
namespace tkp
open sq
open Go utfp ucdp setp prp
theorem insR_has : ∀ {S : List Rg} {a b c : Int}, InR S → a ≤ b → (Has (insR a b S) c ↔ (a ≤ c ∧ c ≤ b) ∨ Has S c)
 | [], a, b, c, _, _ => by simp [insR, Has]
 | r :: S, a, b, c, hS, hab => by
  have hr := hS r (dJ ..);have hT : InR S := fun x hx => hS x (List.mem_cons_of_mem _ hx)
  unfold insR;by_cases h1 : b + 1 < r.1
  ·rw [if_pos h1, jF]
  ·rw [if_neg h1];by_cases h2 : r.2 + 1 < a
   ·rw [if_pos h2, jF, insR_has hT hab, jF];constructor
    ·rintro (h | h | h)
     ·exact Or.inr (Or.inl h)
     ·exact Or.inl h
     ·exact Or.inr (Or.inr h)
    ·rintro (h | h | h)
     ·exact Or.inr (Or.inl h)
     ·exact Or.inl h
     ·exact Or.inr (Or.inr h)
   ·rw [if_neg h2, insR_has hT (by omega), jF];constructor
    ·rintro (h | h)
     ·by_cases h3 : a ≤ c ∧ c ≤ b
      ·exact Or.inl h3
      ·exact Or.inr (Or.inl (by omega))
     ·exact Or.inr (Or.inr h)
    ·rintro (h | h | h)
     ·exact Or.inl (by omega)
     ·exact Or.inl (by omega)
     ·exact Or.inr h
theorem insR_from : ∀ {S : List Rg} {a b lo : Int}, lo ≤ a → (∀ r ∈ S, lo ≤ r.1) → ∀ e ∈ insR a b S, lo ≤ e.1
 | [], a, b, lo, h, _ => by intro e he;simp only [insR, List.mem_singleton] at he;subst he;exact h
 | r :: S, a, b, lo, h, hS => by
  have hr := hS r (dJ ..);have hT : ∀ x ∈ S, lo ≤ x.1 := fun x hx => hS x (List.mem_cons_of_mem _ hx)
  unfold insR;intro e he;by_cases h1 : b + 1 < r.1
  ·rw [if_pos h1] at he;rcases List.mem_cons.1 he with rfl | he
   ·exact h
   ·exact hS e he
  ·rw [if_neg h1] at he;by_cases h2 : r.2 + 1 < a
   ·rw [if_pos h2] at he;rcases List.mem_cons.1 he with rfl | he
    ·exact hr
    ·exact insR_from h hT e he
   ·rw [if_neg h2] at he;exact insR_from (by omega) hT e he
theorem insR_canon : ∀ {S : List Rg} {a b : Int}, Canon S → 0 ≤ a → a ≤ b → b ≤ 1114111 → Canon (insR a b S)
 | [], a, b, _, h0, h1, h2 => ⟨List.pairwise_singleton _ _, inR_one h0 h1 h2⟩
 | r :: S, a, b, hS, h0, h1, h2 => by
  have hr := hS.2 r (dJ ..);have hT := canon_tail hS;have hP := (List.pairwise_cons.1 hS.1).1;unfold insR;by_cases h3 : b + 1 < r.1
  ·rw [if_pos h3];refine ⟨List.pairwise_cons.2 ⟨fun x hx => ?_, hS.1⟩, fun x hx => ?_⟩
   ·rcases List.mem_cons.1 hx with rfl | hx
    ·exact h3
    ·have := hP x hx;show b + 1 < x.1;omega
   ·rcases List.mem_cons.1 hx with rfl | hx
    ·exact ⟨h0, h1, h2⟩
    ·exact hS.2 x hx
  ·rw [if_neg h3];by_cases h4 : r.2 + 1 < a
   ·rw [if_pos h4];have ih := insR_canon hT h0 h1 h2;refine ⟨List.pairwise_cons.2 ⟨fun x hx => ?_, ih.1⟩, fun x hx => ?_⟩
    ·have := insR_from (lo := r.2 + 2) (S := S) (a := a) (b := b) (by omega) (fun y hy => by have := hP y hy; omega) x hx;omega
    ·rcases List.mem_cons.1 hx with rfl | hx
     ·exact hr
     ·exact ih.2 x hx
   ·rw [if_neg h4];exact insR_canon hT (by omega) (by omega) (by omega)
theorem ja {m : Int} (hm : m ≤ 1114111) : ∀ l : List Rg, Canon (normR m l)
 | [] => canon_nil
 | r :: l => by
  unfold normR;split
  ·exact ja hm l
  ·exact insR_canon (ja hm l) (by omega) (by omega) (by omega)
theorem normR_has {m : Int} (hm : m ≤ 1114111) : ∀ (l : List Rg) (c : Int), Has (normR m l) c ↔ Has l c ∧ 0 ≤ c ∧ c ≤ m
 | [], c => by simp [normR, Has]
 | r :: l, c => by
  have ih := normR_has hm l c;unfold normR;rw [jF];split
  ·rw [ih];constructor
   ·rintro ⟨h1, h2⟩; exact ⟨Or.inr h1, h2⟩
   ·rintro ⟨h1 | h1, h2⟩
    ·omega
    ·exact ⟨h1, h2⟩
  ·rw [insR_has (ja hm l).2 (by omega), ih];constructor
   ·rintro (h | ⟨h1, h2⟩)
    ·exact ⟨Or.inl (by omega), by omega⟩
    ·exact ⟨Or.inr h1, h2⟩
   ·rintro ⟨h1 | h1, h2⟩
    ·exact Or.inl (by omega)
    ·exact Or.inr ⟨h1, h2⟩
theorem normR_only {m : Int} (hm : m ≤ 1114111) {l S : List Rg} (hS : Canon S) (h : ∀ c, Has S c ↔ Has l c ∧ 0 ≤ c ∧ c ≤ m) : S = normR m l :=
 canon_ext hS (ja hm l) fun c => by rw [h, normR_has hm]
theorem notF_both {m : Int} (hm : m ≤ 1114111) : ∀ {S : List Rg} {lo : Int}, Canon S → 0 ≤ lo → (∀ r ∈ S, lo ≤ r.1) → Canon (notF m lo S) ∧ (∀ e ∈ notF m lo S, lo ≤ e.1) ∧ ∀ c, Has (notF m lo S) c ↔ lo ≤ c ∧ c ≤ m ∧ ¬ Has S c
 | [], lo, _, h0, _ => by
  unfold notF;refine ⟨addP_canon canon_nil (fun _ h => by cases h) h0 hm, fun e he => ?_, fun c => ?_⟩
  ·rcases addP_mem he with h | ⟨rfl, _⟩
   ·cases h
   ·exact Int.le_refl _
  ·rw [addP_has];simp [Has]
 | r :: S, lo, hS, h0, hl => by
  have hr := hS.2 r (dJ ..);have hlr := hl r (dJ ..);have hP := (List.pairwise_cons.1 hS.1).1;obtain ⟨i1, i2, i3⟩ := notF_both hm (lo := r.2 + 1) (canon_tail hS) (by omega) (fun x hx => by have := hP x hx; omega);have hT : ∀ c, Has S c → r.2 + 1 < c := fun c hc => canon_head hS hc
  unfold notF;split
  ·refine ⟨i1, fun e he => by have := i2 e he; omega, fun c => ?_⟩;rw [i3, jF];constructor
   ·rintro ⟨a, b, d⟩;exact ⟨by omega, b, fun h => h.elim (fun h => by omega) d⟩
   ·rintro ⟨a, b, d⟩;refine ⟨?_, b, fun h => d (Or.inr h)⟩;have : ¬ (r.1 ≤ c ∧ c ≤ r.2) := fun h => d (Or.inl h)
    omega
  ·refine ⟨⟨List.pairwise_cons.2 ⟨fun x hx => ?_, i1.1⟩, fun x hx => ?_⟩, fun e he => ?_, fun c => ?_⟩
   ·have := i2 x hx;show min (r.1 - 1) m + 1 < x.1;omega
   ·rcases List.mem_cons.1 hx with rfl | hx
    ·exact ⟨h0, by show lo ≤ min (r.1 - 1) m; omega, by show min (r.1 - 1) m ≤ 1114111; omega⟩
    ·exact i1.2 x hx
   ·rcases List.mem_cons.1 he with rfl | he
    ·exact Int.le_refl _
    ·have := i2 e he; omega
   ·rw [jF, i3, jF];constructor
    ·rintro (h | ⟨a, b, d⟩)
     ·refine ⟨h.1, by omega, ?_⟩;rintro (k | k)
      ·omega
      ·have := hT c k; omega
     ·exact ⟨by omega, b, fun h => h.elim (fun h => by omega) d⟩
    ·rintro ⟨a, b, d⟩;by_cases h : c ≤ r.1 - 1
     ·exact Or.inl ⟨a, by omega⟩
     ·refine Or.inr ⟨?_, b, fun h => d (Or.inr h)⟩;have : ¬ (r.1 ≤ c ∧ c ≤ r.2) := fun h => d (Or.inl h)
      omega
theorem notR_canon {m : Int} (hm : m ≤ 1114111) {S : List Rg} (hS : Canon S) : Canon (notR m S) := (notF_both hm hS (Int.le_refl _) fun r hr => (hS.2 r hr).1).1
theorem notR_has {m : Int} (hm : m ≤ 1114111) {S : List Rg} (hS : Canon S) (c : Int) : Has (notR m S) c ↔ 0 ≤ c ∧ c ≤ m ∧ ¬ Has S c := (notF_both hm hS (Int.le_refl _) fun r hr => (hS.2 r hr).1).2.2 c
theorem notR_only {m : Int} (hm : m ≤ 1114111) {R S : List Rg} (hR : Canon R) (hS : Canon S) (h : ∀ c, Has R c ↔ 0 ≤ c ∧ c ≤ m ∧ ¬ Has S c) : R = notR m S :=
 canon_ext hR (notR_canon hm hS) fun c => by rw [h, notR_has hm hS]
theorem vH (p : Pt) : p.most ≤ 1114111 := by unfold Pt.most; split <;> omega
theorem most_ge (p : Pt) : 255 ≤ p.most := by unfold Pt.most; split <;> omega
theorem prop_norm {m : Int} (hm : m ≤ 1114111) {n : ByteArray} {S T : List Rg} (hS : ∀ c, Has S c ↔ 0 ≤ c ∧ c ≤ 1114111 ∧ propP n c = true) (hT : Canon T) (h : ∀ c, Has T c ↔ Has S c ∧ 0 ≤ c ∧ c ≤ m) : T = normR m (propL n) :=
 canon_ext hT (ja hm _) fun c => by
  rw [h, normR_has hm, hS];have := wl_all (hp n) c;unfold propL;unfold propP;constructor
  ·rintro ⟨⟨a, b, d⟩, e, f⟩;exact ⟨(this.2 ⟨a, b, d⟩).1, e, f⟩
  ·rintro ⟨a, e, f⟩;exact ⟨this.1 ⟨a, e, by omega⟩, e, f⟩
end tkp
end
section
namespace rtp
open sq
open Go utfp ucdp setp prp tkp
abbrev G := R (Option Tk × Nat)
def gtok (t : Tk) (f b : Nat) : G := .ok (some (lay t f b), b)
def num (p : Pt) (a : Nat) : Int × Nat × Bool := (if 255 < (p.digits a).1 then 1000 else (p.digits a).1, (p.digits a).2, decide (255 < (p.digits a).1))
def sgn (p : Pt) (a : Nat) : Int × Int × Nat × Bool :=
 if (num p (p.sign a).2).2.1 = (p.sign a).2 then (0, (p.sign a).1, a, false) else ((num p (p.sign a).2).1, (p.sign a).1, (num p (p.sign a).2).2.1, (num p (p.sign a).2).2.2)
def quan (p : Pt) (i «to» : Nat) (n m : Int) : G := gtok { kind := 9, n := n, m := m, mode := (p.mode «to»).1 } i (p.mode «to»).2
def hexC (p : Pt) (r : Int × Nat) : Option (Int × Nat) := if p.most < r.1 ∨ (p.u = true ∧ 55296 ≤ r.1 ∧ r.1 ≤ 57343) then none else some r
def hexz (p : Pt) (i : Nat) : Option (Int × Nat) :=
 if p.has [123] i = true then
  (if (p.hexd 7 (i + 1)).2 = i + 1 ∨ i + 7 < (p.hexd 7 (i + 1)).2 ∨ p.has [125] (p.hexd 7 (i + 1)).2 = false then none
   else hexC p ((p.hexd 7 (i + 1)).1, (p.hexd 7 (i + 1)).2 + 1))
 else hexC p (p.hexd 2 i)
def brac (p : Pt) (i : Nat) : Option (ByteArray × Nat) :=
 if p.n ≤ i then none
 else if p.g i = 123 then (match p.until 125 (i + 1) with | none => none | some k => some (p.sub (i + 1) k, k + 1))
 else some (p.sub i (p.char i).2, (p.char i).2)
def many (p : Pt) (c : Int) (i : Nat) : Except Int (Option (List Rg × Bool × Nat)) :=
 if c = 112 ∨ c = 80 then
  match brac p i with
  | none => .error 24
  | some (s, «to») => if isP (unhat s) = true then .ok (some (normR p.most (propL (unhat s)), decide (c = 80) != hat s, «to»)) else .error 24
 else if escB (lowC c) = true then .ok (some (normR p.most (escP (lowC c)), capB c, i)) else .ok none
def backR (p : Pt) (i «to» : Nat) : List (List UInt8 × List UInt8) → G
 | [] => .error (27, i)
 | (o, z) :: l => if p.has o «to» = true then
  (if (p.name («to» + 1)).2 = true ∧ p.has z (p.name («to» + 1)).1 = true then gtok { kind := 11, name := p.sub («to» + 1) (p.name («to» + 1)).1, m := 3 } i ((p.name («to» + 1)).1 + 1) else backR p i «to» l)
  else backR p i «to» l
def quotT : List (List UInt8 × List UInt8) := [([123], [125]), ([60], [62]), ([39], [39])]
def refR (p : Pt) (f i : Nat) : G :=
 let k := (p.quotes i).1
 let z := (p.quotes i).2.1
 let a := (p.quotes i).2.2
 let s := sgn p a
 if s.2.2.2 = true then .error (25, f)
 else if a < s.2.2.1 then
  (if p.has z s.2.2.1 = false then .error (21, f)
   else if s.1 = 0 ∧ (k = 11 ∨ s.2.1 ≠ 0) then .error (25, f)
   else gtok { kind := k, n := s.1, m := s.2.1 } f (s.2.2.1 + z.length))
 else if z = [] ∨ (p.name a).2 = false ∨ p.has z (p.name a).1 = false then .error (21, f)
 else gtok { kind := k, name := p.sub a (p.name a).1, m := 3 } f ((p.name a).1 + 1)
def escR (p : Pt) (i : Nat) : G :=
 if i + 1 = p.n then .error (20, p.n)
 else
  let c := (p.char (i + 1)).1
  let «to» := (p.char (i + 1)).2
  if ji c ≠ 0 then gtok { kind := 1, c := ji c } i «to»
  else if c = 120 then (match hexz p «to» with | none => .error (21, i) | some (v, e) => gtok { kind := 1, c := v } i e)
  else if c = 78 then gtok { kind := 2, set := [(10, 10)], neg := true } i «to»
  else if vZ c ≠ 0 then gtok { kind := 4, n := vZ c } i «to»
  else if c = 75 then gtok { kind := 5 } i «to»
  else if c = 82 then gtok { kind := 6 } i «to»
  else if c = 69 then .ok (none, «to»)
  else if 49 ≤ c ∧ c ≤ 57 then (if (num p (i + 1)).2.2 = true then .error (25, i) else gtok { kind := 11, n := (num p (i + 1)).1 } i (num p (i + 1)).2.1)
  else if c = 103 then refR p i «to»
  else if c = 107 then backR p i «to» quotT
  else match many p c «to» with
   | .error e => .error (e, i)
   | .ok (some (l, neg, e)) => gtok { kind := 2, set := l, neg := neg } i e
   | .ok none => if c = 48 ∨ isLet c = true then .error (21, i) else gtok { kind := 1, c := c } i «to»
def notL (p : Pt) (l : List Rg) : List Rg := notR p.most (normR p.most l)
def itemE (p : Pt) (i b : Nat) : R (List Rg × Bool × Nat) :=
 let c := (p.char b).1
 let «to» := (p.char b).2
 if c = 120 then (match hexz p «to» with | none => .error (21, i) | some (v, e) => .ok ([(v, v)], true, e))
 else if ji c ≠ 0 then .ok ([(ji c, ji c)], true, «to»)
 else if c = 98 then .ok ([(8, 8)], true, «to»)
 else match many p c «to» with
  | .error e => .error (e, i)
  | .ok (some (l, neg, e)) => .ok (if neg = true then notL p l else l, false, e)
  | .ok none => if (isLet c || isDig c) = true then .error (21, i) else .ok ([(c, c)], true, «to»)
def itemC (p : Pt) (i : Nat) : R (List Rg × Bool × Nat) :=
 if (p.char i).1 = 92 then (if (p.char i).2 = p.n then .error (20, p.n) else itemE p i (p.char i).2)
 else .ok ([((p.char i).1, (p.char i).1)], true, (p.char i).2)
def posB (p : Pt) (i : Nat) : Nat := if p.has [94] (i + 2) = true then i + 3 else i + 2
def itemR (p : Pt) (i : Nat) : R (List Rg × Bool × Nat) :=
 if p.has [91, 58] i = true ∧ p.has [58, 93] (p.run isLet 1000 (posB p i)) = true then
  (if vz (p.sub (posB p i) (p.run isLet 1000 (posB p i))) = true then
   .ok (if p.has [94] (i + 2) = true then notL p (jC (p.sub (posB p i) (p.run isLet 1000 (posB p i)))) else jC (p.sub (posB p i) (p.run isLet 1000 (posB p i))), false, p.run isLet 1000 (posB p i) + 2)
   else .error (22, i))
 else itemC p i
def loR (l : List Rg) : Int := (l.headD (0, 0)).1
def rangeR (p : Pt) (i : Nat) : R (List Rg × Nat) :=
 match itemR p i with
 | .error e => .error e
 | .ok (l, single, «to») =>
  if single = true ∧ p.has [45] «to» = true ∧ «to» + 1 < p.n ∧ p.g («to» + 1) ≠ 93 then
   match itemR p («to» + 1) with
   | .error e => .error e
   | .ok (m, also, e) => if also = false ∨ loR m < loR l then .error (23, i) else .ok ([(loR l, loR m)], e)
  else .ok (l, «to»)
def clsL (p : Pt) (first : Nat) : Nat → List Rg → Nat → R (List Rg × Nat)
 | 0, _, _ => .error (20, p.n)
 | k + 1, all, i =>
  if p.n ≤ i then .error (20, p.n)
  else if p.g i = 93 ∧ first < i then .ok (all, i + 1)
  else match rangeR p i with
   | .error e => .error e
   | .ok (l, «to») => clsL p first k (all ++ l) «to»
def clsR (p : Pt) (f : Nat) : G :=
 let i := if p.has [94] (f + 1) = true then f + 2 else f + 1
 match clsL p i (p.n + 1 - i) [] i with
 | .error e => .error e
 | .ok (all, b) => gtok { kind := 2, set := normR p.most all, neg := p.has [94] (f + 1) } f b
def shutR (p : Pt) (t : Tk) (f i : Nat) (s : List UInt8) (e : Int) : G :=
 if p.has s i = true then gtok t f (i + s.length) else if p.n ≤ i then .error (20, p.n) else .error (e, f)
def callR (p : Pt) (t : Tk) (f i : Nat) (s : List UInt8) : G :=
 if p.n ≤ (p.name i).1 then .error (20, p.n)
 else if (p.name i).2 = false ∨ p.has s (p.name i).1 = false then .error (27, f)
 else gtok { t with name := p.sub i (p.name i).1 } f ((p.name i).1 + s.length)
def flagR (p : Pt) (f : Nat) : Nat → Nat → Bool → Int → Int → G
 | 0, _, _, _, _ => .error (20, p.n)
 | k + 1, i, off, on, of_ =>
  if p.n ≤ i then .error (20, p.n)
  else if p.g i = 41 then gtok { kind := 15, on := on, off := of_ } f (i + 1)
  else if p.g i = 58 then gtok { kind := 10, n := 2, on := on, off := of_ } f (i + 1)
  else if p.g i = 45 then (if off = true then .error (26, f) else flagR p f k (i + 1) true on of_)
  else if isOpt (p.g i) = true then
   (if off = true then flagR p f k (i + 1) off on ((of_.toNat ||| optV (p.g i) : Nat) : Int) else flagR p f k (i + 1) off ((on.toNat ||| optV (p.g i) : Nat) : Int) of_)
  else .error (26, f)
def condE (p : Pt) (f : Nat) (t : Tk) («to» : Nat) (ok : Bool) : G :=
 if ok = false ∨ p.has [41] «to» = false then .error (32, f)
 else if t.n = 9 ∧ t.mode = 0 then .error (25, f)
 else gtok t f («to» + 1)
def condN (p : Pt) (f i : Nat) (z : List UInt8) : G :=
 condE p f { kind := 10, n := 10, name := p.sub (i + 1) (p.name (i + 1)).1 } ((p.name (i + 1)).1 + 1) ((p.name (i + 1)).2 && p.has z (p.name (i + 1)).1)
def condR (p : Pt) (f i : Nat) : G :=
 if p.has [63, 61] i = true ∨ p.has [63, 33] i = true ∨ p.has [63, 60, 61] i = true ∨ p.has [63, 60, 33] i = true then gtok { kind := 10, n := 13 } f (f + 2)
 else if p.has [60] i = true then condN p f i [62]
 else if p.has [39] i = true then condN p f i [39]
 else if p.has [68, 69, 70, 73, 78, 69] i = true then condE p f { kind := 10, n := 12 } (i + 6) true
 else if p.has [82, 38] i = true then condE p f { kind := 10, n := 11, m := 3, name := p.sub (i + 2) (p.name (i + 2)).1 } (p.name (i + 2)).1 (p.name (i + 2)).2
 else if p.has [82] i = true then
  (if (num p (i + 1)).2.2 = true then .error (25, f)
   else condE p f { kind := 10, n := 11, mode := if (num p (i + 1)).2.1 = i + 1 then -1 else (num p (i + 1)).1 } (num p (i + 1)).2.1 true)
 else if (sgn p i).2.2.2 = true then .error (25, f)
 else condE p f { kind := 10, n := 9, mode := (sgn p i).1, m := (sgn p i).2.1 } (sgn p i).2.2.1 (decide (i < (sgn p i).2.2.1))
def verbV (s : ByteArray) : Int :=
 if s = ⟨#[65, 67, 67, 69, 80, 84]⟩ then 1 else if s = ⟨#[70, 65, 73, 76]⟩ then 2 else if s = ⟨#[70]⟩ then 2 else if s = ⟨#[67, 79, 77, 77, 73, 84]⟩ then 3
 else if s = ⟨#[80, 82, 85, 78, 69]⟩ then 4 else if s = ⟨#[83, 75, 73, 80]⟩ then 5 else if s = ⟨#[84, 72, 69, 78]⟩ then 6 else if s = ⟨#[77, 65, 82, 75]⟩ then 7 else if s = ⟨#[]⟩ then 7 else 0
def verbG (f i : Nat) (word arg : ByteArray) (wth : Bool) : G :=
 if verbV word = 0 ∨ (wth = true ∧ arg = ⟨#[]⟩) ∨ (wth = true ∧ (verbV word = 1 ∨ verbV word = 2)) ∨ (wth = false ∧ verbV word = 7) then .error (28, f)
 else gtok { kind := 13, n := verbV word, name := arg } f (i + 1)
def verbR (p : Pt) (f : Nat) : G :=
 match p.until 41 (f + 2) with
 | none => .error (20, p.n)
 | some i => match p.find 58 (i - (f + 2)) (f + 2) with
  | none => verbG f i (p.sub (f + 2) i) ⟨#[]⟩ false
  | some j => verbG f i (p.sub (f + 2) j) (p.sub (j + 1) i) true
def kindsT : List (List UInt8 × Int) := [([58], 2), ([124], 3), ([62], 4), ([61], 5), ([33], 6), ([60, 61], 7), ([60, 33], 8)]
def kindR (p : Pt) (f i : Nat) : List (List UInt8 × Int) → Option G
 | [] => none
 | (s, k) :: l => if p.has s i = true then some (gtok { kind := 10, n := k } f (i + s.length)) else kindR p f i l
def numB (p : Pt) (i : Nat) : Bool := decide (p.g i = 43) || isDig (p.g i) || (decide (p.g i = 45) && decide (i + 1 < p.n) && isDig (p.g (i + 1)))
def numR (p : Pt) (f i : Nat) : G :=
 let s := sgn p i
 if s.2.2.2 = true then .error (25, f)
 else if s.2.2.1 = i then (if i + 1 = p.n then .error (20, p.n) else .error (26, f))
 else match shutR p { kind := 12, n := s.1, m := s.2.1 } f s.2.2.1 [41] 26 with
  | .error e => .error e
  | .ok r => if s.1 = 0 ∧ s.2.1 ≠ 0 then .error (25, f) else .ok r
def openK (p : Pt) (f i : Nat) : G :=
 if p.has [35] i = true then (match p.until 41 i with | none => .error (20, p.n) | some j => .ok (none, j + 1))
 else if p.has [80, 60] i = true then callR p { kind := 10, n := 1 } f (i + 2) [62]
 else if p.has [60] i = true then callR p { kind := 10, n := 1 } f (i + 1) [62]
 else if p.has [39] i = true then callR p { kind := 10, n := 1 } f (i + 1) [39]
 else if p.has [80, 61] i = true then callR p { kind := 11, m := 3 } f (i + 2) [41]
 else if p.has [80, 62] i = true then callR p { kind := 12, m := 3 } f (i + 2) [41]
 else if p.has [38] i = true then callR p { kind := 12, m := 3 } f (i + 1) [41]
 else if p.has [82] i = true then shutR p { kind := 12 } f (i + 1) [41] 26
 else if p.has [67] i = true then (if (num p (i + 1)).2.2 = true then .error (25, f) else shutR p { kind := 14, n := (num p (i + 1)).1 } f (num p (i + 1)).2.1 [41] 26)
 else if p.has [40] i = true then condR p f (i + 1)
 else if numB p i = true then numR p f i
 else flagR p f (p.n + 1 - i) i false 0 0
def openR (p : Pt) (f : Nat) : G :=
 if p.has [42] (f + 1) = true then verbR p f
 else if p.has [63] (f + 1) = false then gtok { kind := 10, n := 1 } f (f + 1)
 else if f + 2 = p.n then .error (20, p.n)
 else match kindR p f (f + 2) kindsT with
  | some g => g
  | none => openK p f (f + 2)
def skipC (p : Pt) : Nat → Nat → Nat
 | 0, a => a
 | k + 1, a => if a < p.n ∧ p.g (a - 1) ≠ 10 then skipC p k (a + 1) else a
def bracR (p : Pt) (i : Nat) : Option (Int × Int × Nat × Bool) :=
 let a := (num p (i + 1)).2.1
 if i + 1 < a ∧ p.has [44] a = true then
  (if p.has [125] (num p (a + 1)).2.1 = true then some ((num p (i + 1)).1, if (num p (a + 1)).2.1 = a + 1 then -1 else (num p (a + 1)).1, (num p (a + 1)).2.1, (num p (i + 1)).2.2 || (num p (a + 1)).2.2) else none)
 else if a = i + 1 ∨ p.has [125] a = false then none
 else some ((num p (i + 1)).1, (num p (i + 1)).1, a, (num p (i + 1)).2.2)
def tokR (p : Pt) (i : Nat) : G :=
 let c := (p.char i).1
 let «to» := (p.char i).2
 if p.x = true ∧ (9 ≤ c ∧ c ≤ 13 ∨ c = 32) then .ok (none, «to»)
 else if p.x = true ∧ c = 35 then .ok (none, skipC p p.n «to»)
 else if c = 92 then escR p i
 else if c = 91 then clsR p i
 else if c = 40 then openR p i
 else if c = 46 then gtok { kind := 3 } i «to»
 else if c = 94 then gtok { kind := 4, n := 1 } i «to»
 else if c = 36 then gtok { kind := 4, n := 2 } i «to»
 else if c = 124 then gtok { kind := 7 } i «to»
 else if c = 41 then gtok { kind := 8 } i «to»
 else if c = 42 then quan p i «to» 0 (-1)
 else if c = 43 then quan p i «to» 1 (-1)
 else if c = 63 then quan p i «to» 0 1
 else if c = 123 then
  match bracR p i with
  | none => gtok { kind := 1, c := c } i «to»
  | some (n, m, b, great) => if great = true then .error (25, i) else if 0 ≤ m ∧ m < n then .error (23, i) else quan p i (b + 1) n m
 else gtok { kind := 1, c := c } i «to»
def lexF (p : Pt) : Nat → Bool → List Tk → Nat → R (List Tk)
 | 0, _, T, _ => .ok T
 | k + 1, q, T, i =>
  if p.n ≤ i then .ok T
  else if q = true then (if p.has [92, 69] i = true then lexF p k false T (i + 2) else lexF p k true (T ++ [lay { kind := 1, c := (p.char i).1 } i (p.char i).2]) (p.char i).2)
  else if p.has [92, 81] i = true then lexF p k true T (i + 2)
  else match tokR p i with
   | .error e => .error e
   | .ok (none, «to») => lexF p k false T «to»
   | .ok (some t, «to») => lexF p k false (T ++ [t]) «to»
def rlexP (g : Nat → Int) (n : Nat) (o : Int) : R (List Tk) :=
 if o < 0 ∨ 65535 < o then .error (1, 0)
 else if 1000 < n then .error (10, 1000)
 else if o.toNat.testBit 5 = true ∧ (validP g n).2 = false then .error (13, (validP g n).1)
 else lexF { g := g, n := n, u := o.toNat.testBit 5, x := o.toNat.testBit 3 } (n + 1) false [] 0
end rtp
end
section
namespace utfw
open sq
open Go Go.RowKit utfp
def Drawn (w w' : World) : Prop := ∃ k, w' = w.drewN k
theorem Drawn.refl (w : World) : Drawn w w := ⟨0, rfl⟩
theorem Drawn.trans {a b c : World} (h : Drawn a b) (h' : Drawn b c) : Drawn a c := by obtain ⟨k, rfl⟩ := h;obtain ⟨m, rfl⟩ := h';exact ⟨m + k, by simp [World.drewN, Nat.add_comm, Nat.add_left_comm]⟩
theorem Drawn.drew {a w : World} (h : Drawn a w) : Drawn a w.drew := by obtain ⟨k, rfl⟩ := h;exact ⟨k + 1, rfl⟩
theorem Drawn.drewN {a w : World} (h : Drawn a w) (n : Nat) : Drawn a (w.drewN n) := h.trans ⟨n, rfl⟩
theorem Drawn.cell {w w' : World} (h : Drawn w w') (a : Addr) : w'.cell? a = w.cell? a := by obtain ⟨k, rfl⟩ := h;simp
def Sl (w : World) (v : Value) (n : Nat) (g : Nat → Int) : Prop :=
 (∀ i, 0 ≤ g i ∧ g i ≤ 255) ∧ n ≤ 140737488355328 ∧ ((n = 0 ∧ ∃ a cap, v = .slice a 0 cap ∧ cap ≤ 9223372036854775807) ∨ ∃ b off cap, v = .slice (some ⟨b, off, none⟩) n cap ∧ (n ≤ cap ∧ cap ≤ 9223372036854775807) ∧ ∀ i, i < n → w.cell? ⟨b, off + i, none⟩ = some (.int .u8 (g i)))
theorem Drawn.sl {w w' : World} {v : Value} {n : Nat} {g : Nat → Int} (hd : Drawn w w') (h : Sl w v n g) : Sl w' v n g := by
 obtain ⟨h1, h2, h3⟩ := h;refine ⟨h1, h2, ?_⟩;rcases h3 with h3 | ⟨b, off, cap, h3, h4, h5⟩
 ·exact Or.inl h3
 ·exact Or.inr ⟨b, off, cap, h3, h4, fun i hi => by rw [hd.cell]; exact h5 i hi⟩
theorem cell_lt {w : World} {a : Addr} {v : Value} (h : w.cell? a = some v) : a.block < w.heap.size := by exact z125
theorem qf {w w' : World} (h : Below w.heap.size w w') {a : Addr} {v : Value} (hc : w.cell? a = some v) : w'.cell? a = some v := by rw [h.cell (cell_lt hc)]; exact hc
theorem below_sl {w w' : World} (h : Below w.heap.size w w') {v : Value} {n : Nat} {g : Nat → Int} (hs : Sl w v n g) : Sl w' v n g := by
 obtain ⟨h1, h2, h3⟩ := hs;refine ⟨h1, h2, ?_⟩;rcases h3 with h3 | ⟨b, off, cap, h3, h4, h5⟩
 ·exact Or.inl h3
 ·exact Or.inr ⟨b, off, cap, h3, h4, fun i hi => qf h (h5 i hi)⟩
theorem drawn_below {w w' : World} (h : Drawn w w') : Below w.heap.size w w' := by obtain ⟨k, rfl⟩ := h;exact ⟨rfl, rfl, rfl, xL _, fun _ _ => rfl⟩
theorem qi {a b c : World} (h : Below a.heap.size a b) (k : Below b.heap.size b c) : Below a.heap.size a c := h.trans (k.mono h.size)
def at_ (l : List Int) : Nat → Int := fun i => l.getD i 0
def NewPost (l : List Int) (w : World) (e : Ending) (w' : World) : Prop := ∃ v, e = .returned v ∧ Sl w' v l.length (at_ l) ∧ Below w.heap.size w w'
theorem at_bytes {l : List Int} (h : ∀ x ∈ l, 0 ≤ x ∧ x ≤ 255) : ∀ i, 0 ≤ at_ l i ∧ at_ l i ≤ 255 := by
 intro i;unfold at_;by_cases hi : i < l.length
 ·simp only [List.getD, List.getElem?_eq_getElem hi, Option.getD_some];exact h _ (dI hi)
 ·simp [List.getD, List.getElem?_eq_none (Nat.le_of_not_lt hi)]
theorem sl_alloc (w : World) (T : TypeId) (l : List Int) (h : ∀ x ∈ l, 0 ≤ x ∧ x ≤ 255) (hl : l.length ≤ 4) :
 Sl (w.alloc (.cells (l.map (Value.int .u8)).toArray T)) (.slice (some ⟨w.heap.size, 0, none⟩) l.length l.length) l.length (at_ l) := by
 refine ⟨at_bytes h, by omega, Or.inr ⟨_, _, _, rfl, ⟨by omega, by omega⟩, fun i hi => ?_⟩⟩;rw [World.cell?_alloc_new];simp [at_, List.getD, hi]
theorem newPost_alloc {l l' : List Int} {w : World} (T : TypeId) (he : l' = l) (h : ∀ x ∈ l, 0 ≤ x ∧ x ≤ 255) (hl : l.length ≤ 4) :
 NewPost l' w (.returned (.slice (some ⟨w.heap.size, 0, none⟩) l.length l.length)) (w.alloc (.cells (l.map (Value.int .u8)).toArray T)) := by
 subst he;exact ⟨_, rfl, sl_alloc w T l' h hl, (Below.refl _ _).alloc (xL _) _⟩
theorem newPost_nil {l : List Int} {w w' : World} (he : l = []) (hb : Below w.heap.size w w') : NewPost l w (.returned (.slice none 0 0)) w' := by subst he;exact ⟨_, rfl, ⟨at_bytes (by simp), by simp, Or.inl ⟨rfl, _, _, rfl, by omega⟩⟩, hb⟩
theorem enc0 {c : Int} (h : c < 0 ∨ 1114111 < c ∨ (55296 ≤ c ∧ c ≤ 57343)) : enc c = [] := by unfold enc; rw [if_pos h]
theorem enc1 {c : Int} (h1 : 0 ≤ c) (h2 : c < 128) : enc c = [c] := by unfold enc; rw [if_neg (by omega), if_pos (by omega)]
theorem enc2 {c : Int} (h1 : 128 ≤ c) (h2 : c < 2048) : enc c = [192 + c / 64, 128 + c % 64] := by unfold enc; rw [if_neg (by omega), if_neg (by omega), if_pos (by omega)]
theorem enc3 {c : Int} (h1 : 2048 ≤ c) (h2 : c < 65536) (h3 : c < 55296 ∨ 57343 < c) : enc c = [224 + c / 4096, 128 + c / 64 % 64, 128 + c % 64] := by unfold enc; rw [if_neg (by omega), if_neg (by omega), if_neg (by omega), if_pos (by omega)]
theorem enc4 {c : Int} (h1 : 65536 ≤ c) (h2 : c ≤ 1114111) : enc c = [240 + c / 262144, 128 + c / 4096 % 64, 128 + c / 64 % 64, 128 + c % 64] := by unfold enc; rw [if_neg (by omega), if_neg (by omega), if_neg (by omega), if_neg (by omega)]
theorem seqc_any (c : Int) (w : World) : Calls Try.prog 116 #[.int .i64 c] w (NewPost (enc c) w) := by
 have hb := enc_bytes c;have hB := xH hb;clear hb;rcases wid_cases c with ⟨hw, h⟩ | ⟨hw, h1, h2⟩ | ⟨hw, h1, h2⟩ | ⟨hw, h1, h2, h3⟩ | ⟨hw, h1, h2⟩
 ·have HE := xH (enc0 h);clear hw;rcases h with h | h | ⟨h1, h2⟩
  all_goals
   go_enter Try.func116, Try.ntmps116
   go_wp2
   all_goals (go_ret; exact newPost_nil HE.out (Below.refl _ _))
 ·have HE := xH (enc1 h1 h2);clear hw;go_enter Try.func116, Try.ntmps116
  go_wp2
  go_ret
  exact newPost_alloc (l := [c]) 5 HE.out (by rw [← HE.out]; exact hB.out) (by simp)
 ·have HE := xH (enc2 h1 h2);clear hw;go_enter Try.func116, Try.ntmps116
  go_wp2
  go_ret
  exact newPost_alloc (l := [192 + c / 64, 128 + c % 64]) 5 HE.out (by rw [← HE.out]; exact hB.out) (by simp)
 ·have HE := xH (enc3 h1 h2 h3);clear hw;rcases h3 with h3 | h3
  all_goals
   go_enter Try.func116, Try.ntmps116
   go_wp2
   go_ret
   exact newPost_alloc (l := [224 + c / 4096, 128 + c / 64 % 64, 128 + c % 64]) 5 HE.out (by rw [← HE.out]; exact hB.out) (by simp)
 ·have HE := xH (enc4 h1 h2);clear hw;go_enter Try.func116, Try.ntmps116
  go_wp2
  go_ret
  exact newPost_alloc (l := [240 + c / 262144, 128 + c / 4096 % 64, 128 + c / 64 % 64, 128 + c % 64]) 5 HE.out (by rw [← HE.out]; exact hB.out) (by simp)
def strOf (n : Nat) (g : Nat → Int) : ByteArray := strOfNums ((List.range n).map g)
theorem conv_zero (w : World) (a : Option Addr) (c : Nat) (g : Nat → Int) : (convert 22 9 (.slice a 0 c)).run Try.prog w = .ok (.string (strOf 0 g)) w := by rw [show strOf 0 g = ByteArray.empty from rfl, run_convert_bytes_string w 22 9 5 _ 0 c Try.underlying22 Try.underlying5 Try.underlying9];cases a <;> simp [Conv.bytesToString, loadCells, loadCellsFrom]
theorem conv_sl {w : World} {v : Value} {n : Nat} {g : Nat → Int} (h : Sl w v n g) :
 (convert 22 9 v).run Try.prog w = .ok (.string (strOf n g)) w := by
 obtain ⟨_, _, h3⟩ := h;rcases h3 with ⟨rfl, a0, c0, rfl, _⟩ | ⟨b, off, cap, rfl, _, hc⟩
 ·exact conv_zero w a0 c0 g
 ·refine run_convert_bytes_arg w 22 5 Try.underlying22 Try.underlying5 b off n cap ((List.range n).map g) (by simp) (fun i hi => ?_) 9 Try.underlying9;rw [hc i hi];simp [List.getD, hi]
def combo (n : Nat) (g : Nat → Int) : Int :=
 if n = 1 then g 0 else if n = 2 then (g 0 - 192) * 64 + g 1 - 128 else if n = 3 then (g 0 - 224) * 4096 + (g 1 - 128) * 64 + g 2 - 128 else (g 0 - 240) * 262144 + (g 1 - 128) * 4096 + (g 2 - 128) * 64 + g 3 - 128
def ofP (n : Nat) (g : Nat → Int) : Int := if enc (combo n g) = (List.range n).map g then combo n g else -1
def IntPost (r : Int) (w : World) (e : Ending) (w' : World) : Prop := e = .returned (.int .i64 r) ∧ Below w.heap.size w w'
theorem strOf_at (l : List Int) : strOf l.length (at_ l) = strOfNums l := by
 unfold strOf
 congr 1
 apply List.ext_getElem
 ·simp
 ·intro i h1 h2;simp [at_, List.getD, h2]
theorem strOfNums_inj {l l' : List Int} (h : ∀ x ∈ l, 0 ≤ x ∧ x ≤ 255) (h' : ∀ x ∈ l', 0 ≤ x ∧ x ≤ 255) (e : strOfNums l = strOfNums l') : l = l' := by
 have e2 : (l.map fun n => UInt8.ofNat n.toNat) = l'.map fun n => UInt8.ofNat n.toNat := by have := congrArg (fun s : ByteArray => s.data.toList) e;simpa [strOfNums] using this
 clear e
 induction l generalizing l' with
 | nil => cases l' with
  | nil => rfl
  | cons y l' => simp at e2
 | cons x l ih =>
  cases l' with
  | nil => simp at e2
  | cons y l' =>
   simp only [List.map_cons, List.cons.injEq] at e2;obtain ⟨e1, e2⟩ := e2;have hx := h x (by simp);have hy := h' y (by simp);have e3 := congrArg UInt8.toNat e1;simp only [UInt8.toNat_ofNat'] at e3;have : x = y := by omega
   subst this;rw [ih (fun z hz => h z (by simp [hz])) (fun z hz => h' z (by simp [hz])) e2]
theorem strOf_eq {l : List Int} {n : Nat} {g : Nat → Int} (hl : ∀ x ∈ l, 0 ≤ x ∧ x ≤ 255) (hg : ∀ i, 0 ≤ g i ∧ g i ≤ 255) : strOf l.length (at_ l) = strOf n g ↔ l = (List.range n).map g := by
 rw [strOf_at];constructor
 ·intro h;exact strOfNums_inj hl (by simp only [List.mem_map]; rintro x ⟨i, _, rfl⟩; exact hg i) h
 ·rintro rfl;rfl
theorem toList_inj {s s' : ByteArray} (h : s.toList = s'.toList) : s = s' := by
 rw [ByteArray.toList_eq, ByteArray.toList_eq] at h;cases s;cases s'
 congr
 exact Array.toList_inj.1 h
theorem of_strings {n : Nat} {g : Nat → Int} {c : Int} (hg : ∀ i, 0 ≤ g i ∧ g i ≤ 255) (hc : combo n g = c) :
 (ofP n g = c ∧ strOf (enc c).length (at_ (enc c)) = strOf n g) ∨ (ofP n g = -1 ∧ ((strOf (enc c).length (at_ (enc c))).toList == (strOf n g).toList) = false) := by
 unfold ofP;rw [hc];have := strOf_eq (n := n) (enc_bytes c) hg;by_cases h : enc c = (List.range n).map g
 ·exact Or.inl ⟨if_pos h, this.2 h⟩
 ·exact Or.inr ⟨if_neg h, beq_eq_false_iff_ne.2 fun e => h (this.1 (toList_inj e))⟩
theorem intPost {r a : Int} {w w' : World} (h : r = a) (hb : Below w.heap.size w w') : IntPost r w (.returned (.int .i64 a)) w' := by rw [h]; exact ⟨rfl, hb⟩
end utfw
end
section
namespace bulk
open sq
open Go Go.RowKit
def acts (P : Program) (w : World) : List Oper → Act → Act
 | [], a => a
 | o :: r, a => match (execOp a.eval o).run P w with
  | .ok (.value v) _ => acts P w r (a.put o.dst v)
  | _ => a
def bulk (P : Program) : List Oper → Act → World → Option (Act × World)
 | [], a, w => some (a, w)
 | o :: r, a, w => match o.guard with
  | some _ => none
  | none => match (execOp a.eval o).run P w with
   | .ok (.value v) w' => bulk P r (a.put o.dst v) w'
   | _ => none
theorem wpList_value {P : Program} {ops : Array Oper} {Q : Exit → Act → World → Prop} {rest : List Oper} {o : Oper} {a : Act} {w w' : World} {v : Value} (hg : o.guard = none)
 (h : (execOp a.eval o).run P w = .ok (.value v) w') (hr : wpList P ops Q rest (a.put o.dst v) w') : wpList P ops Q (o :: rest) a w :=
 wpList_plain hg fun K hK => by unfold Oper.wp;rw [h];exact hK _ _ hr
theorem wpList_bulk {P : Program} {ops : Array Oper} {Q : Exit → Act → World → Prop} (l : List Oper) {rest : List Oper} {a' : Act} {w' : World} (hr : wpList P ops Q rest a' w') :
 ∀ (a : Act) (w : World), bulk P l a w = some (a', w') → wpList P ops Q (l ++ rest) a w := by
 induction l with
 | nil =>
  intro a w h;simp only [bulk, dG, dL] at h;obtain ⟨rfl, rfl⟩ := h;exact hr
 | cons o r ih =>
  intro a w h;unfold bulk at h;split at h
  ·cases h
  ·rename_i hg;split at h
   ·rename_i v w1 hv;exact wpList_value hg hv (ih _ _ h)
   ·cases h
theorem wpList_bulk_n {P : Program} {ops : Array Oper} {Q : Exit → Act → World → Prop} {l : List Oper} (n : Nat) {a a' : Act} {w w' : World} (h : bulk P (l.take n) a w = some (a', w')) (hr : wpList P ops Q (l.drop n) a' w') :
 wpList P ops Q l a w := by
 have := wpList_bulk (l.take n) hr a w h;rwa [List.take_append_drop] at this
theorem wpList_bulk_x {P : Program} {ops : Array Oper} {Q : Exit → Act → World → Prop} {l : List Oper} (n : Nat) {a : Act} {w : World} (w' : World) (h : bulk P (l.take n) a w = some (acts P w (l.take n) a, w'))
 (hr : wpList P ops Q (l.drop n) (acts P w (l.take n) a) w') : wpList P ops Q l a w := wpList_bulk_n n h hr
theorem eval_put_same {a : Act} {d : Nat} {v : Value} (h : d < a.tmps.size) : (a.put (some d) v).eval (.tmp d) = v := by simp [Act.put, Act.eval, Array.getD, h]
theorem run_assign {P : Program} {w : World} {ρ : Operand → Value} {o : Oper} {x : Operand} {v : Value} (ho : o.op = .assign x) (hv : ρ x = v) : (execOp ρ o).run P w = .ok (.value v) w := by unfold execOp; rw [ho]; subst hv; rfl
theorem getD_of_eval {a : Act} {t : Nat} {v : Value} (h : a.eval (.tmp t) = v) : a.tmps.getD t undef = v := h
end bulk
end
section
namespace ucdw
open sq
open Go Go.RowKit bulk ucdp
theorem cell_lt {w : World} {a : Addr} {v : Value} (h : w.cell? a = some v) : a.block < w.heap.size := by exact z125
theorem qf {w w' : World} (h : Below w.heap.size w w') {a : Addr} {v : Value} (hc : w.cell? a = some v) : w'.cell? a = some v := by rw [h.cell (cell_lt hc)]; exact hc
theorem qi {a b c : World} (h : Below a.heap.size a b) (k : Below b.heap.size b c) : Below a.heap.size a c := h.trans (k.mono h.size)
theorem qg (w : World) (o : Obj) : Below w.heap.size w (w.alloc o) := (Below.refl _ _).alloc (xL _) _
theorem infoInt : (Try.prog.info? 3).map (fun i => (i.zero, i.size, i.bytes)) = some (some (.int .i64 0), 1, 8) := by kernel_rfl
def ic (l : List Int) : List Value := l.map (Value.int .i64)
def OwnI (w : World) (base : Nat) (v : Value) (D : List Int) : Prop := w.ownsRow base 3 1 v D.length (ic D)
theorem ownI_nil (w : World) (base : Nat) : OwnI w base (.slice none 0 0) [] := World.ownsRow_nil w base _ 1
def IntsAt (base : Nat) (w : World) (v : Value) (l : List Int) : Prop :=
 (l = [] ∧ v = .slice none 0 0) ∨ (l ≠ [] ∧ ∃ b cap : Nat, v = .slice (some ⟨b, 0, none⟩) l.length cap ∧ base ≤ b ∧ b < w.heap.size ∧ l.length ≤ cap ∧ cap ≤ 9223372036854775807 ∧ ∀ i, i < l.length → w.cell? ⟨b, i, none⟩ = some (.int .i64 (l.getD i 0)))
def IntsB (l : List Int) (w : World) (e : Ending) (w' : World) : Prop := ∃ v, e = .returned v ∧ IntsAt w.heap.size w' v l ∧ Below w.heap.size w w'
theorem intsAt_own {w : World} {base : Nat} {v : Value} {D : List Int} (h : OwnI w base v D) (hD : D ≠ []) : IntsAt base w v D := by
 have h' := h;obtain ⟨_, h2⟩ := h;rcases h2 with ⟨_, hn⟩ | ⟨g, cap, cur, hv, hg, hh, hnc, hcm, _⟩
 ·exact absurd (List.eq_nil_of_length_eq_zero hn) hD
 ·unfold maxLen at hcm;have hlt : g < w.heap.size := by exact z136
  refine Or.inr ⟨hD, g, cap, hv, hg, hlt, hnc, by omega, fun k hk => ?_⟩;unfold OwnI at h';rw [hv] at h';rw [h'.cellAt k (by omega)];simp [ic, List.getD, hk]
theorem intsB_nil {l : List Int} {w w' : World} (h : l = []) (hb : Below w.heap.size w w') : IntsB l w (.returned (.slice none 0 0)) w' := by subst h;exact ⟨_, rfl, Or.inl ⟨rfl, rfl⟩, hb⟩
theorem intsB_one {l : List Int} {x : Int} {w w' : World} (h : l = [x]) (hb : Below w.heap.size w w') (T : TypeId) : IntsB l w (.returned (.slice (some ⟨w'.heap.size, 0, none⟩) 1 1)) (w'.alloc (.cells #[.int .i64 x] T)) := by
 subst h;refine ⟨_, rfl, Or.inr ⟨by simp, _, 1, rfl, hb.size, by simp, by simp, by omega, fun i hi => ?_⟩, qi hb (qg _ _)⟩;have h0 : i = 0 := by simpa using hi
 subst h0;simp
theorem intsAt_mono {b b' : Nat} {w : World} {v : Value} {l : List Int} (h : b ≤ b') (hv : IntsAt b' w v l) : IntsAt b w v l := by
 rcases hv with hv | ⟨hl, g, cap, e, hg, r⟩
 ·exact Or.inl hv
 ·exact Or.inr ⟨hl, g, cap, e, Nat.le_trans h hg, r⟩
end ucdw
end
section
namespace setw
open sq
open Go Go.RowKit bulk ucdp ucdw setp
def Wf (l : List Rg) : Prop := ∀ r ∈ l, (-9223372036854775808 ≤ r.1 ∧ r.1 ≤ 9223372036854775807) ∧ (-9223372036854775808 ≤ r.2 ∧ r.2 ≤ 9223372036854775807)
def RsAt (w : World) (v : Value) (l : List Rg) : Prop :=
 Wf l ∧ ((l = [] ∧ ∃ a cap, v = .slice a 0 cap ∧ cap ≤ 9223372036854775807) ∨ (l ≠ [] ∧ ∃ b off cap, v = .slice (some ⟨b, off, none⟩) l.length cap ∧ l.length ≤ cap ∧ cap ≤ 9223372036854775807 ∧
  ∀ i (hi : i < l.length), w.cell? ⟨b, off + i * 2, none⟩ = some (.int .i64 l[i].1) ∧ w.cell? ⟨b, off + i * 2 + 1, none⟩ = some (.int .i64 l[i].2)))
theorem jl {w w' : World} {v : Value} {l : List Rg} (h : RsAt w v l) (hb : Below w.heap.size w w') : RsAt w' v l := by
 obtain ⟨hw, h | ⟨hS, b, off, cap, hv, h1, h2, hc⟩⟩ := h
 ·exact ⟨hw, Or.inl h⟩
 ·exact ⟨hw, Or.inr ⟨hS, b, off, cap, hv, h1, h2, fun i hi => ⟨qf hb (hc i hi).1, qf hb (hc i hi).2⟩⟩⟩
theorem jg {w : World} {v : Value} {l : List Rg} (h : RsAt w v l) : ∃ a cap, v = .slice a l.length cap := by
 obtain ⟨_, ⟨h, a, cap, hv, _⟩ | ⟨_, b, off, cap, hv, _⟩⟩ := h
 ·subst h; exact ⟨_, _, hv⟩
 ·exact ⟨_, _, hv⟩
theorem infoRange : (Try.prog.info? 69).map (fun i => (i.zero, i.size, i.bytes)) = some (some (.agg #[.int .i64 0, .int .i64 0]), 2, 16) := by kernel_rfl
def rcs (l : List Rg) : List Value := l.flatMap fun r => [.int .i64 r.1, .int .i64 r.2]
def OwnR (w : World) (base : Nat) (v : Value) (D : List Rg) : Prop := w.ownsRow base 69 2 v D.length (rcs D) ∧ (D = [] → v = .slice none 0 0)
theorem qm (w : World) (base : Nat) : OwnR w base (.slice none 0 0) [] := ⟨World.ownsRow_nil w base _ 2, fun _ => rfl⟩
def hasB (S : List Rg) (c : Int) : Bool := S.any fun r => decide (r.1 ≤ c) && decide (c ≤ r.2)
theorem zX {S : List Rg} {c : Int} : hasB S c = true ↔ Has S c := by simp [hasB, Has]
theorem ownR_slice {w : World} {base : Nat} {v : Value} {S : List Rg} (h : OwnR w base v S) (hS : S ≠ []) : ∃ g cap : Nat, v = .slice (some ⟨g, 0, none⟩) S.length cap ∧ base ≤ g ∧ S.length ≤ cap ∧ cap ≤ 9223372036854775807 ∧
 ∀ i (hi : i < S.length), w.cell? ⟨g, i * 2, none⟩ = some (.int .i64 S[i].1) ∧ w.cell? ⟨g, i * 2 + 1, none⟩ = some (.int .i64 S[i].2) := by
 have h1 := h.1;obtain ⟨_, h2⟩ := h.1;rcases h2 with ⟨_, hn⟩ | ⟨g, cap, cur, hv, hg, hh, hnc, hcm, _⟩
 ·exact absurd (List.eq_nil_of_length_eq_zero hn) hS
 ·unfold maxLen at hcm;rw [hv] at h1;refine ⟨g, cap, hv, hg, hnc, by omega, fun i hi => ?_⟩;have hr : ∀ (l : List Rg) (i : Nat) (hi : i < l.length), (rcs l)[i * 2]? = some (.int .i64 l[i].1) ∧ (rcs l)[i * 2 + 1]? = some (.int .i64 l[i].2) := by
   intro l
   induction l with
   | nil => intro i hi; cases hi
   | cons r l ih =>
    intro i hi;cases i with
    | zero => exact ⟨rfl, rfl⟩
    | succ i =>
     exact z49
  have := hr S i hi;constructor
  ·rw [h1.cellAt _ (by omega)]; exact this.1
  ·rw [h1.cellAt _ (by omega)]; exact this.2
theorem qN {w : World} {base : Nat} {v : Value} {S : List Rg} (h : OwnR w base v S) : ∃ a cap, v = .slice a S.length cap := by
 by_cases hS : S = []
 ·subst hS; exact ⟨_, _, h.2 rfl⟩
 ·obtain ⟨g, cap, hv, _⟩ := ownR_slice h hS;exact ⟨_, _, hv⟩
theorem hasB_take {S : List Rg} {k : Nat} (hk : k < S.length) (c : Int) : hasB (S.take (k + 1)) c = (hasB (S.take k) c || (decide (S[k].1 ≤ c) && decide (c ≤ S[k].2))) := by unfold hasB;rw [take_snoc hk, List.any_append];simp
theorem jX {S : List Rg} (h : InR S) : Wf S := fun r hr => by
 have := h r hr;omega
theorem vP {w : World} {base : Nat} {v : Value} {S : List Rg} (h : OwnR w base v S) (hw : Wf S) : RsAt w v S := by
 refine ⟨hw, ?_⟩;by_cases hS : S = []
 ·subst hS;exact Or.inl ⟨rfl, _, _, h.2 rfl, by omega⟩
 ·obtain ⟨g, cap, hv, _, h1, h2, hc⟩ := ownR_slice h hS;exact Or.inr ⟨hS, g, 0, cap, hv, h1, h2, fun i hi => by simpa using hc i hi⟩
end setw
end
section
namespace tkw
open sq
open Go Go.RowKit Go.Maps utfp utfw ucdp setp setw prp tkp
abbrev ob00 : Obj := .cells #[.int .i64 15, .int .i64 0, .int .i64 0, .int .i64 0, .slice none 0 0, .bool false, .int .i64 0, .int .i64 0, .int .i64 0, .string ⟨#[]⟩, .int .i64 0, .int .i64 0] 90
abbrev ob01 : Obj := .cells #[.int .i64 10, .int .i64 0, .int .i64 0, .int .i64 0, .slice none 0 0, .bool false, .int .i64 0, .int .i64 0, .int .i64 0, .string ⟨#[]⟩, .int .i64 0, .int .i64 0] 90
abbrev ob02 : Obj := .cells #[.int .i64 10, .int .i64 0, .int .i64 0, .int .i64 0, .slice none 0 0, .bool false, .int .i64 1, .int .i64 0, .int .i64 0, .string ⟨#[]⟩, .int .i64 0, .int .i64 0] 90
structure Kept (B L : Nat) (w w' : World) : Prop where
 os : w'.os = w.os
 tape : w'.tape = w.tape
 output : w'.output = w.output
 size : w.heap.size ≤ w'.heap.size
 block : ∀ k, k < B → k ≠ L → w'.heap[k]? = w.heap[k]?
theorem Kept.refl (B L : Nat) (w : World) : Kept B L w w := ⟨rfl, rfl, rfl, xL _, fun _ _ _ => rfl⟩
theorem Kept.trans {B L : Nat} {a b c : World} (h : Kept B L a b) (k : Kept B L b c) : Kept B L a c :=
 ⟨k.os.trans h.os, k.tape.trans h.tape, k.output.trans h.output, Nat.le_trans h.size k.size, fun i hi hL => (k.block i hi hL).trans (h.block i hi hL)⟩
theorem Kept.mono {B B' L : Nat} {w w' : World} (h : Kept B L w w') (hB : B' ≤ B) : Kept B' L w w' := ⟨h.os, h.tape, h.output, h.size, fun k hk => h.block k (Nat.lt_of_lt_of_le hk hB)⟩
theorem Kept.then {L : Nat} {a b c : World} (h : Kept a.heap.size L a b) (k : Kept b.heap.size L b c) : Kept a.heap.size L a c := h.trans (k.mono h.size)
theorem Kept.of_below {B L : Nat} {w w' : World} (h : Below B w w') : Kept B L w w' := ⟨h.os, h.tape, h.output, h.size, fun k hk _ => h.block k hk⟩
theorem Kept.below {B L : Nat} {w w' : World} (h : Kept B L w w') (hB : L < B) : Below L w w' := ⟨h.os, h.tape, h.output, h.size, fun k hk => h.block k (Nat.lt_trans hk hB) (Nat.ne_of_lt hk)⟩
theorem Kept.grown {L : Nat} {w w' : World} (h : Kept w.heap.size L w w') : w.grownBy w' (some L) := ⟨h.os, h.tape, h.output, h.size, fun k hk hne => h.block k hk (fun e => hne (by rw [e]))⟩
theorem Kept.cell {B L : Nat} {w w' : World} (h : Kept B L w w') {a : Addr} (hB : a.block < B) (hL : a.block ≠ L) : w'.cell? a = w.cell? a := World.cell?_of_block (h.block a.block hB hL)
theorem Kept.frozen {B L : Nat} {w w' : World} (h : Kept B L w w') {a : Addr} (hB : a.block < B) (hL : a.block ≠ L) : w'.frozen? a = w.frozen? a := World.frozen?_of_block (h.block a.block hB hL)
theorem Kept.setCell {B L : Nat} {a w : World} (h : Kept B L a w) (o : Nat) (v : Value) : Kept B L a (w.setCell ⟨L, o, none⟩ v) :=
 h.trans ⟨rfl, rfl, rfl, by simp [World.setCell], fun k _ hL => Below.heap_setCell w ⟨L, o, none⟩ v k hL⟩
theorem Kept.alloc {B L : Nat} {a w : World} (h : Kept B L a w) (hB : B ≤ w.heap.size) (o : Obj) : Kept B L a (w.alloc o) :=
 h.trans (Kept.of_below ((Below.refl _ _).alloc hB o))
theorem Kept.drew {B L : Nat} {a w : World} (h : Kept B L a w) : Kept B L a w.drew := ⟨h.os, h.tape, h.output, h.size, h.block⟩
theorem Kept.drewN {B L : Nat} {a w : World} (h : Kept B L a w) (n : Nat) : Kept B L a (w.drewN n) := ⟨h.os, h.tape, h.output, h.size, h.block⟩
def qO (v : Value) (t : Tk) : List Value := [.int .i64 t.kind, .int .i64 t.at_, .int .i64 t.to, .int .i64 t.c, v, .bool t.neg, .int .i64 t.n, .int .i64 t.m, .int .i64 t.mode, .string t.name, .int .i64 t.on, .int .i64 t.off]
def yw (w : World) (base : Nat) (v : Value) (T : List Tk) : Prop :=
 ∃ l : List (Tk × Value), l.map (·.1) = T ∧ (∀ p ∈ l, OwnR w base p.2 p.1.set) ∧ w.ownsRow base 90 12 v l.length (l.flatMap fun p => qO p.2 p.1)
theorem own_lt {w : World} {base : Nat} {e : TypeId} {size : Nat} {v : Value} {n : Nat} {xs : List Value} (h : w.ownsRow base e size v n xs) {L : Nat} (hL : L < base) : v.ownBlock = none ∨ v.ownBlock ≠ some L := by
 cases hv : v.ownBlock with
 | none => exact Or.inl rfl
 | some k =>
  refine Or.inr fun e => ?_
  have := (World.ownsRow.lt h k hv).1;simp only [dG] at e;omega
theorem ownR_kept {w w' : World} {base L : Nat} {v : Value} {D : List Rg} (h : OwnR w base v D) (hk : Kept w.heap.size L w w') (hL : L < base) : OwnR w' base v D := ⟨World.ownsRow.kept h.1 hk.grown (own_lt h.1 hL), h.2⟩
theorem tokRow_kept {w w' : World} {base L : Nat} {v : Value} {T : List Tk} (h : yw w base v T) (hk : Kept w.heap.size L w w') (hL : L < base) : yw w' base v T := by obtain ⟨l, h1, h2, h3⟩ := h;exact ⟨l, h1, fun p hp => ownR_kept (h2 p hp) hk hL, World.ownsRow.kept h3 hk.grown (own_lt h3 hL)⟩
theorem heap_set {w : World} {L o : Nat} {C : Array Value} {T : TypeId} {fz : Nat × Nat} {v : Value} (h : w.heap[L]? = some (.cells C T fz)) : (w.setCell ⟨L, o, none⟩ v).heap[L]? = some (.cells (C.setIfInBounds o v) T fz) := by simp [World.setCell, Array.getElem?_modify, h]
def sg (s : ByteArray) (i : Nat) : Int := ((s.data.toList.getD i 0).toNat : Int)
theorem sg_bd (s : ByteArray) (i : Nat) : 0 ≤ sg s i ∧ sg s i ≤ 255 := by unfold sg;have := UInt8.toNat_lt (s.data.toList.getD i 0);omega
theorem jM (w : World) (s : ByteArray) : Below w.heap.size w (Lib.bytesWorld w 5 s) := by
 refine ⟨?_, ?_, ?_, by rw [Lib.bytesWorld_size]; omega, fun k hk => Lib.bytesWorld_at_old w 5 s k hk⟩
 all_goals (unfold Lib.bytesWorld World.freeze; split <;> rfl)
theorem vJ (w : World) (s : ByteArray) (hs : s.size ≤ 1000) : (convert 9 22 (.string s)).run Try.prog w = .ok (.slice (some ⟨w.heap.size, 0, none⟩) s.size (grownCap w s.size 0 5)) (Lib.bytesWorld w 5 s) ∧
 Sl (Lib.bytesWorld w 5 s) (.slice (some ⟨w.heap.size, 0, none⟩) s.size (grownCap w s.size 0 5)) s.size (sg s) := by
 refine ⟨Lib.run_convert_string_bytes w _ _ _ s Try.underlying9 Try.underlying22 Try.underlying5, sg_bd s, by omega, Or.inr ⟨_, 0, _, rfl, ⟨grownCap_ge _ _ _ _, ?_⟩, fun i hi => ?_⟩⟩
 ·have := grownCap_le_maxLen w s.size 0 5 (by unfold maxLen; omega);unfold maxLen at this;omega
 ·rw [Nat.zero_add, Lib.bytesWorld_cell w _ s i hi];rfl
theorem zI {B : Nat} {w w' : World} (h : Below B w w') (n : Nat) : Below B w (w'.drewN n) := ⟨h.os, h.tape, h.output, h.size, h.block⟩
theorem Kept.lt {L : Nat} {w w' : World} (h : Kept w.heap.size L w w') : w.heap.size ≤ w'.heap.size := h.size
theorem char_pure {p : Pt} (hg : ∀ i, 0 ≤ p.g i ∧ p.g i ≤ 255) {a : Nat} (ha : a ≤ p.n) : nextP p.u p.g p.n a = ((p.char a).1, ((p.char a).2 : Int)) ∧ a ≤ (p.char a).2 ∧ (p.char a).2 ≤ p.n ∧ (a < p.n → a < (p.char a).2) := by
 unfold Pt.char;by_cases h : a < p.n
 ·obtain ⟨s1, s2, s3⟩ := stepN_bd (utf := p.u) hg h;rw [nextP_step _ _ _ _ hg h];simp only [Int.toNat_natCast];exact ⟨trivial, by omega, s2, fun _ => s1⟩
 ·have : nextP p.u p.g p.n a = (-1, (a : Int)) := by unfold nextP; rw [if_pos (by omega)]
  rw [this];simp only [Int.toNat_natCast];exact ⟨trivial, by omega, ha, fun hlt => absurd hlt h⟩
theorem run_bd {p : Pt} {fits : Int → Bool} : ∀ {k a : Nat}, a ≤ p.n → a ≤ p.run fits k a ∧ p.run fits k a ≤ p.n ∧ p.run fits k a ≤ a + k
 | 0, a, h => ⟨xL _, h, xL _⟩
 | k + 1, a, h => by
  unfold Pt.run;split
  ·rename_i hc;simp only [dK, dF] at hc;have := run_bd (p := p) (fits := fits) (k := k) (a := a + 1) (by omega);omega
  ·exact ⟨xL _, h, by omega⟩
theorem run_fits {p : Pt} {fits : Int → Bool} : ∀ {k a i : Nat}, a ≤ i → i < p.run fits k a → fits (p.g i) = true
 | 0, a, i, h1, h2 => by unfold Pt.run at h2; omega
 | k + 1, a, i, h1, h2 => by
  unfold Pt.run at h2;split at h2
  ·rename_i hc;simp only [dK, dF] at hc;by_cases e : i = a
   ·subst e; exact hc.2
   ·exact run_fits (k := k) (a := a + 1) (by omega) h2
  ·omega
theorem sub_size (p : Pt) (a b : Nat) : (p.sub a b).size = b - a := by show (strOfNums _).data.size = _;simp [strOfNums]
theorem sub_at {p : Pt} (hg : ∀ i, 0 ≤ p.g i ∧ p.g i ≤ 255) {a b k : Nat} (hk : k < (p.sub a b).size) : (((p.sub a b)[k]'hk).toNat : Int) = p.g (a + k) := by have h2 := hk;rw [sub_size] at h2;have := hg (a + k);show (((strOfNums _).data[k]'_).toNat : Int) = _;simp [strOfNums];omega
theorem val_bd {p : Pt} {a : Nat} : ∀ k, (∀ i, i < k → 48 ≤ p.g (a + i) ∧ p.g (a + i) ≤ 57) → 0 ≤ p.val a k ∧ p.val a k ≤ 256
 | 0, _ => by simp [Pt.val]
 | k + 1, h => by
  have h1 := val_bd k fun i hi => h i (by omega)
  have h2 := h k (by omega);unfold Pt.val;omega
theorem not_empty {s : ByteArray} (h : 0 < s.size) : s.toList.isEmpty = false := by
 cases hs : s.toList with
 | nil =>
  rw [Lib.toList_data] at hs;have : s.data.toList.length = s.size := rfl;rw [hs] at this;simp at this;omega
 | cons x l => rfl
theorem find_bd {p : Pt} {c : Int} : ∀ {k a i : Nat}, p.find c k a = some i → a ≤ i ∧ i < a + k
 | 0, a, i, h => by cases h
 | k + 1, a, i, h => by
  unfold Pt.find at h;split at h
  ·cases h; omega
  ·have := find_bd h; omega
theorem qK (w : World) (o : Obj) : Below w.heap.size w (w.alloc o) := (Below.refl _ _).alloc (xL _) o
def tkA (v : Value) (t : Tk) : Array Value := #[.int .i64 t.kind, .int .i64 t.at_, .int .i64 t.to, .int .i64 t.c, v, .bool t.neg, .int .i64 t.n, .int .i64 t.m, .int .i64 t.mode, .string t.name, .int .i64 t.on, .int .i64 t.off]
theorem vI : (Try.prog.info? 90).map (fun i => (i.zero, i.size, i.bytes)) = some (some (.agg #[.int .i64 0, .int .i64 0, .int .i64 0, .int .i64 0, .slice none 0 0, .bool false, .int .i64 0, .int .i64 0, .int .i64 0, .string ⟨#[]⟩, .int .i64 0, .int .i64 0]), 12, 120) := by kernel_rfl
theorem own_apart {w : World} {b1 b2 : Nat} {e1 e2 : TypeId} {s1 s2 : Nat} {v1 v2 : Value} {n1 n2 : Nat} {xs1 xs2 : List Value} (h1 : w.ownsRow b1 e1 s1 v1 n1 xs1) (h2 : w.ownsRow b2 e2 s2 v2 n2 xs2) (he : e1 ≠ e2) : v1.ownBlock = none ∨ v1.ownBlock ≠ v2.ownBlock := by
 obtain ⟨_, ⟨rfl, _⟩ | ⟨g1, c1, cu1, rfl, _, k1, _⟩⟩ := h1
 ·exact Or.inl rfl
 ·obtain ⟨_, ⟨rfl, _⟩ | ⟨g2, c2, cu2, rfl, _, k2, _⟩⟩ := h2
  ·exact Or.inr (by simp [Value.ownBlock])
  ·refine Or.inr fun e => he ?_
   simp only [Value.ownBlock, dG] at e;subst e;rw [k1] at k2;simp only [dG, Obj.cells.injEq] at k2;exact k2.2.1
theorem tkA_cells (v : Value) (t : Tk) : (tkA v t).toList = qO v t := rfl
def tkR (v : Value) (t : Tk) : Array Value := #[.int .i64 t.kind, .int .i64 0, .int .i64 0, .int .i64 t.c, v, .bool t.neg, .int .i64 t.n, .int .i64 t.m, .int .i64 t.mode, .string t.name, .int .i64 t.on, .int .i64 t.off]
theorem tokInfo : (Try.prog.info? 90).map (·.size) = some 12 := by kernel_rfl
theorem qX {ops : Array Oper} {rest : List Oper} {o : Oper} {a : Act} {w : World} {Q : Exit → Act → World → Prop} (hgd : o.guard = none) (x : Operand) (ho : o.op = .load 90 x)
 (g : Nat) (hx : a.eval x = .pointer (some ⟨g, 0, none⟩)) (cs : Array Value) (hg : w.heap[g]? = some (.cells cs 90 (0, 0))) (hc : cs.size = 12)
 (h : wpList Try.prog ops Q rest (a.put o.dst (.agg cs)) w) : wpList Try.prog ops Q (o :: rest) a w := by
 exact wpList_load_row hgd 90 x ho g hx 90 cs (0, 0) _ hg Try.underlying90 rfl (by rw [tokInfo, hc]) h
theorem setRow_other (w : World) (g k : Nat) (cs : Array Value) (h : k ≠ g) : (w.setRow g cs).heap[k]? = w.heap[k]? := by simp only [World.setRow, Array.getElem?_modify];rw [if_neg (by omega)]
theorem setRow_size (w : World) (g : Nat) (cs : Array Value) : (w.setRow g cs).heap.size = w.heap.size := by simp [World.setRow]
theorem Kept.setRow {B L : Nat} {a w : World} (h : Kept B L a w) {g : Nat} (hg : B ≤ g) (cs : Array Value) : Kept B L a (w.setRow g cs) :=
 h.trans ⟨rfl, rfl, rfl, by rw [setRow_size]; exact xL _, fun k hk _ => setRow_other w g k cs (by omega)⟩
theorem jJ {w w' : World} {base : Nat} {e : TypeId} {size : Nat} {v : Value} {n : Nat} {xs : List Value} (h : w.ownsRow base e size v n xs) (hb : ∀ k, v.ownBlock = some k → w'.heap[k]? = w.heap[k]?) : w'.ownsRow base e size v n xs := by exact z108
end tkw
end
section
namespace setw
open sq
open Go Go.RowKit Go.Shelf bulk ucdp ucdw setp flt setl
theorem below_draws {B : Nat} {w w' : World} (h : Below B w w') (n : Nat) : Below B w (w'.drewN n) := ⟨h.os, h.tape, h.output, h.size, h.block⟩
def IntB (n : Int) (w : World) (e : Ending) (w' : World) : Prop := e = .returned (.int .i64 n) ∧ Below w.heap.size w w'
end setw
end
section
namespace prw
open sq
open Go Go.RowKit bulk ucdp ucdw setp prp
theorem beqS (a b : ByteArray) : (a.toList == b.toList) = decide (a = b) := by
 rw [Lib.toList_data, Lib.toList_data];by_cases h : a = b
 ·subst h; simp
 ·rw [decide_eq_false h, beq_eq_false_iff_ne];intro e;exact h (by
   obtain ⟨x⟩ := a;obtain ⟨y⟩ := b
   congr 1
   exact Array.toList_inj.1 e)
theorem eqS (a b : ByteArray) : a.toList = b.toList ↔ a = b := by rw [← beq_iff_eq, beqS, decide_eq_true_iff]
end prw
end
end Go.Proofs.Ytdgfclbajjjcgaa
