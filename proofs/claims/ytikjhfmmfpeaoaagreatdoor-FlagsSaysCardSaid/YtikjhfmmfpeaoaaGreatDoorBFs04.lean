/- T -/
import Derived.BigQuiet
import Derived.Deep.CutBlock
import Derived.Deep.DeepCutAuto
import Derived.Deep.QuietTactic
import Derived.Deep.RegionWith
import Derived.IntWalk
import Derived.Laws.BytesArg
import Derived.Lib.Hide
import Derived.Lib.LaidTab
import Derived.OpenShut
import Derived.Outline
import Derived.ProofKit
import Derived.Test.YtikjhfmmfpeaoaaGreatDoorRows
import Derived.WalkKit
import Derived.Test.YtikjhfmmfpeaoaaGreatDoorBFs03
set_option maxHeartbeats 16000000
set_option maxRecDepth 1000000
namespace Go.Proofs.YtikjhfmmfpeaoaaGreatDoor
section
namespace tkp
open sq
open Go utfp ucdp setp prp
structure Pt where
 g : Nat → Int
 n : Nat
 u : Bool
 x : Bool
def Pt.most (p : Pt) : Int := if p.u = true then 1114111 else 255
structure Tk where
 kind : Int
 at_ : Nat := 0
 «to» : Nat := 0
 c : Int := 0
 set : List Rg := []
 neg : Bool := false
 n : Int := 0
 m : Int := 0
 mode : Int := 0
 name : ByteArray := ⟨#[]⟩
 on : Int := 0
 off : Int := 0
abbrev R (α : Type) := Except (Int × Int) α
def Pt.er (p : Pt) (e : Int) (f : Nat) : Int × Int := if e = 20 then (20, p.n) else (e, f)
def isDig (c : Int) : Bool := decide (48 ≤ c) && decide (c ≤ 57)
def isLet (c : Int) : Bool := decide (65 ≤ c) && decide (c ≤ 90) || decide (97 ≤ c) && decide (c ≤ 122)
def isWrd (c : Int) : Bool := isLet c || isDig c || decide (c = 95)
def zn (c : Int) : Bool := isDig c || decide (65 ≤ c) && decide (c ≤ 70) || decide (97 ≤ c) && decide (c ≤ 102)
def optV (c : Int) : Nat := if c = 105 then 1 else if c = 109 then 2 else if c = 115 then 4 else if c = 85 then 16 else 0
def isOpt (c : Int) : Bool := optV c != 0
def Pt.has (p : Pt) : List UInt8 → Nat → Bool
 | [], _ => true
 | c :: l, a => decide (a < p.n) && decide (p.g a = (c.toNat : Int)) && p.has l (a + 1)
def Pt.char (p : Pt) (a : Nat) : Int × Nat := ((nextP p.u p.g p.n a).1, (nextP p.u p.g p.n a).2.toNat)
def Pt.run (p : Pt) (fits : Int → Bool) : Nat → Nat → Nat
 | 0, a => a
 | k + 1, a => if decide (a < p.n) && fits (p.g a) then p.run fits k (a + 1) else a
def Pt.sub (p : Pt) (a b : Nat) : ByteArray := strOfNums ((List.range (b - a)).map fun i => p.g (a + i))
def Pt.find (p : Pt) (c : Int) : Nat → Nat → Option Nat
 | 0, _ => none
 | k + 1, a => if p.g a = c then some a else p.find c k (a + 1)
def Pt.until (p : Pt) (c : Int) (a : Nat) : Option Nat := p.find c (p.n - a) a
def Pt.val (p : Pt) (a : Nat) : Nat → Int
 | 0 => 0
 | k + 1 => min (p.val a k * 10 + (p.g (a + k) - 48)) 256
def Pt.digits (p : Pt) (a : Nat) : Int × Nat := (p.val a (p.run isDig 1000 a - a), p.run isDig 1000 a)
def Pt.number (p : Pt) (f a : Nat) : R (Int × Nat) := if 255 < (p.digits a).1 then .error (25, f) else .ok (p.digits a)
def Pt.sign (p : Pt) (a : Nat) : Int × Nat := if p.has [45] a = true then (1, a + 1) else if p.has [43] a = true then (2, a + 1) else (0, a)
def Pt.signed (p : Pt) (f a : Nat) : R (Option (Int × Int × Nat)) :=
 match p.number f (p.sign a).2 with
 | .error e => .error e
 | .ok (n, b) => if b = (p.sign a).2 then .ok none else .ok (some (n, (p.sign a).1, b))
def Pt.name (p : Pt) (a : Nat) : Nat × Bool := (p.run isWrd 1000 a, decide (a < p.run isWrd 1000 a) && !isDig (p.g a) && decide (p.run isWrd 1000 a - a ≤ 32))
def Pt.mode (p : Pt) (a : Nat) : Int × Nat := if p.has [63] a = true then (1, a + 1) else if p.has [43] a = true then (2, a + 1) else (0, a)
def Pt.bounds (p : Pt) (a : Nat) : Option (Int × Int × Nat) :=
 if (p.digits a).2 = a then none
 else if p.has [44] (p.digits a).2 = true then some ((p.digits a).1, (if (p.digits ((p.digits a).2 + 1)).2 = (p.digits a).2 + 1 then -1 else (p.digits ((p.digits a).2 + 1)).1), (p.digits ((p.digits a).2 + 1)).2)
 else some ((p.digits a).1, (p.digits a).1, (p.digits a).2)
def Pt.braces (p : Pt) (f : Nat) : R (Option (Int × Int × Nat)) :=
 if p.has [123] f = true then
  match p.bounds (f + 1) with
  | none => .ok none
  | some (n, m, b) => if p.has [125] b = true then
   (if 255 < n ∨ 255 < m then .error (25, f) else if 0 ≤ m ∧ m < n then .error (23, f) else .ok (some (n, m, b + 1)))
   else .ok none
 else .ok none
def Pt.quant (p : Pt) (f : Nat) : R (Option (Tk × Nat)) :=
 if p.has [42] f = true then .ok (some ({ kind := 9, n := 0, m := -1, mode := (p.mode (f + 1)).1 }, (p.mode (f + 1)).2))
 else if p.has [43] f = true then .ok (some ({ kind := 9, n := 1, m := -1, mode := (p.mode (f + 1)).1 }, (p.mode (f + 1)).2))
 else if p.has [63] f = true then .ok (some ({ kind := 9, n := 0, m := 1, mode := (p.mode (f + 1)).1 }, (p.mode (f + 1)).2))
 else match p.braces f with
  | .error e => .error e
  | .ok none => .ok none
  | .ok (some (n, m, b)) => .ok (some ({ kind := 9, n := n, m := m, mode := (p.mode b).1 }, (p.mode b).2))
def insR : Int → Int → List Rg → List Rg
 | a, b, [] => [(a, b)]
 | a, b, r :: S => if b + 1 < r.1 then (a, b) :: r :: S else if r.2 + 1 < a then r :: insR a b S else insR (min a r.1) (max b r.2) S
def normR (m : Int) : List Rg → List Rg
 | [] => []
 | r :: l => if min r.2 m < max r.1 0 then normR m l else insR (max r.1 0) (min r.2 m) (normR m l)
def notF (m : Int) : Int → List Rg → List Rg
 | lo, [] => addP [] lo m
 | lo, r :: S => if min (r.1 - 1) m < lo then notF m (r.2 + 1) S else (lo, min (r.1 - 1) m) :: notF m (r.2 + 1) S
def notR (m : Int) (S : List Rg) : List Rg := notF m 0 S
def propL (n : ByteArray) : List Rg := wl (fun c => hp n (cls c).1 (cls c).2.1) 93
def hexV (c : Int) : Int := if c ≤ 57 then c - 48 else if c ≤ 70 then c - 55 else c - 87
def Pt.hexVal (p : Pt) (a : Nat) : Nat → Int
 | 0 => 0
 | k + 1 => p.hexVal a k * 16 + hexV (p.g (a + k))
def Pt.hexd (p : Pt) (most a : Nat) : Int × Nat := (p.hexVal a (p.run zn most a - a), p.run zn most a)
def Pt.hexa (p : Pt) (f a : Nat) : R (Int × Nat) :=
 if p.has [123] a = true then
  (if (p.hexd 6 (a + 1)).2 = a + 1 ∨ p.has [125] (p.hexd 6 (a + 1)).2 = false ∨ p.most < (p.hexd 6 (a + 1)).1 ∨ (p.u = true ∧ 55296 ≤ (p.hexd 6 (a + 1)).1 ∧ (p.hexd 6 (a + 1)).1 ≤ 57343) then .error (21, f)
   else .ok ((p.hexd 6 (a + 1)).1, (p.hexd 6 (a + 1)).2 + 1))
 else .ok (p.hexd 2 a)
def Pt.propName (p : Pt) (a : Nat) : ByteArray × Nat :=
 if p.has [123] a = true then
  match p.until 125 (a + 1) with
  | none => (⟨#[]⟩, a + 1)
  | some i => (p.sub (a + 1) i, i + 1)
 else (p.sub a (p.char a).2, (p.char a).2)
def hat (s : ByteArray) : Bool := pre s ⟨#[94]⟩
def unhat (s : ByteArray) : ByteArray := if hat s = true then s.extract 1 s.size else s
def Pt.prop (p : Pt) (f a : Nat) (neg : Bool) : R (Tk × Nat) :=
 if isP (unhat (p.propName a).1) = true then .ok ({ kind := 2, set := normR p.most (propL (unhat (p.propName a).1)), neg := neg != hat (p.propName a).1 }, (p.propName a).2)
 else .error (24, f)
def ji (c : Int) : Int := if c = 97 then 7 else if c = 101 then 27 else if c = 102 then 12 else if c = 110 then 10 else if c = 114 then 13 else if c = 116 then 9 else 0
def vZ (c : Int) : Int := if c = 98 then 3 else if c = 66 then 4 else if c = 65 then 5 else if c = 122 then 6 else if c = 90 then 7 else if c = 71 then 8 else 0
def capB (c : Int) : Bool := decide (65 ≤ c) && decide (c ≤ 90)
def lowC (c : Int) : Int := if capB c = true then c + 32 else c
def Pt.common (p : Pt) (f : Nat) (c : Int) (a : Nat) : R (Option (Tk × Nat)) :=
 if ji c ≠ 0 then .ok (some ({ kind := 1, c := ji c }, a))
 else if c = 120 then (match p.hexa f a with | .error e => .error e | .ok (v, b) => .ok (some ({ kind := 1, c := v }, b)))
 else if c = 112 ∨ c = 80 then (match p.prop f a (decide (c = 80)) with | .error e => .error e | .ok r => .ok (some r))
 else if escB (lowC c) = true then .ok (some ({ kind := 2, set := normR p.most (escP (lowC c)), neg := capB c }, a))
 else .ok none
def Pt.posix (p : Pt) (f : Nat) : R (Option (Tk × Nat)) :=
 if p.has [91, 58] f = true then
  (let b := if p.has [94] (f + 2) = true then f + 3 else f + 2
   let e := p.run isLet 1000 b
   if p.has [58, 93] e = true then
    (if vz (p.sub b e) = true then .ok (some ({ kind := 2, set := normR p.most (jC (p.sub b e)), neg := p.has [94] (f + 2) }, e + 2)) else .error (22, f))
   else .ok none)
 else .ok none
def Pt.classEsc (p : Pt) (f a : Nat) : R (Tk × Nat) :=
 if a = p.n then .error (20, p.n)
 else match p.common f (p.char a).1 (p.char a).2 with
  | .error e => .error e
  | .ok (some r) => .ok r
  | .ok none => if (p.char a).1 = 98 then .ok ({ kind := 1, c := 8 }, (p.char a).2)
   else if (isLet (p.char a).1 || isDig (p.char a).1) = true then .error (21, f)
   else .ok ({ kind := 1, c := (p.char a).1 }, (p.char a).2)
def Pt.item (p : Pt) (a : Nat) : R (Tk × Nat) :=
 if a = p.n then .error (20, p.n)
 else match p.posix a with
  | .error e => .error e
  | .ok (some r) => .ok r
  | .ok none => if (p.char a).1 = 92 then p.classEsc a (p.char a).2 else .ok ({ kind := 1, c := (p.char a).1 }, (p.char a).2)
def Pt.members (p : Pt) (t : Tk) : List Rg := if t.kind = 1 then [(t.c, t.c)] else if t.neg = true then notR p.most t.set else t.set
def Pt.dash (p : Pt) (a : Nat) : Bool := !p.has [45, 93] a && p.has [45] a
def Pt.items (p : Pt) (a : Nat) : R (List Rg × Nat) :=
 match p.item a with
 | .error e => .error e
 | .ok (c, b) =>
  if (decide (c.kind = 1) && p.dash b) = true then
   match p.item (b + 1) with
   | .error e => .error e
   | .ok (d, b') => if d.kind ≠ 1 ∨ d.c < c.c then .error (23, a) else .ok ([(c.c, d.c)], b')
  else .ok (p.members c, b)
def Pt.more (p : Pt) : Nat → List Rg → Nat → R (List Rg × Nat)
 | 0, _, _ => .error (20, p.n)
 | k + 1, l, a => if p.has [93] a = true then .ok (l, a + 1)
  else match p.items a with
   | .error e => .error e
   | .ok (m, b) => p.more k (l ++ m) b
def Pt.cls (p : Pt) (a : Nat) : R (Tk × Nat) :=
 match p.items (if p.has [94] a = true then a + 1 else a) with
 | .error e => .error e
 | .ok (l, b) => match p.more (p.n + 1 - b) l b with
  | .error e => .error e
  | .ok (l', b') => .ok ({ kind := 2, set := normR p.most l', neg := p.has [94] a }, b')
def Pt.quotes (p : Pt) (a : Nat) : Int × List UInt8 × Nat :=
 if p.has [60] a = true then (12, [62], a + 1) else if p.has [39] a = true then (12, [39], a + 1) else if p.has [123] a = true then (11, [125], a + 1) else (11, [], a)
def Pt.refer (p : Pt) (f a : Nat) : R (Tk × Nat) :=
 match p.signed f (p.quotes a).2.2 with
 | .error e => .error e
 | .ok (some (n, m, b)) => if p.has (p.quotes a).2.1 b = false then .error (21, f)
  else if n = 0 ∧ ((p.quotes a).1 ≠ 12 ∨ m ≠ 0) then .error (25, f)
  else .ok ({ kind := (p.quotes a).1, n := n, m := m }, b + (p.quotes a).2.1.length)
 | .ok none => if (p.name (p.quotes a).2.2).2 = false ∨ (p.quotes a).2.1 = [] ∨ p.has (p.quotes a).2.1 (p.name (p.quotes a).2.2).1 = false then .error (21, f)
  else .ok ({ kind := (p.quotes a).1, m := 3, name := p.sub (p.quotes a).2.2 (p.name (p.quotes a).2.2).1 }, (p.name (p.quotes a).2.2).1 + (p.quotes a).2.1.length)
def Pt.nback (p : Pt) (f a : Nat) : R (Tk × Nat) :=
 if (p.name (p.quotes a).2.2).2 = false ∨ (p.quotes a).2.1 = [] ∨ p.has (p.quotes a).2.1 (p.name (p.quotes a).2.2).1 = false then .error (27, f)
 else .ok ({ kind := 11, m := 3, name := p.sub (p.quotes a).2.2 (p.name (p.quotes a).2.2).1 }, (p.name (p.quotes a).2.2).1 + (p.quotes a).2.1.length)
def lay (t : Tk) (f b : Nat) : Tk := { t with at_ := f, «to» := b }
def one (f : Nat) : R (Tk × Nat) → R (List Tk × Nat)
 | .error e => .error e
 | .ok (t, b) => .ok ([lay t f b], b)
def Pt.quoted (p : Pt) : Nat → Nat → List Tk × Nat
 | 0, a => ([], a)
 | k + 1, a => if a = p.n then ([], a) else if p.has [92, 69] a = true then ([], a + 2)
  else (lay { kind := 1, c := (p.char a).1 } a (p.char a).2 :: (p.quoted k (p.char a).2).1, (p.quoted k (p.char a).2).2)
def Pt.escape (p : Pt) (f a : Nat) : R (List Tk × Nat) :=
 if a = p.n then .error (20, p.n)
 else
  let c := (p.char a).1
  let b := (p.char a).2
  match p.common f c b with
  | .error e => .error e
  | .ok (some r) => one f (.ok r)
  | .ok none =>
   if vZ c ≠ 0 then one f (.ok ({ kind := 4, n := vZ c }, b))
   else if c = 81 then .ok (p.quoted (p.n - b) b)
   else if c = 69 then .ok ([], b)
   else if c = 78 then one f (.ok ({ kind := 2, set := [(10, 10)], neg := true }, b))
   else if c = 75 then one f (.ok ({ kind := 5 }, b))
   else if c = 82 then one f (.ok ({ kind := 6 }, b))
   else if c = 103 then one f (p.refer f b)
   else if c = 107 then one f (p.nback f b)
   else if c ≠ 48 ∧ isDig c = true then (match p.number f a with | .error e => .error e | .ok (n, b') => one f (.ok ({ kind := 11, n := n }, b')))
   else if c = 48 ∨ isLet c = true then .error (21, f)
   else one f (.ok ({ kind := 1, c := c }, b))
def groupsT : List (List UInt8 × Int) := [([124], 3), ([62], 4), ([61], 5), ([33], 6), ([60, 61], 7), ([60, 33], 8)]
def namingsT : List (List UInt8 × List UInt8 × Int × Int × Int) := [([60], [62], 10, 1, 0), ([80, 60], [62], 10, 1, 0), ([39], [39], 10, 1, 0), ([38], [41], 12, 0, 3), ([80, 62], [41], 12, 0, 3), ([80, 61], [41], 11, 0, 3)]
def looksT : List (List UInt8) := [[40, 63, 61], [40, 63, 33], [40, 63, 60, 61], [40, 63, 60, 33]]
def Pt.plainK (p : Pt) (a : Nat) : List (List UInt8 × Int) → Option (Tk × Nat)
 | [] => none
 | (s, k) :: l => if p.has s a = true then some ({ kind := 10, n := k }, a + s.length) else p.plainK a l
def Pt.naming (p : Pt) (f a : Nat) : List (List UInt8 × List UInt8 × Int × Int × Int) → R (Option (Tk × Nat))
 | [] => .ok none
 | (s, z, k, n, m) :: l => if p.has s a = true then
  (if (p.name (a + s.length)).1 = p.n then .error (20, p.n)
   else if (p.name (a + s.length)).2 = false ∨ p.has z (p.name (a + s.length)).1 = false then .error (27, f)
   else .ok (some ({ kind := k, n := n, m := m, name := p.sub (a + s.length) (p.name (a + s.length)).1 }, (p.name (a + s.length)).1 + z.length)))
  else p.naming f a l
def Pt.broken (p : Pt) (f a : Nat) : Int × Int := if a = p.n then (20, p.n) else (26, f)
def Pt.close (p : Pt) (f a : Nat) : R Nat := if p.has [41] a = true then .ok (a + 1) else .error (p.broken f a)
def Pt.counted (p : Pt) (f a : Nat) : R (Option (Tk × Nat)) :=
 match p.signed f a with
 | .error e => .error e
 | .ok none => .ok none
 | .ok (some (n, m, b)) => match p.close f b with
  | .error e => .error e
  | .ok b' => if n = 0 ∧ m ≠ 0 then .error (25, f) else .ok (some ({ kind := 12, n := n, m := m }, b'))
def Pt.orV (p : Pt) (a : Nat) : Nat → Nat
 | 0 => 0
 | k + 1 => p.orV a k ||| optV (p.g (a + k))
def Pt.letters (p : Pt) (a : Nat) : Nat × Nat := (p.orV a (p.run isOpt 1000 a - a), p.run isOpt 1000 a)
def Pt.minus (p : Pt) (a : Nat) : Nat × Nat := if p.has [45] a = true then p.letters (a + 1) else (0, a)
def Pt.settings (p : Pt) (f a : Nat) : R (Tk × Nat) :=
 let on := p.letters a
 let off := p.minus on.2
 if p.has [58] off.2 = true then .ok ({ kind := 10, n := 2, on := on.1, off := off.1 }, off.2 + 1)
 else match p.close f off.2 with
  | .error e => .error e
  | .ok b => .ok ({ kind := 15, on := on.1, off := off.1 }, b)
def Pt.test (p : Pt) (f a : Nat) : R (Option (Tk × Nat)) :=
 if p.has [68, 69, 70, 73, 78, 69] a = true then .ok (some ({ kind := 10, n := 12 }, a + 6))
 else if p.has [82, 38] a = true then .ok (if (p.name (a + 2)).2 = true then some ({ kind := 10, n := 11, m := 3, name := p.sub (a + 2) (p.name (a + 2)).1 }, (p.name (a + 2)).1) else none)
 else if p.has [82] a = true then (match p.number f (a + 1) with
  | .error e => .error e
  | .ok (n, b) => .ok (some ({ kind := 10, n := 11, mode := if b = a + 1 then -1 else n }, b)))
 else if p.has [60] a = true then .ok (if (p.name (a + 1)).2 = true ∧ p.has [62] (p.name (a + 1)).1 = true then some ({ kind := 10, n := 10, name := p.sub (a + 1) (p.name (a + 1)).1 }, (p.name (a + 1)).1 + 1) else none)
 else if p.has [39] a = true then .ok (if (p.name (a + 1)).2 = true ∧ p.has [39] (p.name (a + 1)).1 = true then some ({ kind := 10, n := 10, name := p.sub (a + 1) (p.name (a + 1)).1 }, (p.name (a + 1)).1 + 1) else none)
 else match p.signed f a with
  | .error e => .error e
  | .ok none => .ok none
  | .ok (some (n, m, b)) => .ok (some ({ kind := 10, n := 9, m := m, mode := n }, b))
def Pt.cond (p : Pt) (f a : Nat) : R (Tk × Nat) :=
 if looksT.any (fun s => p.has s a) = true then .ok ({ kind := 10, n := 13 }, a)
 else match p.test f (a + 1) with
  | .error e => .error e
  | .ok none => .error (32, f)
  | .ok (some (t, b)) => if p.has [41] b = false then .error (32, f) else if t.n = 9 ∧ t.mode = 0 then .error (25, f) else .ok (t, b + 1)
def verbsT : List (ByteArray × Int × Int) := [(⟨#[65, 67, 67, 69, 80, 84]⟩, 1, 0), (⟨#[70, 65, 73, 76]⟩, 2, 0), (⟨#[70]⟩, 2, 0), (⟨#[67, 79, 77, 77, 73, 84]⟩, 3, 1), (⟨#[80, 82, 85, 78, 69]⟩, 4, 1), (⟨#[83, 75, 73, 80]⟩, 5, 1), (⟨#[84, 72, 69, 78]⟩, 6, 1), (⟨#[77, 65, 82, 75]⟩, 7, 2), (⟨#[]⟩, 7, 2)]
def verbF (word name : ByteArray) (named : Bool) : List (ByteArray × Int × Int) → Option Int
 | [] => none
 | (v, n, k) :: l => if word = v then (if (named && (decide (k = 0) || decide (name = ⟨#[]⟩)) || !named && decide (k = 2)) = true then none else some n) else verbF word name named l
def Pt.verb (p : Pt) (f a : Nat) : R (Tk × Nat) :=
 match p.until 41 a with
 | none => .error (20, p.n)
 | some i =>
  let word := match p.find 58 (i - a) a with | none => p.sub a i | some j => p.sub a j
  let name := match p.find 58 (i - a) a with | none => ⟨#[]⟩ | some j => p.sub (j + 1) i
  match verbF word name (p.find 58 (i - a) a).isSome verbsT with
  | none => .error (28, f)
  | some n => .ok ({ kind := 13, n := n, name := name }, i + 1)
def Pt.special (p : Pt) (f a : Nat) : R (List Tk × Nat) :=
 match p.plainK a groupsT with
 | some r => one f (.ok r)
 | none => match p.naming f a namingsT with
  | .error e => .error e
  | .ok (some r) => one f (.ok r)
  | .ok none => match p.counted f a with
   | .error e => .error e
   | .ok (some r) => one f (.ok r)
   | .ok none =>
    if p.has [35] a = true then (match p.until 41 (a + 1) with | none => .error (20, p.n) | some i => .ok ([], i + 1))
    else if p.has [40] a = true then one f (p.cond f a)
    else if p.has [82] a = true then one f (match p.close f (a + 1) with | .error e => .error e | .ok b => .ok ({ kind := 12 }, b))
    else if p.has [67] a = true then one f (match p.number f (a + 1) with | .error e => .error e | .ok (n, b) => match p.close f b with | .error e => .error e | .ok b' => .ok ({ kind := 14, n := n }, b'))
    else if p.has [43] a = true then .error (p.broken f (a + 1))
    else one f (p.settings f a)
def Pt.group (p : Pt) (f a : Nat) : R (List Tk × Nat) :=
 if p.has [42] a = true then one f (p.verb f (a + 1))
 else if p.has [63] a = true then p.special f (a + 1)
 else one f (.ok ({ kind := 10, n := 1 }, a))
def Pt.ign (p : Pt) (c : Int) (a : Nat) : Option Nat :=
 if p.x = false then none
 else if c = 35 then some (match p.until 10 a with | none => p.n | some i => i + 1)
 else if 9 ≤ c ∧ c ≤ 13 ∨ c = 32 then some a else none
def Pt.token (p : Pt) (f : Nat) : R (List Tk × Nat) :=
 match p.quant f with
 | .error e => .error e
 | .ok (some r) => one f (.ok r)
 | .ok none =>
  let c := (p.char f).1
  let b := (p.char f).2
  if c = 92 then p.escape f b
  else if c = 91 then one f (p.cls b)
  else if c = 40 then p.group f b
  else if c = 41 then one f (.ok ({ kind := 8 }, b))
  else if c = 124 then one f (.ok ({ kind := 7 }, b))
  else if c = 46 then one f (.ok ({ kind := 3 }, b))
  else if c = 94 then one f (.ok ({ kind := 4, n := 1 }, b))
  else if c = 36 then one f (.ok ({ kind := 4, n := 2 }, b))
  else match p.ign c b with
   | some b' => .ok ([], b')
   | none => one f (.ok ({ kind := 1, c := c }, b))
def Pt.read (p : Pt) : Nat → List Tk → Nat → R (List Tk)
 | 0, T, _ => .ok T
 | k + 1, T, a => if a = p.n then .ok T else match p.token a with
  | .error e => .error e
  | .ok (ts, b) => p.read k (T ++ ts) b
theorem insR_has : ∀ {S : List Rg} {a b c : Int}, InR S → a ≤ b → (Has (insR a b S) c ↔ (a ≤ c ∧ c ≤ b) ∨ Has S c)
 | [], a, b, c, _, _ => by simp [insR, Has]
 | r :: S, a, b, c, hS, hab => by
  have hr := hS r (dJ ..);have hT : InR S := fun x hx => hS x (List.mem_cons_of_mem _ hx)
  unfold insR;by_cases h1 : b + 1 < r.1
  ·rw [if_pos h1, jF]
  ·rw [if_neg h1];by_cases h2 : r.2 + 1 < a
   ·rw [if_pos h2, jF, insR_has hT hab, jF];constructor
    ·rintro (h | h | h)
     ·exact Or.inr (Or.inl h)
     ·exact Or.inl h
     ·exact Or.inr (Or.inr h)
    ·rintro (h | h | h)
     ·exact Or.inr (Or.inl h)
     ·exact Or.inl h
     ·exact Or.inr (Or.inr h)
   ·rw [if_neg h2, insR_has hT (by omega), jF];constructor
    ·rintro (h | h)
     ·by_cases h3 : a ≤ c ∧ c ≤ b
      ·exact Or.inl h3
      ·exact Or.inr (Or.inl (by omega))
     ·exact Or.inr (Or.inr h)
    ·rintro (h | h | h)
     ·exact Or.inl (by omega)
     ·exact Or.inl (by omega)
     ·exact Or.inr h
theorem insR_from : ∀ {S : List Rg} {a b lo : Int}, lo ≤ a → (∀ r ∈ S, lo ≤ r.1) → ∀ e ∈ insR a b S, lo ≤ e.1
 | [], a, b, lo, h, _ => by intro e he;simp only [insR, List.mem_singleton] at he;subst he;exact h
 | r :: S, a, b, lo, h, hS => by
  have hr := hS r (dJ ..);have hT : ∀ x ∈ S, lo ≤ x.1 := fun x hx => hS x (List.mem_cons_of_mem _ hx)
  unfold insR;intro e he;by_cases h1 : b + 1 < r.1
  ·rw [if_pos h1] at he;rcases List.mem_cons.1 he with rfl | he
   ·exact h
   ·exact hS e he
  ·rw [if_neg h1] at he;by_cases h2 : r.2 + 1 < a
   ·rw [if_pos h2] at he;rcases List.mem_cons.1 he with rfl | he
    ·exact hr
    ·exact insR_from h hT e he
   ·rw [if_neg h2] at he;exact insR_from (by omega) hT e he
theorem insR_canon : ∀ {S : List Rg} {a b : Int}, Canon S → 0 ≤ a → a ≤ b → b ≤ 1114111 → Canon (insR a b S)
 | [], a, b, _, h0, h1, h2 => ⟨List.pairwise_singleton _ _, inR_one h0 h1 h2⟩
 | r :: S, a, b, hS, h0, h1, h2 => by
  have hr := hS.2 r (dJ ..);have hT := canon_tail hS;have hP := (List.pairwise_cons.1 hS.1).1;unfold insR;by_cases h3 : b + 1 < r.1
  ·rw [if_pos h3];refine ⟨List.pairwise_cons.2 ⟨fun x hx => ?_, hS.1⟩, fun x hx => ?_⟩
   ·rcases List.mem_cons.1 hx with rfl | hx
    ·exact h3
    ·have := hP x hx;show b + 1 < x.1;omega
   ·rcases List.mem_cons.1 hx with rfl | hx
    ·exact ⟨h0, h1, h2⟩
    ·exact hS.2 x hx
  ·rw [if_neg h3];by_cases h4 : r.2 + 1 < a
   ·rw [if_pos h4];have ih := insR_canon hT h0 h1 h2;refine ⟨List.pairwise_cons.2 ⟨fun x hx => ?_, ih.1⟩, fun x hx => ?_⟩
    ·have := insR_from (lo := r.2 + 2) (S := S) (a := a) (b := b) (by omega) (fun y hy => by have := hP y hy; omega) x hx;omega
    ·rcases List.mem_cons.1 hx with rfl | hx
     ·exact hr
     ·exact ih.2 x hx
   ·rw [if_neg h4];exact insR_canon hT (by omega) (by omega) (by omega)
theorem ja {m : Int} (hm : m ≤ 1114111) : ∀ l : List Rg, Canon (normR m l)
 | [] => canon_nil
 | r :: l => by
  unfold normR;split
  ·exact ja hm l
  ·exact insR_canon (ja hm l) (by omega) (by omega) (by omega)
theorem normR_has {m : Int} (hm : m ≤ 1114111) : ∀ (l : List Rg) (c : Int), Has (normR m l) c ↔ Has l c ∧ 0 ≤ c ∧ c ≤ m
 | [], c => by simp [normR, Has]
 | r :: l, c => by
  have ih := normR_has hm l c;unfold normR;rw [jF];split
  ·rw [ih];constructor
   ·rintro ⟨h1, h2⟩; exact ⟨Or.inr h1, h2⟩
   ·rintro ⟨h1 | h1, h2⟩
    ·omega
    ·exact ⟨h1, h2⟩
  ·rw [insR_has (ja hm l).2 (by omega), ih];constructor
   ·rintro (h | ⟨h1, h2⟩)
    ·exact ⟨Or.inl (by omega), by omega⟩
    ·exact ⟨Or.inr h1, h2⟩
   ·rintro ⟨h1 | h1, h2⟩
    ·exact Or.inl (by omega)
    ·exact Or.inr ⟨h1, h2⟩
theorem normR_only {m : Int} (hm : m ≤ 1114111) {l S : List Rg} (hS : Canon S) (h : ∀ c, Has S c ↔ Has l c ∧ 0 ≤ c ∧ c ≤ m) : S = normR m l :=
 canon_ext hS (ja hm l) fun c => by rw [h, normR_has hm]
theorem notF_both {m : Int} (hm : m ≤ 1114111) : ∀ {S : List Rg} {lo : Int}, Canon S → 0 ≤ lo → (∀ r ∈ S, lo ≤ r.1) → Canon (notF m lo S) ∧ (∀ e ∈ notF m lo S, lo ≤ e.1) ∧ ∀ c, Has (notF m lo S) c ↔ lo ≤ c ∧ c ≤ m ∧ ¬ Has S c
 | [], lo, _, h0, _ => by
  unfold notF;refine ⟨addP_canon canon_nil (fun _ h => by cases h) h0 hm, fun e he => ?_, fun c => ?_⟩
  ·rcases addP_mem he with h | ⟨rfl, _⟩
   ·cases h
   ·exact Int.le_refl _
  ·rw [addP_has];simp [Has]
 | r :: S, lo, hS, h0, hl => by
  have hr := hS.2 r (dJ ..);have hlr := hl r (dJ ..);have hP := (List.pairwise_cons.1 hS.1).1;obtain ⟨i1, i2, i3⟩ := notF_both hm (lo := r.2 + 1) (canon_tail hS) (by omega) (fun x hx => by have := hP x hx; omega);have hT : ∀ c, Has S c → r.2 + 1 < c := fun c hc => canon_head hS hc
  unfold notF;split
  ·refine ⟨i1, fun e he => by have := i2 e he; omega, fun c => ?_⟩;rw [i3, jF];constructor
   ·rintro ⟨a, b, d⟩;exact ⟨by omega, b, fun h => h.elim (fun h => by omega) d⟩
   ·rintro ⟨a, b, d⟩;refine ⟨?_, b, fun h => d (Or.inr h)⟩;have : ¬ (r.1 ≤ c ∧ c ≤ r.2) := fun h => d (Or.inl h)
    omega
  ·refine ⟨⟨List.pairwise_cons.2 ⟨fun x hx => ?_, i1.1⟩, fun x hx => ?_⟩, fun e he => ?_, fun c => ?_⟩
   ·have := i2 x hx;show min (r.1 - 1) m + 1 < x.1;omega
   ·rcases List.mem_cons.1 hx with rfl | hx
    ·exact ⟨h0, by show lo ≤ min (r.1 - 1) m; omega, by show min (r.1 - 1) m ≤ 1114111; omega⟩
    ·exact i1.2 x hx
   ·rcases List.mem_cons.1 he with rfl | he
    ·exact Int.le_refl _
    ·have := i2 e he; omega
   ·rw [jF, i3, jF];constructor
    ·rintro (h | ⟨a, b, d⟩)
     ·refine ⟨h.1, by omega, ?_⟩;rintro (k | k)
      ·omega
      ·have := hT c k; omega
     ·exact ⟨by omega, b, fun h => h.elim (fun h => by omega) d⟩
    ·rintro ⟨a, b, d⟩;by_cases h : c ≤ r.1 - 1
     ·exact Or.inl ⟨a, by omega⟩
     ·refine Or.inr ⟨?_, b, fun h => d (Or.inr h)⟩;have : ¬ (r.1 ≤ c ∧ c ≤ r.2) := fun h => d (Or.inl h)
      omega
theorem notR_canon {m : Int} (hm : m ≤ 1114111) {S : List Rg} (hS : Canon S) : Canon (notR m S) := (notF_both hm hS (Int.le_refl _) fun r hr => (hS.2 r hr).1).1
theorem notR_has {m : Int} (hm : m ≤ 1114111) {S : List Rg} (hS : Canon S) (c : Int) : Has (notR m S) c ↔ 0 ≤ c ∧ c ≤ m ∧ ¬ Has S c := (notF_both hm hS (Int.le_refl _) fun r hr => (hS.2 r hr).1).2.2 c
theorem notR_only {m : Int} (hm : m ≤ 1114111) {R S : List Rg} (hR : Canon R) (hS : Canon S) (h : ∀ c, Has R c ↔ 0 ≤ c ∧ c ≤ m ∧ ¬ Has S c) : R = notR m S :=
 canon_ext hR (notR_canon hm hS) fun c => by rw [h, notR_has hm hS]
theorem vH (p : Pt) : p.most ≤ 1114111 := by unfold Pt.most; split <;> omega
theorem most_ge (p : Pt) : 255 ≤ p.most := by unfold Pt.most; split <;> omega
theorem prop_norm {m : Int} (hm : m ≤ 1114111) {n : ByteArray} {S T : List Rg} (hS : ∀ c, Has S c ↔ 0 ≤ c ∧ c ≤ 1114111 ∧ propP n c = true) (hT : Canon T) (h : ∀ c, Has T c ↔ Has S c ∧ 0 ≤ c ∧ c ≤ m) : T = normR m (propL n) :=
 canon_ext hT (ja hm _) fun c => by
  rw [h, normR_has hm, hS];have := wl_all (hp n) c;unfold propL;unfold propP;constructor
  ·rintro ⟨⟨a, b, d⟩, e, f⟩;exact ⟨(this.2 ⟨a, b, d⟩).1, e, f⟩
  ·rintro ⟨a, e, f⟩;exact ⟨this.1 ⟨a, e, by omega⟩, e, f⟩
end tkp
end
section
namespace rtp
open sq
open Go utfp ucdp setp prp tkp
abbrev G := R (Option Tk × Nat)
def gtok (t : Tk) (f b : Nat) : G := .ok (some (lay t f b), b)
def num (p : Pt) (a : Nat) : Int × Nat × Bool := (if 255 < (p.digits a).1 then 1000 else (p.digits a).1, (p.digits a).2, decide (255 < (p.digits a).1))
def sgn (p : Pt) (a : Nat) : Int × Int × Nat × Bool :=
 if (num p (p.sign a).2).2.1 = (p.sign a).2 then (0, (p.sign a).1, a, false) else ((num p (p.sign a).2).1, (p.sign a).1, (num p (p.sign a).2).2.1, (num p (p.sign a).2).2.2)
def quan (p : Pt) (i «to» : Nat) (n m : Int) : G := gtok { kind := 9, n := n, m := m, mode := (p.mode «to»).1 } i (p.mode «to»).2
def hexC (p : Pt) (r : Int × Nat) : Option (Int × Nat) := if p.most < r.1 ∨ (p.u = true ∧ 55296 ≤ r.1 ∧ r.1 ≤ 57343) then none else some r
def hexz (p : Pt) (i : Nat) : Option (Int × Nat) :=
 if p.has [123] i = true then
  (if (p.hexd 7 (i + 1)).2 = i + 1 ∨ i + 7 < (p.hexd 7 (i + 1)).2 ∨ p.has [125] (p.hexd 7 (i + 1)).2 = false then none
   else hexC p ((p.hexd 7 (i + 1)).1, (p.hexd 7 (i + 1)).2 + 1))
 else hexC p (p.hexd 2 i)
def brac (p : Pt) (i : Nat) : Option (ByteArray × Nat) :=
 if p.n ≤ i then none
 else if p.g i = 123 then (match p.until 125 (i + 1) with | none => none | some k => some (p.sub (i + 1) k, k + 1))
 else some (p.sub i (p.char i).2, (p.char i).2)
def many (p : Pt) (c : Int) (i : Nat) : Except Int (Option (List Rg × Bool × Nat)) :=
 if c = 112 ∨ c = 80 then
  match brac p i with
  | none => .error 24
  | some (s, «to») => if isP (unhat s) = true then .ok (some (normR p.most (propL (unhat s)), decide (c = 80) != hat s, «to»)) else .error 24
 else if escB (lowC c) = true then .ok (some (normR p.most (escP (lowC c)), capB c, i)) else .ok none
def backR (p : Pt) (i «to» : Nat) : List (List UInt8 × List UInt8) → G
 | [] => .error (27, i)
 | (o, z) :: l => if p.has o «to» = true then
  (if (p.name («to» + 1)).2 = true ∧ p.has z (p.name («to» + 1)).1 = true then gtok { kind := 11, name := p.sub («to» + 1) (p.name («to» + 1)).1, m := 3 } i ((p.name («to» + 1)).1 + 1) else backR p i «to» l)
  else backR p i «to» l
def quotT : List (List UInt8 × List UInt8) := [([123], [125]), ([60], [62]), ([39], [39])]
def refR (p : Pt) (f i : Nat) : G :=
 let k := (p.quotes i).1
 let z := (p.quotes i).2.1
 let a := (p.quotes i).2.2
 let s := sgn p a
 if s.2.2.2 = true then .error (25, f)
 else if a < s.2.2.1 then
  (if p.has z s.2.2.1 = false then .error (21, f)
   else if s.1 = 0 ∧ (k = 11 ∨ s.2.1 ≠ 0) then .error (25, f)
   else gtok { kind := k, n := s.1, m := s.2.1 } f (s.2.2.1 + z.length))
 else if z = [] ∨ (p.name a).2 = false ∨ p.has z (p.name a).1 = false then .error (21, f)
 else gtok { kind := k, name := p.sub a (p.name a).1, m := 3 } f ((p.name a).1 + 1)
def escR (p : Pt) (i : Nat) : G :=
 if i + 1 = p.n then .error (20, p.n)
 else
  let c := (p.char (i + 1)).1
  let «to» := (p.char (i + 1)).2
  if ji c ≠ 0 then gtok { kind := 1, c := ji c } i «to»
  else if c = 120 then (match hexz p «to» with | none => .error (21, i) | some (v, e) => gtok { kind := 1, c := v } i e)
  else if c = 78 then gtok { kind := 2, set := [(10, 10)], neg := true } i «to»
  else if vZ c ≠ 0 then gtok { kind := 4, n := vZ c } i «to»
  else if c = 75 then gtok { kind := 5 } i «to»
  else if c = 82 then gtok { kind := 6 } i «to»
  else if c = 69 then .ok (none, «to»)
  else if 49 ≤ c ∧ c ≤ 57 then (if (num p (i + 1)).2.2 = true then .error (25, i) else gtok { kind := 11, n := (num p (i + 1)).1 } i (num p (i + 1)).2.1)
  else if c = 103 then refR p i «to»
  else if c = 107 then backR p i «to» quotT
  else match many p c «to» with
   | .error e => .error (e, i)
   | .ok (some (l, neg, e)) => gtok { kind := 2, set := l, neg := neg } i e
   | .ok none => if c = 48 ∨ isLet c = true then .error (21, i) else gtok { kind := 1, c := c } i «to»
def notL (p : Pt) (l : List Rg) : List Rg := notR p.most (normR p.most l)
def itemE (p : Pt) (i b : Nat) : R (List Rg × Bool × Nat) :=
 let c := (p.char b).1
 let «to» := (p.char b).2
 if c = 120 then (match hexz p «to» with | none => .error (21, i) | some (v, e) => .ok ([(v, v)], true, e))
 else if ji c ≠ 0 then .ok ([(ji c, ji c)], true, «to»)
 else if c = 98 then .ok ([(8, 8)], true, «to»)
 else match many p c «to» with
  | .error e => .error (e, i)
  | .ok (some (l, neg, e)) => .ok (if neg = true then notL p l else l, false, e)
  | .ok none => if (isLet c || isDig c) = true then .error (21, i) else .ok ([(c, c)], true, «to»)
def itemC (p : Pt) (i : Nat) : R (List Rg × Bool × Nat) :=
 if (p.char i).1 = 92 then (if (p.char i).2 = p.n then .error (20, p.n) else itemE p i (p.char i).2)
 else .ok ([((p.char i).1, (p.char i).1)], true, (p.char i).2)
def posB (p : Pt) (i : Nat) : Nat := if p.has [94] (i + 2) = true then i + 3 else i + 2
def itemR (p : Pt) (i : Nat) : R (List Rg × Bool × Nat) :=
 if p.has [91, 58] i = true ∧ p.has [58, 93] (p.run isLet 1000 (posB p i)) = true then
  (if vz (p.sub (posB p i) (p.run isLet 1000 (posB p i))) = true then
   .ok (if p.has [94] (i + 2) = true then notL p (jC (p.sub (posB p i) (p.run isLet 1000 (posB p i)))) else jC (p.sub (posB p i) (p.run isLet 1000 (posB p i))), false, p.run isLet 1000 (posB p i) + 2)
   else .error (22, i))
 else itemC p i
def loR (l : List Rg) : Int := (l.headD (0, 0)).1
def rangeR (p : Pt) (i : Nat) : R (List Rg × Nat) :=
 match itemR p i with
 | .error e => .error e
 | .ok (l, single, «to») =>
  if single = true ∧ p.has [45] «to» = true ∧ «to» + 1 < p.n ∧ p.g («to» + 1) ≠ 93 then
   match itemR p («to» + 1) with
   | .error e => .error e
   | .ok (m, also, e) => if also = false ∨ loR m < loR l then .error (23, i) else .ok ([(loR l, loR m)], e)
  else .ok (l, «to»)
def clsL (p : Pt) (first : Nat) : Nat → List Rg → Nat → R (List Rg × Nat)
 | 0, _, _ => .error (20, p.n)
 | k + 1, all, i =>
  if p.n ≤ i then .error (20, p.n)
  else if p.g i = 93 ∧ first < i then .ok (all, i + 1)
  else match rangeR p i with
   | .error e => .error e
   | .ok (l, «to») => clsL p first k (all ++ l) «to»
def clsR (p : Pt) (f : Nat) : G :=
 let i := if p.has [94] (f + 1) = true then f + 2 else f + 1
 match clsL p i (p.n + 1 - i) [] i with
 | .error e => .error e
 | .ok (all, b) => gtok { kind := 2, set := normR p.most all, neg := p.has [94] (f + 1) } f b
def shutR (p : Pt) (t : Tk) (f i : Nat) (s : List UInt8) (e : Int) : G :=
 if p.has s i = true then gtok t f (i + s.length) else if p.n ≤ i then .error (20, p.n) else .error (e, f)
def callR (p : Pt) (t : Tk) (f i : Nat) (s : List UInt8) : G :=
 if p.n ≤ (p.name i).1 then .error (20, p.n)
 else if (p.name i).2 = false ∨ p.has s (p.name i).1 = false then .error (27, f)
 else gtok { t with name := p.sub i (p.name i).1 } f ((p.name i).1 + s.length)
def flagR (p : Pt) (f : Nat) : Nat → Nat → Bool → Int → Int → G
 | 0, _, _, _, _ => .error (20, p.n)
 | k + 1, i, off, on, of_ =>
  if p.n ≤ i then .error (20, p.n)
  else if p.g i = 41 then gtok { kind := 15, on := on, off := of_ } f (i + 1)
  else if p.g i = 58 then gtok { kind := 10, n := 2, on := on, off := of_ } f (i + 1)
  else if p.g i = 45 then (if off = true then .error (26, f) else flagR p f k (i + 1) true on of_)
  else if isOpt (p.g i) = true then
   (if off = true then flagR p f k (i + 1) off on ((of_.toNat ||| optV (p.g i) : Nat) : Int) else flagR p f k (i + 1) off ((on.toNat ||| optV (p.g i) : Nat) : Int) of_)
  else .error (26, f)
def condE (p : Pt) (f : Nat) (t : Tk) («to» : Nat) (ok : Bool) : G :=
 if ok = false ∨ p.has [41] «to» = false then .error (32, f)
 else if t.n = 9 ∧ t.mode = 0 then .error (25, f)
 else gtok t f («to» + 1)
def condN (p : Pt) (f i : Nat) (z : List UInt8) : G :=
 condE p f { kind := 10, n := 10, name := p.sub (i + 1) (p.name (i + 1)).1 } ((p.name (i + 1)).1 + 1) ((p.name (i + 1)).2 && p.has z (p.name (i + 1)).1)
def condR (p : Pt) (f i : Nat) : G :=
 if p.has [63, 61] i = true ∨ p.has [63, 33] i = true ∨ p.has [63, 60, 61] i = true ∨ p.has [63, 60, 33] i = true then gtok { kind := 10, n := 13 } f (f + 2)
 else if p.has [60] i = true then condN p f i [62]
 else if p.has [39] i = true then condN p f i [39]
 else if p.has [68, 69, 70, 73, 78, 69] i = true then condE p f { kind := 10, n := 12 } (i + 6) true
 else if p.has [82, 38] i = true then condE p f { kind := 10, n := 11, m := 3, name := p.sub (i + 2) (p.name (i + 2)).1 } (p.name (i + 2)).1 (p.name (i + 2)).2
 else if p.has [82] i = true then
  (if (num p (i + 1)).2.2 = true then .error (25, f)
   else condE p f { kind := 10, n := 11, mode := if (num p (i + 1)).2.1 = i + 1 then -1 else (num p (i + 1)).1 } (num p (i + 1)).2.1 true)
 else if (sgn p i).2.2.2 = true then .error (25, f)
 else condE p f { kind := 10, n := 9, mode := (sgn p i).1, m := (sgn p i).2.1 } (sgn p i).2.2.1 (decide (i < (sgn p i).2.2.1))
def verbV (s : ByteArray) : Int :=
 if s = ⟨#[65, 67, 67, 69, 80, 84]⟩ then 1 else if s = ⟨#[70, 65, 73, 76]⟩ then 2 else if s = ⟨#[70]⟩ then 2 else if s = ⟨#[67, 79, 77, 77, 73, 84]⟩ then 3
 else if s = ⟨#[80, 82, 85, 78, 69]⟩ then 4 else if s = ⟨#[83, 75, 73, 80]⟩ then 5 else if s = ⟨#[84, 72, 69, 78]⟩ then 6 else if s = ⟨#[77, 65, 82, 75]⟩ then 7 else if s = ⟨#[]⟩ then 7 else 0
def verbG (f i : Nat) (word arg : ByteArray) (wth : Bool) : G :=
 if verbV word = 0 ∨ (wth = true ∧ arg = ⟨#[]⟩) ∨ (wth = true ∧ (verbV word = 1 ∨ verbV word = 2)) ∨ (wth = false ∧ verbV word = 7) then .error (28, f)
 else gtok { kind := 13, n := verbV word, name := arg } f (i + 1)
def verbR (p : Pt) (f : Nat) : G :=
 match p.until 41 (f + 2) with
 | none => .error (20, p.n)
 | some i => match p.find 58 (i - (f + 2)) (f + 2) with
  | none => verbG f i (p.sub (f + 2) i) ⟨#[]⟩ false
  | some j => verbG f i (p.sub (f + 2) j) (p.sub (j + 1) i) true
def kindsT : List (List UInt8 × Int) := [([58], 2), ([124], 3), ([62], 4), ([61], 5), ([33], 6), ([60, 61], 7), ([60, 33], 8)]
def kindR (p : Pt) (f i : Nat) : List (List UInt8 × Int) → Option G
 | [] => none
 | (s, k) :: l => if p.has s i = true then some (gtok { kind := 10, n := k } f (i + s.length)) else kindR p f i l
def numB (p : Pt) (i : Nat) : Bool := decide (p.g i = 43) || isDig (p.g i) || (decide (p.g i = 45) && decide (i + 1 < p.n) && isDig (p.g (i + 1)))
def numR (p : Pt) (f i : Nat) : G :=
 let s := sgn p i
 if s.2.2.2 = true then .error (25, f)
 else if s.2.2.1 = i then (if i + 1 = p.n then .error (20, p.n) else .error (26, f))
 else match shutR p { kind := 12, n := s.1, m := s.2.1 } f s.2.2.1 [41] 26 with
  | .error e => .error e
  | .ok r => if s.1 = 0 ∧ s.2.1 ≠ 0 then .error (25, f) else .ok r
def openK (p : Pt) (f i : Nat) : G :=
 if p.has [35] i = true then (match p.until 41 i with | none => .error (20, p.n) | some j => .ok (none, j + 1))
 else if p.has [80, 60] i = true then callR p { kind := 10, n := 1 } f (i + 2) [62]
 else if p.has [60] i = true then callR p { kind := 10, n := 1 } f (i + 1) [62]
 else if p.has [39] i = true then callR p { kind := 10, n := 1 } f (i + 1) [39]
 else if p.has [80, 61] i = true then callR p { kind := 11, m := 3 } f (i + 2) [41]
 else if p.has [80, 62] i = true then callR p { kind := 12, m := 3 } f (i + 2) [41]
 else if p.has [38] i = true then callR p { kind := 12, m := 3 } f (i + 1) [41]
 else if p.has [82] i = true then shutR p { kind := 12 } f (i + 1) [41] 26
 else if p.has [67] i = true then (if (num p (i + 1)).2.2 = true then .error (25, f) else shutR p { kind := 14, n := (num p (i + 1)).1 } f (num p (i + 1)).2.1 [41] 26)
 else if p.has [40] i = true then condR p f (i + 1)
 else if numB p i = true then numR p f i
 else flagR p f (p.n + 1 - i) i false 0 0
def openR (p : Pt) (f : Nat) : G :=
 if p.has [42] (f + 1) = true then verbR p f
 else if p.has [63] (f + 1) = false then gtok { kind := 10, n := 1 } f (f + 1)
 else if f + 2 = p.n then .error (20, p.n)
 else match kindR p f (f + 2) kindsT with
  | some g => g
  | none => openK p f (f + 2)
def skipC (p : Pt) : Nat → Nat → Nat
 | 0, a => a
 | k + 1, a => if a < p.n ∧ p.g (a - 1) ≠ 10 then skipC p k (a + 1) else a
def bracR (p : Pt) (i : Nat) : Option (Int × Int × Nat × Bool) :=
 let a := (num p (i + 1)).2.1
 if i + 1 < a ∧ p.has [44] a = true then
  (if p.has [125] (num p (a + 1)).2.1 = true then some ((num p (i + 1)).1, if (num p (a + 1)).2.1 = a + 1 then -1 else (num p (a + 1)).1, (num p (a + 1)).2.1, (num p (i + 1)).2.2 || (num p (a + 1)).2.2) else none)
 else if a = i + 1 ∨ p.has [125] a = false then none
 else some ((num p (i + 1)).1, (num p (i + 1)).1, a, (num p (i + 1)).2.2)
def tokR (p : Pt) (i : Nat) : G :=
 let c := (p.char i).1
 let «to» := (p.char i).2
 if p.x = true ∧ (9 ≤ c ∧ c ≤ 13 ∨ c = 32) then .ok (none, «to»)
 else if p.x = true ∧ c = 35 then .ok (none, skipC p p.n «to»)
 else if c = 92 then escR p i
 else if c = 91 then clsR p i
 else if c = 40 then openR p i
 else if c = 46 then gtok { kind := 3 } i «to»
 else if c = 94 then gtok { kind := 4, n := 1 } i «to»
 else if c = 36 then gtok { kind := 4, n := 2 } i «to»
 else if c = 124 then gtok { kind := 7 } i «to»
 else if c = 41 then gtok { kind := 8 } i «to»
 else if c = 42 then quan p i «to» 0 (-1)
 else if c = 43 then quan p i «to» 1 (-1)
 else if c = 63 then quan p i «to» 0 1
 else if c = 123 then
  match bracR p i with
  | none => gtok { kind := 1, c := c } i «to»
  | some (n, m, b, great) => if great = true then .error (25, i) else if 0 ≤ m ∧ m < n then .error (23, i) else quan p i (b + 1) n m
 else gtok { kind := 1, c := c } i «to»
def lexF (p : Pt) : Nat → Bool → List Tk → Nat → R (List Tk)
 | 0, _, T, _ => .ok T
 | k + 1, q, T, i =>
  if p.n ≤ i then .ok T
  else if q = true then (if p.has [92, 69] i = true then lexF p k false T (i + 2) else lexF p k true (T ++ [lay { kind := 1, c := (p.char i).1 } i (p.char i).2]) (p.char i).2)
  else if p.has [92, 81] i = true then lexF p k true T (i + 2)
  else match tokR p i with
   | .error e => .error e
   | .ok (none, «to») => lexF p k false T «to»
   | .ok (some t, «to») => lexF p k false (T ++ [t]) «to»
def rlexP (g : Nat → Int) (n : Nat) (o : Int) : R (List Tk) :=
 if o < 0 ∨ 65535 < o then .error (1, 0)
 else if 1000 < n then .error (10, 1000)
 else if o.toNat.testBit 5 = true ∧ (validP g n).2 = false then .error (13, (validP g n).1)
 else lexF { g := g, n := n, u := o.toNat.testBit 5, x := o.toNat.testBit 3 } (n + 1) false [] 0
def gL (l : List Int) (i : Nat) : Int := l.getD i 0
end rtp
end
section
namespace utfw
open sq
open Go Go.RowKit utfp
def Drawn (w w' : World) : Prop := ∃ k, w' = w.drewN k
theorem Drawn.refl (w : World) : Drawn w w := ⟨0, rfl⟩
theorem Drawn.trans {a b c : World} (h : Drawn a b) (h' : Drawn b c) : Drawn a c := by obtain ⟨k, rfl⟩ := h;obtain ⟨m, rfl⟩ := h';exact ⟨m + k, by simp [World.drewN, Nat.add_comm, Nat.add_left_comm]⟩
theorem Drawn.drew {a w : World} (h : Drawn a w) : Drawn a w.drew := by obtain ⟨k, rfl⟩ := h;exact ⟨k + 1, rfl⟩
theorem Drawn.drewN {a w : World} (h : Drawn a w) (n : Nat) : Drawn a (w.drewN n) := h.trans ⟨n, rfl⟩
theorem Drawn.cell {w w' : World} (h : Drawn w w') (a : Addr) : w'.cell? a = w.cell? a := by obtain ⟨k, rfl⟩ := h;simp
def Sl (w : World) (v : Value) (n : Nat) (g : Nat → Int) : Prop :=
 (∀ i, 0 ≤ g i ∧ g i ≤ 255) ∧ n ≤ 140737488355328 ∧ ((n = 0 ∧ ∃ a cap, v = .slice a 0 cap ∧ cap ≤ 9223372036854775807) ∨ ∃ b off cap, v = .slice (some ⟨b, off, none⟩) n cap ∧ (n ≤ cap ∧ cap ≤ 9223372036854775807) ∧ ∀ i, i < n → w.cell? ⟨b, off + i, none⟩ = some (.int .u8 (g i)))
theorem Drawn.sl {w w' : World} {v : Value} {n : Nat} {g : Nat → Int} (hd : Drawn w w') (h : Sl w v n g) : Sl w' v n g := by
 obtain ⟨h1, h2, h3⟩ := h;refine ⟨h1, h2, ?_⟩;rcases h3 with h3 | ⟨b, off, cap, h3, h4, h5⟩
 ·exact Or.inl h3
 ·exact Or.inr ⟨b, off, cap, h3, h4, fun i hi => by rw [hd.cell]; exact h5 i hi⟩
theorem cell_lt {w : World} {a : Addr} {v : Value} (h : w.cell? a = some v) : a.block < w.heap.size := by exact z120
theorem qf {w w' : World} (h : Below w.heap.size w w') {a : Addr} {v : Value} (hc : w.cell? a = some v) : w'.cell? a = some v := by rw [h.cell (cell_lt hc)]; exact hc
theorem below_sl {w w' : World} (h : Below w.heap.size w w') {v : Value} {n : Nat} {g : Nat → Int} (hs : Sl w v n g) : Sl w' v n g := by
 obtain ⟨h1, h2, h3⟩ := hs;refine ⟨h1, h2, ?_⟩;rcases h3 with h3 | ⟨b, off, cap, h3, h4, h5⟩
 ·exact Or.inl h3
 ·exact Or.inr ⟨b, off, cap, h3, h4, fun i hi => qf h (h5 i hi)⟩
theorem drawn_below {w w' : World} (h : Drawn w w') : Below w.heap.size w w' := by obtain ⟨k, rfl⟩ := h;exact ⟨rfl, rfl, rfl, xL _, fun _ _ => rfl⟩
theorem qi {a b c : World} (h : Below a.heap.size a b) (k : Below b.heap.size b c) : Below a.heap.size a c := h.trans (k.mono h.size)
def at_ (l : List Int) : Nat → Int := fun i => l.getD i 0
def NewPost (l : List Int) (w : World) (e : Ending) (w' : World) : Prop := ∃ v, e = .returned v ∧ Sl w' v l.length (at_ l) ∧ Below w.heap.size w w'
theorem at_bytes {l : List Int} (h : ∀ x ∈ l, 0 ≤ x ∧ x ≤ 255) : ∀ i, 0 ≤ at_ l i ∧ at_ l i ≤ 255 := by
 intro i;unfold at_;by_cases hi : i < l.length
 ·simp only [List.getD, List.getElem?_eq_getElem hi, Option.getD_some];exact h _ (dI hi)
 ·simp [List.getD, List.getElem?_eq_none (Nat.le_of_not_lt hi)]
theorem sl_alloc (w : World) (T : TypeId) (l : List Int) (h : ∀ x ∈ l, 0 ≤ x ∧ x ≤ 255) (hl : l.length ≤ 4) :
 Sl (w.alloc (.cells (l.map (Value.int .u8)).toArray T)) (.slice (some ⟨w.heap.size, 0, none⟩) l.length l.length) l.length (at_ l) := by
 refine ⟨at_bytes h, by omega, Or.inr ⟨_, _, _, rfl, ⟨by omega, by omega⟩, fun i hi => ?_⟩⟩;rw [World.cell?_alloc_new];simp [at_, List.getD, hi]
theorem newPost_alloc {l l' : List Int} {w : World} (T : TypeId) (he : l' = l) (h : ∀ x ∈ l, 0 ≤ x ∧ x ≤ 255) (hl : l.length ≤ 4) :
 NewPost l' w (.returned (.slice (some ⟨w.heap.size, 0, none⟩) l.length l.length)) (w.alloc (.cells (l.map (Value.int .u8)).toArray T)) := by
 subst he;exact ⟨_, rfl, sl_alloc w T l' h hl, (Below.refl _ _).alloc (xL _) _⟩
theorem newPost_nil {l : List Int} {w w' : World} (he : l = []) (hb : Below w.heap.size w w') : NewPost l w (.returned (.slice none 0 0)) w' := by subst he;exact ⟨_, rfl, ⟨at_bytes (by simp), by simp, Or.inl ⟨rfl, _, _, rfl, by omega⟩⟩, hb⟩
theorem enc0 {c : Int} (h : c < 0 ∨ 1114111 < c ∨ (55296 ≤ c ∧ c ≤ 57343)) : enc c = [] := by unfold enc; rw [if_pos h]
theorem enc1 {c : Int} (h1 : 0 ≤ c) (h2 : c < 128) : enc c = [c] := by unfold enc; rw [if_neg (by omega), if_pos (by omega)]
theorem enc2 {c : Int} (h1 : 128 ≤ c) (h2 : c < 2048) : enc c = [192 + c / 64, 128 + c % 64] := by unfold enc; rw [if_neg (by omega), if_neg (by omega), if_pos (by omega)]
theorem enc3 {c : Int} (h1 : 2048 ≤ c) (h2 : c < 65536) (h3 : c < 55296 ∨ 57343 < c) : enc c = [224 + c / 4096, 128 + c / 64 % 64, 128 + c % 64] := by unfold enc; rw [if_neg (by omega), if_neg (by omega), if_neg (by omega), if_pos (by omega)]
theorem enc4 {c : Int} (h1 : 65536 ≤ c) (h2 : c ≤ 1114111) : enc c = [240 + c / 262144, 128 + c / 4096 % 64, 128 + c / 64 % 64, 128 + c % 64] := by unfold enc; rw [if_neg (by omega), if_neg (by omega), if_neg (by omega), if_neg (by omega)]
theorem seqc_any (c : Int) (w : World) : Calls Tryz.prog 88 #[.int .i64 c] w (NewPost (enc c) w) := by
 have hb := enc_bytes c;have hB := xH hb;clear hb;rcases wid_cases c with ⟨hw, h⟩ | ⟨hw, h1, h2⟩ | ⟨hw, h1, h2⟩ | ⟨hw, h1, h2, h3⟩ | ⟨hw, h1, h2⟩
 ·have HE := xH (enc0 h);clear hw;rcases h with h | h | ⟨h1, h2⟩
  all_goals
   go_enter Tryz.func88, Tryz.ntmps88
   go_wp2
   all_goals (go_ret; exact newPost_nil HE.out (Below.refl _ _))
 ·have HE := xH (enc1 h1 h2);clear hw;go_enter Tryz.func88, Tryz.ntmps88
  go_wp2
  go_ret
  exact newPost_alloc (l := [c]) 5 HE.out (by rw [← HE.out]; exact hB.out) (by simp)
 ·have HE := xH (enc2 h1 h2);clear hw;go_enter Tryz.func88, Tryz.ntmps88
  go_wp2
  go_ret
  exact newPost_alloc (l := [192 + c / 64, 128 + c % 64]) 5 HE.out (by rw [← HE.out]; exact hB.out) (by simp)
 ·have HE := xH (enc3 h1 h2 h3);clear hw;rcases h3 with h3 | h3
  all_goals
   go_enter Tryz.func88, Tryz.ntmps88
   go_wp2
   go_ret
   exact newPost_alloc (l := [224 + c / 4096, 128 + c / 64 % 64, 128 + c % 64]) 5 HE.out (by rw [← HE.out]; exact hB.out) (by simp)
 ·have HE := xH (enc4 h1 h2);clear hw;go_enter Tryz.func88, Tryz.ntmps88
  go_wp2
  go_ret
  exact newPost_alloc (l := [240 + c / 262144, 128 + c / 4096 % 64, 128 + c / 64 % 64, 128 + c % 64]) 5 HE.out (by rw [← HE.out]; exact hB.out) (by simp)
def strOf (n : Nat) (g : Nat → Int) : ByteArray := strOfNums ((List.range n).map g)
theorem conv_zero (w : World) (a : Option Addr) (c : Nat) (g : Nat → Int) : (convert 22 9 (.slice a 0 c)).run Tryz.prog w = .ok (.string (strOf 0 g)) w := by rw [show strOf 0 g = ByteArray.empty from rfl, run_convert_bytes_string w 22 9 5 _ 0 c Tryz.underlying22 Tryz.underlying5 Tryz.underlying9];cases a <;> simp [Conv.bytesToString, loadCells, loadCellsFrom]
theorem conv_sl {w : World} {v : Value} {n : Nat} {g : Nat → Int} (h : Sl w v n g) :
 (convert 22 9 v).run Tryz.prog w = .ok (.string (strOf n g)) w := by
 obtain ⟨_, _, h3⟩ := h;rcases h3 with ⟨rfl, a0, c0, rfl, _⟩ | ⟨b, off, cap, rfl, _, hc⟩
 ·exact conv_zero w a0 c0 g
 ·refine run_convert_bytes_arg w 22 5 Tryz.underlying22 Tryz.underlying5 b off n cap ((List.range n).map g) (by simp) (fun i hi => ?_) 9 Tryz.underlying9;rw [hc i hi];simp [List.getD, hi]
def combo (n : Nat) (g : Nat → Int) : Int :=
 if n = 1 then g 0 else if n = 2 then (g 0 - 192) * 64 + g 1 - 128 else if n = 3 then (g 0 - 224) * 4096 + (g 1 - 128) * 64 + g 2 - 128 else (g 0 - 240) * 262144 + (g 1 - 128) * 4096 + (g 2 - 128) * 64 + g 3 - 128
def ofP (n : Nat) (g : Nat → Int) : Int := if enc (combo n g) = (List.range n).map g then combo n g else -1
def IntPost (r : Int) (w : World) (e : Ending) (w' : World) : Prop := e = .returned (.int .i64 r) ∧ Below w.heap.size w w'
theorem strOf_at (l : List Int) : strOf l.length (at_ l) = strOfNums l := by
 unfold strOf
 congr 1
 apply List.ext_getElem
 ·simp
 ·intro i h1 h2;simp [at_, List.getD, h2]
theorem strOfNums_inj {l l' : List Int} (h : ∀ x ∈ l, 0 ≤ x ∧ x ≤ 255) (h' : ∀ x ∈ l', 0 ≤ x ∧ x ≤ 255) (e : strOfNums l = strOfNums l') : l = l' := by
 have e2 : (l.map fun n => UInt8.ofNat n.toNat) = l'.map fun n => UInt8.ofNat n.toNat := by have := congrArg (fun s : ByteArray => s.data.toList) e;simpa [strOfNums] using this
 clear e
 induction l generalizing l' with
 | nil => cases l' with
  | nil => rfl
  | cons y l' => simp at e2
 | cons x l ih =>
  cases l' with
  | nil => simp at e2
  | cons y l' =>
   simp only [List.map_cons, List.cons.injEq] at e2;obtain ⟨e1, e2⟩ := e2;have hx := h x (by simp);have hy := h' y (by simp);have e3 := congrArg UInt8.toNat e1;simp only [UInt8.toNat_ofNat'] at e3;have : x = y := by omega
   subst this;rw [ih (fun z hz => h z (by simp [hz])) (fun z hz => h' z (by simp [hz])) e2]
theorem strOf_eq {l : List Int} {n : Nat} {g : Nat → Int} (hl : ∀ x ∈ l, 0 ≤ x ∧ x ≤ 255) (hg : ∀ i, 0 ≤ g i ∧ g i ≤ 255) : strOf l.length (at_ l) = strOf n g ↔ l = (List.range n).map g := by
 rw [strOf_at];constructor
 ·intro h;exact strOfNums_inj hl (by simp only [List.mem_map]; rintro x ⟨i, _, rfl⟩; exact hg i) h
 ·rintro rfl;rfl
theorem toList_inj {s s' : ByteArray} (h : s.toList = s'.toList) : s = s' := by
 rw [ByteArray.toList_eq, ByteArray.toList_eq] at h;cases s;cases s'
 congr
 exact Array.toList_inj.1 h
theorem of_strings {n : Nat} {g : Nat → Int} {c : Int} (hg : ∀ i, 0 ≤ g i ∧ g i ≤ 255) (hc : combo n g = c) :
 (ofP n g = c ∧ strOf (enc c).length (at_ (enc c)) = strOf n g) ∨ (ofP n g = -1 ∧ ((strOf (enc c).length (at_ (enc c))).toList == (strOf n g).toList) = false) := by
 unfold ofP;rw [hc];have := strOf_eq (n := n) (enc_bytes c) hg;by_cases h : enc c = (List.range n).map g
 ·exact Or.inl ⟨if_pos h, this.2 h⟩
 ·exact Or.inr ⟨if_neg h, beq_eq_false_iff_ne.2 fun e => h (this.1 (toList_inj e))⟩
theorem intPost {r a : Int} {w w' : World} (h : r = a) (hb : Below w.heap.size w w') : IntPost r w (.returned (.int .i64 a)) w' := by rw [h]; exact ⟨rfl, hb⟩
end utfw
end
section
namespace bulk
open sq
open Go Go.RowKit
def acts (P : Program) (w : World) : List Oper → Act → Act
 | [], a => a
 | o :: r, a => match (execOp a.eval o).run P w with
  | .ok (.value v) _ => acts P w r (a.put o.dst v)
  | _ => a
def bulk (P : Program) : List Oper → Act → World → Option (Act × World)
 | [], a, w => some (a, w)
 | o :: r, a, w => match o.guard with
  | some _ => none
  | none => match (execOp a.eval o).run P w with
   | .ok (.value v) w' => bulk P r (a.put o.dst v) w'
   | _ => none
theorem wpList_value {P : Program} {ops : Array Oper} {Q : Exit → Act → World → Prop} {rest : List Oper} {o : Oper} {a : Act} {w w' : World} {v : Value} (hg : o.guard = none)
 (h : (execOp a.eval o).run P w = .ok (.value v) w') (hr : wpList P ops Q rest (a.put o.dst v) w') : wpList P ops Q (o :: rest) a w :=
 wpList_plain hg fun K hK => by unfold Oper.wp;rw [h];exact hK _ _ hr
theorem wpList_bulk {P : Program} {ops : Array Oper} {Q : Exit → Act → World → Prop} (l : List Oper) {rest : List Oper} {a' : Act} {w' : World} (hr : wpList P ops Q rest a' w') :
 ∀ (a : Act) (w : World), bulk P l a w = some (a', w') → wpList P ops Q (l ++ rest) a w := by
 induction l with
 | nil =>
  intro a w h;simp only [bulk, dG, dL] at h;obtain ⟨rfl, rfl⟩ := h;exact hr
 | cons o r ih =>
  intro a w h;unfold bulk at h;split at h
  ·cases h
  ·rename_i hg;split at h
   ·rename_i v w1 hv;exact wpList_value hg hv (ih _ _ h)
   ·cases h
theorem wpList_bulk_n {P : Program} {ops : Array Oper} {Q : Exit → Act → World → Prop} {l : List Oper} (n : Nat) {a a' : Act} {w w' : World} (h : bulk P (l.take n) a w = some (a', w')) (hr : wpList P ops Q (l.drop n) a' w') :
 wpList P ops Q l a w := by
 have := wpList_bulk (l.take n) hr a w h;rwa [List.take_append_drop] at this
theorem wpList_bulk_w {P : Program} {ops : Array Oper} {Q : Exit → Act → World → Prop} {l : List Oper} (n : Nat) {a : Act} {w : World} (h : bulk P (l.take n) a w = some (acts P w (l.take n) a, w))
 (hr : wpList P ops Q (l.drop n) (acts P w (l.take n) a) w) : wpList P ops Q l a w := wpList_bulk_n n h hr
theorem wpList_bulk_x {P : Program} {ops : Array Oper} {Q : Exit → Act → World → Prop} {l : List Oper} (n : Nat) {a : Act} {w : World} (w' : World) (h : bulk P (l.take n) a w = some (acts P w (l.take n) a, w'))
 (hr : wpList P ops Q (l.drop n) (acts P w (l.take n) a) w') : wpList P ops Q l a w := wpList_bulk_n n h hr
theorem eval_put_same {a : Act} {d : Nat} {v : Value} (h : d < a.tmps.size) : (a.put (some d) v).eval (.tmp d) = v := by simp [Act.put, Act.eval, Array.getD, h]
theorem eval_put_other {a : Act} {d t : Nat} {v : Value} (h : d ≠ t) : (a.put (some d) v).eval (.tmp t) = a.eval (.tmp t) := by unfold Act.put Act.eval;simp only [Array.getD_eq_getD_getElem?, Array.getElem?_setIfInBounds_ne h]
theorem tmps_of {a : Act} {t n : Nat} {v : Value} (hz : a.tmps.size = n) (ht : t < n) (h : a.eval (.tmp t) = v) : a.tmps[t]'(by omega) = v := by unfold Act.eval at h;simpa [Array.getD, hz, ht] using h
theorem size_put {a : Act} {d : Option Nat} {v : Value} : (a.put d v).tmps.size = a.tmps.size := by cases d <;> simp [Act.put]
theorem run_move {P : Program} {w : World} {ρ : Operand → Value} {o : Oper} {x : Operand} {v : Value} (ho : o.op = .move x) (hv : ρ x = v) : (execOp ρ o).run P w = .ok (.value v) w := by unfold execOp; rw [ho]; subst hv; rfl
theorem run_index {P : Program} {w : World} {ρ : Operand → Value} {o : Oper} {T : TypeId} {x i : Operand} {vx vi v : Value} (ho : o.op = .index T x i) (hx : ρ x = vx) (hi : ρ i = vi) (hr : (Instr.index T vx vi).run P w = .ok v w) :
 (execOp ρ o).run P w = .ok (.value v) w := by
 unfold execOp; rw [ho]; subst hx; subst hi;simp only;show ((Instr.index T (ρ x) (ρ i)) >>= fun s => pure (Next.value s)).run P w = _;simp [hr]
theorem run_assign {P : Program} {w : World} {ρ : Operand → Value} {o : Oper} {x : Operand} {v : Value} (ho : o.op = .assign x) (hv : ρ x = v) : (execOp ρ o).run P w = .ok (.value v) w := by unfold execOp; rw [ho]; subst hv; rfl
theorem getD_of_eval {a : Act} {t : Nat} {v : Value} (h : a.eval (.tmp t) = v) : a.tmps.getD t undef = v := h
end bulk
end
end Go.Proofs.YtikjhfmmfpeaoaaGreatDoor
