/- T -/
import Derived.BigQuiet
import Derived.BigRegion
import Derived.Carry
import Derived.ChangeMaps5
import Derived.Deep.Cut
import Derived.Deep.CutBlock
import Derived.Deep.DeepCutAuto
import Derived.Deep.DeepHandedRow
import Derived.Deep.Onto
import Derived.Deep.QuietTactic
import Derived.Deep.RegionHeld3
import Derived.Deep.RegionWith
import Derived.Great.BuildSlice
import Derived.IntWalk
import Derived.Laws.AppendOwn
import Derived.Laws.AppendOwnNone
import Derived.Laws.BytesArg
import Derived.Laws.CopyRow
import Derived.Laws.Cover2
import Derived.Laws.Cover3
import Derived.Laws.FloatArith
import Derived.Laws.OwnMore
import Derived.Laws.RangeAny
import Derived.Laws.Rows
import Derived.Laws.Shifts
import Derived.Laws.StructEq
import Derived.Lib.BytesEntry
import Derived.Lib.ConvBytes
import Derived.Lib.Hide
import Derived.Lib.LaidTab
import Derived.Lib.OwnBridge
import Derived.Lib.QuietBelow
import Derived.LoopN
import Derived.Maps.AppendAt
import Derived.Maps.OwnSet
import Derived.OpenShut
import Derived.Outline
import Derived.OwnWalk
import Derived.ProofKit
import Derived.RegionTactic
import Derived.Shelf.Abstract
import Derived.Shelf.Bytes.SlIndexAt
import Derived.Shelf.Lays8
import Derived.Shelf.SlLaysC2
import Derived.Shelf.SlLaysE
import Derived.Shelf.SlLaysE0
import Derived.Shelf.SlLaysF
import Derived.Shelf.SlLaysH
import Derived.Shelf.SlicesE.Clone
import Derived.Shelf.SlicesE.Equal
import Derived.Shelf.SlicesE.IndexFunc
import Derived.Shelf.SlicesG.Cmp
import Derived.Shelf.Spec.SlicesGrow
import Derived.SizedLaws
import Derived.Sort.Grow
import Derived.Sort.Walk0
import Derived.StillTailTactics
import Derived.Stop.LaidErr
import Derived.Test.YtnpcombfgdbhkaaDoorCards
import Derived.Test.YtnpcombfgdbhkaaDoorChecked
import Derived.Test.YtnpcombfgdbhkaaDoorRows
import Derived.Test.YtnpcombfgdbhkaaDoorTie
import Derived.WalkKit
import Derived.WalkLawsBesides
import Derived.WalkMore
import Derived.WalkSpells
import GoSem.Core.Float
import Derived.Test.YtnpcombfgdbhkaaDoorBPs01
import Derived.Test.YtnpcombfgdbhkaaDoorBPs02
import Derived.Test.YtnpcombfgdbhkaaDoorBPs03
import Derived.Test.YtnpcombfgdbhkaaDoorBPs04
import Derived.Test.YtnpcombfgdbhkaaDoorBPs05
import Derived.Test.YtnpcombfgdbhkaaDoorBPs06
import Derived.Test.YtnpcombfgdbhkaaDoorBPs07
import Derived.Test.YtnpcombfgdbhkaaDoorBPs08
import Derived.Test.YtnpcombfgdbhkaaDoorBPs09
import Derived.Test.YtnpcombfgdbhkaaDoorBPs10
import Derived.Test.YtnpcombfgdbhkaaDoorBPs11
import Derived.Test.YtnpcombfgdbhkaaDoorBPs12
import Derived.Test.YtnpcombfgdbhkaaDoorBPs13
import Derived.Test.YtnpcombfgdbhkaaDoorBPs14
import Derived.Test.YtnpcombfgdbhkaaDoorBPs15
import Derived.Test.YtnpcombfgdbhkaaDoorBPs16
import Derived.Test.YtnpcombfgdbhkaaDoorBPs17
import Derived.Test.YtnpcombfgdbhkaaDoorBPs18
import Derived.Test.YtnpcombfgdbhkaaDoorBPs19
import Derived.Test.YtnpcombfgdbhkaaDoorBPs20
import Derived.Test.YtnpcombfgdbhkaaDoorBPs21
import Derived.Test.YtnpcombfgdbhkaaDoorBPs22
import Derived.Test.YtnpcombfgdbhkaaDoorBPs23
import Derived.Test.YtnpcombfgdbhkaaDoorBPs24
import Derived.Test.YtnpcombfgdbhkaaDoorBPs25
import Derived.Test.YtnpcombfgdbhkaaDoorBPs26
namespace Go.Proofs.YtnpcombfgdbhkaaDoor.bulk
end Go.Proofs.YtnpcombfgdbhkaaDoor.bulk
namespace Go.Proofs.YtnpcombfgdbhkaaDoor.chn
end Go.Proofs.YtnpcombfgdbhkaaDoor.chn
namespace Go.Proofs.YtnpcombfgdbhkaaDoor.ext
end Go.Proofs.YtnpcombfgdbhkaaDoor.ext
namespace Go.Proofs.YtnpcombfgdbhkaaDoor.flt
end Go.Proofs.YtnpcombfgdbhkaaDoor.flt
namespace Go.Proofs.YtnpcombfgdbhkaaDoor.lawParseChains
end Go.Proofs.YtnpcombfgdbhkaaDoor.lawParseChains
namespace Go.Proofs.YtnpcombfgdbhkaaDoor.prd
end Go.Proofs.YtnpcombfgdbhkaaDoor.prd
namespace Go.Proofs.YtnpcombfgdbhkaaDoor.prp
end Go.Proofs.YtnpcombfgdbhkaaDoor.prp
namespace Go.Proofs.YtnpcombfgdbhkaaDoor.prw
end Go.Proofs.YtnpcombfgdbhkaaDoor.prw
namespace Go.Proofs.YtnpcombfgdbhkaaDoor.psl
end Go.Proofs.YtnpcombfgdbhkaaDoor.psl
namespace Go.Proofs.YtnpcombfgdbhkaaDoor.psm
end Go.Proofs.YtnpcombfgdbhkaaDoor.psm
namespace Go.Proofs.YtnpcombfgdbhkaaDoor.psp
end Go.Proofs.YtnpcombfgdbhkaaDoor.psp
namespace Go.Proofs.YtnpcombfgdbhkaaDoor.psr
end Go.Proofs.YtnpcombfgdbhkaaDoor.psr
namespace Go.Proofs.YtnpcombfgdbhkaaDoor.psw
end Go.Proofs.YtnpcombfgdbhkaaDoor.psw
namespace Go.Proofs.YtnpcombfgdbhkaaDoor.rpp
end Go.Proofs.YtnpcombfgdbhkaaDoor.rpp
namespace Go.Proofs.YtnpcombfgdbhkaaDoor.rpw
end Go.Proofs.YtnpcombfgdbhkaaDoor.rpw
namespace Go.Proofs.YtnpcombfgdbhkaaDoor.rtp
end Go.Proofs.YtnpcombfgdbhkaaDoor.rtp
namespace Go.Proofs.YtnpcombfgdbhkaaDoor.rtw
end Go.Proofs.YtnpcombfgdbhkaaDoor.rtw
namespace Go.Proofs.YtnpcombfgdbhkaaDoor.setl
end Go.Proofs.YtnpcombfgdbhkaaDoor.setl
namespace Go.Proofs.YtnpcombfgdbhkaaDoor.setp
end Go.Proofs.YtnpcombfgdbhkaaDoor.setp
namespace Go.Proofs.YtnpcombfgdbhkaaDoor.setw
end Go.Proofs.YtnpcombfgdbhkaaDoor.setw
namespace Go.Proofs.YtnpcombfgdbhkaaDoor.sq
end Go.Proofs.YtnpcombfgdbhkaaDoor.sq
namespace Go.Proofs.YtnpcombfgdbhkaaDoor.tkp
end Go.Proofs.YtnpcombfgdbhkaaDoor.tkp
namespace Go.Proofs.YtnpcombfgdbhkaaDoor.tkw
end Go.Proofs.YtnpcombfgdbhkaaDoor.tkw
namespace Go.Proofs.YtnpcombfgdbhkaaDoor.trp
end Go.Proofs.YtnpcombfgdbhkaaDoor.trp
namespace Go.Proofs.YtnpcombfgdbhkaaDoor.trw
end Go.Proofs.YtnpcombfgdbhkaaDoor.trw
namespace Go.Proofs.YtnpcombfgdbhkaaDoor.ucdp
end Go.Proofs.YtnpcombfgdbhkaaDoor.ucdp
namespace Go.Proofs.YtnpcombfgdbhkaaDoor.ucdw
end Go.Proofs.YtnpcombfgdbhkaaDoor.ucdw
namespace Go.Proofs.YtnpcombfgdbhkaaDoor.utfp
end Go.Proofs.YtnpcombfgdbhkaaDoor.utfp
namespace Go.Proofs.YtnpcombfgdbhkaaDoor.utfw
end Go.Proofs.YtnpcombfgdbhkaaDoor.utfw
set_option maxHeartbeats 16000000
set_option maxRecDepth 1000000
section
namespace Go.Proofs.YtnpcombfgdbhkaaDoor.utfp
open sq
theorem seqAt_full {g : Nat → Int} {n p k : Nat} {s : Int} (hs : len0 (g p) = s) (_h0 : s ≠ 0) (hn : s ≤ (n : Int) - p) (hk : (k : Int) = s - 1) (hc : conts g p k = true) :
 seqAt g n p = if wid (acc g p (head0 s) k) = s then (acc g p (head0 s) k, s) else (0, 0) := by
 unfold seqAt;rw [hs, show (s - 1).toNat = k from by omega];rw [if_neg (by omega)];simp [hc]
end Go.Proofs.YtnpcombfgdbhkaaDoor.utfp
end
section
namespace Go.Proofs.YtnpcombfgdbhkaaDoor.ucdw
open sq
open Go Go.RowKit bulk ucdp
theorem wpList_append_i {ops : Array Oper} {rest : List Oper} {o : Oper} {a : Act} {w : World} {Q : Exit → Act → World → Prop} (hgd : o.guard = none) (s x : Operand)
 (ho : o.op = .call { callee := .builtin .append, args := #[s, x], argTypes := #[43, 43] }) (base : Nat) (v : Value) (D : List Int) (hs : a.eval s = v) (hown : OwnI w base v D)
 (q : Int) (B : Nat) (hx : a.eval x = .slice (some ⟨B, 0, none⟩) 1 1) (hB : B = w.heap.size) (hlen : D.length ≤ 4000) (hbase : base ≤ w.heap.size)
 (h : ∀ v' w', OwnI w' base v' (D ++ [q]) → (∀ B w1, Below B w1 w → B ≤ base → Below B w1 w') → wpList Tryd.prog ops Q rest (a.put o.dst v') w') :
 wpList Tryd.prog ops Q (o :: rest) a (w.alloc (.cells #[.int .i64 q] 3)) := by
 subst hB;obtain ⟨i0, hi, hz0, hz1, hz2⟩ := info_parts infoInt;refine wpList_append_own _ hgd s x _ ho base 3 i0 (.int .i64 0) 1 8 Tryd.underlying43 hi hz0 hz1 hz2 rfl (by decide) v _ _ hs (World.ownsRow.alloc hown _) ⟨w.heap.size, 0, none⟩ 1 1 [.int .i64 q] hx rfl ?_ ?_ (by unfold maxLen; omega) (by omega) (by rw [World.size_alloc]; omega) ?_
 ·intro j u hj;have hj0 : j = 0 := by
   cases j with
   | zero => rfl
   | succ j => simp at hj
  subst hj0;simp only [List.getElem?_cons_zero, Option.some.injEq] at hj;subst hj;have hplain : (⟨w.heap.size, 0, none⟩ : Addr).add 0 = ⟨w.heap.size, 0, none⟩ := by unfold Addr.add; split <;> simp_all
  rw [hplain, World.cell?_alloc_new];rfl
 ·intro u hu;simp only [List.mem_cons, List.not_mem_nil, or_false] at hu;subst hu;rfl
 ·intro v' w' hown' hgr _;refine h v' w' ?_ (fun B w1 hb hB => (hb.alloc (by have := hb.size; omega) _).grown hgr (by rw [World.size_alloc]; omega) (fun k hk => ?_))
  ·have e : ic (D ++ [q]) = ic D ++ [.int .i64 q] := by simp [ic]
   unfold OwnI;rw [e];simpa using hown'
  ·have := (World.ownsRow.lt hown) k hk;omega
end Go.Proofs.YtnpcombfgdbhkaaDoor.ucdw
end
section
namespace Go.Proofs.YtnpcombfgdbhkaaDoor.trw
open sq
open Go Go.RowKit trp
theorem fAt_tail {w : World} {b o : Nat} {x : Lab} {k r : F} (h : FAt w b o (.cons x k r)) : FAt w b (o + 12) r := h.2.2.2
section
variable {P : Program}
end
end Go.Proofs.YtnpcombfgdbhkaaDoor.trw
end
section
namespace Go.Proofs.YtnpcombfgdbhkaaDoor.trw
open sq
open Go.Sort Go Go.RowKit trp
theorem infoInt : (Tryd.prog.info? 3).map (fun i => (i.zero, i.size, i.bytes)) = some (some (.int .i64 0), 1, 8) := by kernel_rfl
end Go.Proofs.YtnpcombfgdbhkaaDoor.trw
end
section
namespace Go.Proofs.YtnpcombfgdbhkaaDoor.psr
open sq
open Go Go.RowKit Go.ChangeShapes Go.WideShapes Go.ChangeAt psw utfp utfw
theorem wf_int {n : Int} (h : (Lit.int .i64 n).wf = true) : -9223372036854775808 ≤ n ∧ n ≤ 9223372036854775807 := by
 have h2 : IntKind.i64.min ≤ n ∧ n ≤ IntKind.i64.max := by simpa [Lit.wf] using h
 rw [show IntKind.i64.min = -9223372036854775808 by decide, show IntKind.i64.max = 9223372036854775807 by decide] at h2;exact h2
end Go.Proofs.YtnpcombfgdbhkaaDoor.psr
end
section
namespace Go.Proofs.YtnpcombfgdbhkaaDoor.psl
open sq
open Go tkp trp rpp rtp
open tkw (sg sg_bd)
open utfw (strOf)
theorem s_left {A B : ByteArray} {i : Nat} (h : i < A.size) : sg (A ++ B) i = sg A i := by
 have h' : i < A.data.toList.length := by simpa using h
 unfold sg;have : (A ++ B).data.toList = A.data.toList ++ B.data.toList := by simp [ByteArray.data_append]
 rw [this, List.getD_eq_getElem?_getD, List.getElem?_append_left h', List.getD_eq_getElem?_getD]
theorem s_right {A B : ByteArray} {i j : Nat} (h : i = A.size + j) : sg (A ++ B) i = sg B j := by
 have h' : A.data.toList.length = A.size := by simp
 unfold sg;have : (A ++ B).data.toList = A.data.toList ++ B.data.toList := by simp [ByteArray.data_append]
 rw [this, List.getD_eq_getElem?_getD, List.getElem?_append_right (by omega), List.getD_eq_getElem?_getD, show i - A.data.toList.length = j by omega]
theorem s_end {A : ByteArray} {i : Nat} (h : A.size ≤ i) : sg A i = 0 := by
 have h' : A.data.toList.length ≤ i := by simpa using h
 unfold sg;rw [List.getD_eq_getElem?_getD, List.getElem?_eq_none h'];rfl
theorem s_str {n : Nat} {g : Nat → Int} (hg : ∀ i, 0 ≤ g i ∧ g i ≤ 255) {i : Nat} (hi : i < n) : sg (strOf n g) i = g i := by
 have e : (strOf n g).data.toList[i]? = some (UInt8.ofNat (g i).toNat) := by unfold strOf;simp [strOfNums, hi]
 unfold sg;rw [List.getD_eq_getElem?_getD, e];have := hg i;simp only [Option.getD_some];have h2 : (UInt8.ofNat (g i).toNat).toNat = (g i).toNat := by rw [UInt8.toNat_ofNat'];omega
 omega
def textG (g : Nat → Int) (n : Nat) : R F := match rlexP g n 0 with
 | .error x => .error x
 | .ok T => parseP T n
theorem text_g (s : ByteArray) : textP s = textG (sg s) s.size := by
 have e : sg (strOf s.size (sg s)) = sg s := funext fun i => by
  by_cases h : i < s.size
  ·exact s_str (sg_bd s) h
  ·rw [s_end (by rw [strOf_size]; omega), s_end (by omega)]
 unfold textP textG;rw [e];cases rlexP (sg s) s.size 0 <;> rfl
end Go.Proofs.YtnpcombfgdbhkaaDoor.psl
end
section
namespace Go.Proofs.YtnpcombfgdbhkaaDoor.ext
open sq
open Go utfp ucdp setp prp tkp rtp
theorem char_lowX (p : Pt) {i : Nat} (hi : i < p.n) {c : Int} (h : p.g i = c) (h0 : 0 ≤ c) (h1 : c < 128) : p.char i = (c, i + 1) := by
 have hs : seqAt p.g p.n i = (c, 1) := by
  have hl : len0 (p.g i) = 1 := by rw [h]; unfold len0; rw [if_pos h1]
  have hw : wid (acc p.g i (head0 1) 0) = 1 := by show wid (p.g i - 0) = 1;rw [h];unfold wid;rw [if_neg (by omega), if_pos (by omega)]
  rw [seqAt_full (k := 0) hl (by decide) (by omega) (by decide) rfl, if_pos hw];show (p.g i - 0, (1 : Int)) = (c, 1);rw [h];simp
 unfold Pt.char nextP;rw [if_neg (by omega), Int.toNat_natCast];unfold stepv;rw [hs];split
 ·simp only [Prod.mk.injEq, true_and]; omega
 ·simp only [Prod.mk.injEq]; exact ⟨h, by omega⟩
end Go.Proofs.YtnpcombfgdbhkaaDoor.ext
end
section
namespace Go.Proofs.YtnpcombfgdbhkaaDoor.ext
open sq
open Go tkp trp rpp
theorem app_assocX : ∀ f g h : F, F.app (F.app f g) h = F.app f (F.app g h)
 | .nil, _, _ => rfl
 | .cons x k r, g, h => by simp only [F.app, app_assocX r g h]
theorem app_nilX : ∀ f : F, F.app f .nil = f
 | .nil => rfl
 | .cons x k r => by simp only [F.app, app_nilX r]
end Go.Proofs.YtnpcombfgdbhkaaDoor.ext
end
section
namespace Go.Proofs.YtnpcombfgdbhkaaDoor.ext
open sq
open Go utfp tkp rtp trp rpp
def tx (g : Nat → Int) (n : Nat) : R F := match rlexP g n 0 with
 | .error x => .error x
 | .ok T => parseP T n
def pt (g : Nat → Int) (n : Nat) : Pt := { g := g, n := n, u := false, x := false }
theorem rl0 {g : Nat → Int} {n : Nat} (hn : n ≤ 1000) : rlexP g n 0 = lexF (pt g n) (n + 1) false [] 0 := by
 unfold rlexP;rw [if_neg (by omega), if_neg (by omega)];have h5 : (0 : Int).toNat.testBit 5 = false := by decide
 have h3 : (0 : Int).toNat.testBit 3 = false := by decide
 rw [h5, h3, if_neg (by simp)];rfl
theorem has_notX {p : Pt} {c : UInt8} {l : List UInt8} {i : Nat} (h : p.g i ≠ (c.toNat : Int)) : p.has (c :: l) i = false := by rw [Pt.has, decide_eq_false h];simp
theorem has_is {p : Pt} {c : UInt8} {i : Nat} (hi : i < p.n) (h : p.g i = (c.toNat : Int)) : p.has [c] i = true := by show (decide (i < p.n) && decide (p.g i = (c.toNat : Int)) && true) = true;rw [decide_eq_true hi, decide_eq_true h];rfl
theorem lex_end {p : Pt} {k i : Nat} {b : Bool} {T : List Tk} (hi : p.n ≤ i) : lexF p k b T i = .ok T := by
 cases k with
 | zero => rfl
 | succ k => rw [lexF, if_pos hi]
theorem tok_shut {p : Pt} (hx : p.x = false) {i : Nat} (hi : i < p.n) (h : p.g i = 41) : tokR p i = .ok (some (lay { kind := 8 } i (i + 1)), i + 1) := by unfold tokR;rw [char_lowX p hi h (by decide) (by decide)];dsimp only;rw [if_neg (by simp [hx]), if_neg (by simp [hx]), if_neg (by decide), if_neg (by decide), if_neg (by decide), if_neg (by decide), if_neg (by decide), if_neg (by decide), if_neg (by decide), if_pos rfl];rfl
theorem tok_bar {p : Pt} (hx : p.x = false) {i : Nat} (hi : i < p.n) (h : p.g i = 124) : tokR p i = .ok (some (lay { kind := 7 } i (i + 1)), i + 1) := by unfold tokR;rw [char_lowX p hi h (by decide) (by decide)];dsimp only;rw [if_neg (by simp [hx]), if_neg (by simp [hx]), if_neg (by decide), if_neg (by decide), if_neg (by decide), if_neg (by decide), if_neg (by decide), if_neg (by decide), if_pos rfl];rfl
theorem one_F (K : Int) (l : F) : ∃ x k, oneF K l = F.one x k := by
 cases l with
 | nil => exact ⟨_, _, rfl⟩
 | cons x k r => cases r with
  | nil => exact ⟨_, _, rfl⟩
  | cons _ _ _ => exact ⟨_, _, rfl⟩
def r0 : Ps := { i := 0 }
def finX (L : List Tk) (n : Int) (r : F × Ps) : R F :=
 if (if r.2.e = 0 ∧ r.2.i < L.length then failS r.2 31 (L.getD r.2.i zeroT).at_ else r.2).e = 20 then .error (20, n)
 else if (if r.2.e = 0 ∧ r.2.i < L.length then failS r.2 31 (L.getD r.2.i zeroT).at_ else r.2).e ≠ 0 then .error ((if r.2.e = 0 ∧ r.2.i < L.length then failS r.2 31 (L.getD r.2.i zeroT).at_ else r.2).e, (if r.2.e = 0 ∧ r.2.i < L.length then failS r.2 31 (L.getD r.2.i zeroT).at_ else r.2).at_)
 else .ok (oneF 13 r.1)
theorem parse_fin (L : List Tk) (n : Int) : parseP L n = finX L n (run L (3 * L.length + 3) (.alt .nil) r0) := rfl
theorem run_parse {L : List Tk} {n : Int} {r : F × Ps} (e : run L (3 * L.length + 3) (.alt .nil) r0 = r) : (r.2.e = 11 → parseP L n = .error (11, r.2.at_)) ∧ (r.2.e = 0 → r.2.i = L.length → parseP L n = .ok (oneF 13 r.1)) := by
 rw [parse_fin, e];unfold finX;constructor
 ·intro h;rw [if_neg (show ¬ (r.2.e = 0 ∧ r.2.i < L.length) by rw [h]; exact fun x => absurd x.1 (by decide)), h, if_neg (by decide), if_pos (by decide)]
 ·intro h hi;rw [if_neg (show ¬ (r.2.e = 0 ∧ r.2.i < L.length) by omega), h, if_neg (by decide), if_neg (by decide)]
end Go.Proofs.YtnpcombfgdbhkaaDoor.ext
end
section
namespace Go.Proofs.YtnpcombfgdbhkaaDoor.chn
open sq
open Go utfp setp prp tkp rtp trp rpp
open ext (pt rl0 has_notX has_is lex_end tok_shut tok_bar char_lowX r0)
def Nx (p : Pt) (j : Nat) : Prop := p.n ≤ j ∨ (j < p.n ∧ (p.g j = 97 ∨ p.g j = 91 ∨ p.g j = 40 ∨ p.g j = 46 ∨ p.g j = 92))
theorem lex_t {p : Pt} {k i to_ : Nat} {T : List Tk} {t : Tk} (hi : i < p.n) (h : p.has [92, 81] i = false) (e : tokR p i = .ok (some t, to_)) : lexF p (k + 1) false T i = lexF p k false (T ++ [t]) to_ := by rw [lexF, if_neg (by omega), if_neg (by simp), h, if_neg (by simp), e]
theorem has_endX {p : Pt} {c : UInt8} {l : List UInt8} {i : Nat} (h : p.n ≤ i) : p.has (c :: l) i = false := by rw [Pt.has, decide_eq_false (by omega)];rfl
theorem nx_has {p : Pt} {j : Nat} (h : Nx p j) {c : UInt8} (h1 : (c.toNat : Int) ≠ 97) (h2 : (c.toNat : Int) ≠ 91) (h3 : (c.toNat : Int) ≠ 40) (h4 : (c.toNat : Int) ≠ 46) (h5 : (c.toNat : Int) ≠ 92) : p.has [c] j = false := by
 rcases h with h | ⟨_, h⟩
 ·exact has_endX h
 ·exact has_notX (by omega)
theorem nx_mode {p : Pt} {j : Nat} (h : Nx p j) : p.mode j = (0, j) := by unfold Pt.mode;rw [nx_has h (by decide) (by decide) (by decide) (by decide) (by decide), nx_has h (by decide) (by decide) (by decide) (by decide) (by decide), if_neg (by simp), if_neg (by simp)]
theorem tok_let {p : Pt} (hx : p.x = false) {i : Nat} (hi : i < p.n) {c : Int} (h : p.g i = c) (hc : 97 ≤ c ∧ c ≤ 122) : tokR p i = .ok (some (lay { kind := 1, c := c } i (i + 1)), i + 1) := by unfold tokR;rw [char_lowX p hi h (by omega) (by omega)];dsimp only;rw [if_neg (by simp [hx]), if_neg (by simp [hx]), if_neg (by omega), if_neg (by omega), if_neg (by omega), if_neg (by omega), if_neg (by omega), if_neg (by omega), if_neg (by omega), if_neg (by omega), if_neg (by omega), if_neg (by omega), if_neg (by omega), if_neg (by omega)];rfl
theorem tok_dot {p : Pt} (hx : p.x = false) {i : Nat} (hi : i < p.n) (h : p.g i = 46) : tokR p i = .ok (some (lay { kind := 3 } i (i + 1)), i + 1) := by unfold tokR;rw [char_lowX p hi h (by decide) (by decide)];dsimp only;rw [if_neg (by simp [hx]), if_neg (by simp [hx]), if_neg (by decide), if_neg (by decide), if_neg (by decide), if_pos rfl];rfl
theorem tok_cap {p : Pt} (hx : p.x = false) {i : Nat} (hi : i < p.n) (h : p.g i = 40) (h1 : p.g (i + 1) = 100) : tokR p i = .ok (some (lay { kind := 10, n := 1 } i (i + 1)), i + 1) := by unfold tokR;rw [char_lowX p hi h (by decide) (by decide)];dsimp only;rw [if_neg (by simp [hx]), if_neg (by simp [hx]), if_neg (by decide), if_neg (by decide), if_pos rfl];unfold openR;rw [has_notX (c := 42) (l := []) (i := i + 1) (by rw [h1]; decide), has_notX (c := 63) (l := []) (i := i + 1) (by rw [h1]; decide), if_neg (by simp), if_pos rfl];rfl
theorem tok_grp {p : Pt} (hx : p.x = false) {i : Nat} (hi : i + 3 < p.n) (h : p.g i = 40) (h1 : p.g (i + 1) = 63) {c : Int} {k : Int} (h2 : p.g (i + 2) = c) (hc : (c = 58 ∧ k = 2) ∨ (c = 61 ∧ k = 5) ∨ (c = 62 ∧ k = 4)) : tokR p i = .ok (some (lay { kind := 10, n := k } i (i + 3)), i + 3) := by
 unfold tokR;rw [char_lowX p (by omega) h (by decide) (by decide)];dsimp only;rw [if_neg (by simp [hx]), if_neg (by simp [hx]), if_neg (by decide), if_neg (by decide), if_pos rfl];unfold openR;rw [has_notX (c := 42) (l := []) (i := i + 1) (by rw [h1]; decide), has_is (c := 63) (i := i + 1) (by omega) (by rw [h1]; rfl), if_neg (by simp), if_neg (by simp), if_neg (by omega)];unfold kindsT;rcases hc with ⟨rfl, rfl⟩ | ⟨rfl, rfl⟩ | ⟨rfl, rfl⟩
 ·rw [kindR, has_is (c := 58) (i := i + 2) (by omega) (by rw [h2]; rfl), if_pos rfl];rfl
 ·rw [kindR, has_notX (c := 58) (l := []) (i := i + 2) (by rw [h2]; decide), if_neg (by simp), kindR, has_notX (c := 124) (l := []) (i := i + 2) (by rw [h2]; decide), if_neg (by simp), kindR, has_notX (c := 62) (l := []) (i := i + 2) (by rw [h2]; decide), if_neg (by simp), kindR, has_is (c := 61) (i := i + 2) (by omega) (by rw [h2]; rfl), if_pos rfl];rfl
 ·rw [kindR, has_notX (c := 58) (l := []) (i := i + 2) (by rw [h2]; decide), if_neg (by simp), kindR, has_notX (c := 124) (l := []) (i := i + 2) (by rw [h2]; decide), if_neg (by simp), kindR, has_is (c := 62) (i := i + 2) (by omega) (by rw [h2]; rfl), if_pos rfl];rfl
theorem run_one {p : Pt} {i : Nat} (hi : i < p.n) (h : isDig (p.g i) = true) (h2 : p.n ≤ i + 1 ∨ isDig (p.g (i + 1)) = false) : p.run isDig 1000 i = i + 1 := by
 rw [Pt.run, decide_eq_true hi, h];simp only [Bool.and_self, if_true];rw [Pt.run];rcases h2 with h2 | h2
 ·rw [decide_eq_false (by omega)]; rfl
 ·rw [h2]; simp
theorem num_one {p : Pt} {i : Nat} {c : Int} (hi : i < p.n) (h : p.g i = c) (hc : 48 ≤ c ∧ c ≤ 57) (h2 : p.n ≤ i + 1 ∨ isDig (p.g (i + 1)) = false) : num p i = (c - 48, i + 1, false) := by
 have hd : isDig (p.g i) = true := by rw [h]; simp [isDig, hc]
 have hr := run_one hi hd h2;have hv : p.digits i = (c - 48, i + 1) := by unfold Pt.digits;rw [hr, show i + 1 - i = 1 by omega, Pt.val, Pt.val, Nat.add_zero, h];simp only [Prod.mk.injEq, and_true];omega
 unfold num;rw [hv];simp only [Prod.mk.injEq, decide_eq_false_iff_not, true_and];refine ⟨if_neg (by omega), by omega⟩
theorem tok_back {p : Pt} (hx : p.x = false) {i : Nat} (hi : i + 1 < p.n) (h : p.g i = 92) (h1 : p.g (i + 1) = 49) (h2 : p.n ≤ i + 2 ∨ isDig (p.g (i + 2)) = false) : tokR p i = .ok (some (lay { kind := 11, n := 1 } i (i + 2)), i + 2) := by unfold tokR;rw [char_lowX p (by omega) h (by decide) (by decide)];dsimp only;rw [if_neg (by simp [hx]), if_neg (by simp [hx]), if_pos rfl];unfold escR;rw [if_neg (by omega), char_lowX p hi h1 (by decide) (by decide), num_one hi h1 (by decide) h2];dsimp only;rw [if_neg (by decide), if_neg (by decide), if_neg (by decide), if_neg (by decide), if_neg (by decide), if_neg (by decide), if_neg (by decide), if_pos (by decide), if_neg (by simp)];rfl
theorem range_let {p : Pt} {i : Nat} (hi : i + 1 < p.n) {c : Int} (h : p.g i = c) (hc : 97 ≤ c ∧ c ≤ 122) (h1 : p.g (i + 1) ≠ 45) : rangeR p i = .ok ([(c, c)], i + 1) := by
 have hI : itemR p i = .ok ([(c, c)], true, i + 1) := by unfold itemR;rw [has_notX (c := 91) (l := [58]) (i := i) (by rw [h]; show c ≠ 91; omega), if_neg (by simp)];unfold itemC;rw [char_lowX p (by omega) h (by omega) (by omega)];dsimp only;rw [if_neg (by omega)]
 unfold rangeR;rw [hI];simp only;rw [has_notX (c := 45) (l := []) (i := i + 1) h1, if_neg (by simp)]
theorem tok_cls {p : Pt} (hx : p.x = false) {i : Nat} (hi : i + 3 < p.n) (h : p.g i = 91) (h1 : p.g (i + 1) = 98) (h2 : p.g (i + 2) = 99) (h3 : p.g (i + 3) = 93) : ∃ S, tokR p i = .ok (some (lay { kind := 2, set := S, neg := false } i (i + 4)), i + 4) := by
 unfold tokR;rw [char_lowX p (by omega) h (by decide) (by decide)];dsimp only;rw [if_neg (by simp [hx]), if_neg (by simp [hx]), if_neg (by decide), if_pos rfl];unfold clsR;dsimp only;rw [has_notX (c := 94) (l := []) (i := i + 1) (by rw [h1]; decide)];rw [if_neg (show ¬ (false = true) by decide)];obtain ⟨k, hk⟩ : ∃ k, p.n + 1 - (i + 1) = k + 3 := ⟨p.n + 1 - (i + 1) - 3, by omega⟩;have e : clsL p (i + 1) (k + 3) [] (i + 1) = .ok ([(98, 98), (99, 99)], i + 4) := by rw [clsL, if_neg (by omega), if_neg (by rw [h1]; exact fun x => absurd x.1 (by decide)), range_let (by omega) h1 (by decide) (by rw [h2]; decide)];simp only;rw [clsL, if_neg (by omega), if_neg (by rw [h2]; exact fun x => absurd x.1 (by decide)), range_let (by omega) h2 (by decide) (by rw [h3]; decide)];simp only;rw [clsL, if_neg (by omega), if_pos ⟨h3, by omega⟩];rfl
 rw [hk, e];exact ⟨_, rfl⟩
theorem tok_star {p : Pt} (hx : p.x = false) {i : Nat} (hi : i < p.n) (h : p.g i = 42) (h1 : Nx p (i + 1)) : ∃ t, tokR p i = .ok (some t, i + 1) ∧ t.kind = 9 := by unfold tokR;rw [char_lowX p hi h (by decide) (by decide)];dsimp only;rw [if_neg (by simp [hx]), if_neg (by simp [hx]), if_neg (by decide), if_neg (by decide), if_neg (by decide), if_neg (by decide), if_neg (by decide), if_neg (by decide), if_neg (by decide), if_neg (by decide), if_pos rfl];unfold quan;rw [nx_mode h1];exact ⟨_, rfl, rfl⟩
theorem tok_plus {p : Pt} (hx : p.x = false) {i : Nat} (hi : i + 1 < p.n) (h : p.g i = 43) (h1 : p.g (i + 1) = 63) : ∃ t, tokR p i = .ok (some t, i + 2) ∧ t.kind = 9 := by
 unfold tokR;rw [char_lowX p (by omega) h (by decide) (by decide)];dsimp only;rw [if_neg (by simp [hx]), if_neg (by simp [hx]), if_neg (by decide), if_neg (by decide), if_neg (by decide), if_neg (by decide), if_neg (by decide), if_neg (by decide), if_neg (by decide), if_neg (by decide), if_neg (by decide), if_pos rfl];unfold quan;have hm : p.mode (i + 1) = (1, i + 2) := by unfold Pt.mode; rw [has_is (c := 63) hi (by rw [h1]; rfl), if_pos rfl]
 rw [hm];exact ⟨_, rfl, rfl⟩
theorem tok_qm {p : Pt} (hx : p.x = false) {i : Nat} (hi : i + 1 < p.n) (h : p.g i = 63) (h1 : p.g (i + 1) = 43) : ∃ t, tokR p i = .ok (some t, i + 2) ∧ t.kind = 9 := by
 unfold tokR;rw [char_lowX p (by omega) h (by decide) (by decide)];dsimp only;rw [if_neg (by simp [hx]), if_neg (by simp [hx]), if_neg (by decide), if_neg (by decide), if_neg (by decide), if_neg (by decide), if_neg (by decide), if_neg (by decide), if_neg (by decide), if_neg (by decide), if_neg (by decide), if_neg (by decide), if_pos rfl];unfold quan;have hm : p.mode (i + 1) = (2, i + 2) := by unfold Pt.mode; rw [has_notX (c := 63) (l := []) (by rw [h1]; decide), has_is (c := 43) hi (by rw [h1]; rfl), if_neg (by simp), if_pos rfl]
 rw [hm];exact ⟨_, rfl, rfl⟩
theorem tok_two {p : Pt} (hx : p.x = false) {i : Nat} (hi : i + 2 < p.n) (h : p.g i = 123) (h1 : p.g (i + 1) = 50) (h2 : p.g (i + 2) = 125) (h3 : Nx p (i + 3)) : ∃ t, tokR p i = .ok (some t, i + 3) ∧ t.kind = 9 := by
 unfold tokR;rw [char_lowX p (by omega) h (by decide) (by decide)];dsimp only;rw [if_neg (by simp [hx]), if_neg (by simp [hx]), if_neg (by decide), if_neg (by decide), if_neg (by decide), if_neg (by decide), if_neg (by decide), if_neg (by decide), if_neg (by decide), if_neg (by decide), if_neg (by decide), if_neg (by decide), if_neg (by decide), if_pos rfl];have hb : bracR p i = some (2, 2, i + 2, false) := by unfold bracR;dsimp only;rw [num_one (c := 50) (by omega) h1 (by decide) (Or.inr (by rw [h2]; rfl))];dsimp only;rw [has_notX (c := 44) (l := []) (i := i + 1 + 1) (by show p.g (i + 2) ≠ _; rw [h2]; decide), if_neg (by simp), has_is (c := 125) (i := i + 1 + 1) (by omega) (by show p.g (i + 2) = _; rw [h2]; rfl), if_neg (by simp)];rfl
 rw [hb];simp only;rw [if_neg (by simp), if_neg (by decide)];unfold quan;rw [show i + 2 + 1 = i + 3 by omega, nx_mode h3];exact ⟨_, rfl, rfl⟩
end Go.Proofs.YtnpcombfgdbhkaaDoor.chn
end
section
namespace Go.Proofs.YtnpcombfgdbhkaaDoor.chn
open sq
open Go utfp setp prp tkp rtp trp rpp
open ext (pt rl0 lex_end tok_shut tok_bar r0)
def wB : Nat → List Int
 | 0 => [97]
 | 1 => [91, 98, 99, 93]
 | 2 => [40, 100, 41]
 | 3 => [40, 63, 58, 101, 124, 102, 41]
 | 4 => [46]
 | 5 => [92, 49]
 | 6 => [40, 63, 61, 103, 41]
 | 7 => [40, 63, 62, 104, 41]
 | _ => []
def qtB : Nat → List Int
 | 1 => [42]
 | 2 => [43, 63]
 | 3 => [123, 50, 125]
 | 4 => [63, 43]
 | _ => []
def wK : Nat → Int
 | 0 => 1
 | 1 => 2
 | 2 => 14
 | 3 => 15
 | 4 => 3
 | 5 => 7
 | 6 => 18
 | 7 => 17
 | _ => 0
def txt : List Nat → List Int
 | [] => []
 | k :: ks => wB (k % 8) ++ (qtB (k / 8 % 5) ++ txt ks)
def wantK (k : Nat) : Int := if 0 < k / 8 % 5 then 20 else wK (k % 8)
structure AtE (p : Pt) (i : Nat) (l : List Int) : Prop where
 n : p.n = i + l.length
 g : ∀ r, r < l.length → p.g (i + r) = l.getD r 0
theorem atE_split {p : Pt} {i : Nat} {a b : List Int} (h : AtE p i (a ++ b)) : (∀ r, r < a.length → p.g (i + r) = a.getD r 0) ∧ i + a.length ≤ p.n ∧ AtE p (i + a.length) b := by
 have hn := h.n;rw [List.length_append] at hn;refine ⟨fun r hr => ?_, by omega, ⟨by omega, fun r hr => ?_⟩⟩
 ·rw [h.g r (by rw [List.length_append]; omega), List.getD_eq_getElem?_getD, List.getD_eq_getElem?_getD, List.getElem?_append_left hr]
 ·rw [show i + a.length + r = i + (a.length + r) by omega, h.g (a.length + r) (by rw [List.length_append]; omega), List.getD_eq_getElem?_getD, List.getD_eq_getElem?_getD, List.getElem?_append_right (by omega), show a.length + r - a.length = r by omega]
theorem atE_nx {p : Pt} {i : Nat} : ∀ {ks : List Nat}, AtE p i (txt ks) → Nx p i
 | [], h => Or.inl (by have := h.n; simp only [txt, List.length_nil] at this; omega)
 | k :: ks, h => by
  obtain ⟨h1, h2, _⟩ := atE_split h;have hk : k % 8 < 8 := Nat.mod_lt _ (by decide);generalize k % 8 = w at *;have key : ∃ c l, wB w = c :: l ∧ (c = 97 ∨ c = 91 ∨ c = 40 ∨ c = 46 ∨ c = 92) := by
   match w, hk with
   | 0, _ => exact ⟨_, _, rfl, Or.inl rfl⟩
   | 1, _ => exact ⟨_, _, rfl, Or.inr (Or.inl rfl)⟩
   | 2, _ => exact ⟨_, _, rfl, Or.inr (Or.inr (Or.inl rfl))⟩
   | 3, _ => exact ⟨_, _, rfl, Or.inr (Or.inr (Or.inl rfl))⟩
   | 4, _ => exact ⟨_, _, rfl, Or.inr (Or.inr (Or.inr (Or.inl rfl)))⟩
   | 5, _ => exact ⟨_, _, rfl, Or.inr (Or.inr (Or.inr (Or.inr rfl)))⟩
   | 6, _ => exact ⟨_, _, rfl, Or.inr (Or.inr (Or.inl rfl))⟩
   | 7, _ => exact ⟨_, _, rfl, Or.inr (Or.inr (Or.inl rfl))⟩
   | w + 8, h => omega
  obtain ⟨c, l, hc, hv⟩ := key;rw [hc] at h1 h2;have h0 := h1 0 (by simp);simp only [List.length_cons] at h2;rw [Nat.add_zero] at h0;right;refine ⟨by omega, ?_⟩;rw [h0];exact hv
def WT : Nat → List Tk → Prop
 | 0, ts => ∃ t, ts = [t] ∧ t.kind = 1
 | 1, ts => ∃ t, ts = [t] ∧ t.kind = 2
 | 2, ts => ∃ a b c, ts = [a, b, c] ∧ a.kind = 10 ∧ a.n = 1 ∧ b.kind = 1 ∧ c.kind = 8
 | 3, ts => ∃ a b c d e, ts = [a, b, c, d, e] ∧ a.kind = 10 ∧ a.n = 2 ∧ b.kind = 1 ∧ c.kind = 7 ∧ d.kind = 1 ∧ e.kind = 8
 | 4, ts => ∃ t, ts = [t] ∧ t.kind = 3
 | 5, ts => ∃ t, ts = [t] ∧ t.kind = 11
 | 6, ts => ∃ a b c, ts = [a, b, c] ∧ a.kind = 10 ∧ a.n = 5 ∧ b.kind = 1 ∧ c.kind = 8
 | 7, ts => ∃ a b c, ts = [a, b, c] ∧ a.kind = 10 ∧ a.n = 4 ∧ b.kind = 1 ∧ c.kind = 8
 | _, _ => False
def QT (q : Nat) (ts : List Tk) : Prop := (q = 0 ∧ ts = []) ∨ (0 < q ∧ ∃ t, ts = [t] ∧ t.kind = 9)
def Rd (p : Pt) (i l : Nat) (ts : List Tk) : Prop := ts.length ≤ l ∧ ∀ k T, lexF p (k + ts.length) false T i = lexF p k false (T ++ ts) (i + l)
theorem rd_one {p : Pt} {i l : Nat} {t : Tk} (hi : i < p.n) (hl : 1 ≤ l) (h : p.g i ≠ 92) (e : tokR p i = .ok (some t, i + l)) : Rd p i l [t] := ⟨hl, fun _ _ => lex_t hi (ext.has_notX (c := 92) h) e⟩
theorem rd_cat {p : Pt} {i l m : Nat} {a b : List Tk} (h : Rd p i l a) (k : Rd p (i + l) m b) : Rd p i (l + m) (a ++ b) := by refine ⟨by have := h.1; have := k.1; rw [List.length_append]; omega, fun f T => ?_⟩;rw [List.length_append, show f + (a.length + b.length) = f + b.length + a.length by omega, h.2, k.2, List.append_assoc, Nat.add_assoc]
theorem rd_word {p : Pt} (hx : p.x = false) {i w : Nat} (hw : w < 8) (h : ∀ r, r < (wB w).length → p.g (i + r) = (wB w).getD r 0) (hn : i + (wB w).length ≤ p.n) (hd : p.n ≤ i + (wB w).length ∨ isDig (p.g (i + (wB w).length)) = false) : ∃ ts, WT w ts ∧ Rd p i (wB w).length ts := by
 match w, hw with
 | 0, _ =>
  have h0 : p.g i = 97 := h 0 (by decide);have hn' : i + 1 ≤ p.n := hn;exact ⟨_, ⟨_, rfl, rfl⟩, rd_one (l := 1) (by omega) (by decide) (by rw [h0]; decide) (tok_let hx (by omega) h0 (by decide))⟩
 | 1, _ =>
  have h0 : p.g i = 91 := h 0 (by decide);have h1 : p.g (i + 1) = 98 := h 1 (by decide);have h2 : p.g (i + 2) = 99 := h 2 (by decide);have h3 : p.g (i + 3) = 93 := h 3 (by decide);have hn' : i + 4 ≤ p.n := hn;obtain ⟨S, hS⟩ := tok_cls hx (by omega) h0 h1 h2 h3;exact ⟨_, ⟨_, rfl, rfl⟩, rd_one (l := 4) (by omega) (by decide) (by rw [h0]; decide) hS⟩
 | 2, _ =>
  have h0 : p.g i = 40 := h 0 (by decide);have h1 : p.g (i + 1) = 100 := h 1 (by decide);have h2 : p.g (i + 2) = 41 := h 2 (by decide);have hn' : i + 3 ≤ p.n := hn;have a := rd_one (l := 1) (by omega) (by decide) (by rw [h0]; decide) (tok_cap hx (by omega) h0 h1);have b := rd_one (p := p) (i := i + 1) (l := 1) (by omega) (by decide) (by rw [h1]; decide) (tok_let hx (by omega) h1 (by decide));have c := rd_one (p := p) (i := i + 2) (l := 1) (by omega) (by decide) (by rw [h2]; decide) (tok_shut hx (by omega) h2);exact ⟨_, ⟨_, _, _, rfl, rfl, rfl, rfl, rfl⟩, rd_cat (rd_cat a b) c⟩
 | 3, _ =>
  have h0 : p.g i = 40 := h 0 (by decide);have h1 : p.g (i + 1) = 63 := h 1 (by decide);have h2 : p.g (i + 2) = 58 := h 2 (by decide);have h3 : p.g (i + 3) = 101 := h 3 (by decide);have h4 : p.g (i + 4) = 124 := h 4 (by decide);have h5 : p.g (i + 5) = 102 := h 5 (by decide);have h6 : p.g (i + 6) = 41 := h 6 (by decide);have hn' : i + 7 ≤ p.n := hn;have a := rd_one (l := 3) (by omega) (by decide) (by rw [h0]; decide) (tok_grp hx (by omega) h0 h1 h2 (Or.inl ⟨rfl, rfl⟩));have b := rd_one (p := p) (i := i + 3) (l := 1) (by omega) (by decide) (by rw [h3]; decide) (tok_let hx (by omega) h3 (by decide));have c := rd_one (p := p) (i := i + 4) (l := 1) (by omega) (by decide) (by rw [h4]; decide) (tok_bar hx (by omega) h4);have d := rd_one (p := p) (i := i + 5) (l := 1) (by omega) (by decide) (by rw [h5]; decide) (tok_let hx (by omega) h5 (by decide));have e := rd_one (p := p) (i := i + 6) (l := 1) (by omega) (by decide) (by rw [h6]; decide) (tok_shut hx (by omega) h6);exact ⟨_, ⟨_, _, _, _, _, rfl, rfl, rfl, rfl, rfl, rfl, rfl⟩, rd_cat (rd_cat (rd_cat (rd_cat a b) c) d) e⟩
 | 4, _ =>
  have h0 : p.g i = 46 := h 0 (by decide);have hn' : i + 1 ≤ p.n := hn;exact ⟨_, ⟨_, rfl, rfl⟩, rd_one (l := 1) (by omega) (by decide) (by rw [h0]; decide) (tok_dot hx (by omega) h0)⟩
 | 5, _ =>
  have h0 : p.g i = 92 := h 0 (by decide);have h1 : p.g (i + 1) = 49 := h 1 (by decide);have hn' : i + 2 ≤ p.n := hn;have hq : p.has [92, 81] i = false := by rw [Pt.has, ext.has_notX (c := 81) (l := []) (i := i + 1) (by rw [h1]; decide)];simp
  exact ⟨_, ⟨_, rfl, rfl⟩, (show 1 ≤ 2 by decide), fun _ _ => lex_t (by omega) hq (tok_back hx (by omega) h0 h1 hd)⟩
 | 6, _ =>
  have h0 : p.g i = 40 := h 0 (by decide);have h1 : p.g (i + 1) = 63 := h 1 (by decide);have h2 : p.g (i + 2) = 61 := h 2 (by decide);have h3 : p.g (i + 3) = 103 := h 3 (by decide);have h4 : p.g (i + 4) = 41 := h 4 (by decide);have hn' : i + 5 ≤ p.n := hn;have a := rd_one (l := 3) (by omega) (by decide) (by rw [h0]; decide) (tok_grp hx (by omega) h0 h1 h2 (Or.inr (Or.inl ⟨rfl, rfl⟩)));have b := rd_one (p := p) (i := i + 3) (l := 1) (by omega) (by decide) (by rw [h3]; decide) (tok_let hx (by omega) h3 (by decide));have c := rd_one (p := p) (i := i + 4) (l := 1) (by omega) (by decide) (by rw [h4]; decide) (tok_shut hx (by omega) h4);exact ⟨_, ⟨_, _, _, rfl, rfl, rfl, rfl, rfl⟩, rd_cat (rd_cat a b) c⟩
 | 7, _ =>
  have h0 : p.g i = 40 := h 0 (by decide);have h1 : p.g (i + 1) = 63 := h 1 (by decide);have h2 : p.g (i + 2) = 62 := h 2 (by decide);have h3 : p.g (i + 3) = 104 := h 3 (by decide);have h4 : p.g (i + 4) = 41 := h 4 (by decide);have hn' : i + 5 ≤ p.n := hn;have a := rd_one (l := 3) (by omega) (by decide) (by rw [h0]; decide) (tok_grp hx (by omega) h0 h1 h2 (Or.inr (Or.inr ⟨rfl, rfl⟩)));have b := rd_one (p := p) (i := i + 3) (l := 1) (by omega) (by decide) (by rw [h3]; decide) (tok_let hx (by omega) h3 (by decide));have c := rd_one (p := p) (i := i + 4) (l := 1) (by omega) (by decide) (by rw [h4]; decide) (tok_shut hx (by omega) h4);exact ⟨_, ⟨_, _, _, rfl, rfl, rfl, rfl, rfl⟩, rd_cat (rd_cat a b) c⟩
 | w + 8, h => omega
theorem rd_quant {p : Pt} (hx : p.x = false) {i q : Nat} (hq : q < 5) (h : ∀ r, r < (qtB q).length → p.g (i + r) = (qtB q).getD r 0) (hn : i + (qtB q).length ≤ p.n) (hd : Nx p (i + (qtB q).length)) : ∃ ts, QT q ts ∧ Rd p i (qtB q).length ts := by
 match q, hq with
 | 0, _ => exact ⟨[], Or.inl ⟨rfl, rfl⟩, Nat.le_refl _, fun k T => by simp [qtB]⟩
 | 1, _ =>
  have h0 : p.g i = 42 := h 0 (by decide);have hn' : i + 1 ≤ p.n := hn;obtain ⟨t, ht, hk⟩ := tok_star hx (by omega) h0 hd;exact ⟨_, Or.inr ⟨by decide, t, rfl, hk⟩, rd_one (l := 1) (by omega) (by decide) (by rw [h0]; decide) ht⟩
 | 2, _ =>
  have h0 : p.g i = 43 := h 0 (by decide);have h1 : p.g (i + 1) = 63 := h 1 (by decide);have hn' : i + 2 ≤ p.n := hn;obtain ⟨t, ht, hk⟩ := tok_plus hx (by omega) h0 h1;exact ⟨_, Or.inr ⟨by decide, t, rfl, hk⟩, rd_one (l := 2) (by omega) (by decide) (by rw [h0]; decide) ht⟩
 | 3, _ =>
  have h0 : p.g i = 123 := h 0 (by decide);have h1 : p.g (i + 1) = 50 := h 1 (by decide);have h2 : p.g (i + 2) = 125 := h 2 (by decide);have hn' : i + 3 ≤ p.n := hn;obtain ⟨t, ht, hk⟩ := tok_two hx (by omega) h0 h1 h2 hd;exact ⟨_, Or.inr ⟨by decide, t, rfl, hk⟩, rd_one (l := 3) (by omega) (by decide) (by rw [h0]; decide) ht⟩
 | 4, _ =>
  have h0 : p.g i = 63 := h 0 (by decide);have h1 : p.g (i + 1) = 43 := h 1 (by decide);have hn' : i + 2 ≤ p.n := hn;obtain ⟨t, ht, hk⟩ := tok_qm hx (by omega) h0 h1;exact ⟨_, Or.inr ⟨by decide, t, rfl, hk⟩, rd_one (l := 2) (by omega) (by decide) (by rw [h0]; decide) ht⟩
 | q + 5, h => omega
def RowT : List Nat → List Tk → Prop
 | [], R => R = []
 | k :: ks, R => ∃ a b c, R = a ++ (b ++ c) ∧ WT (k % 8) a ∧ QT (k / 8 % 5) b ∧ RowT ks c
theorem rd_all {p : Pt} (hx : p.x = false) : ∀ (ks : List Nat) (i : Nat), AtE p i (txt ks) → ∃ R, RowT ks R ∧ Rd p i (txt ks).length R
 | [], i, _ => ⟨[], rfl, Nat.le_refl _, fun k T => by simp [txt]⟩
 | k :: ks, i, h => by
  obtain ⟨h1, h2, h3⟩ := atE_split h;obtain ⟨g1, g2, g3⟩ := atE_split h3;have hk : k % 8 < 8 := Nat.mod_lt _ (by decide);have hq : k / 8 % 5 < 5 := Nat.mod_lt _ (by decide);have nx := atE_nx g3;have hd : p.n ≤ i + (wB (k % 8)).length ∨ isDig (p.g (i + (wB (k % 8)).length)) = false := by
   generalize i + (wB (k % 8)).length = j at *;generalize k / 8 % 5 = q at *
   match q, hq with
   | 0, _ =>
    rcases nx with nx | ⟨_, nx⟩
    ·exact Or.inl nx
    ·have nx' : p.g j = 97 ∨ p.g j = 91 ∨ p.g j = 40 ∨ p.g j = 46 ∨ p.g j = 92 := nx;right;rcases nx' with e | e | e | e | e <;> rw [e] <;> rfl
   | 1, _ => exact Or.inr (by rw [show p.g j = 42 from g1 0 (by decide)]; rfl)
   | 2, _ => exact Or.inr (by rw [show p.g j = 43 from g1 0 (by decide)]; rfl)
   | 3, _ => exact Or.inr (by rw [show p.g j = 123 from g1 0 (by decide)]; rfl)
   | 4, _ => exact Or.inr (by rw [show p.g j = 63 from g1 0 (by decide)]; rfl)
   | q + 5, h => omega
  obtain ⟨a, wa, ra⟩ := rd_word hx hk h1 h2 hd;obtain ⟨b, wb, rb⟩ := rd_quant hx hq g1 g2 nx;obtain ⟨c, wc, rc⟩ := rd_all hx ks _ g3;refine ⟨a ++ (b ++ c), ⟨a, b, c, rfl, wa, wb, wc⟩, ?_⟩;have := rd_cat ra (rd_cat rb rc);rw [txt, List.length_append, List.length_append];exact this
end Go.Proofs.YtnpcombfgdbhkaaDoor.chn
end
section
namespace Go.Proofs.YtnpcombfgdbhkaaDoor.chn
open sq
open Go tkp rtp trp rpp
open ext (pt rl0 lex_end r0 run_parse tx)
def Sub (L : List Tk) (a : Nat) (ts : List Tk) : Prop := ∀ i, i < ts.length → L[a + i]? = ts[i]?
theorem sub_left {L : List Tk} {a : Nat} {x y : List Tk} (h : Sub L a (x ++ y)) : Sub L a x := fun i hi => by
 rw [h i (by rw [List.length_append]; omega), List.getElem?_append_left hi]
theorem sub_right {L : List Tk} {a : Nat} {x y : List Tk} (h : Sub L a (x ++ y)) : Sub L (a + x.length) y := fun i hi => by
 rw [show a + x.length + i = a + (x.length + i) by omega, h (x.length + i) (by rw [List.length_append]; omega), List.getElem?_append_right (by omega), show x.length + i - x.length = i by omega]
theorem kd {L : List Tk} {s : Ps} {t : Tk} (he : s.e = 0) (h : L[s.i]? = some t) : kindS L s = t.kind := by unfold kindS;rw [if_neg (by simp [he]), h]
theorem kd_no {L : List Tk} {s : Ps} (h : L.length ≤ s.i) : kindS L s = 0 := by unfold kindS;rw [List.getElem?_eq_none h];split <;> rfl
theorem gd {L : List Tk} {i : Nat} {t : Tk} (h : L[i]? = some t) : L.getD i zeroT = t := by rw [List.getD_eq_getElem?_getD, h]; rfl
theorem leaf_run {L : List Tk} {a o : Nat} {t : Tk} (h : L[a]? = some t) (hk : t.kind ≠ 10) (f : Nat) : run L (f + 1) .thing ⟨a, o, 0, 0⟩ = (F.one (leafL t nil3) .nil, ⟨a + 1, o, 0, 0⟩) := by rw [run];simp only;rw [gd h, if_pos hk]
theorem seq_leaf {L : List Tk} {a o : Nat} {t u : Tk} (h : L[a]? = some t) (hk : t.kind = 1) (h2 : L[a + 1]? = some u) (hu : u.kind = 7 ∨ u.kind = 8) (f : Nat) : run L (f + 2) (.seq .nil) ⟨a, o, 0, 0⟩ = (F.one (leafL t nil3) .nil, ⟨a + 1, o, 0, 0⟩) := by have k1 : kindS L ⟨a, o, 0, 0⟩ = 1 := (kd (s := ⟨a, o, 0, 0⟩) rfl h).trans hk;have k2 : kindS L ⟨a + 1, o, 0, 0⟩ = u.kind := kd (s := ⟨a + 1, o, 0, 0⟩) rfl h2;rw [run, if_neg (by rw [k1]; decide), if_neg (by rw [k1]; decide)];simp only;rw [leaf_run h (by rw [hk]; decide) f];simp only;rw [if_neg (by rw [k2]; omega), run, if_pos (by rw [k2]; omega)];rfl
theorem alt_one {L : List Tk} {a o : Nat} {acc : F} {t u : Tk} (h : L[a]? = some t) (hk : t.kind = 1) (h2 : L[a + 1]? = some u) (hu : u.kind = 8) (f : Nat) : run L (f + 3) (.alt acc) ⟨a, o, 0, 0⟩ = (F.app acc (F.one (leafL t nil3) .nil), ⟨a + 1, o, 0, 0⟩) := by have k2 : kindS L ⟨a + 1, o, 0, 0⟩ = 8 := (kd (s := ⟨a + 1, o, 0, 0⟩) rfl h2).trans hu;rw [run];simp only;rw [seq_leaf h hk h2 (Or.inr hu) f];simp only;rw [if_neg (by rw [k2]; decide)]
theorem alt_two {L : List Tk} {a o : Nat} {t u v x : Tk} (h : L[a]? = some t) (hk : t.kind = 1) (h2 : L[a + 1]? = some u) (hu : u.kind = 7) (h3 : L[a + 2]? = some v) (hv : v.kind = 1) (h4 : L[a + 3]? = some x) (hx : x.kind = 8) (f : Nat) : run L (f + 4) (.alt .nil) ⟨a, o, 0, 0⟩ = (.cons (leafL t nil3) .nil (F.one (leafL v nil3) .nil), ⟨a + 3, o, 0, 0⟩) := by have k2 : kindS L ⟨a + 1, o, 0, 0⟩ = 7 := (kd (s := ⟨a + 1, o, 0, 0⟩) rfl h2).trans hu;rw [run];simp only;rw [seq_leaf h hk h2 (Or.inl hu) (f + 1)];simp only;rw [if_pos k2, alt_one (a := a + 1 + 1) (t := v) (u := x) h3 hv h4 hx f];rfl
theorem grp_run {L : List Tk} {a b : Nat} {t : Tk} {l : F} (h : L[a]? = some t) (hk : t.kind = 10) (hn : 1 ≤ t.n ∧ t.n ≤ 8) (f : Nat) (hl : run L f (.alt .nil) ⟨a + 1, 1, 0, 0⟩ = (l, ⟨b, 1, 0, 0⟩)) {u : Tk} (hb : L[b]? = some u) (hu : u.kind = 8) : run L (f + 1) .thing ⟨a, 0, 0, 0⟩ = (jf t .nil l, ⟨b + 1, 0, 0, 0⟩) := by
 have k8 : kindS L ⟨b, 1, 0, 0⟩ = 8 := (kd (s := ⟨b, 1, 0, 0⟩) rfl hb).trans hu;have hc : condT t = false := by unfold condT; simp [hn]
 rw [run];simp only;rw [gd h, if_neg (by rw [hk]; decide), if_neg (by decide), if_neg (show ¬ (t.n = 13 ∧ kindS L ⟨a + 1, 0 + 1, 0, 0⟩ = 10) from fun x => by have := x.1; omega)];simp only [Nat.zero_add];rw [hl];simp only;rw [if_neg (by rw [k8]; decide)];unfold zf;rw [hc, if_neg (by simp)]
theorem word_run {L : List Tk} {a w : Nat} {ts : List Tk} (hw : w < 8) (ht : WT w ts) (h : Sub L a ts) (f : Nat) : ∃ x k, run L (f + 6) .thing ⟨a, 0, 0, 0⟩ = (F.one x k, ⟨a + ts.length, 0, 0, 0⟩) ∧ x.kind = wK w ∧ kindS L ⟨a, 0, 0, 0⟩ ≠ 0 ∧ kindS L ⟨a, 0, 0, 0⟩ ≠ 7 ∧ kindS L ⟨a, 0, 0, 0⟩ ≠ 8 ∧ kindS L ⟨a, 0, 0, 0⟩ ≠ 9 := by
 have one : ∀ t : Tk, ts = [t] → t.kind ≠ 10 → t.kind ≠ 0 → t.kind ≠ 7 → t.kind ≠ 8 → t.kind ≠ 9 → leafK t.kind = wK w → ∃ x k, run L (f + 6) .thing ⟨a, 0, 0, 0⟩ = (F.one x k, ⟨a + ts.length, 0, 0, 0⟩) ∧ x.kind = wK w ∧ kindS L ⟨a, 0, 0, 0⟩ ≠ 0 ∧ kindS L ⟨a, 0, 0, 0⟩ ≠ 7 ∧ kindS L ⟨a, 0, 0, 0⟩ ≠ 8 ∧ kindS L ⟨a, 0, 0, 0⟩ ≠ 9 := fun t hts h10 h0 h7 h8 h9 hl => by subst hts;have g : L[a]? = some t := h 0 (by simp);have k := kd (s := ⟨a, 0, 0, 0⟩) rfl g;rw [k];exact ⟨_, _, leaf_run g h10 (f + 5), hl, h0, h7, h8, h9⟩
 have three : ∀ t b c : Tk, ts = [t, b, c] → t.kind = 10 → (1 ≤ t.n ∧ t.n ≤ 8) → b.kind = 1 → c.kind = 8 → (∃ x k, jf t .nil (F.one (leafL b nil3) .nil) = F.one x k ∧ x.kind = wK w) → ∃ x k, run L (f + 6) .thing ⟨a, 0, 0, 0⟩ = (F.one x k, ⟨a + ts.length, 0, 0, 0⟩) ∧ x.kind = wK w ∧ kindS L ⟨a, 0, 0, 0⟩ ≠ 0 ∧ kindS L ⟨a, 0, 0, 0⟩ ≠ 7 ∧ kindS L ⟨a, 0, 0, 0⟩ ≠ 8 ∧ kindS L ⟨a, 0, 0, 0⟩ ≠ 9 := fun t b c hts h10 hn hb hc hx => by subst hts;obtain ⟨x, k, hx, hk⟩ := hx;have g0 : L[a]? = some t := h 0 (by simp);have g1 : L[a + 1]? = some b := h 1 (by simp);have g2 : L[a + 2]? = some c := h 2 (by simp);have e := grp_run g0 h10 hn (f + 5) (alt_one (acc := .nil) g1 hb g2 hc (f + 2)) g2 hc;have kk := (kd (s := ⟨a, 0, 0, 0⟩) rfl g0).trans h10;rw [kk];refine ⟨x, k, ?_, hk, by decide, by decide, by decide, by decide⟩;rw [e];show (jf t .nil (F.one (leafL b nil3) .nil), _) = _;rw [hx];rfl
 match w, hw, ht with
 | 0, _, ⟨t, hts, hk⟩ => exact one t hts (by omega) (by omega) (by omega) (by omega) (by omega) (by rw [hk]; rfl)
 | 1, _, ⟨t, hts, hk⟩ => exact one t hts (by omega) (by omega) (by omega) (by omega) (by omega) (by rw [hk]; rfl)
 | 2, _, ⟨t, b, c, hts, h10, hn, hb, hc⟩ => exact three t b c hts h10 (by omega) hb hc ⟨_, _, if_pos hn, rfl⟩
 | 3, _, ⟨t, b, c, d, e, hts, h10, hn, hb, hc, hd, he⟩ =>
  subst hts;have g0 : L[a]? = some t := h 0 (by simp);have g1 : L[a + 1]? = some b := h 1 (by simp);have g2 : L[a + 2]? = some c := h 2 (by simp);have g3 : L[a + 3]? = some d := h 3 (by simp);have g4 : L[a + 4]? = some e := h 4 (by simp);have r := grp_run g0 h10 (by omega) (f + 5) (alt_two g1 hb g2 hc g3 hd g4 he (f + 1)) g4 he;have kk := (kd (s := ⟨a, 0, 0, 0⟩) rfl g0).trans h10;rw [kk];have hg : jf t .nil (.cons (leafL b nil3) .nil (F.one (leafL d nil3) .nil)) = F.one { lab 15 t.at_ with on := t.on, off := t.off } (oneF 13 (.cons (leafL b nil3) .nil (F.one (leafL d nil3) .nil))) := by unfold jf;rw [if_neg (by omega), if_pos hn]
  refine ⟨{ lab 15 t.at_ with on := t.on, off := t.off }, oneF 13 (.cons (leafL b nil3) .nil (F.one (leafL d nil3) .nil)), ?_, rfl, by decide, by decide, by decide, by decide⟩;rw [r, hg];rfl
 | 4, _, ⟨t, hts, hk⟩ => exact one t hts (by omega) (by omega) (by omega) (by omega) (by omega) (by rw [hk]; rfl)
 | 5, _, ⟨t, hts, hk⟩ => exact one t hts (by omega) (by omega) (by omega) (by omega) (by omega) (by rw [hk]; rfl)
 | 6, _, ⟨t, b, c, hts, h10, hn, hb, hc⟩ =>
  refine three t b c hts h10 (by omega) hb hc ⟨{ lab 18 t.at_ with n := t.n }, oneF 13 (F.one (leafL b nil3) .nil), ?_, rfl⟩;unfold jf;rw [if_neg (by omega), if_neg (by omega), if_neg (by omega), if_pos (by omega)]
 | 7, _, ⟨t, b, c, hts, h10, hn, hb, hc⟩ =>
  refine three t b c hts h10 (by omega) hb hc ⟨lab 17 t.at_, oneF 13 (F.one (leafL b nil3) .nil), ?_, rfl⟩;unfold jf;rw [if_neg (by omega), if_neg (by omega), if_pos hn]
 | w + 8, h, _ => omega
def kindsF : F → List Int
 | .nil => []
 | .cons x _ r => x.kind :: kindsF r
theorem kinds_app : ∀ f g : F, kindsF (F.app f g) = kindsF f ++ kindsF g
 | .nil, _ => rfl
 | .cons x k r, g => by simp only [F.app, kindsF, kinds_app r g, List.cons_append]
theorem wk_rep {w : Nat} (h : w < 8) : repK (wK w) = true := by
 match w, h with
 | 0, _ => rfl
 | 1, _ => rfl
 | 2, _ => rfl
 | 3, _ => rfl
 | 4, _ => rfl
 | 5, _ => rfl
 | 6, _ => rfl
 | 7, _ => rfl
 | w + 8, h => omega
theorem row_kind {L : List Tk} {a : Nat} {ks : List Nat} {R : List Tk} (hR : RowT ks R) (h : Sub L a R) (hl : L.length = a + R.length) : kindS L ⟨a, 0, 0, 0⟩ ≠ 9 := by
 cases ks with
 | nil =>
  obtain rfl : R = [] := hR;rw [kd_no (s := ⟨a, 0, 0, 0⟩) (by rw [hl]; exact Nat.le_refl _)];decide
 | cons k ks =>
  obtain ⟨x, y, z, rfl, hx, _, _⟩ := hR;obtain ⟨_, _, _, _, _, _, _, h9⟩ := word_run (Nat.mod_lt _ (by decide)) hx (sub_left h) 0;exact h9
theorem seq_run {L : List Tk} : ∀ (ks : List Nat) (a f : Nat) (acc : F) (R : List Tk), RowT ks R → Sub L a R → L.length = a + R.length → (ks = [] ∧ 1 ≤ f ∨ ks.length + 6 ≤ f) → ∃ Q, run L f (.seq acc) ⟨a, 0, 0, 0⟩ = (oneF 12 (F.app acc Q), ⟨L.length, 0, 0, 0⟩) ∧ kindsF Q = ks.map wantK
 | [], a, f, acc, R, hR, _, hl, hf => by
  obtain rfl : R = [] := hR;have hf1 : 1 ≤ f := by
   rcases hf with hf | hf
   ·exact hf.2
   ·omega
  obtain ⟨g, rfl⟩ : ∃ g, f = g + 1 := ⟨f - 1, by omega⟩;refine ⟨.nil, ?_, rfl⟩;rw [run, if_pos (Or.inl (kd_no (s := ⟨a, 0, 0, 0⟩) (by rw [hl]; exact Nat.le_refl _))), ext.app_nilX, hl];rfl
 | k :: ks, a, f, acc, R, hR, hs, hl, hf => by
  obtain ⟨x, y, z, rfl, hx, hy, hz⟩ := hR;have hw : k % 8 < 8 := Nat.mod_lt _ (by decide)
  replace hf : ks.length + 1 + 6 ≤ f := by
   rcases hf with hf | hf
   ·cases hf.1
   ·exact hf
  obtain ⟨g, rfl⟩ : ∃ g, f = g + 6 + 1 := ⟨f - 7, by omega⟩;obtain ⟨nx, nk, r1, r2, r3, r4, r5, r6⟩ := word_run hw hx (sub_left hs) g;have s2 := sub_right hs;have s3 := sub_right s2;rw [List.length_append, List.length_append] at hl;rw [run, if_neg (by omega), if_neg r6];simp only;rw [r1];simp only;rcases hy with ⟨q0, rfl⟩ | ⟨q0, t, rfl, ht⟩
  ·have s3' : Sub L (a + x.length) z := s3;have h9 := row_kind hz s3' (by simp only [List.length_nil] at hl; omega);rw [if_neg (fun e => h9 e.1)];obtain ⟨Q, e, hQ⟩ := seq_run ks (a + x.length) (g + 6) (F.app acc (F.one nx nk)) z hz s3' (by simp only [List.length_nil] at hl; omega) (Or.inr (by omega));refine ⟨F.app (F.one nx nk) Q, ?_, ?_⟩
   ·rw [e, ext.app_assocX]
   ·rw [kinds_app, hQ];show nx.kind :: _ = wantK k :: _;unfold wantK;rw [if_neg (by omega), r2];rfl
  ·have g1 : L[a + x.length]? = some t := s2 0 (by simp);have k9 : kindS L ⟨a + x.length, 0, 0, 0⟩ = 9 := (kd (s := ⟨a + x.length, 0, 0, 0⟩) rfl g1).trans ht;rw [if_pos ⟨k9, by show repK nx.kind = true; rw [r2]; exact wk_rep hw⟩];have s3' : Sub L (a + x.length + 1) z := s3;obtain ⟨Q, e, hQ⟩ := seq_run ks (a + x.length + 1) (g + 6) (F.app acc (repF (L.getD (a + x.length) zeroT) (F.one nx nk))) z hz s3' (by simp only [List.length_cons, List.length_nil] at hl; omega) (Or.inr (by omega));refine ⟨F.app (repF (L.getD (a + x.length) zeroT) (F.one nx nk)) Q, ?_, ?_⟩
   ·rw [e, ext.app_assocX]
   ·rw [kinds_app, hQ];show (20 : Int) :: _ = wantK k :: _;unfold wantK;rw [if_pos q0];rfl
theorem chain_tx {g : Nat → Int} {n : Nat} (hn : n ≤ 1000) (ks : List Nat) (hk : ks.length ≤ 20) (h0 : g 0 = 120) (h : AtE (pt g n) 1 (txt ks)) : ∃ Q, tx g n = .ok (oneF 12 Q) ∧ kindsF Q = 1 :: ks.map wantK := by
 have hp : n = 1 + (txt ks).length := h.n;obtain ⟨R, hR, hl, hr⟩ := rd_all (p := pt g n) rfl ks 1 h;have e0 := tok_let (p := pt g n) rfl (i := 0) (show 0 < n by omega) (c := 120) h0 (by decide);have hlex : rlexP g n 0 = .ok (lay { kind := 1, c := 120 } 0 1 :: R) := by rw [rl0 hn, show n + 1 = (n - R.length) + R.length + 1 by omega, lex_t (show 0 < n by omega) (ext.has_notX (c := 92) (by show g 0 ≠ _; rw [h0]; decide)) e0, hr, lex_end (by show n ≤ _; omega)];rfl
 obtain ⟨L, hL⟩ : ∃ L, lay { kind := 1, c := 120 } 0 1 :: R = L := ⟨_, rfl⟩;have ht : tx g n = parseP L n := by unfold tx;rw [hlex, hL]
 have hlen : L.length = 1 + R.length := by rw [← hL, List.length_cons, Nat.add_comm]
 have g0 : L[0]? = some (lay { kind := 1, c := 120 } 0 1) := by rw [← hL]; rfl
 have hs : Sub L 1 R := fun i _ => by rw [← hL, Nat.add_comm, List.getElem?_cons_succ]
 have h9 := row_kind hR hs hlen;have hrl : ks.length ≤ R.length := by
  clear hs h9 hr hlex ht hL hl g0 hlen h hp
  induction ks generalizing R with
  | nil => exact Nat.zero_le _
  | cons k ks ih =>
   obtain ⟨x, y, z, rfl, hx, _, hz⟩ := hR;have := ih (by simp only [List.length_cons] at hk; omega) z hz;have hx1 : 1 ≤ x.length := by
    have hw : k % 8 < 8 := Nat.mod_lt _ (by decide);generalize k % 8 = w at hx hw
    match w, hw, hx with
    | 0, _, ⟨t, hts, _⟩ => rw [hts]; exact Nat.le_refl _
    | 1, _, ⟨t, hts, _⟩ => rw [hts]; exact Nat.le_refl _
    | 2, _, ⟨_, _, _, hts, _⟩ => rw [hts]; simp
    | 3, _, ⟨_, _, _, _, _, hts, _⟩ => rw [hts]; simp
    | 4, _, ⟨t, hts, _⟩ => rw [hts]; exact Nat.le_refl _
    | 5, _, ⟨t, hts, _⟩ => rw [hts]; exact Nat.le_refl _
    | 6, _, ⟨_, _, _, hts, _⟩ => rw [hts]; simp
    | 7, _, ⟨_, _, _, hts, _⟩ => rw [hts]; simp
    | w + 8, hw, _ => omega
   simp only [List.length_cons, List.length_append];omega
 have hA : ∃ Q, run L (3 * L.length + 2) (.seq .nil) r0 = (oneF 12 Q, ⟨L.length, 0, 0, 0⟩) ∧ kindsF Q = 1 :: ks.map wantK := by
  have k0 : kindS L r0 = 1 := kd (s := r0) rfl g0;obtain ⟨Q, e, hQ⟩ := seq_run ks 1 (3 * L.length + 1) (F.one (leafL (lay { kind := 1, c := 120 } 0 1) nil3) .nil) R hR hs hlen (by
   cases ks with
   | nil => exact Or.inl ⟨rfl, by omega⟩
   | cons k ks => right; simp only [List.length_cons] at hrl ⊢; omega)
  refine ⟨F.app (F.one (leafL (lay { kind := 1, c := 120 } 0 1) nil3) .nil) Q, ?_, ?_⟩
  ·rw [run, if_neg (by rw [k0]; decide), if_neg (by rw [k0]; decide)];simp only;rw [show (r0 : Ps) = ⟨0, 0, 0, 0⟩ from rfl, leaf_run (a := 0) g0 (by decide) (3 * L.length)];simp only;rw [if_neg (fun x => h9 x.1)];exact e
  ·rw [kinds_app, hQ];rfl
 obtain ⟨Q, e, hQ⟩ := hA;refine ⟨Q, ?_, hQ⟩;have hend : kindS L ⟨L.length, 0, 0, 0⟩ = 0 := kd_no (s := ⟨L.length, 0, 0, 0⟩) (Nat.le_refl _);have er : run L (3 * L.length + 3) (.alt .nil) r0 = (oneF 12 Q, ⟨L.length, 0, 0, 0⟩) := by rw [run];simp only;rw [e];simp only;rw [if_neg (by rw [hend]; decide)];rfl
 rw [ht, (run_parse (n := (n : Int)) er).2 rfl rfl];obtain ⟨x, k, hx⟩ := ext.one_F 12 Q;show (Except.ok (oneF 13 (oneF 12 Q)) : tkp.R F) = _;rw [hx];rfl
end Go.Proofs.YtnpcombfgdbhkaaDoor.chn
end
