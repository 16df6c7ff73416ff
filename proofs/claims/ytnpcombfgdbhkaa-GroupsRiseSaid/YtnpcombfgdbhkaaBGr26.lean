/- T -/
import Derived.BigQuiet
import Derived.Deep.QuietTactic
import Derived.Laws.MakeOwn
import Derived.Lib.QuietBelow
import Derived.Maps.AppendAt
import Derived.RegionTactic
import Derived.Test.YtnpcombfgdbhkaaBGr25
set_option maxHeartbeats 16000000
set_option maxRecDepth 1000000
namespace Go.Proofs.Ytnpcombfgdbhkaa
section
namespace rtw
open sq
open Go utfp ucdp setp prp tkp rtp
def GE {α : Type} (r : R α) : Prop := ∀ e, r = .error e → e.1 ≠ 0
theorem jq {α : Type} {e : Int × Int} (h : e.1 ≠ 0) : GE (.error e : R α) := fun e' h' => by cases h'; exact h
theorem ge_ok {α : Type} (x : α) : GE (.ok x : R α) := fun e h => by cases h
theorem zL (t : Tk) (f b : Nat) : GE (gtok t f b) := fun e h => by unfold gtok at h; cases h
theorem jD {α : Type} {c : Prop} [Decidable c] {a b : R α} (h1 : GE a) (h2 : GE b) : GE (if c then a else b) := by
 by_cases h : c
 ·rw [if_pos h]; exact h1
 ·rw [if_neg h]; exact h2
theorem refR_e (p : Pt) (f i : Nat) : GE (refR p f i) := by
 unfold refR;simp only
 repeat' (first | exact zL _ _ _ | exact jq (by simp) | refine jD ?_ ?_)
theorem backR_e (p : Pt) (i to_ : Nat) : ∀ l, GE (backR p i to_ l)
 | [] => jq (by simp)
 | (o, z) :: l => by
  rw [backR]
  repeat' (first | exact zL _ _ _ | exact backR_e p i to_ l | refine jD ?_ ?_)
theorem many_e {p : Pt} {c : Int} {i : Nat} {e : Int} (h : many p c i = .error e) : e ≠ 0 := by
 unfold many at h;split at h
 ·split at h
  ·cases h; decide
  ·split at h
   ·cases h
   ·cases h; decide
 ·split at h <;> cases h
theorem escR_e (p : Pt) (i : Nat) : GE (escR p i) := by
 rw [escR_eq]
 repeat' (first | exact zL _ _ _ | exact ge_ok _ | exact jq (by simp) | exact refR_e _ _ _ | exact backR_e _ _ _ _ | refine jD ?_ ?_)
 ·split
  ·exact jq (by simp)
  ·exact zL _ _ _
 ·split
  ·rename_i e he;exact jq (many_e he)
  ·exact zL _ _ _
  ·repeat' (first | exact zL _ _ _ | exact jq (by simp) | refine jD ?_ ?_)
theorem itemE_e (p : Pt) (i b : Nat) : GE (itemE p i b) := by
 unfold itemE;simp only
 repeat' (first | exact ge_ok _ | exact jq (by simp) | refine jD ?_ ?_)
 ·split
  ·exact jq (by simp)
  ·exact ge_ok _
 ·split
  ·rename_i e he;exact jq (many_e he)
  ·exact ge_ok _
  ·repeat' (first | exact ge_ok _ | exact jq (by simp) | refine jD ?_ ?_)
theorem itemR_e (p : Pt) (i : Nat) : GE (itemR p i) := by
 unfold itemR itemC
 repeat' (first | exact ge_ok _ | exact jq (by simp) | exact itemE_e _ _ _ | refine jD ?_ ?_)
theorem rangeR_e (p : Pt) (i : Nat) : GE (rangeR p i) := by
 have h1 := itemR_e p i;unfold rangeR;split
 ·rename_i e he;exact jq (h1 _ he)
 ·rename_i l s to_ _;have h2 := itemR_e p (to_ + 1);refine jD ?_ (ge_ok _);split
  ·rename_i e he;exact jq (h2 _ he)
  ·exact jD (jq (by simp)) (ge_ok _)
theorem clsL_e (p : Pt) (first : Nat) : ∀ (k : Nat) (all : List Rg) (i : Nat), GE (clsL p first k all i)
 | 0, _, _ => jq (by simp)
 | k + 1, all, i => by
  have h1 := rangeR_e p i;rw [clsL];refine jD (jq (by simp)) (jD (ge_ok _) ?_);split
  ·rename_i e he;exact jq (h1 _ he)
  ·exact clsL_e p first k _ _
theorem clsR_e (p : Pt) (f : Nat) : GE (clsR p f) := by
 have h := clsL_e p (if p.has [94] (f + 1) = true then f + 2 else f + 1) (p.n + 1 - (if p.has [94] (f + 1) = true then f + 2 else f + 1)) [] (if p.has [94] (f + 1) = true then f + 2 else f + 1);unfold clsR;simp only;split
 ·rename_i e he;exact jq (h _ he)
 ·exact zL _ _ _
theorem shutR_e (p : Pt) (t : Tk) (f i : Nat) (s : List UInt8) : GE (shutR p t f i s 26) := by
 unfold shutR
 repeat' (first | exact zL _ _ _ | exact jq (by simp) | refine jD ?_ ?_)
theorem callR_e (p : Pt) (t : Tk) (f i : Nat) (s : List UInt8) : GE (callR p t f i s) := by
 unfold callR
 repeat' (first | exact zL _ _ _ | exact jq (by simp) | refine jD ?_ ?_)
theorem flagR_e (p : Pt) (f : Nat) : ∀ (k i : Nat) (off : Bool) (on of_ : Int), GE (flagR p f k i off on of_)
 | 0, _, _, _, _ => jq (by simp)
 | k + 1, i, off, on, of_ => by
  rw [flagR]
  repeat' (first | exact zL _ _ _ | exact jq (by simp) | exact flagR_e p f k _ _ _ _ | refine jD ?_ ?_)
theorem condE_e (p : Pt) (f : Nat) (t : Tk) (to_ : Nat) (ok : Bool) : GE (condE p f t to_ ok) := by
 unfold condE
 repeat' (first | exact zL _ _ _ | exact jq (by simp) | refine jD ?_ ?_)
theorem condR_e (p : Pt) (f i : Nat) : GE (condR p f i) := by
 unfold condR condN
 repeat' (first | exact zL _ _ _ | exact jq (by simp) | exact condE_e _ _ _ _ _ | refine jD ?_ ?_)
theorem verbR_e (p : Pt) (f : Nat) : GE (verbR p f) := by
 have hv : ∀ (f i : Nat) (word arg : ByteArray) (wth : Bool), GE (verbG f i word arg wth) := fun f i word arg wth => by
  unfold verbG
  repeat' (first | exact zL _ _ _ | exact jq (by simp) | refine jD ?_ ?_)
 unfold verbR;split
 ·exact jq (by simp)
 ·split
  ·exact hv _ _ _ _ _
  ·exact hv _ _ _ _ _
theorem kindR_e (p : Pt) (f i : Nat) : ∀ (l : List (List UInt8 × Int)), ∀ g, kindR p f i l = some g → GE g
 | [], g, h => by cases h
 | (s, k) :: l, g, h => by
  rw [kindR] at h;split at h
  ·cases h;exact zL _ _ _
  ·exact kindR_e p f i l g h
theorem numR_e (p : Pt) (f i : Nat) : GE (numR p f i) := by
 have h1 := shutR_e p { kind := 12, n := (sgn p i).1, m := (sgn p i).2.1 } f (sgn p i).2.2.1 [41];unfold numR;simp only;refine jD (jq (by simp)) (jD (jD (jq (by simp)) (jq (by simp))) ?_);split
 ·rename_i e he;exact jq (h1 _ he)
 ·exact jD (jq (by simp)) (ge_ok _)
theorem openK_e (p : Pt) (f i : Nat) : GE (openK p f i) := by
 unfold openK
 repeat' (first | exact callR_e _ _ _ _ _ | exact shutR_e _ _ _ _ _ | exact condR_e _ _ _ | exact numR_e _ _ _ | exact flagR_e _ _ _ _ _ _ _ | exact jq (by simp) | refine jD ?_ ?_)
 split
 ·exact jq (by simp)
 ·exact ge_ok _
theorem openR_e (p : Pt) (f : Nat) : GE (openR p f) := by
 unfold openR;refine jD (verbR_e _ _) (jD (zL _ _ _) (jD (jq (by simp)) ?_));split
 ·rename_i g hg;exact kindR_e p f (f + 2) kindsT g hg
 ·exact openK_e _ _ _
theorem tokR_e (p : Pt) (i : Nat) : GE (tokR p i) := by
 have hq : ∀ (i to_ : Nat) (n m : Int), GE (quan p i to_ n m) := fun i to_ n m => zL _ _ _
 rw [tokR_eq]
 repeat' (first | exact ge_ok _ | exact zL _ _ _ | exact escR_e _ _ | exact clsR_e _ _ | exact openR_e _ _ | exact hq _ _ _ _ | refine jD ?_ ?_)
 split
 ·exact zL _ _ _
 ·repeat' (first | exact jq (by simp) | exact hq _ _ _ _ | refine jD ?_ ?_)
theorem lexF_e (p : Pt) : ∀ (k : Nat) (q : Bool) (T : List Tk) (i : Nat), GE (lexF p k q T i)
 | 0, _, T, _ => ge_ok _
 | k + 1, q, T, i => by
  have h := tokR_e p i;rw [lexF];refine jD (ge_ok _) (jD (jD (lexF_e p k _ _ _) (lexF_e p k _ _ _)) (jD (lexF_e p k _ _ _) ?_));split
  ·rename_i e he;exact jq (h _ he)
  ·exact lexF_e p k _ _ _
  ·exact lexF_e p k _ _ _
theorem rlex_e (g : Nat → Int) (n : Nat) (o : Int) : GE (rlexP g n o) := by unfold rlexP;exact jD (jq (by simp)) (jD (jq (by simp)) (jD (jq (by simp)) (lexF_e _ _ _ _ _)))
end rtw
end
section
namespace rsw
open sq
open Go Go.RowKit Go.Maps utfw tkp trp trw rpp rsp rtp setw
open rtw (TkB Bd LexB rlex_any str_size Pat lexF_ok)
open rpw (sees jB TkIn LOk ParB rparse_any qh ql qp jm qI)
open tkw (sg)
theorem rlex_err {n : Nat} {g : Nat → Int} {o : Int} {x : Int × Int} (h : rlexP (sg (strOf n g)) n o = .error x) : x.1 ≠ 0 := rtw.rlex_e _ _ _ _ h
theorem strip_strip : ∀ f : F, strip (strip f) = strip f
 | .nil => rfl
 | .cons x k r => by rw [strip, strip, strip_strip k, strip_strip r]
theorem okF_strip : ∀ {f : F}, OkF f ↔ OkF (strip f)
 | .nil => Iff.rfl
 | .cons x k r => by rw [strip];unfold OkF;rw [okF_strip (f := k), okF_strip (f := r), jm]
theorem node_bare (u : Bool) (m : Int) (rk : Int → F × Int) (x : Lab) (k : F) (f : Int) : nodeP u m rk (bare x) (strip k) f = nodeP u m rk x k f := by unfold nodeP;rw [strip_strip];rfl
theorem row_strip (u : Bool) (m : Int) : ∀ (l : F) (f : Int), rowP u m (strip l) f = rowP u m l f
 | .nil, _ => rfl
 | .cons x k r, f => by
  have e : (fun g => rowP u m (strip k) g) = fun g => rowP u m k g := funext fun g => row_strip u m k g
  rw [strip, rowP, rowP];show (F.app (nodeP u m (fun g => rowP u m (strip k) g) (bare x) (strip k) f).1 (rowP u m (strip r) (nodeP u m (fun g => rowP u m (strip k) g) (bare x) (strip k) f).2).1, (rowP u m (strip r) (nodeP u m (fun g => rowP u m (strip k) g) (bare x) (strip k) f).2).2) = _;rw [e, node_bare, row_strip u m r]
theorem res_strip (x : Lab) (k : F) (o : Int) : resP (bare x, strip k) o = resP (x, k) o := by
 unfold resP;have e : ∀ u m, (fun g => rowP u m (strip k) g) = fun g => rowP u m k g := fun u m => funext fun g => row_strip u m k g
 simp only [e, node_bare]
theorem parse_err {L : List Tk} {n : Int} {x : Int × Int} (h : parseP L n = .error x) : x.1 ≠ 0 := by
 unfold parseP at h;generalize run L (3 * L.length + 3) (.alt .nil) { i := 0 } = r at h;simp only at h;generalize (if r.2.e = 0 ∧ r.2.i < L.length then failS r.2 31 (L.getD r.2.i zeroT).at_ else r.2) = s at h;split at h
 ·cases h;simp
 ·split at h
  ·rename_i h1;cases h;exact h1
  ·cases h
theorem below_row0 {w w2 : World} (h : Below w.heap.size w w2) (o : Obj) (cs : Array Value) : Below w.heap.size w ((w2.alloc o).setRow w2.heap.size cs) :=
 trw.qi h (rpw.qC (qg w2 o) cs (xL _))
def flatP (g : Nat → Int) (n : Nat) (o : Int) : Option F := match rlexP g n o with
 | .error _ => none
 | .ok T => match parseP T n with
  | .error _ => none
  | .ok f => match f with
   | .nil => none
   | .cons x k _ => some (resP (x, k) o)
def FlatB (r : Option F) (w : World) (e : Ending) (w' : World) : Prop := Below w.heap.size w w' ∧ match r with
 | none => e = .returned (.tuple #[ndV (lab 0 0), .bool false])
 | some t => ∃ y j, e = .returned (.tuple #[ndV y, .bool true]) ∧ NdAt w' (y, j) ∧ strip (F.one y j) = t
theorem rlex_ok {n : Nat} {g : Nat → Int} {o : Int} {T : List Tk} (h : rlexP (sg (strOf n g)) n o = .ok T) : (∀ t ∈ T, TkB t ∧ t.at_ ≤ n) ∧ T.length ≤ n ∧ n ≤ 1000 := by
 unfold rlexP at h;split at h
 ·cases h
 ·split at h
  ·cases h
  ·rename_i hn;split at h
   ·cases h
   ·have hsz := str_size n g;have hP : Pat (strOf n g) { g := sg (strOf n g), n := n, u := o.toNat.testBit 5, x := o.toNat.testBit 3 } := ⟨rfl, hsz.symm, by rw [hsz]; omega⟩;have := lexF_ok hP (n + 1) false [] 0 T (fun t ht => by cases ht) (Nat.zero_le _) (Nat.zero_le _) h;exact ⟨this.1, this.2, by omega⟩
theorem zH (v : Value) (n : Nat) (g : Nat → Int) (o : Int) (w : World) (hv : Sl w v n g) : Calls Try.prog 9 #[v, .int .i64 o] w (FlatB (flatP (sg (strOf n g)) n o) w) := by
 have HL := xH (rlex_any v n g o (w.alloc (.cells zC.toArray 27)) (utfw.below_sl (qg w _) hv));have HB0 := xH (qg w (.cells zC.toArray 27));have HRV := xH (heap_alloc_new w (.cells zC.toArray 27));have HZ := xH (World.size_alloc w (.cells zC.toArray 27));obtain ⟨a, cap, rfl⟩ : ∃ a c, v = .slice a n c := by
  obtain ⟨_, _, ⟨rfl, a, c, hv, _⟩ | ⟨b, off, cap, hv, _⟩⟩ := hv
  ·exact ⟨_, _, hv⟩
  ·exact ⟨_, _, hv⟩
 obtain ⟨R, hR⟩ : ∃ R, flatP (sg (strOf n g)) n o = R := ⟨_, rfl⟩;rw [hR];unfold flatP at hR;have HOKT := xH (fun T => rlex_ok (n := n) (g := g) (o := o) (T := T));have HR0 := xH hR;clear hR hv;unfold zC at HL HB0 HRV HZ;go_enter Try.func9, Try.ntmps9;go_upto_region 1 with (fail)
 generalize w.alloc _ = w0 at *;have H1 := xH (qp (t := (lab 0 0, F.nil)) (rpw.zero_at w0));go_wp2_with fail
 refine HL.out.mono ?_;obtain ⟨q, hq⟩ : ∃ q, rlexP (sg (strOf n g)) n o = q := ⟨_, rfl⟩;rw [hq] at HR0 ⊢;have HOK := xH (fun T (h : q = .ok T) => HOKT.out T (hq.trans h));have HERR := xH (fun x (h : q = .error x) => rlex_err (hq.trans h));clear hq HL HOKT;cases q with
 | error x =>
  rintro e w1 ⟨hb, rfl⟩;have HR := xH (show none = R from HR0.out);have b1 : (x.1 != 0) = true := by simpa using HERR.out x rfl
  have HB1 := xH (trw.qi HB0.out hb);have HRV1 := xH ((hb.block _ (by have := HZ.out; omega)).trans HRV.out);clear hb HR0;dsimp only;go_wp2_with (refine qh rfl rfl _ _ rfl w.heap.size rfl _ (lab 0 0) HRV1.out rfl H1.out rfl ?_)
  refine xB (qZ rfl _ _ w.heap.size (lab 0 0) rfl (setRow_heap _ _ _ _ _ _ HRV1.out)) rfl ?_;exact ⟨rpw.qC HB1.out _ (xL _), by rw [← HR.out]; rfl⟩
 | ok T =>
  rintro e w1 ⟨hb, v1, rfl, hrow⟩;have ht := HOK.out T rfl;have hl5 : T.length ≤ 50000 := by omega
  have htk := tkIn_of hrow (fun t h => (ht.1 t h).1.w) hl5;have HZ0 := xH (show w.heap.size + 1 = w0.heap.size from HZ.out.symm);have HPA := xH (rparse_any (bl := w0.heap.size) v1 T (n : Int) w1 hb.size htk (lok_of ht.1 ht.2.2 ht.2.1));have HBL := xH hb.size;have HSET := xH (fun t h => (ht.1 t h).1.s);have HLEN := xH (show T.length ≤ 1000 by omega);obtain ⟨a1, c1, rfl⟩ : ∃ a c, v1 = .slice a T.length c := by obtain ⟨a, c, h, _⟩ := htk;exact ⟨a, c, h⟩
  have HB1 := xH (trw.qi HB0.out hb);have HRV1 := xH ((hb.block _ (by have := HZ.out; omega)).trans HRV.out);have HZ1 := xH (show w.heap.size + 1 ≤ w1.heap.size by have := HZ.out; have := hb.size; omega);clear hb hrow ht htk HOK HERR HB0 HRV HZ;dsimp only;go_wp2_with fail
  refine HPA.out.mono ?_;obtain ⟨q, hq⟩ : ∃ q, parseP T (n : Int) = q := ⟨_, rfl⟩;have HR1 := xH (show (match parseP T (n : Int) with | .error _ => none | .ok f => (match f with | .nil => none | .cons x k _ => some (resP (x, k) o))) = R from HR0.out);have HPE := xH (fun x (h : q = .error x) => parse_err (hq.trans h));have HPO := xH (fun f (h : q = .ok f) => zU HSET.out (hq.trans h));rw [hq] at HR1 ⊢;clear hq HPA HR0 hl5;cases q with
  | error x =>
   rintro e w2 ⟨hb, rfl⟩;have HR := xH (show none = R from HR1.out);have b1 : (x.1 != 0) = true := by simpa using HPE.out x rfl
   have HB2 := xH (trw.qi HB1.out hb);have HRV2 := xH ((hb.block _ (by have := HZ1.out; omega)).trans HRV1.out);have HZ2 := xH (show w.heap.size + 1 ≤ w2.heap.size by have := HZ1.out; have := hb.size; omega);have HG2 := xH (heap_alloc_new w2 (.cells #[.int .i64 0, .int .i64 0, .int .i64 0, .slice none 0 0, .bool false, .int .i64 0, .int .i64 0, .int .i64 0, .string ⟨#[]⟩, .int .i64 0, .int .i64 0, .slice none 0 0] 27));have HB3 := xH (below_row0 HB2.out (.cells #[.int .i64 0, .int .i64 0, .int .i64 0, .slice none 0 0, .bool false, .int .i64 0, .int .i64 0, .int .i64 0, .string ⟨#[]⟩, .int .i64 0, .int .i64 0, .slice none 0 0] 27) (ndC (lab 0 0)).toArray);have HRV3 := xH (show ((w2.alloc (.cells #[.int .i64 0, .int .i64 0, .int .i64 0, .slice none 0 0, .bool false, .int .i64 0, .int .i64 0, .int .i64 0, .string ⟨#[]⟩, .int .i64 0, .int .i64 0, .slice none 0 0] 27)).setRow w2.heap.size (ndC (lab 0 0)).toArray).heap[w.heap.size]? = _ from ((rpw.qC (qg w2 (.cells #[.int .i64 0, .int .i64 0, .int .i64 0, .slice none 0 0, .bool false, .int .i64 0, .int .i64 0, .int .i64 0, .string ⟨#[]⟩, .int .i64 0, .int .i64 0, .slice none 0 0] 27)) (ndC (lab 0 0)).toArray (xL _)).block _ (by have := HZ2.out; omega)).trans HRV2.out);clear hb HR1 HPE HPO;dsimp only;unfold ndV;go_upto_region 5 with (refine qh rfl rfl _ _ rfl w2.heap.size rfl _ (lab 0 0) HG2.out rfl H1.out rfl ?_)
   generalize (w2.alloc _).setRow w2.heap.size _ = w3 at *;go_wp2_with (refine qh rfl rfl _ _ rfl w.heap.size rfl _ (lab 0 0) HRV3.out rfl H1.out rfl ?_)
   refine xB (qZ rfl _ _ w.heap.size (lab 0 0) rfl (setRow_heap _ _ _ _ _ _ HRV3.out)) rfl ?_;exact ⟨rpw.qC HB3.out _ (xL _), by rw [← HR.out]; rfl⟩
  | ok f =>
   obtain ⟨hok, hsz, x, k, rfl⟩ := HPO.out f rfl;have HR := xH (show some (resP (x, k) o) = R from HR1.out);rintro e w2 ⟨hb, x2, k2, rfl, hn2, hs2⟩;obtain ⟨rfl, rfl⟩ : bare x2 = x ∧ strip k2 = k := by have := hs2;simp only [F.one, strip] at this;cases this;exact ⟨rfl, rfl⟩
   have HB2 := xH (trw.qi HB1.out hb);have HRV2 := xH ((hb.block _ (by have := HZ1.out; omega)).trans HRV1.out);have HZ2 := xH (show w.heap.size + 1 ≤ w2.heap.size by have := HZ1.out; have := hb.size; omega);have HG2 := xH (heap_alloc_new w2 (.cells #[.int .i64 0, .int .i64 0, .int .i64 0, .slice none 0 0, .bool false, .int .i64 0, .int .i64 0, .int .i64 0, .string ⟨#[]⟩, .int .i64 0, .int .i64 0, .slice none 0 0] 27));have H2 := xH (qp hn2);have HBW := xH (show w0.heap.size ≤ w2.heap.size from Nat.le_trans HBL.out hb.size);have HN2 := xH hn2;have HOK2 := xH (show OkF (F.one x2 k2) from okF_strip.2 hok);have HSZ := xH (show k2.size ≤ 30000 by have h1 := HLEN.out;simp only [F.one, F.size, strip_size] at hsz;omega)
   clear hb HR1 HPE HPO hs2 hn2 hok hsz;dsimp only;unfold ndV;go_upto_region 5 with (refine qh rfl rfl _ _ rfl w2.heap.size rfl _ x2 HG2.out rfl H2.out rfl ?_)
   have HB5 := xH (rpw.qC (qg w2 (.cells #[.int .i64 0, .int .i64 0, .int .i64 0, .slice none 0 0, .bool false, .int .i64 0, .int .i64 0, .int .i64 0, .string ⟨#[]⟩, .int .i64 0, .int .i64 0, .slice none 0 0] 27)) (ndC x2).toArray (xL _));have HG5 := xH (setRow_heap _ _ _ (ndC x2).toArray _ _ HG2.out);generalize (w2.alloc (.cells #[.int .i64 0, .int .i64 0, .int .i64 0, .slice none 0 0, .bool false, .int .i64 0, .int .i64 0, .int .i64 0, .string ⟨#[]⟩, .int .i64 0, .int .i64 0, .slice none 0 0] 27)).setRow w2.heap.size (ndC x2).toArray = w5 at *;have HRV5 := xH ((HB5.out.block _ (by have := HZ2.out; omega)).trans HRV2.out);have HN5 := xH (qV HB5.out HN2.out);have HO5 := xH (show Old (fun i => decide (i < w0.heap.size)) w5.heap.size from fun i hi => by have := HBW.out;have h2 := HB5.out.size;simp only [decide_eq_true_eq] at hi;omega)
   have HB6 := xH (trw.qi HB2.out HB5.out);have HZ5 := xH (show w.heap.size + 1 ≤ w5.heap.size from Nat.le_trans HZ2.out HB5.out.size);clear HG2 HB5 HN2 HRV2;go_wp2_with (refine ql rfl _ rfl w2.heap.size rfl x2 HG5.out ?_)
   refine (res_any (fun i => decide (i < w0.heap.size)) x2 k2 o w5 HO5.out HN5.out HOK2.out HSZ.out).mono ?_;rintro e w6 ⟨hb6, y, j, rfl, hn6, hs6⟩;have HRV6 := xH ((hb6.block _ (by have := HZ5.out; omega)).trans HRV5.out);have HB7 := xH (trw.qi HB6.out hb6);have HN6 := xH hn6;have H6 := xH (qp hn6);have HS6 := xH hs6;clear hb6 hn6 hs6;dsimp only;unfold ndV;go_wp2_with (refine qh rfl rfl _ _ rfl w.heap.size rfl _ y HRV6.out rfl H6.out rfl ?_)
   refine xB (qZ rfl _ _ w.heap.size y rfl (setRow_heap _ _ _ _ _ _ HRV6.out)) rfl ?_;refine ⟨rpw.qC HB7.out _ (xL _), ?_⟩;rw [← HR.out];refine ⟨y, j, rfl, qY (fun a v hc => ?_) HN6.out, by rw [HS6.out, res_strip]⟩;have h1 := jB.1 hc;have h0 := HZ0.out;simp only [decide_eq_false_iff_not] at h1;exact rpw.jI _ h1.2 (by omega)
end rsw
end
section
namespace gpp
open sq
open Go trp rpp
abbrev St := Int × List (ByteArray × Int)
def nmLook (l : List (ByteArray × Int)) (s : ByteArray) : Option Int := (l.reverse.find? fun q => decide (q.1 = s)).map (·.2)
def zy (nm : ByteArray) (s : St) : Int × St :=
 if 60 < s.1 + 1 then (12, (s.1 + 1, s.2))
 else if nm.size = 0 then (0, (s.1 + 1, s.2))
 else match nmLook s.2 nm with
  | some k => (if k = s.1 + 1 then 0 else 33, (s.1 + 1, s.2))
  | none => (0, (s.1 + 1, s.2 ++ [(nm, s.1 + 1)]))
def entL (x : Lab) (s : St) : Lab := if x.kind = 14 then { x with n := s.1 + 1 } else x
def entS (x : Lab) (s : St) : Int × St := if x.kind = 14 then zy x.name s else (0, s)
def numF (rs : Bool) (bef : Int) : F → Int → St → (Int × Int) × F × Int × St
 | .nil, lg, s => ((0, 0), .nil, lg, s)
 | .cons x k r, lg, s =>
  let s0 : St := (if rs = true then bef else s.1, s.2)
  let e := entS x s0
  if e.1 ≠ 0 then ((e.1, x.at_), .cons (entL x s0) k r, lg, e.2) else
  let q := numF (decide (x.kind = 16)) e.2.1 k e.2.1 e.2
  if q.1.1 ≠ 0 then (q.1, .cons (entL x s0) q.2.1 r, lg, q.2.2.2) else
  let t := numF rs bef r (max lg q.2.2.1) (q.2.2.1, q.2.2.2.2)
  (t.1, .cons (entL x s0) q.2.1 t.2.1, t.2.2.1, t.2.2.2)
def numN (x : Lab) (k : F) (s : St) : (Int × Int) × (Lab × F) × St :=
 let e := entS x s
 if e.1 ≠ 0 then ((e.1, x.at_), (entL x s, k), e.2) else
 let q := numF (decide (x.kind = 16)) e.2.1 k e.2.1 e.2
 if q.1.1 ≠ 0 then (q.1, (entL x s, q.2.1), q.2.2.2) else
 ((0, 0), (entL x s, q.2.1), (q.2.2.1, q.2.2.2.2))
def qH (t : Nd) : (Int × Int) × (Lab × F) × St := numN t.1 t.2 (0, [])
theorem numF_cons (rs : Bool) (bef : Int) (x : Lab) (k r : F) (lg : Int) (s : St) : numF rs bef (.cons x k r) lg s =
 (let q := numN x k (if rs = true then bef else s.1, s.2)
  if q.1.1 ≠ 0 then (q.1, .cons q.2.1.1 q.2.1.2 r, lg, q.2.2) else
  let t := numF rs bef r (max lg q.2.2.1) q.2.2
  (t.1, .cons q.2.1.1 q.2.1.2 t.2.1, t.2.2.1, t.2.2.2)) := by
 rw [numF];unfold numN;simp only;generalize ((if rs = true then bef else s.1, s.2) : St) = s0;generalize entS x s0 = e0;by_cases h1 : e0.1 ≠ 0
 ·rw [if_pos h1, if_pos h1];simp only;rw [if_pos h1]
 ·rw [if_neg h1, if_neg h1];generalize numF (decide (x.kind = 16)) e0.2.1 k e0.2.1 e0.2 = q;by_cases h2 : q.1.1 ≠ 0
  ·rw [if_pos h2, if_pos h2];simp only;rw [if_pos h2]
  ·rw [if_neg h2, if_neg h2];simp only;rw [if_neg (by simp)]
theorem ent_le (x : Lab) (s : St) : s.1 ≤ (entS x s).2.1 ∧ (entS x s).2.1 ≤ s.1 + 1 ∧ s.2.length ≤ (entS x s).2.2.length ∧ (entS x s).2.2.length ≤ s.2.length + 1 := by
 unfold entS zy;split
 ·split
  ·simp only; omega
  ·split
   ·simp only; omega
   ·split
    ·simp only; omega
    ·simp only [List.length_append, List.length_cons, List.length_nil]; omega
 ·exact ⟨Int.le_refl _, by show s.1 ≤ s.1 + 1; omega, xL _, Nat.le_succ _⟩
theorem ent_le60 (x : Lab) (s : St) (h : s.1 ≤ 60) (e : (entS x s).1 = 0) : (entS x s).2.1 ≤ 60 := by
 unfold entS zy at *;split at e
 ·rename_i h14;rw [if_pos h14];split at e
  ·cases e
  ·rename_i h60;rw [if_neg h60];split
   ·simp only; omega
   ·split
    ·simp only; omega
    ·simp only; omega
 ·rename_i h14;rw [if_neg h14];exact h
theorem numN_lab (x : Lab) (k : F) (s : St) : (numN x k s).2.1.1 = entL x s := by
 unfold numN;simp only;split
 ·rfl
 ·split <;> rfl
def AllNm : F → Prop
 | .nil => True
 | .cons x k r => x.name.size ≤ 9223372036854775807 ∧ AllNm k ∧ AllNm r
theorem ent_ge (x : Lab) (s : St) (h : 0 ≤ s.1) : 0 ≤ (entS x s).2.1 := by have := (ent_le x s).1; omega
theorem numF_bd : ∀ (f : F) (rs : Bool) (bef lg : Int) (s : St), 0 ≤ bef → bef ≤ 60 → 0 ≤ lg → lg ≤ 60 → 0 ≤ s.1 → s.1 ≤ 60 → (numF rs bef f lg s).1.1 = 0 →
 0 ≤ (numF rs bef f lg s).2.2.1 ∧ (numF rs bef f lg s).2.2.1 ≤ 60 ∧ 0 ≤ (numF rs bef f lg s).2.2.2.1 ∧ (numF rs bef f lg s).2.2.2.1 ≤ 60 ∧ (numF rs bef f lg s).2.2.2.2.length ≤ s.2.length + f.size ∧ (numF rs bef f lg s).2.1.len = f.len ∧ (numF rs bef f lg s).1.2 = 0
 | .nil, rs, bef, lg, s, h1, h2, h3, h4, h5, h6, _ => ⟨h3, h4, h5, h6, xL _, rfl, rfl⟩
 | .cons x k r, rs, bef, lg, s, h1, h2, h3, h4, h5, h6, he => by
  rw [numF_cons] at he ⊢;unfold numN at he ⊢;have hs0 : 0 ≤ (if rs = true then bef else s.1) ∧ (if rs = true then bef else s.1) ≤ 60 := by split <;> omega
  generalize hs : ((if rs = true then bef else s.1, s.2) : St) = s0 at he ⊢;have z0 : 0 ≤ s0.1 ∧ s0.1 ≤ 60 ∧ s0.2 = s.2 := by subst hs; exact ⟨hs0.1, hs0.2, rfl⟩
  have e1 := ent_le x s0;have e3 := ent_le60 x s0 z0.2.1;have e4 := ent_ge x s0 z0.1;generalize entS x s0 = e at *;by_cases k1 : e.1 ≠ 0
  ·simp only [if_pos k1] at he;exact absurd he k1
  ·have k1' : e.1 = 0 := by omega
   have b1 := e3 k1';have ih := numF_bd k (decide (x.kind = 16)) e.2.1 e.2.1 e.2 e4 b1 e4 b1 e4 b1;simp only [if_neg k1] at he ⊢;generalize numF (decide (x.kind = 16)) e.2.1 k e.2.1 e.2 = q at *;by_cases k2 : q.1.1 ≠ 0
   ·simp only [if_pos k2] at he;exact absurd he k2
   ·have ih' := ih (by omega);simp only [if_neg k2] at he ⊢;have k3 : ¬ (0 : Int) ≠ 0 := by omega
    simp only [if_neg k3] at he ⊢;have ih2 := numF_bd r rs bef (max lg q.2.2.1) (q.2.2.1, q.2.2.2.2) h1 h2 (by omega) (by omega) ih'.1 ih'.2.1 he;rw [z0.2.2] at e1;refine ⟨ih2.1, ih2.2.1, ih2.2.2.1, ih2.2.2.2.1, ?_, ?_, ih2.2.2.2.2.2.2⟩
    ·have a1 := ih2.2.2.2.2.1;have a2 := ih'.2.2.2.2.1;simp only at a1;simp only [F.size];omega
    ·have := ih2.2.2.2.2.2.1;simp only [F.len];omega
theorem numN_bd (x : Lab) (k : F) (s : St) (h5 : 0 ≤ s.1) (h6 : s.1 ≤ 60) (he : (numN x k s).1.1 = 0) :
 0 ≤ (numN x k s).2.2.1 ∧ (numN x k s).2.2.1 ≤ 60 ∧ (numN x k s).2.2.2.length ≤ s.2.length + k.size + 1 ∧ (numN x k s).1.2 = 0 := by
 unfold numN at he ⊢;have e1 := ent_le x s;have e3 := ent_le60 x s h6;have e4 := ent_ge x s h5;generalize entS x s = e at *;by_cases k1 : e.1 ≠ 0
 ·simp only [if_pos k1] at he;exact absurd he k1
 ·have b1 := e3 (by omega);have ih := numF_bd k (decide (x.kind = 16)) e.2.1 e.2.1 e.2 e4 b1 e4 b1 e4 b1;simp only [if_neg k1] at he ⊢;generalize numF (decide (x.kind = 16)) e.2.1 k e.2.1 e.2 = q at *;by_cases k2 : q.1.1 ≠ 0
  ·simp only [if_pos k2] at he;exact absurd he k2
  ·have ih' := ih (by omega);simp only [if_neg k2] at he ⊢;exact ⟨ih'.1, ih'.2.1, by omega, trivial⟩
end gpp
end
section
namespace gpp
open sq
open Go tkp trp rpp rsp setp setw
theorem allNm_app : ∀ {f g : F}, AllNm f → AllNm g → AllNm (F.app f g)
 | .nil, _, _, h => h
 | .cons _ _ _, _, h, k => ⟨h.1, h.2.1, allNm_app h.2.2 k⟩
theorem yj {x : Lab} {k : F} (h1 : x.name.size ≤ 9223372036854775807) (h3 : AllNm k) : AllNm (F.one x k) := ⟨h1, h3, trivial⟩
theorem nmL (k a : Int) : (lab k a).name.size ≤ 9223372036854775807 := by show (⟨#[]⟩ : ByteArray).size ≤ _; decide
theorem allNm_oneF (kind : Int) : ∀ {l : F}, AllNm l → AllNm (oneF kind l)
 | .nil, _ => ⟨nmL 0 0, trivial, trivial⟩
 | .cons x k .nil, h => h
 | .cons x k (.cons y j r), h => ⟨nmL 0 0, h, trivial⟩
theorem getD_nm {L : List Tk} (hL : ∀ t ∈ L, t.name.size ≤ 9223372036854775807) (i : Nat) : (L.getD i zeroT).name.size ≤ 9223372036854775807 := by
 rw [List.getD_eq_getElem?_getD];cases h : L[i]? with
 | none => show (⟨#[]⟩ : ByteArray).size ≤ _; decide
 | some t => exact hL t (List.mem_of_getElem? h)
theorem allNm_group {t : Tk} (ht : t.name.size ≤ 9223372036854775807) {look l : F} (h1 : AllNm look) (h2 : AllNm l) : AllNm (jf t look l) := by
 have ho := allNm_oneF 13 h2;unfold jf
 repeat' split
 ·exact yj ht ho
 ·exact yj (nmL 0 0) ho
 ·exact yj (nmL 0 0) ho
 ·exact yj (nmL 0 0) ho
 ·exact yj (nmL 0 0) h2
 ·exact yj ht (allNm_app h1 h2)
theorem allNm_zero : AllNm zeroF := yj (nmL 0 0) trivial
def accNm : Md → Prop
 | .alt acc => AllNm acc
 | .seq acc => AllNm acc
 | .thing => True
theorem run_nm {L : List Tk} (hL : ∀ t ∈ L, t.name.size ≤ 9223372036854775807) : ∀ (n : Nat) (md : Md) (s : Ps), accNm md → AllNm (run L n md s).1
 | 0, _, _, _ => trivial
 | n + 1, .alt acc, s, h => by
  have a := run_nm hL n (.seq .nil) s trivial;rw [run];simp only;split
  ·exact run_nm hL n (.alt _) _ (allNm_app h a)
  ·exact allNm_app h a
 | n + 1, .seq acc, s, h => by
  rw [run];split
  ·exact allNm_oneF 12 h
  ·split
   ·exact allNm_zero
   ·have a := run_nm hL n .thing s trivial;simp only;split
    ·exact run_nm hL n (.seq _) _ (allNm_app h (yj (nmL 0 0) a))
    ·exact run_nm hL n (.seq _) _ (allNm_app h a)
 | n + 1, .thing, s, _ => by
  rw [run];simp only;split
  ·exact yj (getD_nm hL s.i) trivial
  ·split
   ·exact allNm_zero
   ·have hq : AllNm (if (L.getD s.i zeroT).n = 13 ∧ kindS L ⟨s.i + 1, s.op + 1, s.e, s.at_⟩ = 10 then run L n .thing ⟨s.i + 1, s.op + 1, s.e, s.at_⟩ else (.nil, ⟨s.i + 1, s.op + 1, s.e, s.at_⟩)).1 := by
     split
     ·exact run_nm hL n .thing _ trivial
     ·trivial
    generalize (if (L.getD s.i zeroT).n = 13 ∧ kindS L ⟨s.i + 1, s.op + 1, s.e, s.at_⟩ = 10 then run L n .thing ⟨s.i + 1, s.op + 1, s.e, s.at_⟩ else (.nil, ⟨s.i + 1, s.op + 1, s.e, s.at_⟩)) = q at *;split
    ·exact allNm_zero
    ·exact allNm_group (getD_nm hL s.i) hq (run_nm hL n (.alt .nil) _ trivial)
theorem parse_nm {L : List Tk} {n : Int} {f : F} (hL : ∀ t ∈ L, t.name.size ≤ 9223372036854775807) (h : parseP L n = .ok f) : AllNm f := by
 have a := run_nm hL (3 * L.length + 3) (.alt .nil) { i := 0 } trivial;unfold parseP at h;generalize run L (3 * L.length + 3) (.alt .nil) { i := 0 } = r at *;simp only at h;generalize (if r.2.e = 0 ∧ r.2.i < L.length then failS r.2 31 (L.getD r.2.i zeroT).at_ else r.2) = s at h;split at h
 ·cases h
 ·split at h
  ·cases h
  ·cases h;exact allNm_oneF 13 a
def NmS : F → Prop
 | .nil => True
 | .cons x k r => (x.name.size ≤ 9223372036854775807 ∧ x.set.length ≤ 1000000) ∧ NmS k ∧ NmS r
theorem nmS_app : ∀ {f g : F}, NmS f → NmS g → NmS (F.app f g)
 | .nil, _, _, h => h
 | .cons _ _ _, _, h, k => ⟨h.1, h.2.1, nmS_app h.2.2 k⟩
theorem nmS_one {x : Lab} {k : F} (h1 : x.name.size ≤ 9223372036854775807 ∧ x.set.length ≤ 1000000) (h3 : NmS k) : NmS (F.one x k) := ⟨h1, h3, trivial⟩
theorem nmSL (k a : Int) : (lab k a).name.size ≤ 9223372036854775807 ∧ (lab k a).set.length ≤ 1000000 := ⟨nmL k a, by simp [lab]⟩
theorem nmS_oneF (kind : Int) : ∀ {l : F}, NmS l → NmS (oneF kind l)
 | .nil, _ => ⟨nmSL 0 0, trivial, trivial⟩
 | .cons x k .nil, h => h
 | .cons x k (.cons y j r), h => ⟨nmSL 0 0, h, trivial⟩
theorem nmS_first : ∀ {l : F}, NmS l → NmS (firstF l)
 | .nil, h => h
 | .cons x k r, h => ⟨h.1, h.2.1, trivial⟩
theorem nmS_list {x : Lab} {k : F} (h1 : x.name.size ≤ 9223372036854775807 ∧ x.set.length ≤ 1000000) (h : NmS k) : NmS (listF x k) := by
 unfold listF;split
 ·exact h
 ·exact nmS_one h1 h
theorem nmS_flat : ∀ {l : F}, NmS l → NmS (flatF l)
 | .nil, _ => trivial
 | .cons x k r, h => nmS_app (nmS_list h.1 h.2.1) (nmS_flat h.2.2)
theorem nmS_strip : ∀ {f : F}, NmS (strip f) ↔ NmS f
 | .nil => Iff.rfl
 | .cons x k r => by rw [strip];unfold NmS;rw [nmS_strip (f := k), nmS_strip (f := r)]
theorem nmS_ok : ∀ {f : F}, OkF f → AllNm f → NmS f
 | .nil, _, _ => trivial
 | .cons x k r, h, g => ⟨⟨g.1, by have := h.1; omega⟩, nmS_ok h.2.2.1 g.2.1, nmS_ok h.2.2.2 g.2.2⟩
theorem canon_len : ∀ {l : List Rg} {lo : Int}, l.Pairwise (fun a b => a.2 + 1 < b.1) → (∀ r ∈ l, lo ≤ r.1 ∧ r.1 ≤ r.2 ∧ r.2 ≤ 1114111) → 0 ≤ lo → lo ≤ 1114112 → (l.length : Int) * 2 ≤ 1114113 - lo
 | [], lo, _, _, _, h => by simp; omega
 | r :: l, lo, hp, hr, h0, h1 => by
  have a := hr r (List.mem_cons_self ..);have hp1 := List.pairwise_cons.1 hp;cases l with
  | nil => simp; omega
  | cons q l =>
   have b := hp1.1 q (List.mem_cons_self ..);have c := hr q (List.mem_cons_of_mem _ (List.mem_cons_self ..));have := canon_len (l := q :: l) (lo := r.2 + 2) hp1.2 (fun s hs => by have d := hr s (List.mem_cons_of_mem _ hs);have e := hp1.1 s hs;exact ⟨by omega, d.2⟩) (by omega) (by omega)
   simp only [List.length_cons] at this ⊢;omega
theorem canon_le {l : List Rg} (h : Canon l) : l.length ≤ 1000000 := by have := canon_len (lo := 0) h.1 h.2 (Int.le_refl _) (by decide);omega
theorem setP_canon (u : Bool) {m : Int} (hm : m ≤ 1114111) (l : List Rg) (cl neg : Bool) : Canon (setP u m l cl neg) := by
 unfold setP;cases cl <;> cases neg
 ·exact ja hm l
 ·exact notR_canon hm (ja hm _)
 ·exact ja hm _
 ·exact notR_canon hm (ja hm _)
theorem nmS_set {l : List Rg} (a : Int) (h : l.length ≤ 1000000) : NmS (setL a l) := nmS_one ⟨nmL 0 0, h⟩ trivial
theorem nmS_line {m : Int} (hm : m ≤ 1114111) (a : Int) : NmS (lineF m a) := by unfold lineF;exact nmS_one (nmSL 0 0) (nmS_one (nmSL 0 0) (nmS_app (nmS_one (nmSL 0 0) (nmS_app (nmS_set a (by simp)) (nmS_set a (by simp)))) (nmS_set a (canon_le (ja hm _)))))
theorem nmS_node {u : Bool} {m : Int} (hm : m ≤ 1114111) {rk : Int → F × Int} {x : Lab} {k : F} (hx : x.name.size ≤ 9223372036854775807 ∧ x.set.length ≤ 1000000) (hk : NmS k) (hr : ∀ g, NmS (rk g).1) (f : Int) : NmS (nodeP u m rk x k f).1 := by
 unfold nodeP
 repeat' split
 ·exact nmS_set _ (canon_le (setP_canon u hm _ _ _))
 ·exact nmS_set _ (canon_le (setP_canon u hm _ _ _))
 ·exact nmS_set _ (canon_le (setP_canon u hm _ _ _))
 ·exact nmS_set _ (canon_le (setP_canon u hm _ _ _))
 ·exact nmS_one hx (nmS_strip.2 hk)
 ·exact nmS_line hm _
 ·exact nmS_one hx (nmS_strip.2 hk)
 ·exact nmS_one (nmSL 0 0) trivial
 ·exact nmS_oneF 12 (nmS_flat (hr _))
 ·exact nmS_one hx (hr _)
 ·exact nmS_first (hr _)
 ·exact nmS_one hx (hr _)
theorem nmS_row {u : Bool} {m : Int} (hm : m ≤ 1114111) : ∀ {l : F} (f : Int), NmS l → NmS (rowP u m l f).1
 | .nil, _, _ => trivial
 | .cons x k r, f, h => nmS_app (nmS_node hm h.1 h.2.1 (fun g => nmS_row hm g h.2.1) f) (nmS_row hm _ h.2.2)
theorem nmS_res {x : Lab} {k : F} (h : NmS (F.one x k)) (o : Int) : NmS (resP (x, k) o) := by
 unfold resP;have hm : (if andI o 32 ≠ 0 then (1114111 : Int) else 255) ≤ 1114111 := by split <;> omega
 exact nmS_node hm h.1 h.2.1 (fun g => nmS_row hm g h.2.1) _
theorem len_le : ∀ f : F, f.len ≤ f.size := rsp.len_size
theorem nmS_all : ∀ {f : F}, NmS f → AllNm f
 | .nil, _ => trivial
 | .cons _ _ _, h => ⟨h.1.1, nmS_all h.2.1, nmS_all h.2.2⟩
theorem res_sz (x : Lab) (k : F) (o : Int) : (resP (x, k) o).size ≤ 6 * k.size + 6 := by unfold resP;exact node_size _ _ _ _ _ _ fun g => row_size _ _ k g
end gpp
end
section
namespace gpw
open sq
open Go.Sort Go Go.RowKit Go.Maps setp setw tkp trp trw rpp gpp
open rpw (fC jP FSub jQ jd own_below qp vW)
def SetIn (w : World) (lo hi : Nat) (v : Value) (S : List Rg) : Prop := OwnR w lo v S ∧ Wf S ∧ ∀ g, v.ownBlock = some g → g < hi
def Sub (w : World) : F → Nat → Nat → Prop
 | .nil, lo, hi => lo ≤ hi
 | .cons x k r, lo, hi => LabOk x ∧ ∃ a B m, lo ≤ a ∧ a ≤ B ∧ m ≤ hi ∧ SetIn w lo a x.sv x.set ∧ k.len ≤ 100000 ∧ x.kv = .slice (some ⟨B, 0, none⟩) k.len k.len ∧ w.heap[B]? = some (.cells (fC k).toArray 27 (0, 0)) ∧ Sub w k (B + 1) m ∧ Sub w r m hi
def NdI (w : World) (x : Lab) (k : F) (lo hi : Nat) : Prop :=
 LabOk x ∧ ∃ a B, lo ≤ a ∧ a ≤ B ∧ SetIn w lo a x.sv x.set ∧ k.len ≤ 100000 ∧ x.kv = .slice (some ⟨B, 0, none⟩) k.len k.len ∧ w.heap[B]? = some (.cells (fC k).toArray 27 (0, 0)) ∧ Sub w k (B + 1) hi
theorem sub_cons {w : World} {x : Lab} {k r : F} {lo hi : Nat} : Sub w (.cons x k r) lo hi ↔ ∃ m, m ≤ hi ∧ NdI w x k lo m ∧ Sub w r m hi := by
 constructor
 ·rintro ⟨h0, a, B, m, h1, h2, h3, h4, h5, h6, h7, h8, h9⟩;exact ⟨m, h3, ⟨h0, a, B, h1, h2, h4, h5, h6, h7, h8⟩, h9⟩
 ·rintro ⟨m, h3, ⟨h0, a, B, h1, h2, h4, h5, h6, h7, h8⟩, h9⟩;exact ⟨h0, a, B, m, h1, h2, h3, h4, h5, h6, h7, h8, h9⟩
theorem sub_le {w : World} : ∀ {f : F} {lo hi : Nat}, Sub w f lo hi → lo ≤ hi
 | .nil, _, _, h => h
 | .cons _ k r, _, _, h => by obtain ⟨_, a, B, m, h1, h2, h3, _, _, _, _, h8, _⟩ := h;have := sub_le h8;omega
theorem ndI_le {w : World} {x : Lab} {k : F} {lo hi : Nat} (h : NdI w x k lo hi) : lo < hi := by obtain ⟨_, a, B, h1, h2, _, _, _, _, h8⟩ := h;have := sub_le h8;omega
theorem set_keep {w w' : World} {lo hi a b : Nat} {v : Value} {S : List Rg} (h : SetIn w lo hi v S) (ha : a ≤ lo) (hb : hi ≤ b) (hk : ∀ j, a ≤ j → j < b → w'.heap[j]? = w.heap[j]?) : SetIn w' lo hi v S :=
 ⟨⟨tkw.jJ h.1.1 fun g hg => hk g (by have := (own_below h.1.1 hg).1; omega) (by have := h.2.2 g hg; omega), h.1.2⟩, h.2⟩
theorem sub_keep {w w' : World} {a b : Nat} (hk : ∀ j, a ≤ j → j < b → w'.heap[j]? = w.heap[j]?) : ∀ {f : F} {lo hi : Nat}, Sub w f lo hi → a ≤ lo → hi ≤ b → Sub w' f lo hi
 | .nil, _, _, h, _, _ => h
 | .cons _ k r, lo, hi, h, ha, hb => by obtain ⟨h0, c, B, m, h1, h2, h3, h4, h5, h6, h7, h8, h9⟩ := h;have e8 := sub_le h8;exact ⟨h0, c, B, m, h1, h2, h3, set_keep h4 ha (by omega) hk, h5, h6, (hk B (by omega) (by omega)).trans h7, sub_keep hk h8 (by omega) (by omega), sub_keep hk h9 (by omega) hb⟩
theorem ndI_keep {w w' : World} {x : Lab} {k : F} {lo hi : Nat} (h : NdI w x k lo hi) (hk : ∀ j, lo ≤ j → j < hi → w'.heap[j]? = w.heap[j]?) : NdI w' x k lo hi := by obtain ⟨h0, c, B, h1, h2, h4, h5, h6, h7, h8⟩ := h;have e8 := sub_le h8;exact ⟨h0, c, B, h1, h2, set_keep h4 (xL _) (by omega) hk, h5, h6, (hk B (by omega) (by omega)).trans h7, sub_keep hk h8 (by omega) (xL _)⟩
theorem sub_hi {w : World} : ∀ {f : F} {lo hi hj : Nat}, Sub w f lo hi → hi ≤ hj → Sub w f lo hj
 | .nil, _, _, _, h, hh => Nat.le_trans h hh
 | .cons _ k r, lo, hi, hj, h, hh => by obtain ⟨h0, c, B, m, h1, h2, h3, h4, h5, h6, h7, h8, h9⟩ := h;exact ⟨h0, c, B, m, h1, h2, Nat.le_trans h3 hh, h4, h5, h6, h7, h8, sub_hi h9 hh⟩
theorem ndI_hi {w : World} {x : Lab} {k : F} {lo hi hj : Nat} (h : NdI w x k lo hi) (hh : hi ≤ hj) : NdI w x k lo hj := by obtain ⟨h0, c, B, h1, h2, h4, h5, h6, h7, h8⟩ := h;exact ⟨h0, c, B, h1, h2, h4, h5, h6, h7, sub_hi h8 hh⟩
theorem ndI_lo {w : World} {x : Lab} {k : F} {lo lp hi : Nat} (h : NdI w x k lo hi) (hh : lp ≤ lo) : NdI w x k lp hi := by obtain ⟨h0, c, B, h1, h2, h4, h5, h6, h7, h8⟩ := h;exact ⟨h0, c, B, by omega, h2, ⟨setw.ownR_mono h4.1 hh, h4.2⟩, h5, h6, h7, h8⟩
theorem sub_app {w : World} : ∀ {f g : F} {lo m hi : Nat}, Sub w f lo m → Sub w g m hi → Sub w (F.app f g) lo hi
 | .nil, .nil, lo, m, hi, h, k => Nat.le_trans h k
 | .nil, .cons x k r, lo, m, hi, h, hg => by obtain ⟨p, hp, hn, hr⟩ := sub_cons.1 hg;exact sub_cons.2 ⟨p, hp, ndI_lo hn h, hr⟩
 | .cons _ _ _, g, lo, m, hi, h, hg => by obtain ⟨h0, c, B, p, h1, h2, h3, h4, h5, h6, h7, h8, h9⟩ := h;have e := sub_le hg;exact ⟨h0, c, B, p, h1, h2, by omega, h4, h5, h6, h7, h8, sub_app h9 hg⟩
theorem sub_one {w : World} {x : Lab} {k : F} {lo hi : Nat} (h : NdI w x k lo hi) : Sub w (F.one x k) lo hi := sub_cons.2 ⟨hi, xL _, h, xL _⟩
theorem set_rg {w : World} {lo hi : Nat} {v : Value} {S : List Rg} (h : SetIn w lo hi v S) : RgAt w v S := by
 by_cases hl : S = []
 ·subst hl;exact ⟨none, 0, h.1.2 rfl, by simp, by decide, Or.inl rfl⟩
 ·obtain ⟨g, cap, hv, hg, h1, h2, hc⟩ := ownR_slice h.1 hl;refine ⟨_, cap, hv, h1, h2, Or.inr ⟨g, 0, rfl, fun i r hr => ?_⟩⟩;have hi := (List.getElem?_eq_some_iff.1 hr).1;have he : S[i] = r := (List.getElem?_eq_some_iff.1 hr).2;have hw := h.2.1 r (he ▸ List.getElem_mem hi);refine ⟨?_, ?_, hw.1, hw.2⟩
  ·have := (hc i hi).1; rw [he] at this; simpa using this
  ·have := (hc i hi).2; rw [he] at this; simpa using this
theorem row_cells {w : World} {b : Nat} {f : F} (h : w.heap[b]? = some (.cells (fC f).toArray 27 (0, 0))) : ∀ j u, (fC f)[j]? = some u → w.cell? ⟨b, 0 + j, none⟩ = some u := fun j u hj => by
 rw [Nat.zero_add];unfold World.cell?;rw [h];simpa using hj
theorem sub_fAt {w : World} {b : Nat} : ∀ {f : F} {o lo hi : Nat}, Sub w f lo hi → (∀ j u, (fC f)[j]? = some u → w.cell? ⟨b, o + j, none⟩ = some u) → FAt w b o f
 | .nil, _, _, _, _, _ => trivial
 | .cons x k r, o, lo, hi, h, hc => by obtain ⟨h0, c, B, p, h1, h2, h3, h4, h5, h6, h7, h8, h9⟩ := h;refine ⟨fun j u hj => hc j u (by rw [fC, List.getElem?_append_left (List.getElem?_eq_some_iff.1 hj).1]; exact hj), ⟨h0, set_rg h4⟩, ⟨_, k.len, h6, xL _, by omega, Or.inr ⟨B, 0, rfl, sub_fAt h8 (row_cells h7)⟩⟩, sub_fAt h9 fun j u hj => ?_⟩;have := hc (12 + j) u (by rw [fC, List.getElem?_append_right (by simp [ndC])]; simpa [ndC] using hj);rw [show o + 12 + j = o + (12 + j) by omega];exact this
theorem ndI_at {w : World} {x : Lab} {k : F} {lo hi : Nat} (h : NdI w x k lo hi) : NdAt w (x, k) := by obtain ⟨h0, c, B, h1, h2, h4, h5, h6, h7, h8⟩ := h;exact ⟨h0, set_rg h4, _, k.len, h6, xL _, by omega, Or.inr ⟨B, 0, rfl, sub_fAt h8 (row_cells h7)⟩⟩
structure At (w : World) (b o : Nat) (x : Lab) : Prop where
 c : ∃ C : Array Value, w.heap[b]? = some (.cells C 27 (0, 0)) ∧ ∀ j u, (ndC x)[j]? = some u → C[o + j]? = some u
theorem at_cell {w : World} {b o : Nat} {x : Lab} (h : At w b o x) {j : Nat} {u : Value} (hj : (ndC x)[j]? = some u) : w.cell? ⟨b, o + j, none⟩ = some u := by obtain ⟨C, h1, h2⟩ := h.c;unfold World.cell?;rw [h1];exact h2 j u hj
theorem at_free {w : World} {b o : Nat} {x : Lab} (h : At w b o x) (j : Nat) : w.frozen? ⟨b, j, none⟩ = false := by obtain ⟨C, h1, h2⟩ := h.c;simp [World.frozen?, h1]
end gpw
end
section
namespace gpw
open sq
open Go.Sort Go Go.RowKit Go.Maps setp setw tkp trp trw rpp gpp sq prw
open rpw (fC jP FSub jQ jd own_below qp vW)
open prp (lookP)
def nmC (l : List (ByteArray × Int)) : List Value := l.flatMap fun q => [.string q.1, .int .i64 q.2]
theorem nmC_snoc (l : List (ByteArray × Int)) (q : ByteArray × Int) : nmC (l ++ [q]) = nmC l ++ [.string q.1, .int .i64 q.2] := by unfold nmC;simp
def mpL (l : List (ByteArray × Int)) : List (ByteArray × Value) := l.reverse.map fun q => (q.1, .int .i64 q.2)
theorem mpL_snoc (l : List (ByteArray × Int)) (q : ByteArray × Int) : mpL (l ++ [q]) = (q.1, .int .i64 q.2) :: mpL l := by unfold mpL;simp
theorem mp_look (s : ByteArray) : ∀ l : List (ByteArray × Int), lookP (l.map fun q => (q.1, Value.int .i64 q.2)) s (.int .i64 0) = .int .i64 (((l.find? fun q => decide (q.1 = s)).map (·.2)).getD 0) ∧
 ((l.map fun q => (q.1, Value.int .i64 q.2)).any fun p => decide (p.1 = s)) = ((l.find? fun q => decide (q.1 = s)).map (·.2)).isSome
 | [] => ⟨rfl, rfl⟩
 | q :: l => by
  obtain ⟨h1, h2⟩ := mp_look s l;obtain ⟨a, b⟩ := q;rw [List.map_cons, List.any_cons, h2, List.find?_cons];unfold lookP;by_cases h : a = s
  ·subst h;simp
  ·rw [if_neg (fun e => h e.symm), h1];simp [h]
theorem look_v (l : List (ByteArray × Int)) (s : ByteArray) : lookP (mpL l) s (.int .i64 0) = .int .i64 ((nmLook l s).getD 0) := (mp_look s l.reverse).1
theorem look_ok (l : List (ByteArray × Int)) (s : ByteArray) : ((mpL l).any fun p => decide (p.1 = s)) = (nmLook l s).isSome := (mp_look s l.reverse).2
structure StAt (w : World) (H G M : Nat) (v : Value) (s : St) : Prop where
 g : w.heap[G]? = some (.cells #[.int .i64 s.1, v, .map (some M)] 57 (0, 0))
 hg : H ≤ G
 hm : H ≤ M
 row : w.ownsRow H 45 2 v s.2.length (nmC s.2)
 nil : s.2 = [] → v = .slice none 0 0
 map : MapV w M s.2.length (mpL s.2)
structure Chg (H b lo hi : Nat) (w w' : World) : Prop where
 os : w'.os = w.os
 tape : w'.tape = w.tape
 output : w'.output = w.output
 size : w.heap.size ≤ w'.heap.size
 block : ∀ j, j < H → j ≠ b → (j < lo ∨ hi ≤ j) → w'.heap[j]? = w.heap[j]?
theorem Chg.refl (H b lo hi : Nat) (w : World) : Chg H b lo hi w w := ⟨rfl, rfl, rfl, xL _, fun _ _ _ _ => rfl⟩
theorem Chg.trans {H b lo hi : Nat} {x y z : World} (h : Chg H b lo hi x y) (k : Chg H b lo hi y z) : Chg H b lo hi x z :=
 ⟨k.os.trans h.os, k.tape.trans h.tape, k.output.trans h.output, Nat.le_trans h.size k.size, fun j h1 h2 h3 => (k.block j h1 h2 h3).trans (h.block j h1 h2 h3)⟩
theorem Chg.of_below {H b lo hi : Nat} {w w' : World} (h : Below w.heap.size w w') (hH : H ≤ w.heap.size) : Chg H b lo hi w w' := ⟨h.os, h.tape, h.output, h.size, fun j hj _ _ => h.block j (by omega)⟩
theorem Chg.of_grown {H b lo hi M : Nat} {w w' : World} (h : w.grownBy w' (some M)) (hH : H ≤ w.heap.size) (hM : H ≤ M) : Chg H b lo hi w w' :=
 ⟨h.os, h.tape, h.output, h.size, fun j hj _ _ => h.block j (by omega) (fun e => by cases e; omega)⟩
theorem Chg.cell {H b lo hi : Nat} (w : World) (c o : Nat) (u : Value) (h : c = b ∨ H ≤ c) : Chg H b lo hi w (w.setCell ⟨c, o, none⟩ u) :=
 ⟨rfl, rfl, rfl, by simp [World.setCell], fun j h1 h2 _ => heap_setCell_other w _ j u (by show j ≠ c; rcases h with h | h <;> omega)⟩
theorem Chg.wide {H b lo hi b2 lo2 hi2 : Nat} {w w' : World} (h : Chg H b lo hi w w') (hb : b = b2 ∨ (lo2 ≤ b ∧ b < hi2)) (h1 : lo2 ≤ lo ∨ hi ≤ lo) (h2 : hi ≤ hi2 ∨ hi ≤ lo) : Chg H b2 lo2 hi2 w w' :=
 ⟨h.os, h.tape, h.output, h.size, fun j k1 k2 k3 => h.block j k1 (by omega) (by omega)⟩
theorem gm_ne {w : World} {H G M n : Nat} {v : Value} {C : Array Value} {T : TypeId} {L : List (ByteArray × Value)} (hg : w.heap[G]? = some (.cells C T (0, 0))) (hm : MapV w M n L) : G ≠ M := fun e => by
 obtain ⟨es, clock, hb, _⟩ := hm;rw [← e, hg] at hb;cases hb
theorem row_ne {w : World} {H G n : Nat} {v : Value} {C : Array Value} {T : TypeId} {xs : List Value} (hg : w.heap[G]? = some (.cells C T (0, 0))) (hT : T ≠ 45) (hr : w.ownsRow H 45 2 v n xs) : v.ownBlock ≠ some G := fun e => by
 rcases hr.2 with ⟨h1, _⟩ | ⟨g, cap, cur, h1, _, h2, _⟩
 ·rw [h1] at e; cases e
 ·rw [h1] at e;simp only [Value.ownBlock, Option.some.injEq] at e;subst e;rw [hg] at h2;simp only [Option.some.injEq, Obj.cells.injEq] at h2;exact hT h2.2.1
theorem row_nm {w : World} {H M n k : Nat} {v : Value} {xs : List Value} {L : List (ByteArray × Value)} (hm : MapV w M k L) (hr : w.ownsRow H 45 2 v n xs) : v.ownBlock ≠ some M := fun e => by
 obtain ⟨es, clock, hb, _⟩ := hm;rcases hr.2 with ⟨h1, _⟩ | ⟨g, cap, cur, h1, _, h2, _⟩
 ·rw [h1] at e; cases e
 ·rw [h1] at e;simp only [Value.ownBlock, Option.some.injEq] at e;subst e;rw [hb] at h2;cases h2
theorem mapV_heap {w w' : World} {b n : Nat} {L : List (ByteArray × Value)} (h : MapV w b n L) (hb : w'.heap[b]? = w.heap[b]?) : MapV w' b n L := by obtain ⟨es, clock, h1, h2⟩ := h;exact ⟨es, clock, hb.trans h1, h2⟩
theorem StAt.lt {w : World} {j : Nat} {o : Obj} (e : w.heap[j]? = some o) : j < w.heap.size := by apply Classical.byContradiction;intro hn;rw [Array.getElem?_eq_none (by omega)] at e;cases e
theorem Chg.of_low {H b lo hi : Nat} {w w' : World} (h : Below H w w') : Chg H b lo hi w w' := ⟨h.os, h.tape, h.output, h.size, fun j hj _ _ => h.block j hj⟩
theorem StAt.keep {w w' : World} {H G M : Nat} {v : Value} {s : St} (h : StAt w H G M v s) (hk : ∀ j, H ≤ j → j < w.heap.size → w'.heap[j]? = w.heap[j]?) : StAt w' H G M v s := by
 have lt : ∀ {j : Nat} {o : Obj}, w.heap[j]? = some o → j < w.heap.size := fun {j} {o} e => by apply Classical.byContradiction;intro hn;rw [Array.getElem?_eq_none (by omega)] at e;cases e
 obtain ⟨es, clock, h1, h2⟩ := id h.map;exact ⟨(hk G h.hg (lt h.g)).trans h.g, h.hg, h.hm, tkw.jJ h.row fun k hk2 => hk k (own_below h.row hk2).1 (own_below h.row hk2).2, h.nil, mapV_heap h.map (hk M h.hm (lt h1))⟩
theorem StAt.last {w : World} {H G M : Nat} {v : Value} {s : St} (h : StAt w H G M v s) (n : Int) : StAt (w.setCell ⟨G, 0, none⟩ (.int .i64 n)) H G M v (n, s.2) :=
 ⟨by rw [tkw.heap_set h.g]; rfl, h.hg, h.hm, tkw.jJ h.row fun k hk => heap_setCell_other w _ _ _ (fun e => row_ne h.g (by decide) h.row (by rw [hk]; exact congrArg some e)), h.nil, mapV_heap h.map (heap_setCell_other w _ _ _ (Ne.symm (gm_ne (H := H) (v := v) h.g h.map)))⟩
structure SC (w : World) (G M : Nat) (v : Value) (s : St) : Prop where
 c0 : w.cell? ⟨G, 0, none⟩ = some (.int .i64 s.1)
 c1 : w.cell? ⟨G, 1, none⟩ = some v
 c2 : w.cell? ⟨G, 2, none⟩ = some (.map (some M))
 f0 : w.frozen? ⟨G, 0, none⟩ = false
 f1 : w.frozen? ⟨G, 1, none⟩ = false
theorem StAt.c {w : World} {H G M : Nat} {v : Value} {s : St} (h : StAt w H G M v s) : SC w G M v s := by have := h.g;refine ⟨?_, ?_, ?_, ?_, ?_⟩ <;> simp [World.cell?, World.frozen?, this]
theorem exec_look {o : Oper} {ρ : Operand → Value} {w : World} (m x : Operand) (hop : o.op = Op.lookup 55 m x true) {b n : Nat} {l : List (ByteArray × Int)} (hm : ρ m = .map (some b)) (hown : MapV w b n (mpL l)) {key : ByteArray} (hx : ρ x = .string key) (hk : key.size ≤ maxLen) :
 (execOp ρ o).run Try.prog w = .ok (.value (.tuple #[.int .i64 ((nmLook l key).getD 0), .bool (nmLook l key).isSome])) w := by
 have hz : (zeroValue 3).run Try.prog w = .ok (.int .i64 0) w := by kernel_rfl
 obtain ⟨v, ps, hrun, hv⟩ := World.ownsMap.look_ok hown (string_keyed Try.underlying9) Try.underlying55 hz (show RV (.int .i64 0) = some (.held (.int .i64 0), []) from rfl) (WideMaps.keyOf_string_mk Try.underlying9 (s := key) hk);rw [show Lit.string key.data.toList = keyL key from rfl, at_LD, look_v] at hv;rw [show Lit.string key.data.toList = keyL key from rfl, has_LD, look_ok] at hrun;obtain rfl := rv_inv hv;simp [execOp, hop, hm, hx, hrun, Result.andThen]
theorem held_upd {o : Oper} {a : Act} {w : World} {K : Act → World → Prop} {Q : Exit → Act → World → Prop} {ys : Nat → Option Bool} (hgd : o.guard = none) (hd : o.dst = none) (m x v : Operand) (hop : o.op = Op.mapUpdate 55 m x v)
 {b n : Nat} {L : List (ByteArray × Value)} (hm : a.eval m = .map (some b)) (hown : MapV w b n L) (hn : n < maxLen) {key : ByteArray} (hx : a.eval x = .string key) (hk : key.size ≤ maxLen) {val : Value} (hv : a.eval v = val)
 (hK : ∀ w', MapV w' b (n + 1) ((key, val) :: L) → w.grownBy w' (some b) → K a w') : if Region.wanted o ys = true then Oper.wp Try.prog o a w K Q else K (a.put o.dst undef) w := by
 rw [if_pos (by unfold Region.wanted; rw [hgd])];obtain ⟨w', hrun, r1, r2⟩ := World.ownsMap.update hown (string_keyed Try.underlying9) Try.underlying55 hn (WideMaps.keyOf_string_mk Try.underlying9 (s := key) hk) (show RV val = some (.held val, []) from rfl);unfold Oper.wp;simp [execOp, hop, hm, hx, hv, hrun, Result.andThen];show K (a.put o.dst undef) w';rw [hd];exact hK w' r1 r2
theorem row_slice {w : World} {H n : Nat} {v : Value} {e : TypeId} {k : Nat} {xs : List Value} (h : w.ownsRow H e k v n xs) : ∃ a c, v = .slice a n c := by
 rcases h.2 with ⟨h1, h2⟩ | ⟨g, cap, cur, h1, _⟩
 ·subst h2; exact ⟨_, _, h1⟩
 ·exact ⟨_, _, h1⟩
theorem infoNm : (Try.prog.info? 45).map (fun i => (i.zero, i.size, i.bytes)) = some (some (.agg #[.string ⟨#[]⟩, .int .i64 0]), 2, 24) := by kernel_rfl
theorem held_app_nm {o : Oper} {a : Act} {w W : World} {K : Act → World → Prop} {Q : Exit → Act → World → Prop} {ys : Nat → Option Bool} (hgd : o.guard = none) (s x : Operand)
 (ho : o.op = .call { callee := .builtin .append, args := #[s, x], argTypes := #[30, 30] }) {H : Nat} {v : Value} {l : List (ByteArray × Int)} (hs : a.eval s = v) (hown : w.ownsRow H 45 2 v l.length (nmC l))
 {q : ByteArray × Int} {B : Nat} (hx : a.eval x = .slice (some ⟨B, 0, none⟩) 1 1) (hB : B = w.heap.size) (hW : W = w.alloc (.cells #[.string q.1, .int .i64 q.2] 45)) (hl : l.length ≤ 2000000) (hH : H ≤ w.heap.size)
 (h : ∀ v' w', w'.ownsRow H 45 2 v' (l ++ [q]).length (nmC (l ++ [q])) → (∀ j, j < w.heap.size → v.ownBlock ≠ some j → w'.heap[j]? = w.heap[j]?) → Below H w w' → K (a.put o.dst v') w') :
 if Region.wanted o ys = true then Oper.wp Try.prog o a W K Q else K (a.put o.dst undef) W := by
 rw [if_pos (by unfold Region.wanted; rw [hgd])];subst hB;subst hW;obtain ⟨i0, hi, hz0, hz1, hz2⟩ := info_parts infoNm;have hz := World.size_alloc w (.cells #[.string q.1, .int .i64 q.2] 45);obtain ⟨v', w', hr, h2, h3, _, h5⟩ := run_append_own_at (P := Try.prog) (w.alloc (.cells #[.string q.1, .int .i64 q.2] 45)) H 30 o.type 45 i0 _ 2 24 Try.underlying30 hi hz0 hz1 hz2 rfl (by decide) v l.length (nmC l) (World.ownsRow.alloc hown _) ⟨w.heap.size, 0, none⟩ 1 1 [.string q.1, .int .i64 q.2] rfl
  (fun j u hj => by
   rw [trw.add_plain, Nat.zero_add];unfold World.cell?;rw [heap_alloc_new];simpa using hj) (fun u hu => by simp only [List.mem_cons, List.not_mem_nil, or_false] at hu;rcases hu with rfl | rfl <;> rfl) (by unfold maxLen; omega) (by omega) (by omega)
 unfold Oper.wp execOp;simp only [ho, resolve, invoke, builtin, Sem.run_bind, Sem.run_pure, Result.andThen_ok, List.map_toArray, List.map_cons, List.map_nil, hs, hx, hr];have hk := h v' w' (by rw [nmC_snoc, List.length_append]; exact h2) (fun j hj hne => (h3.block j (by omega) (fun e => hne e.symm)).trans (heap_alloc_old _ _ hj))
  (((trw.qg w _).mono hH).trans (Below.grown (Below.refl H _) h3 (by omega) (fun k hk => (own_below hown hk).1)))
 simpa [Oper.upon] using hk
def EntB (H G M b o : Nat) (C : Array Value) (x : Lab) (s : St) (w : World) (e : Ending) (w' : World) : Prop := e = .returned (.int .i64 (zy x.name s).1) ∧ w'.heap[b]? = some (.cells (C.setIfInBounds (o + 5) (.int .i64 (s.1 + 1))) 27 (0, 0)) ∧ (∃ v, StAt w' H G M v (zy x.name s).2) ∧ Chg H b 0 0 w w'
end gpw
end
end Go.Proofs.Ytnpcombfgdbhkaa
