/- T -/
import Derived.Deep.Cut
import Derived.KernelRfl
import Derived.Lib.SlBytesConst
import Derived.Test.YtdgfclbajjjcgaaBGs24
set_option maxHeartbeats 16000000
set_option maxRecDepth 1000000
namespace Go.Proofs.Ytdgfclbajjjcgaa
section
namespace rsw
open sq
open Go Go.RowKit Go.Maps utfw tkp trp trw rpp rsp rtp setw
open rtw (TkB Bd LexB rlex_any str_size Pat lexF_ok)
open rpw (sees jB TkIn LOk ParB rparse_any qh ql qp jm qI)
open tkw (sg)
theorem rlex_err {n : Nat} {g : Nat → Int} {o : Int} {x : Int × Int} (h : rlexP (sg (strOf n g)) n o = .error x) : x.1 ≠ 0 := rtw.rlex_e _ _ _ _ h
theorem strip_strip : ∀ f : F, strip (strip f) = strip f
 | .nil => rfl
 | .cons x k r => by rw [strip, strip, strip_strip k, strip_strip r]
theorem okF_strip : ∀ {f : F}, OkF f ↔ OkF (strip f)
 | .nil => Iff.rfl
 | .cons x k r => by rw [strip];unfold OkF;rw [okF_strip (f := k), okF_strip (f := r), jm]
theorem node_bare (u : Bool) (m : Int) (rk : Int → F × Int) (x : Lab) (k : F) (f : Int) : nodeP u m rk (bare x) (strip k) f = nodeP u m rk x k f := by unfold nodeP;rw [strip_strip];rfl
theorem row_strip (u : Bool) (m : Int) : ∀ (l : F) (f : Int), rowP u m (strip l) f = rowP u m l f
 | .nil, _ => rfl
 | .cons x k r, f => by
  have e : (fun g => rowP u m (strip k) g) = fun g => rowP u m k g := funext fun g => row_strip u m k g
  rw [strip, rowP, rowP];show (F.app (nodeP u m (fun g => rowP u m (strip k) g) (bare x) (strip k) f).1 (rowP u m (strip r) (nodeP u m (fun g => rowP u m (strip k) g) (bare x) (strip k) f).2).1, (rowP u m (strip r) (nodeP u m (fun g => rowP u m (strip k) g) (bare x) (strip k) f).2).2) = _;rw [e, node_bare, row_strip u m r]
theorem res_strip (x : Lab) (k : F) (o : Int) : resP (bare x, strip k) o = resP (x, k) o := by
 unfold resP;have e : ∀ u m, (fun g => rowP u m (strip k) g) = fun g => rowP u m k g := fun u m => funext fun g => row_strip u m k g
 simp only [e, node_bare]
theorem parse_err {L : List Tk} {n : Int} {x : Int × Int} (h : parseP L n = .error x) : x.1 ≠ 0 := by
 unfold parseP at h;generalize run L (3 * L.length + 3) (.alt .nil) { i := 0 } = r at h;simp only at h;generalize (if r.2.e = 0 ∧ r.2.i < L.length then failS r.2 31 (L.getD r.2.i zeroT).at_ else r.2) = s at h;split at h
 ·cases h;simp
 ·split at h
  ·rename_i h1;cases h;exact h1
  ·cases h
theorem below_row0 {w w2 : World} (h : Below w.heap.size w w2) (o : Obj) (cs : Array Value) : Below w.heap.size w ((w2.alloc o).setRow w2.heap.size cs) :=
 trw.qi h (rpw.qC (qg w2 o) cs (xL _))
def flatP (g : Nat → Int) (n : Nat) (o : Int) : Option F := match rlexP g n o with
 | .error _ => none
 | .ok T => match parseP T n with
  | .error _ => none
  | .ok f => match f with
   | .nil => none
   | .cons x k _ => some (resP (x, k) o)
def FlatB (r : Option F) (w : World) (e : Ending) (w' : World) : Prop := Below w.heap.size w w' ∧ match r with
 | none => e = .returned (.tuple #[ndV (lab 0 0), .bool false])
 | some t => ∃ y j, e = .returned (.tuple #[ndV y, .bool true]) ∧ NdAt w' (y, j) ∧ strip (F.one y j) = t
theorem rlex_ok {n : Nat} {g : Nat → Int} {o : Int} {T : List Tk} (h : rlexP (sg (strOf n g)) n o = .ok T) : (∀ t ∈ T, TkB t ∧ t.at_ ≤ n) ∧ T.length ≤ n ∧ n ≤ 1000 := by
 unfold rlexP at h;split at h
 ·cases h
 ·split at h
  ·cases h
  ·rename_i hn;split at h
   ·cases h
   ·have hsz := str_size n g;have hP : Pat (strOf n g) { g := sg (strOf n g), n := n, u := o.toNat.testBit 5, x := o.toNat.testBit 3 } := ⟨rfl, hsz.symm, by rw [hsz]; omega⟩;have := lexF_ok hP (n + 1) false [] 0 T (fun t ht => by cases ht) (Nat.zero_le _) (Nat.zero_le _) h;exact ⟨this.1, this.2, by omega⟩
theorem zH (v : Value) (n : Nat) (g : Nat → Int) (o : Int) (w : World) (hv : Sl w v n g) : Calls Try.prog 13 #[v, .int .i64 o] w (FlatB (flatP (sg (strOf n g)) n o) w) := by
 have HL := xH (rlex_any v n g o (w.alloc (.cells zC.toArray 27)) (utfw.below_sl (qg w _) hv));have HB0 := xH (qg w (.cells zC.toArray 27));have HRV := xH (heap_alloc_new w (.cells zC.toArray 27));have HZ := xH (World.size_alloc w (.cells zC.toArray 27));obtain ⟨a, cap, rfl⟩ : ∃ a c, v = .slice a n c := by
  obtain ⟨_, _, ⟨rfl, a, c, hv, _⟩ | ⟨b, off, cap, hv, _⟩⟩ := hv
  ·exact ⟨_, _, hv⟩
  ·exact ⟨_, _, hv⟩
 obtain ⟨R, hR⟩ : ∃ R, flatP (sg (strOf n g)) n o = R := ⟨_, rfl⟩;rw [hR];unfold flatP at hR;have HOKT := xH (fun T => rlex_ok (n := n) (g := g) (o := o) (T := T));have HR0 := xH hR;clear hR hv;unfold zC at HL HB0 HRV HZ;go_enter Try.func13, Try.ntmps13;go_upto_region 1 with (fail)
 generalize w.alloc _ = w0 at *;have H1 := xH (qp (t := (lab 0 0, F.nil)) (rpw.zero_at w0));go_wp2_with fail
 refine HL.out.mono ?_;obtain ⟨q, hq⟩ : ∃ q, rlexP (sg (strOf n g)) n o = q := ⟨_, rfl⟩;rw [hq] at HR0 ⊢;have HOK := xH (fun T (h : q = .ok T) => HOKT.out T (hq.trans h));have HERR := xH (fun x (h : q = .error x) => rlex_err (hq.trans h));clear hq HL HOKT;cases q with
 | error x =>
  rintro e w1 ⟨hb, rfl⟩;have HR := xH (show none = R from HR0.out);have b1 : (x.1 != 0) = true := by simpa using HERR.out x rfl
  have HB1 := xH (trw.qi HB0.out hb);have HRV1 := xH ((hb.block _ (by have := HZ.out; omega)).trans HRV.out);clear hb HR0;dsimp only;go_wp2_with (refine qh rfl rfl _ _ rfl w.heap.size rfl _ (lab 0 0) HRV1.out rfl H1.out rfl ?_)
  refine xB (qZ rfl _ _ w.heap.size (lab 0 0) rfl (setRow_heap _ _ _ _ _ _ HRV1.out)) rfl ?_;exact ⟨rpw.qC HB1.out _ (xL _), by rw [← HR.out]; rfl⟩
 | ok T =>
  rintro e w1 ⟨hb, v1, rfl, hrow⟩;have ht := HOK.out T rfl;have hl5 : T.length ≤ 50000 := by omega
  have htk := tkIn_of hrow (fun t h => (ht.1 t h).1.w) hl5;have HZ0 := xH (show w.heap.size + 1 = w0.heap.size from HZ.out.symm);have HPA := xH (rparse_any (bl := w0.heap.size) v1 T (n : Int) w1 hb.size htk (lok_of ht.1 ht.2.2 ht.2.1));have HBL := xH hb.size;have HSET := xH (fun t h => (ht.1 t h).1.s);have HLEN := xH (show T.length ≤ 1000 by omega);obtain ⟨a1, c1, rfl⟩ : ∃ a c, v1 = .slice a T.length c := by obtain ⟨a, c, h, _⟩ := htk;exact ⟨a, c, h⟩
  have HB1 := xH (trw.qi HB0.out hb);have HRV1 := xH ((hb.block _ (by have := HZ.out; omega)).trans HRV.out);have HZ1 := xH (show w.heap.size + 1 ≤ w1.heap.size by have := HZ.out; have := hb.size; omega);clear hb hrow ht htk HOK HERR HB0 HRV HZ;dsimp only;go_wp2_with fail
  refine HPA.out.mono ?_;obtain ⟨q, hq⟩ : ∃ q, parseP T (n : Int) = q := ⟨_, rfl⟩;have HR1 := xH (show (match parseP T (n : Int) with | .error _ => none | .ok f => (match f with | .nil => none | .cons x k _ => some (resP (x, k) o))) = R from HR0.out);have HPE := xH (fun x (h : q = .error x) => parse_err (hq.trans h));have HPO := xH (fun f (h : q = .ok f) => zU HSET.out (hq.trans h));rw [hq] at HR1 ⊢;clear hq HPA HR0 hl5;cases q with
  | error x =>
   rintro e w2 ⟨hb, rfl⟩;have HR := xH (show none = R from HR1.out);have b1 : (x.1 != 0) = true := by simpa using HPE.out x rfl
   have HB2 := xH (trw.qi HB1.out hb);have HRV2 := xH ((hb.block _ (by have := HZ1.out; omega)).trans HRV1.out);have HZ2 := xH (show w.heap.size + 1 ≤ w2.heap.size by have := HZ1.out; have := hb.size; omega);have HG2 := xH (heap_alloc_new w2 (.cells #[.int .i64 0, .int .i64 0, .int .i64 0, .slice none 0 0, .bool false, .int .i64 0, .int .i64 0, .int .i64 0, .string ⟨#[]⟩, .int .i64 0, .int .i64 0, .slice none 0 0] 27));have HB3 := xH (below_row0 HB2.out (.cells #[.int .i64 0, .int .i64 0, .int .i64 0, .slice none 0 0, .bool false, .int .i64 0, .int .i64 0, .int .i64 0, .string ⟨#[]⟩, .int .i64 0, .int .i64 0, .slice none 0 0] 27) (ndC (lab 0 0)).toArray);have HRV3 := xH (show ((w2.alloc (.cells #[.int .i64 0, .int .i64 0, .int .i64 0, .slice none 0 0, .bool false, .int .i64 0, .int .i64 0, .int .i64 0, .string ⟨#[]⟩, .int .i64 0, .int .i64 0, .slice none 0 0] 27)).setRow w2.heap.size (ndC (lab 0 0)).toArray).heap[w.heap.size]? = _ from ((rpw.qC (qg w2 (.cells #[.int .i64 0, .int .i64 0, .int .i64 0, .slice none 0 0, .bool false, .int .i64 0, .int .i64 0, .int .i64 0, .string ⟨#[]⟩, .int .i64 0, .int .i64 0, .slice none 0 0] 27)) (ndC (lab 0 0)).toArray (xL _)).block _ (by have := HZ2.out; omega)).trans HRV2.out);clear hb HR1 HPE HPO;dsimp only;unfold ndV;go_upto_region 5 with (refine qh rfl rfl _ _ rfl w2.heap.size rfl _ (lab 0 0) HG2.out rfl H1.out rfl ?_)
   generalize (w2.alloc _).setRow w2.heap.size _ = w3 at *;go_wp2_with (refine qh rfl rfl _ _ rfl w.heap.size rfl _ (lab 0 0) HRV3.out rfl H1.out rfl ?_)
   refine xB (qZ rfl _ _ w.heap.size (lab 0 0) rfl (setRow_heap _ _ _ _ _ _ HRV3.out)) rfl ?_;exact ⟨rpw.qC HB3.out _ (xL _), by rw [← HR.out]; rfl⟩
  | ok f =>
   obtain ⟨hok, hsz, x, k, rfl⟩ := HPO.out f rfl;have HR := xH (show some (resP (x, k) o) = R from HR1.out);rintro e w2 ⟨hb, x2, k2, rfl, hn2, hs2⟩;obtain ⟨rfl, rfl⟩ : bare x2 = x ∧ strip k2 = k := by have := hs2;simp only [F.one, strip] at this;cases this;exact ⟨rfl, rfl⟩
   have HB2 := xH (trw.qi HB1.out hb);have HRV2 := xH ((hb.block _ (by have := HZ1.out; omega)).trans HRV1.out);have HZ2 := xH (show w.heap.size + 1 ≤ w2.heap.size by have := HZ1.out; have := hb.size; omega);have HG2 := xH (heap_alloc_new w2 (.cells #[.int .i64 0, .int .i64 0, .int .i64 0, .slice none 0 0, .bool false, .int .i64 0, .int .i64 0, .int .i64 0, .string ⟨#[]⟩, .int .i64 0, .int .i64 0, .slice none 0 0] 27));have H2 := xH (qp hn2);have HBW := xH (show w0.heap.size ≤ w2.heap.size from Nat.le_trans HBL.out hb.size);have HN2 := xH hn2;have HOK2 := xH (show OkF (F.one x2 k2) from okF_strip.2 hok);have HSZ := xH (show k2.size ≤ 30000 by have h1 := HLEN.out;simp only [F.one, F.size, strip_size] at hsz;omega)
   clear hb HR1 HPE HPO hs2 hn2 hok hsz;dsimp only;unfold ndV;go_upto_region 5 with (refine qh rfl rfl _ _ rfl w2.heap.size rfl _ x2 HG2.out rfl H2.out rfl ?_)
   have HB5 := xH (rpw.qC (qg w2 (.cells #[.int .i64 0, .int .i64 0, .int .i64 0, .slice none 0 0, .bool false, .int .i64 0, .int .i64 0, .int .i64 0, .string ⟨#[]⟩, .int .i64 0, .int .i64 0, .slice none 0 0] 27)) (ndC x2).toArray (xL _));have HG5 := xH (setRow_heap _ _ _ (ndC x2).toArray _ _ HG2.out);generalize (w2.alloc (.cells #[.int .i64 0, .int .i64 0, .int .i64 0, .slice none 0 0, .bool false, .int .i64 0, .int .i64 0, .int .i64 0, .string ⟨#[]⟩, .int .i64 0, .int .i64 0, .slice none 0 0] 27)).setRow w2.heap.size (ndC x2).toArray = w5 at *;have HRV5 := xH ((HB5.out.block _ (by have := HZ2.out; omega)).trans HRV2.out);have HN5 := xH (qV HB5.out HN2.out);have HO5 := xH (show Old (fun i => decide (i < w0.heap.size)) w5.heap.size from fun i hi => by have := HBW.out;have h2 := HB5.out.size;simp only [decide_eq_true_eq] at hi;omega)
   have HB6 := xH (trw.qi HB2.out HB5.out);have HZ5 := xH (show w.heap.size + 1 ≤ w5.heap.size from Nat.le_trans HZ2.out HB5.out.size);clear HG2 HB5 HN2 HRV2;go_wp2_with (refine ql rfl _ rfl w2.heap.size rfl x2 HG5.out ?_)
   refine (res_any (fun i => decide (i < w0.heap.size)) x2 k2 o w5 HO5.out HN5.out HOK2.out HSZ.out).mono ?_;rintro e w6 ⟨hb6, y, j, rfl, hn6, hs6⟩;have HRV6 := xH ((hb6.block _ (by have := HZ5.out; omega)).trans HRV5.out);have HB7 := xH (trw.qi HB6.out hb6);have HN6 := xH hn6;have H6 := xH (qp hn6);have HS6 := xH hs6;clear hb6 hn6 hs6;dsimp only;unfold ndV;go_wp2_with (refine qh rfl rfl _ _ rfl w.heap.size rfl _ y HRV6.out rfl H6.out rfl ?_)
   refine xB (qZ rfl _ _ w.heap.size y rfl (setRow_heap _ _ _ _ _ _ HRV6.out)) rfl ?_;refine ⟨rpw.qC HB7.out _ (xL _), ?_⟩;rw [← HR.out];refine ⟨y, j, rfl, qY (fun a v hc => ?_) HN6.out, by rw [HS6.out, res_strip]⟩;have h1 := jB.1 hc;have h0 := HZ0.out;simp only [decide_eq_false_iff_not] at h1;exact rpw.jI _ h1.2 (by omega)
end rsw
end
section
namespace gpp
open sq
open Go tkp trp rpp rsp setp setw
theorem allNm_app : ∀ {f g : F}, AllNm f → AllNm g → AllNm (F.app f g)
 | .nil, _, _, h => h
 | .cons _ _ _, _, h, k => ⟨h.1, h.2.1, allNm_app h.2.2 k⟩
theorem yj {x : Lab} {k : F} (h1 : x.name.size ≤ 9223372036854775807) (h3 : AllNm k) : AllNm (F.one x k) := ⟨h1, h3, trivial⟩
theorem nmL (k a : Int) : (lab k a).name.size ≤ 9223372036854775807 := by show (⟨#[]⟩ : ByteArray).size ≤ _; decide
theorem allNm_oneF (kind : Int) : ∀ {l : F}, AllNm l → AllNm (oneF kind l)
 | .nil, _ => ⟨nmL 0 0, trivial, trivial⟩
 | .cons x k .nil, h => h
 | .cons x k (.cons y j r), h => ⟨nmL 0 0, h, trivial⟩
theorem getD_nm {L : List Tk} (hL : ∀ t ∈ L, t.name.size ≤ 9223372036854775807) (i : Nat) : (L.getD i zeroT).name.size ≤ 9223372036854775807 := by
 rw [List.getD_eq_getElem?_getD];cases h : L[i]? with
 | none => show (⟨#[]⟩ : ByteArray).size ≤ _; decide
 | some t => exact hL t (List.mem_of_getElem? h)
theorem allNm_group {t : Tk} (ht : t.name.size ≤ 9223372036854775807) {look l : F} (h1 : AllNm look) (h2 : AllNm l) : AllNm (jf t look l) := by
 have ho := allNm_oneF 13 h2;unfold jf
 repeat' split
 ·exact yj ht ho
 ·exact yj (nmL 0 0) ho
 ·exact yj (nmL 0 0) ho
 ·exact yj (nmL 0 0) ho
 ·exact yj (nmL 0 0) h2
 ·exact yj ht (allNm_app h1 h2)
theorem allNm_zero : AllNm zeroF := yj (nmL 0 0) trivial
def accNm : Md → Prop
 | .alt acc => AllNm acc
 | .seq acc => AllNm acc
 | .thing => True
theorem run_nm {L : List Tk} (hL : ∀ t ∈ L, t.name.size ≤ 9223372036854775807) : ∀ (n : Nat) (md : Md) (s : Ps), accNm md → AllNm (run L n md s).1
 | 0, _, _, _ => trivial
 | n + 1, .alt acc, s, h => by
  have a := run_nm hL n (.seq .nil) s trivial;rw [run];simp only;split
  ·exact run_nm hL n (.alt _) _ (allNm_app h a)
  ·exact allNm_app h a
 | n + 1, .seq acc, s, h => by
  rw [run];split
  ·exact allNm_oneF 12 h
  ·split
   ·exact allNm_zero
   ·have a := run_nm hL n .thing s trivial;simp only;split
    ·exact run_nm hL n (.seq _) _ (allNm_app h (yj (nmL 0 0) a))
    ·exact run_nm hL n (.seq _) _ (allNm_app h a)
 | n + 1, .thing, s, _ => by
  rw [run];simp only;split
  ·exact yj (getD_nm hL s.i) trivial
  ·split
   ·exact allNm_zero
   ·have hq : AllNm (if (L.getD s.i zeroT).n = 13 ∧ kindS L ⟨s.i + 1, s.op + 1, s.e, s.at_⟩ = 10 then run L n .thing ⟨s.i + 1, s.op + 1, s.e, s.at_⟩ else (.nil, ⟨s.i + 1, s.op + 1, s.e, s.at_⟩)).1 := by
     split
     ·exact run_nm hL n .thing _ trivial
     ·trivial
    generalize (if (L.getD s.i zeroT).n = 13 ∧ kindS L ⟨s.i + 1, s.op + 1, s.e, s.at_⟩ = 10 then run L n .thing ⟨s.i + 1, s.op + 1, s.e, s.at_⟩ else (.nil, ⟨s.i + 1, s.op + 1, s.e, s.at_⟩)) = q at *;split
    ·exact allNm_zero
    ·exact allNm_group (getD_nm hL s.i) hq (run_nm hL n (.alt .nil) _ trivial)
theorem parse_nm {L : List Tk} {n : Int} {f : F} (hL : ∀ t ∈ L, t.name.size ≤ 9223372036854775807) (h : parseP L n = .ok f) : AllNm f := by
 have a := run_nm hL (3 * L.length + 3) (.alt .nil) { i := 0 } trivial;unfold parseP at h;generalize run L (3 * L.length + 3) (.alt .nil) { i := 0 } = r at *;simp only at h;generalize (if r.2.e = 0 ∧ r.2.i < L.length then failS r.2 31 (L.getD r.2.i zeroT).at_ else r.2) = s at h;split at h
 ·cases h
 ·split at h
  ·cases h
  ·cases h;exact allNm_oneF 13 a
def NmS : F → Prop
 | .nil => True
 | .cons x k r => (x.name.size ≤ 9223372036854775807 ∧ x.set.length ≤ 1000000) ∧ NmS k ∧ NmS r
theorem nmS_app : ∀ {f g : F}, NmS f → NmS g → NmS (F.app f g)
 | .nil, _, _, h => h
 | .cons _ _ _, _, h, k => ⟨h.1, h.2.1, nmS_app h.2.2 k⟩
theorem nmS_one {x : Lab} {k : F} (h1 : x.name.size ≤ 9223372036854775807 ∧ x.set.length ≤ 1000000) (h3 : NmS k) : NmS (F.one x k) := ⟨h1, h3, trivial⟩
theorem nmSL (k a : Int) : (lab k a).name.size ≤ 9223372036854775807 ∧ (lab k a).set.length ≤ 1000000 := ⟨nmL k a, by simp [lab]⟩
theorem nmS_oneF (kind : Int) : ∀ {l : F}, NmS l → NmS (oneF kind l)
 | .nil, _ => ⟨nmSL 0 0, trivial, trivial⟩
 | .cons x k .nil, h => h
 | .cons x k (.cons y j r), h => ⟨nmSL 0 0, h, trivial⟩
theorem nmS_first : ∀ {l : F}, NmS l → NmS (firstF l)
 | .nil, h => h
 | .cons x k r, h => ⟨h.1, h.2.1, trivial⟩
theorem nmS_list {x : Lab} {k : F} (h1 : x.name.size ≤ 9223372036854775807 ∧ x.set.length ≤ 1000000) (h : NmS k) : NmS (listF x k) := by
 unfold listF;split
 ·exact h
 ·exact nmS_one h1 h
theorem nmS_flat : ∀ {l : F}, NmS l → NmS (flatF l)
 | .nil, _ => trivial
 | .cons x k r, h => nmS_app (nmS_list h.1 h.2.1) (nmS_flat h.2.2)
theorem nmS_strip : ∀ {f : F}, NmS (strip f) ↔ NmS f
 | .nil => Iff.rfl
 | .cons x k r => by rw [strip];unfold NmS;rw [nmS_strip (f := k), nmS_strip (f := r)]
theorem nmS_ok : ∀ {f : F}, OkF f → AllNm f → NmS f
 | .nil, _, _ => trivial
 | .cons x k r, h, g => ⟨⟨g.1, by have := h.1; omega⟩, nmS_ok h.2.2.1 g.2.1, nmS_ok h.2.2.2 g.2.2⟩
theorem canon_len : ∀ {l : List Rg} {lo : Int}, l.Pairwise (fun a b => a.2 + 1 < b.1) → (∀ r ∈ l, lo ≤ r.1 ∧ r.1 ≤ r.2 ∧ r.2 ≤ 1114111) → 0 ≤ lo → lo ≤ 1114112 → (l.length : Int) * 2 ≤ 1114113 - lo
 | [], lo, _, _, _, h => by simp; omega
 | r :: l, lo, hp, hr, h0, h1 => by
  have a := hr r (List.mem_cons_self ..);have hp1 := List.pairwise_cons.1 hp;cases l with
  | nil => simp; omega
  | cons q l =>
   have b := hp1.1 q (List.mem_cons_self ..);have c := hr q (List.mem_cons_of_mem _ (List.mem_cons_self ..));have := canon_len (l := q :: l) (lo := r.2 + 2) hp1.2 (fun s hs => by have d := hr s (List.mem_cons_of_mem _ hs);have e := hp1.1 s hs;exact ⟨by omega, d.2⟩) (by omega) (by omega)
   simp only [List.length_cons] at this ⊢;omega
theorem canon_le {l : List Rg} (h : Canon l) : l.length ≤ 1000000 := by have := canon_len (lo := 0) h.1 h.2 (Int.le_refl _) (by decide);omega
theorem setP_canon (u : Bool) {m : Int} (hm : m ≤ 1114111) (l : List Rg) (cl neg : Bool) : Canon (setP u m l cl neg) := by exact z99
theorem nmS_set {l : List Rg} (a : Int) (h : l.length ≤ 1000000) : NmS (setL a l) := nmS_one ⟨nmL 0 0, h⟩ trivial
theorem nmS_line {m : Int} (hm : m ≤ 1114111) (a : Int) : NmS (lineF m a) := by unfold lineF;exact nmS_one (nmSL 0 0) (nmS_one (nmSL 0 0) (nmS_app (nmS_one (nmSL 0 0) (nmS_app (nmS_set a (by simp)) (nmS_set a (by simp)))) (nmS_set a (canon_le (ja hm _)))))
theorem nmS_node {u : Bool} {m : Int} (hm : m ≤ 1114111) {rk : Int → F × Int} {x : Lab} {k : F} (hx : x.name.size ≤ 9223372036854775807 ∧ x.set.length ≤ 1000000) (hk : NmS k) (hr : ∀ g, NmS (rk g).1) (f : Int) : NmS (nodeP u m rk x k f).1 := by
 unfold nodeP
 repeat' split
 ·exact nmS_set _ (canon_le (setP_canon u hm _ _ _))
 ·exact nmS_set _ (canon_le (setP_canon u hm _ _ _))
 ·exact nmS_set _ (canon_le (setP_canon u hm _ _ _))
 ·exact nmS_set _ (canon_le (setP_canon u hm _ _ _))
 ·exact nmS_one hx (nmS_strip.2 hk)
 ·exact nmS_line hm _
 ·exact nmS_one hx (nmS_strip.2 hk)
 ·exact nmS_one (nmSL 0 0) trivial
 ·exact nmS_oneF 12 (nmS_flat (hr _))
 ·exact nmS_one hx (hr _)
 ·exact nmS_first (hr _)
 ·exact nmS_one hx (hr _)
theorem nmS_row {u : Bool} {m : Int} (hm : m ≤ 1114111) : ∀ {l : F} (f : Int), NmS l → NmS (rowP u m l f).1
 | .nil, _, _ => trivial
 | .cons x k r, f, h => nmS_app (nmS_node hm h.1 h.2.1 (fun g => nmS_row hm g h.2.1) f) (nmS_row hm _ h.2.2)
theorem nmS_res {x : Lab} {k : F} (h : NmS (F.one x k)) (o : Int) : NmS (resP (x, k) o) := by
 unfold resP;have hm : (if andI o 32 ≠ 0 then (1114111 : Int) else 255) ≤ 1114111 := by split <;> omega
 exact nmS_node hm h.1 h.2.1 (fun g => nmS_row hm g h.2.1) _
theorem len_le : ∀ f : F, f.len ≤ f.size := rsp.len_size
theorem nmS_all : ∀ {f : F}, NmS f → AllNm f
 | .nil, _ => trivial
 | .cons _ _ _, h => ⟨h.1.1, nmS_all h.2.1, nmS_all h.2.2⟩
theorem res_sz (x : Lab) (k : F) (o : Int) : (resP (x, k) o).size ≤ 6 * k.size + 6 := by unfold resP;exact node_size _ _ _ _ _ _ fun g => row_size _ _ k g
end gpp
end
section
namespace gpw
open sq
open Go.Sort Go Go.RowKit Go.Maps setp setw tkp trp trw rpp gpp sq prw
open rpw (fC jP FSub jQ jd own_below qp vW qh qA)
open utfw (Sl at_ strOf)
open tkw (sg)
open rsw (flatP FlatB zH)
open rtp (rlexP)
open rsp (resP zU)
theorem cpOk_of : ∀ {f : F} {n : Nat}, NmS f → f.size ≤ 100000 → CpOk f
 | .nil, _, _, _ => trivial
 | .cons x k r, n, h, hs => by simp only [F.size] at hs;have := len_le k;exact ⟨h.1.2, by omega, cpOk_of (n := n) h.2.1 (by omega), cpOk_of (n := n) h.2.2 (by omega)⟩
theorem flat_ok {n : Nat} {g : Nat → Int} {o : Int} {t : F} (h : flatP (sg (strOf n g)) n o = some t) : NmS t ∧ t.size ≤ 100000 := by
 unfold flatP at h;split at h
 ·cases h
 ·rename_i T hT;have ht := rsw.rlex_ok hT;split at h
  ·cases h
  ·rename_i f hf;have hp := zU (fun t h => (ht.1 t h).1.s) hf;have hn := parse_nm (fun t h => (ht.1 t h).1.nm) hf;split at h
   ·cases h
   ·rename_i x k r;cases h;have hs := hp.2.1;simp only [F.size] at hs;have hz := res_sz x k o;exact ⟨nmS_res ⟨⟨hn.1, by have := hp.1.1; omega⟩, nmS_ok hp.1.2.2.1 hn.2.1, trivial⟩ o, by omega⟩
theorem zV {n : Nat} {g : Nat → Int} {o : Int} {t : F} (h : flatP (sg (strOf n g)) n o = some t) {y : Lab} {j : F} (hs : strip (F.one y j) = t) (w : World) (hn : NdAt w (y, j)) : Calls Try.prog 14 #[ndV y] w (NumB y j w) := by
 obtain ⟨h1, h2⟩ := flat_ok h;subst hs;have h3 : (F.one y j).size ≤ 100000 := by rw [← zt]; exact h2
 have h4 := nmS_strip.1 h1;refine vY w y j hn (cpOk_of (n := 0) h4 h3) (nmS_all h4) ?_;simp only [F.one, F.size] at h3;omega
theorem sl_lit (w : World) (t : TypeId) (fr : Nat × Nat) (l : List Int) (hl : ∀ x ∈ l, 0 ≤ x ∧ x ≤ 255) (hn : l.length ≤ 140737488355328) : Sl (w.alloc (.cells (l.map (Value.int .u8)).toArray t fr)) (.slice (some ⟨w.heap.size, 0, none⟩) l.length l.length) l.length (at_ l) := by
 refine ⟨fun i => ?_, hn, Or.inr ⟨w.heap.size, 0, l.length, rfl, ⟨xL _, by omega⟩, fun i hi => ?_⟩⟩
 ·unfold at_;by_cases hi : i < l.length
  ·have : l.getD i 0 ∈ l := by rw [show l.getD i 0 = l[i] by simp [List.getD, hi]];exact List.getElem_mem hi
   exact hl _ this
  ·rw [show l.getD i 0 = 0 by simp [List.getD, Nat.not_lt.1 hi]];omega
 ·rw [cell_of_row _ _ _ _ _ _ (heap_alloc_new w _)];simp [at_, List.getD, hi]
def pA : List Int := [40, 97, 41, 40, 63, 124, 40, 98, 41, 124, 40, 99, 41, 40, 100, 41, 41, 40, 101, 41]
def pB : List Int := [40, 63, 60, 110, 62, 97, 41, 40, 63, 60, 110, 62, 98, 41]
def third : F → Int
 | .cons _ _ (.cons _ _ (.cons x _ _)) => x.n
 | _ => 0
theorem zN : ∀ f : F, third (strip f) = third f
 | .nil => rfl
 | .cons _ _ .nil => rfl
 | .cons _ _ (.cons _ _ .nil) => rfl
 | .cons _ _ (.cons _ _ (.cons _ _ _)) => rfl
theorem awk_A : (match flatP (sg (strOf 20 (at_ pA))) 20 0 with
 | some (.cons x k .nil) => decide ((qH (x, k)).1.1 = 0) && decide ((qH (x, k)).2.2.1 = 4) && decide ((qH (x, k)).2.1.2.len = 3) && decide (third (qH (x, k)).2.1.2 = 4)
 | _ => false) = true := by decide +kernel
theorem awk_B : (match flatP (sg (strOf 14 (at_ pB))) 14 0 with
 | some (.cons x k .nil) => decide ((qH (x, k)).1 = (33, 7))
 | _ => false) = true := by decide +kernel
theorem awk_a {y : Lab} {j : F} (h : flatP (sg (strOf 20 (at_ pA))) 20 0 = some (strip (F.one y j))) : (qH (y, j)).1.1 = 0 ∧ (qH (y, j)).2.2.1 = 4 ∧ (qH (y, j)).2.1.2.len = 3 ∧ third (qH (y, j)).2.1.2 = 4 := by have h1 := awk_A;rw [h] at h1;have hs := numN_strip y j (0, []);unfold qH at h1 ⊢;simp only [F.one, strip, hs, Bool.and_eq_true, decide_eq_true_eq] at h1;rw [rpw.jm, zN] at h1;exact ⟨h1.1.1.1, h1.1.1.2, h1.1.2, h1.2⟩
theorem awk_b {y : Lab} {j : F} (h : flatP (sg (strOf 14 (at_ pB))) 14 0 = some (strip (F.one y j))) : (qH (y, j)).1 = (33, 7) := by have h1 := awk_B;rw [h] at h1;have hs := numN_strip y j (0, []);unfold qH at h1 ⊢;simp only [F.one, strip, hs, decide_eq_true_eq] at h1;exact h1
theorem some_A : ∃ t, flatP (sg (strOf 20 (at_ pA))) 20 0 = some t := by
 have h := awk_A;cases e : flatP (sg (strOf 20 (at_ pA))) 20 0 with
 | none => rw [e] at h; cases h
 | some t => exact ⟨t, rfl⟩
theorem some_B : ∃ t, flatP (sg (strOf 14 (at_ pB))) 14 0 = some t := by
 have h := awk_B;cases e : flatP (sg (strOf 14 (at_ pB))) 14 0 with
 | none => rw [e] at h; cases h
 | some t => exact ⟨t, rfl⟩
theorem flat_lit (w : World) (l : List Int) (hl : ∀ x ∈ l, 0 ≤ x ∧ x ≤ 255) (hn : l.length ≤ 140737488355328) (o : Int) : Calls Try.prog 13 #[.slice (some ⟨w.heap.size, 0, none⟩) l.length l.length, .int .i64 o] (w.alloc (.cells (l.map (Value.int .u8)).toArray 5 (l.length, l.length + 1)))
 fun e w' => ∃ R, flatP (sg (strOf l.length (at_ l))) l.length o = R ∧ FlatB R w e w' := by
 refine (zH _ l.length (at_ l) o _ (sl_lit w 5 _ l hl hn)).mono ?_;intro e w' h;exact ⟨_, rfl, trw.qi (trw.qg w _) h.1, h.2⟩
theorem kids_row {w : World} {x : Lab} {k : F} {lo hi : Nat} (h : NdI w x k lo hi) : ∃ B, x.kv = .slice (some ⟨B, 0, none⟩) k.len k.len ∧ ∀ j u, (fC k)[j]? = some u → w.cell? ⟨B, j, none⟩ = some u := by obtain ⟨_, a, B, _, _, _, _, h6, h7, _⟩ := h;exact ⟨B, h6, fun j u hj => by unfold World.cell?; rw [h7]; simpa using hj⟩
theorem third_at : ∀ {f : F}, f.len = 3 → (fC f)[29]? = some (.int .i64 (third f))
 | .nil, h => by cases h
 | .cons _ _ .nil, h => by cases h
 | .cons _ _ (.cons _ _ .nil), h => by cases h
 | .cons _ _ (.cons _ _ (.cons _ _ _)), _ => rfl
theorem strip_third {f g : F} (h : strip f = strip g) : f.len = g.len ∧ third f = third g := by have h1 := congrArg F.len h;have h2 := congrArg third h;rw [rpw.jm, rpw.jm] at h1;rw [zN, zN] at h2;exact ⟨h1, h2⟩
structure Sto (w w2 : World) (y : Lab) : Prop where
 b : Below w.heap.size w w2
 c : ∀ j u, (ndC y)[j]? = some u → w2.cell? ⟨w.heap.size, 0 + j, none⟩ = some u
 z : w2.heap.size = w.heap.size + 1
theorem zO (w : World) (y : Lab) : Sto w ((w.alloc (.cells zC.toArray 27)).setRow w.heap.size (ndC y).toArray) y :=
 ⟨rpw.qC (trw.qg w _) _ (xL _), fun j u hj => by rw [Nat.zero_add];unfold World.cell?;rw [setRow_heap _ _ _ (ndC y).toArray _ _ (heap_alloc_new w (.cells zC.toArray 27))];simpa using hj, by rw [tkw.setRow_size, World.size_alloc]⟩
theorem awake_any (w : World) : Calls Try.prog 12 #[] w (BoolB true w) := by
 have L1 := xH (flat_lit w pA (by decide) (by decide) 0);have L2 := xH (fun w1 => flat_lit w1 pB (by decide) (by decide) 0);unfold pA at L1;unfold pB at L2;have kc := fun (w : World) (C : Array Value) (n c : Nat) => Lib.run_convert_bytes_const (P := Try.prog) w 22 5 C n c Try.underlying22 Try.underlying5
 go_enter Try.func12, Try.ntmps12;go_wp2_with fail
 refine L1.out.mono ?_;rintro e w1 ⟨R, hR, hb1, hf⟩;have hR2 : flatP (sg (strOf 20 (at_ pA))) 20 0 = R := hR;obtain ⟨t, ht⟩ := some_A;rw [ht] at hR2;subst hR2;obtain ⟨y, j, rfl, hn, hs⟩ := hf;have hA := awk_a (y := y) (j := j) (by rw [ht, hs]);have HN1 := xH (zV ht hs);have HB1 := xH hb1;have HND := xH hn;have HA := xH hA;have HO := xH (qp hn);have HG := xH (heap_alloc_new w1 (.cells zC.toArray 27));have HS := xH (zO w1 y);unfold zC at HG HS;clear hR hb1 hn hA ht hs L1;go_upto_region 2 with (refine qh rfl rfl _ _ rfl w1.heap.size rfl _ y HG.out rfl HO.out rfl ?_)
 generalize (w1.alloc _).setRow _ _ = w2 at *;have HND2 := xH (trw.vO HS.out.b HND.out);go_wp2_with (first
  | (refine jv rfl _ rfl w1.heap.size 0 rfl y HS.out.c ?_)
  | (refine (HN1.out w2 HND2.out).mono ?_))
 rintro e w3 ⟨hb3, ⟨h0, _⟩ | ⟨h0, y3, j3, v3, rfl, hn3, hs3, hr3, hz3⟩⟩
 ·exact absurd HA.out.1 h0
 rw [HA.out.2.1];have hk := strip_third (f := j3) (g := (qH (y, j)).2.1.2) (by
  have := hs3;simp only [F.one, strip, F.cons.injEq, and_true] at this;exact this.2)
 rw [HA.out.2.2.1, HA.out.2.2.2] at hk;obtain ⟨B3, hkv3, hc3⟩ := kids_row hn3;have HK3 := xH (show y3.kv = .slice (some ⟨B3, 0, none⟩) 3 3 by rw [hkv3, hk.1]);have HC3 := xH (hc3 29 _ (third_at hk.1));have HT3 := xH hk.2;have HB3 := xH (trw.qi (trw.qi HB1.out HS.out.b) hb3);have HO3 := xH (qp (ndI_at hn3));have HG3 := xH (heap_alloc_new w3 (.cells zC.toArray 27));have HS3 := xH (zO w3 y3);obtain ⟨sa, sc, rfl⟩ := row_slice hr3;generalize (qH (y, j)).2.2.2.length = nl at *;unfold zC at HG3 HS3;clear hb3 h0 hn3 hs3 hr3 hz3 hk hkv3 hc3 HN1 HND HND2 HS HO HG HB1;dsimp only;go_upto_region 3 with (refine qh rfl rfl _ _ rfl w3.heap.size rfl _ y3 HG3.out rfl HO3.out rfl ?_)
 have k11 := HS3.out.c 11 _ rfl;simp only [Nat.zero_add] at k11;rw [HK3.out] at k11;have k29 := trw.qf HS3.out.b HC3.out;rw [HT3.out] at k29;have HB4 := xH (trw.qi HB3.out HS3.out.b);clear HK3 HC3 HT3 HB3 HO3 HG3 HS3;generalize (w3.alloc _).setRow _ _ = w4 at *;generalize hW3 : w3.heap.size = W3 at *;have K11 := xH k11;have K29 := xH k29;clear k11 k29 hW3;go_wp2_with fail
 refine (L2.out w4).mono ?_;rintro e w5 ⟨R, hR, hb5, hf⟩;have hR2 : flatP (sg (strOf 14 (at_ pB))) 14 0 = R := hR;obtain ⟨t, ht⟩ := some_B;rw [ht] at hR2;subst hR2;obtain ⟨y5, j5, rfl, hn, hs⟩ := hf;have HE := xH (awk_b (y := y5) (j := j5) (by rw [ht, hs]));have HN5 := xH (zV ht hs);have HO := xH (qp hn);have HG := xH (heap_alloc_new w5 (.cells zC.toArray 27));have HS := xH (zO w5 y5);have HND := xH hn;have HB5 := xH (trw.qi HB4.out hb5);have K11 := xH (trw.qf hb5 K11.out);have K29 := xH (trw.qf hb5 K29.out);unfold zC at HG HS;clear hR hb5 hn ht hs L2 HB4;dsimp only;go_upto_region 4 with (refine qh rfl rfl _ _ rfl w5.heap.size rfl _ y5 HG.out rfl HO.out rfl ?_)
 generalize (w5.alloc _).setRow _ _ = w6 at *;have HND2 := xH (trw.vO HS.out.b HND.out);have HB6 := xH (trw.qi HB5.out HS.out.b);have K11 := xH (trw.qf HS.out.b K11.out);have K29 := xH (trw.qf HS.out.b K29.out);go_wp2_with (first
  | (refine jv rfl _ rfl w5.heap.size 0 rfl y5 HS.out.c ?_)
  | (refine (HN5.out w6 HND2.out).mono ?_))
 rintro e w7 ⟨hb7, ⟨h0, rfl⟩ | ⟨h0, _⟩⟩;case inr => exact absurd (show (qH (y5, j5)).1.1 = 33 by rw [HE.out]) (by rw [h0]; decide)
 rw [HE.out];have HG7 := xH (heap_alloc_new w7 (.cells zC.toArray 27));have HS7 := xH (zO w7 (lab 0 0));have HO7 : Hid (∀ u ∈ ndC (lab 0 0), u.oneCell' = true) := xH (fun u hu => by simp only [ndC, lab, nil3, List.mem_cons, List.not_mem_nil, or_false] at hu;rcases hu with rfl | rfl | rfl | rfl | rfl | rfl | rfl | rfl | rfl | rfl | rfl | rfl <;> rfl)
 have HB7 := xH (trw.qi HB6.out hb7);have K11 := xH (trw.qf hb7 K11.out);have K29 := xH (trw.qf hb7 K29.out);unfold zC at HG7 HS7;clear hb7 h0 HE HN5 HO HG HS HND HND2 HB5 HB6;dsimp only;go_upto_region 5 with (refine qh rfl rfl _ _ rfl w7.heap.size rfl _ (lab 0 0) HG7.out rfl HO7.out rfl ?_)
 have HB8 := xH (trw.qi HB7.out HS7.out.b);have k11 := trw.qf HS7.out.b K11.out;have k29 := trw.qf HS7.out.b K29.out;clear K11 K29 HB7 HS7 HG7 HO7;generalize (w7.alloc _).setRow _ _ = w8 at *;go_wp2_with fail
 go_ret
 exact ⟨rfl, HB8.out⟩
end gpw
end
section
namespace trw
open sq
open Go.Sort Go Go.RowKit trp
def eqRs : List (Int × Int) → List (Int × Int) → Bool
 | [], [] => true
 | a :: l, b :: m => decide (a = b) && eqRs l m
 | _, _ => false
theorem eqRs_eq : ∀ l m, eqRs l m = decide (l = m)
 | [], [] => rfl
 | [], _ :: _ => by simp [eqRs]
 | _ :: _, [] => by simp [eqRs]
 | a :: l, b :: m => by simp [eqRs, eqRs_eq l m]
theorem eqRs_drop {l m : List (Int × Int)} {i : Nat} {a b : Int × Int} (ha : l[i]? = some a) (hb : m[i]? = some b) : eqRs (l.drop i) (m.drop i) = (decide (a = b) && eqRs (l.drop (i + 1)) (m.drop (i + 1))) := by obtain ⟨h1, rfl⟩ := List.getElem?_eq_some_iff.1 ha;obtain ⟨h2, rfl⟩ := List.getElem?_eq_some_iff.1 hb;rw [List.drop_eq_getElem_cons h1, List.drop_eq_getElem_cons h2, eqRs]
end trw
end
section
namespace trw
open sq
open Go Go.RowKit trp
theorem bytes_list {a b : ByteArray} (h : a.toList = b.toList) : a = b := by rw [ByteArray.toList_eq, ByteArray.toList_eq] at h;exact WideShapes.bytes_inj h
theorem ndPair {w W : World} {xk xa xc xn xm xmode xon xoff yk ya yc yn ym ymode yon yoff : Int} {xs xv ys yv : Value} {xset yset : List (Int × Int)} {xneg yneg : Bool} {xname yname : ByteArray}
 (h : Below w.heap.size w W ∧ W.heap[w.heap.size]? = some (.cells (ndC ⟨xk, xa, xc, xs, xset, xneg, xn, xm, xmode, xname, xon, xoff, xv⟩).toArray 27) ∧ W.heap[w.heap.size + 1]? = some (.cells (ndC ⟨yk, ya, yc, ys, yset, yneg, yn, ym, ymode, yname, yon, yoff, yv⟩).toArray 27)) :
 ∃ B0 B1, w.heap.size = B0 ∧ w.heap.size + 1 = B1 ∧ Hid (Below w.heap.size w W) ∧ Hid (∀ w1, Below W.heap.size W w1 → ∀ (j : Nat) v, (ndC ⟨xk, xa, xc, xs, xset, xneg, xn, xm, xmode, xname, xon, xoff, xv⟩)[j]? = some v → w1.cell? ⟨B0, j, none⟩ = some v) ∧ Hid (∀ w1, Below W.heap.size W w1 → ∀ (j : Nat) v, (ndC ⟨yk, ya, yc, ys, yset, yneg, yn, ym, ymode, yname, yon, yoff, yv⟩)[j]? = some v → w1.cell? ⟨B1, j, none⟩ = some v) ∧ W.cell? ⟨B0, 0, none⟩ = some (.int .i64 xk) ∧ W.cell? ⟨B0, 1, none⟩ = some (.int .i64 xa) ∧ W.cell? ⟨B0, 2, none⟩ = some (.int .i64 xc) ∧ W.cell? ⟨B0, 3, none⟩ = some (xs) ∧ W.cell? ⟨B0, 4, none⟩ = some (.bool xneg) ∧ W.cell? ⟨B0, 5, none⟩ = some (.int .i64 xn) ∧ W.cell? ⟨B0, 6, none⟩ = some (.int .i64 xm) ∧ W.cell? ⟨B0, 7, none⟩ = some (.int .i64 xmode) ∧ W.cell? ⟨B0, 8, none⟩ = some (.string xname) ∧ W.cell? ⟨B0, 9, none⟩ = some (.int .i64 xon) ∧ W.cell? ⟨B0, 10, none⟩ = some (.int .i64 xoff) ∧ W.cell? ⟨B0, 11, none⟩ = some (xv) ∧ W.cell? ⟨B1, 0, none⟩ = some (.int .i64 yk) ∧ W.cell? ⟨B1, 1, none⟩ = some (.int .i64 ya) ∧ W.cell? ⟨B1, 2, none⟩ = some (.int .i64 yc) ∧ W.cell? ⟨B1, 3, none⟩ = some (ys) ∧ W.cell? ⟨B1, 4, none⟩ = some (.bool yneg) ∧ W.cell? ⟨B1, 5, none⟩ = some (.int .i64 yn) ∧ W.cell? ⟨B1, 6, none⟩ = some (.int .i64 ym) ∧ W.cell? ⟨B1, 7, none⟩ = some (.int .i64 ymode) ∧ W.cell? ⟨B1, 8, none⟩ = some (.string yname) ∧ W.cell? ⟨B1, 9, none⟩ = some (.int .i64 yon) ∧ W.cell? ⟨B1, 10, none⟩ = some (.int .i64 yoff) ∧ W.cell? ⟨B1, 11, none⟩ = some (yv) := by
 obtain ⟨hb, hr, hs⟩ := h;have r0 := fun w1 (hb : Below W.heap.size W w1) => cells12 (x := ⟨xk, xa, xc, xs, xset, xneg, xn, xm, xmode, xname, xon, xoff, xv⟩) ((hb.block _ (Array.getElem?_eq_some_iff.1 hr).1).trans hr)
 have r1 := fun w1 (hb : Below W.heap.size W w1) => cells12 (x := ⟨yk, ya, yc, ys, yset, yneg, yn, ym, ymode, yname, yon, yoff, yv⟩) ((hb.block _ (Array.getElem?_eq_some_iff.1 hs).1).trans hs)
 have f := r0 W (Below.refl _ _);have g := r1 W (Below.refl _ _);exact ⟨_, _, rfl, rfl, xH hb, xH r0, xH r1, f 0 _ rfl, f 1 _ rfl, f 2 _ rfl, f 3 _ rfl, f 4 _ rfl, f 5 _ rfl, f 6 _ rfl, f 7 _ rfl, f 8 _ rfl, f 9 _ rfl, f 10 _ rfl, f 11 _ rfl, g 0 _ rfl, g 1 _ rfl, g 2 _ rfl, g 3 _ rfl, g 4 _ rfl, g 5 _ rfl, g 6 _ rfl, g 7 _ rfl, g 8 _ rfl, g 9 _ rfl, g 10 _ rfl, g 11 _ rfl⟩
theorem bE {P : Program} {f : FuncId} {vs : Array Value} {b : Bool} {w : World} (b' : Bool) (h : b = b') (hc : Calls P f vs w (BoolB b' w)) : Calls P f vs w (BoolB b w) := h ▸ hc
theorem rsame_any : ∀ (n : Nat) (a b : Nd) (w : World), a.2.size < n → NdAt w a → NdAt w b → Calls Try.prog 16 #[ndV a.1, ndV b.1] w (BoolB (sameT a b) w) := by
 intro n
 induction n with
 | zero => intro a b w hn; omega
 | succ n ih =>
  intro a b w hn ha hb;have IH := xH ih;clear ih;obtain ⟨sa, sc, hsv, _⟩ := ha.2.1;obtain ⟨ka, kc, hkv, _⟩ := ha.2.2;obtain ⟨ta, tc, htv, _⟩ := hb.2.1;obtain ⟨la, lc, hlv, _⟩ := hb.2.2;have HS := xH ha.2.1;have HT := xH hb.2.1;have HK := xH ha.2.2;have HM := xH hb.2.2;clear ha hb;obtain ⟨x, k⟩ := a;obtain ⟨y, k2⟩ := b;obtain ⟨xk, xa, xc, xs, xset, xneg, xn, xm, xmode, xname, xon, xoff, xkv⟩ := x;obtain ⟨yk, ya, yc, ys, yset, yneg, yn, ym, ymode, yname, yon, yoff, ykv⟩ := y;simp only at hsv hkv htv hlv hn;subst hsv hkv htv hlv;simp only at HS HT HK HM;have HH := xH (show Below w.heap.size w ((w.alloc (.cells (ndC (⟨xk, xa, xc, .slice sa xset.length sc, xset, xneg, xn, xm, xmode, xname, xon, xoff, .slice ka k.len kc⟩ : Lab)).toArray 27)).alloc (.cells (ndC (⟨yk, ya, yc, .slice ta yset.length tc, yset, yneg, yn, ym, ymode, yname, yon, yoff, .slice la k2.len lc⟩ : Lab)).toArray 27)) ∧ ((w.alloc (.cells (ndC (⟨xk, xa, xc, .slice sa xset.length sc, xset, xneg, xn, xm, xmode, xname, xon, xoff, .slice ka k.len kc⟩ : Lab)).toArray 27)).alloc (.cells (ndC (⟨yk, ya, yc, .slice ta yset.length tc, yset, yneg, yn, ym, ymode, yname, yon, yoff, .slice la k2.len lc⟩ : Lab)).toArray 27)).heap[w.heap.size]? = some (.cells (ndC (⟨xk, xa, xc, .slice sa xset.length sc, xset, xneg, xn, xm, xmode, xname, xon, xoff, .slice ka k.len kc⟩ : Lab)).toArray 27) ∧ ((w.alloc (.cells (ndC (⟨xk, xa, xc, .slice sa xset.length sc, xset, xneg, xn, xm, xmode, xname, xon, xoff, .slice ka k.len kc⟩ : Lab)).toArray 27)).alloc (.cells (ndC (⟨yk, ya, yc, .slice ta yset.length tc, yset, yneg, yn, ym, ymode, yname, yon, yoff, .slice la k2.len lc⟩ : Lab)).toArray 27)).heap[w.heap.size + 1]? = some (.cells (ndC (⟨yk, ya, yc, .slice ta yset.length tc, yset, yneg, yn, ym, ymode, yname, yon, yoff, .slice la k2.len lc⟩ : Lab)).toArray 27) from
   ⟨(qg w _).alloc (by simp) _, by rw [heap_alloc_old _ _ (by simp)]; exact heap_alloc_new _ _, by have := heap_alloc_new (w.alloc (.cells (ndC (⟨xk, xa, xc, .slice sa xset.length sc, xset, xneg, xn, xm, xmode, xname, xon, xoff, .slice ka k.len kc⟩ : Lab)).toArray 27)) (.cells (ndC (⟨yk, ya, yc, .slice ta yset.length tc, yset, yneg, yn, ym, ymode, yname, yon, yoff, .slice la k2.len lc⟩ : Lab)).toArray 27); simpa using this⟩)
  simp only [ndC] at HH;by_cases h_kind : xk = yk;rotate_left
  ·refine bE false (by simp [sameT, labEq, h_kind]) ?_;clear HS HT HK HM IH;have Q_kind := xH h_kind;clear h_kind;unfold ndV;go_enter Try.func16, Try.ntmps16;go_upto_region 1 with (fail)
   generalize hg : (w.alloc _).alloc _ = W;have hh := HH.out;rw [hg] at hh;obtain ⟨B0, B1, hB0, hB1, HB, R0, R1, f0, f1, f2, f3, f4, f5, f6, f7, f8, f9, f10, f11, g0, g1, g2, g3, g4, g5, g6, g7, g8, g9, g10, g11⟩ := ndPair (xset := xset) (yset := yset) hh;clear hg hh HH;rw [hB1, hB0];have h_kind := Q_kind.out;clear Q_kind;have e_kind : (xk == yk) = false := by simpa using h_kind
   go_wp2_with fail
   go_ret
   exact ⟨rfl, HB.out⟩
  by_cases h_c : xc = yc;rotate_left
  ·refine bE false (by simp [sameT, labEq, h_c]) ?_;clear HS HT HK HM IH;have Q_kind := xH h_kind;have Q_c := xH h_c;clear h_kind h_c;unfold ndV;go_enter Try.func16, Try.ntmps16;go_upto_region 1 with (fail)
   generalize hg : (w.alloc _).alloc _ = W;have hh := HH.out;rw [hg] at hh;obtain ⟨B0, B1, hB0, hB1, HB, R0, R1, f0, f1, f2, f3, f4, f5, f6, f7, f8, f9, f10, f11, g0, g1, g2, g3, g4, g5, g6, g7, g8, g9, g10, g11⟩ := ndPair (xset := xset) (yset := yset) hh;clear hg hh HH;rw [hB1, hB0];have h_kind := Q_kind.out;have h_c := Q_c.out;clear Q_kind Q_c;have e_c : (xc == yc) = false := by simpa using h_c
   go_wp2_with fail
   go_ret
   exact ⟨rfl, HB.out⟩
  by_cases h_neg : xneg = yneg;rotate_left
  ·refine bE false (by simp [sameT, labEq, h_neg]) ?_;clear HS HT HK HM IH;have Q_kind := xH h_kind;have Q_c := xH h_c;have Q_neg := xH h_neg;clear h_kind h_c h_neg;unfold ndV;go_enter Try.func16, Try.ntmps16;go_upto_region 1 with (fail)
   generalize hg : (w.alloc _).alloc _ = W;have hh := HH.out;rw [hg] at hh;obtain ⟨B0, B1, hB0, hB1, HB, R0, R1, f0, f1, f2, f3, f4, f5, f6, f7, f8, f9, f10, f11, g0, g1, g2, g3, g4, g5, g6, g7, g8, g9, g10, g11⟩ := ndPair (xset := xset) (yset := yset) hh;clear hg hh HH;rw [hB1, hB0];have h_kind := Q_kind.out;have h_c := Q_c.out;have h_neg := Q_neg.out;clear Q_kind Q_c Q_neg;have i_neg : (xneg != yneg) = true := by simpa using h_neg
   have e_neg : (xneg == yneg) = false := by simpa using h_neg
   go_wp2_with fail
   go_ret
   exact ⟨rfl, HB.out⟩
  by_cases h_n : xn = yn;rotate_left
  ·refine bE false (by simp [sameT, labEq, h_n]) ?_;clear HS HT HK HM IH;have Q_kind := xH h_kind;have Q_c := xH h_c;have Q_neg := xH h_neg;have Q_n := xH h_n;clear h_kind h_c h_neg h_n;unfold ndV;go_enter Try.func16, Try.ntmps16;go_upto_region 1 with (fail)
   generalize hg : (w.alloc _).alloc _ = W;have hh := HH.out;rw [hg] at hh;obtain ⟨B0, B1, hB0, hB1, HB, R0, R1, f0, f1, f2, f3, f4, f5, f6, f7, f8, f9, f10, f11, g0, g1, g2, g3, g4, g5, g6, g7, g8, g9, g10, g11⟩ := ndPair (xset := xset) (yset := yset) hh;clear hg hh HH;rw [hB1, hB0];have h_kind := Q_kind.out;have h_c := Q_c.out;have h_neg := Q_neg.out;have h_n := Q_n.out;clear Q_kind Q_c Q_neg Q_n;have e_n : (xn == yn) = false := by simpa using h_n
   go_wp2_with fail
   go_ret
   exact ⟨rfl, HB.out⟩
  by_cases h_m : xm = ym;rotate_left
  ·refine bE false (by simp [sameT, labEq, h_m]) ?_;clear HS HT HK HM IH;have Q_kind := xH h_kind;have Q_c := xH h_c;have Q_neg := xH h_neg;have Q_n := xH h_n;have Q_m := xH h_m;clear h_kind h_c h_neg h_n h_m;unfold ndV;go_enter Try.func16, Try.ntmps16;go_upto_region 1 with (fail)
   generalize hg : (w.alloc _).alloc _ = W;have hh := HH.out;rw [hg] at hh;obtain ⟨B0, B1, hB0, hB1, HB, R0, R1, f0, f1, f2, f3, f4, f5, f6, f7, f8, f9, f10, f11, g0, g1, g2, g3, g4, g5, g6, g7, g8, g9, g10, g11⟩ := ndPair (xset := xset) (yset := yset) hh;clear hg hh HH;rw [hB1, hB0];have h_kind := Q_kind.out;have h_c := Q_c.out;have h_neg := Q_neg.out;have h_n := Q_n.out;have h_m := Q_m.out;clear Q_kind Q_c Q_neg Q_n Q_m;have e_m : (xm == ym) = false := by simpa using h_m
   go_wp2_with fail
   go_ret
   exact ⟨rfl, HB.out⟩
  by_cases h_mode : xmode = ymode;rotate_left
  ·refine bE false (by simp [sameT, labEq, h_mode]) ?_;clear HS HT HK HM IH;have Q_kind := xH h_kind;have Q_c := xH h_c;have Q_neg := xH h_neg;have Q_n := xH h_n;have Q_m := xH h_m;have Q_mode := xH h_mode;clear h_kind h_c h_neg h_n h_m h_mode;unfold ndV;go_enter Try.func16, Try.ntmps16;go_upto_region 1 with (fail)
   generalize hg : (w.alloc _).alloc _ = W;have hh := HH.out;rw [hg] at hh;obtain ⟨B0, B1, hB0, hB1, HB, R0, R1, f0, f1, f2, f3, f4, f5, f6, f7, f8, f9, f10, f11, g0, g1, g2, g3, g4, g5, g6, g7, g8, g9, g10, g11⟩ := ndPair (xset := xset) (yset := yset) hh;clear hg hh HH;rw [hB1, hB0];have h_kind := Q_kind.out;have h_c := Q_c.out;have h_neg := Q_neg.out;have h_n := Q_n.out;have h_m := Q_m.out;have h_mode := Q_mode.out;clear Q_kind Q_c Q_neg Q_n Q_m Q_mode;have e_mode : (xmode == ymode) = false := by simpa using h_mode
   go_wp2_with fail
   go_ret
   exact ⟨rfl, HB.out⟩
  by_cases h_name : xname = yname;rotate_left
  ·refine bE false (by simp [sameT, labEq, h_name]) ?_;clear HS HT HK HM IH;have Q_kind := xH h_kind;have Q_c := xH h_c;have Q_neg := xH h_neg;have Q_n := xH h_n;have Q_m := xH h_m;have Q_mode := xH h_mode;have Q_name := xH h_name;clear h_kind h_c h_neg h_n h_m h_mode h_name;unfold ndV;go_enter Try.func16, Try.ntmps16;go_upto_region 1 with (fail)
   generalize hg : (w.alloc _).alloc _ = W;have hh := HH.out;rw [hg] at hh;obtain ⟨B0, B1, hB0, hB1, HB, R0, R1, f0, f1, f2, f3, f4, f5, f6, f7, f8, f9, f10, f11, g0, g1, g2, g3, g4, g5, g6, g7, g8, g9, g10, g11⟩ := ndPair (xset := xset) (yset := yset) hh;clear hg hh HH;rw [hB1, hB0];have h_kind := Q_kind.out;have h_c := Q_c.out;have h_neg := Q_neg.out;have h_n := Q_n.out;have h_m := Q_m.out;have h_mode := Q_mode.out;have h_name := Q_name.out;clear Q_kind Q_c Q_neg Q_n Q_m Q_mode Q_name;have i_name : ¬ xname.toList = yname.toList := fun e => h_name (bytes_list e)
   have e_name3 : (xname.toList == yname.toList) = false := by simpa using fun e => h_name (bytes_list e)
   go_wp2_with fail
   go_ret
   exact ⟨rfl, HB.out⟩
  by_cases h_on : xon = yon;rotate_left
  ·refine bE false (by simp [sameT, labEq, h_on]) ?_;clear HS HT HK HM IH;have Q_kind := xH h_kind;have Q_c := xH h_c;have Q_neg := xH h_neg;have Q_n := xH h_n;have Q_m := xH h_m;have Q_mode := xH h_mode;have Q_name := xH h_name;have Q_on := xH h_on;clear h_kind h_c h_neg h_n h_m h_mode h_name h_on;unfold ndV;go_enter Try.func16, Try.ntmps16;go_upto_region 1 with (fail)
   generalize hg : (w.alloc _).alloc _ = W;have hh := HH.out;rw [hg] at hh;obtain ⟨B0, B1, hB0, hB1, HB, R0, R1, f0, f1, f2, f3, f4, f5, f6, f7, f8, f9, f10, f11, g0, g1, g2, g3, g4, g5, g6, g7, g8, g9, g10, g11⟩ := ndPair (xset := xset) (yset := yset) hh;clear hg hh HH;rw [hB1, hB0];have h_kind := Q_kind.out;have h_c := Q_c.out;have h_neg := Q_neg.out;have h_n := Q_n.out;have h_m := Q_m.out;have h_mode := Q_mode.out;have h_name := Q_name.out;have h_on := Q_on.out;clear Q_kind Q_c Q_neg Q_n Q_m Q_mode Q_name Q_on;have e_on : (xon == yon) = false := by simpa using h_on
   go_wp2_with fail
   go_ret
   exact ⟨rfl, HB.out⟩
  by_cases h_off : xoff = yoff;rotate_left
  ·refine bE false (by simp [sameT, labEq, h_off]) ?_;clear HS HT HK HM IH;have Q_kind := xH h_kind;have Q_c := xH h_c;have Q_neg := xH h_neg;have Q_n := xH h_n;have Q_m := xH h_m;have Q_mode := xH h_mode;have Q_name := xH h_name;have Q_on := xH h_on;have Q_off := xH h_off;clear h_kind h_c h_neg h_n h_m h_mode h_name h_on h_off;unfold ndV;go_enter Try.func16, Try.ntmps16;go_upto_region 1 with (fail)
   generalize hg : (w.alloc _).alloc _ = W;have hh := HH.out;rw [hg] at hh;obtain ⟨B0, B1, hB0, hB1, HB, R0, R1, f0, f1, f2, f3, f4, f5, f6, f7, f8, f9, f10, f11, g0, g1, g2, g3, g4, g5, g6, g7, g8, g9, g10, g11⟩ := ndPair (xset := xset) (yset := yset) hh;clear hg hh HH;rw [hB1, hB0];have h_kind := Q_kind.out;have h_c := Q_c.out;have h_neg := Q_neg.out;have h_n := Q_n.out;have h_m := Q_m.out;have h_mode := Q_mode.out;have h_name := Q_name.out;have h_on := Q_on.out;have h_off := Q_off.out;clear Q_kind Q_c Q_neg Q_n Q_m Q_mode Q_name Q_on Q_off;have e_off : (xoff == yoff) = false := by simpa using h_off
   go_wp2_with fail
   go_ret
   exact ⟨rfl, HB.out⟩
  by_cases h_lset : xset.length = yset.length;rotate_left
  ·refine bE false (by simp only [sameT, labEq]; rw [show decide (xset = yset) = false from decide_eq_false (fun e => h_lset (by rw [e]))]; simp) ?_;clear HS HT HK HM IH;have Q_kind := xH h_kind;have Q_c := xH h_c;have Q_neg := xH h_neg;have Q_n := xH h_n;have Q_m := xH h_m;have Q_mode := xH h_mode;have Q_name := xH h_name;have Q_on := xH h_on;have Q_off := xH h_off;have Q_lset := xH h_lset;clear h_kind h_c h_neg h_n h_m h_mode h_name h_on h_off h_lset;unfold ndV;go_enter Try.func16, Try.ntmps16;go_upto_region 1 with (fail)
   generalize hg : (w.alloc _).alloc _ = W;have hh := HH.out;rw [hg] at hh;obtain ⟨B0, B1, hB0, hB1, HB, R0, R1, f0, f1, f2, f3, f4, f5, f6, f7, f8, f9, f10, f11, g0, g1, g2, g3, g4, g5, g6, g7, g8, g9, g10, g11⟩ := ndPair (xset := xset) (yset := yset) hh;clear hg hh HH;rw [hB1, hB0];have h_kind := Q_kind.out;have h_c := Q_c.out;have h_neg := Q_neg.out;have h_n := Q_n.out;have h_m := Q_m.out;have h_mode := Q_mode.out;have h_name := Q_name.out;have h_on := Q_on.out;have h_off := Q_off.out;have h_lset := Q_lset.out;clear Q_kind Q_c Q_neg Q_n Q_m Q_mode Q_name Q_on Q_off Q_lset;have i_lset : ¬ (xset.length : Int) = (yset.length : Int) := by omega
   have e_lset : ((xset.length : Int) == (yset.length : Int)) = false := by simp; omega
   go_wp2_with fail
   go_ret
   exact ⟨rfl, HB.out⟩
  by_cases h_kids : k.len = k2.len;rotate_left
  ·refine bE false (by simp [sameT, labEq, h_kids]) ?_;clear HS HT HK HM IH;have Q_kind := xH h_kind;have Q_c := xH h_c;have Q_neg := xH h_neg;have Q_n := xH h_n;have Q_m := xH h_m;have Q_mode := xH h_mode;have Q_name := xH h_name;have Q_on := xH h_on;have Q_off := xH h_off;have Q_lset := xH h_lset;have Q_kids := xH h_kids;clear h_kind h_c h_neg h_n h_m h_mode h_name h_on h_off h_lset h_kids;unfold ndV;go_enter Try.func16, Try.ntmps16;go_upto_region 1 with (fail)
   generalize hg : (w.alloc _).alloc _ = W;have hh := HH.out;rw [hg] at hh;obtain ⟨B0, B1, hB0, hB1, HB, R0, R1, f0, f1, f2, f3, f4, f5, f6, f7, f8, f9, f10, f11, g0, g1, g2, g3, g4, g5, g6, g7, g8, g9, g10, g11⟩ := ndPair (xset := xset) (yset := yset) hh;clear hg hh HH;rw [hB1, hB0];have h_kind := Q_kind.out;have h_c := Q_c.out;have h_neg := Q_neg.out;have h_n := Q_n.out;have h_m := Q_m.out;have h_mode := Q_mode.out;have h_name := Q_name.out;have h_on := Q_on.out;have h_off := Q_off.out;have h_lset := Q_lset.out;have h_kids := Q_kids.out;clear Q_kind Q_c Q_neg Q_n Q_m Q_mode Q_name Q_on Q_off Q_lset Q_kids;have i_kids : ¬ (k.len : Int) = (k2.len : Int) := by omega
   have e_kids : ((k.len : Int) == (k2.len : Int)) = false := by simp; omega
   go_wp2_with fail
   go_ret
   exact ⟨rfl, HB.out⟩
  obtain ⟨R, hR⟩ : ∃ R, (eqRs xset yset && sameF k k2) = R := ⟨_, rfl⟩;have HR := xH (show sameT ((⟨xk, xa, xc, .slice sa xset.length sc, xset, xneg, xn, xm, xmode, xname, xon, xoff, .slice ka k.len kc⟩ : Lab), k) ((⟨yk, ya, yc, .slice ta yset.length tc, yset, yneg, yn, ym, ymode, yname, yon, yoff, .slice la k2.len lc⟩ : Lab), k2) = R by simp only [sameT, labEq, h_kind, h_c, h_neg, h_n, h_m, h_mode, h_name, h_on, h_off]; rw [← hR, eqRs_eq]; simp [h_kids]);rw [HR.out];have H0 := xH hR;have hlS := xH h_lset;have hlK := xH h_kids;clear hR HR;have Q_kind := xH h_kind;have Q_c := xH h_c;have Q_neg := xH h_neg;have Q_n := xH h_n;have Q_m := xH h_m;have Q_mode := xH h_mode;have Q_name := xH h_name;have Q_on := xH h_on;have Q_off := xH h_off;have Q_lset := xH h_lset;have Q_kids := xH h_kids;clear h_kind h_c h_neg h_n h_m h_mode h_name h_on h_off h_lset h_kids;unfold ndV;go_enter Try.func16, Try.ntmps16;go_upto_region 1 with (fail)
  generalize hg : (w.alloc _).alloc _ = W;have hh := HH.out;rw [hg] at hh;obtain ⟨B0, B1, hB0, hB1, HB, R0, R1, f0, f1, f2, f3, f4, f5, f6, f7, f8, f9, f10, f11, g0, g1, g2, g3, g4, g5, g6, g7, g8, g9, g10, g11⟩ := ndPair (xset := xset) (yset := yset) hh;clear hg hh HH;rw [hB1, hB0];have h_kind := Q_kind.out;have h_c := Q_c.out;have h_neg := Q_neg.out;have h_n := Q_n.out;have h_m := Q_m.out;have h_mode := Q_mode.out;have h_name := Q_name.out;have h_on := Q_on.out;have h_off := Q_off.out;have h_lset := Q_lset.out;have h_kids := Q_kids.out;clear Q_kind Q_c Q_neg Q_n Q_m Q_mode Q_name Q_on Q_off Q_lset Q_kids;go_wp2_with fail
  clear f0 g0 f1 g1 f2 g2 f3 g3 f4 g4 f5 g5 f6 g6 f7 g7 f8 g8 f9 g9 f10 g10 f11 g11;clear h_kind h_c h_neg h_n h_m h_mode h_name h_on h_off h_lset h_kids
  go_loopw [5] (fun iv wr => ∃ i : Nat, iv = .int .i64 i ∧ i ≤ xset.length ∧ Hid ((eqRs (xset.drop i) (yset.drop i) && sameF k k2) = R) ∧ Below W.heap.size W wr) (fun iv _ => xset.length - (intOf iv).toNat)
  case atStart => exact ⟨0, rfl, Nat.zero_le _, H0, Below.refl _ _⟩
  case round =>
   clear H0;obtain ⟨i, rfl, hi, HA, hb⟩ := hrel;have c3 := R0.out wr hb 3 _ rfl;have d3 := R1.out wr hb 3 _ rfl;have c11 := R0.out wr hb 11 _ rfl;by_cases hend : i = xset.length
   ·have HF := xH (show sameF k k2 = R by have := HA.out;rw [List.drop_eq_nil_of_le (by omega), List.drop_eq_nil_of_le (by have := hlS.out; omega)] at this;exact this)
    subst hend;clear HA HS HT;go_wp2_with fail
    clear c3 d3 c11;have HBb := xH hb
    go_loopw [6, 7] (fun iv _ wz => ∃ i : Nat, iv = .int .i64 i ∧ i ≤ k.len ∧ Hid (sameF (k.drop i) (k2.drop i) = R) ∧ Below W.heap.size W wz) (fun iv _ _ => k.len - (intOf iv).toNat)
    case atStart => exact ⟨0, rfl, Nat.zero_le _, xH (by rw [drop_zero, drop_zero]; exact HF.out), hb⟩
    case round =>
     clear hb HF;obtain ⟨i, rfl, hi, HA, hb⟩ := hrel;have c11 : wr.cell? ⟨B0, 11, none⟩ = some (.slice ka k.len kc) := R0.out wr hb 11 _ rfl;have d11 : wr.cell? ⟨B1, 11, none⟩ = some (.slice la k2.len lc) := R1.out wr hb 11 _ rfl;by_cases hend : i = k.len
     ·have HRes := xH (show true = R by have := HA.out; rw [drop_end (by omega), drop_end (by have := hlK.out; omega)] at this; exact this);subst hend;go_wp2_with fail
      go_ret
      exact ⟨by rw [← HRes.out]; rfl, HB.out.trans (hb.mono HB.out.size)⟩
     ·have hlt : i < k.len := by omega
      obtain ⟨y, k', r, hdr⟩ := drop_lt (f := k) (i := i) hlt;obtain ⟨z, m', r', hdr2⟩ := drop_lt (f := k2) (i := i) (by have := hlK.out; omega);have hbw := HB.out.trans (hb.mono HB.out.size);obtain ⟨b1, o1, cap1, hv1, _, _, _, hf1⟩ := kid_at (below_kids hbw HK.out) hdr;obtain ⟨b2, o2, cap2, hv2, _, _, _, hf2⟩ := kid_at (below_kids hbw HM.out) hdr2;obtain ⟨rfl, rfl⟩ : ka = some ⟨b1, o1, none⟩ ∧ kc = cap1 := by have := hv1;simp only [Value.slice.injEq] at this;exact ⟨this.1, this.2.2⟩
      obtain ⟨rfl, rfl⟩ : la = some ⟨b2, o2, none⟩ ∧ lc = cap2 := by have := hv2;simp only [Value.slice.injEq] at this;exact ⟨this.1, this.2.2⟩
      have hsz := size_lt hdr;have n1 := fAt_head hf1;have n2 := fAt_head hf2;have E1 := xH (hf1.1);have E2 := xH (hf2.1);have hstep : (sameT (y, k') (z, m') && sameF (k.drop (i + 1)) (k2.drop (i + 1))) = R := by rw [drop_succ hdr, drop_succ hdr2, ← HA.out, hdr, hdr2];rfl
      have HI := xH (fun w1 (h : Below wr.heap.size wr w1) => IH.out (y, k') (z, m') w1 (by show k'.size < n; omega) (vO h n1) (vO h n2));obtain ⟨q, hq⟩ : ∃ q, sameT (y, k') (z, m') = q := ⟨_, rfl⟩;rw [hq] at hstep HI;have HN := xH hstep;have a1 := add_row b1 o1 i 12;have a2 := add_row b2 o2 i 12;have i1 : (i : Int) < (k.len : Int) := by omega
      have i2 : (i : Int) < (k2.len : Int) := by omega
      have C11 := xH c11;have D11 := xH d11;clear hv1 hv2 hf1 hf2 hdr hdr2 n1 n2 hstep hq HA;go_wp2_with fail
      refine wp_region_held_drew (S := fun w' => Below wr.heap.size wr w') (by kernel_rfl) (qL wr) (fun hHeld => ?_);refine yG 0 (fun w' hSw => qf hSw C11.out) (fun w' hSw => qf hSw D11.out) ?_;simp only [xS];refine yG 1 (fun w' hSw => qf hSw C11.out) (fun w' hSw => qf hSw D11.out) ?_;simp only [xS];refine yG 2 (fun w' hSw => qf hSw C11.out) (fun w' hSw => qf hSw D11.out) ?_;simp only [xS];refine yG 3 (fun w' hSw => qf hSw C11.out) (fun w' hSw => qf hSw D11.out) ?_;simp only [xS];refine xT 4 rfl ?_ ?_ ?_;rotate_left
      ·intro w' hSw;refine jT (x := .tmp 115) (b := b1) (off := o1 + i * 12) (l := y) ?_ ?_ (fun j v hj => qf hSw (E1.out j v hj)) <;> rfl
      simp only [xS];refine yG 5 (fun w' hSw => qf hSw C11.out) (fun w' hSw => qf hSw D11.out) ?_;simp only [xS];refine yG 6 (fun w' hSw => qf hSw C11.out) (fun w' hSw => qf hSw D11.out) ?_;simp only [xS];refine yG 7 (fun w' hSw => qf hSw C11.out) (fun w' hSw => qf hSw D11.out) ?_;simp only [xS];refine yG 8 (fun w' hSw => qf hSw C11.out) (fun w' hSw => qf hSw D11.out) ?_;simp only [xS];refine xT 9 rfl ?_ ?_ ?_;rotate_left
      ·intro w' hSw;refine jT (x := .tmp 120) (b := b2) (off := o2 + i * 12) (l := z) ?_ ?_ (fun j v hj => qf hSw (E2.out j v hj)) <;> rfl
      simp only [xS];refine xD 10 rfl (fun K hK => ?_);go_simp;refine (HI.out _ hHeld).mono ?_;rintro e w4 ⟨rfl, hb5⟩;have hb4 : Below wr.heap.size wr w4 := hHeld.trans (hb5.mono hHeld.size);refine hK.out _ _ hb4 (fun hHeld => ?_);clear hK K;try simp only [xS]
      refine yT 11 ?_;simp only [xS];refine wpAnyH_done (by kernel_rfl) ?_ _;clear c11 d11;cases q with
      | false =>
       exact z172
      | true =>
       have HN2 := xH (show sameF (k.drop (i + 1)) (k2.drop (i + 1)) = R by rw [← HN.out]; rfl);exact z111
   ·have hlt : i < xset.length := by omega
    have hlt2 : i < yset.length := by have := hlS.out; omega
    obtain ⟨s1, q1, hsv, _, _, k1⟩ := HS.out;obtain ⟨s2, q2, htv, _, _, k2'⟩ := HT.out;simp only [Value.slice.injEq] at hsv htv;obtain ⟨rfl, _, rfl⟩ := hsv;obtain ⟨rfl, _, rfl⟩ := htv;rcases k1 with h0 | ⟨b1, o1, rfl, k1⟩
    ·rw [h0] at hlt;simp at hlt
    rcases k2' with h0 | ⟨b2, o2, rfl, k2'⟩
    ·rw [h0] at hlt2;simp at hlt2
    have hx1 := List.getElem?_eq_getElem hlt;have hx2 := List.getElem?_eq_getElem hlt2;obtain ⟨x1, y1⟩ : ∃ x, xset[i]'hlt = x := ⟨_, rfl⟩;obtain ⟨x2, y2⟩ : ∃ x, yset[i]'hlt2 = x := ⟨_, rfl⟩;rw [y1] at hx1;rw [y2] at hx2;have hbw := HB.out.trans (hb.mono HB.out.size);obtain ⟨e1, e2, _, _⟩ := k1 i x1 hx1;obtain ⟨e3, e4, _, _⟩ := k2' i x2 hx2;obtain ⟨x1, z1⟩ := x1;obtain ⟨x2, z2⟩ := x2;simp only at e1 e2 e3 e4;have hstep := eqRs_drop hx1 hx2;have E1 := xH (qf hbw e1);have E2 := xH (qf hbw e2);have E3 := xH (qf hbw e3);have E4 := xH (qf hbw e4);have a1 := add_row b1 o1 i 2;have a2 := add_row b2 o2 i 2;have i1 : (i : Int) < (xset.length : Int) := by omega
    have i2 : (i : Int) < (yset.length : Int) := by omega
    have C3 := xH c3;have D3 := xH d3;have hA := HA.out;rw [hstep] at hA;clear hx1 hx2 y1 y2 e1 e2 e3 e4 hstep k1 k2' HA c11;by_cases h1 : x1 = x2
    ·subst h1;by_cases h2 : z1 = z2
     ·subst h2;rw [decide_eq_true rfl, Bool.true_and] at hA;have HN := xH hA;clear hA;go_wp2_with fail
      refine wp_region_held_drew (S := fun w' => Below wr.heap.size wr w') (by kernel_rfl) (qL wr) (fun hHeld => ?_);refine xT 0 rfl ?_ ?_ ?_;rotate_left
      ·intro w' hSw;exact z76
      simp only [xS];refine xT 1 rfl ?_ ?_ ?_;rotate_left
      ·intro w' hSw;exact z76
      simp only [xS];refine xT 2 rfl ?_ ?_ ?_;rotate_left
      ·intro w' hSw;exact z76
      simp only [xS];refine xT 3 rfl ?_ ?_ ?_;rotate_left
      ·intro w' hSw;exact z76
      simp only [xS];refine xT 4 rfl ?_ ?_ ?_;rotate_left
      ·intro w' hSw;exact z76
      simp only [xS];refine xT 5 rfl ?_ ?_ ?_;rotate_left
      ·intro w' hSw;exact z76
      simp only [xS];refine xT 6 rfl ?_ ?_ ?_;rotate_left
      ·intro w' hSw;exact z76
      simp only [xS];refine xT 7 rfl ?_ ?_ ?_;rotate_left
      ·intro w' hSw;exact z76
      simp only [xS];refine xT 8 rfl ?_ ?_ ?_;rotate_left
      ·intro w' hSw;exact z76
      simp only [xS];refine xT 9 rfl ?_ ?_ ?_;rotate_left
      ·intro w' hSw;exact z76
      simp only [xS];refine xT 10 rfl ?_ ?_ ?_;rotate_left
      ·intro w' hSw;exact z76
      simp only [xS];refine wpAnyH_done (by kernel_rfl) ?_ _;have hb4 := qL wr;clear c3 d3;go_wp2_with fail
      go_roundw
      case rel => exact ⟨i + 1, by go_num, by omega, HN, hb.trans (hb4.mono hb.size)⟩
      case measure => simp [intOf]; omega
     ·rw [decide_eq_false (by simp [h2])] at hA;exact z3
    ·rw [decide_eq_false (by simp [h1])] at hA;exact z3
end trw
end
end Go.Proofs.Ytdgfclbajjjcgaa
