/- T -/
import Derived.BigQuiet
import Derived.BigRegion
import Derived.Deep.Cut
import Derived.Deep.CutBlock
import Derived.Deep.DeepCutAuto
import Derived.Deep.Onto
import Derived.Deep.QuietTactic
import Derived.Deep.RegionHeld3
import Derived.Deep.RegionWith
import Derived.Great.BuildSlice
import Derived.IntWalk
import Derived.Laws.AppendOwnNone
import Derived.Laws.BitsLemmas
import Derived.Laws.BytesArg
import Derived.Laws.CopyRow
import Derived.Laws.Cover2
import Derived.Laws.Cover3
import Derived.Laws.FloatArith
import Derived.Laws.RangeAny
import Derived.Laws.Rows
import Derived.Laws.Shifts
import Derived.Laws.StructEq
import Derived.Lib.BytesEntry
import Derived.Lib.ConvBytes
import Derived.Lib.Hide
import Derived.Lib.LaidTab
import Derived.Lib.OwnBridge
import Derived.Lib.QuietBelow
import Derived.Maps.AppendAt
import Derived.Maps.OwnSet
import Derived.OpenShut
import Derived.Outline
import Derived.OwnWalk
import Derived.ProofKit
import Derived.RegionTactic
import Derived.Shelf.Abstract
import Derived.Shelf.Bytes.SlIndexAt
import Derived.Shelf.Lays8
import Derived.Shelf.SlLaysC2
import Derived.Shelf.SlLaysE
import Derived.Shelf.SlLaysE0
import Derived.Shelf.SlLaysF
import Derived.Shelf.SlLaysH
import Derived.Shelf.SlicesE.Clone
import Derived.Shelf.SlicesE.Equal
import Derived.Shelf.SlicesE.IndexFunc
import Derived.Shelf.SlicesG.Cmp
import Derived.Shelf.Spec.SlicesGrow
import Derived.Sort.Grow
import Derived.Sort.Walk0
import Derived.StillTailTactics
import Derived.Test.YtnpcombfgdbhkaaDoorChecked
import Derived.Test.YtnpcombfgdbhkaaDoorRows
import Derived.WalkKit
import Derived.WalkLawsBesides
import Derived.WalkSpells
import GoSem.Core.Float
import Derived.Test.YtnpcombfgdbhkaaDoorBPc01
set_option maxHeartbeats 16000000
set_option maxRecDepth 1000000
section
namespace Go.Proofs.YtnpcombfgdbhkaaDoor.psl
open sq
open Go.Sort Go Go.RowKit Go.Maps tkp trp trw rpp rtp setw psw psp
open rpw (qp zero_at qh sees jB)
open rtw (cellR)
open tkw (sg sg_bd)
open ucdw (OwnI ownI_nil wpList_append_i ic)
open ext (tx pt)
open chn (wB qtB wK txt wantK kindsF AtE)
theorem hp_lt {w : World} {g : Nat} {o : Obj} (h : w.heap[g]? = some o) : g < w.heap.size := (Array.getElem?_eq_some_iff.1 h).1
def NsIn (w : World) (v : Value) (l : List Int) : Prop :=
 (∀ x ∈ l, -9223372036854775808 ≤ x ∧ x ≤ 9223372036854775807) ∧ ∃ a cap, v = .slice a l.length cap ∧ l.length ≤ 9223372036854775807 ∧ (l = [] ∨ ∃ b off, a = some ⟨b, off, none⟩ ∧ ∀ i, i < l.length → w.cell? ⟨b, off + i, none⟩ = some (.int .i64 (l.getD i 0)))
def pk (x : Int) : Nat := (if x < 0 then -(x + 1) else x).toNat
def wS : Nat → ByteArray
 | 0 => ⟨#[97]⟩
 | 1 => ⟨#[91, 98, 99, 93]⟩
 | 2 => ⟨#[40, 100, 41]⟩
 | 3 => ⟨#[40, 63, 58, 101, 124, 102, 41]⟩
 | 4 => ⟨#[46]⟩
 | 5 => ⟨#[92, 49]⟩
 | 6 => ⟨#[40, 63, 61, 103, 41]⟩
 | 7 => ⟨#[40, 63, 62, 104, 41]⟩
 | _ => ⟨#[]⟩
def qS : Nat → ByteArray
 | 1 => ⟨#[42]⟩
 | 2 => ⟨#[43, 63]⟩
 | 3 => ⟨#[123, 50, 125]⟩
 | 4 => ⟨#[63, 43]⟩
 | _ => ⟨#[]⟩
def chN (l : List Int) : Nat → ByteArray
 | 0 => ⟨#[120]⟩
 | i + 1 => chN l i ++ (wS (pk (l.getD i 0) % 8) ++ qS (pk (l.getD i 0) / 8 % 5))
def ksN (l : List Int) (i : Nat) : List Nat := (l.take i).map pk
theorem ks_succ {l : List Int} {i : Nat} (h : i < l.length) : ksN l (i + 1) = ksN l i ++ [pk (l.getD i 0)] := by unfold ksN;rw [List.take_add_one, List.getElem?_eq_getElem h, List.map_append];simp [List.getD, List.getElem?_eq_getElem h]
theorem txt_snoc (k : Nat) : ∀ ks, txt (ks ++ [k]) = txt ks ++ (wB (k % 8) ++ qtB (k / 8 % 5))
 | [] => by simp [txt]
 | x :: ks => by simp only [List.cons_append, txt, txt_snoc k ks, List.append_assoc]
theorem w_at {w : Nat} (h : w < 8) : (wS w).size = (wB w).length ∧ (wS w).size ≤ 7 ∧ ∀ r, r < (wB w).length → sg (wS w) r = (wB w).getD r 0 := by
 match w, h with
 | 0, _ => exact ⟨rfl, by decide, by decide⟩
 | 1, _ => exact ⟨rfl, by decide, by decide⟩
 | 2, _ => exact ⟨rfl, by decide, by decide⟩
 | 3, _ => exact ⟨rfl, by decide, by decide⟩
 | 4, _ => exact ⟨rfl, by decide, by decide⟩
 | 5, _ => exact ⟨rfl, by decide, by decide⟩
 | 6, _ => exact ⟨rfl, by decide, by decide⟩
 | 7, _ => exact ⟨rfl, by decide, by decide⟩
 | w + 8, h => omega
theorem q_at {q : Nat} (h : q < 5) : (qS q).size = (qtB q).length ∧ (qS q).size ≤ 3 ∧ ∀ r, r < (qtB q).length → sg (qS q) r = (qtB q).getD r 0 := by
 match q, h with
 | 0, _ => exact ⟨rfl, by decide, by decide⟩
 | 1, _ => exact ⟨rfl, by decide, by decide⟩
 | 2, _ => exact ⟨rfl, by decide, by decide⟩
 | 3, _ => exact ⟨rfl, by decide, by decide⟩
 | 4, _ => exact ⟨rfl, by decide, by decide⟩
 | q + 5, h => omega
theorem ch_at {l : List Int} : ∀ {i : Nat}, i ≤ l.length → sg (chN l i) 0 = 120 ∧ (chN l i).size = 1 + (txt (ksN l i)).length ∧ (chN l i).size ≤ 1 + 10 * i ∧ ∀ r, r < (txt (ksN l i)).length → sg (chN l i) (1 + r) = (txt (ksN l i)).getD r 0
 | 0, _ => ⟨rfl, rfl, Nat.le_refl _, fun r hr => by simp [ksN, txt] at hr⟩
 | i + 1, h => by
  obtain ⟨h1, h2, h3, h4⟩ := ch_at (l := l) (i := i) (by omega);rw [ks_succ (by omega), txt_snoc, chN];generalize pk (l.getD i 0) = k;obtain ⟨a1, a2, a3⟩ := w_at (w := k % 8) (Nat.mod_lt _ (by decide));obtain ⟨b1, b2, b3⟩ := q_at (q := k / 8 % 5) (Nat.mod_lt _ (by decide));generalize k % 8 = w at *;generalize k / 8 % 5 = q at *;generalize chN l i = S at *;generalize txt (ksN l i) = T at *;refine ⟨by rw [s_left (by omega)]; exact h1, by rw [ByteArray.size_append, ByteArray.size_append, List.length_append, List.length_append]; omega, by rw [ByteArray.size_append, ByteArray.size_append]; omega, fun r hr => ?_⟩;rw [List.length_append, List.length_append] at hr;rw [List.getD_eq_getElem?_getD];by_cases c1 : r < T.length
  ·rw [s_left (by omega), h4 r c1, List.getElem?_append_left c1, ← List.getD_eq_getElem?_getD]
  ·obtain ⟨r1, rfl⟩ : ∃ r1, r = T.length + r1 := ⟨r - T.length, by omega⟩;rw [s_right (j := r1) (by omega), List.getElem?_append_right (by omega), show T.length + r1 - T.length = r1 by omega];by_cases c2 : r1 < (wB w).length
   ·rw [s_left (by omega), a3 r1 c2, List.getElem?_append_left c2, ← List.getD_eq_getElem?_getD]
   ·obtain ⟨r2, rfl⟩ : ∃ r2, r1 = (wB w).length + r2 := ⟨r1 - (wB w).length, by omega⟩;rw [s_right (j := r2) (by omega), List.getElem?_append_right (by omega), show (wB w).length + r2 - (wB w).length = r2 by omega, b3 r2 (by omega), ← List.getD_eq_getElem?_getD]
theorem chain_text {l : List Int} {i : Nat} (h : i ≤ l.length) (h20 : i ≤ 20) : ∃ Q, textP (chN l i) = .ok (oneF 12 Q) ∧ kindsF Q = 1 :: (ksN l i).map wantK := by obtain ⟨h1, h2, h3, h4⟩ := ch_at h;obtain ⟨Q, a, b⟩ := chn.chain_tx (g := sg (chN l i)) (n := (chN l i).size) (by omega) (ksN l i) (by unfold ksN; rw [List.length_map, List.length_take]; omega) h1 ⟨h2, h4⟩;exact ⟨Q, (text_g _).trans a, b⟩
theorem kinds_strip : ∀ f : F, kindsF (strip f) = kindsF f
 | .nil => rfl
 | .cons x k r => by simp only [strip, kindsF, kinds_strip r]
theorem kinds_len : ∀ f : F, (kindsF f).length = f.len
 | .nil => rfl
 | .cons x k r => by simp only [kindsF, List.length_cons, F.len, kinds_len r]
theorem chain_node {X : Lab} {K Q : F} {L : List Int} (h : oneF 12 Q = strip (F.one X K)) (hQ : kindsF Q = 1 :: L) : (L = [] → X.kind = 1) ∧ (L ≠ [] → X.kind = 12 ∧ kindsF K = 1 :: L) := by
 cases Q with
 | nil => cases hQ
 | cons x k r =>
  cases r with
  | nil =>
   simp only [kindsF, List.cons.injEq] at hQ;obtain ⟨hx, rfl⟩ := hQ;simp only [oneF, F.one, strip, F.cons.injEq, and_true] at h;refine ⟨fun _ => ?_, fun h => absurd rfl h⟩;rw [← hx, h.1]
  | cons y j q =>
   have hL : L ≠ [] := by intro e;subst e;simp [kindsF] at hQ
   refine ⟨fun e => absurd e hL, fun _ => ?_⟩;have h' : F.one (lab 12 0) (.cons x k (.cons y j q)) = strip (F.one X K) := h;simp only [F.one, strip, F.cons.injEq, and_true] at h';refine ⟨?_, ?_⟩
   ·have := h'.1;have e := congrArg Lab.kind this;exact e.symm
   ·rw [← kinds_strip K, ← h'.2, hQ]
theorem fAt_kind {w : World} {b : Nat} : ∀ {f : F} {o : Nat}, FAt w b o f → ∀ j c, (kindsF f)[j]? = some c → w.cell? ⟨b, o + j * 12, none⟩ = some (.int .i64 c)
 | .nil, _, _, j, c, h => by simp [kindsF] at h
 | .cons x k r, o, h, 0, c, hc => by simp only [kindsF, List.getElem?_cons_zero, Option.some.injEq] at hc;subst hc;have := h.1 0 _ rfl;simpa using this
 | .cons x k r, o, h, j + 1, c, hc => by rw [kindsF, List.getElem?_cons_succ] at hc;have := fAt_kind (fAt_tail h) j c hc;rw [show o + (j + 1) * 12 = o + 12 + j * 12 by omega];exact this
theorem own_at {w : World} {B : Nat} {v : Value} {D : List Int} (h : OwnI w B v D) (h0 : D ≠ []) : ∃ g cap, v = .slice (some ⟨g, 0, none⟩) D.length cap ∧ D.length ≤ cap ∧ cap ≤ 9223372036854775807 ∧ ∀ j c, D[j]? = some c → w.cell? ⟨g, 0 + j, none⟩ = some (.int .i64 c) := by
 have h' := h;obtain ⟨_, h2⟩ := h;rcases h2 with ⟨_, hn⟩ | ⟨g, cap, cur, hv, _, hh, hnc, hcm, _⟩
 ·exact absurd (List.eq_nil_of_length_eq_zero hn) h0
 ·unfold maxLen at hcm;refine ⟨g, cap, hv, hnc, by omega, fun j c hj => ?_⟩;unfold OwnI at h';rw [hv] at h';have hlt : j < D.length := (List.getElem?_eq_some_iff.1 hj).1;have := h'.cellAt j (by omega);rw [Nat.zero_add, this];simp [ic, hj]
theorem ownI_below {w w' : World} {base : Nat} {v : Value} {L : List Int} (h : OwnI w base v L) (hb : Below w.heap.size w w') : OwnI w' base v L := tkw.jJ h (fun k hk => hb.block k (rpw.own_below h hk).2)
theorem wcell {w : World} {B : Nat} (h : w.heap[B]? = some (Obj.cells #[.string ⟨#[97]⟩, .string ⟨#[91, 98, 99, 93]⟩, .string ⟨#[40, 100, 41]⟩, .string ⟨#[40, 63, 58, 101, 124, 102, 41]⟩, .string ⟨#[46]⟩, .string ⟨#[92, 49]⟩, .string ⟨#[40, 63, 61, 103, 41]⟩, .string ⟨#[40, 63, 62, 104, 41]⟩] 9 (0, 0))) {m : Nat} (hm : m < 8) : w.cell? ⟨B, 0 + m, none⟩ = some (.string (wS m)) := by
 unfold World.cell?;rw [h]
 match m, hm with
 | 0, _ => rfl
 | 1, _ => rfl
 | 2, _ => rfl
 | 3, _ => rfl
 | 4, _ => rfl
 | 5, _ => rfl
 | 6, _ => rfl
 | 7, _ => rfl
 | m + 8, h => omega
theorem qcell {w : World} {B : Nat} (h : w.heap[B]? = some (Obj.cells #[.string ⟨#[]⟩, .string ⟨#[42]⟩, .string ⟨#[43, 63]⟩, .string ⟨#[123, 50, 125]⟩, .string ⟨#[63, 43]⟩] 9 (0, 0))) {m : Nat} (hm : m < 5) : w.cell? ⟨B, 0 + m, none⟩ = some (.string (qS m)) := by
 unfold World.cell?;rw [h]
 match m, hm with
 | 0, _ => rfl
 | 1, _ => rfl
 | 2, _ => rfl
 | 3, _ => rfl
 | 4, _ => rfl
 | m + 5, h => omega
theorem kcell {w : World} {B : Nat} (h : w.heap[B]? = some (Obj.cells #[.int .i64 1, .int .i64 2, .int .i64 14, .int .i64 15, .int .i64 3, .int .i64 7, .int .i64 18, .int .i64 17] 3 (0, 0))) {m : Nat} (hm : m < 8) : w.cell? ⟨B, 0 + m, none⟩ = some (.int .i64 (wK m)) := by
 unfold World.cell?;rw [h]
 match m, hm with
 | 0, _ => rfl
 | 1, _ => rfl
 | 2, _ => rfl
 | 3, _ => rfl
 | 4, _ => rfl
 | 5, _ => rfl
 | 6, _ => rfl
 | 7, _ => rfl
 | m + 8, h => omega
theorem wpList_append_k {ops : Array Oper} {rest : List Oper} {o : Oper} {a : Act} {w : World} {Q : Exit → Act → World → Prop} (hgd : o.guard = none) (s x : Operand)
 (ho : o.op = .call { callee := .builtin .append, args := #[s, x], argTypes := #[43, 43] }) (base : Nat) (v : Value) (D : List Int) (hs : a.eval s = v) (hown : OwnI w base v D)
 (q : Int) (hx : a.eval x = .slice (some ⟨w.heap.size, 0, none⟩) 1 1) (hlen : D.length ≤ 4000) (hbase : base ≤ w.heap.size)
 (h : ∀ v' w', OwnI w' base v' (D ++ [q]) → (∀ k, k < w.heap.size → v.ownBlock ≠ some k → w'.heap[k]? = w.heap[k]?) → (∀ g, v'.ownBlock = some g → v.ownBlock = some g ∨ w.heap.size ≤ g) → Below base w w' → wpList Tryd.prog ops Q rest (a.put o.dst v') w') :
 wpList Tryd.prog ops Q (o :: rest) a (w.alloc (.cells #[.int .i64 q] 3)) := by
 obtain ⟨i0, hi, hz0, hz1, hz2⟩ := info_parts ucdw.infoInt;have hB := trw.qg w (.cells #[.int .i64 q] 3);have hZ := World.size_alloc w (.cells #[.int .i64 q] 3);have hN := World.cell?_alloc_new w #[.int .i64 q] 3;have hown' : OwnI (w.alloc (.cells #[.int .i64 q] 3)) base v D := World.ownsRow.alloc hown _;have hlt := World.ownsRow.lt hown;refine wpList_plain hgd fun K hK => ?_
 obtain ⟨v', w', hr, h2, h3, _, h5⟩ := run_append_own_at (P := Tryd.prog) (w.alloc (.cells #[.int .i64 q] 3)) base 43 o.type 3 i0 _ 1 8 Tryd.underlying43 hi hz0 hz1 hz2 rfl (by decide) v D.length (ic D) hown' ⟨w.heap.size, 0, none⟩ 1 1 [.int .i64 q] rfl
  (fun j u hj => by
   have hj0 : j = 0 := by
    cases j with
    | zero => rfl
    | succ j => simp at hj
   subst hj0;simp only [List.getElem?_cons_zero, Option.some.injEq] at hj;subst hj;have hplain : (⟨w.heap.size, 0, none⟩ : Addr).add 0 = ⟨w.heap.size, 0, none⟩ := by unfold Addr.add; split <;> simp_all
   rw [hplain, World.cell?_alloc_new];rfl)
  (fun u hu => by simp only [List.mem_cons, List.not_mem_nil, or_false] at hu;subst hu;rfl) (by unfold maxLen; omega) (by omega) (by rw [hZ]; omega)
 unfold Oper.wp execOp;simp only [ho, resolve, invoke, builtin, Sem.run_bind, Sem.run_pure, Result.andThen_ok, List.map_toArray, List.map_cons, List.map_nil, hs, hx, hr];have hK2 := hK _ _ (h v' w' (by
  have e : ic (D ++ [q]) = ic D ++ [.int .i64 q] := by simp [ic]
  unfold OwnI;rw [e];simpa using h2)
  (fun k hk hne => (h3.block k (by rw [hZ]; omega) (fun e => hne e.symm)).trans (hB.block k hk))
  (fun g hg => by
   rcases h5 with e | e
   ·exact Or.inl (e.symm.trans hg)
   ·rw [e] at hg;simp only [Option.some.injEq] at hg;exact Or.inr (by omega))
  (((Below.refl base w).alloc hbase _).grown h3 (by rw [hZ]; omega) (fun k hk => (hlt k hk).1)))
 simpa [Oper.upon] using hK2
theorem chains_law (v : Value) (l : List Int) (w : World) (hT : TabP w) (hv : NsIn w v l) : Calls Tryd.prog 8 #[v] w (BoolB true w) := by
 have HT := xH hT;have HAW := xH (awake_any w hT);obtain ⟨hbd, a, cap, rfl, hlen, hcell⟩ := hv;have HBD := xH hbd;have HV := xH hcell;clear hT hbd hcell;go_enter Tryd.func8, Tryd.ntmps8;go_wp2_with fail
 refine HAW.out.mono ?_;rintro e w1 ⟨rfl, hb1⟩;have HB1 := xH hb1;clear hb1 HAW;have HG4 := xH (heap_alloc_new w1 (.cells #[.string ⟨#[97]⟩, .string ⟨#[91, 98, 99, 93]⟩, .string ⟨#[40, 100, 41]⟩, .string ⟨#[40, 63, 58, 101, 124, 102, 41]⟩, .string ⟨#[46]⟩, .string ⟨#[92, 49]⟩, .string ⟨#[40, 63, 61, 103, 41]⟩, .string ⟨#[40, 63, 62, 104, 41]⟩] 9));have HA4 := xH (trw.qg w1 (.cells #[.string ⟨#[97]⟩, .string ⟨#[91, 98, 99, 93]⟩, .string ⟨#[40, 100, 41]⟩, .string ⟨#[40, 63, 58, 101, 124, 102, 41]⟩, .string ⟨#[46]⟩, .string ⟨#[92, 49]⟩, .string ⟨#[40, 63, 61, 103, 41]⟩, .string ⟨#[40, 63, 62, 104, 41]⟩] 9));go_upto_region 5 with (fail)
 obtain ⟨w2, hw2⟩ : ∃ W, W = w1.alloc (.cells #[.string ⟨#[97]⟩, .string ⟨#[91, 98, 99, 93]⟩, .string ⟨#[40, 100, 41]⟩, .string ⟨#[40, 63, 58, 101, 124, 102, 41]⟩, .string ⟨#[46]⟩, .string ⟨#[92, 49]⟩, .string ⟨#[40, 63, 61, 103, 41]⟩, .string ⟨#[40, 63, 62, 104, 41]⟩] 9) := ⟨_, rfl⟩;rw [← hw2] at HG4 HA4 ⊢;clear hw2;have HB2 := xH (trw.qi HB1.out HA4.out);generalize w1.heap.size = V4 at *;have HG5 := xH (heap_alloc_new w2 (.cells #[.string ⟨#[]⟩, .string ⟨#[42]⟩, .string ⟨#[43, 63]⟩, .string ⟨#[123, 50, 125]⟩, .string ⟨#[63, 43]⟩] 9));have HA5 := xH (trw.qg w2 (.cells #[.string ⟨#[]⟩, .string ⟨#[42]⟩, .string ⟨#[43, 63]⟩, .string ⟨#[123, 50, 125]⟩, .string ⟨#[63, 43]⟩] 9));clear HB1 HA4;go_upto_region 6 with (fail)
 obtain ⟨w3, hw3⟩ : ∃ W, W = w2.alloc (.cells #[.string ⟨#[]⟩, .string ⟨#[42]⟩, .string ⟨#[43, 63]⟩, .string ⟨#[123, 50, 125]⟩, .string ⟨#[63, 43]⟩] 9) := ⟨_, rfl⟩;rw [← hw3] at HG5 HA5 ⊢;clear hw3;have HB3 := xH (trw.qi HB2.out HA5.out);have HG4b := xH ((HA5.out.block V4 (hp_lt HG4.out)).trans HG4.out);generalize w2.heap.size = V5 at *;have HO0 := xH (ownI_nil w3 w3.heap.size);have HZ3 := xH (Nat.le_refl w3.heap.size);have HBW3 := xH HB3.out.size;clear HB2 HA5 HG4;obtain ⟨B, hB⟩ : ∃ B, w3.heap.size = B := ⟨_, rfl⟩;have HBB := xH hB;clear hB;go_upto_region 10 with (at_builtin; refine wpList_append_i rfl _ _ rfl w3.heap.size _ [] rfl HO0.out 1 _ rfl rfl (by simp) HZ3.out ?_; intro v4 w4 h4 hb4; have HO4 := xH h4; have HB4 := xH (hb4 _ _ HB3.out HBW3.out); have HC4 := xH (hb4 _ _ (Below.refl w3.heap.size w3) (Nat.le_refl _)); clear h4 hb4)
 have hB := HBB.out;rw [hB] at HO4 HC4;have HG4c := xH ((HC4.out.block V4 (by have := hp_lt HG4b.out; omega)).trans HG4b.out);have HG5c := xH ((HC4.out.block V5 (by have := hp_lt HG5.out; omega)).trans HG5.out);have HV0 := xH (show V4 < B ∧ V5 < B from ⟨by have := hp_lt HG4b.out; omega, by have := hp_lt HG5.out; omega⟩);have HW4 := xH (show w.heap.size ≤ B by rw [← hB]; exact HB3.out.size);have HZ4 := xH (show B ≤ w4.heap.size by have h := HC4.out.size; omega);clear HO0 HZ3 HBW3 HB3 HG4b HG5 HBB hB HC4;have HG9 := xH (heap_alloc_new w4 (.cells #[.int .i64 1, .int .i64 2, .int .i64 14, .int .i64 15, .int .i64 3, .int .i64 7, .int .i64 18, .int .i64 17] 3));have HA9 := xH (trw.qg w4 (.cells #[.int .i64 1, .int .i64 2, .int .i64 14, .int .i64 15, .int .i64 3, .int .i64 7, .int .i64 18, .int .i64 17] 3));go_upto_region 11 with (fail)
 obtain ⟨w5, hw5⟩ : ∃ W, W = w4.alloc (.cells #[.int .i64 1, .int .i64 2, .int .i64 14, .int .i64 15, .int .i64 3, .int .i64 7, .int .i64 18, .int .i64 17] 3) := ⟨_, rfl⟩;rw [← hw5] at HG9 HA9 ⊢;clear hw5;have HB5 := xH (trw.qi HB4.out HA9.out);have HO5 := xH (ownI_below HO4.out HA9.out);have HX4 := xH ((HA9.out.block V4 (hp_lt HG4c.out)).trans HG4c.out);have HX5 := xH ((HA9.out.block V5 (hp_lt HG5c.out)).trans HG5c.out);have HZ5 := xH (Nat.le_trans HZ4.out HA9.out.size);have HV45 := xH (show V4 < B ∧ V5 < B from HV0.out);obtain ⟨V9, hV9⟩ : ∃ V9, w4.heap.size = V9 := ⟨_, rfl⟩;have HZV := xH hV9;rw [hV9] at HG9 ⊢;clear hV9;have HN9 := xH (show v4.ownBlock ≠ some V9 from fun e => by have := (rpw.own_below HO4.out e).2; have := HZV.out; omega);have HZB := xH HZ5.out;clear HZ4 HO4 HB4 HG4c HG5c HA9 HZV;go_wp2_with fail
 go_loopw [6, 7, 8, 10, 11] (fun sv nv wv iv _ wr => ∃ (i : Nat) (z : Value), iv = .int .i64 i ∧ nv = .int .i64 ((i : Int) + 1) ∧ sv = .string (chN l i) ∧ z = wv ∧ i ≤ l.length ∧ i ≤ 20 ∧ Hid (OwnI wr B z (1 :: (ksN l i).map wantK)) ∧ Hid (z.ownBlock ≠ some V9) ∧ Hid (wr.heap[V4]? = some (Obj.cells #[.string ⟨#[97]⟩, .string ⟨#[91, 98, 99, 93]⟩, .string ⟨#[40, 100, 41]⟩, .string ⟨#[40, 63, 58, 101, 124, 102, 41]⟩, .string ⟨#[46]⟩, .string ⟨#[92, 49]⟩, .string ⟨#[40, 63, 61, 103, 41]⟩, .string ⟨#[40, 63, 62, 104, 41]⟩] 9 (0, 0))) ∧ Hid (wr.heap[V5]? = some (Obj.cells #[.string ⟨#[]⟩, .string ⟨#[42]⟩, .string ⟨#[43, 63]⟩, .string ⟨#[123, 50, 125]⟩, .string ⟨#[63, 43]⟩] 9 (0, 0))) ∧ Hid (wr.heap[V9]? = some (Obj.cells #[.int .i64 1, .int .i64 2, .int .i64 14, .int .i64 15, .int .i64 3, .int .i64 7, .int .i64 18, .int .i64 17] 3 (0, 0))) ∧ Hid (Below w.heap.size w wr) ∧ Hid (B ≤ wr.heap.size)) (fun _ _ _ iv _ _ => 20 - (intOf iv).toNat)
 case atStart => exact ⟨0, _, rfl, rfl, rfl, rfl, Nat.zero_le _, Nat.zero_le _, HO5, HN9, HX4, HX5, HG9, HB5, HZB⟩
 case round =>
  obtain ⟨i, z, rfl, rfl, rfl, rfl, hi, hi20, HO, HN, HX4, HX5, HX9, HB, HZ⟩ := hrel;clear HO5 HN9 HG9 HB5 HZB;by_cases hin : i < l.length ∧ i < 20
  ·obtain ⟨h1, h2⟩ := hin;have h1I : (i : Int) < (l.length : Int) := by omega
   have h2I : (i : Int) < 20 := by omega
   have HK := xH (ks_succ h1);have HC := xH (show chN l (i + 1) = chN l i ++ (wS (pk (l.getD i 0) % 8) ++ qS (pk (l.getD i 0) / 8 % 5)) from rfl);have hsz := (ch_at hi).2.2.1;have HKL := xH (show (1 :: (ksN l i).map wantK).length ≤ 4000 by unfold ksN;simp only [List.length_cons, List.length_map, List.length_take];omega)
   have hxb := HBD.out (l.getD i 0) (by rw [show l.getD i 0 = l[i] by simp [List.getD, h1]]; exact List.getElem_mem h1);rcases HV.out with h0 | ⟨b, off, rfl, hc⟩
   ·rw [h0] at h1; exact absurd h1 (by simp)
   have d0 : wr.cell? ⟨b, off + i, none⟩ = some (.int .i64 (l.getD i 0)) := trw.qf HB.out (hc i h1);obtain ⟨x0, x1⟩ := hxb;clear hc;obtain ⟨S, hS⟩ : ∃ S, chN l i = S := ⟨_, rfl⟩;rw [hS] at HC hsz ⊢;have z0 : S.size ≤ 1000 := by omega
   clear hS;generalize l.getD i 0 = x at *;go_upto_if 40 with (fail)
   go_cut [11] from 25 to 74 (fun kv w' => kv = .int .i64 ((pk x : Nat) : Int) ∧ wr = w')
   case first =>
    by_cases hx : x < 0
    ·have hp : ((pk x : Nat) : Int) = -(x + 1) := by unfold pk; rw [if_pos hx]; omega
     go_wp2_with fail
     go_meet
     case rel => exact ⟨by rw [hp], rfl⟩
    ·have hp : ((pk x : Nat) : Int) = x := by unfold pk; rw [if_neg hx]; omega
     go_wp2_with fail
     go_meet
     case rel => exact ⟨by rw [hp], rfl⟩
   case rest =>
    obtain ⟨rfl, rfl⟩ := hcut;have hk64 : ((pk x : Nat) : Int) ≤ 9223372036854775807 := by unfold pk; split <;> omega
    clear d0 x0 x1;obtain ⟨kx, hkx⟩ : ∃ kx, pk x = kx := ⟨_, rfl⟩;rw [hkx] at HK HC hk64 ⊢;clear hkx;have hm8 : ((kx : Nat) : Int).tmod 8 = ((kx % 8 : Nat) : Int) := by rw [Int.tmod_eq_emod_of_nonneg (by omega)]; omega
    have hd8 : ((kx : Nat) : Int).tdiv 8 = ((kx / 8 : Nat) : Int) := by rw [Int.tdiv_eq_ediv_of_nonneg (by omega)]; omega
    have hq5 : ((kx / 8 : Nat) : Int).tmod 5 = ((kx / 8 % 5 : Nat) : Int) := by rw [Int.tmod_eq_emod_of_nonneg (by omega)]; omega
    have hm : kx % 8 < 8 := Nat.mod_lt _ (by decide);have hq : kx / 8 % 5 < 5 := Nat.mod_lt _ (by decide);have c4 := cellR (show wr.cell? ⟨V4, kx % 8, none⟩ = some (.string (wS (kx % 8))) from by have := wcell HX4.out hm; rwa [Nat.zero_add] at this);have c5 := cellR (show wr.cell? ⟨V5, kx / 8 % 5, none⟩ = some (.string (qS (kx / 8 % 5))) from by have := qcell HX5.out hq; rwa [Nat.zero_add] at this);have HC9 := xH (show wr.cell? ⟨V9, kx % 8, none⟩ = some (.int .i64 (wK (kx % 8))) from by have := kcell HX9.out hm; rwa [Nat.zero_add] at this);have z1 : (wS (kx % 8)).size ≤ 1000 := by have := (w_at hm).2.1; omega
    have z2 : (qS (kx / 8 % 5)).size ≤ 1000 := by have := (q_at hq).2.1; omega
    have z3 : ByteArray.size (wS (kx % 8) ++ qS (kx / 8 % 5)) ≤ 1000 := by rw [ByteArray.size_append]; have := (w_at hm).2.1; have := (q_at hq).2.1; omega
    have z4 : ByteArray.size (S ++ (wS (kx % 8) ++ qS (kx / 8 % 5))) ≤ 1000 := by rw [ByteArray.size_append, ByteArray.size_append]; have := (w_at hm).2.1; have := (q_at hq).2.1; omega
    have HWK := xH (show wantK kx = if 0 < kx / 8 % 5 then 20 else wK (kx % 8) from rfl);generalize wS (kx % 8) = A at *;generalize qS (kx / 8 % 5) = C at *;generalize wK (kx % 8) = kk at *;have hmI : ((kx % 8 : Nat) : Int) < 8 := by omega
    have hqI : ((kx / 8 % 5 : Nat) : Int) < 5 := by omega
    have hdI : ((kx / 8 : Nat) : Int) ≤ 9223372036854775807 := by omega
    generalize kx % 8 = m at *;generalize kx / 8 % 5 = q at *;generalize kx / 8 = d at *;go_wp2_with fail
    refine wp_region_quiet_below (by kernel_rfl) (by kernel_rfl) ?_
    repeat (go_big_quiet_step (fail))
    refine wpQuiet_nil ?_;intro _ hw';obtain ⟨⟨dq, osq⟩, hw''⟩ := hw';subst hw'';have hgr := below_regrown wr dq osq;have HO6 := xH (ownI_below HO.out hgr);have HX46 := xH ((hgr.block V4 (hp_lt HX4.out)).trans HX4.out);have HX56 := xH ((hgr.block V5 (hp_lt HX5.out)).trans HX5.out);have HX96 := xH ((hgr.block V9 (hp_lt HX9.out)).trans HX9.out);have HB6 := xH (trw.qi HB.out hgr);have HZ6 := xH (Nat.le_trans HZ.out hgr.size);have HC96 := xH (trw.qf hgr HC9.out);clear c4 c5 hgr HO HX4 HX5 HX9 HB HZ HC9 z0 z1 z2 z3 z4;generalize grow (redrawn wr dq) osq = w6 at *;have HXL := xH (hp_lt HX96.out);have fin : ∀ (v7 : Value) (w7 : World) (kz : Int), kz = wantK kx → OwnI w7 B v7 ((1 :: (ksN l i).map wantK) ++ [kz]) → (∀ k, k < w6.heap.size → z.ownBlock ≠ some k → w7.heap[k]? = w6.heap[k]?) → (∀ g, v7.ownBlock = some g → z.ownBlock = some g ∨ w6.heap.size ≤ g) → Below B w6 w7 →
     Hid (OwnI w7 B v7 (1 :: (ksN l (i + 1)).map wantK)) ∧ Hid (v7.ownBlock ≠ some V9) ∧ Hid (w7.heap[V4]? = some (Obj.cells #[.string ⟨#[97]⟩, .string ⟨#[91, 98, 99, 93]⟩, .string ⟨#[40, 100, 41]⟩, .string ⟨#[40, 63, 58, 101, 124, 102, 41]⟩, .string ⟨#[46]⟩, .string ⟨#[92, 49]⟩, .string ⟨#[40, 63, 61, 103, 41]⟩, .string ⟨#[40, 63, 62, 104, 41]⟩] 9 (0, 0))) ∧ Hid (w7.heap[V5]? = some (Obj.cells #[.string ⟨#[]⟩, .string ⟨#[42]⟩, .string ⟨#[43, 63]⟩, .string ⟨#[123, 50, 125]⟩, .string ⟨#[63, 43]⟩] 9 (0, 0))) ∧ Hid (w7.heap[V9]? = some (Obj.cells #[.int .i64 1, .int .i64 2, .int .i64 14, .int .i64 15, .int .i64 3, .int .i64 7, .int .i64 18, .int .i64 17] 3 (0, 0))) ∧ Hid (Below w.heap.size w w7) ∧ Hid (B ≤ w7.heap.size) := fun v7 w7 kz hkz h1 h2 h3 h4 => by
     have hz : ∀ k, z.ownBlock = some k → B ≤ k := fun k hk => (rpw.own_below HO6.out hk).1
     have hV := HV45.out;refine ⟨xH ?_, xH (fun e => ?_), xH ((h2 V4 (hp_lt HX46.out) (fun e => by have := hz _ e; omega)).trans HX46.out), xH ((h2 V5 (hp_lt HX56.out) (fun e => by have := hz _ e; omega)).trans HX56.out), xH ((h2 V9 HXL.out HN.out).trans HX96.out), xH (HB6.out.trans (h4.mono HW4.out)), xH (Nat.le_trans HZ6.out h4.size)⟩
     ·rw [HK.out, List.map_append, List.map_cons, List.map_nil, ← hkz];exact h1
     ·rcases h3 _ e with e2 | e2
      ·exact HN.out e2
      ·have := HXL.out; omega
    have HF := xH fin;clear fin;by_cases hq0 : 0 < q
    ·have hq0I : (0 : Int) < (q : Int) := by omega
     have hwk : (20 : Int) = wantK kx := by rw [HWK.out, if_pos hq0]
     have HWZ := xH hwk;clear hwk HC96;go_wp2_with (at_builtin; refine wpList_append_k rfl _ _ rfl B z _ rfl HO6.out 20 rfl HKL.out HZ6.out ?_; intro v7 w7 g1 g2 g3 g4; have HR := HF.out v7 w7 20 HWZ.out g1 g2 g3 g4; clear g1 g2 g3 g4)
     go_roundw
     case rel => exact ⟨i + 1, v7, by go_num, by go_num, by rw [HC.out], rfl, h1, h2, HR⟩
     case measure => simp [intOf]; omega
    ·have hq0I : ¬ (0 : Int) < (q : Int) := by omega
     have hwk : kk = wantK kx := by rw [HWK.out, if_neg hq0]
     have HWZ := xH hwk;have c9 := HC96.out;clear hwk;go_wp2_with (at_builtin; refine wpList_append_k rfl _ _ rfl B z _ rfl HO6.out kk rfl HKL.out HZ6.out ?_; intro v7 w7 g1 g2 g3 g4; have HR := HF.out v7 w7 kk HWZ.out g1 g2 g3 g4; clear g1 g2 g3 g4)
     go_roundw
     case rel => exact ⟨i + 1, v7, by go_num, by go_num, by rw [HC.out], rfl, h1, h2, HR⟩
     case measure => simp [intOf]; omega
  ·have hex : (i : Int) < (l.length : Int) ∧ ¬ (i : Int) < 20 ∨ ¬ (i : Int) < (l.length : Int) := by omega
   obtain ⟨T, hT, hTK⟩ := chain_text hi hi20;have hsz := (ch_at hi).2.2.1;have HP := xH (parsed_any (chN l i) wr (tabP_below HB.out HT.out) (by omega));rw [hT] at HP;have HTK := xH hTK;generalize chN l i = S at *;have HKL := xH (show (ksN l i).length = i by unfold ksN; rw [List.length_map, List.length_take]; omega);obtain ⟨D, hD⟩ : ∃ D, (ksN l i).map wantK = D := ⟨_, rfl⟩;have HDL := xH (show D.length = i by rw [← hD, List.length_map]; exact HKL.out);rw [hD] at HO HTK;clear hT hTK hsz HX4 HX5 HX9 HN HKL hD;have key : Calls Tryd.prog 16 #[.string S] wr (PaB wr (.ok (oneF 12 T))) := HP.out;rcases hex with ⟨e1, e2⟩ | e1
   all_goals
    go_wp2_with fail
    refine key.mono ?_;rintro e w3 ⟨hb3, X, K, rfl, hn3, hst3⟩;obtain ⟨hone, hmany⟩ := chain_node hst3.symm HTK.out;have HB3 := xH (trw.qi HB.out hb3);have HO3 := xH (ownI_below HO.out hb3);have HN3 := xH hn3;have HNO := xH (qp hn3);have HG3 := xH (heap_alloc_new w3 (.cells zC.toArray 31));have HT3 := xH (zO w3 X);have H1 := xH hone;have HM := xH hmany;unfold zC at HG3 HT3;clear hb3 hn3 hst3 hone hmany HP key HB HO;dsimp only;go_upto_region 23 with (refine qh rfl rfl _ _ rfl w3.heap.size rfl _ X HG3.out rfl HNO.out rfl ?_)
    generalize (w3.alloc _).setRow _ _ = w6 at *;have HB6 := xH (trw.qi HB3.out HT3.out.b);have HO6 := xH (ownI_below HO3.out HT3.out.b);have HN6 := xH (trw.vO HT3.out.b HN3.out);have HC6 := xH HT3.out.c;clear HB3 HO3 HN3 HG3 HNO HT3;generalize w3.heap.size = V3 at *;by_cases hi0 : i = 0
    ·subst hi0;have hD0 : D = [] := List.eq_nil_of_length_eq_zero HDL.out;have hk1 := H1.out hD0;have c0 : w6.cell? ⟨V3, 0, none⟩ = some (.int .i64 1) := by have := HC6.out 0 _ rfl; rw [hk1] at this; simpa using this
     clear HM H1 HC6 HN6 HO6;first
      | (exfalso; omega)
      | (go_wp2_with fail; go_ret; exact ⟨rfl, HB6.out⟩)
    ·have hD0 : D ≠ [] := fun e => by have := HDL.out; rw [e] at this; exact hi0 (this.symm)
     obtain ⟨hk12, hkk⟩ := HM.out hD0;obtain ⟨ka, kc, hkv⟩ := kids_len HN6.out.2.2;have hklen : K.len = i + 1 := by rw [← kinds_len K, hkk, List.length_cons, HDL.out]
     rw [hklen] at hkv;have c0 : w6.cell? ⟨V3, 0, none⟩ = some (.int .i64 12) := by have := HC6.out 0 _ rfl; rw [hk12] at this; simpa using this
     have c11 : w6.cell? ⟨V3, 11, none⟩ = some (.slice ka (i + 1) kc) := by have := HC6.out 11 _ rfl; rw [hkv] at this; simpa using this
     obtain ⟨kb, ko, hka, hkc⟩ : ∃ kb ko, ka = some ⟨kb, ko, none⟩ ∧ ∀ j c, (1 :: D)[j]? = some c → w6.cell? ⟨kb, ko + j * 12, none⟩ = some (.int .i64 c) := by
      obtain ⟨a', c', e1, _, _, e4⟩ := HN6.out.2.2;simp only at e1 e4;rw [hkv] at e1;simp only [Value.slice.injEq] at e1;obtain ⟨rfl, _, rfl⟩ := e1;rcases e4 with e4 | ⟨b', o', e5, e6⟩
      ·omega
      ·exact ⟨b', o', e5, fun j c hj => fAt_kind e6 j c (by rw [hkk]; exact hj)⟩
     subst hka;obtain ⟨gb, gc, rfl, hg1, hg2, hgc⟩ := own_at HO6.out (by simp);rw [List.length_cons, HDL.out] at hg1 ⊢;have HKC := xH hkc;have HGC := xH hgc;have hi0I : ¬ ((i : Int) + 1 = 1) := by omega
     have hb1 : ((i : Int) + 1 == 1) = false := by simpa using hi0I
     have hne : (((i + 1 : Nat) : Int) != (i : Int) + 1) = false := by simp
     have hk20 : (i : Int) ≤ 20 := by omega
     clear HM H1 HC6 HN6 HO6 hkv hkk hklen hkc hgc;go_wp2_with fail
     go_loopw [15] (fun jv wr2 => ∃ j : Nat, jv = .int .i64 j ∧ j ≤ i + 1 ∧ Hid (Below w6.heap.size w6 wr2)) (fun jv _ => i + 1 - (intOf jv).toNat)
     case atStart => exact ⟨0, rfl, Nat.zero_le _, xH (Below.refl _ _)⟩
     case round =>
      obtain ⟨j, rfl, hj, HBR⟩ := hrel;by_cases hend : j = i + 1
      ·subst hend;have hjI : ¬ ((i + 1 : Nat) : Int) < (i : Int) + 1 := by omega
       go_wp2_with fail
       go_ret
       exact ⟨rfl, trw.qi HB6.out HBR.out⟩
      ·have hlt : j < i + 1 := by omega
       have hjI : (j : Int) < (i : Int) + 1 := by omega
       obtain ⟨c, hc⟩ : ∃ c, (1 :: D)[j]? = some c := ⟨_, List.getElem?_eq_getElem (by rw [List.length_cons, HDL.out]; exact hlt)⟩;have k0 := cellR (trw.qf HBR.out c0);have k11 := cellR (trw.qf HBR.out c11);have kk := cellR (trw.qf HBR.out (HKC.out j c hc));have kg := cellR (show wr.cell? ⟨gb, j, none⟩ = some (.int .i64 c) from by have := trw.qf HBR.out (HGC.out j c hc); rwa [Nat.zero_add] at this);have hadd := add_row kb ko j 12;have hcc : (c != c) = false := by simp
       have hj0 : (0 : Int) ≤ (j : Int) := by omega
       have hjL : (j : Int) < ((i + 1 : Nat) : Int) := by omega
       clear hc;go_wp2_with fail
       refine wp_region_quiet_below (by kernel_rfl) (by kernel_rfl) ?_
       repeat (go_big_quiet_step (fail))
       refine wpQuiet_nil ?_;intro _ hw';obtain ⟨⟨dq, osq⟩, hw''⟩ := hw';subst hw'';have HBQ := xH (trw.qi HBR.out (below_regrown wr dq osq));generalize grow (redrawn wr dq) osq = w9 at *;go_wp2_with fail
       go_roundw
       case rel => exact ⟨j + 1, by go_num, by omega, HBQ⟩
       case measure => simp [intOf]; omega
end Go.Proofs.YtnpcombfgdbhkaaDoor.psl
end
section
namespace Go.Proofs.YtnpcombfgdbhkaaDoor.psr
open sq
open Go Go.RowKit Go.ChangeShapes Go.WideShapes Go.ChangeAt psl
theorem recInts : Tryd.prog.readableRec 43 = true := by kernel_rfl
theorem rowInts : (43 : TypeId) < Tryd.prog.types.size := of_decide_eq_true (by kernel_rfl)
theorem plain_cell {w : World} {a : Addr} {v : Value} (h : w.cell? (a.add 0) = some v) : a.spot = none := by
 obtain ⟨b, off, spot⟩ := a;cases spot with
 | none => rfl
 | some s =>
  exfalso;have : ((⟨b, off, some s⟩ : Addr).add 0).spot.isSome = true := by unfold Addr.add; split <;> simp_all
  unfold World.cell? at h;split at h
  ·simp [this] at h
  ·simp at h
theorem open_numbers {H : Type} {enc : TypeId × Value → H} {W : World} {base : Nat} {v : Value} {d : DataW H} {ps : List MemPlace} (hval : Value.okWide Tryd.prog W .any base 43 v)
 (h : DataW.Trod enc Tryd.prog W 0 (fun _ => true) true 43 v d ps) : ∃ l, NsIn W v l := by
 obtain ⟨a0, len, cap, rfl⟩ := okWide_slice Tryd.underlying43 hval;obtain ⟨fuel, hf⟩ := h;rcases open_ints Tryd.underlying43 Tryd.underlying3 cellsInt hf with ⟨hcs, _⟩ | ⟨a, len', cap', zs, hcs, _, hl, hm, hz, _, hcell, hwz⟩
 ·simp [Value.cells] at hcs;obtain ⟨rfl, rfl, rfl⟩ := hcs;exact ⟨[], fun r hr => (by cases hr), _, _, rfl, by decide, Or.inl rfl⟩
 ·simp [Value.cells] at hcs;obtain ⟨rfl, rfl, rfl⟩ := hcs;simp only [if_true] at hz;unfold maxLen at hm;by_cases h0 : len = 0
  ·subst h0;exact ⟨[], fun r hr => (by cases hr), _, _, rfl, by decide, Or.inl rfl⟩
  ·have hp := plain_cell (hcell 0 (by omega));obtain ⟨b, off, spot⟩ := a;simp only at hp;subst hp;have hlen : (zs.take len).length = len := by rw [List.length_take]; omega
   refine ⟨zs.take len, fun x hx => wf_int (hwz _ (List.mem_of_mem_take hx)), some ⟨b, off, none⟩, cap, by rw [hlen], by rw [hlen]; omega, Or.inr ⟨b, off, rfl, fun i hi => ?_⟩⟩;rw [hlen] at hi;have := hcell i (by omega);have hplain : (⟨b, off, none⟩ : Addr).add i = ⟨b, off + i, none⟩ := by unfold Addr.add; split <;> simp_all
   rw [hplain] at this;rw [this];simp [List.getD, show i < zs.length by omega, hi]
end Go.Proofs.YtnpcombfgdbhkaaDoor.psr
end
