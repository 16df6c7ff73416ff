/- T -/
import Derived.Carry
import Derived.Deep.DeepCutAuto
import Derived.Deep.DeepHandedRow
import Derived.Deep.RegionHeld3
import Derived.Laws.Shifts
import Derived.Lib.BytesEntry
import Derived.Lib.LaidTab
import Derived.SizedLaws
import Derived.Stop.LaidErr
import Derived.Test.YtikjhfmmfpeaoaaGreatDoorCards
import Derived.Test.YtikjhfmmfpeaoaaGreatDoorTie
import Derived.Test.YtikjhfmmfpeaoaaGreatDoorBFc06
set_option maxHeartbeats 16000000
set_option maxRecDepth 1000000
section
namespace Go.Proofs.YtikjhfmmfpeaoaaGreatDoor.rtw
open sq
open Go Go.RowKit Go.Maps utfp utfw ucdp setp setw prp tkp rtp
open tkw (sg sg_bd vJ jM qK tkR qO qM vI)
structure Pat (S : ByteArray) (p : Pt) : Prop where
 g : p.g = sg S
 n : p.n = S.size
 le : S.size ≤ 1000
def txC (S : ByteArray) (p : Pt) : Array Value := #[.string S, .bool p.u, .bool p.x, .int .i64 p.most]
def txV (S : ByteArray) (p : Pt) : Value := .agg (txC S p)
structure XB (w : World) (B : Nat) (S : ByteArray) (p : Pt) : Prop where
 h : w.heap[B]? = some (.cells (txC S p) 61 (0, 0))
theorem zi {w : World} {B : Nat} {o : Obj} (h : w.heap[B]? = some o) : B < w.heap.size := by apply Classical.byContradiction;intro hn;rw [Array.getElem?_eq_none (by omega)] at h;cases h
theorem XB.below {w w' : World} {B k : Nat} {S : ByteArray} {p : Pt} (h : XB w B S p) (hb : Below k w w') (hk : B < k) : XB w' B S p := ⟨(hb.block B hk).trans h.h⟩
theorem XB.lt {w : World} {B : Nat} {S : ByteArray} {p : Pt} (h : XB w B S p) : B < w.heap.size := zi h.h
theorem XB.after {w w' : World} {B : Nat} {S : ByteArray} {p : Pt} (h : XB w B S p) (hb : Below w.heap.size w w') : XB w' B S p := h.below hb h.lt
structure XC (w : World) (B : Nat) (S : ByteArray) (p : Pt) : Prop where
 c0 : w.cell? ⟨B, 0, none⟩ = some (.string S)
 c1 : w.cell? ⟨B, 1, none⟩ = some (.bool p.u)
 c2 : w.cell? ⟨B, 2, none⟩ = some (.bool p.x)
 c3 : w.cell? ⟨B, 3, none⟩ = some (.int .i64 p.most)
theorem XB.c {w : World} {B : Nat} {S : ByteArray} {p : Pt} (h : XB w B S p) : XC w B S p := by have h := h.h;refine ⟨?_, ?_, ?_, ?_⟩ <;> (simp [World.cell?, h, txC])
def BB (r : Bool) (w : World) (e : Ending) (w' : World) : Prop := e = .returned (.bool r) ∧ Below w.heap.size w w'
def gtC (v : Value) : G → Array Value
 | .error x => #[.int .i64 0, .int .i64 0, .int .i64 0, .int .i64 0, v, .bool false, .int .i64 0, .int .i64 0, .int .i64 0, .string ⟨#[]⟩, .int .i64 0, .int .i64 0, .bool false, .int .i64 0, .int .i64 x.1, .int .i64 x.2]
 | .ok (none, b) => #[.int .i64 0, .int .i64 0, .int .i64 0, .int .i64 0, v, .bool false, .int .i64 0, .int .i64 0, .int .i64 0, .string ⟨#[]⟩, .int .i64 0, .int .i64 0, .bool false, .int .i64 b, .int .i64 0, .int .i64 0]
 | .ok (some t, b) => #[.int .i64 t.kind, .int .i64 t.at_, .int .i64 t.to, .int .i64 t.c, v, .bool t.neg, .int .i64 t.n, .int .i64 t.m, .int .i64 t.mode, .string t.name, .int .i64 t.on, .int .i64 t.off, .bool true, .int .i64 b, .int .i64 0, .int .i64 0]
def gtS : G → List Rg
 | .ok (some t, _) => t.set
 | _ => []
theorem jw (v : Value) : ∀ r : G, (gtC v r).size = 16
 | .error _ => rfl
 | .ok (none, _) => rfl
 | .ok (some _, _) => rfl
theorem jO {w : World} {b : Nat} {v : Value} {D : List Rg} (h : OwnR w b v D) : ∀ r : G, ∀ u ∈ (gtC v r).toList, u.oneCell' = true := by
 obtain ⟨x, y, rfl⟩ : ∃ x y, v = .slice x D.length y := qN h;intro r u hu;rcases r with x | ⟨_ | t, b⟩
 all_goals
  simp only [gtC, List.mem_cons, List.not_mem_nil, or_false] at hu;rcases hu with rfl | rfl | rfl | rfl | rfl | rfl | rfl | rfl | rfl | rfl | rfl | rfl | rfl | rfl | rfl | rfl <;> rfl
def GotB (w : World) (r : G) (e : Ending) (w' : World) : Prop := ∃ v, e = .returned (.agg (gtC v r)) ∧ OwnR w' w.heap.size v (gtS r) ∧ Below w.heap.size w w'
theorem gotInfo : (Tryz.prog.info? 70).map (·.size) = some 16 := by kernel_rfl
theorem sizeG (w : World) : (sizeOf 70).run Tryz.prog w = .ok 16 w := by kernel_rfl
theorem run_store_got (w : World) (g : Nat) (old cs : Array Value) (hg : w.heap[g]? = some (.cells old 70 (0, 0))) (hs : old.size = 16) (hc : cs.size = 16) (h1 : ∀ u ∈ cs.toList, u.oneCell' = true) :
 (storeVar 70 ⟨g, 0, none⟩ (.agg cs)).run Tryz.prog w = .ok () (w.setRow g cs) := by
 have h := run_storeCells_at (P := Tryz.prog) g 0 70 cs.toList 0 old w hg (by simp; omega) h1;have e : (old.toList.take (0 + 0) ++ cs.toList ++ old.toList.drop (0 + 0 + cs.toList.length)).toArray = cs := by have h2 : old.toList.drop (0 + 0 + cs.toList.length) = [] := List.drop_eq_nil_of_le (by simp; omega);rw [h2];simp
 rw [e] at h;unfold storeVar;simp [Sem.run_bind, Value.cells, hc, Result.andThen, h]
theorem qJ {ops : Array Oper} {rest : List Oper} {o : Oper} {a : Act} {w : World} {Q : Exit → Act → World → Prop} (hgd : o.guard = none) (hd : o.dst = none) (x y : Operand) (ho : o.op = .store 70 x y)
 (g : Nat) (hx : a.eval x = .pointer (some ⟨g, 0, none⟩)) (old cs : Array Value) (hg : w.heap[g]? = some (.cells old 70 (0, 0))) (hs : old.size = 16) (hc : cs.size = 16) (h1 : ∀ u ∈ cs.toList, u.oneCell' = true) (hy : a.eval y = .agg cs)
 (h : wpList Tryz.prog ops Q rest a (w.setRow g cs)) : wpList Tryz.prog ops Q (o :: rest) a w :=
 wpList_plain hgd fun K hK => by unfold Oper.wp execOp;simp only [ho, hx, hy, Instr.storeAt, Instr.sureAddr, Sem.run_bind, Sem.run_pure, Result.andThen_ok, run_store_got w g old cs hg hs hc h1];have := hK _ _ h;simpa [Oper.upon, hd, Act.put] using this
theorem qW {fn : Func} {p : Tmp} (h : fn.results = #[.cell p 70]) (tmps : Array Value) (w : World) (g : Nat) (cs : Array Value) (hp : tmps.getD p undef = .pointer (some ⟨g, 0, none⟩)) (hg : w.heap[g]? = some (.cells cs 70 (0, 0))) (hc : cs.size = 16) :
 (results fn tmps).run Tryz.prog w = .ok (.agg cs) w := by
 exact results_cell_row h tmps w g 70 cs (0, 0) _ hp hg Tryz.underlying70 rfl (by rw [gotInfo, hc])
theorem below_setRow {B : Nat} {a w : World} (h : Below B a w) {g : Nat} (hg : B ≤ g) (cs : Array Value) : Below B a (w.setRow g cs) :=
 h.trans ⟨rfl, rfl, rfl, by rw [tkw.setRow_size]; exact Nat.le_refl _, fun k hk => tkw.setRow_other w g k cs (by omega)⟩
theorem ownR_setRowG {w : World} {base g : Nat} {v : Value} {D : List Rg} {old cs : Array Value} (h : OwnR w base v D) (hg : w.heap[g]? = some (.cells old 70 (0, 0))) : OwnR (w.setRow g cs) base v D := by
 refine ⟨tkw.jJ h.1 fun k hk => tkw.setRow_other w g k cs ?_, h.2⟩;rintro rfl;obtain ⟨_, ⟨rfl, _⟩ | ⟨g1, c1, cu1, rfl, _, k1, _⟩⟩ := h.1
 ·cases hk
 ·simp only [Value.ownBlock, Option.some.injEq] at hk;subst hk;rw [hg] at k1;simp only [Option.some.injEq, Obj.cells.injEq] at k1;exact absurd k1.2.1 (by decide)
theorem got_end {w w1 : World} {v : Value} {r : G} {G0 : Nat} {old : Array Value} (hg : w1.heap[G0]? = some (.cells old 70 (0, 0))) (ho : OwnR w1 w.heap.size v (gtS r)) (hb : Below w.heap.size w w1) (hG : w.heap.size ≤ G0) : GotB w r (.returned (.agg (gtC v r))) (w1.setRow G0 (gtC v r)) :=
 ⟨v, rfl, ownR_setRowG ho hg, below_setRow hb hG _⟩
theorem has_list (L : List UInt8) {p : Pt} (hg : ∀ j, p.g j = ((L.getD j 0).toNat : Int)) (hn : p.n = L.length) : ∀ (l : List UInt8) (a : Nat), p.has l a = true ↔ (L.drop a).take l.length = l
 | [], a => by simp [Pt.has]
 | c :: l, a => by
  have ih := has_list L hg hn l (a + 1);unfold Pt.has;simp only [Bool.and_eq_true, decide_eq_true_eq, hn, ih, hg];by_cases ha : a < L.length
  ·rw [List.drop_eq_getElem_cons ha, List.length_cons, List.take_succ_cons, show L.getD a 0 = L[a] by simp [List.getD, ha]];simp only [List.cons.injEq];constructor
   ·rintro ⟨⟨_, h1⟩, h2⟩;exact ⟨UInt8.toNat_inj.1 (by omega), h2⟩
   ·rintro ⟨h1, h2⟩;exact ⟨⟨ha, by rw [h1]⟩, h2⟩
  ·have hd : L.drop a = [] := List.drop_eq_nil_of_le (by omega);rw [hd];simp [ha]
theorem extract_list (S : ByteArray) (i k : Nat) : (S.extract i (i + k)).toList = (S.data.toList.drop i).take k := by rw [Lib.toList_data, ByteArray.data_extract, Array.toList_extract];show (S.data.toList.drop i).take (i + k - i) = _;rw [Nat.add_sub_cancel_left]
theorem pat_g {S : ByteArray} {p : Pt} (h : Pat S p) (j : Nat) : p.g j = ((S.data.toList.getD j 0).toNat : Int) := by rw [h.g]; rfl
theorem pat_len {S : ByteArray} {p : Pt} (h : Pat S p) : p.n = S.data.toList.length := by rw [h.n]; exact Array.length_toList.symm
theorem has_ext {S : ByteArray} {p : Pt} (h : Pat S p) (l : List UInt8) (i : Nat) : ((S.extract i (i + l.length)).toList == l) = p.has l i := by rw [Bool.eq_iff_iff, has_list _ (pat_g h) (pat_len h), extract_list, beq_iff_eq]
theorem has_not {S : ByteArray} {p : Pt} (h : Pat S p) (l : List UInt8) (i : Nat) (hi : i ≤ p.n ∨ l ≠ []) (hl : S.size < i + l.length) : p.has l i = false := by
 rw [Bool.eq_false_iff];intro e;have e2 := (has_list _ (pat_g h) (pat_len h) l i).1 e;have h3 := congrArg List.length e2;rw [List.length_take, List.length_drop, ← pat_len h] at h3;have hn := h.n;rcases hi with hi | hi
 ·omega
 ·have : l.length ≠ 0 := fun e => hi (List.length_eq_zero_iff.1 e)
  omega
theorem qw (e a : Int) (w : World) : Calls Tryz.prog 50 #[.int .i64 e, .int .i64 a] w (GotB w (.error (e, a))) := by
 go_enter Tryz.func50, Tryz.ntmps50;go_wp2_with fail
 refine bodyPost_ret (qW rfl _ _ w.heap.size (gtC (.slice none 0 0) (.error (e, a))) rfl (heap_alloc_new _ _) rfl) rfl ?_;exact ⟨_, rfl, qm _ _, qK _ _⟩
def TokB (w : World) (v : Value) (t : Tk) (f b : Int) (e : Ending) (w' : World) : Prop := e = .returned (.agg #[.int .i64 t.kind, .int .i64 f, .int .i64 b, .int .i64 t.c, v, .bool t.neg, .int .i64 t.n, .int .i64 t.m, .int .i64 t.mode, .string t.name, .int .i64 t.on, .int .i64 t.off, .bool true, .int .i64 b, .int .i64 0, .int .i64 0]) ∧ Below w.heap.size w w'
theorem tok0_any (v : Value) (t : Tk) (f b : Int) (w : World) {D : List Rg} {k : Nat} (hv : OwnR w k v D) : Calls Tryz.prog 47 #[.agg (tkR v t), .int .i64 f, .int .i64 b] w (TokB w v t f b) := by
 obtain ⟨x, y, rfl⟩ : ∃ x y, v = .slice x D.length y := qN hv;generalize D.length = n at *;unfold tkR;clear hv;go_enter Tryz.func47, Tryz.ntmps47;go_wp2_with fail
 refine bodyPost_ret (qW rfl _ _ (w.heap.size + 1) _ rfl (by first | (rw [show w.heap.size + 1 = (World.alloc w _).heap.size from (World.size_alloc ..).symm]; exact heap_alloc_new _ _) | trace_state) rfl) rfl ?_;exact ⟨rfl, (qK _ _).trans ((qK _ _).mono (by simp [World.size_alloc]))⟩
theorem jG {w w' : World} {b : Nat} {v : Value} {D : List Rg} (h : OwnR w b v D) (hb : Below w.heap.size w w') : OwnR w' b v D :=
 ⟨tkw.jJ h.1 fun k hk => hb.block k (World.ownsRow.lt h.1 k hk).2, h.2⟩
theorem qF (v : Value) (t : Tk) (f b : Nat) (w : World) {k : Nat} (hv : OwnR w k v t.set) : Calls Tryz.prog 47 #[.agg (tkR v t), .int .i64 f, .int .i64 b] w (fun e w' => e = .returned (.agg (gtC v (gtok t f b))) ∧ OwnR w' k v (gtS (gtok t f b)) ∧ Below w.heap.size w w') :=
 (tok0_any v t f b w hv).mono fun _ _ ⟨h1, h2⟩ => ⟨h1, jG hv h2, h2⟩
structure FR (w : World) (B : Nat) (S : ByteArray) (p : Pt) (W : World) : Prop where
 hB : w.heap.size = B
 below : Below B w W
 x : XB W B S p
theorem FR.step {w W W' : World} {B : Nat} {S : ByteArray} {p : Pt} (h : FR w B S p W) (hb : Below W.heap.size W W') : FR w B S p W' :=
 ⟨h.hB, h.below.trans (hb.mono (Nat.le_of_lt h.x.lt)), h.x.after hb⟩
theorem FR.c {w W : World} {B : Nat} {S : ByteArray} {p : Pt} (h : FR w B S p W) : XC W B S p := h.x.c
theorem FR.bel {w W : World} {B : Nat} {S : ByteArray} {p : Pt} (h : FR w B S p W) : Below w.heap.size w W := by rw [h.hB]; exact h.below
structure FG (w : World) (B : Nat) (S : ByteArray) (p : Pt) (W : World) : Prop extends FR w B S p W where
 g : ∃ old, W.heap[B + 1]? = some (.cells old 70 (0, 0)) ∧ old.size = 16
theorem FG.step {w W W' : World} {B : Nat} {S : ByteArray} {p : Pt} (h : FG w B S p W) (hb : Below W.heap.size W W') : FG w B S p W' :=
 ⟨h.toFR.step hb, by obtain ⟨old, h1, h2⟩ := h.g; exact ⟨old, (hb.block _ (zi h1)).trans h1, h2⟩⟩
theorem zG {w W : World} {S : ByteArray} {p : Pt} (hW : w.alloc (.cells (txC S p) 61) = W) : FR w w.heap.size S p W := by subst hW;exact ⟨rfl, qK _ _, ⟨heap_alloc_new _ _⟩⟩
theorem fg_start {w W : World} {S : ByteArray} {p : Pt} (hW : (w.alloc (.cells (txC S p) 61)).alloc (.cells (gtC (.slice none 0 0) (.error (0, 0))) 70) = W) : FG w w.heap.size S p W := by subst hW;refine ⟨(zG rfl).step (qK _ _), gtC (.slice none 0 0) (.error (0, 0)), ?_, rfl⟩;rw [show w.heap.size + 1 = (w.alloc (.cells (txC S p) 61)).heap.size from (World.size_alloc ..).symm];exact heap_alloc_new _ _
theorem fg_end {w W : World} {B : Nat} {S : ByteArray} {p : Pt} {v : Value} {r : G} (h : FG w B S p W) {k : Nat} (ho : OwnR W k v (gtS r)) (hk : B ≤ k) : GotB w r (.returned (.agg (gtC v r))) (W.setRow (B + 1) (gtC v r)) := by obtain ⟨old, h1, h2⟩ := h.g;have hB := h.hB;exact got_end h1 (qM ho (by omega)) (by rw [hB]; exact h.below) (by omega)
theorem end_any (S : ByteArray) (p : Pt) (w : World) (hP : Pat S p) : Calls Tryz.prog 61 #[txV S p] w (GotB w (.error (20, p.n))) := by
 rw [hP.n];have h2 := hP.le;unfold txV txC;clear hP;go_enter Tryz.func61, Tryz.ntmps61;go_upto_region 1 with (fail)
 generalize hW : (w.alloc _).alloc _ = W;have F0 := xH (fg_start (S := S) (p := p) hW);obtain ⟨B, hB⟩ : ∃ B, w.heap.size = B := ⟨_, rfl⟩;rw [hB] at F0 ⊢;clear hW hB;obtain ⟨c0, c1, c2, c3⟩ := F0.out.c;go_wp2_with fail
 refine (qw _ _ _).mono ?_;rintro e w1 ⟨v, rfl, ho, hb⟩;have F1 := xH (F0.out.step hb);have HO := xH (qM ho (Nat.le_of_lt F0.out.x.lt));clear hb ho c0 c1 c2 c3;obtain ⟨old, hg, hz⟩ := F1.out.g;have HG := xH hg;clear hg;go_wp2_with (refine qJ rfl rfl _ _ rfl (B + 1) rfl _ _ HG.out hz (jw v _) (jO HO.out _) rfl ?_)
 refine bodyPost_ret (qW rfl _ _ (B + 1) _ rfl (setRow_heap _ _ _ _ _ _ HG.out) (jw v _)) rfl ?_;exact fg_end F1.out HO.out (Nat.le_refl _)
theorem qG (S : ByteArray) (p : Pt) (w : World) (hP : Pat S p) (i : Nat) (hi : i ≤ 100000) (l : List UInt8) (t : ByteArray) (ht : t = ⟨l.toArray⟩) (hl : l.length ≤ 1000) (hi2 : i ≤ p.n ∨ l ≠ []) : Calls Tryz.prog 25 #[txV S p, .int .i64 i, .string t] w (BB (p.has l i) w) := by
 have HS := xH hP.n;have h2 := hP.le;have H1 := xH (has_ext hP l i);have H2 := xH (has_not hP l i hi2);have htl : t.toList = l := by rw [ht, Lib.toList_data]
 have hts : t.size = l.length := by rw [ht]; simp [ByteArray.size]
 have HT := xH htl;have HZ := xH hts;have hz2 : t.size ≤ 1000 := by omega
 unfold txV txC;clear hP htl hts ht hi2;go_enter Tryz.func25, Tryz.ntmps25;go_wp2_with fail
 ·go_ret
  refine ⟨?_, qK _ _⟩;rw [← H1.out, ← HZ.out, ← HT.out];rfl
 ·rename_i h;rw [H2.out (by have := HZ.out; omega)]
  go_ret
  exact ⟨rfl, qK _ _⟩
theorem char_any (S : ByteArray) (p : Pt) (w : World) (hP : Pat S p) (i : Nat) (hi : i < p.n) : Calls Tryz.prog 26 #[txV S p, .int .i64 i] w (fun e w' => e = .returned (.tuple #[.int .i64 (p.char i).1, .int .i64 ((p.char i).2 : Nat)]) ∧ Below w.heap.size w w') := by
 have hn := hP.n;have h2 := hP.le;have hi2 : i ≤ 1000 := by omega
 have HQ := xH (show ((p.char i).1, (((p.char i).2 : Nat) : Int)) = nextP p.u (sg S) S.size i by have h := (tkw.char_pure (p := p) (by rw [hP.g]; exact sg_bd S) (a := i) (by omega)).1;rw [← h, hP.g, hP.n])
 generalize (p.char i).1 = c at *;generalize (p.char i).2 = z at *;unfold txV txC;clear hP hi;go_enter Tryz.func26, Tryz.ntmps26;go_upto_region 1 with (fail)
 generalize hW : (w.alloc _) = W;have F0 := xH (zG (S := S) (p := p) hW);obtain ⟨B, hB⟩ : ∃ B, w.heap.size = B := ⟨_, rfl⟩;rw [hB] at F0 ⊢;clear hW hB;obtain ⟨c0, c1, c2, c3⟩ := F0.out.c;obtain ⟨hcv, hsl⟩ := vJ W S h2;have HSL := xH hsl;have HBW := xH (jM W S);clear hsl;have F1 := xH (F0.out.step HBW.out);obtain ⟨d0, d1, d2, d3⟩ := F1.out.c;generalize Lib.bytesWorld W 5 S = W1 at *;go_wp2_with fail
 refine (rnext_any _ _ _ i p.u _ HSL.out).mono ?_;rintro e w1 ⟨rfl, hb⟩;rw [← HQ.out];have F2 := xH (F1.out.step hb);clear hb;go_wp2_with fail
 go_ret2
 exact ⟨rfl, F2.out.bel⟩
end Go.Proofs.YtikjhfmmfpeaoaaGreatDoor.rtw
end
section
namespace Go.Proofs.YtikjhfmmfpeaoaaGreatDoor.rtw
open Go Go.RowKit rtp setp setw
open tkw (qM)
theorem xG {w W : World} {B : Nat} {S : ByteArray} {p : Go.Proofs.YtikjhfmmfpeaoaaGreatDoor.tkp.Pt} (h : Hid (FG w B S p W)) : ∃ old, Hid (W.heap[B + 1]? = some (.cells old 70 (0, 0))) ∧ old.size = 16 := by obtain ⟨old, a, b⟩ := h.out.g;exact ⟨old, Lib.hid a, b⟩
theorem xR {ops : Array Oper} {rest : List Oper} {o : Oper} {a : Act} {w : World} {Q : Exit → Act → World → Prop} {g b : Nat} {old : Array Value} {v : Value} {D : List Rg} {r : G} {x y : Operand} (HG : Hid (w.heap[g]? = some (.cells old 70 (0, 0)))) (hz : old.size = 16) (HO : Hid (OwnR w b v D))
 (hgd : o.guard = none) (hd : o.dst = none) (ho : o.op = .store 70 x y) (hx : a.eval x = .pointer (some ⟨g, 0, none⟩)) (hy : a.eval y = .agg (gtC v r)) (h : wpList Tryz.prog ops Q rest a (w.setRow g (gtC v r))) : wpList Tryz.prog ops Q (o :: rest) a w :=
 qJ hgd hd x y ho g hx old _ HG.out hz (jw v _) (jO HO.out _) hy h
theorem xE {fn : Func} {p : Tmp} {tmps : Array Value} {w : World} {g : Nat} {old : Array Value} {v : Value} {r : G} (HG : Hid (w.heap[g]? = some (.cells old 70 (0, 0)))) (h : fn.results = #[.cell p 70]) (hp : tmps.getD p undef = .pointer (some ⟨g, 0, none⟩)) :
 (results fn tmps).run Tryz.prog (w.setRow g (gtC v r)) = .ok (.agg (gtC v r)) (w.setRow g (gtC v r)) :=
 qW h tmps _ g _ hp (setRow_heap _ _ _ _ _ _ HG.out) (jw v _)
theorem xO {W W' : World} {B : Nat} {S : ByteArray} {p : Go.Proofs.YtikjhfmmfpeaoaaGreatDoor.tkp.Pt} {v : Value} {D : List Rg} (hx : XB W B S p) (ho : OwnR W' W.heap.size v D) : Hid (OwnR W' B v D) := Lib.hid (qM ho (Nat.le_of_lt hx.lt))
end Go.Proofs.YtikjhfmmfpeaoaaGreatDoor.rtw
end
section
namespace Go.Proofs.YtikjhfmmfpeaoaaGreatDoor.ucdw
open sq
open Go Go.RowKit Go.ChangeShapes Go.WideShapes Go.ChangeAt ucdp
theorem own : ownKnob Tryz.prog.godebug = none := by kernel_rfl
theorem laidOut : laidOutB Tryz.prog = true := by kernel_rfl
theorem gThrees : Tryz.prog.globalNamed "lurcher/ucd.threes" = some 0 := by kernel_rfl
theorem gThreesType : (Tryz.prog.globals[0]?).map (·.type) = some 153 := by kernel_rfl
theorem cellsThree : Tryz.prog.cellsOf 152 = 3 := by kernel_rfl
theorem cellsInt : Tryz.prog.cellsOf 3 = 1 := by kernel_rfl
theorem cells_of_tab2 {H : Type} {enc : TypeId × Value → H} {P : Program} {w : World} {base : Nat} {sp : Nat → Bool} {held : Bool} {fuel : Nat} {t e i : TypeId} {n m : Nat} {k : IntKind} {cs : List Value} {zss : List (List Int)} {p : List MemPlace}
 (ht : P.underlying t = some (.array n e)) (he : P.underlying e = some (.array m i)) (hi : P.underlying i = some (.int k)) (hci : P.cellsOf i = 1) (hce : P.cellsOf e = m)
 (h : DataW.trod enc P w base sp held fuel t cs = some (.agg (zss.map fun zs => Lib.tabData k zs), p)) :
 ∀ a b, a < n → b < m → cs[a * m + b]? = ((zss.getD a []).map fun z => Value.int k z)[b]? := by
 cases fuel with
 | zero => simp [DataW.trod] at h
 | succ fuel =>
  simp only [DataW.trod, ht, hce] at h;split at h
  ·rename_i hl;obtain ⟨xs, hm, hx⟩ := Option.map_eq_some_iff.1 h;have hxs : xs.map (·.1) = zss.map fun zs => (Lib.tabData k zs : DataW H) := by have := congrArg Prod.fst hx;simpa using this
   intro a b ha hb;obtain ⟨y, hy, hf⟩ := Lib.mapM_at hm a a (by simp [ha]);have h2 : (xs.map (·.1))[a]? = some y.1 := by simp [hy]
   rw [hxs] at h2;simp only [List.getElem?_map, Option.map_eq_some_iff] at h2;obtain ⟨zs, hz, hz2⟩ := h2;have hf2 : DataW.trod enc P w base sp held fuel e ((cs.drop (a * m)).take m) = some (Lib.tabData k zs, y.2) := by rw [hz2]; exact hf
   have hc := Lib.cells_of_tab he hi hci hce hf2;have h1 : cs[a * m + b]? = ((cs.drop (a * m)).take m)[b]? := by rw [List.getElem?_take, if_pos hb, List.getElem?_drop]
   rw [h1, hc];simp [List.getD, hz]
  ·cases h
def laidList : List (String × DataW Unit) := [("lurcher/ucd.threes", Rows.laid_lurcher_ucd_threes)]
theorem tab3_of {W : World} (h : laidMetH Tryz.prog laidList W) : Tab3 W := by
 have h1 : laidMet Tryz.prog laidList W := h;obtain ⟨ps, ⟨g', t', cs, fuel, p, q, hg', ht', hvar, hd, _, _⟩, _⟩ := h1;obtain rfl := Option.some.inj (gThrees.symm.trans hg');obtain rfl := Option.some.inj (gThreesType.symm.trans ht');have hd2 : DataW.trod _ Tryz.prog W _ _ _ fuel 153 cs.toList = some (.agg (([[75, 107, 8490], [83, 115, 383], [181, 924, 956], [931, 962, 963]] : List (List Int)).map fun zs => Lib.tabData .i64 zs), p) := hd;have hc := cells_of_tab2 Tryz.underlying153 Tryz.underlying152 Tryz.underlying3 cellsInt cellsThree hd2;intro i hi;have e := World.var?_cell gThrees hvar i;rw [e];have h2 := hc (i / 3) (i % 3) (by omega) (by omega);rw [show i / 3 * 3 + i % 3 = i by omega] at h2;rw [← Array.getElem?_toList, h2];have hall : ∀ j : Fin 12, ((([[75, 107, 8490], [83, 115, 383], [181, 924, 956], [931, 962, 963]] : List (List Int)).getD (j.val / 3) [])[j.val % 3]?) = some (threes.getD j.val 0) := by decide
 rw [List.getElem?_map, hall ⟨i, hi⟩];rfl
def layCells (l : List Int) : Obj → Obj
 | .cells _ t frozen => .cells (l.map (Value.int .i64)).toArray t frozen
 | o => o
end Go.Proofs.YtikjhfmmfpeaoaaGreatDoor.ucdw
end
section
namespace Go.Proofs.YtikjhfmmfpeaoaaGreatDoor.flr
open sq
open Go Go.RowKit Go.ChangeShapes Go.WideShapes Go.ChangeAt utfp utfw
theorem cellsByte : Tryz.prog.cellsOf 5 = 1 := by kernel_rfl
theorem bytesByte : Tryz.prog.bytesOf 5 = 1 := by kernel_rfl
theorem recBytes : Tryz.prog.readableRec 22 = true := by kernel_rfl
theorem rowBytes : (22 : TypeId) < Tryz.prog.types.size := of_decide_eq_true (by kernel_rfl)
theorem wf_byte {n : Int} (h : (Lit.int .u8 n).wf = true) : 0 ≤ n ∧ n ≤ 255 := by
 have h2 : IntKind.u8.min ≤ n ∧ n ≤ IntKind.u8.max := by simpa [Lit.wf] using h
 rw [show IntKind.u8.min = 0 by decide, show IntKind.u8.max = 255 by decide] at h2;exact h2
theorem open_bytes {H : Type} {enc : TypeId × Value → H} {W : World} {base : Nat} {v : Value} {d : DataW H} {ps : List MemPlace} (hval : Value.okWide Tryz.prog W .any base 22 v)
 (h : DataW.Trod enc Tryz.prog W 0 (fun _ => true) true 22 v d ps) (hsz : ∀ elems spare, d = .slice elems spare → (elems.length + spare.length) * Tryz.prog.bytesOf 5 ≤ reachBytes) :
 ∃ n g, Sl W v n g := by
 obtain ⟨a0, len, cap, rfl⟩ := okWide_slice Tryz.underlying22 hval;obtain ⟨fuel, hf⟩ := h;rcases open_ints Tryz.underlying22 Tryz.underlying5 cellsByte hf with ⟨hcs, _⟩ | ⟨a, len', cap', zs, hcs, _, hl, hm, hz, hx, hcell, hwz⟩
 ·simp [Value.cells] at hcs;obtain ⟨rfl, rfl, rfl⟩ := hcs;exact ⟨0, fun _ => 0, fun _ => by simp, by simp, Or.inl ⟨rfl, _, _, rfl, by omega⟩⟩
 ·simp [Value.cells] at hcs;obtain ⟨rfl, rfl, rfl⟩ := hcs;simp only [Prod.mk.injEq] at hx;obtain ⟨rfl, _⟩ := hx;simp only [if_true] at hz;have hr := hsz _ _ rfl;rw [bytesByte] at hr;simp only [lits, List.length_map, List.length_take, List.length_drop, reachBytes] at hr;unfold maxLen at hm;have hgb : ∀ i, 0 ≤ zs.getD i 0 ∧ zs.getD i 0 ≤ 255 := by
   intro i;by_cases hi : i < zs.length
   ·simp only [List.getD, List.getElem?_eq_getElem hi, Option.getD_some];exact wf_byte (hwz _ (List.getElem_mem hi))
   ·simp [List.getD, List.getElem?_eq_none (Nat.le_of_not_lt hi)]
  by_cases h0 : len = 0
  ·subst h0;exact ⟨0, fun _ => 0, fun _ => by simp, by simp, Or.inl ⟨rfl, _, _, rfl, by omega⟩⟩
  ·obtain ⟨b, off, spot⟩ := a;have c0 := hcell 0 (by omega);cases spot with
   | some s =>
    exfalso;have : ((⟨b, off, some s⟩ : Addr).add 0).spot.isSome = true := by unfold Addr.add; split <;> simp_all
    unfold World.cell? at c0;split at c0
    ·simp [this] at c0
    ·simp at c0
   | none =>
    refine ⟨len, fun i => zs.getD i 0, hgb, by omega, Or.inr ⟨b, off, cap, rfl, ⟨hl, by omega⟩, fun i hi => ?_⟩⟩;have := hcell i (by omega);have hplain : (⟨b, off, none⟩ : Addr).add i = ⟨b, off + i, none⟩ := by unfold Addr.add; split <;> simp_all
    rw [hplain] at this;exact this
end Go.Proofs.YtikjhfmmfpeaoaaGreatDoor.flr
end
section
namespace Go.Proofs.YtikjhfmmfpeaoaaGreatDoor.tkw
open sq
open Go Go.RowKit Go.Maps utfp utfw ucdp setp setw prp tkp
def hv (s : ByteArray) : Nat → Int
 | 0 => 0
 | k + 1 => hv s k * 16 + hexV (sg s k)
end Go.Proofs.YtikjhfmmfpeaoaaGreatDoor.tkw
end
section
namespace Go.Proofs.YtikjhfmmfpeaoaaGreatDoor.tkw
open sq
open Go Go.RowKit Go.Maps utfp utfw ucdp setp setw prp tkp
theorem norm_prop {m : Int} (hm : m ≤ 1114111) {n : ByteArray} {S : List Rg} (hS : ∀ c, Has S c ↔ 0 ≤ c ∧ c ≤ 1114111 ∧ propP n c = true) : normR m S = normR m (propL n) :=
 prop_norm hm hS (ja hm S) (normR_has hm S)
end Go.Proofs.YtikjhfmmfpeaoaaGreatDoor.tkw
end
section
namespace Go.Proofs.YtikjhfmmfpeaoaaGreatDoor.tkw
open sq
open Go Go.RowKit Go.Maps utfp utfw ucdp setp setw prp tkp
theorem char_val {p : Pt} (hg : ∀ i, 0 ≤ p.g i ∧ p.g i ≤ 255) {a : Nat} (_ha : a ≤ p.n) : -1 ≤ (p.char a).1 ∧ (p.char a).1 ≤ 1114111 := by
 unfold Pt.char nextP;split
 ·exact ⟨Int.le_refl _, by simp⟩
 ·unfold stepv;simp only [Int.toNat_natCast];split
  ·rename_i h;obtain ⟨_, h⟩ := h;unfold seqAt at h ⊢;by_cases h1 : len0 (p.g a) = 0 ∨ (p.n : Int) - a < len0 (p.g a)
   ·rw [if_pos h1] at h;exact absurd h (by decide)
   ·rw [if_neg h1] at h ⊢;by_cases h2 : conts p.g a (len0 (p.g a) - 1).toNat = true ∧ wid (acc p.g a (head0 (len0 (p.g a))) (len0 (p.g a) - 1).toNat) = len0 (p.g a)
    ·rw [if_pos h2] at h ⊢;have := wid_cases (acc p.g a (head0 (len0 (p.g a))) (len0 (p.g a) - 1).toNat);simp only at h ⊢;omega
    ·rw [if_neg h2] at h;exact absurd h (by decide)
  ·have := hg a;simp only;omega
end Go.Proofs.YtikjhfmmfpeaoaaGreatDoor.tkw
end
section
namespace Go.Proofs.YtikjhfmmfpeaoaaGreatDoor.tkw
open sq
open Go Go.RowKit Go.Maps utfp utfw ucdp setp setw prp tkp
theorem ownR_new {w : World} {b0 B : Nat} {x y : Int} (hb : b0 ≤ B) (hB : B = w.heap.size) : OwnR (w.alloc (.cells #[.int .i64 x, .int .i64 y] 57)) b0 (.slice (some ⟨B, 0, none⟩) 1 1) [(x, y)] := by subst hB;refine ⟨⟨rfl, Or.inr ⟨w.heap.size, 1, #[.int .i64 x, .int .i64 y], rfl, hb, heap_alloc_new w _, Nat.le_refl _, by decide, rfl, rfl⟩⟩, fun h => absurd h (by simp)⟩
end Go.Proofs.YtikjhfmmfpeaoaaGreatDoor.tkw
end
section
namespace Go.Proofs.YtikjhfmmfpeaoaaGreatDoor.tkw
open sq
open Go Go.RowKit Go.Maps utfp utfw ucdp setp setw prp tkp
theorem insR_len : ∀ (a b : Int) (S : List Rg), (insR a b S).length ≤ S.length + 1
 | _, _, [] => by simp [insR]
 | a, b, r :: S => by
  unfold insR;split
  ·simp
  ·split
   ·have := insR_len a b S;simp only [List.length_cons];omega
   ·have := insR_len (min a r.1) (max b r.2) S;simp only [List.length_cons];omega
theorem yg (m : Int) : ∀ l : List Rg, (normR m l).length ≤ l.length
 | [] => Nat.le_refl _
 | r :: l => by
  have := yg m l;have h2 := insR_len (max r.1 0) (min r.2 m) (normR m l);unfold normR;split
  ·simp only [List.length_cons];omega
  ·simp only [List.length_cons];omega
theorem notF_len (m : Int) : ∀ (S : List Rg) (lo : Int), (notF m lo S).length ≤ S.length + 1
 | [], lo => by unfold notF addP;split <;> simp
 | r :: S, lo => by
  have := notF_len m S (r.2 + 1);unfold notF;split
  ·simp only [List.length_cons];omega
  ·simp only [List.length_cons];omega
theorem lookP_len (n : ByteArray) {k : Nat} : ∀ {M : List (ByteArray × List Rg)}, (∀ p ∈ M, p.2.length ≤ k) → (lookP M n []).length ≤ k
 | [], _ => Nat.zero_le _
 | (b, R) :: M, h => by
  unfold lookP;split
  ·exact h (b, R) (List.mem_cons_self ..)
  ·exact lookP_len n fun p hp => h p (List.mem_cons_of_mem _ hp)
theorem posixP_len (n : ByteArray) : (jC n).length ≤ 93 := lookP_len n fun p hp => by
 have := List.all_eq_true.1 (show (posix.all fun p => decide (p.2.length ≤ 93)) = true by decide +kernel) p hp;simpa using this
theorem escP_len (c : Int) : (escP c).length ≤ 93 := by
 unfold escP
 repeat' split
 all_goals simp
theorem has_lt {p : Pt} {c : UInt8} {l : List UInt8} {a : Nat} (h : p.has (c :: l) a = true) : a < p.n := by unfold Pt.has at h;simp only [Bool.and_eq_true, decide_eq_true_eq] at h;exact h.1.1
def Ch (t : Tk) : Prop := -1 ≤ t.c ∧ t.c ≤ 16777216
theorem jb {w : World} {ops : Array Oper} {rest : List Oper} {o : Oper} {a : Act} {Q : Exit → Act → World → Prop} (hgd : o.guard = none) (s x : Operand)
 (ho : o.op = .call { callee := .builtin .append, args := #[s, x], argTypes := #[24, 24] }) (base : Nat) (v : Value) (D : List Rg) (hs : a.eval s = v) (hown : OwnR w base v D)
 (b2 : Nat) (v2 : Value) (N : List Rg) (hx : a.eval x = v2) (hN : OwnR w b2 v2 N) (hlen : D.length ≤ 100000000) (hlen2 : N.length ≤ 100000000) (hbase : base ≤ w.heap.size)
 (h : ∀ v' w', OwnR w' base v' (D ++ N) → w.grownBy w' v.ownBlock → wpList Tryz.prog ops Q rest (a.put o.dst v') w') :
 wpList Tryz.prog ops Q (o :: rest) a w := by
 obtain ⟨i0, hi, hz0, hz1, hz2⟩ := info_parts infoRange;by_cases hE : N = []
 ·subst hE;refine wpList_append_own_none hgd s x _ ho base 57 i0 2 Tryz.underlying24 hi v _ _ hs hown.1 (hx.trans (hN.2 rfl)) ?_;refine h v w ?_ ⟨rfl, rfl, rfl, Nat.le_refl _, fun _ _ _ => rfl⟩;simpa using hown
 ·obtain ⟨hl, ⟨_, h0⟩ | ⟨g, cap, cur, rfl, hg0, hgb, hc1, hc2, hc3, hc4⟩⟩ := hN.1
  ·exact absurd (List.length_eq_zero_iff.1 h0) hE
  ·have hcells := World.ownsRow.cells hN.1 (g := g) rfl;refine wpList_append_own_at w hgd s x _ ho base 57 i0 (.agg #[.int .i64 0, .int .i64 0]) 2 16 Tryz.underlying24 hi hz0 hz1 hz2 rfl (by decide) v _ _ hs hown.1 ⟨g, 0, none⟩ N.length cap (rcs N) hx hl hcells ?_ (by unfold maxLen; omega) (by omega) hbase ?_
   ·intro u hu;unfold rcs at hu;obtain ⟨r, _, hr⟩ := List.mem_flatMap.1 hu;simp only [List.mem_cons, List.not_mem_nil, or_false] at hr;rcases hr with rfl | rfl <;> rfl
   ·intro v' w' hown' hgr hnil _;refine h v' w' ⟨?_, fun hD => ?_⟩ hgr
    ·have e : rcs (D ++ N) = rcs D ++ rcs N := by simp [rcs]
     rw [e];simpa using hown'
    ·exact absurd (List.append_eq_nil_iff.1 hD).2 hE
end Go.Proofs.YtikjhfmmfpeaoaaGreatDoor.tkw
end
section
namespace Go.Proofs.YtikjhfmmfpeaoaaGreatDoor.tkw
open sq
open Go Go.RowKit Go.Maps utfp utfw ucdp setp setw prp tkp
structure Poke (g : Nat) (w w' : World) : Prop where
 os : w'.os = w.os
 tape : w'.tape = w.tape
 output : w'.output = w.output
 size : w.heap.size ≤ w'.heap.size
 other : ∀ k, k ≠ g → w'.heap[k]? = w.heap[k]?
theorem Poke.trans {g : Nat} {a b c : World} (h : Poke g a b) (k : Poke g b c) : Poke g a c := ⟨k.os.trans h.os, k.tape.trans h.tape, k.output.trans h.output, Nat.le_trans h.size k.size, fun i hi => (k.other i hi).trans (h.other i hi)⟩
theorem Kept.poke {L B g : Nat} {a w w' : World} (h : Kept B L a w) (hp : Poke g w w') (hg : B ≤ g) : Kept B L a w' := h.trans ⟨hp.os, hp.tape, hp.output, hp.size, fun k hk _ => hp.other k (by omega)⟩
end Go.Proofs.YtikjhfmmfpeaoaaGreatDoor.tkw
end
section
namespace Go.Proofs.YtikjhfmmfpeaoaaGreatDoor.tkw
open sq
open Go Go.RowKit Go.Maps utfp utfw ucdp setp setw prp tkp
theorem optV_lt (c : Int) : optV c < 32 := by
 unfold optV
 repeat' split
 all_goals decide
theorem bits_or {x y : Nat} (hx : x < 32) (hy : y < 32) : bits BinOp.or IntKind.i64 (x : Int) (y : Int) = ((x ||| y : Nat) : Int) := by
 have h : ((List.range 32).all fun x => (List.range 32).all fun y => decide (bits BinOp.or IntKind.i64 (x : Int) (y : Int) = ((x ||| y : Nat) : Int))) = true := by decide +kernel
 have h2 := List.all_eq_true.1 (List.all_eq_true.1 h x (List.mem_range.2 hx)) y (List.mem_range.2 hy);exact of_decide_eq_true h2
end Go.Proofs.YtikjhfmmfpeaoaaGreatDoor.tkw
end
section
namespace Go.Proofs.YtikjhfmmfpeaoaaGreatDoor.tkw
open sq
open Go Go.RowKit Go.Maps utfp utfw ucdp setp setw prp tkp
theorem qy {s : ByteArray} {l : List UInt8} (h : ¬ s = ⟨l.toArray⟩) : (s.toList == l) = false := by
 have e : (⟨l.toArray⟩ : ByteArray).toList = l := by rw [Lib.toList_data]
 have := prw.beqS s ⟨l.toArray⟩;rw [e] at this;rw [this];simpa using h
theorem jR {s : ByteArray} {l : List UInt8} (h : s = ⟨l.toArray⟩) : (s.toList == l) = true := by
 have e : (⟨l.toArray⟩ : ByteArray).toList = l := by rw [Lib.toList_data]
 have := prw.beqS s ⟨l.toArray⟩;rw [e] at this;rw [this];simpa using h
theorem emp_n {s : ByteArray} (h : ¬ s = ⟨#[]⟩) : s.toList.isEmpty = false := by
 have := qy (l := []) h;cases hs : s.toList with
 | nil => rw [hs] at this; exact absurd this (by decide)
 | cons x l => rfl
theorem emp_y {s : ByteArray} (h : s = ⟨#[]⟩) : s.toList.isEmpty = true := by subst h;rw [show (⟨#[]⟩ : ByteArray).toList = [] from Lib.toList_data _];rfl
end Go.Proofs.YtikjhfmmfpeaoaaGreatDoor.tkw
end
section
namespace Go.Proofs.YtikjhfmmfpeaoaaGreatDoor.tkp
open sq
open Go utfp ucdp setp prp tkw
theorem has_one {p : Pt} {c : UInt8} {a : Nat} : p.has [c] a = (decide (a < p.n) && decide (p.g a = (c.toNat : Int))) := by simp [Pt.has]
end Go.Proofs.YtikjhfmmfpeaoaaGreatDoor.tkp
end
section
namespace Go.Proofs.YtikjhfmmfpeaoaaGreatDoor.tkp
open sq
open Go utfp ucdp setp prp tkw
theorem run_stop {p : Pt} {fits : Int → Bool} : ∀ {l k a : Nat}, (∀ i, i < l → a + i < p.n ∧ fits (p.g (a + i)) = true) → (a + l = p.n ∨ fits (p.g (a + l)) = false) → l ≤ k → p.run fits k a = a + l
 | 0, k, a, _, h, _ => by
  cases k with
  | zero => rfl
  | succ k =>
   unfold Pt.run;rw [if_neg]
   ·rfl
   ·rcases h with h | h
    ·simp only [Bool.and_eq_true, decide_eq_true_eq]; omega
    ·rw [show fits (p.g a) = false from h]; simp
 | l + 1, k, a, h1, h2, h3 => by obtain ⟨k, rfl⟩ : ∃ q, k = q + 1 := ⟨k - 1, by omega⟩;have h0 := h1 0 (by omega);unfold Pt.run;rw [if_pos (by simp only [Bool.and_eq_true, decide_eq_true_eq]; exact ⟨h0.1, h0.2⟩)];rw [run_stop (l := l) (k := k) (a := a + 1) (fun i hi => by have := h1 (i + 1) (by omega); rwa [show a + 1 + i = a + (i + 1) by omega]) (by rwa [show a + 1 + l = a + (l + 1) by omega]) (by omega)];omega
end Go.Proofs.YtikjhfmmfpeaoaaGreatDoor.tkp
end
section
namespace Go.Proofs.YtikjhfmmfpeaoaaGreatDoor.rtw
open sq
open Go Go.RowKit Go.Maps utfp utfw ucdp setp setw prp tkp rtp
open tkw (sg sg_bd vJ jM qK tkR qO qM vI)
theorem gb {S : ByteArray} {p : Pt} (h : Pat S p) : ∀ (i : Nat) (hi : i < S.size), ((S[i]'hi).toNat : Int) = p.g i := by
 intro i hi;rw [pat_g h i];have : i < S.data.toList.length := by rw [Array.length_toList]; exact hi
 rw [show S.data.toList.getD i 0 = S.data.toList[i] by rw [List.getD, List.getElem?_eq_getElem this]; rfl, Array.getElem_toList];rfl
theorem jS {S : ByteArray} {p : Pt} (h : Pat S p) (i : Nat) : 0 ≤ p.g i ∧ p.g i ≤ 255 := by rw [h.g]; exact sg_bd S i
def Same (v : Value) (w : World) (e : Ending) (w' : World) : Prop := e = .returned v ∧ w = w'
theorem digit_any (c : Int) (w : World) (_h0 : 0 ≤ c) (_h1 : c ≤ 255) : Calls Tryz.prog 75 #[.int .u8 c] w (Same (.bool (isDig c)) w) := by
 by_cases a : 48 ≤ c
 ·by_cases b : c ≤ 57
  ·have HR := xH (show isDig c = true by simp [isDig, a, b]);go_enter Tryz.func75, Tryz.ntmps75
   go_wp2
   go_ret
   rw [HR.out];exact ⟨rfl, rfl⟩
  ·have HR := xH (show isDig c = false by simp [isDig, b]);go_enter Tryz.func75, Tryz.ntmps75
   go_wp2
   go_ret
   rw [HR.out];exact ⟨rfl, rfl⟩
 ·have HR := xH (show isDig c = false by simp [isDig, a]);go_enter Tryz.func75, Tryz.ntmps75
  go_wp2
  go_ret
  rw [HR.out];exact ⟨rfl, rfl⟩
theorem letter_any (c : Int) (w : World) (h0 : 0 ≤ c) (h1 : c ≤ 255) : Calls Tryz.prog 68 #[.int .u8 c] w (Same (.bool (isLet c)) w) := by
 by_cases a : 97 ≤ c
 ·by_cases b : c ≤ 122
  ·have HR := xH (show isLet c = true by simp [isLet, a, b]);go_enter Tryz.func68, Tryz.ntmps68
   go_wp2
   go_ret
   rw [HR.out];exact ⟨rfl, rfl⟩
  ·have HR := xH (show isLet c = false by simp [isLet, b]; omega);have d : ¬ c ≤ 90 := by omega
   have d2 : 65 ≤ c := by omega
   go_enter Tryz.func68, Tryz.ntmps68
   go_wp2
   go_ret
   rw [HR.out];exact ⟨rfl, rfl⟩
 ·by_cases b : 65 ≤ c
  ·by_cases d : c ≤ 90
   ·have HR := xH (show isLet c = true by simp [isLet, b, d]);go_enter Tryz.func68, Tryz.ntmps68
    go_wp2
    go_ret
    rw [HR.out];exact ⟨rfl, rfl⟩
   ·have HR := xH (show isLet c = false by simp [isLet, a, d]);go_enter Tryz.func68, Tryz.ntmps68
    go_wp2
    go_ret
    rw [HR.out];exact ⟨rfl, rfl⟩
  ·have HR := xH (show isLet c = false by simp [isLet, a, b]);go_enter Tryz.func68, Tryz.ntmps68
   go_wp2
   go_ret
   rw [HR.out];exact ⟨rfl, rfl⟩
def hexN (c : Int) : Int := if zn c = true then hexV c else -1
def simN (c : Int) : Int := if ji c = 0 then -1 else ji c
theorem isHexd_dig {c : Int} (h : isDig c = true) : zn c = true := by simp [zn, h]
theorem dig_bd {c : Int} : isDig c = true ↔ 48 ≤ c ∧ c ≤ 57 := by simp [isDig]
theorem hex_any (c : Int) (w : World) (h0 : 0 ≤ c) (h1 : c ≤ 255) : Calls Tryz.prog 89 #[.int .u8 c] w (Same (.int .i64 (hexN c)) w) := by
 have D := xH (digit_any c w h0 h1);cases hd : isDig c with
 | true =>
  have := dig_bd.1 hd;have HR := xH (show hexN c = c - 48 by unfold hexN; rw [if_pos (isHexd_dig hd)]; unfold hexV; rw [if_pos this.2]);rw [hd] at D;clear hd;go_enter Tryz.func89, Tryz.ntmps89;go_wp2_with fail
  refine D.out.mono ?_;rintro e w1 ⟨rfl, rfl⟩
  go_wp2
  go_ret
  rw [HR.out];exact ⟨rfl, rfl⟩
 | false =>
  rw [hd] at D;have hnd : ¬ (48 ≤ c ∧ c ≤ 57) := fun e => by rw [dig_bd.2 e] at hd; cases hd
  by_cases a : 97 ≤ c ∧ c ≤ 102
  ·obtain ⟨a1, a2⟩ := a;have HR := xH (show hexN c = c - 97 + 10 by unfold hexN; rw [if_pos (by simp [zn, a1, a2])]; unfold hexV; rw [if_neg (by omega), if_neg (by omega)]; omega);clear hd hnd;go_enter Tryz.func89, Tryz.ntmps89;go_wp2_with fail
   refine D.out.mono ?_;rintro e w1 ⟨rfl, rfl⟩
   go_wp2
   go_ret
   rw [HR.out];exact ⟨rfl, rfl⟩
  ·by_cases b : 65 ≤ c ∧ c ≤ 70
   ·obtain ⟨a1, a2⟩ := b;have a3 : ¬ 97 ≤ c := by omega
    have HR := xH (show hexN c = c - 65 + 10 by unfold hexN; rw [if_pos (by simp [zn, a1, a2])]; unfold hexV; rw [if_neg (by omega), if_pos (by omega)]; omega);clear hd hnd a;go_enter Tryz.func89, Tryz.ntmps89;go_wp2_with fail
    refine D.out.mono ?_;rintro e w1 ⟨rfl, rfl⟩
    go_wp2
    go_ret
    rw [HR.out];exact ⟨rfl, rfl⟩
   ·have HR := xH (show hexN c = -1 by unfold hexN; rw [if_neg (by simp [zn, hd]; omega)]);rcases (show (c < 65) ∨ (70 < c ∧ c < 97) ∨ (102 < c) by omega) with x | ⟨x, y⟩ | x
    all_goals
     clear hd hnd a b;go_enter Tryz.func89, Tryz.ntmps89;go_wp2_with fail
     refine D.out.mono ?_;rintro e w1 ⟨rfl, rfl⟩
     go_wp2
     go_ret
     rw [HR.out];exact ⟨rfl, rfl⟩
theorem simple_any (c : Int) (w : World) : Calls Tryz.prog 62 #[.int .i64 c] w (Same (.int .i64 (simN c)) w) := by
 by_cases h : c = 97 ∨ c = 101 ∨ c = 102 ∨ c = 110 ∨ c = 114 ∨ c = 116
 ·rcases h with rfl | rfl | rfl | rfl | rfl | rfl
  all_goals
   go_enter Tryz.func62, Tryz.ntmps62
   go_wp2
   go_ret
   exact ⟨rfl, rfl⟩
 ·have h1 : ¬ c = 97 := by omega
  have h2 : ¬ c = 101 := by omega
  have h3 : ¬ c = 102 := by omega
  have h4 : ¬ c = 110 := by omega
  have h5 : ¬ c = 114 := by omega
  have h6 : ¬ c = 116 := by omega
  have HR := xH (show simN c = -1 by simp [simN, ji, h1, h2, h3, h4, h5, h6]);clear h;go_enter Tryz.func62, Tryz.ntmps62
  go_wp2
  go_ret
  rw [HR.out];exact ⟨rfl, rfl⟩
theorem assert_any (c : Int) (w : World) : Calls Tryz.prog 64 #[.int .i64 c] w (Same (.int .i64 (vZ c)) w) := by
 by_cases h : c = 98 ∨ c = 66 ∨ c = 65 ∨ c = 122 ∨ c = 90 ∨ c = 71
 ·rcases h with rfl | rfl | rfl | rfl | rfl | rfl
  all_goals
   go_enter Tryz.func64, Tryz.ntmps64
   go_wp2
   go_ret
   exact ⟨rfl, rfl⟩
 ·have h1 : ¬ c = 98 := by omega
  have h2 : ¬ c = 66 := by omega
  have h3 : ¬ c = 65 := by omega
  have h4 : ¬ c = 122 := by omega
  have h5 : ¬ c = 90 := by omega
  have h6 : ¬ c = 71 := by omega
  have HR := xH (show vZ c = 0 by simp [vZ, h1, h2, h3, h4, h5, h6]);clear h;go_enter Tryz.func64, Tryz.ntmps64
  go_wp2
  go_ret
  rw [HR.out];exact ⟨rfl, rfl⟩
end Go.Proofs.YtikjhfmmfpeaoaaGreatDoor.rtw
end
section
namespace Go.Proofs.YtikjhfmmfpeaoaaGreatDoor.rtw
open sq
open Go Go.RowKit Go.Maps utfp utfw ucdp setp setw prp tkp rtp
open tkw (sg sg_bd vJ jM qK tkR qO qM vI)
def numV (v : Int) : Int := if 255 < v then 1000 else v
theorem val_in {p : Pt} {a : Nat} : ∀ {l : Nat}, (∀ i, i < l → a + i < p.n ∧ isDig (p.g (a + i)) = true) → 0 ≤ p.val a l ∧ p.val a l ≤ 256
 | 0, _ => by simp [Pt.val]
 | l + 1, h => by
  have ih := val_in (l := l) fun i hi => h i (by omega)
  have := dig_bd.1 (h l (by omega)).2;unfold Pt.val;omega
theorem num_of {p : Pt} {a l : Nat} (hp : p.n ≤ 1000) (h : ∀ i, i < l → a + i < p.n ∧ isDig (p.g (a + i)) = true) (hs : a + l = p.n ∨ isDig (p.g (a + l)) = false) : num p a = (numV (p.val a l), a + l, decide (255 < p.val a l)) := by
 have hl : l ≤ 1000 := by
  rcases l with _ | l
  ·omega
  ·have := (h l (by omega)).1; omega
 have hr : p.run isDig 1000 a = a + l := run_stop h hs hl;unfold num Pt.digits numV;rw [hr, Nat.add_sub_cancel_left]
theorem numV_in {v : Int} (h0 : 0 ≤ v) (h1 : v ≤ 256) : 0 ≤ numV v ∧ numV v ≤ 1000 := by unfold numV; split <;> omega
def NumRel (w : World) (B : Nat) (S : ByteArray) (p : Pt) (a : Nat) (vi vn vg : Value) (wr : World) : Prop :=
 ∃ l : Nat, a + l ≤ S.size ∧ Hid (∀ i, i < l → a + i < p.n ∧ isDig (p.g (a + i)) = true) ∧ vi = .int .i64 ((a + l : Nat) : Int) ∧ vn = .int .i64 (numV (p.val a l)) ∧ vg = .bool (decide (255 < p.val a l)) ∧ FR w B S p wr
theorem vY (S : ByteArray) (p : Pt) (w : World) (hP : Pat S p) (a : Nat) (ha : a ≤ p.n) : Calls Tryz.prog 49 #[txV S p, .int .i64 a] w (fun e w' => e = .returned (.tuple #[.int .i64 (num p a).1, .int .i64 ((num p a).2.1 : Nat), .bool (num p a).2.2]) ∧ Below w.heap.size w w') := by
 have hn := hP.n;have h2 := hP.le;rw [hn] at ha;have HP := xH hP;have HN := xH hn;unfold txV txC;clear hP hn;go_enter Tryz.func49, Tryz.ntmps49;go_upto_region 1 with (fail)
 generalize hW : (w.alloc _) = W;have F0 := xH (zG (S := S) (p := p) hW);obtain ⟨B, hB⟩ : ∃ B, w.heap.size = B := ⟨_, rfl⟩;rw [hB] at F0 ⊢;clear hW hB;go_wp2_with fail
 go_loopw [1, 7, 8] (fun vi vn vg wr => NumRel w B S p a vi vn vg wr) (fun vi _ _ _ => S.size - (intOf vi).toNat)
 case atStart => exact ⟨0, ha, xH (fun i h => absurd h (Nat.not_lt_zero i)), rfl, rfl, rfl, F0.out⟩
 case round =>
  obtain ⟨l, hl, hd, rfl, rfl, rfl, hF⟩ := hrel;have F1 := xH hF;clear hF;obtain ⟨c0, c1, c2, c3⟩ := F1.out.c;have hgb := gb HP.out;have HV := xH (val_in hd.out);obtain ⟨hv0, hv1⟩ := numV_in HV.out.1 HV.out.2;by_cases hlt : a + l < S.size
  ·have hbd := jS HP.out (a + l);generalize hVV : numV (p.val a l) = V at *;have HVV := xH hVV;clear hVV;go_wp2_with fail
   refine (digit_any _ _ hbd.1 hbd.2).mono ?_;rintro e w1 ⟨rfl, rfl⟩;cases hdg : isDig (p.g (a + l)) with
   | false =>
    go_wp2_with fail
    go_ret3
    rw [num_of (l := l) (by rw [HN.out]; exact h2) hd.out (Or.inr hdg), HVV.out];exact ⟨rfl, F1.out.bel⟩
   | true =>
    have h10 := dig_bd.1 hdg;have HD := xH (show ∀ i, i < l + 1 → a + i < p.n ∧ isDig (p.g (a + i)) = true from fun i hi => by
     by_cases e : i = l
     ·subst e; exact ⟨by rw [HN.out]; exact hlt, hdg⟩
     ·exact hd.out i (by omega))
    have hvs : p.val a (l + 1) = min (p.val a l * 10 + (p.g (a + l) - 48)) 256 := rfl;have HVS := xH hvs;clear hvs;obtain ⟨hb0, hb1⟩ := hbd;obtain ⟨hb2, hb3⟩ := h10;go_wp2_with fail
    ·rename_i hx;refine ⟨⟨l + 1, by omega, HD, rfl, ?_, ?_, F1.out⟩, by simp only [intOf]; omega⟩
     ·have h1 := HV.out;have h2 := HVS.out;have h3 := HVV.out;rw [show numV (p.val a (l + 1)) = 1000 by unfold numV at h3 ⊢; split at h3 <;> rw [if_pos] <;> omega]
     ·have h1 := HV.out;have h2 := HVS.out;have h3 := HVV.out;rw [decide_eq_true];unfold numV at h3;split at h3 <;> omega
    ·rename_i hx;have h1 := HV.out;have h2 := HVS.out;have h3 := HVV.out;have h4 : p.val a l ≤ 255 := by unfold numV at h3; split at h3 <;> omega
     have h5 : V = p.val a l := by unfold numV at h3; rw [if_neg (by omega)] at h3; exact h3.symm
     refine ⟨⟨l + 1, by omega, HD, rfl, ?_, ?_, F1.out⟩, by simp only [intOf]; omega⟩
     ·rw [show numV (p.val a (l + 1)) = V * 10 + p.g (a + l) - 48 by unfold numV; rw [if_neg (by omega)]; omega]
     ·rw [decide_eq_false (by omega), decide_eq_false (by omega)]
  ·go_wp2_with fail
   go_ret3
   rw [num_of (l := l) (by rw [HN.out]; exact h2) hd.out (Or.inl (by rw [HN.out]; omega))];exact ⟨rfl, F1.out.bel⟩
end Go.Proofs.YtikjhfmmfpeaoaaGreatDoor.rtw
end
section
namespace Go.Proofs.YtikjhfmmfpeaoaaGreatDoor.setw
open sq
open Go Go.RowKit bulk ucdp ucdw setp
theorem join2_any (v1 v2 : Value) (l1 l2 : List Rg) (most : Int) (w : World) (hv1 : RsAt w v1 l1) (hv2 : RsAt w v2 l2) (hl1 : l1.length ≤ 100000) (hl2 : l2.length ≤ 100000) (h1 : -9223372036854775808 ≤ most) (h2 : most ≤ 9223372036854775807) :
 Calls Tryz.prog 58 #[.int .i64 2, v1, v2, .int .i64 most] w (JoinB 2 l1 l2 (min most 1114111) w) := by
 have HV1 := xH hv1;have HV2 := xH hv2;obtain ⟨a1, q1, rfl⟩ := jg hv1;obtain ⟨a2, q2, rfl⟩ := jg hv2;have HL := xH (show ([] : List Rg).length + l1.length ≤ 100000000 by simp; omega);have HL2 := xH (show ([] ++ l1 : List Rg).length + l2.length ≤ 100000000 by simp; omega);have HL3 := xH (show ([] ++ l1 ++ l2 : List Rg).length ≤ 1000000 by simp; omega);have HL4 := xH hl1;have HL5 := xH hl2;have HM := xH h1;have HM2 := xH h2;clear hv1 hv2 hl1 hl2 h1 h2;go_enter Tryz.func58, Tryz.ntmps58;go_wp2_with (first
  | (at_builtin; refine jb rfl _ _ rfl w.heap.size (.slice none 0 0) [] rfl (qm _ _) _ l1 rfl HV1.out HL.out (Nat.le_refl _) ?_; intro va wa hoa hba; have HOa := xH hoa; have HBa := xH (hba _ _ (Below.refl _ _) (Nat.le_refl _)); clear hoa hba)
  | (at_builtin; refine jb rfl _ _ rfl w.heap.size va ([] ++ l1) rfl HOa.out _ l2 rfl (jl HV2.out HBa.out) HL2.out HBa.out.size ?_; intro vb wb hob hbb; have HOb := xH hob; have HBb := xH (hbb _ _ HBa.out (Nat.le_refl _)); clear hob hbb))
 refine (edges_any vb ([] ++ l1 ++ l2) most wb (vP HOb.out (fun r hr => by rw [List.nil_append] at hr; exact (List.mem_append.1 hr).elim (fun h => HV1.out.1 r h) (fun h => HV2.out.1 r h))) HL3.out HM.out HM2.out).mono ?_;rintro e w4 ⟨ve, E, rfl, hE, hEd, hb4⟩;rw [List.nil_append] at hEd;obtain ⟨ae, qe, rfl⟩ := intsAt_len hE;have HE := xH hE;have HD := xH hEd;have HB4 := xH (HBb.out.trans (hb4.mono HBb.out.size));have hEl : E.length ≤ 1000000 := by
  rcases hEd with ⟨h, _⟩ | ⟨_, h⟩
  ·rw [h]; simp
  ·have := h.2.2;have := HL4.out;have := HL5.out;simp only [List.length_append] at *;omega
 clear hE hEd hb4;go_wp2_with fail
 go_loopw [11, 12] (fun v i wr => JoRel 2 l1 l2 E w4 v i wr) (fun _ i _ => E.length - (intOf i).toNat)
 case atStart => exact ⟨0, [], Or.inr rfl, rfl, qm _ _, ji_start HD.out, Below.refl _ _⟩
 case round =>
  obtain ⟨k, O, hk, rfl, ho, hJ, hb⟩ := hrel;have HO := xH ho;have HJ := xH hJ;have HB := xH hb;have HK := xH hk;have HBw := xH (HB4.out.trans (hb.mono HB4.out.size));have HF1 := xH (jl HV1.out HBw.out);have HF2 := xH (jl HV2.out HBw.out);have hwk : IntKind.i64.wrap ((k : Int) + 1) = (k : Int) + 1 := IntWalk.i64_in _ (by omega);clear ho hJ hb hk;by_cases hlt : k + 1 < E.length
  ·have hlti : (k : Int) + 1 < (E.length : Int) := by omega
   have hki : (k : Int) < (E.length : Int) := by omega
   have hk0 : (0 : Int) ≤ (k : Int) + 1 := by omega
   rcases HE.out with ⟨h0, _⟩ | ⟨_, b, cap, hve, _, hbb, _, _, hc⟩
   ·rw [h0] at hlt; simp at hlt
   cases hve;have hm : 0 ≤ min most 1114111 := by
    rcases HD.out with ⟨h, _⟩ | ⟨h, _⟩
    ·rw [h] at hlt; simp at hlt
    ·exact h
   have hEP : EP (EQ (l1 ++ l2) (min most 1114111)) (2 * (l1 ++ l2).length + 2) E := by
    rcases HD.out with ⟨h, _⟩ | ⟨_, h⟩
    ·rw [h] at hlt; simp at hlt
    ·exact h
   have c01 := hc k (by omega);have c02 := hc (k + 1) hlt;rw [show E.getD k 0 = E[k] by simp [List.getD, show k < E.length by omega]] at c01;rw [show E.getD (k + 1) 0 = E[k + 1] by simp [List.getD, hlt]] at c02;have c1 := qf HB.out c01;have c2 := qf HB.out c02;have C1 := xH c01;have C2 := xH c02;clear c01 c02;have bd1 := yh hm hEP (List.getElem_mem (show k < E.length by omega));have bd2 := yh hm hEP (List.getElem_mem hlt);have HO1 := xH (fun hq => ji_out hm hEP hlt HJ.out hq);have HO2 := xH (fun hq hl => ji_app hm (by omega) hEP hlt HJ.out hq hl);have HO3 := xH (fun (hq : qB 2 l1 l2 E[k] = true) (W0 : List Rg) (p r : Int) (h : O = W0 ++ [(p, r)]) (hr : r + 1 = E[k]) => ji_mrg hm (by omega) hEP hlt HJ.out hq h hr);have HI1 := xH (rin_any _ l1 E[k] wr HF1.out (by have := HL4.out; omega));have HI2 := xH (rin_any _ l2 E[k] wr HF2.out (by have := HL5.out; omega));have hE1 : E[k] ≤ 1114112 := by omega
   have hE2 : E[k + 1] ≤ 1114112 := by omega
   have hE3 : 0 ≤ E[k] := bd1.1;have hE4 : 0 ≤ E[k + 1] := bd2.1;clear hc bd1 bd2 hm hEP;unfold qB at HO1 HO2 HO3;generalize E[k] = x at *;generalize E[k + 1] = y at *;generalize hasB l1 x = p1 at *;generalize hasB l2 x = p2 at *;have hwy : IntKind.i64.wrap (y - 1) = y - 1 := IntWalk.i64_in _ (by omega);go_wp2_with fail
   refine HI1.out.mono ?_;rintro e wr ⟨rfl, rfl⟩;go_wp2_with fail
   refine HI2.out.mono ?_;rintro e wr ⟨rfl, rfl⟩;go_upto_region 11 with (fail)
   go_cut [15] from 25 to 103 (fun c wx => c = .bool (p1 || p2) ∧ wx = wr)
   case first =>
    cases p1 <;> cases p2 <;> (go_wp2_with fail; go_meet; exact ⟨rfl, rfl⟩)
   case rest =>
    obtain ⟨rfl, rfl⟩ := hcut;go_upto_region 15 with (fail)
    go_cut [15] from 25 to 103 (fun c wx => c = .bool (inP 2 p1 p2) ∧ wx = wc)
    case first =>
     cases p1 <;> cases p2 <;> (go_wp2_with fail; go_meet; exact ⟨rfl, rfl⟩)
    case rest =>
    obtain ⟨rfl, rfl⟩ := hcut;cases hq : inP 2 p1 p2
    ·have HJ1 := xH (HO1.out hq);go_wp2_with fail
     go_roundw
     case rel => exact ⟨k + 1, O, Or.inl hlt, by go_num, HO.out, HJ1.out, HB.out⟩
     case measure => simp [intOf]; omega
    ·rcases List.eq_nil_or_concat O with hO | ⟨W0, ⟨p, r⟩, hO⟩
     ·subst hO;obtain rfl := HO.out.2 rfl;have HJ1 := xH (HO2.out hq (fun W0 r h => by have := congrArg List.length h; simp at this));go_wp2_with fail
      go_quiet (fail)
      go_wp2_with fail
      generalize hwq : World.drewN _ _ = wq;obtain ⟨h0, hoq⟩ : Below w4.heap.size w4 wq.drew ∧ OwnR wq.drew w4.heap.size (.slice none 0 0) ([]) := by rw [← hwq];exact ⟨(below_draws HB.out _).drew, HO.out⟩
      clear hwq;have HOQ := xH hoq;clear hoq;refine wp_region_held_drew (S := fun w' => Below w4.heap.size w4 w') (by kernel_rfl) h0 (fun hHeld => ?_);refine xT 0 rfl ?_ ?_ ?_;rotate_left
      ·intro w' hSw;have d1 := qf hSw C1.out;have d2 := qf hSw C2.out;go_simp;try rfl
      simp only [xS];refine xT 1 rfl ?_ ?_ ?_;rotate_left
      ·intro w' hSw;have d1 := qf hSw C1.out;have d2 := qf hSw C2.out;go_simp;try rfl
      simp only [xS];refine xT 2 rfl ?_ ?_ ?_;rotate_left
      ·intro w' hSw;have d1 := qf hSw C1.out;have d2 := qf hSw C2.out;go_simp;try rfl
      simp only [xS];refine xT 3 rfl ?_ ?_ ?_;rotate_left
      ·intro w' hSw;have d1 := qf hSw C1.out;have d2 := qf hSw C2.out;go_simp;try rfl
      simp only [xS];refine xT 4 rfl ?_ ?_ ?_;rotate_left
      ·intro w' hSw;have d1 := qf hSw C1.out;have d2 := qf hSw C2.out;go_simp;try rfl
      simp only [xS];refine xT 5 rfl ?_ ?_ ?_;rotate_left
      ·intro w' hSw;have d1 := qf hSw C1.out;have d2 := qf hSw C2.out;go_simp;try rfl
      simp only [xS];refine xT 6 rfl ?_ ?_ ?_;rotate_left
      ·intro w' hSw;have d1 := qf hSw C1.out;have d2 := qf hSw C2.out;go_simp;try rfl
      simp only [xS];refine xT 7 rfl ?_ ?_ ?_;rotate_left
      ·intro w' hSw;have d1 := qf hSw C1.out;have d2 := qf hSw C2.out;go_simp;try rfl
      simp only [xS];refine xT 8 rfl ?_ ?_ ?_;rotate_left
      ·intro w' hSw;have d1 := qf hSw C1.out;have d2 := qf hSw C2.out;go_simp;try rfl
      simp only [xS];refine xT 9 rfl ?_ ?_ ?_;rotate_left
      ·intro w' hSw;have d1 := qf hSw C1.out;have d2 := qf hSw C2.out;go_simp;try rfl
      simp only [xS];refine xT 10 rfl ?_ ?_ ?_;rotate_left
      ·intro w' hSw;have d1 := qf hSw C1.out;have d2 := qf hSw C2.out;go_simp;try rfl
      simp only [xS];refine xT 11 rfl ?_ ?_ ?_;rotate_left
      ·intro w' hSw;have d1 := qf hSw C1.out;have d2 := qf hSw C2.out;go_simp;try rfl
      simp only [xS];refine xD 12 rfl (fun K hK => ?_);go_simp;have hA : Below w4.heap.size w4 ((wq.alloc (Obj.cells #[Value.int IntKind.i64 x, Value.int IntKind.i64 (y - 1)] 57)).drew) := (h0.alloc h0.size _);refine hK.out _ _ hA (fun hHeld => ?_);clear hK K hA;try simp only [xS]
      refine xD 13 rfl (fun K hK => ?_);refine zK (w := wq.drew) rfl _ _ rfl w4.heap.size _ ([]) rfl HOQ.out x (y - 1) _ rfl rfl rfl (by simp) h0.size ?_;intro va2 wa2 hoa hba;have HOA := xH hoa;have HBA := xH (hba _ _ h0 (Nat.le_refl _));clear hoa hba;refine hK.out _ _ HBA.out (fun hHeld => ?_);clear hK K;try simp only [xS]
      refine xT 14 rfl ?_ ?_ ?_;rotate_left
      ·intro w' hSw;go_simp;try rfl
      simp only [xS];refine wpAnyH_done (by kernel_rfl) ?_ _;go_wp2_with fail
      go_roundw
      case rel => exact ⟨k + 1, [] ++ [(x, y - 1)], Or.inl hlt, by go_num, HOA.out, HJ1.out, HBA.out⟩
      case measure => simp [intOf]; omega
     ·subst hO;rw [List.concat_eq_append] at *;obtain ⟨g, cw, hv, hg1, hg3, hg4, hcw⟩ := ownR_slice HO.out (by simp);have hce := hcw W0.length (by simp);have hlen : (W0 ++ [(p, r)]).length = W0.length + 1 := by simp
      have hr := HJ.out.1.2 (p, r) (by simp);have HLn := xH (show (W0 ++ [(p, r)]).length ≤ 100000000 by have := HJ.out.2.2; omega);rw [hlen] at hv hg3;simp only [List.getElem_concat_length] at hce;obtain ⟨hce1, hce2⟩ := hce;obtain ⟨hr0, hr1, hr2⟩ := hr;simp only at hr0 hr1 hr2;obtain ⟨m, hm⟩ : ∃ m, W0.length = m := ⟨_, rfl⟩;have HMm := xH hm;rw [hm] at hv hg3 hce1 hce2;subst hv;have hix : (m : Int) < (m : Int) + 1 := by omega
      have hwr : IntKind.i64.wrap (r + 1) = r + 1 := IntWalk.i64_in _ (by omega);clear hcw hlen hm;by_cases hj : r + 1 = x
      ·have HJ1 := xH (HO3.out hq W0 p r rfl hj);go_wp2_with fail
       go_quiet (fail)
       generalize hwq : World.drewN _ _ = wq;obtain ⟨h0, hoq, hc2, hd1, hd2⟩ : Below w4.heap.size w4 wq ∧ OwnR wq w4.heap.size (.slice (some ⟨g, 0, none⟩) (m + 1) cw) (W0 ++ [(p, r)]) ∧ wq.cell? ⟨b, k + 1, none⟩ = some (.int .i64 y) ∧ wq.cell? ⟨g, m * 2, none⟩ = some (.int .i64 p) ∧ wq.cell? ⟨g, m * 2 + 1, none⟩ = some (.int .i64 r) := by rw [← hwq];exact ⟨below_draws HB.out _, HO.out, c2, hce1, hce2⟩
       clear hwq;obtain ⟨hn1, hn2, hn3⟩ := ownR_last (z := y - 1) HMm.out hoq;have HN := xH hn1;have HNB := xH (hn3 _ _ h0 (Nat.le_refl _));clear hn1 hn3 hoq h0;go_wp2_with fail
       go_roundw
       case rel => exact ⟨k + 1, W0 ++ [(p, y - 1)], Or.inl hlt, by go_num, HN.out, HJ1.out, HNB.out⟩
       case measure => simp [intOf]; omega
      ·have HJ1 := xH (HO2.out hq (fun W1 r1 h => by obtain ⟨_, h2⟩ := List.append_inj' h rfl;obtain rfl := (List.cons.inj h2).1;exact hj))
       have hjb : (r + 1 == x) = false := by simp [hj]
       go_wp2_with fail
       go_quiet (fail)
       go_wp2_with fail
       generalize hwq : World.drewN _ _ = wq;obtain ⟨h0, hoq⟩ : Below w4.heap.size w4 wq.drew ∧ OwnR wq.drew w4.heap.size (.slice (some ⟨g, 0, none⟩) (m + 1) cw) ((W0 ++ [(p, r)])) := by rw [← hwq];exact ⟨(below_draws HB.out _).drew, HO.out⟩
       clear hwq;have HOQ := xH hoq;clear hoq;refine wp_region_held_drew (S := fun w' => Below w4.heap.size w4 w') (by kernel_rfl) h0 (fun hHeld => ?_);refine xT 0 rfl ?_ ?_ ?_;rotate_left
       ·intro w' hSw;have d1 := qf hSw C1.out;have d2 := qf hSw C2.out;go_simp;try rfl
       simp only [xS];refine xT 1 rfl ?_ ?_ ?_;rotate_left
       ·intro w' hSw;have d1 := qf hSw C1.out;have d2 := qf hSw C2.out;go_simp;try rfl
       simp only [xS];refine xT 2 rfl ?_ ?_ ?_;rotate_left
       ·intro w' hSw;have d1 := qf hSw C1.out;have d2 := qf hSw C2.out;go_simp;try rfl
       simp only [xS];refine xT 3 rfl ?_ ?_ ?_;rotate_left
       ·intro w' hSw;have d1 := qf hSw C1.out;have d2 := qf hSw C2.out;go_simp;try rfl
       simp only [xS];refine xT 4 rfl ?_ ?_ ?_;rotate_left
       ·intro w' hSw;have d1 := qf hSw C1.out;have d2 := qf hSw C2.out;go_simp;try rfl
       simp only [xS];refine xT 5 rfl ?_ ?_ ?_;rotate_left
       ·intro w' hSw;have d1 := qf hSw C1.out;have d2 := qf hSw C2.out;go_simp;try rfl
       simp only [xS];refine xT 6 rfl ?_ ?_ ?_;rotate_left
       ·intro w' hSw;have d1 := qf hSw C1.out;have d2 := qf hSw C2.out;go_simp;try rfl
       simp only [xS];refine xT 7 rfl ?_ ?_ ?_;rotate_left
       ·intro w' hSw;have d1 := qf hSw C1.out;have d2 := qf hSw C2.out;go_simp;try rfl
       simp only [xS];refine xT 8 rfl ?_ ?_ ?_;rotate_left
       ·intro w' hSw;have d1 := qf hSw C1.out;have d2 := qf hSw C2.out;go_simp;try rfl
       simp only [xS];refine xT 9 rfl ?_ ?_ ?_;rotate_left
       ·intro w' hSw;have d1 := qf hSw C1.out;have d2 := qf hSw C2.out;go_simp;try rfl
       simp only [xS];refine xT 10 rfl ?_ ?_ ?_;rotate_left
       ·intro w' hSw;have d1 := qf hSw C1.out;have d2 := qf hSw C2.out;go_simp;try rfl
       simp only [xS];refine xT 11 rfl ?_ ?_ ?_;rotate_left
       ·intro w' hSw;have d1 := qf hSw C1.out;have d2 := qf hSw C2.out;go_simp;try rfl
       simp only [xS];refine xD 12 rfl (fun K hK => ?_);go_simp;have hA : Below w4.heap.size w4 ((wq.alloc (Obj.cells #[Value.int IntKind.i64 x, Value.int IntKind.i64 (y - 1)] 57)).drew) := (h0.alloc h0.size _);refine hK.out _ _ hA (fun hHeld => ?_);clear hK K hA;try simp only [xS]
       refine xD 13 rfl (fun K hK => ?_);refine zK (w := wq.drew) rfl _ _ rfl w4.heap.size _ ((W0 ++ [(p, r)])) rfl HOQ.out x (y - 1) _ rfl rfl rfl (HLn.out) h0.size ?_;intro va2 wa2 hoa hba;have HOA := xH hoa;have HBA := xH (hba _ _ h0 (Nat.le_refl _));clear hoa hba;refine hK.out _ _ HBA.out (fun hHeld => ?_);clear hK K;try simp only [xS]
       refine xT 14 rfl ?_ ?_ ?_;rotate_left
       ·intro w' hSw;go_simp;try rfl
       simp only [xS];refine wpAnyH_done (by kernel_rfl) ?_ _;go_wp2_with fail
       go_roundw
       case rel => exact ⟨k + 1, (W0 ++ [(p, r)]) ++ [(x, y - 1)], Or.inl hlt, by go_num, HOA.out, HJ1.out, HBA.out⟩
       case measure => simp [intOf]; omega
  ·go_wp2_with fail
   go_ret
   have he := ji_end HD.out HJ.out HK.out hlt;exact ⟨_, O, rfl, he.1, he.2, ownR_mono HO.out HB4.out.size, HBw.out⟩
end Go.Proofs.YtikjhfmmfpeaoaaGreatDoor.setw
end
