/- T -/
import Derived.Deep.Cut
import Derived.Deep.DeepCutAuto
import Derived.Test.YtdgfclbajjjcgaaBGs13
set_option maxHeartbeats 16000000
set_option maxRecDepth 1000000
namespace Go.Proofs.Ytdgfclbajjjcgaa
section
namespace gpw
open sq
open Go.Sort Go Go.RowKit Go.Maps setp setw tkp trp trw rpp gpp sq prw
open rpw (fC jP FSub jQ jd own_below qp vW qh qA)
def CpOk : F → Prop
 | .nil => True
 | .cons x k r => x.set.length ≤ 1000000 ∧ k.len ≤ 100000 ∧ CpOk k ∧ CpOk r
theorem cpOk_drop : ∀ {f : F} {i : Nat} {x : Lab} {k r : F}, CpOk f → f.drop i = .cons x k r → CpOk (F.one x k)
 | .nil, 0, _, _, _, _, h => by cases h
 | .nil, i + 1, _, _, _, _, h => by cases h
 | .cons y j t, 0, _, _, _, hc, h => by cases h;exact ⟨hc.1, hc.2.1, hc.2.2.1, trivial⟩
 | .cons y j t, i + 1, _, _, _, hc, h => cpOk_drop (f := t) (i := i) hc.2.2.2 h
theorem rg_wf {w : World} {v : Value} {l : List Rg} (h : RgAt w v l) : Wf l := fun r hr => by
 obtain ⟨a, cap, _, _, _, h3 | ⟨b, o, _, hc⟩⟩ := h
 ·subst h3; cases hr
 ·obtain ⟨i, hi, rfl⟩ := List.getElem_of_mem hr;exact (hc i _ (List.getElem?_eq_getElem hi)).2.2
theorem infoRg : (Try.prog.info? 69).map (fun i => (i.zero, i.size, i.bytes)) = some (some (.agg #[.int .i64 0, .int .i64 0]), 2, 16) := by kernel_rfl
theorem rcs_at : ∀ (l : List Rg) (i : Nat) (u : Value), (rcs l)[i]? = some u → ∃ r, l[i / 2]? = some r ∧ (i % 2 = 0 ∧ u = .int .i64 r.1 ∨ i % 2 = 1 ∧ u = .int .i64 r.2)
 | [], i, u, h => by simp [rcs] at h
 | r :: l, 0, u, h => by refine ⟨r, rfl, Or.inl ⟨rfl, ?_⟩⟩;simpa [rcs] using h.symm
 | r :: l, 1, u, h => by refine ⟨r, rfl, Or.inr ⟨rfl, ?_⟩⟩;simpa [rcs] using h.symm
 | r :: l, i + 2, u, h => by obtain ⟨q, h1, h2⟩ := rcs_at l i u (by simpa [rcs] using h);refine ⟨q, ?_, by rw [show (i + 2) % 2 = i % 2 by omega]; exact h2⟩;rw [show (i + 2) / 2 = i / 2 + 1 by omega];simpa using h1
theorem rcs_one (l : List Rg) : ∀ u ∈ rcs l, u.oneCell' = true := fun u hu => by
 unfold rcs at hu;simp only [List.mem_flatMap, List.mem_cons, List.not_mem_nil, or_false] at hu;obtain ⟨r, _, rfl | rfl⟩ := hu <;> rfl
theorem wpList_append_cp {ops : Array Oper} {rest : List Oper} {o : Oper} {a : Act} {w : World} {Q : Exit → Act → World → Prop} (hgd : o.guard = none) (s x : Operand)
 (ho : o.op = .call { callee := .builtin .append, args := #[s, x], argTypes := #[24, 24] }) (hs : a.eval s = .slice none 0 0) {vx : Value} {S : List Rg} (hx : a.eval x = vx) (hr : RgAt w vx S) (hl : S.length ≤ 1000000)
 (h : ∀ v' w', OwnR w' w.heap.size v' S → Below w.heap.size w w' → wpList Try.prog ops Q rest (a.put o.dst v') w') : wpList Try.prog ops Q (o :: rest) a w := by
 obtain ⟨i0, hi, hz0, hz1, hz2⟩ := info_parts infoRg;obtain ⟨ga, gc, rfl, hgc1, hgc2, h3⟩ := hr;by_cases h0 : S = []
 ·subst h0;refine wpList_plain hgd fun K hK => ?_
  have hrun := setw.run_append_zero (P := Try.prog) (w := w) 24 o.type i0 Try.underlying24 hi (World.ownsRow_nil w w.heap.size 69 2) ga gc;unfold Oper.wp;simp [execOp, ho, resolve, invoke, builtin, hs, hx, hrun, Result.andThen];exact hK _ _ (h _ w (qm w _) (Below.refl _ _))
 ·obtain ⟨b, go, rfl, hc⟩ := h3.resolve_left h0;refine wpList_plain hgd fun K hK => ?_
  have hown := World.ownsRow_nil w w.heap.size 69 2;obtain ⟨v', w', hr, h2, h3, _, h5⟩ := run_append_own_at (P := Try.prog) w w.heap.size 24 o.type 69 i0 _ 2 16 Try.underlying24 hi hz0 hz1 hz2 rfl (by decide) (.slice none 0 0) 0 [] hown ⟨b, go, none⟩ S.length gc (rcs S) (rcs_len S)
   (fun j u hj => by
    rw [trw.add_plain];obtain ⟨r, e1, e2⟩ := rcs_at S j u hj;obtain ⟨q1, q2, _, _⟩ := hc (j / 2) r e1;rcases e2 with ⟨e, rfl⟩ | ⟨e, rfl⟩
    ·rw [show go + j = go + j / 2 * 2 by omega]; exact q1
    ·rw [show go + j = go + j / 2 * 2 + 1 by omega]; exact q2) (rcs_one S) (by unfold maxLen; omega) (by omega) (xL _)
  unfold Oper.wp execOp;simp only [ho, resolve, invoke, builtin, Sem.run_bind, Sem.run_pure, Result.andThen_ok, List.map_toArray, List.map_cons, List.map_nil, hs, hx, hr];have hk := hK _ _ (h v' w' ⟨by simpa using h2, fun e => absurd e h0⟩ (Below.grown (Below.refl _ w) h3 (xL _) (fun k hk => (by cases hk))));simpa [Oper.upon] using hk
def stC (cur : Array Value) (off : Nat) (l : Lab) : Array Value := (cur.toList.take off ++ ndC l ++ cur.toList.drop (off + 12)).toArray
theorem wpList_store_k {ops : Array Oper} {rest : List Oper} {o : Oper} {a : Act} {w : World} {Q : Exit → Act → World → Prop} (hgd : o.guard = none) (hd : o.dst = none) (x y : Operand) (ho : o.op = .store 27 x y)
 (g off : Nat) (hx : a.eval x = .pointer (some ⟨g, off, none⟩)) (cur : Array Value) (l : Lab) (hg : w.heap[g]? = some (.cells cur 27 (0, 0))) (hs : off + 12 ≤ cur.size) (h1 : ∀ u ∈ ndC l, u.oneCell' = true) (hy : a.eval y = ndV l)
 (h : wpList Try.prog ops Q rest a (w.setRow g (stC cur off l))) : wpList Try.prog ops Q (o :: rest) a w :=
 wpList_plain hgd fun K hK => by
  have hst := run_storeCells_at (P := Try.prog) g off 27 (ndC l) 0 cur w hg (by simp only [ndC, List.length_cons, List.length_nil]; omega) h1;have hz : (sizeOf 27).run Try.prog w = .ok 12 w := by kernel_rfl
  have hrun : (storeVar 27 ⟨g, off, none⟩ (ndV l)).run Try.prog w = .ok () (w.setRow g (stC cur off l)) := by unfold storeVar ndV stC;unfold ndC at hst;simp [Sem.run_bind, hz, Value.cells, Result.andThen, hst];rfl
  unfold Oper.wp execOp;simp only [ho, hx, hy, Instr.storeAt, Instr.sureAddr, Sem.run_bind, Sem.run_pure, Result.andThen_ok, hrun];have := hK _ _ h;simpa [Oper.upon, hd, Act.put] using this
theorem run_make_nd (n : Nat) (hn : n ≤ 100000) (w : World) : (Instr.makeSlice 25 (.int .i64 n) (.int .i64 n)).run Try.prog w = .ok (.slice (some ⟨w.heap.size, 0, none⟩) n n) (w.alloc (.cells (madeCells zC.toArray (n * 12)) 27)) := by obtain ⟨i0, hi, hz0, hz1, hz2⟩ := info_parts infoNd;have := run_make (P := Try.prog) w 25 27 i0 _ Try.underlying25 hi hz0 .i64 .i64 n n (by omega) (Int.le_refl _) (by rw [hz2]; omega) (by omega);rw [hz1] at this;simp only [Int.toNat_natCast] at this;exact this
def CpB (x : Lab) (k : F) (w : World) (e : Ending) (w' : World) : Prop := ∃ y j, e = .returned (ndV y) ∧ NdI w' y j w.heap.size w'.heap.size ∧ strip (F.one y j) = strip (F.one x k) ∧ Below w.heap.size w w'
structure CpR (k : F) (lo B : Nat) (P : Nat) (C : Array Value) (w wr : World) (g : F) (cur : Array Value) : Prop where
 row : wr.heap[B]? = some (.cells cur 27 (0, 0))
 sz : cur.size = k.len * 12
 tk : cur.toList.take (g.len * 12) = fC g
 sg : Sub wr g (B + 1) wr.heap.size
 eq : strip k = F.app (strip g) (strip (k.drop g.len))
 len : g.len ≤ k.len
 be : Below lo w wr
 p : wr.heap[P]? = some (.cells C 27 (0, 0))
 r : wr.heap[P + 1]? = some (.cells zC.toArray 27 (0, 0))
 B2 : B + 1 ≤ wr.heap.size
theorem take_store {cur : Array Value} {g : F} {n : Nat} (y : Lab) (j : F) (h1 : cur.toList.take (g.len * 12) = fC g) (h2 : cur.size = n * 12) (h3 : g.len < n) :
 (stC cur (g.len * 12) y).size = n * 12 ∧ (stC cur (g.len * 12) y).toList.take ((F.app g (F.one y j)).len * 12) = fC (F.app g (F.one y j)) := by
 have hl : (ndC y).length = 12 := by simp only [ndC, List.length_cons, List.length_nil]
 have hg : (fC g).length = g.len * 12 := jP g;unfold stC;refine ⟨?_, ?_⟩
 ·simp only [List.size_toArray, List.length_append, List.length_take, List.length_drop, Array.length_toList, h2, hl];omega
 ·rw [jd, jQ, h1];show List.take ((g.len + 1) * 12) (fC g ++ ndC y ++ _) = fC g ++ fC (F.one y j);rw [show fC (F.one y j) = ndC y from List.append_nil _, List.take_append_of_le_length (by simp only [List.length_append, hl, hg]; omega), List.take_of_length_le (by simp only [List.length_append, hl, hg]; omega)]
theorem strip_one (y : Lab) (j : F) : strip (F.one y j) = F.one { y with sv := nil3, kv := nil3 } (strip j) := rfl
theorem strip_ap : ∀ f g : F, strip (F.app f g) = F.app (strip f) (strip g)
 | .nil, _ => rfl
 | .cons x k r, g => by rw [F.app, strip, strip, F.app, strip_ap r g]
theorem app_as2 : ∀ f g h : F, F.app (F.app f g) h = F.app f (F.app g h)
 | .nil, _, _ => rfl
 | .cons x k r, g, h => by rw [F.app, F.app, F.app, app_as2 r g h]
theorem cp_next {k : F} {lo B P : Nat} {C : Array Value} {w wr w2 : World} {g : F} {cur : Array Value} {x y : Lab} {kk j r : F} (R : CpR k lo B P C w wr g cur) (hd : k.drop g.len = .cons x kk r) (hlo : lo ≤ P) (hPB : P + 1 < B)
 (hn : NdI w2 y j wr.heap.size w2.heap.size) (hs : strip (F.one y j) = strip (F.one x kk)) (hb : Below wr.heap.size wr w2) :
 CpR k lo B P C w (w2.setRow B (stC cur (g.len * 12) y)) (F.app g (F.one y j)) (stC cur (g.len * 12) y) := by
 have hln := drop_len k g.len;rw [hd] at hln;simp only [F.len] at hln;obtain ⟨t1, t2⟩ := take_store y j R.tk R.sz (by omega);have hB2 := R.B2;have hsz := hb.size;have hoth : ∀ i, i ≠ B → (w2.setRow B (stC cur (g.len * 12) y)).heap[i]? = w2.heap[i]? := fun i hi => tkw.setRow_other _ _ _ _ hi
 have hz : (w2.setRow B (stC cur (g.len * 12) y)).heap.size = w2.heap.size := tkw.setRow_size _ _ _;refine ⟨setRow_heap _ _ _ _ _ _ ((hb.block B (by omega)).trans R.row), t1, t2, ?_, ?_, by rw [jd]; show g.len + 1 ≤ k.len; omega, ?_, (hoth P (by omega)).trans ((hb.block P (by omega)).trans R.p), (hoth (P + 1) (by omega)).trans ((hb.block (P + 1) (by omega)).trans R.r), by rw [hz]; omega⟩
 ·rw [hz];exact sub_app (sub_keep (a := B + 1) (b := wr.heap.size) (fun i h1 h2 => (hoth i (by omega)).trans (hb.block i h2)) R.sg (xL _) (xL _)) (sub_one (ndI_keep hn fun i h1 h2 => hoth i (by omega)))
 ·rw [strip_ap, app_as2, hs, jd];show strip k = F.app (strip g) (F.app (strip (F.one x kk)) (strip (k.drop (g.len + 1))));rw [drop_succ hd];have := R.eq;rw [hd] at this;exact this
 ·exact ⟨hb.os.trans R.be.os, hb.tape.trans R.be.tape, hb.output.trans R.be.output, by rw [hz]; exact Nat.le_trans R.be.size hsz, fun i hi => (hoth i (by omega)).trans ((hb.block i (by have := R.be.size; omega)).trans (R.be.block i hi))⟩
theorem app_nl2 : ∀ f : F, F.app f .nil = f
 | .nil => rfl
 | .cons x k r => by rw [F.app, app_nl2 r]
theorem below_row0 (w : World) (B : Nat) (cs : Array Value) : Below B w (w.setRow B cs) := ⟨rfl, rfl, rfl, by rw [tkw.setRow_size]; exact xL _, fun k hk => tkw.setRow_other _ _ k cs (by omega)⟩
theorem copy_all : ∀ (z : Nat) (w : World) (x : Lab) (k : F) (_hz : k.size < z) (_hn : NdAt w (x, k)) (_hc : CpOk (F.one x k)), Calls Try.prog 35 #[ndV x] w (CpB x k w) := by
 intro z;refine Nat.rec ?_ (fun z ih => ?_) z
 ·intro w x k hz;exact absurd hz (Nat.not_lt_zero _)
 intro w x k hz hn hc;have IH := xH (@ih);clear ih;have HN := xH hn;have HC := xH hc;have HZ := xH hz;obtain ⟨sa, sq, hsv⟩ : ∃ a q, x.sv = .slice a x.set.length q := by obtain ⟨a, q, h, _⟩ := hn.2.1; exact ⟨a, q, h⟩
 obtain ⟨ka, kq, hkv⟩ := kids_len hn.2.2;have HSV := xH hsv;have HKV := xH hkv;have e1 := World.size_alloc w (.cells (ndC x).toArray 27);have HP := xH (show ((w.alloc (.cells (ndC x).toArray 27)).alloc (.cells zC.toArray 27)).heap[w.heap.size]? = some (.cells (ndC x).toArray 27 (0, 0)) from (heap_alloc_old _ _ (by rw [e1]; omega)).trans (heap_alloc_new _ _));have HQ := xH (show ((w.alloc (.cells (ndC x).toArray 27)).alloc (.cells zC.toArray 27)).heap[w.heap.size + 1]? = some (.cells zC.toArray 27 (0, 0)) from e1 ▸ heap_alloc_new (w.alloc (.cells (ndC x).toArray 27)) (.cells zC.toArray 27));have HB := xH (trw.qi (trw.qg w (.cells (ndC x).toArray 27)) (trw.qg _ (.cells zC.toArray 27)));have HZ2 := xH (show ((w.alloc (.cells (ndC x).toArray 27)).alloc (.cells zC.toArray 27)).heap.size = w.heap.size + 2 by rw [World.size_alloc, e1]);clear hn hc hz e1 hsv hkv;unfold ndC zC at HP HQ HB HZ2;unfold ndV;go_enter Try.func35, Try.ntmps35;go_upto_region 1 with (fail)
 generalize (w.alloc _).alloc _ = w1 at *;have c3 := yC 3 x.sv HP;have HRG := xH (trw.rgAt_mono (fun _ _ h => trw.qf HB.out h) HN.out.2.1);have HC1 := xH HC.out.1;go_wp2_with (refine wpList_append_cp rfl _ _ rfl rfl rfl HRG.out HC1.out ?_)
 intro v2 w2 ho hb;obtain ⟨a2, q2, rfl⟩ := row_slice ho.1;have HO := xH ho;have HB2 := xH hb;have HP2 := xH ((hb.block w.heap.size (by rw [HZ2.out]; omega)).trans HP.out);have HQ2 := xH ((hb.block (w.heap.size + 1) (by rw [HZ2.out]; omega)).trans HQ.out);clear ho hb c3;have d3 := yC 3 x.sv HP2;have f3 := yK 3 HP2;have HP3 := xH (show (w2.setCell ⟨w.heap.size, 3, none⟩ (.slice a2 x.set.length q2)).heap[w.heap.size]? = some (.cells (ndC { x with sv := .slice a2 x.set.length q2 }).toArray 27 (0, 0)) from tkw.heap_set HP2.out);have HQ3 := xH ((heap_setCell_other w2 ⟨w.heap.size, 3, none⟩ (w.heap.size + 1) (.slice a2 x.set.length q2) (show w.heap.size + 1 ≠ w.heap.size by omega)).trans HQ2.out);have HO3 := xH (show OwnR (w2.setCell ⟨w.heap.size, 3, none⟩ (.slice a2 x.set.length q2)) w1.heap.size (.slice a2 x.set.length q2) x.set from ⟨tkw.jJ HO.out.1 fun g hg => heap_setCell_other _ _ _ _ (show g ≠ w.heap.size by have := own_below HO.out.1 hg; have := HZ2.out; omega), HO.out.2⟩);have HB3 := xH (show Below w.heap.size w (w2.setCell ⟨w.heap.size, 3, none⟩ (.slice a2 x.set.length q2)) from (HB.out.trans (HB2.out.mono HB.out.size)).setCell (xL _) _);have HZ3 := xH (show w.heap.size + 2 ≤ (w2.setCell ⟨w.heap.size, 3, none⟩ (.slice a2 x.set.length q2)).heap.size by have := HB2.out.size; have := HZ2.out; simp [World.setCell]; omega);go_upto_region 2 with (fail)
 generalize w2.setCell _ _ = w3 at *;have c11 : w3.cell? ⟨w.heap.size, 11, none⟩ = some (.slice ka k.len kq) := by unfold World.cell?; rw [HP3.out]; show some x.kv = _; rw [HKV.out]
 have hmk := run_make_nd k.len HC.out.2.1;have hkl : (k.len : Int) ≤ 9223372036854775807 := by have := HC.out.2.1; omega
 clear d3 f3;go_upto_region 3 with (fail)
 have HBK := xH (trw.qg w3 (.cells (madeCells zC.toArray (k.len * 12)) 27));have HBN := xH (heap_alloc_new w3 (.cells (madeCells zC.toArray (k.len * 12)) 27));have HBZ := xH (World.size_alloc w3 (.cells (madeCells zC.toArray (k.len * 12)) 27));clear hmk c11;generalize hB : w3.heap.size = B at *;generalize w3.alloc _ = w4 at *;have HB3Z := xH hB;clear hB;have HR0 := xH (show CpR k w.heap.size B w.heap.size (ndC { x with sv := .slice a2 x.set.length q2 }).toArray w w4 .nil (madeCells zC.toArray (k.len * 12)) from
  ⟨HBN.out, size_madeCells _ _, rfl, (by rw [HBZ.out]; exact xL _), (by cases k <;> rfl), Nat.zero_le _, HB3.out.trans (HBK.out.mono (by have := HZ3.out; omega)), (HBK.out.block _ (by have := HZ3.out; omega)).trans HP3.out, (HBK.out.block _ (by have := HZ3.out; omega)).trans HQ3.out, (by rw [HBZ.out]; exact xL _)⟩)
 have HSET := xH (show ∀ wr, Below B w4 wr → SetIn wr (w.heap.size + 2) B (.slice a2 x.set.length q2) x.set from fun wr hb => ⟨setw.ownR_mono (base := w1.heap.size) ⟨tkw.jJ HO3.out.1 fun g hg => ((hb.block g (by have := own_below HO3.out.1 hg; have := HB3Z.out; omega)).trans (HBK.out.block g (by have := own_below HO3.out.1 hg; have := HB3Z.out; omega))), HO3.out.2⟩ (Nat.le_of_eq HZ2.out.symm), rg_wf HN.out.2.1, fun g hg => by have := own_below HO3.out.1 hg; have := HB3Z.out; omega⟩);go_wp2_with fail
 go_loopw [15] (fun v15 wr => ∃ (g : F) (cur : Array Value), v15 = .int .i64 g.len ∧ Hid (CpR k w.heap.size B w.heap.size (ndC { x with sv := .slice a2 x.set.length q2 }).toArray w wr g cur) ∧ Hid (Below B w4 wr)) (fun v15 _ => k.len - (intOf v15).toNat)
 case atStart => exact ⟨.nil, _, rfl, HR0, xH (Below.refl _ _)⟩
 case round =>
  obtain ⟨g, cur, rfl, HR, HBB⟩ := hrel;have c11 : wr.cell? ⟨w.heap.size, 11, none⟩ = some (.slice ka k.len kq) := by unfold World.cell?; rw [HR.out.p]; show some x.kv = _; rw [HKV.out]
  have f11 : wr.frozen? ⟨w.heap.size, 11, none⟩ = false := by unfold World.frozen?; rw [HR.out.p]; rfl
  have HF11 := xH f11;by_cases hlt : g.len < k.len
  ·obtain ⟨x', kk, r, hd⟩ := drop_lt hlt;obtain ⟨b, o, q, hv, _, _, _, hf⟩ := kid_at HN.out.2.2 hd;rw [HKV.out] at hv;cases hv;have HKD := xH hd;have HFH := xH (trw.fAt_head hf);have HCE := xH (show ∀ j u, (ndC x')[j]? = some u → wr.cell? ⟨b, o + g.len * 12 + j, none⟩ = some u from fun j u hj => (World.cell?_of_block (HR.out.be.block b (cell_lt (hf.1 j u hj)))).trans (hf.1 j u hj));have HIH := xH (IH.out wr x' kk (by have := size_lt hd; have := HZ.out; omega) (qY (fun a v hc => (World.cell?_of_block (HR.out.be.block a.block (cell_lt hc))).trans hc) (trw.fAt_head hf)) (cpOk_drop HC.out.2.2.1 hd));have hlg : (g.len : Int) < 9223372036854775807 := by omega
   clear hd hf;go_wp2_with (first
    | (refine jv rfl _ rfl b (o + g.len * 12) rfl x' HCE.out ?_)
    | (refine HIH.out.mono ?_; rintro e w5 ⟨y, j, rfl, hn, hs, hb⟩; have HN5 := xH hn; have HS5 := xH hs; have HB5 := xH hb; have HR5 := xH ((hb.block B (by have := HR.out.B2; omega)).trans HR.out.row); have HO5 := xH (qp (ndI_at hn)); have HSZ := xH (show g.len * 12 + 12 ≤ cur.size by rw [HR.out.sz]; omega); have HNX := xH (cp_next HR.out HKD.out (xL _) (by have := HZ3.out; omega) hn hs hb); clear hn hs hb)
    | (refine wpList_store_k rfl rfl _ _ rfl B (g.len * 12) rfl cur y HR5.out HSZ.out HO5.out rfl ?_))
   go_roundw
   case rel => exact ⟨F.app g (F.one y j), _, by rw [jd]; show _ = Value.int .i64 ((g.len + 1 : Nat) : Int); go_num, HNX, xH (HBB.out.trans ((HB5.out.mono (by have := HR.out.B2; omega)).trans (below_row0 w5 B _)))⟩
   case measure => simp [intOf]; omega
  ·have hg : g.len = k.len := by have := HR.out.len; omega
   have HG := xH hg;have hd : decide (g.len < k.len) = false := by simpa using hlt
   have HP6 := xH (show (wr.setCell ⟨w.heap.size, 11, none⟩ (.slice (some ⟨B, 0, none⟩) k.len k.len)).heap[w.heap.size]? = some (.cells (ndC { x with sv := .slice a2 x.set.length q2, kv := .slice (some ⟨B, 0, none⟩) k.len k.len }).toArray 27 (0, 0)) from tkw.heap_set HR.out.p);have HQ6 := xH ((heap_setCell_other wr ⟨w.heap.size, 11, none⟩ (w.heap.size + 1) (.slice (some ⟨B, 0, none⟩) k.len k.len) (show w.heap.size + 1 ≠ w.heap.size by omega)).trans HR.out.r);have HND := xH (show NdI wr { x with sv := .slice a2 x.set.length q2, kv := .slice (some ⟨B, 0, none⟩) k.len k.len } g (w.heap.size + 2) wr.heap.size from
    ⟨HN.out.1, B, B, by have := HZ3.out; have := HB3Z.out; omega, xL _, HSET.out wr HBB.out, by rw [HG.out]; exact HC.out.2.1, by show Value.slice _ k.len k.len = _; rw [HG.out], by rw [HR.out.row];have h1 := HR.out.tk;rw [HG.out, ← HR.out.sz, List.take_of_length_le (by simp)] at h1;rw [← h1], HR.out.sg⟩)
   have HOC := xH (qp (ndI_at HND.out));have HST := xH (show strip (F.one { x with sv := .slice a2 x.set.length q2, kv := .slice (some ⟨B, 0, none⟩) k.len k.len } g) = strip (F.one x k) from by
    have h2 := HR.out.eq;have h3 : k.drop g.len = .nil := by
     cases h : k.drop g.len with
     | nil => rfl
     | cons a b c =>
      have := drop_len k g.len;rw [h] at this;simp only [F.len] at this;omega
    rw [h3, show strip F.nil = F.nil from rfl] at h2;rw [strip_one, strip_one, h2, app_nl2])
   clear hg hlt c11 f11;have f11 := HF11.out;have c11 : wr.cell? ⟨w.heap.size, 11, none⟩ = some (.slice ka k.len kq) := by unfold World.cell?; rw [HR.out.p]; show some x.kv = _; rw [HKV.out]
   have HZR := xH (show w.heap.size + 1 < wr.heap.size by have := HR.out.B2; have := HZ3.out; omega);have HBE := xH HR.out.be;go_upto_region 9 with (fail)
   generalize hw6 : wr.setCell _ _ = w6 at *;have HN6 := xH (show NdI w6 { x with sv := .slice a2 x.set.length q2, kv := .slice (some ⟨B, 0, none⟩) k.len k.len } g (w.heap.size + 2) w6.heap.size from by
    have hz : w6.heap.size = wr.heap.size := by rw [← hw6]; simp [World.setCell]
    rw [hz];exact ndI_keep HND.out fun j h1 h2 => by rw [← hw6]; exact heap_setCell_other _ _ j _ (show j ≠ w.heap.size by omega))
   have HB6 := xH (show Below w.heap.size w w6 from by rw [← hw6]; exact HBE.out.setCell (xL _) _);have HC6 := xH (show ∀ j u, (ndC { x with sv := .slice a2 x.set.length q2, kv := .slice (some ⟨B, 0, none⟩) k.len k.len })[j]? = some u → w6.cell? ⟨w.heap.size, 0 + j, none⟩ = some u from fun j u hj => by rw [Nat.zero_add]; unfold World.cell?; rw [HP6.out]; simpa using hj);clear hw6 c11 f11;go_wp2_with (first
    | (refine jv rfl _ rfl w.heap.size 0 rfl { x with sv := .slice a2 x.set.length q2, kv := .slice (some ⟨B, 0, none⟩) k.len k.len } HC6.out ?_)
    | (refine qh rfl rfl _ _ rfl (w.heap.size + 1) rfl _ { x with sv := .slice a2 x.set.length q2, kv := .slice (some ⟨B, 0, none⟩) k.len k.len } HQ6.out rfl HOC.out rfl ?_))
   refine xB (qA rfl _ _ (w.heap.size + 1) { x with sv := .slice a2 x.set.length q2, kv := .slice (some ⟨B, 0, none⟩) k.len k.len } rfl (setRow_heap _ _ _ _ _ _ HQ6.out)) rfl ?_;refine ⟨_, g, rfl, ?_, HST.out, HB6.out.trans ⟨rfl, rfl, rfl, by rw [tkw.setRow_size]; exact xL _, fun j hj => tkw.setRow_other _ _ j _ (by omega)⟩⟩;rw [tkw.setRow_size];exact ndI_lo (ndI_keep HN6.out fun j h1 h2 => tkw.setRow_other _ _ j _ (by omega)) (by omega)
end gpw
end
section
namespace gpw
open sq
open Go.Sort Go Go.RowKit Go.Maps setp setw tkp trp trw rpp gpp sq prw
open rpw (fC jP FSub jQ jd own_below qp vW)
theorem name_e {s : ByteArray} (h : ¬ s.size = 0) : s.toList.isEmpty = false := tkw.not_empty (by omega)
theorem name_y {s : ByteArray} (h : s.size = 0) : s.toList.isEmpty = true := by
 obtain ⟨⟨l⟩⟩ := s;cases l with
 | nil => rw [show (⟨⟨[]⟩⟩ : ByteArray).toList = [] from Lib.toList_data _]; rfl
 | cons a l => cases h
theorem ent_pre {w : World} {H G M b o : Nat} {C : Array Value} {x : Lab} {v : Value} {s : St} (hb : w.heap[b]? = some (.cells C 27 (0, 0))) (hx : ∀ j u, (ndC x)[j]? = some u → C[o + j]? = some u) (hbH : b < H) (hst : StAt w H G M v s) {w2 : World}
 (hw : (w.setCell ⟨G, 0, none⟩ (.int .i64 (s.1 + 1))).setCell ⟨b, o + 5, none⟩ (.int .i64 (s.1 + 1)) = w2) :
 w2.heap[b]? = some (.cells (C.setIfInBounds (o + 5) (.int .i64 (s.1 + 1))) 27 (0, 0)) ∧ StAt w2 H G M v (s.1 + 1, s.2) ∧ Chg H b 0 0 w w2 ∧
 w2.cell? ⟨b, o + 5, none⟩ = some (.int .i64 (s.1 + 1)) ∧ w2.cell? ⟨b, o + 8, none⟩ = some (.string x.name) ∧ w2.heap.size = w.heap.size := by
 subst hw;have hbG : b ≠ G := by have := hst.hg; omega
 have e1 : (w.setCell ⟨G, 0, none⟩ (.int .i64 (s.1 + 1))).heap[b]? = some (.cells C 27 (0, 0)) := (heap_setCell_other w _ b _ hbG).trans hb;have e2 := tkw.heap_set (o := o + 5) (v := Value.int .i64 (s.1 + 1)) e1;have h5 : o + 5 < C.size := by have := hx 5 _ rfl;exact (Array.getElem?_eq_some_iff.1 this).1
 refine ⟨e2, (hst.last _).keep fun j hj _ => heap_setCell_other _ _ j _ (by show j ≠ b; omega), (Chg.cell w G 0 _ (Or.inr hst.hg)).trans (Chg.cell _ b _ _ (Or.inl rfl)), ?_, ?_, by simp [World.setCell]⟩
 ·unfold World.cell?;rw [e2];simp [h5]
 ·unfold World.cell?;rw [e2];simp only;rw [Array.getElem?_setIfInBounds_ne (by omega)];exact hx 8 _ rfl
theorem StAt.add {w w3 w4 : World} {H G M n : Nat} {v v' : Value} {s : St} {q : ByteArray × Int} (h : StAt w H G M v s) (hn : n = s.2.length + 1) (hm : MapV w3 M n ((q.1, .int .i64 q.2) :: mpL s.2)) (hg : w.grownBy w3 (some M)) (hr : w4.ownsRow H 67 2 v' (s.2 ++ [q]).length (nmC (s.2 ++ [q])))
 (hk : ∀ j, j < w3.heap.size → v.ownBlock ≠ some j → w4.heap[j]? = w3.heap[j]?) : StAt (w4.setCell ⟨G, 1, none⟩ v') H G M v' (s.1, s.2 ++ [q]) := by
 have lt : ∀ {u : World} {j : Nat} {o : Obj}, u.heap[j]? = some o → j < u.heap.size := fun {u} {j} {o} e => by exact z136
 have hGM := gm_ne (H := H) (v := v) h.g h.map;have g3 : w3.heap[G]? = _ := (hg.block G (lt h.g) (fun e => hGM (by cases e; rfl))).trans h.g;have g4 : w4.heap[G]? = _ := (hk G (lt g3) (row_ne h.g (by decide) h.row)).trans g3;obtain ⟨es, clock, hb, _⟩ := id hm;have m4 : w4.heap[M]? = w3.heap[M]? := hk M (lt hb) (row_nm h.map h.row);refine ⟨by rw [tkw.heap_set g4]; rfl, h.hg, h.hm, tkw.jJ hr fun k hk2 => heap_setCell_other _ _ _ _ (fun e => row_ne g4 (by decide) hr (by rw [hk2]; exact congrArg some e)), fun e => (by simp at e), ?_⟩;rw [mpL_snoc];refine mapV_heap ?_ (heap_setCell_other _ _ _ _ (Ne.symm hGM));rw [show (s.2 ++ [q]).length = n by rw [hn]; simp];exact mapV_heap hm m4
theorem enter_any {w : World} {H G M b o : Nat} {C : Array Value} {x : Lab} {v : Value} {s : St} (hb : w.heap[b]? = some (.cells C 27 (0, 0))) (hx : ∀ j u, (ndC x)[j]? = some u → C[o + j]? = some u) (hbH : b < H) (hst : StAt w H G M v s) (hH : H ≤ w.heap.size) (h0 : 0 ≤ s.1) (h1 : s.1 ≤ 60) (hl : s.2.length ≤ 2000000) (hnm : x.name.size ≤ maxLen) :
 Calls Try.prog 54 #[.pointer (some ⟨G, 0, none⟩), .pointer (some ⟨b, o, none⟩)] w (EntB H G M b o C x s w) := by
 obtain ⟨c0, _, _, f0, _⟩ := hst.c;have y5 : w.cell? ⟨b, o + 5, none⟩ = some (.int .i64 x.n) := at_cell ⟨C, hb, hx⟩ rfl;have z5 : w.frozen? ⟨b, o + 5, none⟩ = false := at_free (x := x) ⟨C, hb, hx⟩ _;have hbG : b ≠ G := by have := hst.hg; omega
 have x5 : (w.setCell ⟨G, 0, none⟩ (.int .i64 (s.1 + 1))).cell? ⟨b, o + 5, none⟩ = some (.int .i64 x.n) := (World.cell?_of_block (heap_setCell_other w _ b _ hbG)).trans y5;have HP := xH (fun w2 => ent_pre (w2 := w2) hb hx hbH hst);have HN := xH hnm;have HH := xH hH;have HL := xH hl;clear hb hx hst hnm hH y5 hl;go_enter Try.func54, Try.ntmps54;go_upto_region 3 with (fail)
 generalize (w.setCell _ _).setCell _ _ = w2 at *;obtain ⟨hb2, hst2, hch, k5, k8, hz⟩ := HP.out w2 rfl;have HS := xH hst2;have HB := xH hb2;have HC := xH hch;have HZ := xH hz;clear hb2 hst2 hch c0 f0 z5 x5 HP hz;by_cases e1 : 60 < s.1 + 1
 ·have HR := xH (show zy x.name s = (12, (s.1 + 1, s.2)) by unfold zy; rw [if_pos e1]);go_wp2_with fail
  go_ret
  exact ⟨by rw [HR.out]; rfl, HB.out, ⟨v, by rw [HR.out]; exact HS.out⟩, HC.out⟩
 by_cases e2 : x.name.size = 0
 ·have HR := xH (show zy x.name s = (0, (s.1 + 1, s.2)) by unfold zy; rw [if_neg e1, if_pos e2]);have b2 := name_y e2;clear e2;go_wp2_with fail
  go_ret
  exact ⟨by rw [HR.out]; rfl, HB.out, ⟨v, by rw [HR.out]; exact HS.out⟩, HC.out⟩
 have HE2 := xH e2;have HE1 := xH e1;have b2 := name_e e2;clear e2;go_upto_region 7 with (fail)
 refine wp_region_held_drew (S := fun w' => Below w2.heap.size w2 w') (by kernel_rfl) (trw.qL w2) (fun hHeld => ?_);refine xT 0 rfl ?_ ?_ ?_;rotate_left
 ·intro w' hSw;go_simp;try rfl
 simp only [xS];refine xT 1 rfl ?_ ?_ ?_;rotate_left
 ·intro w' hSw;go_simp;try rfl
 simp only [xS];refine xT 2 rfl ?_ ?_ ?_;rotate_left
 ·intro w' hSw;go_simp;try rfl
 simp only [xS];refine xT 3 rfl ?_ ?_ ?_;rotate_left
 ·intro w' hSw;have m0 := trw.qf hSw HS.out.c.c2;go_simp;try rfl
 simp only [xS];refine xT 4 rfl ?_ ?_ ?_;rotate_left
 ·intro w' hSw;go_simp;try rfl
 simp only [xS];refine xT 5 rfl ?_ ?_ ?_;rotate_left
 ·intro w' hSw;go_simp;try rfl
 simp only [xS];refine xT 6 rfl ?_ ?_ ?_;rotate_left
 ·intro w' hSw;go_simp;try rfl
 simp only [xS];refine xT 7 rfl ?_ ?_ ?_;rotate_left
 ·intro w' hSw;have n8 := trw.qf hSw k8;go_simp;try rfl
 simp only [xS];refine xT 8 rfl (.tuple #[.int .i64 ((nmLook s.2 x.name).getD 0), .bool (nmLook s.2 x.name).isSome]) ?_ ?_
 ·intro w' hSw;refine exec_look (l := s.2) (key := x.name) (b := M) (n := s.2.length) (.tmp 35) (.tmp 39) ?_ ?_ ?_ ?_ ?_
  ·rfl
  ·rfl
  ·exact mapV_below HS.out.map hSw
  ·rfl
  ·exact HN.out
 simp only [xS];refine xT 9 rfl ?_ ?_ ?_;rotate_left
 ·intro w' hSw;go_simp;try rfl
 simp only [xS];refine xT 10 rfl ?_ ?_ ?_;rotate_left
 ·intro w' hSw;go_simp;try rfl
 simp only [xS];refine xT 11 rfl ?_ ?_ ?_;rotate_left
 ·intro w' hSw;go_simp;try rfl
 simp only [xS];refine xT 12 rfl ?_ ?_ ?_;rotate_left
 ·intro w' hSw;go_simp;try rfl
 simp only [xS];refine xT 13 rfl ?_ ?_ ?_;rotate_left
 ·intro w' hSw;go_simp;try rfl
 simp only [xS];refine wpAnyH_done (by kernel_rfl) ?_ _;have HS3 := xH (HS.out.keep (w' := w2.drew) fun _ _ _ => rfl);have HC3 := xH (HC.out.trans (Chg.of_below (b := b) (lo := 0) (hi := 0) (trw.qL w2) (by rw [HZ.out]; exact HH.out)));have HB3 := xH (show w2.drew.heap[b]? = _ from HB.out);have HZ3 := xH (show w2.drew.heap.size = w.heap.size from HZ.out);have l5 : w2.drew.cell? ⟨b, o + 5, none⟩ = _ := k5;have l8 : w2.drew.cell? ⟨b, o + 8, none⟩ = _ := k8;clear hHeld k5 k8 HS HC HB HZ;generalize w2.drew = w3 at *;cases hlk : nmLook s.2 x.name with
 | some k =>
  have HR := xH (show zy x.name s = (if k = s.1 + 1 then 0 else 33, (s.1 + 1, s.2)) by unfold zy; rw [if_neg HE1.out, if_neg HE2.out, hlk]);clear hlk;simp only [Option.isSome_some, Option.getD_some];by_cases hk : k = s.1 + 1
  ·have HR2 := xH (HR.out.trans (by rw [if_pos hk]));have b3 : (k == s.1 + 1) = true := by simp [hk]
   have b4 : (k != s.1 + 1) = false := by simp [hk]
   clear hk HR;go_wp2_with fail
   go_ret
   exact ⟨by rw [HR2.out]; rfl, HB3.out, ⟨v, by rw [HR2.out]; exact HS3.out⟩, HC3.out⟩
  ·have HR2 := xH (HR.out.trans (by rw [if_neg hk]));have b3 : (k == s.1 + 1) = false := by simp [hk]
   have b4 : (k != s.1 + 1) = true := by simp [hk]
   clear hk HR;go_wp2_with fail
   go_ret
   exact ⟨by rw [HR2.out]; rfl, HB3.out, ⟨v, by rw [HR2.out]; exact HS3.out⟩, HC3.out⟩
 | none =>
  have HR := xH (show zy x.name s = (0, (s.1 + 1, s.2 ++ [(x.name, s.1 + 1)])) by unfold zy; rw [if_neg HE1.out, if_neg HE2.out, hlk]);clear hlk;simp only [Option.isSome_none, Option.getD_none];go_upto_region 11 with (fail)
  have HGM := xH (show some G ≠ some M from fun e => gm_ne (H := H) (v := v) HS3.out.g HS3.out.map (by cases e; rfl));have HBM := xH (show some b ≠ some M from fun e => (by have := HS3.out.hm; cases e; omega));refine wp_region_held_drew (S := fun w' => w3.grownBy w' (some M)) (by kernel_rfl) ⟨rfl, rfl, rfl, xL _, fun _ _ _ => rfl⟩ (fun hHeld => ?_);refine xT 0 rfl ?_ ?_ ?_;rotate_left
  ·intro w' hSw;go_simp;try rfl
  simp only [xS];refine xT 1 rfl ?_ ?_ ?_;rotate_left
  ·intro w' hSw;go_simp;try rfl
  simp only [xS];refine xT 2 rfl ?_ ?_ ?_;rotate_left
  ·intro w' hSw;go_simp;try rfl
  simp only [xS];refine xT 3 rfl ?_ ?_ ?_;rotate_left
  ·intro w' hSw;exact z127
  simp only [xS];refine xT 4 rfl ?_ ?_ ?_;rotate_left
  ·intro w' hSw;go_simp;try rfl
  simp only [xS];refine xT 5 rfl ?_ ?_ ?_;rotate_left
  ·intro w' hSw;go_simp;try rfl
  simp only [xS];refine xT 6 rfl ?_ ?_ ?_;rotate_left
  ·intro w' hSw;go_simp;try rfl
  simp only [xS];refine xT 7 rfl ?_ ?_ ?_;rotate_left
  ·intro w' hSw;exact z127
  simp only [xS];refine xT 8 rfl ?_ ?_ ?_;rotate_left
  ·intro w' hSw;go_simp;try rfl
  simp only [xS];refine xT 9 rfl ?_ ?_ ?_;rotate_left
  ·intro w' hSw;go_simp;try rfl
  simp only [xS];refine xT 10 rfl ?_ ?_ ?_;rotate_left
  ·intro w' hSw;go_simp;try rfl
  simp only [xS];refine xT 11 rfl ?_ ?_ ?_;rotate_left
  ·intro w' hSw;exact z127
  simp only [xS];refine xD 12 rfl (fun K hK => ?_);refine held_upd rfl rfl _ _ _ rfl rfl (mapV_below HS3.out.map (trw.qL _)) ?_ rfl HN.out rfl ?_
  ·have := HL.out; show s.2.length < maxLen; unfold maxLen; omega
  intro w4 hm4 hg4;have HM4 := xH hm4;have HG4 := xH (show w3.grownBy w4 (some M) from ⟨hg4.os, hg4.tape, hg4.output, hg4.size, hg4.block⟩);clear hm4 hg4;refine hK.out _ _ HG4.out (fun hHeld => ?_);clear hK K;try simp only [xS]
  refine wpAnyH_done (by kernel_rfl) ?_ _;have HG2 := xH ((HG4.out.block G (StAt.lt HS3.out.g) HGM.out).trans HS3.out.g);have HR4 := xH (show w4.ownsRow H 67 2 v s.2.length (nmC s.2) from tkw.jJ HS3.out.row fun k hk => HG4.out.block k (own_below HS3.out.row hk).2 (fun e => row_nm HS3.out.map HS3.out.row (hk.trans e)));have HBB := xH ((HG4.out.block b (by have := HS3.out.hg; have := StAt.lt HS3.out.g; omega) HBM.out).trans HB3.out);have HGZ := xH (show H ≤ w4.heap.size by have := HG4.out.size; have := HZ3.out; have := HH.out; omega);have HAPP := xH (fun w5 v' (hr : w5.ownsRow H 67 2 v' (s.2 ++ [(x.name, s.1 + 1)]).length (nmC (s.2 ++ [(x.name, s.1 + 1)]))) hk => StAt.add (v' := v') (q := (x.name, s.1 + 1)) HS3.out rfl HM4.out HG4.out (w4 := w5) hr hk);have HS5G := xH HS3.out.hg;have HC4 := xH (HC3.out.trans (Chg.of_grown HG4.out (by rw [HZ3.out]; exact HH.out) HS3.out.hm));have k5 := HG4.out.cell l5 HBM.out;have k8 := HG4.out.cell l8 HBM.out;have g1 := yC 1 v HG2;have HRN := xH (row_ne (H := H) (v := v) HG2.out (by decide) HR4.out);clear l5 l8 hHeld HM4 HG4 HS3 HB3 HC3 HZ3;go_upto_region 12 with (fail)
  refine wp_region_held_drew (S := fun w' => w'.heap[b]? = w4.heap[b]?) (by kernel_rfl) rfl (fun hHeld => ?_);have HD := xH (show w4.drew.heap = w4.heap ∧ Below H w4 w4.drew from ⟨rfl, rfl, rfl, rfl, xL _, fun _ _ => rfl⟩);have HRD := xH (show w4.drew.ownsRow H 67 2 v s.2.length (nmC s.2) from HR4.out);have gD : w4.drew.cell? ⟨G, 1, none⟩ = some v := g1;clear g1;generalize w4.drew = wD at *;refine xT 0 rfl ?_ ?_ ?_;rotate_left
  ·intro w' hSw;go_simp;try rfl
  simp only [xS];refine xT 1 rfl ?_ ?_ ?_;rotate_left
  ·intro w' hSw;go_simp;try rfl
  simp only [xS];refine xT 2 rfl ?_ ?_ ?_;rotate_left
  ·intro w' hSw;go_simp;try rfl
  simp only [xS];refine xT 3 rfl ?_ ?_ ?_;rotate_left
  ·intro w' hSw;go_simp;try rfl
  simp only [xS];refine xT 5 rfl ?_ ?_ ?_;rotate_left
  ·intro w' hSw;go_simp;try rfl
  simp only [xS];refine xT 6 rfl ?_ ?_ ?_;rotate_left
  ·intro w' hSw;go_simp;try rfl
  simp only [xS];refine xT 7 rfl ?_ ?_ ?_;rotate_left
  ·intro w' hSw;go_simp;try rfl
  simp only [xS];refine xT 8 rfl ?_ ?_ ?_;rotate_left
  ·intro w' hSw;exact z103
  simp only [xS];refine xT 9 rfl ?_ ?_ ?_;rotate_left
  ·intro w' hSw;go_simp;try rfl
  simp only [xS];refine xT 10 rfl ?_ ?_ ?_;rotate_left
  ·intro w' hSw;go_simp;try rfl
  simp only [xS];refine xT 11 rfl ?_ ?_ ?_;rotate_left
  ·intro w' hSw;go_simp;try rfl
  simp only [xS];refine xT 12 rfl ?_ ?_ ?_;rotate_left
  ·intro w' hSw;exact z103
  simp only [xS];refine xT 13 rfl ?_ ?_ ?_;rotate_left
  ·intro w' hSw;go_simp;try rfl
  simp only [xS];refine wpAnyH_ready (rs := [4, 14]) (by kernel_rfl) (by simp) ?_;refine AllReadyH.cons rfl (fun K hK => ?_) (AllReadyH.cons rfl (fun K hK => ?_) AllReadyH.nil)
  ·go_simp;refine hK.out _ _ (by rw [HD.out.1]) (fun hHeld => ?_);clear hK K;try simp only [xS]
   refine xD 14 rfl (fun K hK => ?_);go_simp;have HX := xH (show (wD.alloc (.cells #[.string x.name, .int .i64 (s.1 + 1)] 67)).heap[b]? = w4.heap[b]? from (heap_alloc_old _ _ (by rw [HD.out.1]; have := HGZ.out; omega)).trans (by rw [HD.out.1]));refine hK.out _ _ HX.out (fun hHeld => ?_);exact z8
  ·go_simp;have HX := xH (show (wD.alloc (.cells #[.string x.name, .int .i64 (s.1 + 1)] 67)).heap[b]? = w4.heap[b]? from (heap_alloc_old _ _ (by rw [HD.out.1]; have := HGZ.out; omega)).trans (by rw [HD.out.1]));refine hK.out _ _ HX.out (fun hHeld => ?_);clear hK K;try simp only [xS]
   have g2 : (wD.alloc (.cells #[.string x.name, .int .i64 (s.1 + 1)] 67)).cell? ⟨G, 1, none⟩ = some v := trw.qf (trw.qg wD _) gD;refine xD 4 rfl (fun K hK => ?_);go_simp;refine hK.out _ _ HX.out (fun hHeld => ?_);exact z8
def entA (C : Array Value) (o : Nat) (x : Lab) (s : St) : Array Value := if x.kind = 14 then C.setIfInBounds (o + 5) (.int .i64 (s.1 + 1)) else C
theorem fC_app_at : ∀ (g : F) (x : Lab) (k r : F) (j : Nat) (u : Value), (ndC x)[j]? = some u → (fC (F.app g (.cons x k r)))[g.len * 12 + j]? = some u
 | .nil, x, k, r, j, u, h => by rw [F.app, fC, F.len, Nat.zero_mul, Nat.zero_add, List.getElem?_append_left (List.getElem?_eq_some_iff.1 h).1];exact h
 | .cons y _ g, x, k, r, j, u, h => by have := fC_app_at g x k r j u h;rw [F.app, fC, F.len, List.getElem?_append_right (by simp only [ndC, List.length_cons, List.length_nil]; omega)];rw [show (g.len + 1) * 12 + j - (ndC y).length = g.len * 12 + j by simp only [ndC, List.length_cons, List.length_nil]; omega];exact this
theorem fC_app_set (n : Int) : ∀ (g : F) (x : Lab) (k k2 r : F), (fC (F.app g (.cons x k r))).set (g.len * 12 + 5) (.int .i64 n) = fC (F.app g (.cons { x with n := n } k2 r))
 | .nil, x, k, k2, r => rfl
 | .cons y _ g, x, k, k2, r => by rw [F.app, fC, F.app, fC, ← fC_app_set n g x k k2 r, F.len, List.set_append_right _ _ (by simp only [ndC, List.length_cons, List.length_nil]; omega)];rw [show (g.len + 1) * 12 + 5 - (ndC y).length = g.len * 12 + 5 by simp only [ndC, List.length_cons, List.length_nil]; omega]
theorem ent_row (g : F) (x : Lab) (k k2 r : F) (s : St) : entA (fC (F.app g (.cons x k r))).toArray (g.len * 12) x s = (fC (F.app g (.cons (entL x s) k2 r))).toArray := by
 unfold entA entL;split
 ·rw [List.setIfInBounds_toArray, fC_app_set]
 ·rw [show fC (F.app g (.cons x k r)) = fC (F.app g (.cons x k2 r)) from by rw [jQ, jQ];rfl]
theorem app_one (x : Lab) (k : F) (r : F) : ∀ g, F.app (F.app g (F.one x k)) r = F.app g (.cons x k r)
 | .nil => rfl
 | .cons y j g => by rw [F.app, F.app, F.app, app_one x k r g]
theorem app_as : ∀ f g h : F, F.app (F.app f g) h = F.app f (F.app g h)
 | .nil, _, _ => rfl
 | .cons x k r, g, h => by rw [F.app, F.app, F.app, app_as r g h]
theorem app_nl : ∀ f : F, F.app f .nil = f
 | .nil => rfl
 | .cons x k r => by rw [F.app, app_nl r]
theorem len1 (g : F) (x : Lab) (k : F) : (F.app g (F.one x k)).len = g.len + 1 := by rw [jd]; rfl
def AsB (H G M b o lo hi : Nat) (C : Array Value) (x : Lab) (k : F) (s : St) (w : World) (e : Ending) (w' : World) : Prop :=
 e = .returned (.tuple #[.int .i64 (numN x k s).1.1, .int .i64 (numN x k s).1.2]) ∧ Chg H b lo hi w w' ∧
 ((numN x k s).1.1 = 0 → w'.heap[b]? = some (.cells (entA C o x s) 27 (0, 0)) ∧ (∃ v, StAt w' H G M v (numN x k s).2.2) ∧ NdI w' (numN x k s).2.1.1 (numN x k s).2.1.2 lo hi)
theorem numN_err {x : Lab} {k : F} {s : St} (h : (entS x s).1 ≠ 0) : (numN x k s).1 = ((entS x s).1, x.at_) := by unfold numN;simp only [if_pos h]
theorem numN_ok {x : Lab} {k : F} {s : St} (h : (entS x s).1 = 0) {t : (Int × Int) × F × Int × St} (ht : numF (decide (x.kind = 16)) (entS x s).2.1 k (entS x s).2.1 (entS x s).2 = t) :
 (t.1.1 ≠ 0 → (numN x k s).1 = t.1) ∧ (t.1.1 = 0 → numN x k s = ((0, 0), (entL x s, t.2.1), (t.2.2.1, t.2.2.2.2))) := by
 unfold numN;have h' : ¬ (entS x s).1 ≠ 0 := by omega
 simp only [if_neg h', ht];refine ⟨fun e => by simp only [if_pos e], fun e => ?_⟩;rw [if_neg (by omega)]
structure AsR (H G M b lo hi B : Nat) (C1 : Array Value) (k : F) (rs : Bool) (bef : Int) (s1 : St) (w wr : World) (g r : F) (lg : Int) (s : St) (v : Value) (m : Nat) : Prop where
 row : wr.heap[B]? = some (.cells (fC (F.app g r)).toArray 27 (0, 0))
 sg : Sub wr g (B + 1) m
 sr : Sub wr r m hi
 st : StAt wr H G M v s
 ch : Chg H b B hi w wr
 nb : wr.heap[b]? = some (.cells C1 27 (0, 0))
 len : g.len + r.len = k.len
 eq : numF rs bef k bef s1 = ((numF rs bef r lg s).1, F.app g (numF rs bef r lg s).2.1, (numF rs bef r lg s).2.2)
 b1 : 0 ≤ lg ∧ lg ≤ 60 ∧ 0 ≤ s.1 ∧ s.1 ≤ 60 ∧ s.2.length + r.size ≤ 2000000
 nm : AllNm r
 sz : r.size ≤ k.size
 H2 : H ≤ wr.heap.size
theorem AsR.next {H G M b lo hi B : Nat} {C1 : Array Value} {k : F} {rs : Bool} {bef : Int} {s1 : St} {w wr w3 w4 : World} {g r : F} {lg : Int} {s : St} {v v4 : Value} {m m1 : Nat} {y : Lab} {kk : F} (R : AsR H G M b lo hi B C1 k rs bef s1 w wr g (.cons y kk r) lg s v m)
 (hbl : b < lo ∨ hi ≤ b) (hbH : b < H) (hlB : lo ≤ B) (hH : hi ≤ H) (h0 : 0 ≤ bef ∧ bef ≤ 60) (hm : m1 ≤ hi) (hs : Sub wr r m1 hi) (h3 : ∀ j, j < H → w3.heap[j]? = wr.heap[j]?) (h3c : Chg H b B hi wr w3) (he : (numN y kk (if rs = true then bef else s.1, s.2)).1.1 = 0)
 (hc : Chg H B m m1 w3 w4) (hr : w4.heap[B]? = some (.cells (entA (fC (F.app g (.cons y kk r))).toArray (g.len * 12) y (if rs = true then bef else s.1, s.2)) 27 (0, 0))) (ht : StAt w4 H G M v4 (numN y kk (if rs = true then bef else s.1, s.2)).2.2)
 (hn : NdI w4 (numN y kk (if rs = true then bef else s.1, s.2)).2.1.1 (numN y kk (if rs = true then bef else s.1, s.2)).2.1.2 m m1) :
 AsR H G M b lo hi B C1 k rs bef s1 w w4 (F.app g (F.one (numN y kk (if rs = true then bef else s.1, s.2)).2.1.1 (numN y kk (if rs = true then bef else s.1, s.2)).2.1.2)) r (max lg (numN y kk (if rs = true then bef else s.1, s.2)).2.2.1) (numN y kk (if rs = true then bef else s.1, s.2)).2.2 v4 m1 := by
 have hbB : B + 1 ≤ m := sub_le R.sg;have hmm := ndI_le hn;have hmh := sub_le hs;have bd := numN_bd y kk (if rs = true then bef else s.1, s.2) (by have := R.b1; show 0 ≤ (if rs = true then bef else s.1); split <;> omega) (by have := R.b1; show (if rs = true then bef else s.1) ≤ 60; split <;> omega) he;have hx : (numN y kk (if rs = true then bef else s.1, s.2)).2.1.1 = entL y (if rs = true then bef else s.1, s.2) := numN_lab _ _ _;have hE := R.eq;rw [numF_cons] at hE;simp only at hE;rw [if_neg (by omega)] at hE;obtain ⟨b1, b2, b3, b4, b5⟩ := R.b1;have hcs : Chg H b B hi w3 w4 := ⟨hc.os, hc.tape, hc.output, hc.size, fun j k1 k2 k3 => hc.block j k1 (by omega) (by omega)⟩;have hsz := R.sz;have hln := R.len;have hBB : m1 ≤ hi := hm;simp only [F.size, F.len] at hsz hln b5;generalize hq : numN y kk (if rs = true then bef else s.1, s.2) = q at *;refine ⟨?_, sub_app (sub_keep (a := B + 1) (b := m) (fun j k1 k2 => (hc.block j (by omega) (by omega) (Or.inl k2)).trans (h3 j (by omega))) R.sg (xL _) (xL _)) (sub_one hn),
  sub_keep (a := m1) (b := hi) (fun j k1 k2 => (hc.block j (by omega) (by omega) (Or.inr k1)).trans (h3 j (by omega))) hs (xL _) (xL _), ht, (R.ch.trans h3c).trans hcs,
  (hc.block b hbH (by omega) (by omega)).trans ((h3 b hbH).trans R.nb), by rw [len1]; omega, ?_, ⟨by omega, by omega, bd.1, bd.2.1, by have := bd.2.2.1; simp only at this; omega⟩, R.nm.2.2, by omega, Nat.le_trans R.H2 (Nat.le_trans h3c.size hc.size)⟩
 ·rw [hr, app_one, hx, ent_row g y kk q.2.1.2 r]
 ·rw [hE, app_as];rfl
theorem assign_all : ∀ (z : Nat) (w : World) (H G M b o lo hi : Nat) (C : Array Value) (x : Lab) (k : F) (v : Value) (s : St) (_hz : k.size < z) (_hb : w.heap[b]? = some (.cells C 27 (0, 0))) (_hx : ∀ j u, (ndC x)[j]? = some u → C[o + j]? = some u) (_hbl : b < lo ∨ hi ≤ b) (_hbH : b < H) (_hhi : hi ≤ H) (_hn : NdI w x k lo hi) (_hst : StAt w H G M v s) (_hH : H ≤ w.heap.size) (_h0 : 0 ≤ s.1) (_h1 : s.1 ≤ 60) (_hl : s.2.length + (k.size + 1) ≤ 2000000) (_hnm : AllNm (F.one x k)),
 Calls Try.prog 36 #[.pointer (some ⟨G, 0, none⟩), .pointer (some ⟨b, o, none⟩)] w (AsB H G M b o lo hi C x k s w) := by
 intro z;refine Nat.rec ?_ (fun z ih => ?_) z
 ·intro w H G M b o lo hi C x k v s hz;exact absurd hz (Nat.not_lt_zero _)
 intro w H G M b o lo hi C x k v s hz hb hx hbl hbH hhi hn hst hH h0 h1 hl hnm;have IH := xH (@ih);clear ih;obtain ⟨hlab, a, B, hla, haB, hset, hkl, hkv, hrow, hsub⟩ := id hn;have hlo := ndI_le hn;have hBh := sub_le hsub;have y0 : w.cell? ⟨b, o, none⟩ = some (.int .i64 x.kind) := at_cell (o := o) (j := 0) ⟨C, hb, hx⟩ rfl;have HST := xH hst;have HB := xH hb;have HX := xH hx;have HNI := xH hn;have HNM := xH hnm;have HH := xH hH;have HL := xH hl;have HZ := xH hz;have HKV := xH hkv;have HROW := xH hrow;have HSUB := xH hsub;have HSET := xH hset;have HLAB := xH hlab;have HC1 : Hid (∀ j u, (ndC x)[j]? = some u → j ≠ 5 → (entA C o x s)[o + j]? = some u) := xH (fun j u hj h5 => by
  unfold entA;split
  ·rw [Array.getElem?_setIfInBounds_ne (by omega)]; exact hx j u hj
  ·exact hx j u hj)
 clear hst hb hx hn hnm hH hl hz hkv hrow hsub hset hlab;go_enter Try.func36, Try.ntmps36;go_upto_if 16 with (fail)
 go_cut [] (fun w1 => ∃ v1, Hid ((entS x s).1 = 0) ∧ Hid (w1.heap[b]? = some (.cells (entA C o x s) 27 (0, 0))) ∧ Hid (StAt w1 H G M v1 (entS x s).2) ∧ Hid (Chg H b 0 0 w w1))
 case first =>
  by_cases h14 : x.kind = 14
  ·have b14 : (x.kind == 14) = true := by simp [h14]
   have HES := xH (show entS x s = zy x.name s by unfold entS; rw [if_pos h14]);have HEA := xH (show entA C o x s = C.setIfInBounds (o + 5) (.int .i64 (s.1 + 1)) by unfold entA; rw [if_pos h14]);have HEN := xH (enter_any HB.out HX.out (show b < H by omega) HST.out HH.out h0 h1 (by have := HL.out; omega) (by unfold maxLen; exact HNM.out.1));have HAT := xH (HX.out 1 _ rfl);clear h14;go_wp2_with fail
   refine HEN.out.mono ?_;rintro e w1 ⟨rfl, hb1, ⟨v1, hst1⟩, hch1⟩;have HB1 := xH hb1;have HST1 := xH hst1;have HCH1 := xH hch1;have c1 : w1.cell? ⟨b, o + 1, none⟩ = some (.int .i64 x.at_) := by unfold World.cell?;rw [hb1];simp only;rw [Array.getElem?_setIfInBounds_ne (by omega)];exact HAT.out
   clear hb1 hst1 hch1;by_cases he : (zy x.name s).1 = 0
   ·have be : ((zy x.name s).1 != 0) = false := by simp [he]
    have HE := xH he;clear he;go_wp2_with fail
    go_meet
    exact ⟨v1, by rw [HES.out]; exact HE, by rw [HEA.out]; exact HB1, by rw [HES.out]; exact HST1, HCH1⟩
   ·have be : ((zy x.name s).1 != 0) = true := by simp [he]
    have HE := xH (numN_err (k := k) (show (entS x s).1 ≠ 0 by rw [HES.out]; exact he));go_wp2_with fail
    go_quiet (fail)
    rename_i nq;go_wp2_with fail
    go_ret2
    exact ⟨by rw [HE.out, HES.out]; rfl, (HCH1.out.wide (Or.inl rfl) (Or.inr (xL _)) (Or.inr (xL _))).trans (Chg.of_low (tkw.zI (Below.refl _ _) nq)), fun h => absurd (show (entS x s).1 = 0 by rw [HE.out] at h; exact h) (by rw [HES.out]; exact he)⟩
  ·have b14 : (x.kind == 14) = false := by simp [h14]
   have HES := xH (show entS x s = (0, s) by unfold entS; rw [if_neg h14]);have HEA := xH (show entA C o x s = C by unfold entA; rw [if_neg h14]);clear h14;go_wp2_with fail
   go_meet
   exact ⟨v, xH (by rw [HES.out]), by rw [HEA.out]; exact HB, by rw [HES.out]; exact HST, xH (Chg.refl _ _ _ _ _)⟩
 case rest =>
  obtain ⟨v1, HE, HB1, HST1, HCH1⟩ := hcut;have HB0 := xH (show 0 ≤ (entS x s).2.1 ∧ (entS x s).2.1 ≤ 60 ∧ (entS x s).2.2.length ≤ s.2.length + 1 from ⟨ent_ge x s h0, ent_le60 x s h1 HE.out, (ent_le x s).2.2.2⟩);obtain ⟨T, hT⟩ : ∃ T, numF (decide (x.kind = 16)) (entS x s).2.1 k (entS x s).2.1 (entS x s).2 = T := ⟨_, rfl⟩;have HNO := xH (numN_ok HE.out hT);have HT := xH hT;clear hT y0 HE;generalize (entS x s).2 = s1 at *;obtain ⟨l1, nm1⟩ := s1;have c0 := HST1.out.c.c0;simp only at c0;go_wp2_with fail
  go_quiet (fail)
  rename_i nq;have HST2 := xH (show StAt (wc.drewN nq) H G M v1 (l1, nm1) from HST1.out.keep fun _ _ _ => rfl);have HCH2 := xH ((HCH1.out.wide (b2 := b) (lo2 := B) (hi2 := hi) (Or.inl rfl) (Or.inr (xL _)) (Or.inr (xL _))).trans (Chg.of_low (tkw.zI (Below.refl _ _) nq)));have HB2 := xH (show (wc.drewN nq).heap[b]? = _ from HB1.out);have HK2 := xH (show ∀ j, j < H → j ≠ b → (wc.drewN nq).heap[j]? = w.heap[j]? from fun j h1 h2 => HCH1.out.block j h1 h2 (by omega));have HZ2 := xH (show w.heap.size ≤ (wc.drewN nq).heap.size from HCH1.out.size);clear HST1 HCH1 HB1 c0;generalize wc.drewN nq = w2 at *;have HR0 := xH (show AsR H G M b lo hi B (entA C o x s) k (decide (x.kind = 16)) l1 (l1, nm1) w w2 .nil k l1 (l1, nm1) v1 (B + 1) from
   ⟨(HK2.out B (by omega) (by omega)).trans HROW.out, xL _, sub_keep (a := lo) (b := hi) (fun j k1 k2 => HK2.out j (by omega) (by omega)) HSUB.out (by omega) (xL _), HST2.out, HCH2.out, HB2.out, by simp only [F.len]; omega, rfl,
    ⟨HB0.out.1, HB0.out.2.1, HB0.out.1, HB0.out.2.1, by have := HL.out; have := HB0.out.2.2; simp only at this ⊢; omega⟩, HNM.out.2.1, xL _, Nat.le_trans HH.out HZ2.out⟩)
  have y11 : w2.cell? ⟨b, o + 11, none⟩ = some (.slice (some ⟨B, 0, none⟩) k.len k.len) := by unfold World.cell?;rw [HB2.out];simp only;rw [HC1.out 11 _ rfl (by omega), HKV.out];rfl
  have HC := xH HC1.out;clear HST2 HCH2 HK2 HZ2;have hkl2 : k.len ≤ 9223372036854775807 := by omega
  go_wp2_with fail
  go_loopw [8, 40] (fun v8 v40 wr => ∃ (g r : F) (lg : Int) (sv : St) (v : Value) (m : Nat), v8 = .int .i64 lg ∧ v40 = .int .i64 g.len ∧ Hid (AsR H G M b lo hi B (entA C o x s) k (decide (x.kind = 16)) l1 (l1, nm1) w wr g r lg sv v m)) (fun _ v40 _ => k.len - (intOf v40).toNat)
  case atStart => exact ⟨.nil, k, l1, _, _, _, rfl, rfl, HR0⟩
  case round =>
   obtain ⟨g, r, lg, sv, v, m, rfl, rfl, HR⟩ := hrel;have hlen := HR.out.len;have c0 := HR.out.st.c.c0;have f0 := HR.out.st.c.f0;have y11 : wr.cell? ⟨b, o + 11, none⟩ = some (.slice (some ⟨B, 0, none⟩) k.len k.len) := by unfold World.cell?;rw [HR.out.nb];simp only;rw [HC.out 11 _ rfl (by omega), HKV.out];rfl
   have y0 : wr.cell? ⟨b, o, none⟩ = some (.int .i64 x.kind) := by unfold World.cell?;rw [HR.out.nb];exact HC.out 0 _ rfl (by omega)
   cases r with
   | nil =>
    have hg : g.len = k.len := hlen;have hd : decide (g.len < k.len) = false := by simp [hg]
    have HG := xH hg;have HTT := xH (show T = ((0, 0), g, lg, sv) from HT.out.symm.trans (HR.out.eq.trans (by simp only [numF, app_nl])));clear hlen hg y11 y0;go_wp2_with fail
    go_ret2
    have HN := xH ((HNO.out.2 (by rw [HTT.out])).trans (by rw [HTT.out]));have hst := HR.out.st.last lg;refine ⟨by rw [HN.out]; rfl, (HR.out.ch.wide (Or.inl rfl) (Or.inl (by omega)) (Or.inl (xL _))).trans (Chg.cell _ G 0 _ (Or.inr HR.out.st.hg)), fun _ => ⟨(heap_setCell_other _ _ b _ (show b ≠ G by have := HR.out.st.hg; omega)).trans HR.out.nb, ⟨v, by rw [HN.out]; exact hst⟩, ?_⟩⟩;rw [HN.out];have hGH := HR.out.st.hg;have hk3 : ∀ j, j < H → (wr.setCell ⟨G, 0, none⟩ (.int .i64 lg)).heap[j]? = wr.heap[j]? := fun j hj => heap_setCell_other _ _ j _ (show j ≠ G by omega)
    have hsr : m ≤ hi := HR.out.sr;refine ⟨?_, a, B, hla, haB, ?_, by rw [HG.out]; exact hkl, ?_, ?_, ?_⟩
    ·have := HLAB.out;unfold entL;split
     ·exact ⟨this.1, this.2.1, this.2.2.1, (by unfold I64; show _ ≤ s.1 + 1 ∧ s.1 + 1 ≤ _; omega), this.2.2.2.2⟩
     ·exact this
    ·have hss : (entL x s).sv = x.sv ∧ (entL x s).set = x.set := by unfold entL; split <;> exact ⟨rfl, rfl⟩
     rw [hss.1, hss.2];exact set_keep HSET.out (xL _) (xL _) fun j k1 k2 => (hk3 j (by omega)).trans (HR.out.ch.block j (by omega) (by omega) (Or.inl (by omega)))
    ·have hss : (entL x s).kv = x.kv := by unfold entL; split <;> rfl
     rw [hss, HKV.out];show _ = Value.slice _ g.len g.len;rw [HG.out]
    ·rw [hk3 B (by omega), HR.out.row, app_nl]
    ·exact sub_keep (a := B + 1) (b := hi) (fun j k1 k2 => hk3 j (by omega)) (sub_hi HR.out.sg hsr) (xL _) (xL _)
   | cons y kk r =>
    have hlt : g.len < k.len := by simp only [F.len] at hlen; omega
    have hsz := HR.out.sz;simp only [F.size] at hsz;obtain ⟨m1, hm1, hny, hsr⟩ := sub_cons.1 HR.out.sr;have hm2 := sub_le hsr;have hm3 := sub_le HR.out.sg;have hm4 := ndI_le hny;have HNY := xH hny;have HSR := xH hsr;have HD7 := xH (show B < m ∧ m1 ≤ H ∧ m1 ≤ hi from ⟨by omega, by omega, hm1⟩);clear hlen hny hsr hsz hm1 hm2 hm3 hm4;have hB1 := HR.out.b1;have HS0 := xH (show 0 ≤ (if decide (x.kind = 16) = true then l1 else sv.1) ∧ (if decide (x.kind = 16) = true then l1 else sv.1) ≤ 60 from by have := HB0.out; split <;> omega);clear hB1;go_upto_if 47 with (fail)
    go_cut [] from 41 to 73 (fun w3 => ∃ v3, Hid (StAt w3 H G M v3 ((if decide (x.kind = 16) = true then l1 else sv.1), sv.2)) ∧ Hid (∀ j, j < H → w3.heap[j]? = wr.heap[j]?) ∧ Hid (Chg H b B hi wr w3))
    case first =>
     by_cases h16 : x.kind = 16
     ·have b16 : (x.kind == 16) = true := by simp [h16]
      have HS := xH (show (if decide (x.kind = 16) = true then l1 else sv.1) = l1 from by rw [if_pos (by simp [h16])]);have HLS := xH (HR.out.st.last l1);clear h16;go_wp2_with fail
      go_meet
      exact ⟨v, by rw [HS.out]; exact HLS, xH (fun j hj => heap_setCell_other _ _ j _ (show j ≠ G by have := HR.out.st.hg; omega)), xH (Chg.cell _ G 0 _ (Or.inr HR.out.st.hg))⟩
     ·have b16 : (x.kind == 16) = false := by simp [h16]
      have HS := xH (show (if decide (x.kind = 16) = true then l1 else sv.1) = sv.1 from by rw [if_neg (by simp [h16])]);clear h16;go_wp2_with fail
      go_meet
      exact ⟨v, by rw [HS.out]; exact xH HR.out.st, xH (fun _ _ => rfl), xH (Chg.refl _ _ _ _ _)⟩
    case rest =>
     obtain ⟨v3, HS3, HK3, HC3⟩ := hcut;have y12 : wc.cell? ⟨b, o + 11, none⟩ = some (.slice (some ⟨B, 0, none⟩) k.len k.len) := (World.cell?_of_block (HK3.out b (by omega))).trans y11;have HCL := xH (IH.out wc H G M B (g.len * 12) m m1 (fC (F.app g (.cons y kk r))).toArray y kk v3 _ (by have := HR.out.sz; have := HZ.out; simp only [F.size] at *; omega) ((HK3.out B (by omega)).trans HR.out.row) (fun j u hj => by simpa using fC_app_at g y kk r j u hj) (Or.inl HD7.out.1) (by have := HD7.out; omega) HD7.out.2.1
      (ndI_keep HNY.out fun j k1 k2 => HK3.out j (by have := HD7.out.2.1; omega)) HS3.out (Nat.le_trans HR.out.H2 HC3.out.size) HS0.out.1 HS0.out.2 (by have := HR.out.b1.2.2.2.2; simp only [F.size] at *; omega) ⟨HR.out.nm.1, HR.out.nm.2.1, trivial⟩)
     clear y11 y0 c0 f0;go_wp2_with fail
     refine HCL.out.mono ?_;rintro e w4 ⟨rfl, hch4, hq4⟩;have HCH4 := xH hch4;have htq := numF_cons (decide (x.kind = 16)) l1 y kk r lg sv;simp only at htq;have HTQ := xH htq;clear htq;clear hch4;by_cases hq0 : (numN y kk ((if decide (x.kind = 16) = true then l1 else sv.1), sv.2)).1.1 = 0
     ·obtain ⟨hr4, ⟨v4, hs4⟩, hn4⟩ := hq4 hq0;have HNX := xH (HR.out.next hbl hbH (by omega) hhi ⟨HB0.out.1, HB0.out.2.1⟩ HD7.out.2.2 HSR.out HK3.out HC3.out hq0 HCH4.out hr4 hs4 hn4);have c4 := hs4.c.c0;have be : ((numN y kk ((if decide (x.kind = 16) = true then l1 else sv.1), sv.2)).1.1 != 0) = false := by rw [hq0]; rfl
      have HLN := xH (len1 g (numN y kk ((if decide (x.kind = 16) = true then l1 else sv.1), sv.2)).2.1.1 (numN y kk ((if decide (x.kind = 16) = true then l1 else sv.1), sv.2)).2.1.2);clear hq4 hq0 hr4 hs4 hn4 HTQ HCL;generalize numN y kk ((if decide (x.kind = 16) = true then l1 else sv.1), sv.2) = q at *;obtain ⟨⟨q1, q2⟩, ⟨q3, q4⟩, q5, q6⟩ := q;simp only at *;go_wp2_with fail
      go_roundw
      case rel => exact ⟨_, r, _, _, _, m1, rfl, by rw [HLN.out]; go_num, HNX⟩
      case measure => simp [intOf]; omega
     ·have be : ((numN y kk ((if decide (x.kind = 16) = true then l1 else sv.1), sv.2)).1.1 != 0) = true := bne_iff_ne.2 hq0;clear hq4 HCL;generalize numN y kk ((if decide (x.kind = 16) = true then l1 else sv.1), sv.2) = q at *;have hT1 : T.1 = q.1 := by rw [← HT.out, HR.out.eq, HTQ.out];simp only;rw [if_pos hq0]
      have HE := xH hq0;have HT1 := xH hT1;clear hq0 hT1 HTQ;obtain ⟨⟨q1, q2⟩, q3⟩ := q;simp only at be;go_wp2_with fail
      go_ret2
      have hT1 := HT1.out;have HN := HNO.out.1 (by rw [hT1]; exact HE.out);exact ⟨by rw [HN, hT1]; rfl, ((HR.out.ch.wide (Or.inl rfl) (Or.inl (by omega)) (Or.inl (xL _))).trans (HC3.out.wide (Or.inl rfl) (Or.inl (by omega)) (Or.inl (xL _)))).trans (HCH4.out.wide (Or.inr ⟨by omega, by omega⟩) (Or.inl (by have := HD7.out; omega)) (Or.inl HD7.out.2.2)), fun h => absurd (by rw [HN, hT1] at h; exact h) HE.out⟩
end gpw
end
end Go.Proofs.Ytdgfclbajjjcgaa
