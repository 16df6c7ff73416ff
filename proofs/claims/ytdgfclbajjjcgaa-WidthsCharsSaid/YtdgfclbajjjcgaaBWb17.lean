/- T -/
import Derived.Test.YtdgfclbajjjcgaaBWb16
set_option maxHeartbeats 16000000
set_option maxRecDepth 1000000
namespace Go.Proofs.Ytdgfclbajjjcgaa
section
namespace rsw
open sq
open Go.Sort Go Go.RowKit Go.Maps setp setw tkp trp trw rpp rsp
open rpw (sees jB qU fC jP FSub vw jQ app_sub jH jm own_below qp oneR zk jV qA qh jU lab_ok rg_nil ql)
open rpw (jc qI)
open tkw (qM)
def hN (h : Nat → Bool) (q : Nat) (i : Nat) : Bool := h i || decide (i = q) || decide (i + 1 = q)
structure NF (h : Nat → Bool) (u : Bool) (m : Int) (x : Lab) (k : F) (w w0 : World) : Prop where
 b : Below w.heap.size w w0
 c : w0.heap[w.heap.size]? = some (.cells #[.bool u, .int .i64 m] 101 (0, 0))
 n : w0.heap[w.heap.size + 1]? = some (.cells (ndC x).toArray 27 (0, 0))
 r : w0.heap[w.heap.size + 2]? = some (.cells zC.toArray 27 (0, 0))
 t : NdAt (sees (hN h (w.heap.size + 2)) w0) (x, k)
 o : Old (hN h (w.heap.size + 2)) w0.heap.size
 s : w.heap.size + 3 ≤ w0.heap.size
theorem vK {h : Nat → Bool} {u : Bool} {m : Int} {x : Lab} {k : F} {w : World} (ho : Old h w.heap.size) (hn : NdAt (sees h w) (x, k)) : NF h u m x k w (((w.alloc (.cells #[.bool u, .int .i64 m] 101)).alloc (.cells (ndC x).toArray 27)).alloc (.cells zC.toArray 27)) := by
 have z1 := World.size_alloc w (.cells #[.bool u, .int .i64 m] 101);have z2 := World.size_alloc (w.alloc (.cells #[.bool u, .int .i64 m] 101)) (.cells (ndC x).toArray 27);have z3 := World.size_alloc ((w.alloc (.cells #[.bool u, .int .i64 m] 101)).alloc (.cells (ndC x).toArray 27)) (.cells zC.toArray 27);have b1 := qg w (.cells #[.bool u, .int .i64 m] 101);have b2 := qg (w.alloc (.cells #[.bool u, .int .i64 m] 101)) (.cells (ndC x).toArray 27);have b3 := qg ((w.alloc (.cells #[.bool u, .int .i64 m] 101)).alloc (.cells (ndC x).toArray 27)) (.cells zC.toArray 27);have g1 := heap_alloc_new w (.cells #[.bool u, .int .i64 m] 101);have g2 := heap_alloc_new (w.alloc (.cells #[.bool u, .int .i64 m] 101)) (.cells (ndC x).toArray 27);have g3 := heap_alloc_new ((w.alloc (.cells #[.bool u, .int .i64 m] 101)).alloc (.cells (ndC x).toArray 27)) (.cells zC.toArray 27);rw [z1] at g2;rw [z2, z1] at g3;have hb := qi (qi b1 b2) b3;refine ⟨hb, ?_, ?_, g3, qY (qU fun a v h1 hc => ⟨?_, trw.qf hb hc⟩) hn, fun i hi => ?_, by omega⟩
 ·rw [b3.block _ (by omega), b2.block _ (by omega)];exact g1
 ·rw [b3.block _ (by omega)];exact g2
 ·have := cell_lt hc;simp only [hN, h1, Bool.false_or, dE, dD];omega
 ·simp only [hN, Bool.or_eq_true, dF] at hi;rcases hi with (hi | hi) | hi
  ·have := ho i hi;omega
  ·omega
  ·omega
theorem nd_unN {h : Nat → Bool} {q : Nat} {w : World} {cs : Array Value} {t : Nd} (H : NdAt (sees (hN h q) w) t) : NdAt (sees h (w.setRow q cs)) t :=
 qY (qU fun a v h1 hc => by simp only [hN, dE, dD] at h1;exact ⟨h1.1.1, rpw.jI cs hc h1.1.2⟩) H
theorem nd_fld {h : Nat → Bool} {q o : Nat} {w : World} {v : Value} {t : Nd} (H : NdAt (sees (hN h (q + 1)) w) t) : NdAt (sees (hN h (q + 1)) (w.setCell ⟨q, o, none⟩ v)) t :=
 qY (qU fun a u h1 hc => ⟨h1, (World.cell?_of_block (rpw.qx o v (fun e => by simp only [hN, dE, dD] at h1;exact h1.2 (by rw [e])))).trans hc⟩) H
theorem qZ {fn : Func} {p q : Tmp} (h : fn.results = #[.cell p 27, .tmp q]) (tmps : Array Value) (w : World) (g : Nat) (l : Lab) (hp : tmps.getD p undef = .pointer (some ⟨g, 0, none⟩)) (hg : w.heap[g]? = some (.cells (ndC l).toArray 27 (0, 0))) :
 (results fn tmps).run Try.prog w = .ok (.tuple #[ndV l, tmps.getD q undef]) w := by
 have hp' : tmps[p]?.getD undef = .pointer (some ⟨g, 0, none⟩) := by simpa using hp
 exact z133
theorem vX {h : Nat → Bool} {u : Bool} {m : Int} {x : Lab} {k : F} {w w0 w' : World} {r : F × Int} {y : Lab} {j : F} {e : Int} (hf : NF h u m x k w w0) (hb : Below (w.heap.size + 1) w0 w') (ht : NdAt (sees (hN h (w.heap.size + 2)) w') (y, j)) (hs : strip (F.one y j) = r.1) (he : e = r.2) :
 NodB h r w (.returned (.tuple #[ndV y, .int .i64 e])) (w'.setRow (w.heap.size + 2) (ndC y).toArray) :=
 ⟨rpw.qC (hf.b.trans (hb.mono (Nat.le_succ _))) _ (by omega), y, j, by rw [he], nd_unN ht, hs⟩
theorem set_lab {h : Nat → Bool} {n : Nat} {w : World} {v : Value} {S : List Rg} {at_ : Int} (ha : I64 at_) (H : OwnR w n v S) (hS : Wf S) (ho : Old h n) : NdAt (sees h w) ({ lab 2 at_ with sv := v, set := S }, .nil) := by
 have z : I64 0 := by unfold I64; omega
 exact ⟨⟨by show I64 2; unfold I64; omega, ha, z, z, z, z, z, z⟩, own_rg H hS ho, none, 0, rfl, by simp [F.len], by decide, Or.inl rfl⟩
theorem setP_wf (u : Bool) {m : Int} (hm : m ≤ 1114111) (l : List Rg) (cl neg : Bool) : Wf (setP u m l cl neg) := by refine setw.jX (And.right (a := (setP u m l cl neg).Pairwise (fun a b => a.2 + 1 < b.1)) ?_);exact z102
theorem lit_wf {c : Int} (h : I64 c) : Wf [(c, c)] := fun r hr => by
 simp only [List.mem_cons, dM, or_false] at hr;subst hr;exact ⟨h, h⟩
theorem cellB {n : Nat} {w w' : World} {a : Addr} {v : Value} (hb : Below n w w') (hc : w.cell? a = some v) (ha : a.block < n) : w'.cell? a = some v := (World.cell?_of_block (hb.block a.block ha)).trans hc
theorem below_fld (q o : Nat) (v : Value) (w : World) : Below q w (w.setCell ⟨q, o, none⟩ v) := ⟨rfl, rfl, rfl, by simp [World.setCell], fun k hk => rpw.qx o v (by omega)⟩
theorem fld_facts {h : Nat → Bool} {u : Bool} {m : Int} {x : Lab} {k : F} {w w0 : World} (hf : NF h u m x k w w0) (o : Nat) (v : Value) (L : Lab) (hL : (ndC x).toArray.setIfInBounds o v = (ndC L).toArray) (hok : LabOk L) (hs : L.sv = x.sv) (hs2 : L.set = x.set) (hk : L.kv = x.kv) :
 (w0.setCell ⟨w.heap.size + 1, o, none⟩ v).heap[w.heap.size + 1]? = some (.cells (ndC L).toArray 27 (0, 0)) ∧ (w0.setCell ⟨w.heap.size + 1, o, none⟩ v).heap[w.heap.size + 2]? = some (.cells zC.toArray 27 (0, 0)) ∧
 NdAt (sees (hN h (w.heap.size + 2)) (w0.setCell ⟨w.heap.size + 1, o, none⟩ v)) (L, k) ∧ Below (w.heap.size + 1) w0 (w0.setCell ⟨w.heap.size + 1, o, none⟩ v) := by
 have ht := nd_fld (o := o) (v := v) hf.t;refine ⟨?_, (rpw.qx o v (show w.heap.size + 2 ≠ w.heap.size + 1 by omega)).trans hf.r, ⟨hok, ?_, ?_⟩, below_fld _ _ _ _⟩
 ·have := tkw.heap_set (o := o) (v := v) hf.n;rw [hL] at this;exact this
 ·show RgAt _ L.sv L.set;rw [hs, hs2];exact ht.2.1
 ·show jr _ L.kv k;rw [hk];exact ht.2.2
theorem NF.below {h : Nat → Bool} {u : Bool} {m : Int} {x : Lab} {k : F} {w w0 w1 : World} (hf : NF h u m x k w w0) (hb : Below w0.heap.size w0 w1) : NF h u m x k w w1 := by have hs := hf.s;exact ⟨qi hf.b hb, (hb.block _ (by omega)).trans hf.c, (hb.block _ (by omega)).trans hf.n, (hb.block _ (by omega)).trans hf.r, qV hb hf.t, hf.o.le hb.size, Nat.le_trans hs hb.size⟩
theorem NF.fld {h : Nat → Bool} {u : Bool} {m : Int} {x : Lab} {k : F} {w w0 : World} (hf : NF h u m x k w w0) (o : Nat) (v : Value) (L : Lab) (hL : (ndC x).toArray.setIfInBounds o v = (ndC L).toArray) (hok : LabOk L) (hs : L.sv = x.sv) (hs2 : L.set = x.set) (hk : L.kv = x.kv) : NF h u m L k w (w0.setCell ⟨w.heap.size + 1, o, none⟩ v) := by
 obtain ⟨h1, h2, h3, h4⟩ := fld_facts hf o v L hL hok hs hs2 hk;have hz : (w0.setCell ⟨w.heap.size + 1, o, none⟩ v).heap.size = w0.heap.size := by simp [World.setCell]
 exact ⟨hf.b.trans (h4.mono (Nat.le_succ _)), (h4.block _ (Nat.lt_succ_self _)).trans hf.c, h1, h2, h3, by rw [hz]; exact hf.o, by rw [hz]; exact hf.s⟩
theorem fld_kids {h : Nat → Bool} {u : Bool} {m : Int} {x : Lab} {k j : F} {w w0 : World} {v : Value} (hf : NF h u m x k w w0) (hk : jr (sees (hN h (w.heap.size + 2)) w0) v j) :
 (w0.setCell ⟨w.heap.size + 1, 11, none⟩ v).heap[w.heap.size + 1]? = some (.cells (ndC { x with kv := v }).toArray 27 (0, 0)) ∧ (w0.setCell ⟨w.heap.size + 1, 11, none⟩ v).heap[w.heap.size + 2]? = some (.cells zC.toArray 27 (0, 0)) ∧
 NdAt (sees (hN h (w.heap.size + 2)) (w0.setCell ⟨w.heap.size + 1, 11, none⟩ v)) ({ x with kv := v }, j) ∧ Below (w.heap.size + 1) w0 (w0.setCell ⟨w.heap.size + 1, 11, none⟩ v) :=
 ⟨tkw.heap_set (o := 11) (v := v) hf.n, (rpw.qx 11 v (show w.heap.size + 2 ≠ w.heap.size + 1 by omega)).trans hf.r, nd_fld (t := ({ x with kv := v }, j)) ⟨hf.t.1, hf.t.2.1, hk⟩, below_fld _ _ _ _⟩
theorem listF_len (x : Lab) (k : F) : (listF x k).len ≤ (F.one x k).size := by
 have := rsp.len_size k;unfold listF;split
 ·simp only [F.one, F.size]; omega
 ·simp only [F.one, F.len, F.size]; omega
theorem drop_size {f : F} {i : Nat} {x : Lab} {k r : F} (h : f.drop i = .cons x k r) : (f.drop i).size = 1 + k.size + (f.drop (i + 1)).size := by rw [drop_succ h, h];simp only [F.size];omega
def SeqRel (h : Nat → Bool) (u : Bool) (m : Int) (k : F) (R : F × Int) (w0 : World) (vf vo vi : Value) (wr : World) : Prop :=
 ∃ (i : Nat) (f : Int) (g : F), vf = .int .i64 f ∧ vi = .int .i64 i ∧ i ≤ k.len ∧ g.len + 6 * (k.drop i).size ≤ 6 * k.size ∧ Hid (OwnH h w0.heap.size wr vo g) ∧ Hid (Below w0.heap.size w0 wr) ∧ Hid ((oneF 12 (F.app (strip g) (flatF (rowP u m (k.drop i) f).1)), (rowP u m (k.drop i) f).2) = R)
theorem rowc {w : World} {b : Nat} {l : Lab} {j : Nat} {v : Value} (h : w.heap[b]? = some (.cells (ndC l).toArray 27 (0, 0))) (hj : (ndC l)[j]? = some v) : w.cell? ⟨b, 0 + j, none⟩ = some v := by rw [Nat.zero_add];unfold World.cell?;rw [h];simpa using hj
theorem row_blw {w w' : World} {b : Nat} {o : Obj} (hb : Below w.heap.size w w') (h : w.heap[b]? = some o) : w'.heap[b]? = some o := by
 have : b < w.heap.size := by apply dC;intro hn;rw [dH (by omega)] at h;cases h
 exact (hb.block b this).trans h
theorem row2_kids {h : Nat → Bool} {w w' : World} {a b : Lab} {ka kb : F} (ha : NdAt (sees h w) (a, ka)) (hb : NdAt (sees h w) (b, kb)) (ho : Old h w.heap.size) (hw : w.alloc (.cells (ndC a ++ ndC b).toArray 27) = w') : jr (sees h w') (.slice (some ⟨w.heap.size, 0, none⟩) 2 2) (F.app (F.one a ka) (F.one b kb)) := by
 subst hw;have hbl := qg w (.cells (ndC a ++ ndC b).toArray 27);have hg : h w.heap.size = false := by
  cases e : h w.heap.size with
  | false => rfl
  | true => have := ho _ e; omega
 have ha' := qV hbl ha;have hb' := qV hbl hb;have hc : ∀ j u, (ndC a ++ ndC b)[j]? = some u → (sees h (w.alloc (.cells (ndC a ++ ndC b).toArray 27))).cell? ⟨w.heap.size, j, none⟩ = some u := fun j u hj => jB.2 ⟨hg, by rw [World.cell?_alloc_new]; simpa using hj⟩
 refine ⟨_, 2, rfl, xL _, by decide, Or.inr ⟨w.heap.size, 0, rfl, fun j u hj => ?_, ⟨ha'.1, ha'.2.1⟩, ha'.2.2, fun j u hj => ?_, ⟨hb'.1, hb'.2.1⟩, hb'.2.2, trivial⟩⟩
 ·rw [Nat.zero_add];exact hc j u (by rw [List.getElem?_append_left (List.getElem?_eq_some_iff.1 hj).1]; exact hj)
 ·exact hc (0 + 12 + j) u (by rw [List.getElem?_append_right (by simp [ndC])]; simpa [ndC] using hj)
theorem and_bne (f n : Int) : (bits BinOp.and IntKind.i64 f n != 0) = decide (andI f n ≠ 0) := by unfold andI;by_cases h : bits BinOp.and IntKind.i64 f n = 0 <;> simp [h]
theorem node_lit {u : Bool} {m : Int} {k : F} (hm0 : 0 ≤ m) (hm : m ≤ 1114111) (x : Lab) (f : Int) (w : World) (h : Nat → Bool) (hold : Old h w.heap.size) (hnd : NdAt (sees h w) (x, k)) (hok : OkF (F.one x k)) (_hsz : k.size ≤ 30000) (hk : x.kind = 1) : Calls Try.prog 53 #[ctxV u m, ndV x, .int .i64 f] w (NodB h (nodeP u m (fun g => rowP u m k g) x k f) w) := by
 have HF0 := xH (vK (u := u) (m := m) hold hnd);have HOLD := xH hold;have HOKF := xH hok;have HLO := xH hnd.1;obtain ⟨R, hR⟩ : ∃ R, nodeP u m (fun g => rowP u m k g) x k f = R := ⟨_, rfl⟩;rw [hR];have HR := xH (hR.symm.trans (show _ = (setL x.at_ (setP u m [(x.c, x.c)] (decide (andI f 1 ≠ 0)) false), f) by unfold nodeP; rw [if_pos hk]));have b1 : (x.kind == 1) = true := by simp [hk]
 clear hold hnd hok hk hR;unfold ctxV;unfold ndC zC at HF0;go_enter Try.func53, Try.ntmps53;unfold ndV;go_upto_region 1 with (fail)
 generalize ((w.alloc _).alloc _).alloc _ = w0 at *;have d0 : w0.cell? ⟨w.heap.size, 0, none⟩ = some (.bool u) := by unfold World.cell?; rw [HF0.out.c]; rfl
 have d1 : w0.cell? ⟨w.heap.size, 1, none⟩ = some (.int .i64 m) := by unfold World.cell?; rw [HF0.out.c]; rfl
 have e0 : w0.cell? ⟨w.heap.size + 1, 0, none⟩ = some (.int .i64 x.kind) := by unfold World.cell?; rw [HF0.out.n]; rfl
 have e1 : w0.cell? ⟨w.heap.size + 1, 1, none⟩ = some (.int .i64 x.at_) := by unfold World.cell?; rw [HF0.out.n]; rfl
 have e2 : w0.cell? ⟨w.heap.size + 1, 2, none⟩ = some (.int .i64 x.c) := by unfold World.cell?; rw [HF0.out.n]; rfl
 go_wp2_with fail
 refine wp_region_held_drew (S := fun w' => Below (w.heap.size + 2) w0 w') (by kernel_rfl) ((qL w0).mono (by have := HF0.out.s; omega)) (fun hHeld => ?_);refine yT 0 ?_;simp only [xS];refine yF 1 (fun w' hSw => cellB hSw e1 (by show w.heap.size + 1 < _; omega)) ?_;simp only [xS];refine yG 2 (fun w' hSw => cellB hSw d0 (by show w.heap.size < _; omega)) (fun w' hSw => cellB hSw d1 (by show w.heap.size < _; omega)) ?_;simp only [xS];refine yT 3 ?_;simp only [xS];refine yF 4 (fun w' hSw => cellB hSw e2 (by show w.heap.size + 1 < _; omega)) ?_;simp only [xS];refine yT 6 ?_;simp only [xS];refine yT 9 ?_;simp only [xS];refine xD 5 rfl (fun K hK => ?_);go_simp;refine (oneS_any x.c _).mono ?_;rintro e w4 ⟨v4, rfl, ho4, hb4⟩;have HV4 := xH (vP ho4 (lit_wf HLO.out.2.2.1));have HB4 := xH ((qL w0).trans (hb4.mono (xL _)));clear ho4 hb4;refine hK.out _ _ (HB4.out.mono (by have := HF0.out.s; omega)) (fun hHeld => ?_);clear hK K;try simp only [xS]
 refine xD 7 rfl (fun K hK => ?_);go_simp;refine (set_any u m hm0 hm _ ([(x.c, x.c)]) (bits BinOp.and IntKind.i64 f 1 != 0) (false) _ HV4.out (by simp)).mono ?_;rintro e w5 ⟨v5, rfl, ho5, hb5⟩;obtain ⟨s5, c5, rfl⟩ := qN ho5;have HS5 := xH (set_lab (h := hN h (w.heap.size + 2)) HLO.out.2.1 ho5 (setP_wf u hm _ _ _) (HF0.out.o.le HB4.out.size));have HB5 := xH (HB4.out.trans (hb5.mono HB4.out.size));clear ho5 hb5;refine hK.out _ _ (HB5.out.mono (by have := HF0.out.s; omega)) (fun hHeld => ?_);clear hK K;try simp only [xS]
 refine yT 8 ?_;simp only [xS];refine xD 10 rfl (fun K hK => ?_);refine qI rfl rfl _ _ rfl (w.heap.size + 2) rfl _ ({ lab 2 x.at_ with sv := .slice s5 (setP u m ([(x.c, x.c)]) (bits BinOp.and IntKind.i64 f 1 != 0) (false)).length c5, set := setP u m ([(x.c, x.c)]) (bits BinOp.and IntKind.i64 f 1 != 0) (false) }) ((HB5.out.block _ (by have := HF0.out.s; omega)).trans HF0.out.r) rfl (qp HS5.out) rfl ?_;refine hK.out _ _ (rpw.qC (HB5.out.mono (by have := HF0.out.s; omega)) _ (xL _)) (fun _ => ?_);clear hK K;try simp only [xS]
 refine yT 11 ?_;simp only [xS];refine wpAnyH_done (by kernel_rfl) ?_ _;go_wp2_with fail
 refine xB (qZ rfl _ _ (w.heap.size + 2) ({ lab 2 x.at_ with sv := .slice s5 (setP u m ([(x.c, x.c)]) (bits BinOp.and IntKind.i64 f 1 != 0) (false)).length c5, set := setP u m ([(x.c, x.c)]) (bits BinOp.and IntKind.i64 f 1 != 0) (false) }) rfl (setRow_heap _ _ _ _ _ _ ((HB5.out.block _ (by have := HF0.out.s; omega)).trans HF0.out.r))) rfl ?_;exact vX HF0.out (HB5.out.mono (by have := HF0.out.s; omega)) HS5.out (by rw [HR.out, ← and_bne]; rfl) (by rw [HR.out])
theorem node_set {u : Bool} {m : Int} {k : F} (hm0 : 0 ≤ m) (hm : m ≤ 1114111) (x : Lab) (f : Int) (w : World) (h : Nat → Bool) (hold : Old h w.heap.size) (hnd : NdAt (sees h w) (x, k)) (hok : OkF (F.one x k)) (_hsz : k.size ≤ 30000) (hk : x.kind = 2) : Calls Try.prog 53 #[ctxV u m, ndV x, .int .i64 f] w (NodB h (nodeP u m (fun g => rowP u m k g) x k f) w) := by
 have HF0 := xH (vK (u := u) (m := m) hold hnd);have HOLD := xH hold;have HOKF := xH hok;have HLO := xH hnd.1;obtain ⟨R, hR⟩ : ∃ R, nodeP u m (fun g => rowP u m k g) x k f = R := ⟨_, rfl⟩;rw [hR];have HR := xH (hR.symm.trans (show _ = (setL x.at_ (setP u m x.set (decide (andI f 1 ≠ 0)) x.neg), f) by unfold nodeP; rw [if_neg (by omega), if_pos hk]));have HSL := xH hok.1;have b1 : (x.kind == 1) = false := by simp [hk]
 have b2 : (x.kind == 2) = true := by simp [hk]
 clear hold hnd hok hk hR;unfold ctxV;unfold ndC zC at HF0;go_enter Try.func53, Try.ntmps53;unfold ndV;go_upto_region 1 with (fail)
 generalize ((w.alloc _).alloc _).alloc _ = w0 at *;have d0 : w0.cell? ⟨w.heap.size, 0, none⟩ = some (.bool u) := by unfold World.cell?; rw [HF0.out.c]; rfl
 have d1 : w0.cell? ⟨w.heap.size, 1, none⟩ = some (.int .i64 m) := by unfold World.cell?; rw [HF0.out.c]; rfl
 have e0 : w0.cell? ⟨w.heap.size + 1, 0, none⟩ = some (.int .i64 x.kind) := by unfold World.cell?; rw [HF0.out.n]; rfl
 have e1 : w0.cell? ⟨w.heap.size + 1, 1, none⟩ = some (.int .i64 x.at_) := by unfold World.cell?; rw [HF0.out.n]; rfl
 have e3 : w0.cell? ⟨w.heap.size + 1, 3, none⟩ = some (x.sv) := by unfold World.cell?; rw [HF0.out.n]; rfl
 have e4 : w0.cell? ⟨w.heap.size + 1, 4, none⟩ = some (.bool x.neg) := by unfold World.cell?; rw [HF0.out.n]; rfl
 have HV0 := xH (jl (rg_rs HF0.out.t.2.1) (qL w0));go_wp2_with fail
 refine wp_region_held_drew (S := fun w' => Below (w.heap.size + 2) w0 w') (by kernel_rfl) ((qL w0).mono (by have := HF0.out.s; omega)) (fun hHeld => ?_);refine yT 0 ?_;simp only [xS];refine yF 1 (fun w' hSw => cellB hSw e1 (by show w.heap.size + 1 < _; omega)) ?_;simp only [xS];refine yG 2 (fun w' hSw => cellB hSw d0 (by show w.heap.size < _; omega)) (fun w' hSw => cellB hSw d1 (by show w.heap.size < _; omega)) ?_;simp only [xS];refine yT 3 ?_;simp only [xS];refine yF 4 (fun w' hSw => cellB hSw e3 (by show w.heap.size + 1 < _; omega)) ?_;simp only [xS];refine yT 5 ?_;simp only [xS];refine yT 6 ?_;simp only [xS];refine yF 7 (fun w' hSw => cellB hSw e4 (by show w.heap.size + 1 < _; omega)) ?_;simp only [xS];refine yT 10 ?_;simp only [xS];refine xD 8 rfl (fun K hK => ?_);go_simp;refine (set_any u m hm0 hm _ (x.set) (bits BinOp.and IntKind.i64 f 1 != 0) (x.neg) _ HV0.out HSL.out).mono ?_;rintro e w5 ⟨v5, rfl, ho5, hb5⟩;obtain ⟨s5, c5, rfl⟩ := qN ho5;have HS5 := xH (set_lab (h := hN h (w.heap.size + 2)) HLO.out.2.1 ho5 (setP_wf u hm _ _ _) (HF0.out.o.le (qL w0).size));have HB5 := xH ((qL w0).trans (hb5.mono (qL w0).size));clear ho5 hb5;refine hK.out _ _ (HB5.out.mono (by have := HF0.out.s; omega)) (fun hHeld => ?_);clear hK K;try simp only [xS]
 refine yT 9 ?_;simp only [xS];refine xD 11 rfl (fun K hK => ?_);refine qI rfl rfl _ _ rfl (w.heap.size + 2) rfl _ ({ lab 2 x.at_ with sv := .slice s5 (setP u m (x.set) (bits BinOp.and IntKind.i64 f 1 != 0) (x.neg)).length c5, set := setP u m (x.set) (bits BinOp.and IntKind.i64 f 1 != 0) (x.neg) }) ((HB5.out.block _ (by have := HF0.out.s; omega)).trans HF0.out.r) rfl (qp HS5.out) rfl ?_;refine hK.out _ _ (rpw.qC (HB5.out.mono (by have := HF0.out.s; omega)) _ (xL _)) (fun _ => ?_);clear hK K;try simp only [xS]
 refine yT 12 ?_;simp only [xS];refine wpAnyH_done (by kernel_rfl) ?_ _;go_wp2_with fail
 refine xB (qZ rfl _ _ (w.heap.size + 2) ({ lab 2 x.at_ with sv := .slice s5 (setP u m (x.set) (bits BinOp.and IntKind.i64 f 1 != 0) (x.neg)).length c5, set := setP u m (x.set) (bits BinOp.and IntKind.i64 f 1 != 0) (x.neg) }) rfl (setRow_heap _ _ _ _ _ _ ((HB5.out.block _ (by have := HF0.out.s; omega)).trans HF0.out.r))) rfl ?_;exact vX HF0.out (HB5.out.mono (by have := HF0.out.s; omega)) HS5.out (by rw [HR.out, ← and_bne]; rfl) (by rw [HR.out])
theorem node_any {u : Bool} {m : Int} {k : F} (hm0 : 0 ≤ m) (hm : m ≤ 1114111) (x : Lab) (f : Int) (w : World) (h : Nat → Bool) (hold : Old h w.heap.size) (hnd : NdAt (sees h w) (x, k)) (hok : OkF (F.one x k)) (_hsz : k.size ≤ 30000) (hk : x.kind = 3) : Calls Try.prog 53 #[ctxV u m, ndV x, .int .i64 f] w (NodB h (nodeP u m (fun g => rowP u m k g) x k f) w) := by
 have HF0 := xH (vK (u := u) (m := m) hold hnd);have HOLD := xH hold;have HOKF := xH hok;have HLO := xH hnd.1;obtain ⟨R, hR⟩ : ∃ R, nodeP u m (fun g => rowP u m k g) x k f = R := ⟨_, rfl⟩;rw [hR];have HR0 := xH (hR.symm.trans (show _ = (setL x.at_ (setP u m (if andI f 4 = 0 then [(10, 10)] else []) false true), f) by unfold nodeP; rw [if_neg (by omega), if_neg (by omega), if_pos hk]));have b1 : (x.kind == 1) = false := by simp [hk]
 have b2 : (x.kind == 2) = false := by simp [hk]
 have b3 : (x.kind == 3) = true := by simp [hk]
 clear hold hnd hok hk hR;unfold ctxV;unfold ndC zC at HF0;go_enter Try.func53, Try.ntmps53;unfold ndV;go_upto_region 1 with (fail)
 generalize ((w.alloc _).alloc _).alloc _ = w0 at *;have d0 : w0.cell? ⟨w.heap.size, 0, none⟩ = some (.bool u) := by unfold World.cell?; rw [HF0.out.c]; rfl
 have d1 : w0.cell? ⟨w.heap.size, 1, none⟩ = some (.int .i64 m) := by unfold World.cell?; rw [HF0.out.c]; rfl
 have e0 : w0.cell? ⟨w.heap.size + 1, 0, none⟩ = some (.int .i64 x.kind) := by unfold World.cell?; rw [HF0.out.n]; rfl
 have e1 : w0.cell? ⟨w.heap.size + 1, 1, none⟩ = some (.int .i64 x.at_) := by unfold World.cell?; rw [HF0.out.n]; rfl
 by_cases h4 : andI f 4 = 0
 ·have b4 : (bits BinOp.and IntKind.i64 f 4 == 0) = true := by unfold andI at h4; simp [h4]
  have HR := xH (HR0.out.trans (show _ = (setL x.at_ (setP u m [(10, 10)] false true), f) by rw [if_pos h4]));clear h4;go_wp2_with fail
  refine (oneS_any 10 _).mono ?_;rintro e w1 ⟨v1, rfl, ho1, hb1⟩;obtain ⟨s1, c1, rfl⟩ := qN ho1;have HV1 := xH (jl (vP ho1 (lit_wf (show I64 10 by unfold I64; omega))) (qL w1));have HB1 := xH hb1;clear ho1 hb1;dsimp only;go_wp2_with fail
  refine wp_region_held_drew (S := fun w' => Below (w.heap.size + 2) w0 w') (by kernel_rfl) (HB1.out.drew.mono (by have := HF0.out.s; omega)) (fun hHeld => ?_);refine yT 0 ?_;simp only [xS];refine yF 1 (fun w' hSw => cellB hSw e1 (by show w.heap.size + 1 < _; omega)) ?_;simp only [xS];refine yG 2 (fun w' hSw => cellB hSw d0 (by show w.heap.size < _; omega)) (fun w' hSw => cellB hSw d1 (by show w.heap.size < _; omega)) ?_;simp only [xS];refine yT 3 ?_;simp only [xS];refine yT 6 ?_;simp only [xS];refine xD 4 rfl (fun K hK => ?_);go_simp;refine (set_any u m hm0 hm _ ([(10, 10)]) (false) (true) _ HV1.out (by simp)).mono ?_;rintro e w5 ⟨v5, rfl, ho5, hb5⟩;obtain ⟨s5, c5, rfl⟩ := qN ho5;have HS5 := xH (set_lab (h := hN h (w.heap.size + 2)) HLO.out.2.1 ho5 (setP_wf u hm _ _ _) (HF0.out.o.le HB1.out.drew.size));have HB5 := xH (HB1.out.drew.trans (hb5.mono HB1.out.drew.size));clear ho5 hb5;refine hK.out _ _ (HB5.out.mono (by have := HF0.out.s; omega)) (fun hHeld => ?_);clear hK K;try simp only [xS]
  refine yT 5 ?_;simp only [xS];refine xD 7 rfl (fun K hK => ?_);refine qI rfl rfl _ _ rfl (w.heap.size + 2) rfl _ ({ lab 2 x.at_ with sv := .slice s5 (setP u m ([(10, 10)]) (false) (true)).length c5, set := setP u m ([(10, 10)]) (false) (true) }) ((HB5.out.block _ (by have := HF0.out.s; omega)).trans HF0.out.r) rfl (qp HS5.out) rfl ?_;refine hK.out _ _ (rpw.qC (HB5.out.mono (by have := HF0.out.s; omega)) _ (xL _)) (fun _ => ?_);clear hK K;try simp only [xS]
  refine yT 8 ?_;simp only [xS];refine wpAnyH_done (by kernel_rfl) ?_ _;go_wp2_with fail
  refine xB (qZ rfl _ _ (w.heap.size + 2) ({ lab 2 x.at_ with sv := .slice s5 (setP u m ([(10, 10)]) (false) (true)).length c5, set := setP u m ([(10, 10)]) (false) (true) }) rfl (setRow_heap _ _ _ _ _ _ ((HB5.out.block _ (by have := HF0.out.s; omega)).trans HF0.out.r))) rfl ?_;exact vX HF0.out (HB5.out.mono (by have := HF0.out.s; omega)) HS5.out (by rw [HR.out]; rfl) (by rw [HR.out])
 ·have b4 : (bits BinOp.and IntKind.i64 f 4 == 0) = false := by unfold andI at h4; simp [h4]
  have HR := xH (HR0.out.trans (show _ = (setL x.at_ (setP u m [] false true), f) by rw [if_neg h4]));clear h4;have HB1 := xH (Below.refl w0.heap.size w0);go_wp2_with fail
  refine wp_region_held_drew (S := fun w' => Below (w.heap.size + 2) w0 w') (by kernel_rfl) (HB1.out.drew.mono (by have := HF0.out.s; omega)) (fun hHeld => ?_);refine yT 0 ?_;simp only [xS];refine yF 1 (fun w' hSw => cellB hSw e1 (by show w.heap.size + 1 < _; omega)) ?_;simp only [xS];refine yG 2 (fun w' hSw => cellB hSw d0 (by show w.heap.size < _; omega)) (fun w' hSw => cellB hSw d1 (by show w.heap.size < _; omega)) ?_;simp only [xS];refine yT 3 ?_;simp only [xS];refine yT 6 ?_;simp only [xS];refine xD 4 rfl (fun K hK => ?_);go_simp;refine (set_any u m hm0 hm _ ([]) (false) (true) _ (rs_nil _) (by simp)).mono ?_;rintro e w5 ⟨v5, rfl, ho5, hb5⟩;obtain ⟨s5, c5, rfl⟩ := qN ho5;have HS5 := xH (set_lab (h := hN h (w.heap.size + 2)) HLO.out.2.1 ho5 (setP_wf u hm _ _ _) (HF0.out.o.le HB1.out.drew.size));have HB5 := xH (HB1.out.drew.trans (hb5.mono HB1.out.drew.size));clear ho5 hb5;refine hK.out _ _ (HB5.out.mono (by have := HF0.out.s; omega)) (fun hHeld => ?_);clear hK K;try simp only [xS]
  refine yT 5 ?_;simp only [xS];refine xD 7 rfl (fun K hK => ?_);refine qI rfl rfl _ _ rfl (w.heap.size + 2) rfl _ ({ lab 2 x.at_ with sv := .slice s5 (setP u m ([]) (false) (true)).length c5, set := setP u m ([]) (false) (true) }) ((HB5.out.block _ (by have := HF0.out.s; omega)).trans HF0.out.r) rfl (qp HS5.out) rfl ?_;refine hK.out _ _ (rpw.qC (HB5.out.mono (by have := HF0.out.s; omega)) _ (xL _)) (fun _ => ?_);clear hK K;try simp only [xS]
  refine yT 8 ?_;simp only [xS];refine wpAnyH_done (by kernel_rfl) ?_ _;go_wp2_with fail
  refine xB (qZ rfl _ _ (w.heap.size + 2) ({ lab 2 x.at_ with sv := .slice s5 (setP u m ([]) (false) (true)).length c5, set := setP u m ([]) (false) (true) }) rfl (setRow_heap _ _ _ _ _ _ ((HB5.out.block _ (by have := HF0.out.s; omega)).trans HF0.out.r))) rfl ?_;exact vX HF0.out (HB5.out.mono (by have := HF0.out.s; omega)) HS5.out (by rw [HR.out]; rfl) (by rw [HR.out])
theorem node_back {u : Bool} {m : Int} {k : F} (_hm0 : 0 ≤ m) (_hm : m ≤ 1114111) (x : Lab) (f : Int) (w : World) (h : Nat → Bool) (hold : Old h w.heap.size) (hnd : NdAt (sees h w) (x, k)) (hok : OkF (F.one x k)) (_hsz : k.size ≤ 30000) (hk : x.kind = 7) : Calls Try.prog 53 #[ctxV u m, ndV x, .int .i64 f] w (NodB h (nodeP u m (fun g => rowP u m k g) x k f) w) := by
 have HF0 := xH (vK (u := u) (m := m) hold hnd);have HOLD := xH hold;have HOKF := xH hok;have HLO := xH hnd.1;obtain ⟨R, hR⟩ : ∃ R, nodeP u m (fun g => rowP u m k g) x k f = R := ⟨_, rfl⟩;rw [hR];have HR := xH (hR.symm.trans (show _ = (F.one { bare x with on := bits BinOp.and IntKind.i64 f 1 } (strip k), f) by unfold nodeP; rw [if_neg (by omega), if_neg (by omega), if_neg (by omega), if_neg (by omega), if_neg (by omega), if_pos hk]; rfl));have b1 : (x.kind == 1) = false := by simp [hk]
 have b2 : (x.kind == 2) = false := by simp [hk]
 have b3 : (x.kind == 3) = false := by simp [hk]
 have b4 : (x.kind == 4) = false := by simp [hk]
 have b6 : (x.kind == 6) = false := by simp [hk]
 have b7 : (x.kind == 7) = true := by simp [hk]
 clear hold hnd hok hk hR;unfold ctxV;unfold ndC zC at HF0;go_enter Try.func53, Try.ntmps53;unfold ndV;go_upto_region 1 with (fail)
 generalize ((w.alloc _).alloc _).alloc _ = w0 at *;have d0 : w0.cell? ⟨w.heap.size, 0, none⟩ = some (.bool u) := by unfold World.cell?; rw [HF0.out.c]; rfl
 have d1 : w0.cell? ⟨w.heap.size, 1, none⟩ = some (.int .i64 m) := by unfold World.cell?; rw [HF0.out.c]; rfl
 have e0 : w0.cell? ⟨w.heap.size + 1, 0, none⟩ = some (.int .i64 x.kind) := by unfold World.cell?; rw [HF0.out.n]; rfl
 have e9 : w0.cell? ⟨w.heap.size + 1, 9, none⟩ = some (.int .i64 x.on) := by unfold World.cell?; rw [HF0.out.n]; rfl
 have y9 : w0.frozen? ⟨w.heap.size + 1, 9, none⟩ = false := by unfold World.frozen?; rw [HF0.out.n]; rfl
 have HI := xH (show I64 (bits BinOp.and IntKind.i64 f 1) from ⟨bits_lo_i64 _ _ _, bits_hi_i64 _ _ _⟩);go_upto_region 26 with (fail)
 clear y9 e0 e9 d0 d1;generalize bits BinOp.and IntKind.i64 f 1 = q at *;obtain ⟨hg, hr, ht, hb⟩ := fld_facts HF0.out 9 (.int .i64 q) { x with on := q } rfl (by
  obtain ⟨x1, x2, x3, x4, x5, x6, x7, x8⟩ := HLO.out;exact ⟨x1, x2, x3, x4, x5, x6, HI.out, x8⟩) rfl rfl rfl
 have HG := xH hg;have HRV := xH hr;have HT := xH ht;have HB := xH hb;clear hg hr ht hb;generalize w0.setCell ⟨w.heap.size + 1, 9, none⟩ (.int .i64 q) = w1 at *;have H1 := xH (qp HT.out);go_wp2_with (first
  | (refine ql rfl _ rfl (w.heap.size + 1) rfl ({ x with on := q }) HG.out ?_)
  | (refine qh rfl rfl _ _ rfl (w.heap.size + 2) rfl _ ({ x with on := q }) HRV.out rfl H1.out rfl ?_))
 refine xB (qZ rfl _ _ (w.heap.size + 2) ({ x with on := q }) rfl (setRow_heap _ _ _ _ _ _ HRV.out)) rfl ?_;exact vX HF0.out HB.out HT.out (by rw [HR.out]; rfl) (by rw [HR.out])
theorem node_flags {u : Bool} {m : Int} {k : F} (_hm0 : 0 ≤ m) (_hm : m ≤ 1114111) (x : Lab) (f : Int) (w : World) (h : Nat → Bool) (hold : Old h w.heap.size) (hnd : NdAt (sees h w) (x, k)) (hok : OkF (F.one x k)) (_hsz : k.size ≤ 30000) (hk : x.kind = 11) : Calls Try.prog 53 #[ctxV u m, ndV x, .int .i64 f] w (NodB h (nodeP u m (fun g => rowP u m k g) x k f) w) := by
 have HF0 := xH (vK (u := u) (m := m) hold hnd);have HOLD := xH hold;have HOKF := xH hok;have HLO := xH hnd.1;obtain ⟨R, hR⟩ : ∃ R, nodeP u m (fun g => rowP u m k g) x k f = R := ⟨_, rfl⟩;rw [hR];have HR := xH (hR.symm.trans (show _ = (F.one (lab 12 0) .nil, turnI f x.on x.off) by unfold nodeP; rw [if_neg (by omega), if_neg (by omega), if_neg (by omega), if_neg (by omega), if_neg (by omega), if_neg (by omega), if_pos hk]));have b1 : (x.kind == 1) = false := by simp [hk]
 have b2 : (x.kind == 2) = false := by simp [hk]
 have b3 : (x.kind == 3) = false := by simp [hk]
 have b4 : (x.kind == 4) = false := by simp [hk]
 have b6 : (x.kind == 6) = false := by simp [hk]
 have b7 : (x.kind == 7) = false := by simp [hk]
 have b11 : (x.kind == 11) = true := by simp [hk]
 clear hold hnd hok hk hR;unfold ctxV;unfold ndC zC at HF0;go_enter Try.func53, Try.ntmps53;unfold ndV;go_upto_region 1 with (fail)
 generalize ((w.alloc _).alloc _).alloc _ = w0 at *;have d0 : w0.cell? ⟨w.heap.size, 0, none⟩ = some (.bool u) := by unfold World.cell?; rw [HF0.out.c]; rfl
 have d1 : w0.cell? ⟨w.heap.size, 1, none⟩ = some (.int .i64 m) := by unfold World.cell?; rw [HF0.out.c]; rfl
 have e0 : w0.cell? ⟨w.heap.size + 1, 0, none⟩ = some (.int .i64 x.kind) := by unfold World.cell?; rw [HF0.out.n]; rfl
 have e9 : w0.cell? ⟨w.heap.size + 1, 9, none⟩ = some (.int .i64 x.on) := by unfold World.cell?; rw [HF0.out.n]; rfl
 have e10 : w0.cell? ⟨w.heap.size + 1, 10, none⟩ = some (.int .i64 x.off) := by unfold World.cell?; rw [HF0.out.n]; rfl
 go_wp2_with fail
 refine (turn_any f x.on x.off _).mono ?_;rintro e w1 ⟨rfl, hb⟩;have HB := xH (hb.mono (show w.heap.size + 1 ≤ w0.heap.size by have := HF0.out.s; omega));have HRV := xH ((hb.block _ (by have := HF0.out.s; omega)).trans HF0.out.r);have HT := xH (show NdAt (sees (hN h (w.heap.size + 2)) w1) (lab 12 0, .nil) from ⟨rpw.lab_ok 12 (by unfold I64; omega) _, rpw.rg_nil _, none, 0, rfl, by simp [F.len], by decide, Or.inl rfl⟩);have H1 := xH (qp HT.out);clear hb;dsimp only;go_wp2_with (first
  | (refine ql rfl _ rfl (w.heap.size + 1) rfl (lab 12 0) HRV.out ?_)
  | (refine qh rfl rfl _ _ rfl (w.heap.size + 2) rfl _ (lab 12 0) HRV.out rfl H1.out rfl ?_))
 refine xB (qZ rfl _ _ (w.heap.size + 2) (lab 12 0) rfl (setRow_heap _ _ _ _ _ _ HRV.out)) rfl ?_;exact vX HF0.out HB.out HT.out (by rw [HR.out]; rfl) (by rw [HR.out])
theorem node_ass {u : Bool} {m : Int} {k : F} (_hm0 : 0 ≤ m) (_hm : m ≤ 1114111) (x : Lab) (f : Int) (w : World) (h : Nat → Bool) (hold : Old h w.heap.size) (hnd : NdAt (sees h w) (x, k)) (hok : OkF (F.one x k)) (_hsz : k.size ≤ 30000) (hk : x.kind = 4) : Calls Try.prog 53 #[ctxV u m, ndV x, .int .i64 f] w (NodB h (nodeP u m (fun g => rowP u m k g) x k f) w) := by
 have HF0 := xH (vK (u := u) (m := m) hold hnd);have HOLD := xH hold;have HOKF := xH hok;have HLO := xH hnd.1;obtain ⟨R, hR⟩ : ∃ R, nodeP u m (fun g => rowP u m k g) x k f = R := ⟨_, rfl⟩;rw [hR];have HR0 := xH (hR.symm.trans (show _ = (F.one { bare x with n := assN f x.n } (strip k), f) by unfold nodeP; rw [if_neg (by omega), if_neg (by omega), if_neg (by omega), if_pos hk]));have b1 : (x.kind == 1) = false := by simp [hk]
 have b2 : (x.kind == 2) = false := by simp [hk]
 have b3 : (x.kind == 3) = false := by simp [hk]
 have b4 : (x.kind == 4) = true := by simp [hk]
 clear hold hnd hok hk hR;unfold ctxV;unfold ndC zC at HF0;go_enter Try.func53, Try.ntmps53;unfold ndV;go_upto_region 1 with (fail)
 generalize ((w.alloc _).alloc _).alloc _ = w0 at *;have d0 : w0.cell? ⟨w.heap.size, 0, none⟩ = some (.bool u) := by unfold World.cell?; rw [HF0.out.c]; rfl
 have d1 : w0.cell? ⟨w.heap.size, 1, none⟩ = some (.int .i64 m) := by unfold World.cell?; rw [HF0.out.c]; rfl
 have e0 : w0.cell? ⟨w.heap.size + 1, 0, none⟩ = some (.int .i64 x.kind) := by unfold World.cell?; rw [HF0.out.n]; rfl
 have e5 : w0.cell? ⟨w.heap.size + 1, 5, none⟩ = some (.int .i64 x.n) := by unfold World.cell?; rw [HF0.out.n]; rfl
 by_cases h2 : andI f 2 = 0
 ·have b2 : (bits BinOp.and IntKind.i64 f 2 != 0) = false := by unfold andI at h2; simp [h2]
  have HNV := xH (show assN f x.n = x.n by unfold assN; simp [h2]);clear h2;exact z24
 have b2 : (bits BinOp.and IntKind.i64 f 2 != 0) = true := by unfold andI at h2; simp [h2]
 by_cases n1 : x.n = 1
 ·have HNV := xH (show assN f x.n = 9 by unfold assN; simp [h2, n1]);have c1 : (x.n == 1) = true := by simp [n1]
  clear h2 n1;have HR := xH (HR0.out.trans (show _ = (F.one { bare x with n := 9 } (strip k), f) by rw [HNV.out]));have y5 : w0.frozen? ⟨w.heap.size + 1, 5, none⟩ = false := by unfold World.frozen?; rw [HF0.out.n]; rfl
  have HG := xH (show (w0.setCell ⟨w.heap.size + 1, 5, none⟩ (.int .i64 9)).heap[w.heap.size + 1]? = some (.cells (ndC ({ x with n := 9 })).toArray 27 (0, 0)) from tkw.heap_set (o := 5) (v := .int .i64 9) HF0.out.n);have HRV := xH ((rpw.qx (w := w0) 5 (.int .i64 9) (show w.heap.size + 2 ≠ w.heap.size + 1 by omega)).trans HF0.out.r);have HT0 := xH (nd_fld (o := 5) (v := .int .i64 9) HF0.out.t);have HT := xH (show NdAt (sees (hN h (w.heap.size + 2)) (w0.setCell ⟨w.heap.size + 1, 5, none⟩ (.int .i64 9))) (({ x with n := 9 }), k) from by obtain ⟨⟨x1, x2, x3, x4, x5, x6, x7, x8⟩, hs, hk⟩ := HT0.out;exact ⟨⟨x1, x2, x3, by show I64 9; unfold I64; omega, x5, x6, x7, x8⟩, hs, hk⟩)
  have HB := xH (show Below (w.heap.size + 1) w0 (w0.setCell ⟨w.heap.size + 1, 5, none⟩ (.int .i64 9)) from below_fld _ _ _ _);have H1 := xH (qp HT.out);go_wp2_with (first
   | (refine ql rfl _ rfl (w.heap.size + 1) rfl ({ x with n := 9 }) HG.out ?_)
   | (refine qh rfl rfl _ _ rfl (w.heap.size + 2) rfl _ ({ x with n := 9 }) HRV.out rfl H1.out rfl ?_))
  refine xB (qZ rfl _ _ (w.heap.size + 2) ({ x with n := 9 }) rfl (setRow_heap _ _ _ _ _ _ HRV.out)) rfl ?_;exact vX HF0.out HB.out HT.out (by rw [HR.out]; rfl) (by rw [HR.out])
 have c1 : (x.n == 1) = false := by simp [n1]
 by_cases n2 : x.n = 2
 ·have HNV := xH (show assN f x.n = 10 by unfold assN; simp [h2, n2]);have c2 : (x.n == 2) = true := by simp [n2]
  clear h2 n1 n2;have HR := xH (HR0.out.trans (show _ = (F.one { bare x with n := 10 } (strip k), f) by rw [HNV.out]));have y5 : w0.frozen? ⟨w.heap.size + 1, 5, none⟩ = false := by unfold World.frozen?; rw [HF0.out.n]; rfl
  have HG := xH (show (w0.setCell ⟨w.heap.size + 1, 5, none⟩ (.int .i64 10)).heap[w.heap.size + 1]? = some (.cells (ndC ({ x with n := 10 })).toArray 27 (0, 0)) from tkw.heap_set (o := 5) (v := .int .i64 10) HF0.out.n);have HRV := xH ((rpw.qx (w := w0) 5 (.int .i64 10) (show w.heap.size + 2 ≠ w.heap.size + 1 by omega)).trans HF0.out.r);have HT0 := xH (nd_fld (o := 5) (v := .int .i64 10) HF0.out.t);have HT := xH (show NdAt (sees (hN h (w.heap.size + 2)) (w0.setCell ⟨w.heap.size + 1, 5, none⟩ (.int .i64 10))) (({ x with n := 10 }), k) from by obtain ⟨⟨x1, x2, x3, x4, x5, x6, x7, x8⟩, hs, hk⟩ := HT0.out;exact ⟨⟨x1, x2, x3, by show I64 10; unfold I64; omega, x5, x6, x7, x8⟩, hs, hk⟩)
  have HB := xH (show Below (w.heap.size + 1) w0 (w0.setCell ⟨w.heap.size + 1, 5, none⟩ (.int .i64 10)) from below_fld _ _ _ _);have H1 := xH (qp HT.out);go_wp2_with (first
   | (refine ql rfl _ rfl (w.heap.size + 1) rfl ({ x with n := 10 }) HG.out ?_)
   | (refine qh rfl rfl _ _ rfl (w.heap.size + 2) rfl _ ({ x with n := 10 }) HRV.out rfl H1.out rfl ?_))
  refine xB (qZ rfl _ _ (w.heap.size + 2) ({ x with n := 10 }) rfl (setRow_heap _ _ _ _ _ _ HRV.out)) rfl ?_;exact vX HF0.out HB.out HT.out (by rw [HR.out]; rfl) (by rw [HR.out])
 have c2 : (x.n == 2) = false := by simp [n2]
 have HNV := xH (show assN f x.n = x.n by unfold assN; simp [n1, n2]);clear h2 n1 n2;exact z24
theorem node_alt {u : Bool} {m : Int} {k : F} (_hm0 : 0 ≤ m) (_hm : m ≤ 1114111) (hrow : RowC u m k) (x : Lab) (f : Int) (w : World) (h : Nat → Bool) (hold : Old h w.heap.size) (hnd : NdAt (sees h w) (x, k)) (hok : OkF (F.one x k)) (hsz : k.size ≤ 30000) (hk : x.kind = 13) : Calls Try.prog 53 #[ctxV u m, ndV x, .int .i64 f] w (NodB h (nodeP u m (fun g => rowP u m k g) x k f) w) := by
 have HF0 := xH (vK (u := u) (m := m) hold hnd);have HOLD := xH hold;have HOKF := xH hok;have HLO := xH hnd.1;obtain ⟨R, hR⟩ : ∃ R, nodeP u m (fun g => rowP u m k g) x k f = R := ⟨_, rfl⟩;rw [hR];have HRC := xH hrow;have HR := xH (hR.symm.trans (show _ = (F.one (bare x) (rowP u m k f).1, (rowP u m k f).2) by unfold nodeP; rw [if_neg (by omega), if_neg (by omega), if_neg (by omega), if_neg (by omega), if_neg (by omega), if_neg (by omega), if_neg (by omega), if_neg (by omega), if_pos hk]));clear hrow;have b1 : (x.kind == 1) = false := by simp [hk]
 have b2 : (x.kind == 2) = false := by simp [hk]
 have b3 : (x.kind == 3) = false := by simp [hk]
 have b4 : (x.kind == 4) = false := by simp [hk]
 have b6 : (x.kind == 6) = false := by simp [hk]
 have b7 : (x.kind == 7) = false := by simp [hk]
 have b11 : (x.kind == 11) = false := by simp [hk]
 have b12 : (x.kind == 12) = false := by simp [hk]
 have b13 : (x.kind == 13) = true := by simp [hk]
 clear hold hnd hok hk hR;unfold ctxV;unfold ndC zC at HF0;go_enter Try.func53, Try.ntmps53;unfold ndV;go_upto_region 1 with (fail)
 generalize ((w.alloc _).alloc _).alloc _ = w0 at *;have d0 : w0.cell? ⟨w.heap.size, 0, none⟩ = some (.bool u) := by unfold World.cell?; rw [HF0.out.c]; rfl
 have d1 : w0.cell? ⟨w.heap.size, 1, none⟩ = some (.int .i64 m) := by unfold World.cell?; rw [HF0.out.c]; rfl
 have e0 : w0.cell? ⟨w.heap.size + 1, 0, none⟩ = some (.int .i64 x.kind) := by unfold World.cell?; rw [HF0.out.n]; rfl
 clear d0 d1;have HRow := xH (HRC.out (x).kv f w0 (hN h (w.heap.size + 2)) HF0.out.o HF0.out.t.2.2 HOKF.out.2.2.1 hsz);have d0 : w0.cell? ⟨w.heap.size, 0, none⟩ = some (.bool u) := by unfold World.cell?; rw [HF0.out.c]; rfl
 have d1 : w0.cell? ⟨w.heap.size, 1, none⟩ = some (.int .i64 m) := by unfold World.cell?; rw [HF0.out.c]; rfl
 have e11 : w0.cell? ⟨w.heap.size + 1, 11, none⟩ = some (x.kv) := by unfold World.cell?; rw [HF0.out.n]; rfl
 generalize rowP u m k f = rr at *;go_wp2_with fail
 refine HRow.out.mono ?_;rintro e w3 ⟨hb, v3, g3, rfl, ho, hs⟩;obtain ⟨p3, c3, rfl⟩ := zJ ho.1;have HF3 := xH (HF0.out.below hb);have z11 : w3.cell? ⟨w.heap.size + 1, 11, none⟩ = some (x.kv) := by unfold World.cell?; rw [HF3.out.n]; rfl
 have y11 : w3.frozen? ⟨w.heap.size + 1, 11, none⟩ = false := by unfold World.frozen?; rw [HF3.out.n]; rfl
 obtain ⟨hg, hr, ht, hb4⟩ := fld_kids HF3.out (ownH_kids ho HF0.out.o);have HG := xH hg;have HRV := xH hr;have HT := xH ht;have HB := xH hb4;have H1 := xH (qp ht);have HST := xH hs;clear hg hr ht hb4 hb ho hs HRow d0 d1 e11;dsimp only;go_upto_region 40 with (fail)
 exact z23
theorem node_rep {u : Bool} {m : Int} {k : F} (_hm0 : 0 ≤ m) (_hm : m ≤ 1114111) (hrow : RowC u m k) (x : Lab) (f : Int) (w : World) (h : Nat → Bool) (hold : Old h w.heap.size) (hnd : NdAt (sees h w) (x, k)) (hok : OkF (F.one x k)) (hsz : k.size ≤ 30000) (hk : x.kind = 20) : Calls Try.prog 53 #[ctxV u m, ndV x, .int .i64 f] w (NodB h (nodeP u m (fun g => rowP u m k g) x k f) w) := by
 have HF0 := xH (vK (u := u) (m := m) hold hnd);have HOLD := xH hold;have HOKF := xH hok;have HLO := xH hnd.1;obtain ⟨R, hR⟩ : ∃ R, nodeP u m (fun g => rowP u m k g) x k f = R := ⟨_, rfl⟩;rw [hR];have HRC := xH hrow;have HR0 := xH (hR.symm.trans (show _ = (F.one { bare x with mode := repM f x.kind x.mode } (rowP u m k f).1, f) by unfold nodeP; rw [if_neg (by omega), if_neg (by omega), if_neg (by omega), if_neg (by omega), if_neg (by omega), if_neg (by omega), if_neg (by omega), if_neg (by omega), if_neg (by omega), if_neg (by omega)]));have HK := xH hk;clear hrow;have b1 : (x.kind == 1) = false := by simp [hk]
 have b2 : (x.kind == 2) = false := by simp [hk]
 have b3 : (x.kind == 3) = false := by simp [hk]
 have b4 : (x.kind == 4) = false := by simp [hk]
 have b6 : (x.kind == 6) = false := by simp [hk]
 have b7 : (x.kind == 7) = false := by simp [hk]
 have b11 : (x.kind == 11) = false := by simp [hk]
 have b12 : (x.kind == 12) = false := by simp [hk]
 have b13 : (x.kind == 13) = false := by simp [hk]
 have b15 : (x.kind == 15) = false := by simp [hk]
 have b20 : (x.kind == 20) = true := by simp [hk]
 clear hold hnd hok hk hR;unfold ctxV;unfold ndC zC at HF0;go_enter Try.func53, Try.ntmps53;unfold ndV;go_upto_region 1 with (fail)
 generalize ((w.alloc _).alloc _).alloc _ = w0 at *;have d0 : w0.cell? ⟨w.heap.size, 0, none⟩ = some (.bool u) := by unfold World.cell?; rw [HF0.out.c]; rfl
 have d1 : w0.cell? ⟨w.heap.size, 1, none⟩ = some (.int .i64 m) := by unfold World.cell?; rw [HF0.out.c]; rfl
 have e0 : w0.cell? ⟨w.heap.size + 1, 0, none⟩ = some (.int .i64 x.kind) := by unfold World.cell?; rw [HF0.out.n]; rfl
 have e7 : w0.cell? ⟨w.heap.size + 1, 7, none⟩ = some (.int .i64 x.mode) := by unfold World.cell?; rw [HF0.out.n]; rfl
 by_cases h2 : andI f 16 = 0
 ·have b2 : (bits BinOp.and IntKind.i64 f 16 != 0) = false := by unfold andI at h2; simp [h2]
  have HNV := xH (show repM f x.kind x.mode = x.mode by unfold repM; simp [h2]);clear h2;exact z7
 have b2 : (bits BinOp.and IntKind.i64 f 16 != 0) = true := by unfold andI at h2; simp [h2]
 by_cases n1 : x.mode = 0
 ·have HNV := xH (show repM f x.kind x.mode = 1 by unfold repM; simp [h2, n1, HK.out]);have c1 : (x.mode == 0) = true := by simp [n1]
  clear h2 n1;have HR := xH (HR0.out.trans (show _ = (F.one { bare x with mode := 1 } (rowP u m k f).1, f) by rw [HNV.out]));have y7 : w0.frozen? ⟨w.heap.size + 1, 7, none⟩ = false := by unfold World.frozen?; rw [HF0.out.n]; rfl
  have HFL := xH (HF0.out.fld 7 (.int .i64 1) ({ x with mode := 1 }) rfl (by
   obtain ⟨x1, x2, x3, x4, x5, x6, x7, x8⟩ := HLO.out;exact ⟨x1, x2, x3, x4, x5, by show I64 1; unfold I64; omega, x7, x8⟩) rfl rfl rfl)
  go_upto_region 49 with (fail)
  clear y7 d0 d1 e0 e7;generalize w0.setCell ⟨w.heap.size + 1, 7, none⟩ (.int .i64 1) = w1 at *;have HRow := xH (HRC.out ({ x with mode := 1 }).kv f w1 (hN h (w.heap.size + 2)) HFL.out.o HFL.out.t.2.2 HOKF.out.2.2.1 hsz);have d0 : w1.cell? ⟨w.heap.size, 0, none⟩ = some (.bool u) := by unfold World.cell?; rw [HFL.out.c]; rfl
  have d1 : w1.cell? ⟨w.heap.size, 1, none⟩ = some (.int .i64 m) := by unfold World.cell?; rw [HFL.out.c]; rfl
  have e11 : w1.cell? ⟨w.heap.size + 1, 11, none⟩ = some (x.kv) := by unfold World.cell?; rw [HFL.out.n]; rfl
  generalize rowP u m k f = rr at *;go_wp2_with fail
  refine HRow.out.mono ?_;rintro e w3 ⟨hb, v3, g3, rfl, ho, hs⟩;obtain ⟨p3, c3, rfl⟩ := zJ ho.1;have HF3 := xH (HFL.out.below hb);have z11 : w3.cell? ⟨w.heap.size + 1, 11, none⟩ = some (x.kv) := by unfold World.cell?; rw [HF3.out.n]; rfl
  have y11 : w3.frozen? ⟨w.heap.size + 1, 11, none⟩ = false := by unfold World.frozen?; rw [HF3.out.n]; rfl
  obtain ⟨hg, hr, ht, hb4⟩ := fld_kids HF3.out (ownH_kids ho HFL.out.o);have HG := xH hg;have HRV := xH hr;have HT := xH ht;have HB := xH hb4;have H1 := xH (qp ht);have HST := xH hs;clear hg hr ht hb4 hb ho hs HRow d0 d1 e11;dsimp only;go_upto_region 50 with (fail)
  clear z11 y11;generalize w3.setCell ⟨w.heap.size + 1, 11, none⟩ (.slice p3 g3.len c3) = w4 at *;go_wp2_with (first
   | (refine ql rfl _ rfl (w.heap.size + 1) rfl ({ { x with mode := 1 } with kv := .slice p3 g3.len c3 }) HG.out ?_)
   | (refine qh rfl rfl _ _ rfl (w.heap.size + 2) rfl _ ({ { x with mode := 1 } with kv := .slice p3 g3.len c3 }) HRV.out rfl H1.out rfl ?_))
  refine xB (qZ rfl _ _ (w.heap.size + 2) ({ { x with mode := 1 } with kv := .slice p3 g3.len c3 }) rfl (setRow_heap _ _ _ _ _ _ HRV.out)) rfl ?_;exact z189
 have c1 : (x.mode == 0) = false := by simp [n1]
 by_cases n2 : x.mode = 1
 ·have HNV := xH (show repM f x.kind x.mode = 0 by unfold repM; simp [h2, n2, HK.out]);have c2 : (x.mode == 1) = true := by simp [n2]
  clear h2 n1 n2;have HR := xH (HR0.out.trans (show _ = (F.one { bare x with mode := 0 } (rowP u m k f).1, f) by rw [HNV.out]));have y7 : w0.frozen? ⟨w.heap.size + 1, 7, none⟩ = false := by unfold World.frozen?; rw [HF0.out.n]; rfl
  have HFL := xH (HF0.out.fld 7 (.int .i64 0) ({ x with mode := 0 }) rfl (by
   obtain ⟨x1, x2, x3, x4, x5, x6, x7, x8⟩ := HLO.out;exact ⟨x1, x2, x3, x4, x5, by show I64 0; unfold I64; omega, x7, x8⟩) rfl rfl rfl)
  go_upto_region 49 with (fail)
  clear y7 d0 d1 e0 e7;generalize w0.setCell ⟨w.heap.size + 1, 7, none⟩ (.int .i64 0) = w1 at *;have HRow := xH (HRC.out ({ x with mode := 0 }).kv f w1 (hN h (w.heap.size + 2)) HFL.out.o HFL.out.t.2.2 HOKF.out.2.2.1 hsz);have d0 : w1.cell? ⟨w.heap.size, 0, none⟩ = some (.bool u) := by unfold World.cell?; rw [HFL.out.c]; rfl
  have d1 : w1.cell? ⟨w.heap.size, 1, none⟩ = some (.int .i64 m) := by unfold World.cell?; rw [HFL.out.c]; rfl
  have e11 : w1.cell? ⟨w.heap.size + 1, 11, none⟩ = some (x.kv) := by unfold World.cell?; rw [HFL.out.n]; rfl
  generalize rowP u m k f = rr at *;go_wp2_with fail
  refine HRow.out.mono ?_;rintro e w3 ⟨hb, v3, g3, rfl, ho, hs⟩;obtain ⟨p3, c3, rfl⟩ := zJ ho.1;have HF3 := xH (HFL.out.below hb);have z11 : w3.cell? ⟨w.heap.size + 1, 11, none⟩ = some (x.kv) := by unfold World.cell?; rw [HF3.out.n]; rfl
  have y11 : w3.frozen? ⟨w.heap.size + 1, 11, none⟩ = false := by unfold World.frozen?; rw [HF3.out.n]; rfl
  obtain ⟨hg, hr, ht, hb4⟩ := fld_kids HF3.out (ownH_kids ho HFL.out.o);have HG := xH hg;have HRV := xH hr;have HT := xH ht;have HB := xH hb4;have H1 := xH (qp ht);have HST := xH hs;clear hg hr ht hb4 hb ho hs HRow d0 d1 e11;dsimp only;go_upto_region 50 with (fail)
  clear z11 y11;generalize w3.setCell ⟨w.heap.size + 1, 11, none⟩ (.slice p3 g3.len c3) = w4 at *;go_wp2_with (first
   | (refine ql rfl _ rfl (w.heap.size + 1) rfl ({ { x with mode := 0 } with kv := .slice p3 g3.len c3 }) HG.out ?_)
   | (refine qh rfl rfl _ _ rfl (w.heap.size + 2) rfl _ ({ { x with mode := 0 } with kv := .slice p3 g3.len c3 }) HRV.out rfl H1.out rfl ?_))
  refine xB (qZ rfl _ _ (w.heap.size + 2) ({ { x with mode := 0 } with kv := .slice p3 g3.len c3 }) rfl (setRow_heap _ _ _ _ _ _ HRV.out)) rfl ?_;exact z189
 have c2 : (x.mode == 1) = false := by simp [n2]
 have HNV := xH (show repM f x.kind x.mode = x.mode by unfold repM; simp [n1, n2]);clear h2 n1 n2;exact z7
theorem node_oth {u : Bool} {m : Int} {k : F} (_hm0 : 0 ≤ m) (_hm : m ≤ 1114111) (hrow : RowC u m k) (x : Lab) (f : Int) (w : World) (h : Nat → Bool) (hold : Old h w.heap.size) (hnd : NdAt (sees h w) (x, k)) (hok : OkF (F.one x k)) (hsz : k.size ≤ 30000) (hk : x.kind ≠ 1 ∧ x.kind ≠ 2 ∧ x.kind ≠ 3 ∧ x.kind ≠ 4 ∧ x.kind ≠ 6 ∧ x.kind ≠ 7 ∧ x.kind ≠ 11 ∧ x.kind ≠ 12 ∧ x.kind ≠ 13 ∧ x.kind ≠ 15 ∧ x.kind ≠ 20) : Calls Try.prog 53 #[ctxV u m, ndV x, .int .i64 f] w (NodB h (nodeP u m (fun g => rowP u m k g) x k f) w) := by
 have HF0 := xH (vK (u := u) (m := m) hold hnd);have HOLD := xH hold;have HOKF := xH hok;have HLO := xH hnd.1;obtain ⟨R, hR⟩ : ∃ R, nodeP u m (fun g => rowP u m k g) x k f = R := ⟨_, rfl⟩;rw [hR];have HRC := xH hrow;have HR := xH (hR.symm.trans (show _ = (F.one { bare x with mode := x.mode } (rowP u m k f).1, f) by unfold nodeP;rw [if_neg (by omega), if_neg (by omega), if_neg (by omega), if_neg (by omega), if_neg (by omega), if_neg (by omega), if_neg (by omega), if_neg (by omega), if_neg (by omega), if_neg (by omega)];unfold repM;rw [if_neg (fun h => hk.2.2.2.2.2.2.2.2.2.2 h.1), if_neg (fun h => hk.2.2.2.2.2.2.2.2.2.2 h.1)]))
 clear hrow;have b1 : (x.kind == 1) = false := by simp [hk]
 have b2 : (x.kind == 2) = false := by simp [hk]
 have b3 : (x.kind == 3) = false := by simp [hk]
 have b4 : (x.kind == 4) = false := by simp [hk]
 have b6 : (x.kind == 6) = false := by simp [hk]
 have b7 : (x.kind == 7) = false := by simp [hk]
 have b11 : (x.kind == 11) = false := by simp [hk]
 have b12 : (x.kind == 12) = false := by simp [hk]
 have b13 : (x.kind == 13) = false := by simp [hk]
 have b15 : (x.kind == 15) = false := by simp [hk]
 have b20 : (x.kind == 20) = false := by simp [hk]
 clear hold hnd hok hk hR;unfold ctxV;unfold ndC zC at HF0;go_enter Try.func53, Try.ntmps53;unfold ndV;go_upto_region 1 with (fail)
 generalize ((w.alloc _).alloc _).alloc _ = w0 at *;have d0 : w0.cell? ⟨w.heap.size, 0, none⟩ = some (.bool u) := by unfold World.cell?; rw [HF0.out.c]; rfl
 have d1 : w0.cell? ⟨w.heap.size, 1, none⟩ = some (.int .i64 m) := by unfold World.cell?; rw [HF0.out.c]; rfl
 have e0 : w0.cell? ⟨w.heap.size + 1, 0, none⟩ = some (.int .i64 x.kind) := by unfold World.cell?; rw [HF0.out.n]; rfl
 clear d0 d1;have HRow := xH (HRC.out (x).kv f w0 (hN h (w.heap.size + 2)) HF0.out.o HF0.out.t.2.2 HOKF.out.2.2.1 hsz);have d0 : w0.cell? ⟨w.heap.size, 0, none⟩ = some (.bool u) := by unfold World.cell?; rw [HF0.out.c]; rfl
 have d1 : w0.cell? ⟨w.heap.size, 1, none⟩ = some (.int .i64 m) := by unfold World.cell?; rw [HF0.out.c]; rfl
 have e11 : w0.cell? ⟨w.heap.size + 1, 11, none⟩ = some (x.kv) := by unfold World.cell?; rw [HF0.out.n]; rfl
 generalize rowP u m k f = rr at *;go_wp2_with fail
 refine HRow.out.mono ?_;rintro e w3 ⟨hb, v3, g3, rfl, ho, hs⟩;obtain ⟨p3, c3, rfl⟩ := zJ ho.1;have HF3 := xH (HF0.out.below hb);have z11 : w3.cell? ⟨w.heap.size + 1, 11, none⟩ = some (x.kv) := by unfold World.cell?; rw [HF3.out.n]; rfl
 have y11 : w3.frozen? ⟨w.heap.size + 1, 11, none⟩ = false := by unfold World.frozen?; rw [HF3.out.n]; rfl
 obtain ⟨hg, hr, ht, hb4⟩ := fld_kids HF3.out (ownH_kids ho HF0.out.o);have HG := xH hg;have HRV := xH hr;have HT := xH ht;have HB := xH hb4;have H1 := xH (qp ht);have HST := xH hs;clear hg hr ht hb4 hb ho hs HRow d0 d1 e11;dsimp only;go_upto_region 50 with (fail)
 exact z23
end rsw
end
end Go.Proofs.Ytdgfclbajjjcgaa
