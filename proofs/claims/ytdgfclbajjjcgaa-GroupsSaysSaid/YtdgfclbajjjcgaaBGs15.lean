/- T -/
import Derived.Test.YtdgfclbajjjcgaaBGs14
set_option maxHeartbeats 16000000
set_option maxRecDepth 1000000
namespace Go.Proofs.Ytdgfclbajjjcgaa
section
namespace gpw
open sq
open Go.Sort Go Go.RowKit Go.Maps setp setw tkp trp trw rpp gpp sq prw
open rpw (fC jP FSub jQ jd own_below qp vW qh qA run_store_nd)
theorem zt : ∀ f : F, (strip f).size = f.size
 | .nil => rfl
 | .cons _ k r => by rw [strip, F.size, zt k, zt r, F.size]
theorem allNm_strip : ∀ {f : F}, AllNm (strip f) ↔ AllNm f
 | .nil => Iff.rfl
 | .cons x k r => by rw [strip];unfold AllNm;rw [allNm_strip (f := k), allNm_strip (f := r)]
theorem entL_strip (x : Lab) (s : St) : entL { x with sv := nil3, kv := nil3 } s = { entL x s with sv := nil3, kv := nil3 } := by unfold entL;split <;> rfl
theorem numF_strip : ∀ (f : F) (rs : Bool) (bef lg : Int) (s : St), numF rs bef (strip f) lg s = ((numF rs bef f lg s).1, strip (numF rs bef f lg s).2.1, (numF rs bef f lg s).2.2)
 | .nil, _, _, _, _ => rfl
 | .cons x k r, rs, bef, lg, s => by
  rw [strip, numF, numF];simp only;generalize ((if rs = true then bef else s.1, s.2) : St) = s0;have he : entS { x with sv := nil3, kv := nil3 } s0 = entS x s0 := rfl;rw [he, entL_strip, numF_strip k];generalize entS x s0 = e;by_cases k1 : e.1 ≠ 0
  ·rw [if_pos k1, if_pos k1];rfl
  ·rw [if_neg k1, if_neg k1];simp only;generalize numF (decide (x.kind = 16)) e.2.1 k e.2.1 e.2 = q;by_cases k2 : q.1.1 ≠ 0
   ·rw [if_pos k2, if_pos k2];rfl
   ·rw [if_neg k2, if_neg k2, numF_strip r];rfl
theorem numN_strip (x : Lab) (k : F) (s : St) : numN { x with sv := nil3, kv := nil3 } (strip k) s = ((numN x k s).1, ({ (numN x k s).2.1.1 with sv := nil3, kv := nil3 }, strip (numN x k s).2.1.2), (numN x k s).2.2) := by
 unfold numN;simp only;have he : entS { x with sv := nil3, kv := nil3 } s = entS x s := rfl;rw [he, entL_strip, numF_strip k];generalize entS x s = e;by_cases k1 : e.1 ≠ 0
 ·rw [if_pos k1, if_pos k1]
 ·rw [if_neg k1, if_neg k1];simp only;generalize numF (decide (x.kind = 16)) e.2.1 k e.2.1 e.2 = q;by_cases k2 : q.1.1 ≠ 0
  ·rw [if_pos k2, if_pos k2]
  ·rw [if_neg k2, if_neg k2]
theorem numN_same {x y : Lab} {k j : F} (h : strip (F.one y j) = strip (F.one x k)) (s : St) : (numN y j s).1 = (numN x k s).1 ∧ (numN y j s).2.2 = (numN x k s).2.2 ∧ strip (F.one (numN y j s).2.1.1 (numN y j s).2.1.2) = strip (F.one (numN x k s).2.1.1 (numN x k s).2.1.2) := by
 have h1 := numN_strip x k s;have h2 := numN_strip y j s;have e1 : ({ y with sv := nil3, kv := nil3 } : Lab) = { x with sv := nil3, kv := nil3 } ∧ strip j = strip k := by simp only [F.one, strip, F.cons.injEq, and_true] at h;exact h
 rw [e1.1, e1.2, h1] at h2;simp only [Prod.mk.injEq] at h2;obtain ⟨a, ⟨b, c⟩, d⟩ := h2;refine ⟨a.symm, d.symm, ?_⟩;show F.cons _ _ _ = F.cons _ _ _;rw [b, c]
def NumB (x : Lab) (k : F) (w : World) (e : Ending) (w' : World) : Prop :=
 Below w.heap.size w w' ∧ (((qH (x, k)).1.1 ≠ 0 ∧ e = .returned (.tuple #[ndV (lab 0 0), .int .i64 0, .slice none 0 0, .int .i64 (qH (x, k)).1.1, .int .i64 (qH (x, k)).1.2])) ∨
  ((qH (x, k)).1.1 = 0 ∧ ∃ y j v, e = .returned (.tuple #[ndV y, .int .i64 (qH (x, k)).2.2.1, v, .int .i64 0, .int .i64 0]) ∧ NdI w' y j w.heap.size w'.heap.size ∧ strip (F.one y j) = strip (F.one (qH (x, k)).2.1.1 (qH (x, k)).2.1.2) ∧
   w'.ownsRow w.heap.size 67 2 v (qH (x, k)).2.2.2.length (nmC (qH (x, k)).2.2.2) ∧ ((qH (x, k)).2.2.2 = [] → v = .slice none 0 0)))
theorem held_store_nv {o : Oper} {a : Act} {W : World} {K : Act → World → Prop} {Q : Exit → Act → World → Prop} {ys : Nat → Option Bool} (hgd : o.guard = none) (hd : o.dst = none) (x y : Operand) (ho : o.op = .store 27 x y)
 (g : Nat) (hx : a.eval x = .pointer (some ⟨g, 0, none⟩)) (old : Array Value) (l : Lab) (hg : W.heap[g]? = some (.cells old 27 (0, 0))) (hs : old.size = 12) (h1 : ∀ u ∈ ndC l, u.oneCell' = true) (hy : a.eval y = ndV l)
 (h : K a (W.setRow g (ndC l).toArray)) : if Region.wanted o ys = true then Oper.wp Try.prog o a W K Q else K (a.put o.dst undef) W := by
 rw [if_pos (by unfold Region.wanted; rw [hgd])];unfold Oper.wp execOp;simp only [ho, hx, hy, Instr.storeAt, Instr.sureAddr, Sem.run_bind, Sem.run_pure, Result.andThen_ok, rpw.run_store_nd W g old l hg hs h1];simpa [Oper.upon, hd, Act.put] using h
theorem ent_nd (x : Lab) (s : St) : entA (ndC x).toArray 0 x s = (ndC (entL x s)).toArray := by unfold entA entL;split <;> rfl
theorem own_base {w : World} {b b2 : Nat} {e : TypeId} {z n : Nat} {v : Value} {xs : List Value} (h : w.ownsRow b e z v n xs) (hb : b2 ≤ b) : w.ownsRow b2 e z v n xs := by
 refine ⟨h.1, ?_⟩;rcases h.2 with h2 | ⟨g, cap, cur, hv, hg, r⟩
 ·exact Or.inl h2
 ·exact Or.inr ⟨g, cap, cur, hv, Nat.le_trans hb hg, r⟩
theorem results_num {fn : Func} {p q r s t : Tmp} (h : fn.results = #[.cell p 27, .tmp q, .tmp r, .tmp s, .tmp t]) (tmps : Array Value) (w : World) (g : Nat) (l : Lab) (hp : tmps.getD p undef = .pointer (some ⟨g, 0, none⟩)) (hg : w.heap[g]? = some (.cells (ndC l).toArray 27 (0, 0))) :
 (results fn tmps).run Try.prog w = .ok (.tuple #[ndV l, tmps.getD q undef, tmps.getD r undef, tmps.getD s undef, tmps.getD t undef]) w := by
 have hp' : tmps[p]?.getD undef = .pointer (some ⟨g, 0, none⟩) := by simpa using hp
 exact z124
theorem vY (w : World) (x : Lab) (k : F) (hn : NdAt w (x, k)) (hc : CpOk (F.one x k)) (hm : AllNm (F.one x k)) (hz : k.size ≤ 1000000) : Calls Try.prog 14 #[ndV x] w (NumB x k w) := by
 have HM := xH hm;have HZ := xH hz;have e1 := World.size_alloc w (.cells (ndC x).toArray 27);have HP := xH (show ((w.alloc (.cells (ndC x).toArray 27)).alloc (.cells zC.toArray 27)).heap[w.heap.size]? = some (.cells (ndC x).toArray 27 (0, 0)) from (heap_alloc_old _ _ (by rw [e1]; omega)).trans (heap_alloc_new _ _));have HQ := xH (show ((w.alloc (.cells (ndC x).toArray 27)).alloc (.cells zC.toArray 27)).heap[w.heap.size + 1]? = some (.cells zC.toArray 27 (0, 0)) from e1 ▸ heap_alloc_new (w.alloc (.cells (ndC x).toArray 27)) (.cells zC.toArray 27));have HB := xH (trw.qi (trw.qg w (.cells (ndC x).toArray 27)) (trw.qg _ (.cells zC.toArray 27)));have HZ2 := xH (show ((w.alloc (.cells (ndC x).toArray 27)).alloc (.cells zC.toArray 27)).heap.size = w.heap.size + 2 by rw [World.size_alloc, e1]);have HCP := xH (copy_all (k.size + 1) ((w.alloc (.cells (ndC x).toArray 27)).alloc (.cells zC.toArray 27)) x k (Nat.lt_succ_self _) (trw.qY (fun _ _ h => trw.qf HB.out h) hn) hc);have HC1 := xH (show ∀ j u, (ndC x)[j]? = some u → ((w.alloc (.cells (ndC x).toArray 27)).alloc (.cells zC.toArray 27)).cell? ⟨w.heap.size, 0 + j, none⟩ = some u from fun j u hj => by rw [Nat.zero_add]; unfold World.cell?; rw [HP.out]; simpa using hj);clear hn hc hm hz e1;unfold ndC zC at HP HQ HB HZ2 HCP;unfold ndC zC at HC1;unfold ndV;go_enter Try.func14, Try.ntmps14;go_upto_region 1 with (fail)
 generalize (w.alloc _).alloc _ = w1 at *;go_wp2_with (first
  | (refine jv rfl _ rfl w.heap.size 0 rfl x HC1.out ?_)
  | (refine HCP.out.mono ?_; rintro e w2 ⟨y, j, rfl, hn, hs, hb⟩; have HN2 := xH hn; have HS2 := xH hs; have HB2 := xH hb; have HG2 := xH (heap_alloc_new w2 (.cells zC.toArray 27)); unfold zC at HG2; have HO2 := xH (qp (ndI_at hn)); clear hn hs hb)
  | (refine qh rfl rfl _ _ rfl w2.heap.size rfl _ y HG2.out rfl HO2.out rfl ?_))
 go_upto_region 2 with (fail)
 obtain ⟨T, hT⟩ : ∃ T, w2.heap.size = T := ⟨_, rfl⟩;have HT3 := xH (setRow_heap _ _ _ (ndC y).toArray _ _ HG2.out);have HO3 := xH (show ∀ i, i < w2.heap.size → ((w2.alloc (.cells zC.toArray 27)).setRow w2.heap.size (ndC y).toArray).heap[i]? = w2.heap[i]? from fun i hi => (tkw.setRow_other _ _ i _ (by omega)).trans (heap_alloc_old _ _ hi));have HB3 := xH (show Below w.heap.size w ((w2.alloc (.cells zC.toArray 27)).setRow w2.heap.size (ndC y).toArray) from (HB.out.trans (HB2.out.mono HB.out.size)).trans ⟨rfl, rfl, rfl, by rw [tkw.setRow_size, World.size_alloc]; omega, fun i hi => HO3.out i (by have := HB2.out.size; have := HZ2.out; omega)⟩);have HZ3 := xH (show ((w2.alloc (.cells zC.toArray 27)).setRow w2.heap.size (ndC y).toArray).heap.size = w2.heap.size + 1 by rw [tkw.setRow_size, World.size_alloc]);unfold zC at HO3 HB3 HZ3;clear HG2;generalize (w2.alloc _).setRow _ _ = w3 at *;have HN3 := xH (ndI_keep HN2.out fun i _ h2 => HO3.out i h2);rw [hT] at HT3 HZ3 HN3 ⊢;have HTT := xH hT;clear hT;have hmm : (Instr.makeMap 57 none).run Try.prog w3 = .ok (.map (some w3.heap.size)) (w3.alloc (.map #[] 0)) := rfl;obtain ⟨O, hO⟩ : ∃ O : Obj, O = .cells #[.int .i64 0, .slice none 0 0, .map (some w3.heap.size)] 59 := ⟨_, rfl⟩;have z4 := World.size_alloc w3 (.map #[] 0);have HST := xH (show StAt ((w3.alloc (.map #[] 0)).alloc O) (T + 1) (w3.heap.size + 1) w3.heap.size (.slice none 0 0) (0, []) from
  ⟨by have := heap_alloc_new (w3.alloc (.map #[] 0)) O; rw [z4] at this; rw [this, hO], by rw [HZ3.out]; omega, by rw [HZ3.out]; exact xL _, World.ownsRow_nil _ _ _ 2, fun _ => rfl, mapV_below (mapV_made w3) (trw.qg _ O)⟩)
 have HB5 := xH (trw.qi (trw.qg w3 (.map #[] 0)) (trw.qg _ O));have HZ5 := xH (show ((w3.alloc (.map #[] 0)).alloc O).heap.size = w3.heap.size + 2 by rw [World.size_alloc, z4]);subst hO;clear z4;go_wp2_with fail
 rw [hmm];go_upto_region 3 with (fail)
 generalize (w3.alloc (.map #[] 0)).alloc _ = w5 at *;clear hmm;have HAS := xH (assign_all (j.size + 1) w5 (T + 1) (w3.heap.size + 1) w3.heap.size T 0 w1.heap.size T (ndC y).toArray y j _ (0, []) (Nat.lt_succ_self _) ((HB5.out.block T (by rw [HZ3.out]; omega)).trans HT3.out) (fun i u hu => by simpa using hu) (Or.inr (xL _)) (Nat.lt_succ_self _) (Nat.le_succ _)
  (ndI_keep HN3.out fun i _ h2 => HB5.out.block i (by rw [HZ3.out]; omega)) HST.out (by rw [HZ5.out, HZ3.out]; omega) (Int.le_refl _) (by decide) (by
   have h1 : j.size = k.size := by have := congrArg F.size HS2.out;rw [zt, zt] at this;simp only [F.one, F.size] at this;omega
   have := HZ.out;simp only [List.length_nil];omega) (allNm_strip.1 (by rw [HS2.out]; exact allNm_strip.2 HM.out)))
 have HSM := xH (numN_same HS2.out (0, []));generalize hG : w3.heap.size + 1 = G at *;go_wp2_with fail
 refine HAS.out.mono ?_;rintro e w6 ⟨rfl, hch, hq⟩;rw [HSM.out.1] at hq ⊢;have HCH := xH hch;have HB6 := xH (show Below w.heap.size w w6 from (HB3.out.trans (HB5.out.mono (by have := HB3.out.size; omega))).trans ⟨hch.os, hch.tape, hch.output, hch.size, fun i hi => hch.block i (by have := HB2.out.size; have := HZ2.out; have := HTT.out; omega) (by have := HB2.out.size; have := HZ2.out; have := HTT.out; omega) (Or.inl (by have := HZ2.out; omega))⟩);have HQ6 := xH (show w6.heap[w.heap.size + 1]? = some (.cells zC.toArray 27 (0, 0)) from (hch.block _ (by have := HB2.out.size; have := HZ2.out; have := HTT.out; omega) (by have := HB2.out.size; have := HZ2.out; have := HTT.out; omega) (Or.inl (by have := HZ2.out; omega))).trans ((HB5.out.block _ (by have := HB2.out.size; have := HZ2.out; have := HTT.out; have := HZ3.out; omega)).trans ((HO3.out _ (by have := HB2.out.size; have := HZ2.out; omega)).trans ((HB2.out.block _ (by have := HZ2.out; omega)).trans HQ.out))));clear hch HAS;by_cases h0 : (numN x k (0, [])).1.1 = 0
 ·obtain ⟨hT, ⟨v6, hst⟩, hnd⟩ := hq h0;have be : ((numN x k (0, [])).1.1 != 0) = false := by rw [h0]; rfl
  rw [ent_nd] at hT;rw [numN_lab] at hnd;have HT6 := xH hT;have HS6 := xH hst;have HN6 := xH hnd;have H0 := xH h0;have HSL := xH (numN_lab y j (0, []));clear hT hst hnd h0 hq;generalize numN y j (0, []) = q at *;generalize entL y (0, []) = y6 at *;obtain ⟨⟨q1, q2⟩, ⟨q3, q4⟩, q5, q6⟩ := q;have hsl := HSL.out;simp only at hsl;subst hsl;have HO6 := xH (qp (ndI_at HN6.out));have HNP := xH (show qH (x, k) = numN x k (0, []) from rfl);generalize numN x k (0, []) = r at *;obtain ⟨⟨r1, r2⟩, ⟨r3, r4⟩, r5, r6⟩ := r;have HR := xH HSM.out.2;simp only at HR;obtain ⟨hr1, hr2⟩ := HR.out;simp only [Prod.mk.injEq] at hr1;obtain ⟨rfl, rfl⟩ := hr1;have HSE := xH hr2;clear hr2 HSM HR HSL;simp only at be;go_upto_region 6 with (fail)
  refine wp_region_held_drew (S := fun w' => w'.heap[T]? = w6.heap[T]? ∧ w'.heap[G]? = w6.heap[G]?) (by kernel_rfl) ⟨rfl, rfl⟩ (fun hHeld => ?_);refine xT 0 rfl (ndV q3) ?_ ?_
  ·intro w' hSw;refine jT (x := .tmp 7) (b := T) (off := 0) (l := q3) ?_ ?_ (fun i u hu => by rw [Nat.zero_add]; unfold World.cell?; rw [hSw.1, HT6.out]; simpa using hu) <;> rfl
  simp only [xS];refine xT 1 rfl ?_ ?_ ?_;rotate_left
  ·intro w' hSw;go_simp;try rfl
  simp only [xS];refine xT 2 rfl ?_ ?_ ?_;rotate_left
  ·intro w' hSw;go_simp;try rfl
  simp only [xS];refine xT 3 rfl ?_ ?_ ?_;rotate_left
  ·intro w' hSw;go_simp;try rfl
  simp only [xS];refine xT 4 rfl ?_ ?_ ?_;rotate_left
  ·intro w' hSw;have g0 := (World.cell?_of_block (a := ⟨G, 0, none⟩) hSw.2).trans HS6.out.c.c0;go_simp;try rfl
  simp only [xS];refine xT 5 rfl ?_ ?_ ?_;rotate_left
  ·intro w' hSw;go_simp;try rfl
  simp only [xS];refine xT 6 rfl ?_ ?_ ?_;rotate_left
  ·intro w' hSw;go_simp;try rfl
  simp only [xS];refine xT 7 rfl ?_ ?_ ?_;rotate_left
  ·intro w' hSw;go_simp;try rfl
  simp only [xS];refine xT 8 rfl ?_ ?_ ?_;rotate_left
  ·intro w' hSw;have g1 := (World.cell?_of_block (a := ⟨G, 1, none⟩) hSw.2).trans HS6.out.c.c1;go_simp;try rfl
  simp only [xS];refine xD 9 rfl (fun K hK => ?_);refine held_store_nv rfl rfl _ _ rfl (w.heap.size + 1) rfl _ q3 HQ6.out rfl HO6.out rfl ?_;have HXT := xH (show ∀ i, i ≠ w.heap.size + 1 → (w6.drew.setRow (w.heap.size + 1) (ndC q3).toArray).heap[i]? = w6.heap[i]? from fun i hi => tkw.setRow_other _ _ i _ hi);have HXN := xH (setRow_heap w6.drew (w.heap.size + 1) _ (ndC q3).toArray _ _ HQ6.out);have HXZ := xH (show (w6.drew.setRow (w.heap.size + 1) (ndC q3).toArray).heap.size = w6.heap.size from tkw.setRow_size _ _ _);have HXB := xH (show Below w.heap.size w (w6.drew.setRow (w.heap.size + 1) (ndC q3).toArray) from HB6.out.trans ⟨rfl, rfl, rfl, by rw [HXZ.out]; exact xL _, fun i hi => HXT.out i (by omega)⟩);generalize w6.drew.setRow _ _ = w7 at *;refine hK.out _ _ ⟨HXT.out T (by have := HB2.out.size; have := HZ2.out; have := HTT.out; omega), HXT.out G (by have := HB2.out.size; have := HZ2.out; have := HTT.out; have := HZ3.out; omega)⟩ (fun hHeld => ?_);clear hK K;try simp only [xS]
  refine xT 10 rfl ?_ ?_ ?_;rotate_left
  ·intro w' hSw;go_simp;try rfl
  simp only [xS];refine xT 11 rfl ?_ ?_ ?_;rotate_left
  ·intro w' hSw;go_simp;try rfl
  simp only [xS];refine xT 12 rfl ?_ ?_ ?_;rotate_left
  ·intro w' hSw;go_simp;try rfl
  simp only [xS];refine xT 13 rfl ?_ ?_ ?_;rotate_left
  ·intro w' hSw;go_simp;try rfl
  simp only [xS];refine wpAnyH_done (by kernel_rfl) ?_ _;go_wp2_with fail
  refine xB (results_num rfl _ _ (w.heap.size + 1) q3 rfl HXN.out) rfl ?_;refine ⟨HXB.out, Or.inr ⟨?_, q3, q4, v6, ?_, ?_, ?_, ?_, ?_⟩⟩
  ·rw [HNP.out]; exact H0.out
  ·rw [HNP.out]; rfl
  ·have hz := HXZ.out;rw [hz];exact ndI_hi (ndI_lo (ndI_keep HN6.out fun i h1 h2 => HXT.out i (by have := HZ2.out; omega)) (by have := HZ2.out; omega)) (by have := HCH.out.size; have := HZ5.out; have := HZ3.out; omega)
  ·rw [HNP.out]; exact HSE.out
  ·rw [HNP.out];exact own_base (tkw.jJ HS6.out.row fun i hi => HXT.out i (by have := own_below HS6.out.row hi; have := HB2.out.size; have := HZ2.out; have := HTT.out; omega)) (by have := HB2.out.size; have := HZ2.out; have := HTT.out; omega)
  ·rw [HNP.out]; exact HS6.out.nil
 ·have be : ((numN x k (0, [])).1.1 != 0) = true := bne_iff_ne.2 h0;have H0 := xH h0;clear h0 hq;have HNP := xH (show qH (x, k) = numN x k (0, []) from rfl);generalize numN x k (0, []) = r at *;obtain ⟨⟨r1, r2⟩, r3⟩ := r;simp only at be;have HO0 : Hid (∀ u ∈ ndC (lab 0 0), u.oneCell' = true) := xH (fun u hu => by simp only [ndC, lab, nil3, List.mem_cons, List.not_mem_nil, or_false] at hu;rcases hu with rfl | rfl | rfl | rfl | rfl | rfl | rfl | rfl | rfl | rfl | rfl | rfl <;> rfl)
  go_wp2_with (refine qh rfl rfl _ _ rfl (w.heap.size + 1) rfl _ (lab 0 0) HQ6.out rfl HO0.out rfl ?_)
  refine xB (results_num rfl _ _ (w.heap.size + 1) (lab 0 0) rfl (setRow_heap _ _ _ _ _ _ HQ6.out)) rfl ?_;exact ⟨HB6.out.trans ⟨rfl, rfl, rfl, by rw [tkw.setRow_size]; exact xL _, fun i hi => tkw.setRow_other _ _ i _ (by omega)⟩, Or.inl ⟨by rw [HNP.out]; exact H0.out, by rw [HNP.out]; rfl⟩⟩
end gpw
end
section
namespace gqw
open sq
open Go.Sort Go Go.RowKit Go.Maps setp setw tkp trp trw rpp rsp gpp sq
open rpw (sees jB qU own_below qp)
open rsw (Old hN sees_to)
open gpw (nmC nmC_snoc infoNm name_e name_y row_slice)
theorem name_n9 {a b : ByteArray} (h : ¬ a = b) : (a.toList == b.toList) = false := by simp only [beq_eq_false_iff_ne];intro e;rw [Lib.toList_data, Lib.toList_data] at e;obtain ⟨⟨a⟩⟩ := a;obtain ⟨⟨b⟩⟩ := b;simp only at e;exact h (by rw [e])
def NmI9 (w : World) (v : Value) (l : List (ByteArray × Int)) : Prop := ∃ a cap, v = .slice a l.length cap ∧ l.length ≤ 2000000 ∧ (l = [] ∨ ∃ g, a = some ⟨g, 0, none⟩ ∧ ∀ i q, l[i]? = some q → w.cell? ⟨g, i * 2, none⟩ = some (.string q.1) ∧ w.cell? ⟨g, i * 2 + 1, none⟩ = some (.int .i64 q.2))
theorem nmC_at9 : ∀ (l : List (ByteArray × Int)) (i : Nat) (q : ByteArray × Int), l[i]? = some q → (nmC l)[i * 2]? = some (.string q.1) ∧ (nmC l)[i * 2 + 1]? = some (.int .i64 q.2)
 | [], i, q, h => by simp at h
 | p :: l, 0, q, h => by simp only [List.getElem?_cons_zero, Option.some.injEq] at h;subst h;exact ⟨rfl, rfl⟩
 | p :: l, i + 1, q, h => by have := nmC_at9 l i q (by simpa using h);have e : nmC (p :: l) = .string p.1 :: .int .i64 p.2 :: nmC l := rfl;rw [e, show (i + 1) * 2 = i * 2 + 1 + 1 by omega];simpa using this
theorem nm_i9 {w : World} {b : Nat} {v : Value} {l : List (ByteArray × Int)} (h : w.ownsRow b 67 2 v l.length (nmC l)) (hz : l = [] → v = .slice none 0 0) (hl : l.length ≤ 2000000) : NmI9 w v l := by
 rcases h.2 with ⟨h1, h2⟩ | ⟨g, cap, cur, h1, _⟩
 ·have : l = [] := List.length_eq_zero_iff.1 h2;subst this;exact ⟨none, 0, h1, by simp, Or.inl rfl⟩
 ·subst h1;refine ⟨_, cap, rfl, hl, Or.inr ⟨g, rfl, fun i q hq => ?_⟩⟩;have hi := (List.getElem?_eq_some_iff.1 hq).1;have := nmC_at9 l i q hq;exact ⟨by rw [World.ownsRow.cellAt h (i * 2) (by omega)]; exact this.1, by rw [World.ownsRow.cellAt h (i * 2 + 1) (by omega)]; exact this.2⟩
theorem nm_blw9 {w w' : World} {v : Value} {l : List (ByteArray × Int)} (h : NmI9 w v l) (hb : Below w.heap.size w w') : NmI9 w' v l := by
 obtain ⟨a, c, h1, h2, h3 | ⟨g, h3, h4⟩⟩ := h
 ·exact ⟨a, c, h1, h2, Or.inl h3⟩
 ·exact ⟨a, c, h1, h2, Or.inr ⟨g, h3, fun i q hq => ⟨trw.qf hb (h4 i q hq).1, trw.qf hb (h4 i q hq).2⟩⟩⟩
def othL9 (l : Nm) (x : Lab) : Bool := l.any fun q => decide (q.1 = x.name) && decide (q.2 ≠ x.n)
def inL9 (l : Nm) (x : Lab) : Bool := l.any fun q => decide (q.1 = x.name)
theorem take_any (f : ByteArray × Int → Bool) {l : Nm} {m : Nat} {q : ByteArray × Int} (h : l[m]? = some q) : (l.take (m + 1)).any f = ((l.take m).any f || f q) := by rw [List.take_add_one, h, List.any_append];simp
theorem othL9_of {l : Nm} {x : Lab} {m : Nat} {q : ByteArray × Int} (h : l[m]? = some q) (h1 : q.1 = x.name) (h2 : q.2 ≠ x.n) : othL9 l x = true := by unfold othL9;rw [List.any_eq_true];exact ⟨q, List.mem_of_getElem? h, by simp [h1, h2]⟩
theorem addR_60 {x : Lab} {l : Nm} (h : 60 < x.n) : addR x l = (12, l) := by unfold addR; rw [if_pos h]
theorem addR_no {x : Lab} {l : Nm} (h : ¬ 60 < x.n) (h2 : x.name.size = 0) : addR x l = (0, l) := by unfold addR; rw [if_neg h, if_pos h2]
theorem addR_33 {x : Lab} {l : Nm} (h : ¬ 60 < x.n) (h2 : ¬ x.name.size = 0) (h3 : othL9 l x = true) : addR x l = (33, l) := by unfold addR; rw [if_neg h, if_neg h2, if_pos (show (l.any fun q => decide (q.1 = x.name) && decide (q.2 ≠ x.n)) = true from h3)]
theorem addR_in {x : Lab} {l : Nm} (h : ¬ 60 < x.n) (h2 : ¬ x.name.size = 0) (h3 : othL9 l x = false) (h4 : inL9 l x = true) : addR x l = (0, l) := by unfold addR;rw [if_neg h, if_neg h2, if_neg (by show ¬ othL9 l x = true; rw [h3]; decide), if_pos (show (l.any fun q => decide (q.1 = x.name)) = true from h4)]
theorem addR_new {x : Lab} {l : Nm} (h : ¬ 60 < x.n) (h2 : ¬ x.name.size = 0) (h3 : othL9 l x = false) (h4 : inL9 l x = false) : addR x l = (0, l ++ [(x.name, x.n)]) := by unfold addR;rw [if_neg h, if_neg h2, if_neg (by show ¬ othL9 l x = true; rw [h3]; decide), if_neg (by show ¬ inL9 l x = true; rw [h4]; decide)]
theorem nameR_err {x : Lab} {l : Nm} {c : List Lab} {e : Int} {l' : Nm} (h : addR x l = (e, l')) (he : e ≠ 0) : nameR l (x :: c) = ((e, x.at_), l) := by rw [nameR, h, if_pos he]
theorem nameR_go {x : Lab} {l : Nm} {c : List Lab} {l' : Nm} (h : addR x l = (0, l')) : nameR l (x :: c) = nameR l' c := by rw [nameR, h, if_neg (show ¬ (0 : Int) ≠ 0 by decide)]
theorem topL_at : ∀ {f : F} {i : Nat} {x : Lab} {k r : F}, f.drop i = .cons x k r → (topL (strip f)).drop i = bare x :: (topL (strip f)).drop (i + 1)
 | .nil, i, x, k, r, h => by cases i <;> cases h
 | .cons a b c, 0, x, k, r, h => by cases h;rfl
 | .cons a b c, i + 1, x, k, r, h => by have := topL_at (f := c) (i := i) h;exact this
def RNumB (h : Nat → Bool) (T : F × Int) (C : (Int × Int) × Nm) (w : World) (e : Ending) (w' : World) : Prop :=
 Below w.heap.size w w' ∧ ((C.1.1 ≠ 0 ∧ e = .returned (.tuple #[ndV (lab 0 0), .int .i64 0, nil3, .int .i64 C.1.1, .int .i64 C.1.2])) ∨
  (C.1.1 = 0 ∧ ∃ y j v, e = .returned (.tuple #[ndV y, .int .i64 T.2, v, .int .i64 0, .int .i64 0]) ∧ NdAt (sees h w') (y, j) ∧ strip (F.one y j) = T.1 ∧ w'.ownsRow w.heap.size 67 2 v C.2.length (nmC C.2) ∧ (C.2 = [] → v = nil3)))
def NmRel (F0 : F) (C : (Int × Int) × Nm) (w0 : World) (vn vi : Value) (wr : World) : Prop :=
 ∃ (i : Nat) (l : Nm), vi = .int .i64 i ∧ i ≤ F0.len ∧ l.length ≤ i ∧ Hid (wr.ownsRow w0.heap.size 67 2 vn l.length (nmC l)) ∧ Hid (l = [] → vn = nil3) ∧ Hid (Below w0.heap.size w0 wr) ∧ Hid (nameR l ((topL (strip F0)).drop i) = C)
def InRel (x : Lab) (l : Nm) (w0 : World) (vt vm : Value) (wr : World) : Prop :=
 ∃ m : Nat, vm = .int .i64 m ∧ m ≤ l.length ∧ vt = .bool (inL9 (l.take m) x) ∧ Hid (othL9 (l.take m) x = false) ∧ Hid (Below w0.heap.size w0 wr)
end gqw
end
section
namespace gqw
open sq
open Go.Sort Go Go.RowKit Go.Maps setp setw tkp trp trw rpp rsp gpp sq
open rpw (sees jB qU own_below qp qh ql qI)
open rsw (Old OwnH hN sees_to ownH_kids nd_unN qV)
open gpw (nmC nmC_snoc infoNm name_e name_y row_slice results_num held_app_nm)
theorem rnumber_any (h : Nat → Bool) (x : Lab) (k : F) (w : World) (hold : Old h w.heap.size) (hnd : NdAt (sees h w) (x, k)) (hsz : k.size < 100000) : Calls Try.prog 15 #[ndV x] w (RNumB h (refN x k 0) (nameR [] (capL (refN x k 0).1)) w) := by
 have HF0 := xH (rf_start hold hnd);obtain ⟨T, hT⟩ : ∃ T, refN x k 0 = T := ⟨_, rfl⟩;rw [hT];have HNum := xH (fun w0 (h : Nat → Bool) (ho : Old h w0.heap.size) (hn : NdAt (sees h w0) (x, k)) => hT ▸ num_any k x 0 w0 h ho hn (Int.le_refl _) (by omega));have HTS := xH (show T.1.size ≤ 100001 from by
  have : ∀ (f : F) (rs : Bool) (a b : Int), (refF rs a f b).1.size = f.size := by
   intro f
   induction f with
   | nil => intros; rfl
   | cons x k r ih1 ih2 => intro rs a b; rw [refF]; simp only [F.size]; rw [ih1, ih2]
  rw [← hT];unfold refN;simp only [F.one, F.size];rw [this, rsp.strip_size];omega)
 obtain ⟨C, hC⟩ : ∃ C, nameR [] (capL T.1) = C := ⟨_, rfl⟩;rw [hC];have HC := xH hC;clear hold hnd hT hC hsz;unfold ndC zC at HF0;go_enter Try.func15, Try.ntmps15;unfold ndV;go_upto_region 1 with (fail)
 generalize (w.alloc _).alloc _ = w0 at *;have HN0 := xH (HNum.out w0 _ HF0.out.o HF0.out.t);have HG0 : Hid (w0.heap[w.heap.size]? = some (.cells (ndC x).toArray 27 (0, 0))) := xH HF0.out.n;go_wp2_with (first
  | (refine ql rfl _ rfl w.heap.size rfl x HG0.out ?_)
  | (refine HN0.out.mono ?_))
 rintro e w2 ⟨hb2, y, j, rfl, hn2, hst2⟩;have HT2 := xH hst2;have HF2 := xH (HF0.out.below hb2);have HY := xH (qp hn2);have HG2 := xH (heap_alloc_new w2 (.cells zC.toArray 27));have HST := xH (show ∀ w4, w4 = (w2.alloc (.cells zC.toArray 27)).setRow w2.heap.size (ndC y).toArray → Below w2.heap.size w2 w4 ∧ w4.heap[w2.heap.size]? = some (.cells (ndC y).toArray 27 (0, 0)) from fun w4 h4 => by subst h4;exact ⟨rpw.jU w2 _ _ _, setRow_heap _ _ _ _ _ _ (heap_alloc_new w2 _)⟩)
 have HNY := xH hn2;have HJ := xH (show j.size ≤ 100000 by have h1 := HTS.out;rw [← hst2, rsp.strip_size] at h1;simp only [F.one, F.size] at h1;omega)
 have HCP := xH (show capL T.1 = capN y j from by rw [← hst2];show capL (strip (.cons y j .nil)) = _;rw [capL_cons];exact List.append_nil _)
 unfold zC at HG2 HST;clear hb2 hn2 hst2 HF0 HG0 HN0 HNum;dsimp only;go_upto_region 2 with (refine wpList_store_ny rfl rfl _ _ rfl w2.heap.size rfl _ y HG2.out rfl HY.out rfl ?_; intro w4 h4; obtain ⟨hb4, hg4⟩ := HST.out w4 h4.out; have HB24 := xH hb4; have HG4 := xH hg4; clear h4 hb4 hg4)
 have HF4 := xH (HF2.out.below HB24.out);have HN4 := xH (qV HB24.out HNY.out);have HBL := xH (show w.heap.size + 2 ≤ w2.heap.size from HF2.out.s);generalize w2.heap.size = B at *;clear HNY HB24 HG2 HST HF2;have HCap := xH (cap_any j y w4 _ HF4.out.o HN4.out HJ.out);go_wp2_with (first
  | (refine ql rfl _ rfl B rfl y HG4.out ?_)
  | (refine HCap.out.mono ?_))
 rintro e w5 ⟨hb5, v5, f, rfl, ho5, ht5⟩;have HF5 := xH (HF4.out.below hb5);have HG5 := xH ((hb5.block B (by have := (Array.getElem?_eq_some_iff.1 HG4.out).1; exact this)).trans HG4.out);have HN5 := xH (qV hb5 HN4.out);have HKF := xH (ownH_kids ho5 HF4.out.o);have HFL := xH (show f.len ≤ 100001 by have h1 := topL_len (strip f);rw [rpw.jm] at h1;have h2 := capL_len T.1;rw [HCP.out, ← ht5, h1] at h2;have := HTS.out;omega)
 have HCC := xH (show nameR [] ((topL (strip f)).drop 0) = C from by rw [List.drop_zero, ht5, ← HCP.out]; exact HC.out);obtain ⟨fa, fq, rfl⟩ := kids_len HKF.out;clear hb5 ho5 ht5 HF4 HG4 HN4 HCap HC HCP;dsimp only;go_wp2_with fail
 go_loopw [10, 11] (fun vn vi wr => NmRel f C w5 vn vi wr) (fun _ vi _ => f.len - (intOf vi).toNat)
 case atStart => exact ⟨0, [], rfl, Nat.zero_le _, xL _, xH (World.ownsRow_nil _ _ _ _), xH (fun _ => rfl), xH (Below.refl _ _), HCC⟩
 case round =>
  obtain ⟨i, l, rfl, hi, hli, HO, HZ, HB, HR⟩ := hrel;obtain ⟨na, nc, hnv⟩ := row_slice HO.out;by_cases hlt : i < f.len
  ·obtain ⟨y', kk, r, hd⟩ := drop_lt hlt;obtain ⟨b1, o, q, hv, _, _, _, hf⟩ := kid_at HKF.out hd;cases hv;have HE := xH (fun j v hj => trw.qf HB.out (sees_to (hf.1 j v hj)));have HB1 := xH (show b1 ≠ w.heap.size + 1 from fun e => by have := (jB.1 (hf.1 1 _ rfl)).1;simp [hN, e] at this)
   have HB1L := xH (show b1 < w5.heap.size from cell_lt (sees_to (hf.1 1 _ rfl)));have HTL := xH (topL_at hd);have e1 : wr.cell? ⟨b1, o + i * 12 + 1, none⟩ = some (.int .i64 y'.at_) := HE.out 1 _ rfl;have e5 : wr.cell? ⟨b1, o + i * 12 + 5, none⟩ = some (.int .i64 y'.n) := HE.out 5 _ rfl;have e8 : wr.cell? ⟨b1, o + i * 12 + 8, none⟩ = some (.string y'.name) := HE.out 8 _ rfl;have a1 := add_row b1 o i 12;have i1 : (i : Int) < (f.len : Int) := by omega
   clear hd hf;by_cases h60 : 60 < y'.n
   ·have b60 : decide (y'.n > 60) = true := decide_eq_true h60;have HRR := xH (show C = ((12, y'.at_), l) from by rw [← HR.out, HTL.out];exact nameR_err (e := 12) (l' := l) (addR_60 (x := bare y') h60) (by decide))
    have HS2 := xH (show wr.heap[w.heap.size + 1]? = some (.cells #[.int .i64 0, .int .i64 0, .int .i64 0, .slice none 0 0, .bool false, .int .i64 0, .int .i64 0, .int .i64 0, .string ⟨#[]⟩, .int .i64 0, .int .i64 0, .slice none 0 0] 27 (0, 0)) from (HB.out.block _ (by have := HF5.out.s; omega)).trans HF5.out.r);go_upto_region 8 with (fail)
    refine wp_region_held_drew (S := fun w' => w'.heap[b1]? = wr.heap[b1]?) (by kernel_rfl) rfl (fun hHeld => ?_);refine yT 0 ?_;simp only [xS];refine yT 1 ?_;simp only [xS];refine yT 2 ?_;simp only [xS];refine yT 3 ?_;simp only [xS];refine yT 4 ?_;simp only [xS];refine yF 5 (fun w' hS => (World.cell?_of_block (a := ⟨b1, o + i * 12 + 1, none⟩) hS).trans e1) ?_;simp only [xS];refine xD 6 rfl (fun K hK => ?_);refine qI rfl rfl _ _ rfl (w.heap.size + 1) rfl _ (lab 0 0) HS2.out rfl (qp (t := (lab 0 0, F.nil)) (rpw.zero_at w)) rfl ?_;have HSR := xH (show (wr.drew.setRow (w.heap.size + 1) (ndC (lab 0 0)).toArray).heap[b1]? = wr.heap[b1]? from tkw.setRow_other _ _ _ _ (by have := HB1.out; omega));refine hK.out _ _ HSR.out (fun hHeld => ?_);clear hK K;try simp only [xS]
    refine yT 7 ?_;simp only [xS];refine yT 8 ?_;simp only [xS];refine yT 9 ?_;simp only [xS];refine yT 10 ?_;simp only [xS];refine wpAnyH_done (by kernel_rfl) ?_ _;go_wp2_with fail
    refine xB (results_num rfl _ _ (w.heap.size + 1) (lab 0 0) rfl (setRow_heap _ _ _ _ _ _ HS2.out)) rfl ?_;exact ⟨rpw.qC (qi HF5.out.b (HB.out.trans (Below.refl _ _).drew)) _ (by omega), .inl ⟨by rw [HRR.out]; show (12 : Int) ≠ 0; decide, by rw [HRR.out]; rfl⟩⟩
   have HZO := xH (show y'.n ≤ 60 by omega);by_cases hnm : y'.name.size = 0
   ·have b8 := name_y hnm;have HRN := xH (show nameR l ((topL (strip f)).drop (i + 1)) = C from by rw [← HR.out, HTL.out, nameR_go (addR_no (x := bare y') h60 hnm)]);clear hnm;go_wp2_with fail
    go_roundw
    case rel => exact ⟨i + 1, l, by go_num, by omega, by omega, HO, HZ, HB, HRN⟩
    case measure => simp [intOf]; omega
   have HNM := xH hnm;have b8 := name_e hnm;subst hnv;have HNI := xH (nm_i9 HO.out HZ.out (by have := HFL.out; omega));clear hnm;have hl5 : (l.length : Int) ≤ 9223372036854775807 := by omega
   go_wp2_with fail
   go_loopw [12, 13] (fun vt vm wx => InRel (bare y') l wr vt vm wx) (fun _ vm _ => l.length - (intOf vm).toNat)
   case atStart => exact ⟨0, rfl, Nat.zero_le _, by rw [List.take_zero]; rfl, xH (by rw [List.take_zero]; rfl), xH (Below.refl _ _)⟩
   case round =>
    obtain ⟨m, rfl, hm, rfl, HOt, HBi⟩ := hrel;have r1 := trw.qf HBi.out e1;have r5 := trw.qf HBi.out e5;have r8 := trw.qf HBi.out e8;by_cases hlm : m < l.length
    ·obtain ⟨p, hp⟩ : ∃ p, l[m]? = some p := ⟨_, List.getElem?_eq_getElem hlm⟩;obtain ⟨na', nc', hs', _, hcs⟩ := HNI.out;cases hs';obtain ⟨gb, rfl, hcz⟩ := hcs.resolve_left (fun e => by rw [e] at hlm; exact absurd hlm (Nat.not_lt_zero _));have HP := xH (hcz m p hp);have HPM := xH hp;have n0 := trw.qf HBi.out HP.out.1;have n1 := trw.qf HBi.out HP.out.2;have hmi : m < 9223372036854775807 := by omega
     have m1 : (m : Int) < (l.length : Int) := by omega
     clear hp hcs hcz;obtain ⟨bad, hbad⟩ : ∃ bad : Bool, (decide (p.1 = y'.name) && decide (p.2 ≠ y'.n)) = bad := ⟨_, rfl⟩;have HBAD := xH hbad;go_upto_region 14 with (fail)
     go_cut [74] from 45 to 94 (fun v74 wx => v74 = .bool bad ∧ Hid (Below wr.heap.size wr wx))
     case first =>
      by_cases heq : p.1 = y'.name
      ·have beq : (p.1.toList == y'.name.toList) = true := by rw [heq]; exact beq_self_eq_true _
       have hb2 : (p.2 != y'.n) = bad := by rw [← hbad];simp [heq];rfl
       clear heq hbad
       go_quiet (fail)
       rename_i nq;go_wp2_with fail
       go_meet
       exact ⟨by first | rfl | rw [hb2], xH (tkw.zI (Below.refl _ _) nq)⟩
      ·have beq := name_n9 heq;have hb2 : bad = false := by rw [← hbad]; simp [heq]
       subst hb2;clear heq hbad
       go_quiet (fail)
       rename_i nq;go_wp2_with fail
       go_meet
       exact ⟨rfl, xH (tkw.zI (Below.refl _ _) nq)⟩
     case rest =>
      obtain ⟨rfl, HBx⟩ := hcut;generalize wc = w6 at *;have HB6 := xH (HB.out.trans ((HBi.out.trans (HBx.out.mono HBi.out.size)).mono HB.out.size));have HBi6 := xH (HBi.out.trans (HBx.out.mono HBi.out.size));have x1 := trw.qf HBi6.out e1;have x8 := trw.qf HBi6.out e8;have k0 := trw.qf HBi6.out HP.out.1;clear r1 r5 r8 n0 n1 hbad;cases bad with
      | true =>
       have HOO := xH (show p.1 = y'.name ∧ p.2 ≠ y'.n from by simpa using HBAD.out);have HRR := xH (show C = ((33, y'.at_), l) from by rw [← HR.out, HTL.out];exact nameR_err (e := 33) (l' := l) (addR_33 (x := bare y') (show ¬ 60 < y'.n by have := HZO.out; omega) HNM.out (othL9_of HPM.out HOO.out.1 HOO.out.2)) (by decide))
       have HS2 := xH (show w6.heap[w.heap.size + 1]? = some (.cells #[.int .i64 0, .int .i64 0, .int .i64 0, .slice none 0 0, .bool false, .int .i64 0, .int .i64 0, .int .i64 0, .string ⟨#[]⟩, .int .i64 0, .int .i64 0, .slice none 0 0] 27 (0, 0)) from (HB6.out.block _ (by have := HF5.out.s; omega)).trans HF5.out.r);go_upto_region 15 with (fail)
       refine wp_region_held_drew (S := fun w' => w'.heap[b1]? = w6.heap[b1]?) (by kernel_rfl) rfl (fun hHeld => ?_);refine yT 0 ?_;simp only [xS];refine yT 1 ?_;simp only [xS];refine yT 2 ?_;simp only [xS];refine yT 3 ?_;simp only [xS];refine yT 4 ?_;simp only [xS];refine yF 5 (fun w' hS => (World.cell?_of_block (a := ⟨b1, o + i * 12 + 1, none⟩) hS).trans x1) ?_;simp only [xS];refine xD 6 rfl (fun K hK => ?_);refine qI rfl rfl _ _ rfl (w.heap.size + 1) rfl _ (lab 0 0) HS2.out rfl (qp (t := (lab 0 0, F.nil)) (rpw.zero_at w)) rfl ?_;have HSR := xH (show (w6.drew.setRow (w.heap.size + 1) (ndC (lab 0 0)).toArray).heap[b1]? = w6.heap[b1]? from tkw.setRow_other _ _ _ _ (by have := HB1.out; omega));refine hK.out _ _ HSR.out (fun hHeld => ?_);clear hK K;try simp only [xS]
       refine yT 7 ?_;simp only [xS];refine yT 8 ?_;simp only [xS];refine yT 9 ?_;simp only [xS];refine yT 10 ?_;simp only [xS];refine wpAnyH_done (by kernel_rfl) ?_ _;go_wp2_with fail
       refine xB (results_num rfl _ _ (w.heap.size + 1) (lab 0 0) rfl (setRow_heap _ _ _ _ _ _ HS2.out)) rfl ?_;exact ⟨rpw.qC (qi HF5.out.b (HB6.out.trans (Below.refl _ _).drew)) _ (by omega), .inl ⟨by rw [HRR.out]; show (33 : Int) ≠ 0; decide, by rw [HRR.out]; rfl⟩⟩
      | false =>
       have HO2 := xH (show othL9 (l.take (m + 1)) (bare y') = false from by unfold othL9;rw [take_any _ HPM.out, Bool.or_eq_false_iff];exact ⟨HOt.out, HBAD.out⟩)
       obtain ⟨c, hc⟩ : ∃ c : Bool, inL9 (l.take m) (bare y') = c := ⟨_, rfl⟩;rw [hc];obtain ⟨c2, hc2⟩ : ∃ c2 : Bool, (c || decide (p.1 = y'.name)) = c2 := ⟨_, rfl⟩;have HC2 := xH (show inL9 (l.take (m + 1)) (bare y') = c2 from by unfold inL9 at hc ⊢;rw [take_any _ HPM.out, hc, ← hc2];rfl)
       clear hc;cases c with
       | true =>
        have hc3 : c2 = true := by rw [← hc2]; rfl
        subst hc3;clear hc2;exact z147
       | false =>
        by_cases heq : p.1 = y'.name
        ·have beq : (p.1.toList == y'.name.toList) = true := by rw [heq]; exact beq_self_eq_true _
         have hc3 : c2 = true := by rw [← hc2]; simp [heq]
         exact z46
        ·have beq := name_n9 heq;have hc3 : c2 = false := by rw [← hc2]; simp [heq]
         exact z46
    ·have hml : m = l.length := by omega
     subst hml;have HOl := xH (show othL9 l (bare y') = false from by have := HOt.out; rw [List.take_length] at this; exact this);obtain ⟨c, hc⟩ : ∃ c : Bool, inL9 (l.take l.length) (bare y') = c := ⟨_, rfl⟩;rw [hc];rw [List.take_length] at hc;have HBn := xH (HB.out.trans (HBi.out.mono HB.out.size));have HOn := xH (tkw.jJ HO.out fun q hq => HBi.out.block q (own_below HO.out hq).2);have hd : decide (l.length < l.length) = false := by simp
     clear hlm;cases c with
     | true =>
      have HRN := xH (show nameR l ((topL (strip f)).drop (i + 1)) = C from by rw [← HR.out, HTL.out, nameR_go (addR_in (x := bare y') (show ¬ 60 < y'.n by have := HZO.out; omega) HNM.out HOl.out hc)]);clear hc;go_wp2_with fail
      go_roundw
      case rel => exact ⟨i + 1, l, by go_num, by omega, by omega, HOn, HZ, HBn, HRN⟩
      case measure => simp [intOf]; omega
     | false =>
      have HRN := xH (show nameR (l ++ [(y'.name, y'.n)]) ((topL (strip f)).drop (i + 1)) = C from by rw [← HR.out, HTL.out, nameR_go (addR_new (x := bare y') (show ¬ 60 < y'.n by have := HZO.out; omega) HNM.out HOl.out hc)]; rfl);clear hc;go_upto_region 18 with (fail)
      refine wp_region_held_drew (S := fun w' => w'.heap[b1]? = wr.heap[b1]?) (by kernel_rfl) rfl (fun hHeld => ?_);refine yT 0 ?_;simp only [xS];refine yT 1 ?_;simp only [xS];refine yT 2 ?_;simp only [xS];refine yT 3 ?_;simp only [xS];refine yT 4 ?_;simp only [xS];refine yF 5 (fun w' hS => (World.cell?_of_block (a := ⟨b1, o + i * 12 + 8, none⟩) hS).trans r8) ?_;simp only [xS];refine yT 6 ?_;simp only [xS];refine yT 7 ?_;simp only [xS];refine yT 8 ?_;simp only [xS];refine yT 9 ?_;simp only [xS];refine yF 10 (fun w' hS => (World.cell?_of_block (a := ⟨b1, o + i * 12 + 5, none⟩) hS).trans r5) ?_;simp only [xS];refine yT 11 ?_;simp only [xS];have HDD := xH (show Below w5.heap.size w5 wr.drew from HBn.out.trans ((Below.refl wr.heap.size wr).drew.mono HBn.out.size));have HOd := xH (show wr.drew.ownsRow w5.heap.size 67 2 (.slice na l.length nc) l.length (nmC l) from tkw.jJ HOn.out fun _ _ => rfl);refine xD 12 rfl (fun K hK => ?_);go_simp;have HX := xH (show (wr.drew.alloc (.cells #[.string y'.name, .int .i64 y'.n] 67)).heap[b1]? = wr.heap[b1]? from (heap_alloc_old _ _ (by have := HB1L.out; have := HDD.out.size; omega)).trans rfl);refine hK.out _ _ HX.out (fun hHeld => ?_);clear hK K;try simp only [xS]
      refine xD 13 rfl (fun K hK => ?_);refine held_app_nm rfl _ _ rfl (q := (y'.name, y'.n)) rfl HOd.out rfl rfl rfl (by have := HFL.out; omega) HDD.out.size ?_;intro v8 w8 h8 _ hb8;have HO8 := xH h8;have HB8 := xH (HDD.out.trans hb8);have HX8 := xH (show w8.heap[b1]? = wr.heap[b1]? from (hb8.block b1 HB1L.out).trans rfl);clear h8 hb8;refine hK.out _ _ HX8.out (fun hHeld => ?_);clear hK K;try simp only [xS]
      refine yT 14 ?_;simp only [xS];refine wpAnyH_done (by kernel_rfl) ?_ _;go_wp2_with fail
      go_roundw
      case rel => exact ⟨i + 1, l ++ [(y'.name, y'.n)], by go_num, by omega, by simp; omega, HO8, xH (fun e => by simp at e), HB8, HRN⟩
      case measure => simp [intOf]; omega
  ·have HE := xH (show nameR l [] = C from by rw [← HR.out, List.drop_eq_nil_of_le (by rw [topL_len, rpw.jm]; omega)])
   have hd : decide (i < f.len) = false := by simpa using hlt
   subst hnv;have HGY := xH ((HB.out.block B (Array.getElem?_eq_some_iff.1 HG5.out).1).trans HG5.out);have HFY := xH (HF5.out.below HB.out);have HNY := xH (qV HB.out HN5.out);have HOY := xH (gpw.own_base HO.out (show w.heap.size ≤ w5.heap.size by have := HF5.out.s; omega));clear hlt HG5 HN5;go_wp2_with (first
    | (refine ql rfl _ rfl B rfl y HGY.out ?_)
    | (refine qh rfl rfl _ _ rfl (w.heap.size + 1) rfl _ y HFY.out.r rfl HY.out rfl ?_))
   refine xB (results_num rfl _ _ (w.heap.size + 1) y rfl (setRow_heap _ _ _ _ _ _ HFY.out.r)) rfl ?_;refine ⟨rpw.qC HFY.out.b _ (by omega), .inr ⟨by rw [← HE.out]; rfl, y, j, _, rfl, nd_unN HNY.out, HT2.out, ?_, ?_⟩⟩
   ·rw [← HE.out];exact tkw.jJ HOY.out fun q hq => tkw.setRow_other _ _ _ _ (fun e => by have := (own_below HO.out hq).1; have := HF5.out.s; omega)
   ·rw [← HE.out];exact HZ.out
end gqw
end
section
namespace rtw
open sq
open Go Go.RowKit Go.Maps utfp utfw ucdp setp setw prp tkp rtp
open tkw (sg sg_bd vJ jM qK tkR qO qM vI)
theorem sub_ext {S : ByteArray} {p : Pt} (h : Pat S p) {a b : Nat} (hab : a ≤ b) (hb : b ≤ p.n) : S.extract a b = p.sub a b := by
 have hz : (S.extract a b).size = b - a := by rw [ByteArray.size_extract, ← h.n]; omega
 apply toList_inj;rw [Lib.toList_data, Lib.toList_data];apply List.ext_getElem
 ·rw [Array.length_toList, Array.length_toList];exact hz.trans (tkw.sub_size p a b).symm
 ·intro i h1 h2;have h3 : i < (p.sub a b).size := by rw [Array.length_toList] at h2; exact h2
  have h4 : i < (S.extract a b).size := by rw [Array.length_toList] at h1; exact h1
  have e1 := tkw.sub_at (jS h) h3;rw [Array.getElem_toList, Array.getElem_toList];have e2 : ((S.extract a b)[i]'h4) = S[a + i]'(by rw [hz] at h4; rw [h.n] at hb; omega) := ByteArray.getElem_extract h4;have e3 := gb h (a + i) (by rw [hz] at h4; rw [h.n] at hb; omega);rw [← e2, ← e1] at e3;exact UInt8.toNat_inj.1 (Int.ofNat_inj.1 e3)
def NameRel (w : World) (B : Nat) (S : ByteArray) (p : Pt) (a : Nat) (vi : Value) (wr : World) : Prop :=
 ∃ l : Nat, a + l ≤ S.size ∧ Hid (∀ i, i < l → a + i < p.n ∧ isWrd (p.g (a + i)) = true) ∧ vi = .int .i64 ((a + l : Nat) : Int) ∧ FR w B S p wr
theorem name_of {p : Pt} {a l : Nat} (hp : p.n ≤ 1000) (h : ∀ i, i < l → a + i < p.n ∧ isWrd (p.g (a + i)) = true) (hs : a + l = p.n ∨ isWrd (p.g (a + l)) = false) : p.name a = (a + l, decide (0 < l) && !isDig (p.g a) && decide (l ≤ 32)) := by
 have hl : l ≤ 1000 := by
  rcases l with _ | l
  ·omega
  ·have := (h l (by omega)).1; omega
 have hr : p.run isWrd 1000 a = a + l := run_stop h hs hl;unfold Pt.name;rw [hr, Nat.add_sub_cancel_left]
 congr 4
 simp
theorem zh {p : Pt} {a : Nat} (h : a ≤ p.n) : a ≤ (p.name a).1 ∧ (p.name a).1 ≤ p.n := ⟨(tkw.run_bd h).1, (tkw.run_bd h).2.1⟩
def NamB (p : Pt) (a : Nat) (w : World) (e : Ending) (w' : World) : Prop := e = .returned (.tuple #[.string (p.sub a (p.name a).1), .int .i64 ((p.name a).1 : Nat), .bool (p.name a).2]) ∧ Below w.heap.size w w'
theorem wrd_let {c : Int} (h : isLet c = true) : isWrd c = true := by simp [isWrd, h]
theorem wrd_dig {c : Int} (h : isDig c = true) : isWrd c = true := by simp [isWrd, h]
theorem wrd_us : isWrd 95 = true := by decide
theorem wrd_no {c : Int} (h1 : isLet c = false) (h2 : isDig c = false) (h3 : ¬ c = 95) : isWrd c = false := by simp [isWrd, h1, h2, h3]
theorem name_any (S : ByteArray) (p : Pt) (w : World) (hP : Pat S p) (a : Nat) (ha : a ≤ p.n) : Calls Try.prog 95 #[txV S p, .int .i64 a] w (NamB p a w) := by
 have hn := hP.n;have h2 := hP.le;have HP := xH hP;have HN := xH hn;clear hP;rw [hn] at ha;clear hn;unfold txV txC;go_enter Try.func95, Try.ntmps95;go_upto_region 1 with (fail)
 generalize hW : (w.alloc _) = W;have F0 := xH (zG (S := S) (p := p) hW);obtain ⟨B, hB⟩ : ∃ B, w.heap.size = B := ⟨_, rfl⟩;rw [hB] at F0 ⊢;clear hW hB;obtain ⟨c0, c1, c2, c3⟩ := F0.out.c;clear c0 c1 c2 c3;go_wp2_with fail
 go_loopw [1] (fun vi wr => NameRel w B S p a vi wr) (fun vi _ => S.size - (intOf vi).toNat)
 case atStart => exact ⟨0, ha, xH (fun i h => absurd h (Nat.not_lt_zero i)), rfl, F0.out⟩
 case round =>
  obtain ⟨l, hl, hd, rfl, hF⟩ := hrel;have F1 := xH hF;clear hF;obtain ⟨c0, c1, c2, c3⟩ := F1.out.c;have hgb := gb HP.out;by_cases hlt : a + l < S.size
  ·obtain ⟨b0, b1⟩ := jS HP.out (a + l);go_wp2_with fail
   refine (letter_any _ _ b0 b1).mono ?_;rintro e w1 ⟨rfl, rfl⟩;cases hlet : isLet (p.g (a + l)) with
   | true =>
    go_wp2_with fail
    refine ⟨⟨l + 1, by omega, xH (fun i hi => by
     by_cases e : i = l
     ·subst e; exact ⟨by rw [HN.out]; exact hlt, wrd_let hlet⟩
     ·exact hd.out i (by omega)), rfl, F1.out⟩, by simp only [intOf]; omega⟩
   | false =>
    go_wp2_with fail
    refine (digit_any _ _ b0 b1).mono ?_;rintro e w1 ⟨rfl, rfl⟩;cases hdg : isDig (p.g (a + l)) with
    | true =>
     go_wp2_with fail
     refine ⟨⟨l + 1, by omega, xH (fun i hi => by
      by_cases e : i = l
      ·subst e; exact ⟨by rw [HN.out]; exact hlt, wrd_dig hdg⟩
      ·exact hd.out i (by omega)), rfl, F1.out⟩, by simp only [intOf]; omega⟩
    | false =>
     by_cases hus : p.g (a + l) = 95
     ·have hb : (p.g (a + l) == 95) = true := by simp [hus]
      go_wp2_with fail
      refine ⟨⟨l + 1, by omega, xH (fun i hi => by
       by_cases e : i = l
       ·subst e; exact ⟨by rw [HN.out]; exact hlt, by rw [hus]; exact wrd_us⟩
       ·exact hd.out i (by omega)), rfl, F1.out⟩, by simp only [intOf]; omega⟩
     ·have hb : (p.g (a + l) == 95) = false := by simp [hus]
      have HL := xH HN.out;have HNM := xH (name_of (l := l) (by rw [HN.out]; exact h2) hd.out (Or.inr (wrd_no hlet hdg hus)));exact z9
  ·have HL := xH HN.out;have HNM := xH (name_of (l := l) (by rw [HN.out]; exact h2) hd.out (Or.inl (by rw [HN.out]; omega)));exact z9
theorem FG.low {w W W' : World} {B : Nat} {S : ByteArray} {p : Pt} (h : FG w B S p W) (hb : Below (B + 2) W W') : FG w B S p W' :=
 ⟨⟨h.hB, h.below.trans (hb.mono (by omega)), h.x.below hb (by omega)⟩, by obtain ⟨old, h1, h2⟩ := h.g; exact ⟨old, (hb.block _ (by omega)).trans h1, h2⟩⟩
theorem FG.sz {w W : World} {B : Nat} {S : ByteArray} {p : Pt} (h : FG w B S p W) : B + 2 ≤ W.heap.size := by obtain ⟨old, h1, _⟩ := h.g;have := zi h1;omega
theorem quant_any (S : ByteArray) (p : Pt) (w : World) (hP : Pat S p) (i b : Nat) (n m : Int) (hb : b ≤ p.n) : Calls Try.prog 68 #[txV S p, .int .i64 i, .int .i64 b, .int .i64 n, .int .i64 m] w (GotB w (quan p i b n m)) := by
 have hn := hP.n;have h2 := hP.le;have HP := xH hP;have HN := xH hn;clear hP;rw [hn] at hb;clear hn;have hi3 : b ≤ 1000 := by omega
 have HBb := xH hb;clear hb;unfold txV txC;go_enter Try.func68, Try.ntmps68;go_upto_region 1 with (fail)
 generalize hW : (w.alloc _).alloc _ = W;have F0 := xH (fg_start (S := S) (p := p) hW);obtain ⟨B, hB⟩ : ∃ B, w.heap.size = B := ⟨_, rfl⟩;rw [hB] at F0 ⊢;clear hW hB;obtain ⟨c0, c1, c2, c3⟩ := F0.out.c;go_upto_region 2 with (fail)
 generalize hW2 : World.alloc _ _ = W2;have F1 := xH (F0.out.low (by rw [← hW2]; exact (Below.refl _ _).alloc F0.out.sz _) : FG w B S p W2);obtain ⟨T, hT⟩ : ∃ T, W.heap.size = T := ⟨_, rfl⟩;have HTB := xH (show B + 2 ≤ T by rw [← hT]; exact F0.out.sz);have HT1 : Hid (W2.heap[T]? = some (.cells (tkR (.slice none 0 0) { kind := 9, n := n, m := m }) 90 (0, 0))) := xH (by rw [← hW2, ← hT]; exact heap_alloc_new _ _);rw [hT];clear hW2 hT c0 c1 c2 c3;obtain ⟨c0, c1, c2, c3⟩ := F1.out.c;go_wp2_with fail
 refine xM (qG S p _ HP.out b (by omega) [63] ⟨#[63]⟩ rfl (by decide) (Or.inl (by rw [HN.out]; exact HBb.out))) ?_;rintro e w2 ⟨rfl, hb⟩;have F2 := xH (F1.out.step hb);have HT2 := xH ((hb.block T (zi HT1.out)).trans HT1.out);clear hb c0 c1 c2 c3;obtain ⟨c0, c1, c2, c3⟩ := F2.out.c;cases h63 : p.has [63] b with
 | true =>
  have HR := xH (show quan p i b n m = gtok { kind := 9, n := n, m := m, mode := 1 } i (b + 1) by unfold quan Pt.mode; simp only [h63]; rfl);have ct : w2.cell? ⟨T, 8, none⟩ = some (.int .i64 0) := by simp [World.cell?, HT2.out, tkR]
  have cf : w2.frozen? ⟨T, 8, none⟩ = false := by simp [World.frozen?, HT2.out]
  have HS : Hid ((w2.setCell ⟨T, 8, none⟩ (.int .i64 1)).heap[T]? = some (.cells (tkR (.slice none 0 0) { kind := 9, n := n, m := m, mode := 1 }) 90 (0, 0))) := xH (tkw.heap_set HT2.out);have F3 := xH (F2.out.low ((Below.refl _ w2).setCell (p := ⟨T, 8, none⟩) HTB.out (.int .i64 1)));clear c0 c1 c2 c3;obtain ⟨c0, c1, c2, c3⟩ := F3.out.c;go_wp2_with (refine tkw.qX rfl _ rfl T rfl _ HS.out rfl ?_)
  refine xM (qF (.slice none 0 0) ({ kind := 9, n := n, m := m, mode := 1 }) (i) (b + 1) _ (k := B) (qm _ _)) ?_;exact z66
 | false =>
  go_wp2_with fail
  refine xM (qG S p _ HP.out b (by omega) [43] ⟨#[43]⟩ rfl (by decide) (Or.inl (by rw [HN.out]; exact HBb.out))) ?_;rintro e w3 ⟨rfl, hb⟩;have F3 := xH (F2.out.step hb);have HT3 := xH ((hb.block T (zi HT2.out)).trans HT2.out);clear hb c0 c1 c2 c3;obtain ⟨c0, c1, c2, c3⟩ := F3.out.c;cases h43 : p.has [43] b with
  | true =>
   have HR := xH (show quan p i b n m = gtok { kind := 9, n := n, m := m, mode := 2 } i (b + 1) by unfold quan Pt.mode; simp only [h63, h43]; rfl);have ct : w3.cell? ⟨T, 8, none⟩ = some (.int .i64 0) := by simp [World.cell?, HT3.out, tkR]
   have cf : w3.frozen? ⟨T, 8, none⟩ = false := by simp [World.frozen?, HT3.out]
   have HS : Hid ((w3.setCell ⟨T, 8, none⟩ (.int .i64 2)).heap[T]? = some (.cells (tkR (.slice none 0 0) { kind := 9, n := n, m := m, mode := 2 }) 90 (0, 0))) := xH (tkw.heap_set HT3.out);have F4 := xH (F3.out.low ((Below.refl _ w3).setCell (p := ⟨T, 8, none⟩) HTB.out (.int .i64 2)));clear c0 c1 c2 c3;obtain ⟨c0, c1, c2, c3⟩ := F4.out.c;go_wp2_with (refine tkw.qX rfl _ rfl T rfl _ HS.out rfl ?_)
   refine xM (qF (.slice none 0 0) ({ kind := 9, n := n, m := m, mode := 2 }) (i) (b + 1) _ (k := B) (qm _ _)) ?_;exact z67
  | false =>
   have HR := xH (show quan p i b n m = gtok { kind := 9, n := n, m := m } i b by unfold quan Pt.mode; simp only [h63, h43]; rfl);go_wp2_with (refine tkw.qX rfl _ rfl T rfl _ HT3.out rfl ?_)
   refine xM (qF (.slice none 0 0) ({ kind := 9, n := n, m := m }) (i) (b) _ (k := B) (qm _ _)) ?_;exact z66
theorem run_max {p : Pt} {fits : Int → Bool} : ∀ {l k a : Nat}, (∀ i, i < l → a + i < p.n ∧ fits (p.g (a + i)) = true) → (l = k ∨ a + l = p.n ∨ fits (p.g (a + l)) = false) → l ≤ k → p.run fits k a = a + l
 | 0, k, a, h, hs, hl => by
  rcases hs with hs | hs
  ·subst hs; rfl
  ·exact run_stop h hs hl
 | l + 1, k, a, h1, h2, h3 => by obtain ⟨k, rfl⟩ : ∃ q, k = q + 1 := ⟨k - 1, by omega⟩;have h0 := h1 0 (by omega);unfold Pt.run;rw [if_pos (by simp only [Bool.and_eq_true, decide_eq_true_eq]; exact ⟨h0.1, h0.2⟩)];rw [run_max (l := l) (k := k) (a := a + 1) (fun i hi => by have := h1 (i + 1) (by omega); rwa [show a + 1 + i = a + (i + 1) by omega]) (by rcases h2 with h2 | h2 | h2; exact Or.inl (by omega); exact Or.inr (Or.inl (by omega)); exact Or.inr (Or.inr (by rwa [show a + 1 + l = a + (l + 1) by omega]))) (by omega)];omega
theorem hexV_in {c : Int} (h : zn c = true) : 0 ≤ hexV c ∧ hexV c ≤ 15 := by
 simp only [zn, isDig, Bool.or_eq_true, Bool.and_eq_true, decide_eq_true_eq] at h;unfold hexV;split
 ·omega
 ·split <;> omega
theorem hexVal_in {p : Pt} {a : Nat} : ∀ {l : Nat}, (∀ i, i < l → a + i < p.n ∧ zn (p.g (a + i)) = true) → 0 ≤ p.hexVal a l ∧ p.hexVal a l + 1 ≤ 16 ^ l
 | 0, _ => by simp [Pt.hexVal]
 | l + 1, h => by
  have ih := hexVal_in (l := l) fun i hi => h i (by omega)
  have := hexV_in (h l (by omega)).2;unfold Pt.hexVal;rw [Int.pow_succ];omega
theorem hexVal_le {p : Pt} {a l : Nat} (h : ∀ i, i < l → a + i < p.n ∧ zn (p.g (a + i)) = true) (hl : l ≤ 7) : 0 ≤ p.hexVal a l ∧ p.hexVal a l ≤ 268435455 := by
 have h1 := hexVal_in h;have h2 : (16 : Int) ^ l ≤ 268435456 := by
  obtain h | h | h | h | h | h | h | h : l = 0 ∨ l = 1 ∨ l = 2 ∨ l = 3 ∨ l = 4 ∨ l = 5 ∨ l = 6 ∨ l = 7 := by omega
  all_goals (subst h; decide)
 omega
theorem hexN_pos {c : Int} (h : zn c = true) : hexN c = hexV c := by unfold hexN; rw [if_pos h]
theorem hexN_neg {c : Int} (h : zn c = false) : hexN c = -1 := by unfold hexN; rw [if_neg (by simp [h])]
def HxB (r : Option (Int × Nat)) (w : World) (e : Ending) (w' : World) : Prop := (∃ (v : Int) (j : Nat), e = .returned (.tuple #[.int .i64 v, .int .i64 j]) ∧ j ≤ 2000 ∧ (r = none ∧ v = -1 ∨ r = some (v, j))) ∧ Below w.heap.size w w'
def HexRel (w : World) (B : Nat) (S : ByteArray) (p : Pt) (a m : Nat) (vn vi vk : Value) (wr : World) : Prop :=
 ∃ l : Nat, a + l ≤ S.size ∧ l ≤ m ∧ Hid (∀ i, i < l → a + i < p.n ∧ zn (p.g (a + i)) = true) ∧ vn = .int .i64 (p.hexVal a l) ∧ vi = .int .i64 ((a + l : Nat) : Int) ∧ vk = .int .i64 l ∧ FR w B S p wr
theorem hexd_of {p : Pt} {a l m : Nat} (h : ∀ i, i < l → a + i < p.n ∧ zn (p.g (a + i)) = true) (hs : l = m ∨ a + l = p.n ∨ zn (p.g (a + l)) = false) (hl : l ≤ m) : p.hexd m a = (p.hexVal a l, a + l) := by unfold Pt.hexd;rw [run_max h hs hl, Nat.add_sub_cancel_left]
theorem hexa_any (S : ByteArray) (p : Pt) (w : World) (hP : Pat S p) (i : Nat) (hi : i ≤ p.n) : Calls Try.prog 92 #[txV S p, .int .i64 i] w (HxB (hexz p i) w) := by
 have hn := hP.n;have h2 := hP.le;have HP := xH hP;have HN := xH hn;clear hP;rw [hn] at hi;clear hn;have hm1 := vH p;have hm2 := most_ge p;unfold txV txC;go_enter Try.func92, Try.ntmps92;go_upto_region 1 with (fail)
 generalize hW : (w.alloc _) = W;have F0 := xH (zG (S := S) (p := p) hW);obtain ⟨B, hB⟩ : ∃ B, w.heap.size = B := ⟨_, rfl⟩;rw [hB] at F0 ⊢;clear hW hB;obtain ⟨c0, c1, c2, c3⟩ := F0.out.c;go_wp2_with fail
 refine xM (qG S p _ HP.out (i) (by omega) [123] ⟨#[123]⟩ rfl (by decide) (Or.inl (by rw [HN.out]; exact hi))) ?_;rintro e w1 ⟨rfl, hb⟩;have F1 := xH (F0.out.step hb);clear hb c0 c1 c2 c3;obtain ⟨c0, c1, c2, c3⟩ := F1.out.c;cases h123 : p.has [123] i with
 | true =>
  have hin := qR HP.out h123;rw [HN.out] at hin;simp only [List.length_nil, Nat.zero_add] at hin;go_wp2_with fail
  go_loopw [6, 7] (fun vn vi wr => HexRel w B S p (i + 1) 7 vn vi (.int .i64 (intOf vi - (i + 1))) wr) (fun _ vi _ => S.size - (intOf vi).toNat)
  case atStart => exact ⟨0, by omega, by omega, xH (fun j h => absurd h (Nat.not_lt_zero j)), rfl, rfl, by simp [intOf], F1.out⟩
  case round =>
   obtain ⟨l, hl, hl7, hd, rfl, rfl, _, hF⟩ := hrel;have F2 := xH hF;clear hF;obtain ⟨c0, c1, c2, c3⟩ := F2.out.c;have hgb := gb HP.out;obtain ⟨hv0, hv1⟩ := hexVal_le hd.out (by omega);generalize hVV : p.hexVal (i + 1) l = V at *;have HVV := xH hVV;clear hVV;by_cases hlt : i + 1 + l < S.size
   ·obtain ⟨b0, b1⟩ := jS HP.out (i + 1 + l);go_wp2_with fail
    refine (hex_any _ _ b0 b1).mono ?_;rintro e w1 ⟨rfl, rfl⟩;cases hx : zn (p.g (i + 1 + l)) with
    | true =>
     by_cases l7 : l = 7
     ·have HD := xH (hexd_of (m := 7) hd.out (Or.inl l7) hl7);have HX := xH (show hexz p i = none by unfold hexz; rw [if_pos h123, if_pos]; rw [HD.out]; simp only; right; left; omega);have hnn := hexN_pos hx;obtain ⟨x0, x1⟩ := hexV_in hx;have hl0 : ¬ (l : Int) < 7 := by omega
      clear l7;rw [hnn];go_wp2_with fail
      go_ret2
      exact ⟨⟨-1, _, rfl, by omega, Or.inl ⟨HX.out, rfl⟩⟩, F2.out.bel⟩
     ·have hl0 : (l : Int) < 7 := by omega
      have h15 := hexV_in hx;obtain ⟨x0, x1⟩ := h15;have hnn := hexN_pos hx;have hge : (0 : Int) ≤ hexV (p.g (i + 1 + l)) := x0;rw [hnn];go_wp2_with fail
      refine (hex_any _ _ b0 b1).mono ?_;rintro e w2 ⟨rfl, rfl⟩;rw [hnn];go_wp2_with fail
      refine ⟨⟨l + 1, by omega, by omega, xH (fun j hj => by
       by_cases e : j = l
       ·subst e; exact ⟨by rw [HN.out]; exact hlt, hx⟩
       ·exact hd.out j (by omega)), ?_, ?_, ?_, F2.out⟩, by simp only [intOf]; omega⟩
      ·rw [show p.hexVal (i + 1) (l + 1) = p.hexVal (i + 1) l * 16 + hexV (p.g (i + 1 + l)) from rfl, HVV.out]
      ·congr 1
       try omega
      ·simp only [intOf]
       congr 1
       omega
    | false =>
     have hnn := hexN_neg hx;rw [hnn];have HD := xH (hexd_of (m := 7) hd.out (Or.inr (Or.inr hx)) hl7);exact z4
   ·have HD := xH (hexd_of (m := 7) hd.out (Or.inr (Or.inl (by rw [HN.out]; omega))) hl7);exact z4
 | false =>
  go_wp2_with fail
  go_loopw [1, 6, 8] (fun vi vn vk wr => HexRel w B S p i 2 vn vi vk wr) (fun vi _ _ _ => S.size - (intOf vi).toNat)
  case atStart => exact ⟨0, by omega, by omega, xH (fun j h => absurd h (Nat.not_lt_zero j)), rfl, rfl, rfl, F1.out⟩
  case round =>
   obtain ⟨l, hl, hl7, hd, rfl, rfl, rfl, hF⟩ := hrel;have F2 := xH hF;clear hF;obtain ⟨c0, c1, c2, c3⟩ := F2.out.c;have hgb := gb HP.out;obtain ⟨hv0, hv1⟩ := hexVal_le hd.out (by omega);generalize hVV : p.hexVal (i) l = V at *;have HVV := xH hVV;clear hVV;by_cases h2l : l = 2
   ·have HD := xH (hexd_of (m := 2) hd.out (Or.inl h2l) hl7);rw [HVV.out] at HD;have HR := xH (show hexz p i = hexC p (V, i + l) by unfold hexz; rw [if_neg (by simp [h123]), HD.out]);have hl2 : ¬ (l : Int) < 2 := by omega
    clear h2l;exact z11
   ·have hl2 : (l : Int) < 2 := by omega
    by_cases hlt : i + l < S.size
    ·obtain ⟨b0, b1⟩ := jS HP.out (i + l);go_wp2_with fail
     refine (hex_any _ _ b0 b1).mono ?_;rintro e w1 ⟨rfl, rfl⟩;cases hx : zn (p.g (i + l)) with
     | true =>
      have h15 := hexV_in hx;obtain ⟨x0, x1⟩ := h15;have hnn := hexN_pos hx;have hge : (0 : Int) ≤ hexV (p.g (i + l)) := x0;rw [hnn];go_wp2_with fail
      refine (hex_any _ _ b0 b1).mono ?_;rintro e w2 ⟨rfl, rfl⟩;rw [hnn];go_wp2_with fail
      refine ⟨⟨l + 1, by omega, by omega, xH (fun j hj => by
       by_cases e : j = l
       ·subst e; exact ⟨by rw [HN.out]; exact hlt, hx⟩
       ·exact hd.out j (by omega)), ?_, ?_, rfl, F2.out⟩, by simp only [intOf]; omega⟩
      ·rw [show p.hexVal (i) (l + 1) = p.hexVal (i) l * 16 + hexV (p.g (i + l)) from rfl, HVV.out]
      ·congr 1
       try omega
     | false =>
      have hnn := hexN_neg hx;have HD := xH (hexd_of (m := 2) hd.out (Or.inr (Or.inr hx)) hl7);rw [HVV.out] at HD;have HR := xH (show hexz p i = hexC p (V, i + l) by unfold hexz; rw [if_neg (by simp [h123]), HD.out]);rw [hnn];exact z11
    ·have HD := xH (hexd_of (m := 2) hd.out (Or.inr (Or.inl (by rw [HN.out]; omega))) hl7);rw [HVV.out] at HD;have HR := xH (show hexz p i = hexC p (V, i + l) by unfold hexz; rw [if_neg (by simp [h123]), HD.out]);exact z11
end rtw
end
end Go.Proofs.Ytdgfclbajjjcgaa
