/- T -/
import Derived.Carry
import Derived.Deep.DeepHandedRow
import Derived.KernelRfl
import Derived.Lib.LaidTab
import Derived.Lib.SlBytesConst
import Derived.SizedLaws
import Derived.Stop.LaidErr
import Derived.Test.YtnpcombfgdbhkaaBGm27
set_option maxHeartbeats 16000000
set_option maxRecDepth 1000000
section
namespace Go.Proofs.Ytnpcombfgdbhkaa.gpw
open sq
open Go.Sort Go Go.RowKit Go.Maps setp setw tkp trp trw rpp gpp sq prw
open rpw (fC jP FSub jQ jd own_below qp vW qh qA run_store_nd)
theorem zt : ∀ f : F, (strip f).size = f.size
 | .nil => rfl
 | .cons _ k r => by rw [strip, F.size, zt k, zt r, F.size]
theorem allNm_strip : ∀ {f : F}, AllNm (strip f) ↔ AllNm f
 | .nil => Iff.rfl
 | .cons x k r => by rw [strip];unfold AllNm;rw [allNm_strip (f := k), allNm_strip (f := r)]
theorem entL_strip (x : Lab) (s : St) : entL { x with sv := nil3, kv := nil3 } s = { entL x s with sv := nil3, kv := nil3 } := by unfold entL;split <;> rfl
theorem numF_strip : ∀ (f : F) (rs : Bool) (bef lg : Int) (s : St), numF rs bef (strip f) lg s = ((numF rs bef f lg s).1, strip (numF rs bef f lg s).2.1, (numF rs bef f lg s).2.2)
 | .nil, _, _, _, _ => rfl
 | .cons x k r, rs, bef, lg, s => by
  rw [strip, numF, numF];simp only;generalize ((if rs = true then bef else s.1, s.2) : St) = s0;have he : entS { x with sv := nil3, kv := nil3 } s0 = entS x s0 := rfl;rw [he, entL_strip, numF_strip k];generalize entS x s0 = e;by_cases k1 : e.1 ≠ 0
  ·rw [if_pos k1, if_pos k1];rfl
  ·rw [if_neg k1, if_neg k1];simp only;generalize numF (decide (x.kind = 16)) e.2.1 k e.2.1 e.2 = q;by_cases k2 : q.1.1 ≠ 0
   ·rw [if_pos k2, if_pos k2];rfl
   ·rw [if_neg k2, if_neg k2, numF_strip r];rfl
theorem numN_strip (x : Lab) (k : F) (s : St) : numN { x with sv := nil3, kv := nil3 } (strip k) s = ((numN x k s).1, ({ (numN x k s).2.1.1 with sv := nil3, kv := nil3 }, strip (numN x k s).2.1.2), (numN x k s).2.2) := by
 unfold numN;simp only;have he : entS { x with sv := nil3, kv := nil3 } s = entS x s := rfl;rw [he, entL_strip, numF_strip k];generalize entS x s = e;by_cases k1 : e.1 ≠ 0
 ·rw [if_pos k1, if_pos k1]
 ·rw [if_neg k1, if_neg k1];simp only;generalize numF (decide (x.kind = 16)) e.2.1 k e.2.1 e.2 = q;by_cases k2 : q.1.1 ≠ 0
  ·rw [if_pos k2, if_pos k2]
  ·rw [if_neg k2, if_neg k2]
theorem numN_same {x y : Lab} {k j : F} (h : strip (F.one y j) = strip (F.one x k)) (s : St) : (numN y j s).1 = (numN x k s).1 ∧ (numN y j s).2.2 = (numN x k s).2.2 ∧ strip (F.one (numN y j s).2.1.1 (numN y j s).2.1.2) = strip (F.one (numN x k s).2.1.1 (numN x k s).2.1.2) := by
 have h1 := numN_strip x k s;have h2 := numN_strip y j s;have e1 : ({ y with sv := nil3, kv := nil3 } : Lab) = { x with sv := nil3, kv := nil3 } ∧ strip j = strip k := by simp only [F.one, strip, F.cons.injEq, and_true] at h;exact h
 rw [e1.1, e1.2, h1] at h2;simp only [Prod.mk.injEq] at h2;obtain ⟨a, ⟨b, c⟩, d⟩ := h2;refine ⟨a.symm, d.symm, ?_⟩;show F.cons _ _ _ = F.cons _ _ _;rw [b, c]
def NumB (x : Lab) (k : F) (w : World) (e : Ending) (w' : World) : Prop :=
 Below w.heap.size w w' ∧ (((qH (x, k)).1.1 ≠ 0 ∧ e = .returned (.tuple #[ndV (lab 0 0), .int .i64 0, .slice none 0 0, .int .i64 (qH (x, k)).1.1, .int .i64 (qH (x, k)).1.2])) ∨
  ((qH (x, k)).1.1 = 0 ∧ ∃ y j v, e = .returned (.tuple #[ndV y, .int .i64 (qH (x, k)).2.2.1, v, .int .i64 0, .int .i64 0]) ∧ NdI w' y j w.heap.size w'.heap.size ∧ strip (F.one y j) = strip (F.one (qH (x, k)).2.1.1 (qH (x, k)).2.1.2) ∧
   w'.ownsRow w.heap.size 45 2 v (qH (x, k)).2.2.2.length (nmC (qH (x, k)).2.2.2) ∧ ((qH (x, k)).2.2.2 = [] → v = .slice none 0 0)))
theorem held_store_nv {o : Oper} {a : Act} {W : World} {K : Act → World → Prop} {Q : Exit → Act → World → Prop} {ys : Nat → Option Bool} (hgd : o.guard = none) (hd : o.dst = none) (x y : Operand) (ho : o.op = .store 27 x y)
 (g : Nat) (hx : a.eval x = .pointer (some ⟨g, 0, none⟩)) (old : Array Value) (l : Lab) (hg : W.heap[g]? = some (.cells old 27 (0, 0))) (hs : old.size = 12) (h1 : ∀ u ∈ ndC l, u.oneCell' = true) (hy : a.eval y = ndV l)
 (h : K a (W.setRow g (ndC l).toArray)) : if Region.wanted o ys = true then Oper.wp Try.prog o a W K Q else K (a.put o.dst undef) W := by
 rw [if_pos (by unfold Region.wanted; rw [hgd])];unfold Oper.wp execOp;simp only [ho, hx, hy, Instr.storeAt, Instr.sureAddr, Sem.run_bind, Sem.run_pure, Result.andThen_ok, rpw.run_store_nd W g old l hg hs h1];simpa [Oper.upon, hd, Act.put] using h
theorem ent_nd (x : Lab) (s : St) : entA (ndC x).toArray 0 x s = (ndC (entL x s)).toArray := by unfold entA entL;split <;> rfl
theorem own_base {w : World} {b b2 : Nat} {e : TypeId} {z n : Nat} {v : Value} {xs : List Value} (h : w.ownsRow b e z v n xs) (hb : b2 ≤ b) : w.ownsRow b2 e z v n xs := by
 refine ⟨h.1, ?_⟩;rcases h.2 with h2 | ⟨g, cap, cur, hv, hg, r⟩
 ·exact Or.inl h2
 ·exact Or.inr ⟨g, cap, cur, hv, Nat.le_trans hb hg, r⟩
theorem results_num {fn : Func} {p q r s t : Tmp} (h : fn.results = #[.cell p 27, .tmp q, .tmp r, .tmp s, .tmp t]) (tmps : Array Value) (w : World) (g : Nat) (l : Lab) (hp : tmps.getD p undef = .pointer (some ⟨g, 0, none⟩)) (hg : w.heap[g]? = some (.cells (ndC l).toArray 27 (0, 0))) :
 (results fn tmps).run Try.prog w = .ok (.tuple #[ndV l, tmps.getD q undef, tmps.getD r undef, tmps.getD s undef, tmps.getD t undef]) w := by
 have hp' : tmps[p]?.getD undef = .pointer (some ⟨g, 0, none⟩) := by simpa using hp
 simp [results, h, hp', asAddr, run_loadVar_row w g 27 27 (ndC l).toArray (0, 0) _ hg Try.underlying27 rfl (by rw [ndInfo]; rfl)];rfl
theorem vY (w : World) (x : Lab) (k : F) (hn : NdAt w (x, k)) (hc : CpOk (F.one x k)) (hm : AllNm (F.one x k)) (hz : k.size ≤ 1000000) : Calls Try.prog 10 #[ndV x] w (NumB x k w) := by
 have HM := xH hm;have HZ := xH hz;have e1 := World.size_alloc w (.cells (ndC x).toArray 27);have HP := xH (show ((w.alloc (.cells (ndC x).toArray 27)).alloc (.cells zC.toArray 27)).heap[w.heap.size]? = some (.cells (ndC x).toArray 27 (0, 0)) from (heap_alloc_old _ _ (by rw [e1]; omega)).trans (heap_alloc_new _ _));have HQ := xH (show ((w.alloc (.cells (ndC x).toArray 27)).alloc (.cells zC.toArray 27)).heap[w.heap.size + 1]? = some (.cells zC.toArray 27 (0, 0)) from e1 ▸ heap_alloc_new (w.alloc (.cells (ndC x).toArray 27)) (.cells zC.toArray 27));have HB := xH (trw.qi (trw.qg w (.cells (ndC x).toArray 27)) (trw.qg _ (.cells zC.toArray 27)));have HZ2 := xH (show ((w.alloc (.cells (ndC x).toArray 27)).alloc (.cells zC.toArray 27)).heap.size = w.heap.size + 2 by rw [World.size_alloc, e1]);have HCP := xH (copy_all (k.size + 1) ((w.alloc (.cells (ndC x).toArray 27)).alloc (.cells zC.toArray 27)) x k (Nat.lt_succ_self _) (trw.qY (fun _ _ h => trw.qf HB.out h) hn) hc);have HC1 := xH (show ∀ j u, (ndC x)[j]? = some u → ((w.alloc (.cells (ndC x).toArray 27)).alloc (.cells zC.toArray 27)).cell? ⟨w.heap.size, 0 + j, none⟩ = some u from fun j u hj => by rw [Nat.zero_add]; unfold World.cell?; rw [HP.out]; simpa using hj);clear hn hc hm hz e1;unfold ndC zC at HP HQ HB HZ2 HCP;unfold ndC zC at HC1;unfold ndV;go_enter Try.func10, Try.ntmps10;go_upto_region 1 with (fail)
 generalize (w.alloc _).alloc _ = w1 at *;go_wp2_with (first
  | (refine jv rfl _ rfl w.heap.size 0 rfl x HC1.out ?_)
  | (refine HCP.out.mono ?_; rintro e w2 ⟨y, j, rfl, hn, hs, hb⟩; have HN2 := xH hn; have HS2 := xH hs; have HB2 := xH hb; have HG2 := xH (heap_alloc_new w2 (.cells zC.toArray 27)); unfold zC at HG2; have HO2 := xH (qp (ndI_at hn)); clear hn hs hb)
  | (refine qh rfl rfl _ _ rfl w2.heap.size rfl _ y HG2.out rfl HO2.out rfl ?_))
 go_upto_region 2 with (fail)
 obtain ⟨T, hT⟩ : ∃ T, w2.heap.size = T := ⟨_, rfl⟩;have HT3 := xH (setRow_heap _ _ _ (ndC y).toArray _ _ HG2.out);have HO3 := xH (show ∀ i, i < w2.heap.size → ((w2.alloc (.cells zC.toArray 27)).setRow w2.heap.size (ndC y).toArray).heap[i]? = w2.heap[i]? from fun i hi => (tkw.setRow_other _ _ i _ (by omega)).trans (heap_alloc_old _ _ hi));have HB3 := xH (show Below w.heap.size w ((w2.alloc (.cells zC.toArray 27)).setRow w2.heap.size (ndC y).toArray) from (HB.out.trans (HB2.out.mono HB.out.size)).trans ⟨rfl, rfl, rfl, by rw [tkw.setRow_size, World.size_alloc]; omega, fun i hi => HO3.out i (by have := HB2.out.size; have := HZ2.out; omega)⟩);have HZ3 := xH (show ((w2.alloc (.cells zC.toArray 27)).setRow w2.heap.size (ndC y).toArray).heap.size = w2.heap.size + 1 by rw [tkw.setRow_size, World.size_alloc]);unfold zC at HO3 HB3 HZ3;clear HG2;generalize (w2.alloc _).setRow _ _ = w3 at *;have HN3 := xH (ndI_keep HN2.out fun i _ h2 => HO3.out i h2);rw [hT] at HT3 HZ3 HN3 ⊢;have HTT := xH hT;clear hT;have hmm : (Instr.makeMap 55 none).run Try.prog w3 = .ok (.map (some w3.heap.size)) (w3.alloc (.map #[] 0)) := rfl;obtain ⟨O, hO⟩ : ∃ O : Obj, O = .cells #[.int .i64 0, .slice none 0 0, .map (some w3.heap.size)] 57 := ⟨_, rfl⟩;have z4 := World.size_alloc w3 (.map #[] 0);have HST := xH (show StAt ((w3.alloc (.map #[] 0)).alloc O) (T + 1) (w3.heap.size + 1) w3.heap.size (.slice none 0 0) (0, []) from
  ⟨by have := heap_alloc_new (w3.alloc (.map #[] 0)) O; rw [z4] at this; rw [this, hO], by rw [HZ3.out]; omega, by rw [HZ3.out]; exact Nat.le_refl _, World.ownsRow_nil _ _ _ 2, fun _ => rfl, mapV_below (mapV_made w3) (trw.qg _ O)⟩)
 have HB5 := xH (trw.qi (trw.qg w3 (.map #[] 0)) (trw.qg _ O));have HZ5 := xH (show ((w3.alloc (.map #[] 0)).alloc O).heap.size = w3.heap.size + 2 by rw [World.size_alloc, z4]);subst hO;clear z4;go_wp2_with fail
 rw [hmm];go_upto_region 3 with (fail)
 generalize (w3.alloc (.map #[] 0)).alloc _ = w5 at *;clear hmm;have HAS := xH (assign_all (j.size + 1) w5 (T + 1) (w3.heap.size + 1) w3.heap.size T 0 w1.heap.size T (ndC y).toArray y j _ (0, []) (Nat.lt_succ_self _) ((HB5.out.block T (by rw [HZ3.out]; omega)).trans HT3.out) (fun i u hu => by simpa using hu) (Or.inr (Nat.le_refl _)) (Nat.lt_succ_self _) (Nat.le_succ _)
  (ndI_keep HN3.out fun i _ h2 => HB5.out.block i (by rw [HZ3.out]; omega)) HST.out (by rw [HZ5.out, HZ3.out]; omega) (Int.le_refl _) (by decide) (by
   have h1 : j.size = k.size := by have := congrArg F.size HS2.out;rw [zt, zt] at this;simp only [F.one, F.size] at this;omega
   have := HZ.out;simp only [List.length_nil];omega) (allNm_strip.1 (by rw [HS2.out]; exact allNm_strip.2 HM.out)))
 have HSM := xH (numN_same HS2.out (0, []));generalize hG : w3.heap.size + 1 = G at *;go_wp2_with fail
 refine HAS.out.mono ?_;rintro e w6 ⟨rfl, hch, hq⟩;rw [HSM.out.1] at hq ⊢;have HCH := xH hch;have HB6 := xH (show Below w.heap.size w w6 from (HB3.out.trans (HB5.out.mono (by have := HB3.out.size; omega))).trans ⟨hch.os, hch.tape, hch.output, hch.size, fun i hi => hch.block i (by have := HB2.out.size; have := HZ2.out; have := HTT.out; omega) (by have := HB2.out.size; have := HZ2.out; have := HTT.out; omega) (Or.inl (by have := HZ2.out; omega))⟩);have HQ6 := xH (show w6.heap[w.heap.size + 1]? = some (.cells zC.toArray 27 (0, 0)) from (hch.block _ (by have := HB2.out.size; have := HZ2.out; have := HTT.out; omega) (by have := HB2.out.size; have := HZ2.out; have := HTT.out; omega) (Or.inl (by have := HZ2.out; omega))).trans ((HB5.out.block _ (by have := HB2.out.size; have := HZ2.out; have := HTT.out; have := HZ3.out; omega)).trans ((HO3.out _ (by have := HB2.out.size; have := HZ2.out; omega)).trans ((HB2.out.block _ (by have := HZ2.out; omega)).trans HQ.out))));clear hch HAS;by_cases h0 : (numN x k (0, [])).1.1 = 0
 ·obtain ⟨hT, ⟨v6, hst⟩, hnd⟩ := hq h0;have be : ((numN x k (0, [])).1.1 != 0) = false := by rw [h0]; rfl
  rw [ent_nd] at hT;rw [numN_lab] at hnd;have HT6 := xH hT;have HS6 := xH hst;have HN6 := xH hnd;have H0 := xH h0;have HSL := xH (numN_lab y j (0, []));clear hT hst hnd h0 hq;generalize numN y j (0, []) = q at *;generalize entL y (0, []) = y6 at *;obtain ⟨⟨q1, q2⟩, ⟨q3, q4⟩, q5, q6⟩ := q;have hsl := HSL.out;simp only at hsl;subst hsl;have HO6 := xH (qp (ndI_at HN6.out));have HNP := xH (show qH (x, k) = numN x k (0, []) from rfl);generalize numN x k (0, []) = r at *;obtain ⟨⟨r1, r2⟩, ⟨r3, r4⟩, r5, r6⟩ := r;have HR := xH HSM.out.2;simp only at HR;obtain ⟨hr1, hr2⟩ := HR.out;simp only [Prod.mk.injEq] at hr1;obtain ⟨rfl, rfl⟩ := hr1;have HSE := xH hr2;clear hr2 HSM HR HSL;simp only at be;go_upto_region 6 with (fail)
  refine wp_region_held_drew (S := fun w' => w'.heap[T]? = w6.heap[T]? ∧ w'.heap[G]? = w6.heap[G]?) (by kernel_rfl) ⟨rfl, rfl⟩ (fun hHeld => ?_);refine xT 0 rfl (ndV q3) ?_ ?_
  ·intro w' hSw;refine jT (x := .tmp 7) (b := T) (off := 0) (l := q3) ?_ ?_ (fun i u hu => by rw [Nat.zero_add]; unfold World.cell?; rw [hSw.1, HT6.out]; simpa using hu) <;> rfl
  simp only [xS];refine xT 1 rfl ?_ ?_ ?_;rotate_left
  ·intro w' hSw;go_simp;try rfl
  simp only [xS];refine xT 2 rfl ?_ ?_ ?_;rotate_left
  ·intro w' hSw;go_simp;try rfl
  simp only [xS];refine xT 3 rfl ?_ ?_ ?_;rotate_left
  ·intro w' hSw;go_simp;try rfl
  simp only [xS];refine xT 4 rfl ?_ ?_ ?_;rotate_left
  ·intro w' hSw;have g0 := (World.cell?_of_block (a := ⟨G, 0, none⟩) hSw.2).trans HS6.out.c.c0;go_simp;try rfl
  simp only [xS];refine xT 5 rfl ?_ ?_ ?_;rotate_left
  ·intro w' hSw;go_simp;try rfl
  simp only [xS];refine xT 6 rfl ?_ ?_ ?_;rotate_left
  ·intro w' hSw;go_simp;try rfl
  simp only [xS];refine xT 7 rfl ?_ ?_ ?_;rotate_left
  ·intro w' hSw;go_simp;try rfl
  simp only [xS];refine xT 8 rfl ?_ ?_ ?_;rotate_left
  ·intro w' hSw;have g1 := (World.cell?_of_block (a := ⟨G, 1, none⟩) hSw.2).trans HS6.out.c.c1;go_simp;try rfl
  simp only [xS];refine xD 9 rfl (fun K hK => ?_);refine held_store_nv rfl rfl _ _ rfl (w.heap.size + 1) rfl _ q3 HQ6.out rfl HO6.out rfl ?_;have HXT := xH (show ∀ i, i ≠ w.heap.size + 1 → (w6.drew.setRow (w.heap.size + 1) (ndC q3).toArray).heap[i]? = w6.heap[i]? from fun i hi => tkw.setRow_other _ _ i _ hi);have HXN := xH (setRow_heap w6.drew (w.heap.size + 1) _ (ndC q3).toArray _ _ HQ6.out);have HXZ := xH (show (w6.drew.setRow (w.heap.size + 1) (ndC q3).toArray).heap.size = w6.heap.size from tkw.setRow_size _ _ _);have HXB := xH (show Below w.heap.size w (w6.drew.setRow (w.heap.size + 1) (ndC q3).toArray) from HB6.out.trans ⟨rfl, rfl, rfl, by rw [HXZ.out]; exact Nat.le_refl _, fun i hi => HXT.out i (by omega)⟩);generalize w6.drew.setRow _ _ = w7 at *;refine hK.out _ _ ⟨HXT.out T (by have := HB2.out.size; have := HZ2.out; have := HTT.out; omega), HXT.out G (by have := HB2.out.size; have := HZ2.out; have := HTT.out; have := HZ3.out; omega)⟩ (fun hHeld => ?_);clear hK K;try simp only [xS]
  refine xT 10 rfl ?_ ?_ ?_;rotate_left
  ·intro w' hSw;go_simp;try rfl
  simp only [xS];refine xT 11 rfl ?_ ?_ ?_;rotate_left
  ·intro w' hSw;go_simp;try rfl
  simp only [xS];refine xT 12 rfl ?_ ?_ ?_;rotate_left
  ·intro w' hSw;go_simp;try rfl
  simp only [xS];refine xT 13 rfl ?_ ?_ ?_;rotate_left
  ·intro w' hSw;go_simp;try rfl
  simp only [xS];refine wpAnyH_done (by kernel_rfl) ?_ _;go_wp2_with fail
  refine bodyPost_ret (results_num rfl _ _ (w.heap.size + 1) q3 rfl HXN.out) rfl ?_;refine ⟨HXB.out, Or.inr ⟨?_, q3, q4, v6, ?_, ?_, ?_, ?_, ?_⟩⟩
  ·rw [HNP.out]; exact H0.out
  ·rw [HNP.out]; rfl
  ·have hz := HXZ.out;rw [hz];exact ndI_hi (ndI_lo (ndI_keep HN6.out fun i h1 h2 => HXT.out i (by have := HZ2.out; omega)) (by have := HZ2.out; omega)) (by have := HCH.out.size; have := HZ5.out; have := HZ3.out; omega)
  ·rw [HNP.out]; exact HSE.out
  ·rw [HNP.out];exact own_base (tkw.jJ HS6.out.row fun i hi => HXT.out i (by have := own_below HS6.out.row hi; have := HB2.out.size; have := HZ2.out; have := HTT.out; omega)) (by have := HB2.out.size; have := HZ2.out; have := HTT.out; omega)
  ·rw [HNP.out]; exact HS6.out.nil
 ·have be : ((numN x k (0, [])).1.1 != 0) = true := bne_iff_ne.2 h0;have H0 := xH h0;clear h0 hq;have HNP := xH (show qH (x, k) = numN x k (0, []) from rfl);generalize numN x k (0, []) = r at *;obtain ⟨⟨r1, r2⟩, r3⟩ := r;simp only at be;have HO0 : Hid (∀ u ∈ ndC (lab 0 0), u.oneCell' = true) := xH (fun u hu => by simp only [ndC, lab, nil3, List.mem_cons, List.not_mem_nil, or_false] at hu;rcases hu with rfl | rfl | rfl | rfl | rfl | rfl | rfl | rfl | rfl | rfl | rfl | rfl <;> rfl)
  go_wp2_with (refine qh rfl rfl _ _ rfl (w.heap.size + 1) rfl _ (lab 0 0) HQ6.out rfl HO0.out rfl ?_)
  refine bodyPost_ret (results_num rfl _ _ (w.heap.size + 1) (lab 0 0) rfl (setRow_heap _ _ _ _ _ _ HQ6.out)) rfl ?_;exact ⟨HB6.out.trans ⟨rfl, rfl, rfl, by rw [tkw.setRow_size]; exact Nat.le_refl _, fun i hi => tkw.setRow_other _ _ i _ (by omega)⟩, Or.inl ⟨by rw [HNP.out]; exact H0.out, by rw [HNP.out]; rfl⟩⟩
end Go.Proofs.Ytnpcombfgdbhkaa.gpw
end
section
namespace Go.Proofs.Ytnpcombfgdbhkaa.gpw
open sq
open Go.Sort Go Go.RowKit Go.Maps setp setw tkp trp trw rpp gpp sq prw
open rpw (fC jP FSub jQ jd own_below qp vW)
def hasL (nm : ByteArray) (n : Int) (x : Lab) : Bool := decide (x.kind = 14) && decide (x.name = nm) && decide (x.n = n)
def hasF (nm : ByteArray) (n : Int) : F → Bool
 | .nil => false
 | .cons x k r => hasL nm n x || hasF nm n k || hasF nm n r
def hasP (nm : ByteArray) (n : Int) (t : Nd) : Bool := hasL nm n t.1 || hasF nm n t.2
theorem name_n {a b : ByteArray} (h : ¬ a = b) : (a.toList == b.toList) = false := by simp only [beq_eq_false_iff_ne];intro e;rw [Lib.toList_data, Lib.toList_data] at e;obtain ⟨⟨a⟩⟩ := a;obtain ⟨⟨b⟩⟩ := b;simp only at e;exact h (by rw [e])
theorem has_all : ∀ (z : Nat) (w : World) (x : Lab) (k : F) (nm : ByteArray) (n : Int) (hz : k.size < z) (hn : NdAt w (x, k)), Calls Try.prog 17 #[ndV x, .agg #[.string nm, .int .i64 n]] w (BoolB (hasP nm n (x, k)) w) := by
 intro z;refine Nat.rec ?_ (fun z ih => ?_) z
 ·intro w x k nm n hz;exact absurd hz (Nat.not_lt_zero _)
 intro w x k nm n hz hn;have IH := xH (@ih);clear ih;have HN := xH hn;have HZ := xH hz;obtain ⟨ka, kq, hkv⟩ := kids_len hn.2.2;have hkl : k.len ≤ 9223372036854775807 := by obtain ⟨a, q, e, h1, h2, _⟩ := hn.2.2; exact Nat.le_trans h1 h2
 have HKV := xH hkv;have e1 := World.size_alloc w (.cells (ndC x).toArray 27);have HP := xH (show ((w.alloc (.cells (ndC x).toArray 27)).alloc (.cells #[.string nm, .int .i64 n] 45)).heap[w.heap.size]? = some (.cells (ndC x).toArray 27 (0, 0)) from (heap_alloc_old _ _ (by rw [e1]; omega)).trans (heap_alloc_new _ _));have HQ := xH (show ((w.alloc (.cells (ndC x).toArray 27)).alloc (.cells #[.string nm, .int .i64 n] 45)).heap[w.heap.size + 1]? = some (.cells #[.string nm, .int .i64 n] 45 (0, 0)) from e1 ▸ heap_alloc_new (w.alloc (.cells (ndC x).toArray 27)) (.cells #[.string nm, .int .i64 n] 45));have HB := xH (trw.qi (trw.qg w (.cells (ndC x).toArray 27)) (trw.qg _ (.cells #[.string nm, .int .i64 n] 45)));clear hn hz e1 hkv;unfold ndC at HP HQ HB;unfold ndV;go_enter Try.func17, Try.ntmps17;go_upto_region 1 with (fail)
 generalize (w.alloc _).alloc _ = w1 at *;have c0 : w1.cell? ⟨w.heap.size, 0, none⟩ = some (.int .i64 x.kind) := by unfold World.cell?; rw [HP.out]; rfl
 have c5 : w1.cell? ⟨w.heap.size, 5, none⟩ = some (.int .i64 x.n) := by unfold World.cell?; rw [HP.out]; rfl
 have c8 : w1.cell? ⟨w.heap.size, 8, none⟩ = some (.string x.name) := by unfold World.cell?; rw [HP.out]; rfl
 have q0 : w1.cell? ⟨w.heap.size + 1, 0, none⟩ = some (.string nm) := by unfold World.cell?; rw [HQ.out]; rfl
 have q1 : w1.cell? ⟨w.heap.size + 1, 1, none⟩ = some (.int .i64 n) := by unfold World.cell?; rw [HQ.out]; rfl
 go_cut [23] (fun v23 wx => Hid (v23 = .bool (hasL nm n x)) ∧ Hid (wx = w1))
 case first =>
  by_cases h14 : x.kind = 14
  ·have b14 : (x.kind == 14) = true := by simp [h14]
   by_cases hnm : x.name = nm
   ·have bnm : (x.name.toList == nm.toList) = true := by rw [hnm]; exact beq_self_eq_true _
    have HR := xH (show hasL nm n x = (x.n == n) by unfold hasL; simp [h14, hnm]; rfl);clear h14 hnm;go_wp2_with fail
    go_meet
    exact ⟨by rw [HR.out]; exact xH rfl, xH rfl⟩
   ·have bnm := name_n hnm;have HR := xH (show hasL nm n x = false by unfold hasL; simp [hnm]);clear h14 hnm;go_wp2_with fail
    go_meet
    exact ⟨by rw [HR.out]; exact xH rfl, xH rfl⟩
  ·have b14 : (x.kind == 14) = false := by simp [h14]
   have HR := xH (show hasL nm n x = false by unfold hasL; simp [h14]);clear h14;go_wp2_with fail
   go_meet
   exact ⟨by rw [HR.out]; exact xH rfl, xH rfl⟩
 case rest =>
  obtain ⟨hv, hw⟩ := hcut;obtain rfl := hw.out;have hv2 := hv.out;subst hv2;clear c0 c5 c8 hw hv;cases hL : hasL nm n x;case true =>
   have HR := xH (show hasP nm n (x, k) = true by unfold hasP; rw [hL]; rfl);clear hL;go_wp2_with fail
   go_ret
   exact ⟨by rw [HR.out]; rfl, HB.out⟩
  have HR := xH (show hasP nm n (x, k) = hasF nm n k by unfold hasP; rw [hL]; rfl);clear hL;go_wp2_with fail
  go_loopw [5] (fun v5 wr => ∃ i : Nat, v5 = .int .i64 i ∧ i ≤ k.len ∧ Hid (hasF nm n k = hasF nm n (k.drop i)) ∧ Hid (Below wc.heap.size wc wr)) (fun v5 _ => k.len - (intOf v5).toNat)
  case atStart => exact ⟨0, rfl, Nat.zero_le _, xH (by cases k <;> rfl), xH (Below.refl _ _)⟩
  case round =>
   obtain ⟨i, rfl, hi, HE, HBB⟩ := hrel;have c11 : wr.cell? ⟨w.heap.size, 11, none⟩ = some (.slice ka k.len kq) := trw.qf HBB.out (by unfold World.cell?; rw [HP.out]; show some x.kv = _; rw [HKV.out]);by_cases hlt : i < k.len
   ·obtain ⟨x', kk, r, hd⟩ := drop_lt hlt;obtain ⟨b, o, q, hv, _, _, _, hf⟩ := kid_at HN.out.2.2 hd;rw [HKV.out] at hv;cases hv;have HWR := xH (trw.qi HB.out HBB.out);have HFH := xH (trw.vO HWR.out (trw.fAt_head hf));have HCE := xH (show ∀ j u, (ndC x')[j]? = some u → wr.cell? ⟨b, o + i * 12 + j, none⟩ = some u from fun j u hj => trw.qf HWR.out (hf.1 j u hj));have HSZ := xH (show kk.size < z by have := size_lt hd; have := HZ.out; omega);have HD2 := xH (show hasF nm n (k.drop i) = (hasP nm n (x', kk) || hasF nm n (k.drop (i + 1))) from by rw [hd, drop_succ hd]; rfl);have HQ0 := xH (show wr.cell? ⟨w.heap.size + 1, 0, none⟩ = some (.string nm) from trw.qf HBB.out q0);have HQ1 := xH (show wr.cell? ⟨w.heap.size + 1, 1, none⟩ = some (.int .i64 n) from trw.qf HBB.out q1);have HC11 := xH c11;clear hd hf;have hkl2 : i < 9223372036854775807 := by omega
    go_upto_region 6 with (fail)
    refine wp_region_held_drew (S := fun w' => Below wr.heap.size wr w') (by kernel_rfl) (trw.qL wr) (fun hHeld => ?_);refine xT 0 rfl ?_ ?_ ?_;rotate_left
    ·intro w' hSw;go_simp;try rfl
    simp only [xS];refine xT 1 rfl ?_ ?_ ?_;rotate_left
    ·intro w' hSw;have d11 := trw.qf hSw HC11.out;go_simp;try rfl
    simp only [xS];refine xT 2 rfl ?_ ?_ ?_;rotate_left
    ·intro w' hSw;go_simp;try rfl
    simp only [xS];refine xT 3 rfl ?_ ?_ ?_;rotate_left
    ·intro w' hSw;go_simp;try rfl
    simp only [xS];refine xT 4 rfl (ndV x') ?_ ?_
    ·intro w' hSw;refine jT (x := .tmp 34) (b := b) (off := o + i * 12) (l := x') ?_ ?_ (fun j v hj => trw.qf hSw (HCE.out j v hj)) <;> rfl
    simp only [xS];refine xT 5 rfl ?_ ?_ ?_;rotate_left
    ·intro w' hSw;have e0 := trw.qf hSw HQ0.out;have e1 := trw.qf hSw HQ1.out;go_simp;try rfl
    simp only [xS];refine xD 6 rfl (fun K hK => ?_);go_simp;refine (IH.out _ x' kk nm n HSZ.out (trw.vO (trw.qL wr) HFH.out)).mono ?_;rintro e w5 ⟨rfl, hb⟩;have HB5 := xH (trw.qi (trw.qL wr) hb);clear hb;refine hK.out _ _ HB5.out (fun hHeld => ?_);clear hK K;try simp only [xS]
    refine xT 7 rfl ?_ ?_ ?_;rotate_left
    ·intro w' hSw;go_simp;try rfl
    simp only [xS];refine wpAnyH_done (by kernel_rfl) ?_ _;have HBN := xH (trw.qi HBB.out HB5.out);clear hHeld c11 HCE HFH;cases hp : hasP nm n (x', kk);case true =>
     have HRR := xH (show hasP nm n (x, k) = true by rw [HR.out, HE.out, HD2.out, hp]; rfl);clear hp;go_wp2_with fail
     go_ret
     exact ⟨by rw [HRR.out]; rfl, trw.qi HB.out HBN.out⟩
    have HEN := xH (show hasF nm n k = hasF nm n (k.drop (i + 1)) by rw [HE.out, HD2.out, hp]; rfl);clear hp;go_wp2_with fail
    go_roundw
    case rel => exact ⟨i + 1, by go_num, by omega, HEN, HBN⟩
    case measure => simp [intOf]; omega
   ·have HRR := xH (show hasP nm n (x, k) = false from by
     rw [HR.out, HE.out];cases hd : k.drop i with
     | nil => rfl
     | cons a b c =>
      have := drop_len k i;rw [hd] at this;simp only [F.len] at this;omega)
    have hd : decide (i < k.len) = false := by simpa using hlt
    clear hlt;go_wp2_with fail
    go_ret
    exact ⟨by rw [HRR.out]; rfl, trw.qi HB.out HBB.out⟩
end Go.Proofs.Ytnpcombfgdbhkaa.gpw
end
section
namespace Go.Proofs.Ytnpcombfgdbhkaa.gpw
open sq
open Go.Sort Go Go.RowKit Go.Maps setp setw tkp trp trw rpp gpp sq prw
open rpw (fC jP FSub jQ jd own_below qp vW qh qA)
open utfw (Sl at_ strOf)
open tkw (sg)
open rsw (flatP FlatB zH)
open rtp (rlexP)
open rsp (resP zU)
theorem cpOk_of : ∀ {f : F} {n : Nat}, NmS f → f.size ≤ 100000 → CpOk f
 | .nil, _, _, _ => trivial
 | .cons x k r, n, h, hs => by simp only [F.size] at hs;have := len_le k;exact ⟨h.1.2, by omega, cpOk_of (n := n) h.2.1 (by omega), cpOk_of (n := n) h.2.2 (by omega)⟩
theorem flat_ok {n : Nat} {g : Nat → Int} {o : Int} {t : F} (h : flatP (sg (strOf n g)) n o = some t) : NmS t ∧ t.size ≤ 100000 := by
 unfold flatP at h;split at h
 ·cases h
 ·rename_i T hT;have ht := rsw.rlex_ok hT;split at h
  ·cases h
  ·rename_i f hf;have hp := zU (fun t h => (ht.1 t h).1.s) hf;have hn := parse_nm (fun t h => (ht.1 t h).1.nm) hf;split at h
   ·cases h
   ·rename_i x k r;cases h;have hs := hp.2.1;simp only [F.size] at hs;have hz := res_sz x k o;exact ⟨nmS_res ⟨⟨hn.1, by have := hp.1.1; omega⟩, nmS_ok hp.1.2.2.1 hn.2.1, trivial⟩ o, by omega⟩
theorem zV {n : Nat} {g : Nat → Int} {o : Int} {t : F} (h : flatP (sg (strOf n g)) n o = some t) {y : Lab} {j : F} (hs : strip (F.one y j) = t) (w : World) (hn : NdAt w (y, j)) : Calls Try.prog 10 #[ndV y] w (NumB y j w) := by
 obtain ⟨h1, h2⟩ := flat_ok h;subst hs;have h3 : (F.one y j).size ≤ 100000 := by rw [← zt]; exact h2
 have h4 := nmS_strip.1 h1;refine vY w y j hn (cpOk_of (n := 0) h4 h3) (nmS_all h4) ?_;simp only [F.one, F.size] at h3;omega
theorem sl_lit (w : World) (t : TypeId) (fr : Nat × Nat) (l : List Int) (hl : ∀ x ∈ l, 0 ≤ x ∧ x ≤ 255) (hn : l.length ≤ 140737488355328) : Sl (w.alloc (.cells (l.map (Value.int .u8)).toArray t fr)) (.slice (some ⟨w.heap.size, 0, none⟩) l.length l.length) l.length (at_ l) := by
 refine ⟨fun i => ?_, hn, Or.inr ⟨w.heap.size, 0, l.length, rfl, ⟨Nat.le_refl _, by omega⟩, fun i hi => ?_⟩⟩
 ·unfold at_;by_cases hi : i < l.length
  ·have : l.getD i 0 ∈ l := by rw [show l.getD i 0 = l[i] by simp [List.getD, hi]];exact List.getElem_mem hi
   exact hl _ this
  ·rw [show l.getD i 0 = 0 by simp [List.getD, Nat.not_lt.1 hi]];omega
 ·rw [cell_of_row _ _ _ _ _ _ (heap_alloc_new w _)];simp [at_, List.getD, hi]
def pA : List Int := [40, 97, 41, 40, 63, 124, 40, 98, 41, 124, 40, 99, 41, 40, 100, 41, 41, 40, 101, 41]
def pB : List Int := [40, 63, 60, 110, 62, 97, 41, 40, 63, 60, 110, 62, 98, 41]
def third : F → Int
 | .cons _ _ (.cons _ _ (.cons x _ _)) => x.n
 | _ => 0
theorem zN : ∀ f : F, third (strip f) = third f
 | .nil => rfl
 | .cons _ _ .nil => rfl
 | .cons _ _ (.cons _ _ .nil) => rfl
 | .cons _ _ (.cons _ _ (.cons _ _ _)) => rfl
theorem awk_A : (match flatP (sg (strOf 20 (at_ pA))) 20 0 with
 | some (.cons x k .nil) => decide ((qH (x, k)).1.1 = 0) && decide ((qH (x, k)).2.2.1 = 4) && decide ((qH (x, k)).2.1.2.len = 3) && decide (third (qH (x, k)).2.1.2 = 4)
 | _ => false) = true := by decide +kernel
theorem awk_B : (match flatP (sg (strOf 14 (at_ pB))) 14 0 with
 | some (.cons x k .nil) => decide ((qH (x, k)).1 = (33, 7))
 | _ => false) = true := by decide +kernel
end Go.Proofs.Ytnpcombfgdbhkaa.gpw
end
section
namespace Go.Proofs.Ytnpcombfgdbhkaa.gpw
open sq
open Go.Sort Go Go.RowKit Go.Maps setp setw tkp trp trw rpp gpp sq prw
open rpw (fC jP FSub jQ jd own_below qp vW qh qA)
open utfw (Sl at_ strOf)
open tkw (sg)
open rsw (flatP FlatB zH)
open rtp (rlexP)
open rsp (resP zU)
theorem awk_a {y : Lab} {j : F} (h : flatP (sg (strOf 20 (at_ pA))) 20 0 = some (strip (F.one y j))) : (qH (y, j)).1.1 = 0 ∧ (qH (y, j)).2.2.1 = 4 ∧ (qH (y, j)).2.1.2.len = 3 ∧ third (qH (y, j)).2.1.2 = 4 := by have h1 := awk_A;rw [h] at h1;have hs := numN_strip y j (0, []);unfold qH at h1 ⊢;simp only [F.one, strip, hs, Bool.and_eq_true, decide_eq_true_eq] at h1;rw [rpw.jm, zN] at h1;exact ⟨h1.1.1.1, h1.1.1.2, h1.1.2, h1.2⟩
theorem awk_b {y : Lab} {j : F} (h : flatP (sg (strOf 14 (at_ pB))) 14 0 = some (strip (F.one y j))) : (qH (y, j)).1 = (33, 7) := by have h1 := awk_B;rw [h] at h1;have hs := numN_strip y j (0, []);unfold qH at h1 ⊢;simp only [F.one, strip, hs, decide_eq_true_eq] at h1;exact h1
theorem some_A : ∃ t, flatP (sg (strOf 20 (at_ pA))) 20 0 = some t := by
 have h := awk_A;cases e : flatP (sg (strOf 20 (at_ pA))) 20 0 with
 | none => rw [e] at h; cases h
 | some t => exact ⟨t, rfl⟩
theorem some_B : ∃ t, flatP (sg (strOf 14 (at_ pB))) 14 0 = some t := by
 have h := awk_B;cases e : flatP (sg (strOf 14 (at_ pB))) 14 0 with
 | none => rw [e] at h; cases h
 | some t => exact ⟨t, rfl⟩
theorem flat_lit (w : World) (l : List Int) (hl : ∀ x ∈ l, 0 ≤ x ∧ x ≤ 255) (hn : l.length ≤ 140737488355328) (o : Int) : Calls Try.prog 9 #[.slice (some ⟨w.heap.size, 0, none⟩) l.length l.length, .int .i64 o] (w.alloc (.cells (l.map (Value.int .u8)).toArray 5 (l.length, l.length + 1)))
 fun e w' => ∃ R, flatP (sg (strOf l.length (at_ l))) l.length o = R ∧ FlatB R w e w' := by
 refine (zH _ l.length (at_ l) o _ (sl_lit w 5 _ l hl hn)).mono ?_;intro e w' h;exact ⟨_, rfl, trw.qi (trw.qg w _) h.1, h.2⟩
theorem kids_row {w : World} {x : Lab} {k : F} {lo hi : Nat} (h : NdI w x k lo hi) : ∃ B, x.kv = .slice (some ⟨B, 0, none⟩) k.len k.len ∧ ∀ j u, (fC k)[j]? = some u → w.cell? ⟨B, j, none⟩ = some u := by obtain ⟨_, a, B, _, _, _, _, h6, h7, _⟩ := h;exact ⟨B, h6, fun j u hj => by unfold World.cell?; rw [h7]; simpa using hj⟩
theorem third_at : ∀ {f : F}, f.len = 3 → (fC f)[29]? = some (.int .i64 (third f))
 | .nil, h => by cases h
 | .cons _ _ .nil, h => by cases h
 | .cons _ _ (.cons _ _ .nil), h => by cases h
 | .cons _ _ (.cons _ _ (.cons _ _ _)), _ => rfl
theorem strip_third {f g : F} (h : strip f = strip g) : f.len = g.len ∧ third f = third g := by have h1 := congrArg F.len h;have h2 := congrArg third h;rw [rpw.jm, rpw.jm] at h1;rw [zN, zN] at h2;exact ⟨h1, h2⟩
structure Sto (w w2 : World) (y : Lab) : Prop where
 b : Below w.heap.size w w2
 c : ∀ j u, (ndC y)[j]? = some u → w2.cell? ⟨w.heap.size, 0 + j, none⟩ = some u
 z : w2.heap.size = w.heap.size + 1
theorem zO (w : World) (y : Lab) : Sto w ((w.alloc (.cells zC.toArray 27)).setRow w.heap.size (ndC y).toArray) y :=
 ⟨rpw.qC (trw.qg w _) _ (Nat.le_refl _), fun j u hj => by rw [Nat.zero_add];unfold World.cell?;rw [setRow_heap _ _ _ (ndC y).toArray _ _ (heap_alloc_new w (.cells zC.toArray 27))];simpa using hj, by rw [tkw.setRow_size, World.size_alloc]⟩
theorem awake_any (w : World) : Calls Try.prog 8 #[] w (BoolB true w) := by
 have L1 := xH (flat_lit w pA (by decide) (by decide) 0);have L2 := xH (fun w1 => flat_lit w1 pB (by decide) (by decide) 0);unfold pA at L1;unfold pB at L2;have kc := fun (w : World) (C : Array Value) (n c : Nat) => Lib.run_convert_bytes_const (P := Try.prog) w 22 5 C n c Try.underlying22 Try.underlying5
 go_enter Try.func8, Try.ntmps8;go_wp2_with fail
 refine L1.out.mono ?_;rintro e w1 ⟨R, hR, hb1, hf⟩;have hR2 : flatP (sg (strOf 20 (at_ pA))) 20 0 = R := hR;obtain ⟨t, ht⟩ := some_A;rw [ht] at hR2;subst hR2;obtain ⟨y, j, rfl, hn, hs⟩ := hf;have hA := awk_a (y := y) (j := j) (by rw [ht, hs]);have HN1 := xH (zV ht hs);have HB1 := xH hb1;have HND := xH hn;have HA := xH hA;have HO := xH (qp hn);have HG := xH (heap_alloc_new w1 (.cells zC.toArray 27));have HS := xH (zO w1 y);unfold zC at HG HS;clear hR hb1 hn hA ht hs L1;go_upto_region 2 with (refine qh rfl rfl _ _ rfl w1.heap.size rfl _ y HG.out rfl HO.out rfl ?_)
 generalize (w1.alloc _).setRow _ _ = w2 at *;have HND2 := xH (trw.vO HS.out.b HND.out);go_wp2_with (first
  | (refine jv rfl _ rfl w1.heap.size 0 rfl y HS.out.c ?_)
  | (refine (HN1.out w2 HND2.out).mono ?_))
 rintro e w3 ⟨hb3, ⟨h0, _⟩ | ⟨h0, y3, j3, v3, rfl, hn3, hs3, hr3, hz3⟩⟩
 ·exact absurd HA.out.1 h0
 rw [HA.out.2.1];have hk := strip_third (f := j3) (g := (qH (y, j)).2.1.2) (by
  have := hs3;simp only [F.one, strip, F.cons.injEq, and_true] at this;exact this.2)
 rw [HA.out.2.2.1, HA.out.2.2.2] at hk;obtain ⟨B3, hkv3, hc3⟩ := kids_row hn3;have HK3 := xH (show y3.kv = .slice (some ⟨B3, 0, none⟩) 3 3 by rw [hkv3, hk.1]);have HC3 := xH (hc3 29 _ (third_at hk.1));have HT3 := xH hk.2;have HB3 := xH (trw.qi (trw.qi HB1.out HS.out.b) hb3);have HO3 := xH (qp (ndI_at hn3));have HG3 := xH (heap_alloc_new w3 (.cells zC.toArray 27));have HS3 := xH (zO w3 y3);obtain ⟨sa, sc, rfl⟩ := row_slice hr3;generalize (qH (y, j)).2.2.2.length = nl at *;unfold zC at HG3 HS3;clear hb3 h0 hn3 hs3 hr3 hz3 hk hkv3 hc3 HN1 HND HND2 HS HO HG HB1;dsimp only;go_upto_region 3 with (refine qh rfl rfl _ _ rfl w3.heap.size rfl _ y3 HG3.out rfl HO3.out rfl ?_)
 have k11 := HS3.out.c 11 _ rfl;simp only [Nat.zero_add] at k11;rw [HK3.out] at k11;have k29 := trw.qf HS3.out.b HC3.out;rw [HT3.out] at k29;have HB4 := xH (trw.qi HB3.out HS3.out.b);clear HK3 HC3 HT3 HB3 HO3 HG3 HS3;generalize (w3.alloc _).setRow _ _ = w4 at *;generalize hW3 : w3.heap.size = W3 at *;have K11 := xH k11;have K29 := xH k29;clear k11 k29 hW3;go_wp2_with fail
 refine (L2.out w4).mono ?_;rintro e w5 ⟨R, hR, hb5, hf⟩;have hR2 : flatP (sg (strOf 14 (at_ pB))) 14 0 = R := hR;obtain ⟨t, ht⟩ := some_B;rw [ht] at hR2;subst hR2;obtain ⟨y5, j5, rfl, hn, hs⟩ := hf;have HE := xH (awk_b (y := y5) (j := j5) (by rw [ht, hs]));have HN5 := xH (zV ht hs);have HO := xH (qp hn);have HG := xH (heap_alloc_new w5 (.cells zC.toArray 27));have HS := xH (zO w5 y5);have HND := xH hn;have HB5 := xH (trw.qi HB4.out hb5);have K11 := xH (trw.qf hb5 K11.out);have K29 := xH (trw.qf hb5 K29.out);unfold zC at HG HS;clear hR hb5 hn ht hs L2 HB4;dsimp only;go_upto_region 4 with (refine qh rfl rfl _ _ rfl w5.heap.size rfl _ y5 HG.out rfl HO.out rfl ?_)
 generalize (w5.alloc _).setRow _ _ = w6 at *;have HND2 := xH (trw.vO HS.out.b HND.out);have HB6 := xH (trw.qi HB5.out HS.out.b);have K11 := xH (trw.qf HS.out.b K11.out);have K29 := xH (trw.qf HS.out.b K29.out);go_wp2_with (first
  | (refine jv rfl _ rfl w5.heap.size 0 rfl y5 HS.out.c ?_)
  | (refine (HN5.out w6 HND2.out).mono ?_))
 rintro e w7 ⟨hb7, ⟨h0, rfl⟩ | ⟨h0, _⟩⟩;case inr => exact absurd (show (qH (y5, j5)).1.1 = 33 by rw [HE.out]) (by rw [h0]; decide)
 rw [HE.out];have HG7 := xH (heap_alloc_new w7 (.cells zC.toArray 27));have HS7 := xH (zO w7 (lab 0 0));have HO7 : Hid (∀ u ∈ ndC (lab 0 0), u.oneCell' = true) := xH (fun u hu => by simp only [ndC, lab, nil3, List.mem_cons, List.not_mem_nil, or_false] at hu;rcases hu with rfl | rfl | rfl | rfl | rfl | rfl | rfl | rfl | rfl | rfl | rfl | rfl <;> rfl)
 have HB7 := xH (trw.qi HB6.out hb7);have K11 := xH (trw.qf hb7 K11.out);have K29 := xH (trw.qf hb7 K29.out);unfold zC at HG7 HS7;clear hb7 h0 HE HN5 HO HG HS HND HND2 HB5 HB6;dsimp only;go_upto_region 5 with (refine qh rfl rfl _ _ rfl w7.heap.size rfl _ (lab 0 0) HG7.out rfl HO7.out rfl ?_)
 have HB8 := xH (trw.qi HB7.out HS7.out.b);have k11 := trw.qf HS7.out.b K11.out;have k29 := trw.qf HS7.out.b K29.out;clear K11 K29 HB7 HS7 HG7 HO7;generalize (w7.alloc _).setRow _ _ = w8 at *;go_wp2_with fail
 go_ret
 exact ⟨rfl, HB8.out⟩
end Go.Proofs.Ytnpcombfgdbhkaa.gpw
end
section
namespace Go.Proofs.Ytnpcombfgdbhkaa.gpw
open sq
open Go.Sort Go Go.RowKit Go.Maps setp setw tkp trp trw rpp gpp sq prw
open rpw (fC jP FSub jQ jd own_below qp vW qh qA)
open utfw (Sl at_ strOf)
open tkw (sg)
open rsw (flatP FlatB zH)
open rtp (rlexP)
open rsp (resP zU)
theorem ent_names (x : Lab) (s : St) : (∀ q ∈ (entS x s).2.2, q ∈ s.2 ∨ hasL q.1 q.2 (entL x s) = true) ∧ (s.2.Pairwise (fun a b => a.1 ≠ b.1) → (entS x s).2.2.Pairwise (fun a b => a.1 ≠ b.1)) := by
 unfold entS entL;by_cases h : x.kind = 14
 ·rw [if_pos h, if_pos h];unfold zy;split
  ·exact ⟨fun q hq => Or.inl hq, id⟩
  ·split
   ·exact ⟨fun q hq => Or.inl hq, id⟩
   ·split
    ·exact ⟨fun q hq => Or.inl hq, id⟩
    ·rename_i hl;refine ⟨fun q hq => ?_, fun hp => ?_⟩
     ·rcases List.mem_append.1 hq with hq | hq
      ·exact Or.inl hq
      ·simp only [List.mem_cons, List.not_mem_nil, or_false] at hq;subst hq;exact Or.inr (by unfold hasL; simp [h])
     ·refine List.pairwise_append.2 ⟨hp, List.pairwise_singleton _ _, fun a ha b hb => ?_⟩;simp only [List.mem_cons, List.not_mem_nil, or_false] at hb;subst hb;intro e;unfold nmLook at hl;rw [Option.map_eq_none_iff, List.find?_eq_none] at hl;exact hl a (List.mem_reverse.2 ha) (by simpa using e)
 ·rw [if_neg h, if_neg h];exact ⟨fun q hq => Or.inl hq, id⟩
theorem numF_names : ∀ (f : F) (rs : Bool) (bef lg : Int) (s : St), (numF rs bef f lg s).1.1 = 0 →
 (∀ q ∈ (numF rs bef f lg s).2.2.2.2, q ∈ s.2 ∨ hasF q.1 q.2 (numF rs bef f lg s).2.1 = true) ∧ (s.2.Pairwise (fun a b => a.1 ≠ b.1) → (numF rs bef f lg s).2.2.2.2.Pairwise (fun a b => a.1 ≠ b.1))
 | .nil, _, _, _, _, _ => ⟨fun q hq => Or.inl hq, id⟩
 | .cons x k r, rs, bef, lg, s, he => by
  rw [numF_cons] at he ⊢;unfold numN at he ⊢;generalize hs : ((if rs = true then bef else s.1, s.2) : St) = s0 at he ⊢;have z0 : s0.2 = s.2 := by subst hs; rfl
  have e1 := ent_names x s0;generalize entS x s0 = e at *;by_cases k1 : e.1 ≠ 0
  ·simp only [if_pos k1] at he;exact absurd he k1
  ·have ih := numF_names k (decide (x.kind = 16)) e.2.1 e.2.1 e.2;simp only [if_neg k1] at he ⊢;generalize numF (decide (x.kind = 16)) e.2.1 k e.2.1 e.2 = q at *;by_cases k2 : q.1.1 ≠ 0
   ·simp only [if_pos k2] at he;exact absurd he k2
   ·have ih' := ih (by omega);simp only [if_neg k2] at he ⊢;have k3 : ¬ (0 : Int) ≠ 0 := by omega
    simp only [if_neg k3] at he ⊢;have ih2 := numF_names r rs bef (max lg q.2.2.1) (q.2.2.1, q.2.2.2.2) he;rw [z0] at e1;refine ⟨fun a ha => ?_, fun hp => ih2.2 (ih'.2 (e1.2 hp))⟩;simp only [hasF, Bool.or_eq_true];rcases ih2.1 a ha with h | h
    ·rcases ih'.1 a h with h | h
     ·rcases e1.1 a h with h | h
      ·exact Or.inl h
      ·exact Or.inr (Or.inl (Or.inl h))
     ·exact Or.inr (Or.inl (Or.inr h))
    ·exact Or.inr (Or.inr h)
theorem num_names (x : Lab) (k : F) (h : (qH (x, k)).1.1 = 0) : (∀ q ∈ (qH (x, k)).2.2.2, hasP q.1 q.2 (qH (x, k)).2.1 = true) ∧ (qH (x, k)).2.2.2.Pairwise (fun a b => a.1 ≠ b.1) := by
 have e1 := ent_names x (0, []);unfold qH numN at h ⊢;generalize entS x (0, []) = e at *;by_cases k1 : e.1 ≠ 0
 ·simp only [if_pos k1] at h;exact absurd h k1
 ·have ih := numF_names k (decide (x.kind = 16)) e.2.1 e.2.1 e.2;simp only [if_neg k1] at h ⊢;generalize numF (decide (x.kind = 16)) e.2.1 k e.2.1 e.2 = q at *;by_cases k2 : q.1.1 ≠ 0
  ·simp only [if_pos k2] at h;exact absurd h k2
  ·have ih' := ih (by omega);simp only [if_neg k2] at h ⊢;refine ⟨fun a ha => ?_, ih'.2 (e1.2 List.Pairwise.nil)⟩;unfold hasP;simp only [Bool.or_eq_true];rcases ih'.1 a ha with h | h
   ·rcases e1.1 a h with h | h
    ·cases h
    ·exact Or.inl h
   ·exact Or.inr h
theorem zx (nm : ByteArray) (n : Int) : ∀ f : F, hasF nm n (strip f) = hasF nm n f
 | .nil => rfl
 | .cons x k r => by rw [strip, hasF, hasF, zx nm n k, zx nm n r];rfl
theorem hasP_same {nm : ByteArray} {n : Int} {x y : Lab} {k j : F} (h : strip (F.one y j) = strip (F.one x k)) : hasP nm n (y, j) = hasP nm n (x, k) := by have h1 := zx nm n (F.one y j);have h2 := zx nm n (F.one x k);rw [h, h2] at h1;simpa [hasF, F.one, hasP] using h1.symm
def NmIn (w : World) (v : Value) (l : List (ByteArray × Int)) : Prop := ∃ a cap, v = .slice a l.length cap ∧ l.length ≤ 2000000 ∧ (l = [] ∨ ∃ g, a = some ⟨g, 0, none⟩ ∧ ∀ i q, l[i]? = some q → w.cell? ⟨g, i * 2, none⟩ = some (.string q.1) ∧ w.cell? ⟨g, i * 2 + 1, none⟩ = some (.int .i64 q.2))
theorem nmC_at : ∀ (l : List (ByteArray × Int)) (i : Nat) (q : ByteArray × Int), l[i]? = some q → (nmC l)[i * 2]? = some (.string q.1) ∧ (nmC l)[i * 2 + 1]? = some (.int .i64 q.2)
 | [], i, q, h => by simp at h
 | p :: l, 0, q, h => by simp only [List.getElem?_cons_zero, Option.some.injEq] at h;subst h;exact ⟨rfl, rfl⟩
 | p :: l, i + 1, q, h => by have := nmC_at l i q (by simpa using h);have e : nmC (p :: l) = .string p.1 :: .int .i64 p.2 :: nmC l := rfl;rw [e, show (i + 1) * 2 = i * 2 + 1 + 1 by omega];simpa using this
theorem nm_in {w : World} {b : Nat} {v : Value} {l : List (ByteArray × Int)} (h : w.ownsRow b 45 2 v l.length (nmC l)) (hz : l = [] → v = .slice none 0 0) (hl : l.length ≤ 2000000) : NmIn w v l := by
 rcases h.2 with ⟨h1, h2⟩ | ⟨g, cap, cur, h1, _⟩
 ·have : l = [] := List.length_eq_zero_iff.1 h2;subst this;exact ⟨none, 0, h1, by simp, Or.inl rfl⟩
 ·subst h1;refine ⟨_, cap, rfl, hl, Or.inr ⟨g, rfl, fun i q hq => ?_⟩⟩;have hi := (List.getElem?_eq_some_iff.1 hq).1;have := nmC_at l i q hq;exact ⟨by rw [World.ownsRow.cellAt h (i * 2) (by omega)]; exact this.1, by rw [World.ownsRow.cellAt h (i * 2 + 1) (by omega)]; exact this.2⟩
theorem nm_below {w w' : World} {v : Value} {l : List (ByteArray × Int)} (h : NmIn w v l) (hb : Below w.heap.size w w') : NmIn w' v l := by
 obtain ⟨a, c, h1, h2, h3 | ⟨g, h3, h4⟩⟩ := h
 ·exact ⟨a, c, h1, h2, Or.inl h3⟩
 ·exact ⟨a, c, h1, h2, Or.inr ⟨g, h3, fun i q hq => ⟨trw.qf hb (h4 i q hq).1, trw.qf hb (h4 i q hq).2⟩⟩⟩
theorem num_len (x : Lab) (k : F) (h : (qH (x, k)).1.1 = 0) : (qH (x, k)).2.2.2.length ≤ k.size + 1 := by have := (numN_bd x k (0, []) (Int.le_refl _) (by decide) h).2.2.1;simp only [List.length_nil] at this;show (numN x k (0, [])).2.2.2.length ≤ _;omega
end Go.Proofs.Ytnpcombfgdbhkaa.gpw
end
section
namespace Go.Proofs.Ytnpcombfgdbhkaa.gpw
open sq
open Go.Sort Go Go.RowKit Go.Maps setp setw tkp trp trw rpp gpp sq prw
open rpw (fC jP FSub jQ jd own_below qp vW qh qA)
open utfw (Sl at_ strOf)
open tkw (sg)
open rsw (flatP FlatB zH)
open rtp (rlexP)
open rsp (resP zU)
theorem zero_one : ∀ u ∈ ndC (lab 0 0), u.oneCell' = true := fun u hu => by
 simp only [ndC, lab, nil3, List.mem_cons, List.not_mem_nil, or_false] at hu;rcases hu with rfl | rfl | rfl | rfl | rfl | rfl | rfl | rfl | rfl | rfl | rfl | rfl <;> rfl
theorem names_law (v : Value) (n : Nat) (g : Nat → Int) (o : Int) (w : World) (hv : Sl w v n g) : Calls Try.prog 6 #[v, .int .i64 o] w (BoolB true w) := by
 have HFL := xH (fun w1 (hb : Below w.heap.size w w1) => zH v n g o w1 (utfw.below_sl hb hv));clear hv;go_enter Try.func6, Try.ntmps6;go_wp2_with fail
 refine (awake_any w).mono ?_;rintro e w1 ⟨rfl, hb1⟩;have HB1 := xH hb1;clear hb1;go_wp2_with fail
 refine (HFL.out w1 HB1.out).mono ?_;obtain ⟨R, hR⟩ : ∃ R, flatP (sg (strOf n g)) n o = R := ⟨_, rfl⟩;rw [hR];have HR := xH hR;clear hR HFL;cases R with
 | none =>
  rintro e w2 ⟨hb2, rfl⟩;have HB2 := xH (trw.qi HB1.out hb2);have HG := xH (heap_alloc_new w2 (.cells zC.toArray 27));have HS := xH (zO w2 (lab 0 0));have HO := xH zero_one;unfold zC at HG HS;clear hb2;dsimp only;go_upto_region 5 with (refine qh rfl rfl _ _ rfl w2.heap.size rfl _ (lab 0 0) HG.out rfl HO.out rfl ?_)
  generalize (w2.alloc _).setRow _ _ = w3 at *;have HB3 := xH (trw.qi HB2.out HS.out.b);go_wp2_with fail
  go_ret
  exact ⟨rfl, HB3.out⟩
 | some t =>
  rintro e w2 ⟨hb2, y, j, rfl, hn, hs⟩;have HB2 := xH (trw.qi HB1.out hb2);have HN2 := xH (zV HR.out hs);have HSZ := xH (show j.size ≤ 100000 from by have h1 := (flat_ok HR.out).2;rw [← hs, zt] at h1;simp only [F.one, F.size] at h1;omega)
  have HND := xH hn;have HO := xH (qp hn);have HG := xH (heap_alloc_new w2 (.cells zC.toArray 27));have HS := xH (zO w2 y);unfold zC at HG HS;clear hb2 hn hs HB1 HR;dsimp only;go_upto_region 5 with (refine qh rfl rfl _ _ rfl w2.heap.size rfl _ y HG.out rfl HO.out rfl ?_)
  generalize (w2.alloc _).setRow _ _ = w3 at *;have HB3 := xH (trw.qi HB2.out HS.out.b);have HND3 := xH (trw.vO HS.out.b HND.out);clear HG HO HND HB2;go_wp2_with (first
   | (refine jv rfl _ rfl w2.heap.size 0 rfl y HS.out.c ?_)
   | (refine (HN2.out w3 HND3.out).mono ?_))
  rintro e w4 ⟨hb4, ⟨h0, rfl⟩ | ⟨h0, y4, j4, v4, rfl, hn4, hs4, hr4, hz4⟩⟩
  ·have HB4 := xH (trw.qi HB3.out hb4);have HG := xH (heap_alloc_new w4 (.cells zC.toArray 27));have HS4 := xH (zO w4 (lab 0 0));have HO := xH zero_one;have be : ((qH (y, j)).1.1 != 0) = true := bne_iff_ne.2 h0;unfold zC at HG HS4;clear hb4 h0 HN2 HND3 HS HB3;generalize (qH (y, j)).1.1 = q1 at *;generalize (qH (y, j)).1.2 = q2 at *;dsimp only;go_upto_region 8 with (refine qh rfl rfl _ _ rfl w4.heap.size rfl _ (lab 0 0) HG.out rfl HO.out rfl ?_)
   generalize (w4.alloc _).setRow _ _ = w5 at *;have HB5 := xH (trw.qi HB4.out HS4.out.b);go_wp2_with fail
   go_ret
   exact ⟨rfl, HB5.out⟩
  ·have hln := num_len y j h0;have hnn := num_names y j h0;have HB4 := xH (trw.qi HB3.out hb4);have HG := xH (heap_alloc_new w4 (.cells zC.toArray 27));have HS4 := xH (zO w4 y4);have HO := xH (qp (ndI_at hn4));have HND4 := xH (ndI_at hn4);have HNM := xH (nm_in hr4 hz4 (by have := HSZ.out; omega));have HHAS := xH (fun q (hq : q ∈ (qH (y, j)).2.2.2) => (hasP_same (nm := q.1) (n := q.2) hs4).trans (hnn.1 q hq));have HPW := xH hnn.2;unfold zC at HG HS4;clear hb4 h0 HN2 HND3 HS HB3 hn4 hs4 hr4 hz4 hln hnn HSZ;generalize (qH (y, j)).2.2.2 = l at *;generalize (qH (y, j)).2.2.1 = most at *;obtain ⟨na, nc, rfl, hl1, hl2⟩ : ∃ a c, v4 = .slice a l.length c ∧ l.length ≤ 2000000 ∧ NmIn w4 (.slice a l.length c) l := by obtain ⟨a, c, h1, h2, h3⟩ := HNM.out;subst h1;exact ⟨a, c, rfl, h2, HNM.out⟩
   have HNM2 := xH hl2;clear HNM hl2;dsimp only;go_upto_region 8 with (refine qh rfl rfl _ _ rfl w4.heap.size rfl _ y4 HG.out rfl HO.out rfl ?_)
   generalize (w4.alloc _).setRow _ _ = w5 at *;have HB5 := xH (trw.qi HB4.out HS4.out.b);have HND5 := xH (trw.vO HS4.out.b HND4.out);have HNM5 := xH (nm_below HNM2.out HS4.out.b);have HC5 := xH HS4.out.c;generalize w4.heap.size = T at *;clear HG HO HND4 HNM2 HB4 HS4;have hl3 : (l.length : Int) ≤ 9223372036854775807 := by omega
   go_wp2_with fail
   go_loopw [13] (fun v13 wr => ∃ i : Nat, v13 = .int .i64 i ∧ i ≤ l.length ∧ Hid (Below w5.heap.size w5 wr)) (fun v13 _ => l.length - (intOf v13).toNat)
   case atStart => exact ⟨0, rfl, Nat.zero_le _, xH (Below.refl _ _)⟩
   case round =>
    obtain ⟨i, rfl, hi, HBB⟩ := hrel;by_cases hlt : i < l.length
    ·obtain ⟨q, hq⟩ : ∃ q, l[i]? = some q := ⟨_, List.getElem?_eq_getElem hlt⟩;obtain ⟨a', c', hs', _, hcs⟩ := HNM5.out;cases hs';obtain ⟨gb, rfl, hcz⟩ := hcs.resolve_left (fun e => by rw [e] at hlt; exact absurd hlt (Nat.not_lt_zero _));have HCQ := xH (hcz i q hq);have HCS := xH hcz;have HHQ := xH (HHAS.out q (List.mem_of_getElem? hq));have HQ := xH hq;have HWR := xH (show ∀ j u, (ndC y4)[j]? = some u → wr.cell? ⟨T, 0 + j, none⟩ = some u from fun j u hj => trw.qf HBB.out (HC5.out j u hj));have HNDR := xH (trw.vO HBB.out HND5.out);have HQ0 := xH (trw.qf HBB.out HCQ.out.1);have HQ1 := xH (trw.qf HBB.out HCQ.out.2);have hli : i < 9223372036854775807 := by omega
     clear hq hcs hcz;go_upto_region 13 with (fail)
     refine wp_region_held_drew (S := fun w' => Below wr.heap.size wr w') (by kernel_rfl) (trw.qL wr) (fun hHeld => ?_);refine xT 0 rfl (ndV y4) ?_ ?_
     ·intro w' hSw;refine jT (x := .tmp 8) (b := T) (off := 0) (l := y4) ?_ ?_ (fun j u hj => trw.qf hSw (HWR.out j u hj)) <;> rfl
     simp only [xS];refine xT 1 rfl ?_ ?_ ?_;rotate_left
     ·intro w' hSw;go_simp;try rfl
     simp only [xS];refine xT 2 rfl ?_ ?_ ?_;rotate_left
     ·intro w' hSw;go_simp;try rfl
     simp only [xS];refine xT 3 rfl ?_ ?_ ?_;rotate_left
     ·intro w' hSw;go_simp;try rfl
     simp only [xS];refine xT 4 rfl ?_ ?_ ?_;rotate_left
     ·intro w' hSw;have e0 := trw.qf hSw HQ0.out;have e1 := trw.qf hSw HQ1.out;go_simp;try rfl
     simp only [xS];refine xD 5 rfl (fun K hK => ?_);go_simp;refine (has_all (j4.size + 1) _ y4 j4 q.1 q.2 (Nat.lt_succ_self _) (trw.vO (trw.qL wr) HNDR.out)).mono ?_;rintro e w6 ⟨rfl, hb⟩;have HB6 := xH (trw.qi (trw.qL wr) hb);clear hb;rw [HHQ.out];refine hK.out _ _ HB6.out (fun hHeld => ?_);clear hK K;try simp only [xS]
     refine xT 6 rfl ?_ ?_ ?_;rotate_left
     ·intro w' hSw;go_simp;try rfl
     simp only [xS];refine wpAnyH_done (by kernel_rfl) ?_ _;have HBN := xH (trw.qi HBB.out HB6.out);clear hHeld HWR HNDR HQ0 HQ1 HBB HB6;go_wp2_with fail
     go_loopw [14] (fun v14 wr2 => ∃ m : Nat, v14 = .int .i64 m ∧ m ≤ i ∧ Hid (Below w5.heap.size w5 wr2)) (fun v14 _ => i - (intOf v14).toNat)
     case atStart => exact ⟨0, rfl, Nat.zero_le _, HBN⟩
     case round =>
      obtain ⟨m, rfl, hm, HB2⟩ := hrel;by_cases hlm : m < i
      ·obtain ⟨p, hp⟩ : ∃ p, l[m]? = some p := ⟨_, List.getElem?_eq_getElem (by omega)⟩;have HP := xH (HCS.out m p hp);have hne : p.1 ≠ q.1 := by obtain ⟨h1, h2⟩ := List.getElem?_eq_some_iff.1 hp;obtain ⟨h3, h4⟩ := List.getElem?_eq_some_iff.1 HQ.out;have := List.pairwise_iff_getElem.1 HPW.out m i h1 h3 hlm;rw [h2, h4] at this;exact this
       have bne := name_n hne;have HP0 := xH (trw.qf HB2.out HP.out.1);have HP1 := xH (trw.qf HB2.out HCQ.out.1);have hml : m < l.length := by omega
       have hmi : m < 9223372036854775807 := by omega
       clear hp hne;go_upto_region 18 with (fail)
       refine wp_region_held_drew (S := fun w' => Below wr.heap.size wr w') (by kernel_rfl) (trw.qL wr) (fun hHeld => ?_);refine xT 0 rfl ?_ ?_ ?_;rotate_left
       ·intro w' hSw;go_simp;try rfl
       simp only [xS];refine xT 1 rfl ?_ ?_ ?_;rotate_left
       ·intro w' hSw;go_simp;try rfl
       simp only [xS];refine xT 2 rfl ?_ ?_ ?_;rotate_left
       ·intro w' hSw;go_simp;try rfl
       simp only [xS];refine xT 3 rfl ?_ ?_ ?_;rotate_left
       ·intro w' hSw;go_simp;try rfl
       simp only [xS];refine xT 4 rfl ?_ ?_ ?_;rotate_left
       ·intro w' hSw;have e0 := trw.qf hSw HP0.out;go_simp;try rfl
       simp only [xS];refine xT 5 rfl ?_ ?_ ?_;rotate_left
       ·intro w' hSw;go_simp;try rfl
       simp only [xS];refine xT 6 rfl ?_ ?_ ?_;rotate_left
       ·intro w' hSw;go_simp;try rfl
       simp only [xS];refine xT 7 rfl ?_ ?_ ?_;rotate_left
       ·intro w' hSw;go_simp;try rfl
       simp only [xS];refine xT 8 rfl ?_ ?_ ?_;rotate_left
       ·intro w' hSw;go_simp;try rfl
       simp only [xS];refine xT 9 rfl ?_ ?_ ?_;rotate_left
       ·intro w' hSw;have e1 := trw.qf hSw HP1.out;go_simp;try rfl
       simp only [xS];refine xT 10 rfl ?_ ?_ ?_;rotate_left
       ·intro w' hSw;go_simp;try rfl
       simp only [xS];refine wpAnyH_done (by kernel_rfl) ?_ _;have HBX := xH (trw.qi HB2.out (trw.qL wr));clear hHeld HP0 HP1;go_wp2_with fail
       go_roundw
       case rel => exact ⟨m + 1, by go_num, by omega, HBX⟩
       case measure => simp [intOf]; omega
      ·have hmi : m = i := by omega
       have hd : decide (m < i) = false := by simpa using hlm
       clear hlm;go_wp2_with fail
       go_roundw
       case rel => exact ⟨i + 1, by go_num, by omega, HB2⟩
       case measure => simp [intOf]; omega
    ·have hd : decide (i < l.length) = false := by simpa using hlt
     clear hlt;go_wp2_with fail
     go_ret
     exact ⟨rfl, trw.qi HB5.out HBB.out⟩
end Go.Proofs.Ytnpcombfgdbhkaa.gpw
end
section
namespace Go.Proofs.Ytnpcombfgdbhkaa.gpr
open sq
open Go Go.RowKit Go.ChangeShapes Go.WideShapes Go.ChangeAt utfp utfw
theorem own : ownKnob Try.prog.godebug = none := by kernel_rfl
theorem laidOut : laidOutB Try.prog = true := by kernel_rfl
theorem cellsByte : Try.prog.cellsOf 5 = 1 := by kernel_rfl
theorem bytesByte : Try.prog.bytesOf 5 = 1 := by kernel_rfl
theorem recBytes : Try.prog.readableRec 22 = true := by kernel_rfl
theorem rowBytes : (22 : TypeId) < Try.prog.types.size := of_decide_eq_true (by kernel_rfl)
theorem wf_byte {n : Int} (h : (Lit.int .u8 n).wf = true) : 0 ≤ n ∧ n ≤ 255 := by
 have h2 : IntKind.u8.min ≤ n ∧ n ≤ IntKind.u8.max := by simpa [Lit.wf] using h
 rw [show IntKind.u8.min = 0 by decide, show IntKind.u8.max = 255 by decide] at h2;exact h2
theorem open_bytes {H : Type} {enc : TypeId × Value → H} {W : World} {base : Nat} {v : Value} {d : DataW H} {ps : List MemPlace} (hval : Value.okWide Try.prog W .any base 22 v)
 (h : DataW.Trod enc Try.prog W 0 (fun _ => true) true 22 v d ps) (hsz : ∀ elems spare, d = .slice elems spare → (elems.length + spare.length) * Try.prog.bytesOf 5 ≤ reachBytes) :
 ∃ n g, Sl W v n g := by
 obtain ⟨a0, len, cap, rfl⟩ := okWide_slice Try.underlying22 hval;obtain ⟨fuel, hf⟩ := h;rcases open_ints Try.underlying22 Try.underlying5 cellsByte hf with ⟨hcs, _⟩ | ⟨a, len', cap', zs, hcs, _, hl, hm, hz, hx, hcell, hwz⟩
 ·simp [Value.cells] at hcs;obtain ⟨rfl, rfl, rfl⟩ := hcs;exact ⟨0, fun _ => 0, fun _ => by simp, by simp, Or.inl ⟨rfl, _, _, rfl, by omega⟩⟩
 ·simp [Value.cells] at hcs;obtain ⟨rfl, rfl, rfl⟩ := hcs;simp only [Prod.mk.injEq] at hx;obtain ⟨rfl, _⟩ := hx;simp only [if_true] at hz;have hr := hsz _ _ rfl;rw [bytesByte] at hr;simp only [lits, List.length_map, List.length_take, List.length_drop, reachBytes] at hr;unfold maxLen at hm;have hgb : ∀ i, 0 ≤ zs.getD i 0 ∧ zs.getD i 0 ≤ 255 := by
   intro i;by_cases hi : i < zs.length
   ·simp only [List.getD, List.getElem?_eq_getElem hi, Option.getD_some];exact wf_byte (hwz _ (List.getElem_mem hi))
   ·simp [List.getD, List.getElem?_eq_none (Nat.le_of_not_lt hi)]
  by_cases h0 : len = 0
  ·subst h0;exact ⟨0, fun _ => 0, fun _ => by simp, by simp, Or.inl ⟨rfl, _, _, rfl, by omega⟩⟩
  ·obtain ⟨b, off, spot⟩ := a;have c0 := hcell 0 (by omega);cases spot with
   | some s =>
    exfalso;have : ((⟨b, off, some s⟩ : Addr).add 0).spot.isSome = true := by unfold Addr.add; split <;> simp_all
    unfold World.cell? at c0;split at c0
    ·simp [this] at c0
    ·simp at c0
   | none =>
    refine ⟨len, fun i => zs.getD i 0, hgb, by omega, Or.inr ⟨b, off, cap, rfl, ⟨hl, by omega⟩, fun i hi => ?_⟩⟩;have := hcell i (by omega);have hplain : (⟨b, off, none⟩ : Addr).add i = ⟨b, off + i, none⟩ := by unfold Addr.add; split <;> simp_all
    rw [hplain] at this;exact this
end Go.Proofs.Ytnpcombfgdbhkaa.gpr
end
