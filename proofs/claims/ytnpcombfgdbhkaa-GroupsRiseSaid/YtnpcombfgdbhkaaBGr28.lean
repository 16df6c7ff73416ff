/- T -/
import Derived.KernelRfl
import Derived.Lib.SlBytesConst
import Derived.Maps.OwnSet
import Derived.Test.YtnpcombfgdbhkaaBGr27
set_option maxHeartbeats 16000000
set_option maxRecDepth 1000000
namespace Go.Proofs.Ytnpcombfgdbhkaa
section
namespace gpw
open sq
open Go.Sort Go Go.RowKit Go.Maps setp setw tkp trp trw rpp gpp sq prw
open rpw (fC jP FSub jQ jd own_below qp vW qh qA run_store_nd)
theorem zt : ∀ f : F, (strip f).size = f.size
 | .nil => rfl
 | .cons _ k r => by rw [strip, F.size, zt k, zt r, F.size]
theorem allNm_strip : ∀ {f : F}, AllNm (strip f) ↔ AllNm f
 | .nil => Iff.rfl
 | .cons x k r => by rw [strip];unfold AllNm;rw [allNm_strip (f := k), allNm_strip (f := r)]
theorem entL_strip (x : Lab) (s : St) : entL { x with sv := nil3, kv := nil3 } s = { entL x s with sv := nil3, kv := nil3 } := by unfold entL;split <;> rfl
theorem numF_strip : ∀ (f : F) (rs : Bool) (bef lg : Int) (s : St), numF rs bef (strip f) lg s = ((numF rs bef f lg s).1, strip (numF rs bef f lg s).2.1, (numF rs bef f lg s).2.2)
 | .nil, _, _, _, _ => rfl
 | .cons x k r, rs, bef, lg, s => by
  rw [strip, numF, numF];simp only;generalize ((if rs = true then bef else s.1, s.2) : St) = s0;have he : entS { x with sv := nil3, kv := nil3 } s0 = entS x s0 := rfl;rw [he, entL_strip, numF_strip k];generalize entS x s0 = e;by_cases k1 : e.1 ≠ 0
  ·rw [if_pos k1, if_pos k1];rfl
  ·rw [if_neg k1, if_neg k1];simp only;generalize numF (decide (x.kind = 16)) e.2.1 k e.2.1 e.2 = q;by_cases k2 : q.1.1 ≠ 0
   ·rw [if_pos k2, if_pos k2];rfl
   ·rw [if_neg k2, if_neg k2, numF_strip r];rfl
theorem numN_strip (x : Lab) (k : F) (s : St) : numN { x with sv := nil3, kv := nil3 } (strip k) s = ((numN x k s).1, ({ (numN x k s).2.1.1 with sv := nil3, kv := nil3 }, strip (numN x k s).2.1.2), (numN x k s).2.2) := by
 unfold numN;simp only;have he : entS { x with sv := nil3, kv := nil3 } s = entS x s := rfl;rw [he, entL_strip, numF_strip k];generalize entS x s = e;by_cases k1 : e.1 ≠ 0
 ·rw [if_pos k1, if_pos k1]
 ·rw [if_neg k1, if_neg k1];simp only;generalize numF (decide (x.kind = 16)) e.2.1 k e.2.1 e.2 = q;by_cases k2 : q.1.1 ≠ 0
  ·rw [if_pos k2, if_pos k2]
  ·rw [if_neg k2, if_neg k2]
theorem numN_same {x y : Lab} {k j : F} (h : strip (F.one y j) = strip (F.one x k)) (s : St) : (numN y j s).1 = (numN x k s).1 ∧ (numN y j s).2.2 = (numN x k s).2.2 ∧ strip (F.one (numN y j s).2.1.1 (numN y j s).2.1.2) = strip (F.one (numN x k s).2.1.1 (numN x k s).2.1.2) := by
 have h1 := numN_strip x k s;have h2 := numN_strip y j s;have e1 : ({ y with sv := nil3, kv := nil3 } : Lab) = { x with sv := nil3, kv := nil3 } ∧ strip j = strip k := by simp only [F.one, strip, F.cons.injEq, and_true] at h;exact h
 rw [e1.1, e1.2, h1] at h2;simp only [Prod.mk.injEq] at h2;obtain ⟨a, ⟨b, c⟩, d⟩ := h2;refine ⟨a.symm, d.symm, ?_⟩;show F.cons _ _ _ = F.cons _ _ _;rw [b, c]
def NumB (x : Lab) (k : F) (w : World) (e : Ending) (w' : World) : Prop :=
 Below w.heap.size w w' ∧ (((qH (x, k)).1.1 ≠ 0 ∧ e = .returned (.tuple #[ndV (lab 0 0), .int .i64 0, .slice none 0 0, .int .i64 (qH (x, k)).1.1, .int .i64 (qH (x, k)).1.2])) ∨
  ((qH (x, k)).1.1 = 0 ∧ ∃ y j v, e = .returned (.tuple #[ndV y, .int .i64 (qH (x, k)).2.2.1, v, .int .i64 0, .int .i64 0]) ∧ NdI w' y j w.heap.size w'.heap.size ∧ strip (F.one y j) = strip (F.one (qH (x, k)).2.1.1 (qH (x, k)).2.1.2) ∧
   w'.ownsRow w.heap.size 45 2 v (qH (x, k)).2.2.2.length (nmC (qH (x, k)).2.2.2) ∧ ((qH (x, k)).2.2.2 = [] → v = .slice none 0 0)))
theorem held_store_nv {o : Oper} {a : Act} {W : World} {K : Act → World → Prop} {Q : Exit → Act → World → Prop} {ys : Nat → Option Bool} (hgd : o.guard = none) (hd : o.dst = none) (x y : Operand) (ho : o.op = .store 27 x y)
 (g : Nat) (hx : a.eval x = .pointer (some ⟨g, 0, none⟩)) (old : Array Value) (l : Lab) (hg : W.heap[g]? = some (.cells old 27 (0, 0))) (hs : old.size = 12) (h1 : ∀ u ∈ ndC l, u.oneCell' = true) (hy : a.eval y = ndV l)
 (h : K a (W.setRow g (ndC l).toArray)) : if Region.wanted o ys = true then Oper.wp Try.prog o a W K Q else K (a.put o.dst undef) W := by
 rw [if_pos (by unfold Region.wanted; rw [hgd])];unfold Oper.wp execOp;simp only [ho, hx, hy, Instr.storeAt, Instr.sureAddr, Sem.run_bind, Sem.run_pure, Result.andThen_ok, rpw.run_store_nd W g old l hg hs h1];simpa [Oper.upon, hd, Act.put] using h
theorem ent_nd (x : Lab) (s : St) : entA (ndC x).toArray 0 x s = (ndC (entL x s)).toArray := by unfold entA entL;split <;> rfl
theorem own_base {w : World} {b b2 : Nat} {e : TypeId} {z n : Nat} {v : Value} {xs : List Value} (h : w.ownsRow b e z v n xs) (hb : b2 ≤ b) : w.ownsRow b2 e z v n xs := by
 refine ⟨h.1, ?_⟩;rcases h.2 with h2 | ⟨g, cap, cur, hv, hg, r⟩
 ·exact Or.inl h2
 ·exact Or.inr ⟨g, cap, cur, hv, Nat.le_trans hb hg, r⟩
theorem results_num {fn : Func} {p q r s t : Tmp} (h : fn.results = #[.cell p 27, .tmp q, .tmp r, .tmp s, .tmp t]) (tmps : Array Value) (w : World) (g : Nat) (l : Lab) (hp : tmps.getD p undef = .pointer (some ⟨g, 0, none⟩)) (hg : w.heap[g]? = some (.cells (ndC l).toArray 27 (0, 0))) :
 (results fn tmps).run Try.prog w = .ok (.tuple #[ndV l, tmps.getD q undef, tmps.getD r undef, tmps.getD s undef, tmps.getD t undef]) w := by
 have hp' : tmps[p]?.getD undef = .pointer (some ⟨g, 0, none⟩) := by simpa using hp
 simp [results, h, hp', asAddr, run_loadVar_row w g 27 27 (ndC l).toArray (0, 0) _ hg Try.underlying27 rfl (by rw [ndInfo]; rfl)];rfl
theorem vY (w : World) (x : Lab) (k : F) (hn : NdAt w (x, k)) (hc : CpOk (F.one x k)) (hm : AllNm (F.one x k)) (hz : k.size ≤ 1000000) : Calls Try.prog 10 #[ndV x] w (NumB x k w) := by
 have HM := xH hm;have HZ := xH hz;have e1 := World.size_alloc w (.cells (ndC x).toArray 27);have HP := xH (show ((w.alloc (.cells (ndC x).toArray 27)).alloc (.cells zC.toArray 27)).heap[w.heap.size]? = some (.cells (ndC x).toArray 27 (0, 0)) from (heap_alloc_old _ _ (by rw [e1]; omega)).trans (heap_alloc_new _ _));have HQ := xH (show ((w.alloc (.cells (ndC x).toArray 27)).alloc (.cells zC.toArray 27)).heap[w.heap.size + 1]? = some (.cells zC.toArray 27 (0, 0)) from e1 ▸ heap_alloc_new (w.alloc (.cells (ndC x).toArray 27)) (.cells zC.toArray 27));have HB := xH (trw.qi (trw.qg w (.cells (ndC x).toArray 27)) (trw.qg _ (.cells zC.toArray 27)));have HZ2 := xH (show ((w.alloc (.cells (ndC x).toArray 27)).alloc (.cells zC.toArray 27)).heap.size = w.heap.size + 2 by rw [World.size_alloc, e1]);have HCP := xH (copy_all (k.size + 1) ((w.alloc (.cells (ndC x).toArray 27)).alloc (.cells zC.toArray 27)) x k (Nat.lt_succ_self _) (trw.qY (fun _ _ h => trw.qf HB.out h) hn) hc);have HC1 := xH (show ∀ j u, (ndC x)[j]? = some u → ((w.alloc (.cells (ndC x).toArray 27)).alloc (.cells zC.toArray 27)).cell? ⟨w.heap.size, 0 + j, none⟩ = some u from fun j u hj => by rw [Nat.zero_add]; unfold World.cell?; rw [HP.out]; simpa using hj);clear hn hc hm hz e1;unfold ndC zC at HP HQ HB HZ2 HCP;unfold ndC zC at HC1;unfold ndV;go_enter Try.func10, Try.ntmps10;go_upto_region 1 with (fail)
 generalize (w.alloc _).alloc _ = w1 at *;go_wp2_with (first
  | (refine jv rfl _ rfl w.heap.size 0 rfl x HC1.out ?_)
  | (refine HCP.out.mono ?_; rintro e w2 ⟨y, j, rfl, hn, hs, hb⟩; have HN2 := xH hn; have HS2 := xH hs; have HB2 := xH hb; have HG2 := xH (heap_alloc_new w2 (.cells zC.toArray 27)); unfold zC at HG2; have HO2 := xH (qp (ndI_at hn)); clear hn hs hb)
  | (refine qh rfl rfl _ _ rfl w2.heap.size rfl _ y HG2.out rfl HO2.out rfl ?_))
 go_upto_region 2 with (fail)
 obtain ⟨T, hT⟩ : ∃ T, w2.heap.size = T := ⟨_, rfl⟩;have HT3 := xH (setRow_heap _ _ _ (ndC y).toArray _ _ HG2.out);have HO3 := xH (show ∀ i, i < w2.heap.size → ((w2.alloc (.cells zC.toArray 27)).setRow w2.heap.size (ndC y).toArray).heap[i]? = w2.heap[i]? from fun i hi => (tkw.setRow_other _ _ i _ (by omega)).trans (heap_alloc_old _ _ hi));have HB3 := xH (show Below w.heap.size w ((w2.alloc (.cells zC.toArray 27)).setRow w2.heap.size (ndC y).toArray) from (HB.out.trans (HB2.out.mono HB.out.size)).trans ⟨rfl, rfl, rfl, by rw [tkw.setRow_size, World.size_alloc]; omega, fun i hi => HO3.out i (by have := HB2.out.size; have := HZ2.out; omega)⟩);have HZ3 := xH (show ((w2.alloc (.cells zC.toArray 27)).setRow w2.heap.size (ndC y).toArray).heap.size = w2.heap.size + 1 by rw [tkw.setRow_size, World.size_alloc]);unfold zC at HO3 HB3 HZ3;clear HG2;generalize (w2.alloc _).setRow _ _ = w3 at *;have HN3 := xH (ndI_keep HN2.out fun i _ h2 => HO3.out i h2);rw [hT] at HT3 HZ3 HN3 ⊢;have HTT := xH hT;clear hT;have hmm : (Instr.makeMap 55 none).run Try.prog w3 = .ok (.map (some w3.heap.size)) (w3.alloc (.map #[] 0)) := rfl;obtain ⟨O, hO⟩ : ∃ O : Obj, O = .cells #[.int .i64 0, .slice none 0 0, .map (some w3.heap.size)] 57 := ⟨_, rfl⟩;have z4 := World.size_alloc w3 (.map #[] 0);have HST := xH (show StAt ((w3.alloc (.map #[] 0)).alloc O) (T + 1) (w3.heap.size + 1) w3.heap.size (.slice none 0 0) (0, []) from
  ⟨by have := heap_alloc_new (w3.alloc (.map #[] 0)) O; rw [z4] at this; rw [this, hO], by rw [HZ3.out]; omega, by rw [HZ3.out]; exact xL _, World.ownsRow_nil _ _ _ 2, fun _ => rfl, mapV_below (mapV_made w3) (trw.qg _ O)⟩)
 have HB5 := xH (trw.qi (trw.qg w3 (.map #[] 0)) (trw.qg _ O));have HZ5 := xH (show ((w3.alloc (.map #[] 0)).alloc O).heap.size = w3.heap.size + 2 by rw [World.size_alloc, z4]);subst hO;clear z4;go_wp2_with fail
 rw [hmm];go_upto_region 3 with (fail)
 generalize (w3.alloc (.map #[] 0)).alloc _ = w5 at *;clear hmm;have HAS := xH (assign_all (j.size + 1) w5 (T + 1) (w3.heap.size + 1) w3.heap.size T 0 w1.heap.size T (ndC y).toArray y j _ (0, []) (Nat.lt_succ_self _) ((HB5.out.block T (by rw [HZ3.out]; omega)).trans HT3.out) (fun i u hu => by simpa using hu) (Or.inr (xL _)) (Nat.lt_succ_self _) (Nat.le_succ _)
  (ndI_keep HN3.out fun i _ h2 => HB5.out.block i (by rw [HZ3.out]; omega)) HST.out (by rw [HZ5.out, HZ3.out]; omega) (Int.le_refl _) (by decide) (by
   have h1 : j.size = k.size := by have := congrArg F.size HS2.out;rw [zt, zt] at this;simp only [F.one, F.size] at this;omega
   have := HZ.out;simp only [List.length_nil];omega) (allNm_strip.1 (by rw [HS2.out]; exact allNm_strip.2 HM.out)))
 have HSM := xH (numN_same HS2.out (0, []));generalize hG : w3.heap.size + 1 = G at *;go_wp2_with fail
 refine HAS.out.mono ?_;rintro e w6 ⟨rfl, hch, hq⟩;rw [HSM.out.1] at hq ⊢;have HCH := xH hch;have HB6 := xH (show Below w.heap.size w w6 from (HB3.out.trans (HB5.out.mono (by have := HB3.out.size; omega))).trans ⟨hch.os, hch.tape, hch.output, hch.size, fun i hi => hch.block i (by have := HB2.out.size; have := HZ2.out; have := HTT.out; omega) (by have := HB2.out.size; have := HZ2.out; have := HTT.out; omega) (Or.inl (by have := HZ2.out; omega))⟩);have HQ6 := xH (show w6.heap[w.heap.size + 1]? = some (.cells zC.toArray 27 (0, 0)) from (hch.block _ (by have := HB2.out.size; have := HZ2.out; have := HTT.out; omega) (by have := HB2.out.size; have := HZ2.out; have := HTT.out; omega) (Or.inl (by have := HZ2.out; omega))).trans ((HB5.out.block _ (by have := HB2.out.size; have := HZ2.out; have := HTT.out; have := HZ3.out; omega)).trans ((HO3.out _ (by have := HB2.out.size; have := HZ2.out; omega)).trans ((HB2.out.block _ (by have := HZ2.out; omega)).trans HQ.out))));clear hch HAS;by_cases h0 : (numN x k (0, [])).1.1 = 0
 ·obtain ⟨hT, ⟨v6, hst⟩, hnd⟩ := hq h0;have be : ((numN x k (0, [])).1.1 != 0) = false := by rw [h0]; rfl
  rw [ent_nd] at hT;rw [numN_lab] at hnd;have HT6 := xH hT;have HS6 := xH hst;have HN6 := xH hnd;have H0 := xH h0;have HSL := xH (numN_lab y j (0, []));clear hT hst hnd h0 hq;generalize numN y j (0, []) = q at *;generalize entL y (0, []) = y6 at *;obtain ⟨⟨q1, q2⟩, ⟨q3, q4⟩, q5, q6⟩ := q;have hsl := HSL.out;simp only at hsl;subst hsl;have HO6 := xH (qp (ndI_at HN6.out));have HNP := xH (show qH (x, k) = numN x k (0, []) from rfl);generalize numN x k (0, []) = r at *;obtain ⟨⟨r1, r2⟩, ⟨r3, r4⟩, r5, r6⟩ := r;have HR := xH HSM.out.2;simp only at HR;obtain ⟨hr1, hr2⟩ := HR.out;simp only [Prod.mk.injEq] at hr1;obtain ⟨rfl, rfl⟩ := hr1;have HSE := xH hr2;clear hr2 HSM HR HSL;simp only at be;go_upto_region 6 with (fail)
  refine wp_region_held_drew (S := fun w' => w'.heap[T]? = w6.heap[T]? ∧ w'.heap[G]? = w6.heap[G]?) (by kernel_rfl) ⟨rfl, rfl⟩ (fun hHeld => ?_);refine xT 0 rfl (ndV q3) ?_ ?_
  ·intro w' hSw;refine jT (x := .tmp 7) (b := T) (off := 0) (l := q3) ?_ ?_ (fun i u hu => by rw [Nat.zero_add]; unfold World.cell?; rw [hSw.1, HT6.out]; simpa using hu) <;> rfl
  simp only [xS];refine xT 1 rfl ?_ ?_ ?_;rotate_left
  ·intro w' hSw;go_simp;try rfl
  simp only [xS];refine xT 2 rfl ?_ ?_ ?_;rotate_left
  ·intro w' hSw;go_simp;try rfl
  simp only [xS];refine xT 3 rfl ?_ ?_ ?_;rotate_left
  ·intro w' hSw;go_simp;try rfl
  simp only [xS];refine xT 4 rfl ?_ ?_ ?_;rotate_left
  ·intro w' hSw;have g0 := (World.cell?_of_block (a := ⟨G, 0, none⟩) hSw.2).trans HS6.out.c.c0;go_simp;try rfl
  simp only [xS];refine xT 5 rfl ?_ ?_ ?_;rotate_left
  ·intro w' hSw;go_simp;try rfl
  simp only [xS];refine xT 6 rfl ?_ ?_ ?_;rotate_left
  ·intro w' hSw;go_simp;try rfl
  simp only [xS];refine xT 7 rfl ?_ ?_ ?_;rotate_left
  ·intro w' hSw;go_simp;try rfl
  simp only [xS];refine xT 8 rfl ?_ ?_ ?_;rotate_left
  ·intro w' hSw;have g1 := (World.cell?_of_block (a := ⟨G, 1, none⟩) hSw.2).trans HS6.out.c.c1;go_simp;try rfl
  simp only [xS];refine xD 9 rfl (fun K hK => ?_);refine held_store_nv rfl rfl _ _ rfl (w.heap.size + 1) rfl _ q3 HQ6.out rfl HO6.out rfl ?_;have HXT := xH (show ∀ i, i ≠ w.heap.size + 1 → (w6.drew.setRow (w.heap.size + 1) (ndC q3).toArray).heap[i]? = w6.heap[i]? from fun i hi => tkw.setRow_other _ _ i _ hi);have HXN := xH (setRow_heap w6.drew (w.heap.size + 1) _ (ndC q3).toArray _ _ HQ6.out);have HXZ := xH (show (w6.drew.setRow (w.heap.size + 1) (ndC q3).toArray).heap.size = w6.heap.size from tkw.setRow_size _ _ _);have HXB := xH (show Below w.heap.size w (w6.drew.setRow (w.heap.size + 1) (ndC q3).toArray) from HB6.out.trans ⟨rfl, rfl, rfl, by rw [HXZ.out]; exact xL _, fun i hi => HXT.out i (by omega)⟩);generalize w6.drew.setRow _ _ = w7 at *;refine hK.out _ _ ⟨HXT.out T (by have := HB2.out.size; have := HZ2.out; have := HTT.out; omega), HXT.out G (by have := HB2.out.size; have := HZ2.out; have := HTT.out; have := HZ3.out; omega)⟩ (fun hHeld => ?_);clear hK K;try simp only [xS]
  refine xT 10 rfl ?_ ?_ ?_;rotate_left
  ·intro w' hSw;go_simp;try rfl
  simp only [xS];refine xT 11 rfl ?_ ?_ ?_;rotate_left
  ·intro w' hSw;go_simp;try rfl
  simp only [xS];refine xT 12 rfl ?_ ?_ ?_;rotate_left
  ·intro w' hSw;go_simp;try rfl
  simp only [xS];refine xT 13 rfl ?_ ?_ ?_;rotate_left
  ·intro w' hSw;go_simp;try rfl
  simp only [xS];refine wpAnyH_done (by kernel_rfl) ?_ _;go_wp2_with fail
  refine xB (results_num rfl _ _ (w.heap.size + 1) q3 rfl HXN.out) rfl ?_;refine ⟨HXB.out, Or.inr ⟨?_, q3, q4, v6, ?_, ?_, ?_, ?_, ?_⟩⟩
  ·rw [HNP.out]; exact H0.out
  ·rw [HNP.out]; rfl
  ·have hz := HXZ.out;rw [hz];exact ndI_hi (ndI_lo (ndI_keep HN6.out fun i h1 h2 => HXT.out i (by have := HZ2.out; omega)) (by have := HZ2.out; omega)) (by have := HCH.out.size; have := HZ5.out; have := HZ3.out; omega)
  ·rw [HNP.out]; exact HSE.out
  ·rw [HNP.out];exact own_base (tkw.jJ HS6.out.row fun i hi => HXT.out i (by have := own_below HS6.out.row hi; have := HB2.out.size; have := HZ2.out; have := HTT.out; omega)) (by have := HB2.out.size; have := HZ2.out; have := HTT.out; omega)
  ·rw [HNP.out]; exact HS6.out.nil
 ·have be : ((numN x k (0, [])).1.1 != 0) = true := bne_iff_ne.2 h0;have H0 := xH h0;clear h0 hq;have HNP := xH (show qH (x, k) = numN x k (0, []) from rfl);generalize numN x k (0, []) = r at *;obtain ⟨⟨r1, r2⟩, r3⟩ := r;simp only at be;have HO0 : Hid (∀ u ∈ ndC (lab 0 0), u.oneCell' = true) := xH (fun u hu => by simp only [ndC, lab, nil3, List.mem_cons, List.not_mem_nil, or_false] at hu;rcases hu with rfl | rfl | rfl | rfl | rfl | rfl | rfl | rfl | rfl | rfl | rfl | rfl <;> rfl)
  go_wp2_with (refine qh rfl rfl _ _ rfl (w.heap.size + 1) rfl _ (lab 0 0) HQ6.out rfl HO0.out rfl ?_)
  refine xB (results_num rfl _ _ (w.heap.size + 1) (lab 0 0) rfl (setRow_heap _ _ _ _ _ _ HQ6.out)) rfl ?_;exact ⟨HB6.out.trans ⟨rfl, rfl, rfl, by rw [tkw.setRow_size]; exact xL _, fun i hi => tkw.setRow_other _ _ i _ (by omega)⟩, Or.inl ⟨by rw [HNP.out]; exact H0.out, by rw [HNP.out]; rfl⟩⟩
end gpw
end
section
namespace gpw
open sq
open Go.Sort Go Go.RowKit Go.Maps setp setw tkp trp trw rpp gpp sq prw
open rpw (fC jP FSub jQ jd own_below qp vW qh qA)
open utfw (Sl at_ strOf)
open tkw (sg)
open rsw (flatP FlatB zH)
open rtp (rlexP)
open rsp (resP zU)
theorem cpOk_of : ∀ {f : F} {n : Nat}, NmS f → f.size ≤ 100000 → CpOk f
 | .nil, _, _, _ => trivial
 | .cons x k r, n, h, hs => by simp only [F.size] at hs;have := len_le k;exact ⟨h.1.2, by omega, cpOk_of (n := n) h.2.1 (by omega), cpOk_of (n := n) h.2.2 (by omega)⟩
theorem flat_ok {n : Nat} {g : Nat → Int} {o : Int} {t : F} (h : flatP (sg (strOf n g)) n o = some t) : NmS t ∧ t.size ≤ 100000 := by
 unfold flatP at h;split at h
 ·cases h
 ·rename_i T hT;have ht := rsw.rlex_ok hT;split at h
  ·cases h
  ·rename_i f hf;have hp := zU (fun t h => (ht.1 t h).1.s) hf;have hn := parse_nm (fun t h => (ht.1 t h).1.nm) hf;split at h
   ·cases h
   ·rename_i x k r;cases h;have hs := hp.2.1;simp only [F.size] at hs;have hz := res_sz x k o;exact ⟨nmS_res ⟨⟨hn.1, by have := hp.1.1; omega⟩, nmS_ok hp.1.2.2.1 hn.2.1, trivial⟩ o, by omega⟩
theorem zV {n : Nat} {g : Nat → Int} {o : Int} {t : F} (h : flatP (sg (strOf n g)) n o = some t) {y : Lab} {j : F} (hs : strip (F.one y j) = t) (w : World) (hn : NdAt w (y, j)) : Calls Try.prog 10 #[ndV y] w (NumB y j w) := by
 obtain ⟨h1, h2⟩ := flat_ok h;subst hs;have h3 : (F.one y j).size ≤ 100000 := by rw [← zt]; exact h2
 have h4 := nmS_strip.1 h1;refine vY w y j hn (cpOk_of (n := 0) h4 h3) (nmS_all h4) ?_;simp only [F.one, F.size] at h3;omega
theorem sl_lit (w : World) (t : TypeId) (fr : Nat × Nat) (l : List Int) (hl : ∀ x ∈ l, 0 ≤ x ∧ x ≤ 255) (hn : l.length ≤ 140737488355328) : Sl (w.alloc (.cells (l.map (Value.int .u8)).toArray t fr)) (.slice (some ⟨w.heap.size, 0, none⟩) l.length l.length) l.length (at_ l) := by
 refine ⟨fun i => ?_, hn, Or.inr ⟨w.heap.size, 0, l.length, rfl, ⟨xL _, by omega⟩, fun i hi => ?_⟩⟩
 ·unfold at_;by_cases hi : i < l.length
  ·have : l.getD i 0 ∈ l := by rw [show l.getD i 0 = l[i] by simp [List.getD, hi]];exact List.getElem_mem hi
   exact hl _ this
  ·rw [show l.getD i 0 = 0 by simp [List.getD, Nat.not_lt.1 hi]];omega
 ·rw [cell_of_row _ _ _ _ _ _ (heap_alloc_new w _)];simp [at_, List.getD, hi]
def pA : List Int := [40, 97, 41, 40, 63, 124, 40, 98, 41, 124, 40, 99, 41, 40, 100, 41, 41, 40, 101, 41]
def pB : List Int := [40, 63, 60, 110, 62, 97, 41, 40, 63, 60, 110, 62, 98, 41]
def third : F → Int
 | .cons _ _ (.cons _ _ (.cons x _ _)) => x.n
 | _ => 0
theorem zN : ∀ f : F, third (strip f) = third f
 | .nil => rfl
 | .cons _ _ .nil => rfl
 | .cons _ _ (.cons _ _ .nil) => rfl
 | .cons _ _ (.cons _ _ (.cons _ _ _)) => rfl
theorem awk_A : (match flatP (sg (strOf 20 (at_ pA))) 20 0 with
 | some (.cons x k .nil) => decide ((qH (x, k)).1.1 = 0) && decide ((qH (x, k)).2.2.1 = 4) && decide ((qH (x, k)).2.1.2.len = 3) && decide (third (qH (x, k)).2.1.2 = 4)
 | _ => false) = true := by decide +kernel
theorem awk_B : (match flatP (sg (strOf 14 (at_ pB))) 14 0 with
 | some (.cons x k .nil) => decide ((qH (x, k)).1 = (33, 7))
 | _ => false) = true := by decide +kernel
theorem awk_a {y : Lab} {j : F} (h : flatP (sg (strOf 20 (at_ pA))) 20 0 = some (strip (F.one y j))) : (qH (y, j)).1.1 = 0 ∧ (qH (y, j)).2.2.1 = 4 ∧ (qH (y, j)).2.1.2.len = 3 ∧ third (qH (y, j)).2.1.2 = 4 := by have h1 := awk_A;rw [h] at h1;have hs := numN_strip y j (0, []);unfold qH at h1 ⊢;simp only [F.one, strip, hs, Bool.and_eq_true, decide_eq_true_eq] at h1;rw [rpw.jm, zN] at h1;exact ⟨h1.1.1.1, h1.1.1.2, h1.1.2, h1.2⟩
theorem awk_b {y : Lab} {j : F} (h : flatP (sg (strOf 14 (at_ pB))) 14 0 = some (strip (F.one y j))) : (qH (y, j)).1 = (33, 7) := by have h1 := awk_B;rw [h] at h1;have hs := numN_strip y j (0, []);unfold qH at h1 ⊢;simp only [F.one, strip, hs, decide_eq_true_eq] at h1;exact h1
theorem some_A : ∃ t, flatP (sg (strOf 20 (at_ pA))) 20 0 = some t := by
 have h := awk_A;cases e : flatP (sg (strOf 20 (at_ pA))) 20 0 with
 | none => rw [e] at h; cases h
 | some t => exact ⟨t, rfl⟩
theorem some_B : ∃ t, flatP (sg (strOf 14 (at_ pB))) 14 0 = some t := by
 have h := awk_B;cases e : flatP (sg (strOf 14 (at_ pB))) 14 0 with
 | none => rw [e] at h; cases h
 | some t => exact ⟨t, rfl⟩
theorem flat_lit (w : World) (l : List Int) (hl : ∀ x ∈ l, 0 ≤ x ∧ x ≤ 255) (hn : l.length ≤ 140737488355328) (o : Int) : Calls Try.prog 9 #[.slice (some ⟨w.heap.size, 0, none⟩) l.length l.length, .int .i64 o] (w.alloc (.cells (l.map (Value.int .u8)).toArray 5 (l.length, l.length + 1)))
 fun e w' => ∃ R, flatP (sg (strOf l.length (at_ l))) l.length o = R ∧ FlatB R w e w' := by
 refine (zH _ l.length (at_ l) o _ (sl_lit w 5 _ l hl hn)).mono ?_;intro e w' h;exact ⟨_, rfl, trw.qi (trw.qg w _) h.1, h.2⟩
theorem kids_row {w : World} {x : Lab} {k : F} {lo hi : Nat} (h : NdI w x k lo hi) : ∃ B, x.kv = .slice (some ⟨B, 0, none⟩) k.len k.len ∧ ∀ j u, (fC k)[j]? = some u → w.cell? ⟨B, j, none⟩ = some u := by obtain ⟨_, a, B, _, _, _, _, h6, h7, _⟩ := h;exact ⟨B, h6, fun j u hj => by unfold World.cell?; rw [h7]; simpa using hj⟩
theorem third_at : ∀ {f : F}, f.len = 3 → (fC f)[29]? = some (.int .i64 (third f))
 | .nil, h => by cases h
 | .cons _ _ .nil, h => by cases h
 | .cons _ _ (.cons _ _ .nil), h => by cases h
 | .cons _ _ (.cons _ _ (.cons _ _ _)), _ => rfl
theorem strip_third {f g : F} (h : strip f = strip g) : f.len = g.len ∧ third f = third g := by have h1 := congrArg F.len h;have h2 := congrArg third h;rw [rpw.jm, rpw.jm] at h1;rw [zN, zN] at h2;exact ⟨h1, h2⟩
structure Sto (w w2 : World) (y : Lab) : Prop where
 b : Below w.heap.size w w2
 c : ∀ j u, (ndC y)[j]? = some u → w2.cell? ⟨w.heap.size, 0 + j, none⟩ = some u
 z : w2.heap.size = w.heap.size + 1
theorem zO (w : World) (y : Lab) : Sto w ((w.alloc (.cells zC.toArray 27)).setRow w.heap.size (ndC y).toArray) y :=
 ⟨rpw.qC (trw.qg w _) _ (xL _), fun j u hj => by rw [Nat.zero_add];unfold World.cell?;rw [setRow_heap _ _ _ (ndC y).toArray _ _ (heap_alloc_new w (.cells zC.toArray 27))];simpa using hj, by rw [tkw.setRow_size, World.size_alloc]⟩
theorem awake_any (w : World) : Calls Try.prog 8 #[] w (BoolB true w) := by
 have L1 := xH (flat_lit w pA (by decide) (by decide) 0);have L2 := xH (fun w1 => flat_lit w1 pB (by decide) (by decide) 0);unfold pA at L1;unfold pB at L2;have kc := fun (w : World) (C : Array Value) (n c : Nat) => Lib.run_convert_bytes_const (P := Try.prog) w 22 5 C n c Try.underlying22 Try.underlying5
 go_enter Try.func8, Try.ntmps8;go_wp2_with fail
 refine L1.out.mono ?_;rintro e w1 ⟨R, hR, hb1, hf⟩;have hR2 : flatP (sg (strOf 20 (at_ pA))) 20 0 = R := hR;obtain ⟨t, ht⟩ := some_A;rw [ht] at hR2;subst hR2;obtain ⟨y, j, rfl, hn, hs⟩ := hf;have hA := awk_a (y := y) (j := j) (by rw [ht, hs]);have HN1 := xH (zV ht hs);have HB1 := xH hb1;have HND := xH hn;have HA := xH hA;have HO := xH (qp hn);have HG := xH (heap_alloc_new w1 (.cells zC.toArray 27));have HS := xH (zO w1 y);unfold zC at HG HS;clear hR hb1 hn hA ht hs L1;go_upto_region 2 with (refine qh rfl rfl _ _ rfl w1.heap.size rfl _ y HG.out rfl HO.out rfl ?_)
 generalize (w1.alloc _).setRow _ _ = w2 at *;have HND2 := xH (trw.vO HS.out.b HND.out);go_wp2_with (first
  | (refine jv rfl _ rfl w1.heap.size 0 rfl y HS.out.c ?_)
  | (refine (HN1.out w2 HND2.out).mono ?_))
 rintro e w3 ⟨hb3, ⟨h0, _⟩ | ⟨h0, y3, j3, v3, rfl, hn3, hs3, hr3, hz3⟩⟩
 ·exact absurd HA.out.1 h0
 rw [HA.out.2.1];have hk := strip_third (f := j3) (g := (qH (y, j)).2.1.2) (by
  have := hs3;simp only [F.one, strip, F.cons.injEq, and_true] at this;exact this.2)
 rw [HA.out.2.2.1, HA.out.2.2.2] at hk;obtain ⟨B3, hkv3, hc3⟩ := kids_row hn3;have HK3 := xH (show y3.kv = .slice (some ⟨B3, 0, none⟩) 3 3 by rw [hkv3, hk.1]);have HC3 := xH (hc3 29 _ (third_at hk.1));have HT3 := xH hk.2;have HB3 := xH (trw.qi (trw.qi HB1.out HS.out.b) hb3);have HO3 := xH (qp (ndI_at hn3));have HG3 := xH (heap_alloc_new w3 (.cells zC.toArray 27));have HS3 := xH (zO w3 y3);obtain ⟨sa, sc, rfl⟩ := row_slice hr3;generalize (qH (y, j)).2.2.2.length = nl at *;unfold zC at HG3 HS3;clear hb3 h0 hn3 hs3 hr3 hz3 hk hkv3 hc3 HN1 HND HND2 HS HO HG HB1;dsimp only;go_upto_region 3 with (refine qh rfl rfl _ _ rfl w3.heap.size rfl _ y3 HG3.out rfl HO3.out rfl ?_)
 have k11 := HS3.out.c 11 _ rfl;simp only [Nat.zero_add] at k11;rw [HK3.out] at k11;have k29 := trw.qf HS3.out.b HC3.out;rw [HT3.out] at k29;have HB4 := xH (trw.qi HB3.out HS3.out.b);clear HK3 HC3 HT3 HB3 HO3 HG3 HS3;generalize (w3.alloc _).setRow _ _ = w4 at *;generalize hW3 : w3.heap.size = W3 at *;have K11 := xH k11;have K29 := xH k29;clear k11 k29 hW3;go_wp2_with fail
 refine (L2.out w4).mono ?_;rintro e w5 ⟨R, hR, hb5, hf⟩;have hR2 : flatP (sg (strOf 14 (at_ pB))) 14 0 = R := hR;obtain ⟨t, ht⟩ := some_B;rw [ht] at hR2;subst hR2;obtain ⟨y5, j5, rfl, hn, hs⟩ := hf;have HE := xH (awk_b (y := y5) (j := j5) (by rw [ht, hs]));have HN5 := xH (zV ht hs);have HO := xH (qp hn);have HG := xH (heap_alloc_new w5 (.cells zC.toArray 27));have HS := xH (zO w5 y5);have HND := xH hn;have HB5 := xH (trw.qi HB4.out hb5);have K11 := xH (trw.qf hb5 K11.out);have K29 := xH (trw.qf hb5 K29.out);unfold zC at HG HS;clear hR hb5 hn ht hs L2 HB4;dsimp only;go_upto_region 4 with (refine qh rfl rfl _ _ rfl w5.heap.size rfl _ y5 HG.out rfl HO.out rfl ?_)
 generalize (w5.alloc _).setRow _ _ = w6 at *;have HND2 := xH (trw.vO HS.out.b HND.out);have HB6 := xH (trw.qi HB5.out HS.out.b);have K11 := xH (trw.qf HS.out.b K11.out);have K29 := xH (trw.qf HS.out.b K29.out);go_wp2_with (first
  | (refine jv rfl _ rfl w5.heap.size 0 rfl y5 HS.out.c ?_)
  | (refine (HN5.out w6 HND2.out).mono ?_))
 rintro e w7 ⟨hb7, ⟨h0, rfl⟩ | ⟨h0, _⟩⟩;case inr => exact absurd (show (qH (y5, j5)).1.1 = 33 by rw [HE.out]) (by rw [h0]; decide)
 rw [HE.out];have HG7 := xH (heap_alloc_new w7 (.cells zC.toArray 27));have HS7 := xH (zO w7 (lab 0 0));have HO7 : Hid (∀ u ∈ ndC (lab 0 0), u.oneCell' = true) := xH (fun u hu => by simp only [ndC, lab, nil3, List.mem_cons, List.not_mem_nil, or_false] at hu;rcases hu with rfl | rfl | rfl | rfl | rfl | rfl | rfl | rfl | rfl | rfl | rfl | rfl <;> rfl)
 have HB7 := xH (trw.qi HB6.out hb7);have K11 := xH (trw.qf hb7 K11.out);have K29 := xH (trw.qf hb7 K29.out);unfold zC at HG7 HS7;clear hb7 h0 HE HN5 HO HG HS HND HND2 HB5 HB6;dsimp only;go_upto_region 5 with (refine qh rfl rfl _ _ rfl w7.heap.size rfl _ (lab 0 0) HG7.out rfl HO7.out rfl ?_)
 have HB8 := xH (trw.qi HB7.out HS7.out.b);have k11 := trw.qf HS7.out.b K11.out;have k29 := trw.qf HS7.out.b K29.out;clear K11 K29 HB7 HS7 HG7 HO7;generalize (w7.alloc _).setRow _ _ = w8 at *;go_wp2_with fail
 go_ret
 exact ⟨rfl, HB8.out⟩
theorem zero_one : ∀ u ∈ ndC (lab 0 0), u.oneCell' = true := fun u hu => by
 simp only [ndC, lab, nil3, List.mem_cons, List.not_mem_nil, or_false] at hu;rcases hu with rfl | rfl | rfl | rfl | rfl | rfl | rfl | rfl | rfl | rfl | rfl | rfl <;> rfl
end gpw
end
section
namespace gpp
open sq
open Go trp rpp
def numsL (x : Lab) : List Int := if x.kind = 14 then [x.n] else []
def numsF : F → List Int
 | .nil => []
 | .cons x k r => (numsL x ++ numsF k) ++ numsF r
def numsP (t : Nd) : List Int := numsL t.1 ++ numsF t.2
def rstF : F → Bool
 | .nil => false
 | .cons x k r => (decide (x.kind = 16) || rstF k) || rstF r
def rstP (t : Nd) : Bool := decide (t.1.kind = 16) || rstF t.2
def upL (a b : Int) : List Int := (List.range (b - a).toNat).map fun i => a + 1 + Int.ofNat i
theorem upL_nil (a : Int) : upL a a = [] := by unfold upL; rw [Int.sub_self]; rfl
theorem upL_one (a : Int) : upL a (a + 1) = [a + 1] := by unfold upL;rw [show (a + 1 - a).toNat = 1 by omega];simp [List.range_succ]
theorem upL_app {a b c : Int} (h1 : a ≤ b) (h2 : b ≤ c) : upL a b ++ upL b c = upL a c := by
 unfold upL;obtain ⟨m, rfl⟩ : ∃ m : Nat, b = a + m := ⟨(b - a).toNat, by omega⟩;obtain ⟨n, rfl⟩ : ∃ n : Nat, c = a + m + n := ⟨(c - (a + m)).toNat, by omega⟩;rw [show (a + (m : Int) - a).toNat = m by omega, show (a + (m : Int) + n - (a + m)).toNat = n by omega, show (a + (m : Int) + n - a).toNat = m + n by omega, List.range_add, List.map_append, List.map_map]
 congr 1
 apply List.map_congr_left;intro i _;simp only [Function.comp, Int.ofNat_eq_natCast];omega
theorem mem_upL {a b i : Int} : i ∈ upL a b ↔ a < i ∧ i ≤ b := by
 unfold upL;simp only [List.mem_map, List.mem_range, Int.ofNat_eq_natCast];constructor
 ·rintro ⟨j, h, rfl⟩;omega
 ·intro h;exact ⟨(i - a - 1).toNat, by omega, by omega⟩
theorem upL_nodup (a b : Int) : (upL a b).Nodup := by
 unfold upL;rw [List.nodup_iff_pairwise_ne, List.pairwise_map];refine (List.nodup_iff_pairwise_ne.1 List.nodup_range).imp fun h e => h ?_
 simp only [Int.ofNat_eq_natCast] at e;omega
theorem upL_len (a b : Int) : (upL a b).length = (b - a).toNat := by simp [upL]
theorem ent_nums (x : Lab) (s : St) : numsL (entL x s) = upL s.1 (entS x s).2.1 ∧ (entL x s).kind = x.kind := by
 unfold entL entS numsL;by_cases h : x.kind = 14
 ·simp only [if_pos h];have : (zy x.name s).2.1 = s.1 + 1 := by
   unfold zy;split
   ·rfl
   ·split
    ·rfl
    ·split <;> rfl
  rw [this, upL_one];exact ⟨rfl, trivial⟩
 ·simp only [if_neg h];exact ⟨(upL_nil _).symm, trivial⟩
def Cov (a lg L : Int) (l : List Int) : Prop := lg ≤ L ∧ (∀ m ∈ l, a < m ∧ m ≤ L) ∧ ∀ i, lg < i → i ≤ L → i ∈ l
theorem numF_cov : ∀ (f : F) (rs : Bool) (bef lg : Int) (s : St), (if rs = true then bef else s.1) ≤ lg → (numF rs bef f lg s).1.1 = 0 → Cov (if rs = true then bef else s.1) lg (numF rs bef f lg s).2.2.1 (numsF (numF rs bef f lg s).2.1) ∧ (rs = false → s.1 = lg → (numF rs bef f lg s).2.2.2.1 = (numF rs bef f lg s).2.2.1)
 | .nil, rs, bef, lg, s, h, _ => ⟨⟨Int.le_refl _, ⟨fun m hm => (List.not_mem_nil hm).elim, fun i h1 h2 => (by have h3 : i ≤ lg := h2; omega)⟩⟩, fun _ h => h⟩
 | .cons x k r, rs, bef, lg, s, h, he => by
  rw [numF_cons] at he ⊢;unfold numN at he ⊢;generalize hs : ((if rs = true then bef else s.1, s.2) : St) = s0 at he ⊢;have z0 : (if rs = true then bef else s.1) = s0.1 := by subst hs; rfl
  have e1 := ent_nums x s0;have e2 := (ent_le x s0).1;generalize hl : entL x s0 = xl at *;generalize entS x s0 = e at *;by_cases k1 : e.1 ≠ 0
  ·simp only [if_pos k1] at he;exact absurd he k1
  ·have ih := numF_cov k (decide (x.kind = 16)) e.2.1 e.2.1 e.2 (by split <;> omega);simp only [if_neg k1] at he ⊢;generalize numF (decide (x.kind = 16)) e.2.1 k e.2.1 e.2 = q at *;by_cases k2 : q.1.1 ≠ 0
   ·simp only [if_pos k2] at he;exact absurd he k2
   ·have ih' := (ih (by omega)).1;rw [show (if decide (x.kind = 16) = true then e.2.1 else e.2.1) = e.2.1 by split <;> rfl] at ih';simp only [if_neg k2] at he ⊢;have k3 : ¬ (0 : Int) ≠ 0 := by omega
    simp only [if_neg k3] at he ⊢;have ih2 := numF_cov r rs bef (max lg q.2.2.1) (q.2.2.1, q.2.2.2.2) (by
     cases rs
     ·simp only [Bool.false_eq_true, if_false]; omega
     ·simp only [if_true] at h ⊢; omega) he
    generalize numF rs bef r (max lg q.2.2.1) (q.2.2.1, q.2.2.2.2) = t at *;rw [z0] at h ⊢;refine ⟨⟨by have := ih2.1.1; omega, ?_, ?_⟩, ?_⟩
    ·intro m hm;have b1 := ih2.1.1;have b2 := ih'.1;simp only [numsF, List.mem_append] at hm;rcases hm with (hm | hm) | hm
     ·rw [e1.1] at hm;have := mem_upL.1 hm;omega
     ·have := ih'.2.1 m hm;omega
     ·have := ih2.1.2.1 m hm;refine ⟨?_, this.2⟩;cases rs
      ·simp only [Bool.false_eq_true, if_false] at this;omega
      ·simp only [if_true] at this z0;omega
    ·intro i h1 h2;simp only [numsF, List.mem_append];by_cases c1 : i ≤ e.2.1
     ·exact Or.inl (Or.inl (by rw [e1.1]; exact mem_upL.2 ⟨by omega, c1⟩))
     ·by_cases c2 : i ≤ q.2.2.1
      ·exact Or.inl (Or.inr (ih'.2.2 i (by omega) c2))
      ·exact Or.inr (ih2.1.2.2 i (by omega) h2)
    ·intro h3 h4;subst h3;refine ih2.2 rfl ?_;have := ih'.1;simp only [Bool.false_eq_true, if_false] at z0;show q.2.2.1 = max lg q.2.2.1;omega
theorem numF_up : ∀ (f : F) (s : St), rstF f = false → (numF false s.1 f s.1 s).1.1 = 0 → numsF (numF false s.1 f s.1 s).2.1 = upL s.1 (numF false s.1 f s.1 s).2.2.1 := by
 have key : ∀ (f : F) (bef lg : Int) (s : St), s.1 = lg → rstF f = false → (numF false bef f lg s).1.1 = 0 → numsF (numF false bef f lg s).2.1 = upL s.1 (numF false bef f lg s).2.2.1 := by
  intro f
  induction f with
  | nil => intro bef lg s h _ _; subst h; exact (upL_nil _).symm
  | cons x k r ihk ihr =>
   intro bef lg s h hr he;have hc := (numF_cov (.cons x k r) false bef lg s (by simp only [Bool.false_eq_true, if_false]; omega) he).1.1;rw [numF_cons] at he hc ⊢;unfold numN at he hc ⊢;simp only [rstF, Bool.or_eq_false_iff, decide_eq_false_iff_not] at hr;simp only [Bool.false_eq_true, if_false, decide_eq_false hr.1.1] at he hc ⊢;have e1 := ent_nums x (s.1, s.2);have e2 := (ent_le x (s.1, s.2)).1;generalize hl : entL x (s.1, s.2) = xl at *;generalize entS x (s.1, s.2) = e at *;by_cases k1 : e.1 ≠ 0
   ·simp only [if_pos k1] at he;exact absurd he k1
   ·have ih := ihk e.2.1 e.2.1 e.2 rfl hr.1.2;have cv := numF_cov k false e.2.1 e.2.1 e.2 (by simp);simp only [if_neg k1] at he hc ⊢;generalize numF false e.2.1 k e.2.1 e.2 = q at *;by_cases k2 : q.1.1 ≠ 0
    ·simp only [if_pos k2] at he;exact absurd he k2
    ·have ih' := ih (by omega);have cv' := (cv (by omega)).1.1;simp only [if_neg k2] at he hc ⊢;have k3 : ¬ (0 : Int) ≠ 0 := by omega
     simp only [if_neg k3] at he hc ⊢;have hmx : max lg q.2.2.1 = q.2.2.1 := by simp only at e2; omega
     rw [hmx] at he hc ⊢;have ih2 := ihr bef q.2.2.1 (q.2.2.1, q.2.2.2.2) rfl hr.2 he;have cv2 := (numF_cov r false bef q.2.2.1 (q.2.2.1, q.2.2.2.2) (by simp) he).1.1;generalize numF false bef r q.2.2.1 (q.2.2.1, q.2.2.2.2) = t at *;simp only [numsF];rw [ih', ih2, e1.1, upL_app (by simpa using e2) cv', upL_app (by simp only at e2; omega) cv2]
 intro f s h1 h2;exact key f s.1 s.1 s rfl h1 h2
theorem num_rise (x : Lab) (k : F) (h : (qH (x, k)).1.1 = 0) : 0 ≤ (qH (x, k)).2.2.1 ∧ (∀ i, i ∈ numsP (qH (x, k)).2.1 ↔ 0 < i ∧ i ≤ (qH (x, k)).2.2.1) ∧ (rstP (x, k) = false → numsP (qH (x, k)).2.1 = upL 0 (qH (x, k)).2.2.1) := by
 unfold qH numN at h ⊢;have e1 := ent_nums x (0, []);have e2 := (ent_le x (0, [])).1;simp only at h ⊢;generalize hl : entL x (0, []) = xl at *;generalize entS x (0, []) = e at *;by_cases k1 : e.1 ≠ 0
 ·simp only [if_pos k1] at h;exact absurd h k1
 ·have cv := numF_cov k (decide (x.kind = 16)) e.2.1 e.2.1 e.2 (by split <;> omega);have up : decide (x.kind = 16) = false → rstF k = false → (numF (decide (x.kind = 16)) e.2.1 k e.2.1 e.2).1.1 = 0 → numsF (numF (decide (x.kind = 16)) e.2.1 k e.2.1 e.2).2.1 = upL e.2.1 (numF (decide (x.kind = 16)) e.2.1 k e.2.1 e.2).2.2.1 := by intro a b;rw [a];exact numF_up k e.2 b
  simp only [if_neg k1] at h ⊢;generalize numF (decide (x.kind = 16)) e.2.1 k e.2.1 e.2 = q at *;by_cases k2 : q.1.1 ≠ 0
  ·simp only [if_pos k2] at h;exact absurd h k2
  ·have cv' := (cv (by omega)).1;rw [show (if decide (x.kind = 16) = true then e.2.1 else e.2.1) = e.2.1 by split <;> rfl] at cv';simp only [if_neg k2] at h ⊢;have b1 := cv'.1;simp only at e2;refine ⟨by omega, fun i => ?_, fun hr => ?_⟩
   ·unfold numsP;simp only [List.mem_append, e1.1, mem_upL];constructor
    ·rintro (h | h)
     ·omega
     ·have := cv'.2.1 i h;omega
    ·intro h;by_cases c1 : i ≤ e.2.1
     ·exact Or.inl ⟨h.1, c1⟩
     ·exact Or.inr (cv'.2.2 i (by omega) h.2)
   ·unfold rstP at hr;simp only [Bool.or_eq_false_iff] at hr;unfold numsP;simp only;rw [e1.1, up hr.1 hr.2 (by omega), upL_app (by simpa using e2) b1]
theorem rise_len {l : List Int} {b : Int} (h0 : 0 ≤ b) (hn : l.Nodup) (h : ∀ i, i ∈ l ↔ 0 < i ∧ i ≤ b) : (l.length : Int) = b := by
 have hp : l.Perm (upL 0 b) := (List.perm_ext_iff_of_nodup hn (upL_nodup 0 b)).2 fun i => by rw [h, mem_upL]
 rw [hp.length_eq, upL_len];omega
end gpp
end
section
namespace gpw
open sq
open Go.Sort Go Go.RowKit Go.Maps setp setw tkp trp trw rpp gpp sq prw
open rpw (fC jP FSub jQ jd own_below qp vW)
def FindB (b : Bool) (w : World) (e : Ending) (w' : World) : Prop := ∃ i : Int, e = .returned (.tuple #[.int .i64 i, .bool b]) ∧ Below w.heap.size w w'
theorem find_all : ∀ (z : Nat) (w : World) (x : Lab) (k : F) (hz : k.size < z) (hn : NdAt w (x, k)), Calls Try.prog 16 #[ndV x] w (FindB (rstP (x, k)) w) := by
 intro z;refine Nat.rec ?_ (fun z ih => ?_) z
 ·intro w x k hz;exact absurd hz (Nat.not_lt_zero _)
 intro w x k hz hn;have IH := xH (@ih);clear ih;have HN := xH hn;have HZ := xH hz;obtain ⟨ka, kq, hkv⟩ := kids_len hn.2.2;have hkl : k.len ≤ 9223372036854775807 := by obtain ⟨a, q, e, h1, h2, _⟩ := hn.2.2; exact Nat.le_trans h1 h2
 have HKV := xH hkv;have HP := xH (heap_alloc_new w (.cells (ndC x).toArray 27));have HB := xH (trw.qg w (.cells (ndC x).toArray 27));clear hn hz hkv;unfold ndC at HP HB;unfold ndV;go_enter Try.func16, Try.ntmps16;go_upto_region 1 with (fail)
 generalize w.alloc _ = w1 at *;have c0 : w1.cell? ⟨w.heap.size, 0, none⟩ = some (.int .i64 x.kind) := by unfold World.cell?; rw [HP.out]; rfl
 by_cases h16 : x.kind = 16
 ·have b16 : (x.kind == 16) = true := by simp [h16]
  have HR := xH (show rstP (x, k) = true by unfold rstP; simp [h16]);clear h16;go_wp2_with fail
  refine xB (results_tmp2 rfl _ _ _) rfl ?_;exact ⟨0, by rw [HR.out]; rfl, HB.out⟩
 have b16 : (x.kind == 16) = false := by simp [h16]
 have HR := xH (show rstP (x, k) = rstF k by unfold rstP; simp [h16]);clear h16;go_wp2_with fail
 go_loopw [4] (fun v4 wr => ∃ i : Nat, v4 = .int .i64 i ∧ i ≤ k.len ∧ Hid (rstF k = rstF (k.drop i)) ∧ Hid (Below w1.heap.size w1 wr)) (fun v4 _ => k.len - (intOf v4).toNat)
 case atStart => exact ⟨0, rfl, Nat.zero_le _, xH (by cases k <;> rfl), xH (Below.refl _ _)⟩
 case round =>
  obtain ⟨i, rfl, hi, HE, HBB⟩ := hrel;have c11 : wr.cell? ⟨w.heap.size, 11, none⟩ = some (.slice ka k.len kq) := trw.qf HBB.out (by unfold World.cell?; rw [HP.out]; show some x.kv = _; rw [HKV.out]);by_cases hlt : i < k.len
  ·obtain ⟨x', kk, r, hd⟩ := drop_lt hlt;obtain ⟨b, o, q, hv, _, _, _, hf⟩ := kid_at HN.out.2.2 hd;rw [HKV.out] at hv;cases hv;have HWR := xH (trw.qi HB.out HBB.out);have HFH := xH (trw.vO HWR.out (trw.fAt_head hf));have HCE := xH (show ∀ j u, (ndC x')[j]? = some u → wr.cell? ⟨b, o + i * 12 + j, none⟩ = some u from fun j u hj => trw.qf HWR.out (hf.1 j u hj));have HSZ := xH (show kk.size < z by have := size_lt hd; have := HZ.out; omega);have HD2 := xH (show rstF (k.drop i) = (rstP (x', kk) || rstF (k.drop (i + 1))) from by rw [hd, drop_succ hd]; rfl);clear hd hf;have hkl2 : i < 9223372036854775807 := by omega
   go_wp2_with (first
    | (refine jv rfl _ rfl b (o + i * 12) rfl x' HCE.out ?_)
    | (refine (IH.out wr x' kk HSZ.out HFH.out).mono ?_))
   rintro e w5 ⟨ix, rfl, hb⟩;have HBN := xH (trw.qi HBB.out hb);clear hb c11 HCE HFH;cases hp : rstP (x', kk);case true =>
    have HRR := xH (show rstP (x, k) = true by rw [HR.out, HE.out, HD2.out, hp]; rfl);clear hp;go_wp2_with fail
    refine xB (results_tmp2 rfl _ _ _) rfl ?_;exact ⟨_, by rw [HRR.out]; rfl, trw.qi HB.out HBN.out⟩
   have HEN := xH (show rstF k = rstF (k.drop (i + 1)) by rw [HE.out, HD2.out, hp]; rfl);clear hp;go_wp2_with fail
   go_roundw
   case rel => exact ⟨i + 1, by go_num, by omega, HEN, HBN⟩
   case measure => simp [intOf]; omega
  ·have HRR := xH (show rstP (x, k) = false from by
    rw [HR.out, HE.out];cases hd : k.drop i with
    | nil => rfl
    | cons a b c =>
     have := drop_len k i;rw [hd] at this;simp only [F.len] at this;omega)
   have hd : decide (i < k.len) = false := by simpa using hlt
   clear hlt;go_wp2_with fail
   refine xB (results_tmp2 rfl _ _ _) rfl ?_;exact ⟨_, by rw [HRR.out]; rfl, trw.qi HB.out HBB.out⟩
end gpw
end
section
namespace gpw
open sq
open Go.Sort Go Go.RowKit Go.Maps setp setw tkp trp trw rpp gpp sq prw
open ucdw (OwnI IntsAt intsAt_own ownI_nil ic)
open rpw (fC jP FSub jQ jd own_below qp vW)
def NumsB (l : List Int) (w : World) (e : Ending) (w' : World) : Prop := ∃ v, e = .returned v ∧ OwnI w' w.heap.size v l ∧ Below w.heap.size w w'
theorem nums_len : ∀ f : F, (numsF f).length ≤ f.size
 | .nil => xL _
 | .cons x k r => by
  have h1 := nums_len k;have h2 := nums_len r;simp only [numsF, List.length_append, F.size];have h3 : (numsL x).length ≤ 1 := by unfold numsL; split <;> simp
  omega
theorem numsL_len (x : Lab) : (numsL x).length ≤ 1 := by unfold numsL; split <;> simp
theorem wpList_append_io {ops : Array Oper} {rest : List Oper} {o : Oper} {a : Act} {w : World} {Q : Exit → Act → World → Prop} (hgd : o.guard = none) (s x : Operand)
 (ho : o.op = .call { callee := .builtin .append, args := #[s, x], argTypes := #[37, 37] }) (base b2 : Nat) (v vx : Value) (D S : List Int) (hs : a.eval s = v) (hown : OwnI w base v D) (hx : a.eval x = vx) (hS : OwnI w b2 vx S)
 (hlen : D.length + S.length ≤ 100000000) (hbase : base ≤ w.heap.size)
 (h : ∀ v' w', OwnI w' base v' (D ++ S) → (∀ B w1, Below B w1 w → B ≤ base → Below B w1 w') → wpList Try.prog ops Q rest (a.put o.dst v') w') :
 wpList Try.prog ops Q (o :: rest) a w := by
 by_cases h0 : S = []
 ·subst h0;obtain ⟨i0, hi, hz0, hz1, hz2⟩ := info_parts ucdw.infoInt;obtain ⟨ga, gc, rfl⟩ := trw.zJ hS;refine wpList_plain hgd fun K hK => ?_
  have hrun := run_append_zero (P := Try.prog) (w := w) 37 o.type i0 Try.underlying37 hi hown ga gc;have hx' : a.eval x = .slice ga 0 gc := hx;unfold Oper.wp;simp [execOp, ho, resolve, invoke, builtin, hs, hx', hrun, Result.andThen];exact hK _ _ (h v w (by simpa using hown) (fun B w0 hb _ => hb))
 ·rcases intsAt_own hS h0 with ⟨e, _⟩ | ⟨_, g, cap, rfl, hb1, hb2, hc1, hc2, hc⟩
  ·exact absurd e h0
  exact wpList_append_is hgd s x ho base v D hs hown S g 0 S.length cap hx rfl (fun i hi => by rw [Nat.zero_add]; exact hc i hi) hlen hbase h
theorem ownI_base {w : World} {a b : Nat} {v : Value} {l : List Int} (h : OwnI w a v l) (hb : b ≤ a) : OwnI w b v l := by
 refine ⟨h.1, ?_⟩;rcases h.2 with h | ⟨g, cap, cur, h1, h2, h3⟩
 ·exact Or.inl h
 ·exact Or.inr ⟨g, cap, cur, h1, Nat.le_trans hb h2, h3⟩
theorem numbers_all : ∀ (z : Nat) (w : World) (x : Lab) (k : F) (hz : k.size < z) (hz2 : k.size ≤ 200000) (hn : NdAt w (x, k)), Calls Try.prog 15 #[ndV x] w (NumsB (numsP (x, k)) w) := by
 intro z;refine Nat.rec ?_ (fun z ih => ?_) z
 ·intro w x k hz;exact absurd hz (Nat.not_lt_zero _)
 intro w x k hz hz2 hn;have IH := xH (@ih);clear ih;have HN := xH hn;have HZ := xH hz;have HZ2 := xH hz2;obtain ⟨ka, kq, hkv⟩ := kids_len hn.2.2;have hkl : k.len ≤ 9223372036854775807 := by obtain ⟨a, q, e, h1, h2, _⟩ := hn.2.2; exact Nat.le_trans h1 h2
 have HKV := xH hkv;have HP := xH (heap_alloc_new w (.cells (ndC x).toArray 27));have HB := xH (trw.qg w (.cells (ndC x).toArray 27));have HLT := xH (show w.heap.size < (w.alloc (.cells (ndC x).toArray 27)).heap.size by rw [World.size_alloc]; omega);clear hn hz hz2 hkv;unfold ndC at HP HB HLT;unfold ndV;go_enter Try.func15, Try.ntmps15;go_upto_region 2 with (fail)
 generalize w.alloc _ = w1 at *;have c0 : w1.cell? ⟨w.heap.size, 0, none⟩ = some (.int .i64 x.kind) := by unfold World.cell?; rw [HP.out]; rfl
 have c5 : w1.cell? ⟨w.heap.size, 5, none⟩ = some (.int .i64 x.n) := by unfold World.cell?; rw [HP.out]; rfl
 go_upto_if 7 with (fail)
 go_cut [3] (fun v3 wx => Hid (OwnI wx w1.heap.size v3 (numsL x)) ∧ Hid (Below w1.heap.size w1 wx))
 case first =>
  by_cases h14 : x.kind = 14
  ·have b14 : (x.kind == 14) = true := by simp [h14]
   have HR := xH (show numsL x = [] ++ [x.n] by unfold numsL; simp [h14]);clear h14;go_wp2_with (at_builtin; refine wpList_append_i' rfl _ _ rfl w1.heap.size (.slice none 0 0) [] rfl (ownI_nil _ _) x.n _ rfl rfl (by simp) (xL _) ?_)
   intro va wa hoa hba;have HOa := xH hoa;have HBa := xH (hba _ _ (Below.refl _ _) (xL _));clear hoa hba;go_wp2_with fail
   go_meet
   exact ⟨by rw [HR.out]; exact HOa, HBa⟩
  ·have b14 : (x.kind == 14) = false := by simp [h14]
   have HR := xH (show numsL x = [] by unfold numsL; simp [h14]);clear h14;go_wp2_with fail
   go_meet
   exact ⟨by rw [HR.out]; exact xH (ownI_nil _ _), xH (Below.refl _ _)⟩
 case rest =>
  obtain ⟨HO0, HB0⟩ := hcut;clear c0 c5;have HLX := xH (show (numsP (x, k)).length ≤ 200001 by have h1 := nums_len k;have h2 := numsL_len x;have h3 := HZ2.out;unfold numsP;simp only [List.length_append];omega)
  rename_i v3 wx;go_wp2_with fail
  go_loopw [3, 4] (fun v3 v4 wr => ∃ (i : Nat) (acc : List Int), v4 = .int .i64 i ∧ i ≤ k.len ∧ Hid (OwnI wr w1.heap.size v3 acc) ∧ Hid (numsP (x, k) = acc ++ numsF (k.drop i)) ∧ Hid (Below w1.heap.size w1 wr)) (fun _ v4 _ => k.len - (intOf v4).toNat)
  case atStart => exact ⟨0, numsL x, rfl, Nat.zero_le _, HO0, xH (by unfold numsP; cases k <;> rfl), HB0⟩
  case round =>
   obtain ⟨i, acc, rfl, hi, HOW, HE, HBB⟩ := hrel;have c11 : wr.cell? ⟨w.heap.size, 11, none⟩ = some (.slice ka k.len kq) := trw.qf HBB.out (by unfold World.cell?; rw [HP.out]; show some x.kv = _; rw [HKV.out]);by_cases hlt : i < k.len
   ·obtain ⟨x', kk, r, hd⟩ := drop_lt hlt;obtain ⟨b, o, q, hv, _, _, _, hf⟩ := kid_at HN.out.2.2 hd;rw [HKV.out] at hv;cases hv;have HWR := xH (trw.qi HB.out HBB.out);have HFH := xH (trw.vO HWR.out (trw.fAt_head hf));have HCE := xH (show ∀ j u, (ndC x')[j]? = some u → wr.cell? ⟨b, o + i * 12 + j, none⟩ = some u from fun j u hj => trw.qf HWR.out (hf.1 j u hj));have HSZ := xH (show kk.size < z ∧ kk.size ≤ 200000 by have := size_lt hd; have := HZ.out; have := HZ2.out; omega);have HD2 := xH (show numsF (k.drop i) = numsP (x', kk) ++ numsF (k.drop (i + 1)) from by rw [hd, drop_succ hd]; rfl);clear hd hf;have hkl2 : i < 9223372036854775807 := by omega
    go_wp2_with (first
     | (refine jv rfl _ rfl b (o + i * 12) rfl x' HCE.out ?_)
     | (refine (IH.out wr x' kk HSZ.out.1 HSZ.out.2 HFH.out).mono ?_))
    rintro e w5 ⟨v5, rfl, ho5, hb⟩;have HO5 := xH ho5;have HOA := xH (show OwnI w5 w1.heap.size _ acc from jJ HOW.out fun q hq => hb.block q (World.ownsRow.lt HOW.out q hq).2);have HB5 := xH (trw.qi HBB.out hb);have HEN := xH (show numsP (x, k) = (acc ++ numsP (x', kk)) ++ numsF (k.drop (i + 1)) by rw [HE.out, HD2.out, List.append_assoc]);have HLN := xH (show acc.length + (numsP (x', kk)).length ≤ 100000000 by have h1 := HLX.out;rw [HEN.out] at h1;simp only [List.length_append] at h1;omega)
    clear hb ho5 c11 HCE HFH HOW;go_wp2_with (at_builtin; refine wpList_append_io rfl _ _ rfl w1.heap.size wr.heap.size _ v5 acc (numsP (x', kk)) rfl HOA.out rfl HO5.out HLN.out HB5.out.size ?_)
    intro va wa hoa hba;have HOn := xH hoa;have HBn := xH (hba _ _ HB5.out (xL _));clear hoa hba;go_wp2_with fail
    go_roundw
    case rel => exact ⟨i + 1, _, by go_num, by omega, HOn, HEN, HBn⟩
    case measure => simp [intOf]; omega
   ·have HRR := xH (show numsP (x, k) = acc from by
     rw [HE.out];cases hd : k.drop i with
     | nil => exact List.append_nil _
     | cons a b c =>
      have := drop_len k i;rw [hd] at this;simp only [F.len] at this;omega)
    have hd : decide (i < k.len) = false := by simpa using hlt
    clear hlt;go_wp2_with fail
    go_ret
    exact ⟨_, rfl, by rw [HRR.out]; exact ownI_base HOW.out (Nat.le_of_lt HLT.out), trw.qi HB.out HBB.out⟩
end gpw
end
section
namespace gpw
open sq
open Go Go.RowKit Go.Maps gpp
open prw (RV rv_inv grown_of_below)
def keyN (n : Int) : Lit := .int .i64 n
theorem keyN_inj {a b : Int} (h : keyN a = keyN b) : a = b := by unfold keyN at h;simp only [Lit.int.injEq] at h;exact h.2
def LI : List Int → DataW Value
 | [] => .map []
 | p :: l => (LI l).put (keyN p) (.held (.int .i64 1))
theorem li_tidy : ∀ l, Tidy (LI l)
 | [] => tidy_empty
 | _ :: l => (li_tidy l).put (show WideAt.IsKeyLit (.int _ _) from trivial) _
theorem at_LI (n : Int) : ∀ l, (LI l).atKey (keyN n) (.held (.int .i64 0)) = .held (.int .i64 (if n ∈ l then 1 else 0))
 | [] => rfl
 | p :: l => by
  unfold LI;by_cases h : n = p
  ·subst h;rw [if_pos (List.mem_cons_self ..)];exact atKey_put_same (li_tidy l).isMap (show WideAt.IsKeyLit (.int _ _) from trivial) _ _
  ·rw [atKey_put_other (fun e => h (keyN_inj e)), at_LI n l];simp [h]
theorem has_LI (n : Int) : ∀ l, Maps.has (LI l) (keyN n) = decide (n ∈ l)
 | [] => rfl
 | p :: l => by
  unfold LI;by_cases h : n = p
  ·subst h;rw [has_put_same (li_tidy l).isMap (show WideAt.IsKeyLit (keyN n) from trivial)];simp
  ·rw [has_put_other (fun e => h (keyN_inj e)), has_LI n l];simp [h]
theorem size_LI : ∀ l : List Int, ∃ M : List Int, M.Nodup ∧ (∀ i, i ∈ M ↔ i ∈ l) ∧ Maps.size (LI l) = M.length
 | [] => ⟨[], List.nodup_nil, fun _ => Iff.rfl, rfl⟩
 | p :: l => by
  obtain ⟨M, h1, h2, h3⟩ := size_LI l;unfold LI;rw [size_put (li_tidy l), has_LI, h3];by_cases h : p ∈ l
  ·refine ⟨M, h1, fun i => ?_, by simp [h]⟩;rw [h2, List.mem_cons];constructor
   ·exact Or.inr
   ·rintro (rfl | h')
    ·exact h
    ·exact h'
  ·refine ⟨p :: M, List.nodup_cons.2 ⟨fun e => h ((h2 p).1 e), h1⟩, fun i => ?_, by simp [h]⟩;rw [List.mem_cons, List.mem_cons, h2]
def MapI (w : World) (b n : Nat) (L : List Int) : Prop := w.ownsMap Try.prog 3 RV b n (LI L)
theorem mapI_below {w w' : World} {b n : Nat} {L : List Int} (h : MapI w b n L) (hb : Below w.heap.size w w') : MapI w' b n L := World.ownsMap.kept h (grown_of_below hb none) (by simp)
theorem mapI_made (w : World) : MapI (w.alloc (.map #[] 0)) w.heap.size 0 [] := World.ownsMap_made w _ _ _
theorem wf_small {n : Int} (h1 : -9223372036854775808 ≤ n) (h2 : n ≤ 9223372036854775807) : (Lit.int .i64 n).wf = true := by
 have e1 : IntKind.i64.min = -9223372036854775808 := by decide
 have e2 : IntKind.i64.max = 9223372036854775807 := by decide
 simp [Lit.wf];omega
theorem wpList_put_i {w : World} {ops : Array Oper} {rest : List Oper} {o : Oper} {a : Act} {Q : Exit → Act → World → Prop} (hg : o.guard = none) (hd : o.dst = none) (m x v : Operand) (hop : o.op = Op.mapUpdate 39 m x v) (key : Int) (hx : a.eval x = .int .i64 key)
 (b n : Nat) (L : List Int) (hm : a.eval m = .map (some b)) (hown : MapI w b n L) (hn : n < 1000000) (hk : (Lit.int .i64 key).wf = true) (hv : a.eval v = .int .i64 1)
 (hK : ∀ w', MapI w' b (n + 1) (key :: L) → w.grownBy w' (some b) → wpList Try.prog ops Q rest a w') :
 wpList Try.prog ops Q (o :: rest) a w := by
 refine wpList_plain hg fun K' hK' => ?_
 obtain ⟨w', hrun, r1, r2⟩ := World.ownsMap.update hown (int_keyed Try.underlying3) Try.underlying39 (by unfold maxLen; omega) (keyOf_int_mk Try.underlying3 hk) (show RV (.int .i64 1) = some (.held (.int .i64 1), []) from rfl);unfold Oper.wp;simp [execOp, hop, hm, hx, hv, hrun, Result.andThen];refine hK' _ _ ?_;rw [hd];exact hK w' r1 r2
theorem wpList_look_i {w : World} {ops : Array Oper} {rest : List Oper} {o : Oper} {a : Act} {Q : Exit → Act → World → Prop} (hg : o.guard = none) (m x : Operand) (hop : o.op = Op.lookup 39 m x false)
 (b n : Nat) (L : List Int) (hm : a.eval m = .map (some b)) (hown : MapI w b n L) (key : Int) (hx : a.eval x = .int .i64 key) (hk : (Lit.int .i64 key).wf = true)
 (hK : wpList Try.prog ops Q rest (a.put o.dst (.int .i64 (if key ∈ L then 1 else 0))) w) :
 wpList Try.prog ops Q (o :: rest) a w := by
 refine wpList_plain hg fun K' hK' => ?_
 have hz : (zeroValue 3).run Try.prog w = .ok (.int .i64 0) w := by kernel_rfl
 obtain ⟨v, ps, hrun, hv⟩ := World.ownsMap.lookup hown (int_keyed Try.underlying3) Try.underlying39 hz (show RV (.int .i64 0) = some (.held (.int .i64 0), []) from rfl) (keyOf_int_mk Try.underlying3 hk);rw [show Lit.int .i64 key = keyN key from rfl, at_LI] at hv;obtain rfl := rv_inv hv;unfold Oper.wp;simp [execOp, hop, hm, hx, hrun, Result.andThen];exact hK' _ _ hK
end gpw
end
end Go.Proofs.Ytnpcombfgdbhkaa
