/- T -/
import Derived.BigQuiet
import Derived.BigRegion
import Derived.Deep.Cut
import Derived.Deep.CutBlock
import Derived.Deep.DeepCutAuto
import Derived.Deep.Onto
import Derived.Deep.QuietTactic
import Derived.Deep.RegionHeld
import Derived.Deep.RegionHeld3
import Derived.Deep.RegionWith
import Derived.Great.BuildSlice
import Derived.IntWalk
import Derived.KernelRfl
import Derived.Laws.AppendOwn
import Derived.Laws.AppendOwnNone
import Derived.Laws.BitsLemmas
import Derived.Laws.BytesArg
import Derived.Laws.Closers25b
import Derived.Laws.CopyRow
import Derived.Laws.Cover2
import Derived.Laws.Cover3
import Derived.Laws.FloatArith
import Derived.Laws.MakeOwn
import Derived.Laws.OwnMore
import Derived.Laws.RangeAny
import Derived.Laws.Rows
import Derived.Laws.Shifts
import Derived.Laws.StructEq
import Derived.Lib.BytesEntry
import Derived.Lib.ConvBytes
import Derived.Lib.Hide
import Derived.Lib.LaidTab
import Derived.Lib.OwnBridge
import Derived.Lib.QuietBelow
import Derived.Lib.SlBytesConst
import Derived.LoopN
import Derived.Maps.AppendAt
import Derived.Maps.OwnSet
import Derived.OpenShut
import Derived.Outline
import Derived.OwnWalk
import Derived.ProofKit
import Derived.RegionTactic
import Derived.Shelf.Abstract
import Derived.Shelf.Bytes.SlIndexAt
import Derived.Shelf.Lays8
import Derived.Shelf.SlLaysC2
import Derived.Shelf.SlLaysE
import Derived.Shelf.SlLaysE0
import Derived.Shelf.SlLaysF
import Derived.Shelf.SlLaysH
import Derived.Shelf.SlicesE.Clone
import Derived.Shelf.SlicesE.Equal
import Derived.Shelf.SlicesE.IndexFunc
import Derived.Shelf.SlicesG.Cmp
import Derived.Shelf.Spec.SlicesGrow
import Derived.Sort.Grow
import Derived.Sort.Walk0
import Derived.StillTailTactics
import Derived.Test.YtnpcombfgdbhkaaChecked
import Derived.Test.YtnpcombfgdbhkaaRows
import Derived.WalkKit
import Derived.WalkLawsBesides
import Derived.WalkMore
import Derived.WalkSpells
import GoSem.Core.Float
import Derived.Test.YtnpcombfgdbhkaaBGr01
import Derived.Test.YtnpcombfgdbhkaaBGr02
import Derived.Test.YtnpcombfgdbhkaaBGr03
import Derived.Test.YtnpcombfgdbhkaaBGr04
import Derived.Test.YtnpcombfgdbhkaaBGr05
import Derived.Test.YtnpcombfgdbhkaaBGr06
import Derived.Test.YtnpcombfgdbhkaaBGr07
import Derived.Test.YtnpcombfgdbhkaaBGr08
import Derived.Test.YtnpcombfgdbhkaaBGr09
import Derived.Test.YtnpcombfgdbhkaaBGr10
import Derived.Test.YtnpcombfgdbhkaaBGr11
import Derived.Test.YtnpcombfgdbhkaaBGr12
import Derived.Test.YtnpcombfgdbhkaaBGr13
import Derived.Test.YtnpcombfgdbhkaaBGr14
import Derived.Test.YtnpcombfgdbhkaaBGr15
import Derived.Test.YtnpcombfgdbhkaaBGr16
import Derived.Test.YtnpcombfgdbhkaaBGr17
import Derived.Test.YtnpcombfgdbhkaaBGr18
import Derived.Test.YtnpcombfgdbhkaaBGr19
import Derived.Test.YtnpcombfgdbhkaaBGr20
import Derived.Test.YtnpcombfgdbhkaaBGr21
import Derived.Test.YtnpcombfgdbhkaaBGr22
import Derived.Test.YtnpcombfgdbhkaaBGr23
import Derived.Test.YtnpcombfgdbhkaaBGr24
import Derived.Test.YtnpcombfgdbhkaaBGr25
import Derived.Test.YtnpcombfgdbhkaaBGr26
import Derived.Test.YtnpcombfgdbhkaaBGr27
namespace Go.Proofs.Ytnpcombfgdbhkaa
namespace bulk
end bulk
namespace ext
end ext
namespace flt
end flt
namespace gpf
end gpf
namespace gpp
end gpp
namespace gpr
end gpr
namespace gpw
end gpw
namespace lawGroupsFull
end lawGroupsFull
namespace prd
end prd
namespace prp
end prp
namespace prw
end prw
namespace rpp
end rpp
namespace rpw
end rpw
namespace rsp
end rsp
namespace rsw
end rsw
namespace rtp
end rtp
namespace rtw
end rtw
namespace setl
end setl
namespace setp
end setp
namespace setw
end setw
namespace sq
end sq
namespace tkp
end tkp
namespace tkw
end tkw
namespace trp
end trp
namespace trw
end trw
namespace ucdp
end ucdp
namespace ucdw
end ucdw
namespace utfp
end utfp
namespace utfw
end utfw
set_option maxHeartbeats 16000000
set_option maxRecDepth 1000000
section
namespace utfp
open sq
theorem seqAt_full {g : Nat → Int} {n p k : Nat} {s : Int} (hs : len0 (g p) = s) (_h0 : s ≠ 0) (hn : s ≤ (n : Int) - p) (hk : (k : Int) = s - 1) (hc : conts g p k = true) :
 seqAt g n p = if wid (acc g p (head0 s) k) = s then (acc g p (head0 s) k, s) else (0, 0) := by
 unfold seqAt;rw [hs, show (s - 1).toNat = k from by omega];rw [if_neg (by omega)];simp [hc]
end utfp
end
section
namespace gpw
open sq
open Go.Sort Go Go.RowKit Go.Maps setp setw tkp trp trw rpp gpp sq prw
open rpw (fC jP FSub jQ jd own_below qp vW qh qA run_store_nd)
theorem zt : ∀ f : F, (strip f).size = f.size
 | .nil => rfl
 | .cons _ k r => by rw [strip, F.size, zt k, zt r, F.size]
theorem allNm_strip : ∀ {f : F}, AllNm (strip f) ↔ AllNm f
 | .nil => Iff.rfl
 | .cons x k r => by rw [strip];unfold AllNm;rw [allNm_strip (f := k), allNm_strip (f := r)]
theorem entL_strip (x : Lab) (s : St) : entL { x with sv := nil3, kv := nil3 } s = { entL x s with sv := nil3, kv := nil3 } := by unfold entL;split <;> rfl
theorem numF_strip : ∀ (f : F) (rs : Bool) (bef lg : Int) (s : St), numF rs bef (strip f) lg s = ((numF rs bef f lg s).1, strip (numF rs bef f lg s).2.1, (numF rs bef f lg s).2.2)
 | .nil, _, _, _, _ => rfl
 | .cons x k r, rs, bef, lg, s => by
  rw [strip, numF, numF];simp only;generalize ((if rs = true then bef else s.1, s.2) : St) = s0;have he : entS { x with sv := nil3, kv := nil3 } s0 = entS x s0 := rfl;rw [he, entL_strip, numF_strip k];generalize entS x s0 = e;by_cases k1 : e.1 ≠ 0
  ·rw [if_pos k1, if_pos k1];rfl
  ·rw [if_neg k1, if_neg k1];simp only;generalize numF (decide (x.kind = 16)) e.2.1 k e.2.1 e.2 = q;by_cases k2 : q.1.1 ≠ 0
   ·rw [if_pos k2, if_pos k2];rfl
   ·rw [if_neg k2, if_neg k2, numF_strip r];rfl
theorem numN_strip (x : Lab) (k : F) (s : St) : numN { x with sv := nil3, kv := nil3 } (strip k) s = ((numN x k s).1, ({ (numN x k s).2.1.1 with sv := nil3, kv := nil3 }, strip (numN x k s).2.1.2), (numN x k s).2.2) := by
 unfold numN;simp only;have he : entS { x with sv := nil3, kv := nil3 } s = entS x s := rfl;rw [he, entL_strip, numF_strip k];generalize entS x s = e;by_cases k1 : e.1 ≠ 0
 ·rw [if_pos k1, if_pos k1]
 ·rw [if_neg k1, if_neg k1];simp only;generalize numF (decide (x.kind = 16)) e.2.1 k e.2.1 e.2 = q;by_cases k2 : q.1.1 ≠ 0
  ·rw [if_pos k2, if_pos k2]
  ·rw [if_neg k2, if_neg k2]
theorem numN_same {x y : Lab} {k j : F} (h : strip (F.one y j) = strip (F.one x k)) (s : St) : (numN y j s).1 = (numN x k s).1 ∧ (numN y j s).2.2 = (numN x k s).2.2 ∧ strip (F.one (numN y j s).2.1.1 (numN y j s).2.1.2) = strip (F.one (numN x k s).2.1.1 (numN x k s).2.1.2) := by
 have h1 := numN_strip x k s;have h2 := numN_strip y j s;have e1 : ({ y with sv := nil3, kv := nil3 } : Lab) = { x with sv := nil3, kv := nil3 } ∧ strip j = strip k := by simp only [F.one, strip, F.cons.injEq, and_true] at h;exact h
 rw [e1.1, e1.2, h1] at h2;simp only [Prod.mk.injEq] at h2;obtain ⟨a, ⟨b, c⟩, d⟩ := h2;refine ⟨a.symm, d.symm, ?_⟩;show F.cons _ _ _ = F.cons _ _ _;rw [b, c]
def NumB (x : Lab) (k : F) (w : World) (e : Ending) (w' : World) : Prop :=
 Below w.heap.size w w' ∧ (((qH (x, k)).1.1 ≠ 0 ∧ e = .returned (.tuple #[ndV (lab 0 0), .int .i64 0, .slice none 0 0, .int .i64 (qH (x, k)).1.1, .int .i64 (qH (x, k)).1.2])) ∨
  ((qH (x, k)).1.1 = 0 ∧ ∃ y j v, e = .returned (.tuple #[ndV y, .int .i64 (qH (x, k)).2.2.1, v, .int .i64 0, .int .i64 0]) ∧ NdI w' y j w.heap.size w'.heap.size ∧ strip (F.one y j) = strip (F.one (qH (x, k)).2.1.1 (qH (x, k)).2.1.2) ∧
   w'.ownsRow w.heap.size 45 2 v (qH (x, k)).2.2.2.length (nmC (qH (x, k)).2.2.2) ∧ ((qH (x, k)).2.2.2 = [] → v = .slice none 0 0)))
theorem held_store_nv {o : Oper} {a : Act} {W : World} {K : Act → World → Prop} {Q : Exit → Act → World → Prop} {ys : Nat → Option Bool} (hgd : o.guard = none) (hd : o.dst = none) (x y : Operand) (ho : o.op = .store 27 x y)
 (g : Nat) (hx : a.eval x = .pointer (some ⟨g, 0, none⟩)) (old : Array Value) (l : Lab) (hg : W.heap[g]? = some (.cells old 27 (0, 0))) (hs : old.size = 12) (h1 : ∀ u ∈ ndC l, u.oneCell' = true) (hy : a.eval y = ndV l)
 (h : K a (W.setRow g (ndC l).toArray)) : if Region.wanted o ys = true then Oper.wp Try.prog o a W K Q else K (a.put o.dst undef) W := by
 rw [if_pos (by unfold Region.wanted; rw [hgd])];unfold Oper.wp execOp;simp only [ho, hx, hy, Instr.storeAt, Instr.sureAddr, Sem.run_bind, Sem.run_pure, Result.andThen_ok, rpw.run_store_nd W g old l hg hs h1];simpa [Oper.upon, hd, Act.put] using h
theorem ent_nd (x : Lab) (s : St) : entA (ndC x).toArray 0 x s = (ndC (entL x s)).toArray := by unfold entA entL;split <;> rfl
theorem own_base {w : World} {b b2 : Nat} {e : TypeId} {z n : Nat} {v : Value} {xs : List Value} (h : w.ownsRow b e z v n xs) (hb : b2 ≤ b) : w.ownsRow b2 e z v n xs := by
 refine ⟨h.1, ?_⟩;rcases h.2 with h2 | ⟨g, cap, cur, hv, hg, r⟩
 ·exact Or.inl h2
 ·exact Or.inr ⟨g, cap, cur, hv, Nat.le_trans hb hg, r⟩
theorem results_num {fn : Func} {p q r s t : Tmp} (h : fn.results = #[.cell p 27, .tmp q, .tmp r, .tmp s, .tmp t]) (tmps : Array Value) (w : World) (g : Nat) (l : Lab) (hp : tmps.getD p undef = .pointer (some ⟨g, 0, none⟩)) (hg : w.heap[g]? = some (.cells (ndC l).toArray 27 (0, 0))) :
 (results fn tmps).run Try.prog w = .ok (.tuple #[ndV l, tmps.getD q undef, tmps.getD r undef, tmps.getD s undef, tmps.getD t undef]) w := by
 have hp' : tmps[p]?.getD undef = .pointer (some ⟨g, 0, none⟩) := by simpa using hp
 simp [results, h, hp', asAddr, run_loadVar_row w g 27 27 (ndC l).toArray (0, 0) _ hg Try.underlying27 rfl (by rw [ndInfo]; rfl)];rfl
theorem vY (w : World) (x : Lab) (k : F) (hn : NdAt w (x, k)) (hc : CpOk (F.one x k)) (hm : AllNm (F.one x k)) (hz : k.size ≤ 1000000) : Calls Try.prog 10 #[ndV x] w (NumB x k w) := by
 have HM := xH hm;have HZ := xH hz;have e1 := World.size_alloc w (.cells (ndC x).toArray 27);have HP := xH (show ((w.alloc (.cells (ndC x).toArray 27)).alloc (.cells zC.toArray 27)).heap[w.heap.size]? = some (.cells (ndC x).toArray 27 (0, 0)) from (heap_alloc_old _ _ (by rw [e1]; omega)).trans (heap_alloc_new _ _));have HQ := xH (show ((w.alloc (.cells (ndC x).toArray 27)).alloc (.cells zC.toArray 27)).heap[w.heap.size + 1]? = some (.cells zC.toArray 27 (0, 0)) from e1 ▸ heap_alloc_new (w.alloc (.cells (ndC x).toArray 27)) (.cells zC.toArray 27));have HB := xH (trw.qi (trw.qg w (.cells (ndC x).toArray 27)) (trw.qg _ (.cells zC.toArray 27)));have HZ2 := xH (show ((w.alloc (.cells (ndC x).toArray 27)).alloc (.cells zC.toArray 27)).heap.size = w.heap.size + 2 by rw [World.size_alloc, e1]);have HCP := xH (copy_all (k.size + 1) ((w.alloc (.cells (ndC x).toArray 27)).alloc (.cells zC.toArray 27)) x k (Nat.lt_succ_self _) (trw.qY (fun _ _ h => trw.qf HB.out h) hn) hc);have HC1 := xH (show ∀ j u, (ndC x)[j]? = some u → ((w.alloc (.cells (ndC x).toArray 27)).alloc (.cells zC.toArray 27)).cell? ⟨w.heap.size, 0 + j, none⟩ = some u from fun j u hj => by rw [Nat.zero_add]; unfold World.cell?; rw [HP.out]; simpa using hj);clear hn hc hm hz e1;unfold ndC zC at HP HQ HB HZ2 HCP;unfold ndC zC at HC1;unfold ndV;go_enter Try.func10, Try.ntmps10;go_upto_region 1 with (fail)
 generalize (w.alloc _).alloc _ = w1 at *;go_wp2_with (first
  | (refine jv rfl _ rfl w.heap.size 0 rfl x HC1.out ?_)
  | (refine HCP.out.mono ?_; rintro e w2 ⟨y, j, rfl, hn, hs, hb⟩; have HN2 := xH hn; have HS2 := xH hs; have HB2 := xH hb; have HG2 := xH (heap_alloc_new w2 (.cells zC.toArray 27)); unfold zC at HG2; have HO2 := xH (qp (ndI_at hn)); clear hn hs hb)
  | (refine qh rfl rfl _ _ rfl w2.heap.size rfl _ y HG2.out rfl HO2.out rfl ?_))
 go_upto_region 2 with (fail)
 obtain ⟨T, hT⟩ : ∃ T, w2.heap.size = T := ⟨_, rfl⟩;have HT3 := xH (setRow_heap _ _ _ (ndC y).toArray _ _ HG2.out);have HO3 := xH (show ∀ i, i < w2.heap.size → ((w2.alloc (.cells zC.toArray 27)).setRow w2.heap.size (ndC y).toArray).heap[i]? = w2.heap[i]? from fun i hi => (tkw.setRow_other _ _ i _ (by omega)).trans (heap_alloc_old _ _ hi));have HB3 := xH (show Below w.heap.size w ((w2.alloc (.cells zC.toArray 27)).setRow w2.heap.size (ndC y).toArray) from (HB.out.trans (HB2.out.mono HB.out.size)).trans ⟨rfl, rfl, rfl, by rw [tkw.setRow_size, World.size_alloc]; omega, fun i hi => HO3.out i (by have := HB2.out.size; have := HZ2.out; omega)⟩);have HZ3 := xH (show ((w2.alloc (.cells zC.toArray 27)).setRow w2.heap.size (ndC y).toArray).heap.size = w2.heap.size + 1 by rw [tkw.setRow_size, World.size_alloc]);unfold zC at HO3 HB3 HZ3;clear HG2;generalize (w2.alloc _).setRow _ _ = w3 at *;have HN3 := xH (ndI_keep HN2.out fun i _ h2 => HO3.out i h2);rw [hT] at HT3 HZ3 HN3 ⊢;have HTT := xH hT;clear hT;have hmm : (Instr.makeMap 55 none).run Try.prog w3 = .ok (.map (some w3.heap.size)) (w3.alloc (.map #[] 0)) := rfl;obtain ⟨O, hO⟩ : ∃ O : Obj, O = .cells #[.int .i64 0, .slice none 0 0, .map (some w3.heap.size)] 57 := ⟨_, rfl⟩;have z4 := World.size_alloc w3 (.map #[] 0);have HST := xH (show StAt ((w3.alloc (.map #[] 0)).alloc O) (T + 1) (w3.heap.size + 1) w3.heap.size (.slice none 0 0) (0, []) from
  ⟨by have := heap_alloc_new (w3.alloc (.map #[] 0)) O; rw [z4] at this; rw [this, hO], by rw [HZ3.out]; omega, by rw [HZ3.out]; exact xL _, World.ownsRow_nil _ _ _ 2, fun _ => rfl, mapV_below (mapV_made w3) (trw.qg _ O)⟩)
 have HB5 := xH (trw.qi (trw.qg w3 (.map #[] 0)) (trw.qg _ O));have HZ5 := xH (show ((w3.alloc (.map #[] 0)).alloc O).heap.size = w3.heap.size + 2 by rw [World.size_alloc, z4]);subst hO;clear z4;go_wp2_with fail
 rw [hmm];go_upto_region 3 with (fail)
 generalize (w3.alloc (.map #[] 0)).alloc _ = w5 at *;clear hmm;have HAS := xH (assign_all (j.size + 1) w5 (T + 1) (w3.heap.size + 1) w3.heap.size T 0 w1.heap.size T (ndC y).toArray y j _ (0, []) (Nat.lt_succ_self _) ((HB5.out.block T (by rw [HZ3.out]; omega)).trans HT3.out) (fun i u hu => by simpa using hu) (Or.inr (xL _)) (Nat.lt_succ_self _) (Nat.le_succ _)
  (ndI_keep HN3.out fun i _ h2 => HB5.out.block i (by rw [HZ3.out]; omega)) HST.out (by rw [HZ5.out, HZ3.out]; omega) (Int.le_refl _) (by decide) (by
   have h1 : j.size = k.size := by have := congrArg F.size HS2.out;rw [zt, zt] at this;simp only [F.one, F.size] at this;omega
   have := HZ.out;simp only [List.length_nil];omega) (allNm_strip.1 (by rw [HS2.out]; exact allNm_strip.2 HM.out)))
 have HSM := xH (numN_same HS2.out (0, []));generalize hG : w3.heap.size + 1 = G at *;go_wp2_with fail
 refine HAS.out.mono ?_;rintro e w6 ⟨rfl, hch, hq⟩;rw [HSM.out.1] at hq ⊢;have HCH := xH hch;have HB6 := xH (show Below w.heap.size w w6 from (HB3.out.trans (HB5.out.mono (by have := HB3.out.size; omega))).trans ⟨hch.os, hch.tape, hch.output, hch.size, fun i hi => hch.block i (by have := HB2.out.size; have := HZ2.out; have := HTT.out; omega) (by have := HB2.out.size; have := HZ2.out; have := HTT.out; omega) (Or.inl (by have := HZ2.out; omega))⟩);have HQ6 := xH (show w6.heap[w.heap.size + 1]? = some (.cells zC.toArray 27 (0, 0)) from (hch.block _ (by have := HB2.out.size; have := HZ2.out; have := HTT.out; omega) (by have := HB2.out.size; have := HZ2.out; have := HTT.out; omega) (Or.inl (by have := HZ2.out; omega))).trans ((HB5.out.block _ (by have := HB2.out.size; have := HZ2.out; have := HTT.out; have := HZ3.out; omega)).trans ((HO3.out _ (by have := HB2.out.size; have := HZ2.out; omega)).trans ((HB2.out.block _ (by have := HZ2.out; omega)).trans HQ.out))));clear hch HAS;by_cases h0 : (numN x k (0, [])).1.1 = 0
 ·obtain ⟨hT, ⟨v6, hst⟩, hnd⟩ := hq h0;have be : ((numN x k (0, [])).1.1 != 0) = false := by rw [h0]; rfl
  rw [ent_nd] at hT;rw [numN_lab] at hnd;have HT6 := xH hT;have HS6 := xH hst;have HN6 := xH hnd;have H0 := xH h0;have HSL := xH (numN_lab y j (0, []));clear hT hst hnd h0 hq;generalize numN y j (0, []) = q at *;generalize entL y (0, []) = y6 at *;obtain ⟨⟨q1, q2⟩, ⟨q3, q4⟩, q5, q6⟩ := q;have hsl := HSL.out;simp only at hsl;subst hsl;have HO6 := xH (qp (ndI_at HN6.out));have HNP := xH (show qH (x, k) = numN x k (0, []) from rfl);generalize numN x k (0, []) = r at *;obtain ⟨⟨r1, r2⟩, ⟨r3, r4⟩, r5, r6⟩ := r;have HR := xH HSM.out.2;simp only at HR;obtain ⟨hr1, hr2⟩ := HR.out;simp only [Prod.mk.injEq] at hr1;obtain ⟨rfl, rfl⟩ := hr1;have HSE := xH hr2;clear hr2 HSM HR HSL;simp only at be;go_upto_region 6 with (fail)
  refine wp_region_held_drew (S := fun w' => w'.heap[T]? = w6.heap[T]? ∧ w'.heap[G]? = w6.heap[G]?) (by kernel_rfl) ⟨rfl, rfl⟩ (fun hHeld => ?_);refine xT 0 rfl (ndV q3) ?_ ?_
  ·intro w' hSw;refine jT (x := .tmp 7) (b := T) (off := 0) (l := q3) ?_ ?_ (fun i u hu => by rw [Nat.zero_add]; unfold World.cell?; rw [hSw.1, HT6.out]; simpa using hu) <;> rfl
  simp only [xS];refine xT 1 rfl ?_ ?_ ?_;rotate_left
  ·intro w' hSw;go_simp;try rfl
  simp only [xS];refine xT 2 rfl ?_ ?_ ?_;rotate_left
  ·intro w' hSw;go_simp;try rfl
  simp only [xS];refine xT 3 rfl ?_ ?_ ?_;rotate_left
  ·intro w' hSw;go_simp;try rfl
  simp only [xS];refine xT 4 rfl ?_ ?_ ?_;rotate_left
  ·intro w' hSw;have g0 := (World.cell?_of_block (a := ⟨G, 0, none⟩) hSw.2).trans HS6.out.c.c0;go_simp;try rfl
  simp only [xS];refine xT 5 rfl ?_ ?_ ?_;rotate_left
  ·intro w' hSw;go_simp;try rfl
  simp only [xS];refine xT 6 rfl ?_ ?_ ?_;rotate_left
  ·intro w' hSw;go_simp;try rfl
  simp only [xS];refine xT 7 rfl ?_ ?_ ?_;rotate_left
  ·intro w' hSw;go_simp;try rfl
  simp only [xS];refine xT 8 rfl ?_ ?_ ?_;rotate_left
  ·intro w' hSw;have g1 := (World.cell?_of_block (a := ⟨G, 1, none⟩) hSw.2).trans HS6.out.c.c1;go_simp;try rfl
  simp only [xS];refine xD 9 rfl (fun K hK => ?_);refine held_store_nv rfl rfl _ _ rfl (w.heap.size + 1) rfl _ q3 HQ6.out rfl HO6.out rfl ?_;have HXT := xH (show ∀ i, i ≠ w.heap.size + 1 → (w6.drew.setRow (w.heap.size + 1) (ndC q3).toArray).heap[i]? = w6.heap[i]? from fun i hi => tkw.setRow_other _ _ i _ hi);have HXN := xH (setRow_heap w6.drew (w.heap.size + 1) _ (ndC q3).toArray _ _ HQ6.out);have HXZ := xH (show (w6.drew.setRow (w.heap.size + 1) (ndC q3).toArray).heap.size = w6.heap.size from tkw.setRow_size _ _ _);have HXB := xH (show Below w.heap.size w (w6.drew.setRow (w.heap.size + 1) (ndC q3).toArray) from HB6.out.trans ⟨rfl, rfl, rfl, by rw [HXZ.out]; exact xL _, fun i hi => HXT.out i (by omega)⟩);generalize w6.drew.setRow _ _ = w7 at *;refine hK.out _ _ ⟨HXT.out T (by have := HB2.out.size; have := HZ2.out; have := HTT.out; omega), HXT.out G (by have := HB2.out.size; have := HZ2.out; have := HTT.out; have := HZ3.out; omega)⟩ (fun hHeld => ?_);clear hK K;try simp only [xS]
  refine xT 10 rfl ?_ ?_ ?_;rotate_left
  ·intro w' hSw;go_simp;try rfl
  simp only [xS];refine xT 11 rfl ?_ ?_ ?_;rotate_left
  ·intro w' hSw;go_simp;try rfl
  simp only [xS];refine xT 12 rfl ?_ ?_ ?_;rotate_left
  ·intro w' hSw;go_simp;try rfl
  simp only [xS];refine xT 13 rfl ?_ ?_ ?_;rotate_left
  ·intro w' hSw;go_simp;try rfl
  simp only [xS];refine wpAnyH_done (by kernel_rfl) ?_ _;go_wp2_with fail
  refine xB (results_num rfl _ _ (w.heap.size + 1) q3 rfl HXN.out) rfl ?_;refine ⟨HXB.out, Or.inr ⟨?_, q3, q4, v6, ?_, ?_, ?_, ?_, ?_⟩⟩
  ·rw [HNP.out]; exact H0.out
  ·rw [HNP.out]; rfl
  ·have hz := HXZ.out;rw [hz];exact ndI_hi (ndI_lo (ndI_keep HN6.out fun i h1 h2 => HXT.out i (by have := HZ2.out; omega)) (by have := HZ2.out; omega)) (by have := HCH.out.size; have := HZ5.out; have := HZ3.out; omega)
  ·rw [HNP.out]; exact HSE.out
  ·rw [HNP.out];exact own_base (tkw.jJ HS6.out.row fun i hi => HXT.out i (by have := own_below HS6.out.row hi; have := HB2.out.size; have := HZ2.out; have := HTT.out; omega)) (by have := HB2.out.size; have := HZ2.out; have := HTT.out; omega)
  ·rw [HNP.out]; exact HS6.out.nil
 ·have be : ((numN x k (0, [])).1.1 != 0) = true := bne_iff_ne.2 h0;have H0 := xH h0;clear h0 hq;have HNP := xH (show qH (x, k) = numN x k (0, []) from rfl);generalize numN x k (0, []) = r at *;obtain ⟨⟨r1, r2⟩, r3⟩ := r;simp only at be;have HO0 : Hid (∀ u ∈ ndC (lab 0 0), u.oneCell' = true) := xH (fun u hu => by simp only [ndC, lab, nil3, List.mem_cons, List.not_mem_nil, or_false] at hu;rcases hu with rfl | rfl | rfl | rfl | rfl | rfl | rfl | rfl | rfl | rfl | rfl | rfl <;> rfl)
  go_wp2_with (refine qh rfl rfl _ _ rfl (w.heap.size + 1) rfl _ (lab 0 0) HQ6.out rfl HO0.out rfl ?_)
  refine xB (results_num rfl _ _ (w.heap.size + 1) (lab 0 0) rfl (setRow_heap _ _ _ _ _ _ HQ6.out)) rfl ?_;exact ⟨HB6.out.trans ⟨rfl, rfl, rfl, by rw [tkw.setRow_size]; exact xL _, fun i hi => tkw.setRow_other _ _ i _ (by omega)⟩, Or.inl ⟨by rw [HNP.out]; exact H0.out, by rw [HNP.out]; rfl⟩⟩
end gpw
end
section
namespace gpw
open sq
open Go.Sort Go Go.RowKit Go.Maps setp setw tkp trp trw rpp gpp sq prw
open rpw (fC jP FSub jQ jd own_below qp vW qh qA)
open utfw (Sl at_ strOf)
open tkw (sg)
open rsw (flatP FlatB zH)
open rtp (rlexP)
open rsp (resP zU)
theorem cpOk_of : ∀ {f : F} {n : Nat}, NmS f → f.size ≤ 100000 → CpOk f
 | .nil, _, _, _ => trivial
 | .cons x k r, n, h, hs => by simp only [F.size] at hs;have := len_le k;exact ⟨h.1.2, by omega, cpOk_of (n := n) h.2.1 (by omega), cpOk_of (n := n) h.2.2 (by omega)⟩
theorem flat_ok {n : Nat} {g : Nat → Int} {o : Int} {t : F} (h : flatP (sg (strOf n g)) n o = some t) : NmS t ∧ t.size ≤ 100000 := by
 unfold flatP at h;split at h
 ·cases h
 ·rename_i T hT;have ht := rsw.rlex_ok hT;split at h
  ·cases h
  ·rename_i f hf;have hp := zU (fun t h => (ht.1 t h).1.s) hf;have hn := parse_nm (fun t h => (ht.1 t h).1.nm) hf;split at h
   ·cases h
   ·rename_i x k r;cases h;have hs := hp.2.1;simp only [F.size] at hs;have hz := res_sz x k o;exact ⟨nmS_res ⟨⟨hn.1, by have := hp.1.1; omega⟩, nmS_ok hp.1.2.2.1 hn.2.1, trivial⟩ o, by omega⟩
theorem zV {n : Nat} {g : Nat → Int} {o : Int} {t : F} (h : flatP (sg (strOf n g)) n o = some t) {y : Lab} {j : F} (hs : strip (F.one y j) = t) (w : World) (hn : NdAt w (y, j)) : Calls Try.prog 10 #[ndV y] w (NumB y j w) := by
 obtain ⟨h1, h2⟩ := flat_ok h;subst hs;have h3 : (F.one y j).size ≤ 100000 := by rw [← zt]; exact h2
 have h4 := nmS_strip.1 h1;refine vY w y j hn (cpOk_of (n := 0) h4 h3) (nmS_all h4) ?_;simp only [F.one, F.size] at h3;omega
theorem sl_lit (w : World) (t : TypeId) (fr : Nat × Nat) (l : List Int) (hl : ∀ x ∈ l, 0 ≤ x ∧ x ≤ 255) (hn : l.length ≤ 140737488355328) : Sl (w.alloc (.cells (l.map (Value.int .u8)).toArray t fr)) (.slice (some ⟨w.heap.size, 0, none⟩) l.length l.length) l.length (at_ l) := by
 refine ⟨fun i => ?_, hn, Or.inr ⟨w.heap.size, 0, l.length, rfl, ⟨xL _, by omega⟩, fun i hi => ?_⟩⟩
 ·unfold at_;by_cases hi : i < l.length
  ·have : l.getD i 0 ∈ l := by rw [show l.getD i 0 = l[i] by simp [List.getD, hi]];exact List.getElem_mem hi
   exact hl _ this
  ·rw [show l.getD i 0 = 0 by simp [List.getD, Nat.not_lt.1 hi]];omega
 ·rw [cell_of_row _ _ _ _ _ _ (heap_alloc_new w _)];simp [at_, List.getD, hi]
def pA : List Int := [40, 97, 41, 40, 63, 124, 40, 98, 41, 124, 40, 99, 41, 40, 100, 41, 41, 40, 101, 41]
def pB : List Int := [40, 63, 60, 110, 62, 97, 41, 40, 63, 60, 110, 62, 98, 41]
def third : F → Int
 | .cons _ _ (.cons _ _ (.cons x _ _)) => x.n
 | _ => 0
theorem zN : ∀ f : F, third (strip f) = third f
 | .nil => rfl
 | .cons _ _ .nil => rfl
 | .cons _ _ (.cons _ _ .nil) => rfl
 | .cons _ _ (.cons _ _ (.cons _ _ _)) => rfl
theorem awk_A : (match flatP (sg (strOf 20 (at_ pA))) 20 0 with
 | some (.cons x k .nil) => decide ((qH (x, k)).1.1 = 0) && decide ((qH (x, k)).2.2.1 = 4) && decide ((qH (x, k)).2.1.2.len = 3) && decide (third (qH (x, k)).2.1.2 = 4)
 | _ => false) = true := by decide +kernel
theorem awk_B : (match flatP (sg (strOf 14 (at_ pB))) 14 0 with
 | some (.cons x k .nil) => decide ((qH (x, k)).1 = (33, 7))
 | _ => false) = true := by decide +kernel
theorem awk_a {y : Lab} {j : F} (h : flatP (sg (strOf 20 (at_ pA))) 20 0 = some (strip (F.one y j))) : (qH (y, j)).1.1 = 0 ∧ (qH (y, j)).2.2.1 = 4 ∧ (qH (y, j)).2.1.2.len = 3 ∧ third (qH (y, j)).2.1.2 = 4 := by have h1 := awk_A;rw [h] at h1;have hs := numN_strip y j (0, []);unfold qH at h1 ⊢;simp only [F.one, strip, hs, Bool.and_eq_true, decide_eq_true_eq] at h1;rw [rpw.jm, zN] at h1;exact ⟨h1.1.1.1, h1.1.1.2, h1.1.2, h1.2⟩
theorem awk_b {y : Lab} {j : F} (h : flatP (sg (strOf 14 (at_ pB))) 14 0 = some (strip (F.one y j))) : (qH (y, j)).1 = (33, 7) := by have h1 := awk_B;rw [h] at h1;have hs := numN_strip y j (0, []);unfold qH at h1 ⊢;simp only [F.one, strip, hs, decide_eq_true_eq] at h1;exact h1
theorem some_A : ∃ t, flatP (sg (strOf 20 (at_ pA))) 20 0 = some t := by
 have h := awk_A;cases e : flatP (sg (strOf 20 (at_ pA))) 20 0 with
 | none => rw [e] at h; cases h
 | some t => exact ⟨t, rfl⟩
theorem some_B : ∃ t, flatP (sg (strOf 14 (at_ pB))) 14 0 = some t := by
 have h := awk_B;cases e : flatP (sg (strOf 14 (at_ pB))) 14 0 with
 | none => rw [e] at h; cases h
 | some t => exact ⟨t, rfl⟩
theorem flat_lit (w : World) (l : List Int) (hl : ∀ x ∈ l, 0 ≤ x ∧ x ≤ 255) (hn : l.length ≤ 140737488355328) (o : Int) : Calls Try.prog 9 #[.slice (some ⟨w.heap.size, 0, none⟩) l.length l.length, .int .i64 o] (w.alloc (.cells (l.map (Value.int .u8)).toArray 5 (l.length, l.length + 1)))
 fun e w' => ∃ R, flatP (sg (strOf l.length (at_ l))) l.length o = R ∧ FlatB R w e w' := by
 refine (zH _ l.length (at_ l) o _ (sl_lit w 5 _ l hl hn)).mono ?_;intro e w' h;exact ⟨_, rfl, trw.qi (trw.qg w _) h.1, h.2⟩
theorem kids_row {w : World} {x : Lab} {k : F} {lo hi : Nat} (h : NdI w x k lo hi) : ∃ B, x.kv = .slice (some ⟨B, 0, none⟩) k.len k.len ∧ ∀ j u, (fC k)[j]? = some u → w.cell? ⟨B, j, none⟩ = some u := by obtain ⟨_, a, B, _, _, _, _, h6, h7, _⟩ := h;exact ⟨B, h6, fun j u hj => by unfold World.cell?; rw [h7]; simpa using hj⟩
theorem third_at : ∀ {f : F}, f.len = 3 → (fC f)[29]? = some (.int .i64 (third f))
 | .nil, h => by cases h
 | .cons _ _ .nil, h => by cases h
 | .cons _ _ (.cons _ _ .nil), h => by cases h
 | .cons _ _ (.cons _ _ (.cons _ _ _)), _ => rfl
theorem strip_third {f g : F} (h : strip f = strip g) : f.len = g.len ∧ third f = third g := by have h1 := congrArg F.len h;have h2 := congrArg third h;rw [rpw.jm, rpw.jm] at h1;rw [zN, zN] at h2;exact ⟨h1, h2⟩
structure Sto (w w2 : World) (y : Lab) : Prop where
 b : Below w.heap.size w w2
 c : ∀ j u, (ndC y)[j]? = some u → w2.cell? ⟨w.heap.size, 0 + j, none⟩ = some u
 z : w2.heap.size = w.heap.size + 1
theorem zO (w : World) (y : Lab) : Sto w ((w.alloc (.cells zC.toArray 27)).setRow w.heap.size (ndC y).toArray) y :=
 ⟨rpw.qC (trw.qg w _) _ (xL _), fun j u hj => by rw [Nat.zero_add];unfold World.cell?;rw [setRow_heap _ _ _ (ndC y).toArray _ _ (heap_alloc_new w (.cells zC.toArray 27))];simpa using hj, by rw [tkw.setRow_size, World.size_alloc]⟩
theorem awake_any (w : World) : Calls Try.prog 8 #[] w (BoolB true w) := by
 have L1 := xH (flat_lit w pA (by decide) (by decide) 0);have L2 := xH (fun w1 => flat_lit w1 pB (by decide) (by decide) 0);unfold pA at L1;unfold pB at L2;have kc := fun (w : World) (C : Array Value) (n c : Nat) => Lib.run_convert_bytes_const (P := Try.prog) w 22 5 C n c Try.underlying22 Try.underlying5
 go_enter Try.func8, Try.ntmps8;go_wp2_with fail
 refine L1.out.mono ?_;rintro e w1 ⟨R, hR, hb1, hf⟩;have hR2 : flatP (sg (strOf 20 (at_ pA))) 20 0 = R := hR;obtain ⟨t, ht⟩ := some_A;rw [ht] at hR2;subst hR2;obtain ⟨y, j, rfl, hn, hs⟩ := hf;have hA := awk_a (y := y) (j := j) (by rw [ht, hs]);have HN1 := xH (zV ht hs);have HB1 := xH hb1;have HND := xH hn;have HA := xH hA;have HO := xH (qp hn);have HG := xH (heap_alloc_new w1 (.cells zC.toArray 27));have HS := xH (zO w1 y);unfold zC at HG HS;clear hR hb1 hn hA ht hs L1;go_upto_region 2 with (refine qh rfl rfl _ _ rfl w1.heap.size rfl _ y HG.out rfl HO.out rfl ?_)
 generalize (w1.alloc _).setRow _ _ = w2 at *;have HND2 := xH (trw.vO HS.out.b HND.out);go_wp2_with (first
  | (refine jv rfl _ rfl w1.heap.size 0 rfl y HS.out.c ?_)
  | (refine (HN1.out w2 HND2.out).mono ?_))
 rintro e w3 ⟨hb3, ⟨h0, _⟩ | ⟨h0, y3, j3, v3, rfl, hn3, hs3, hr3, hz3⟩⟩
 ·exact absurd HA.out.1 h0
 rw [HA.out.2.1];have hk := strip_third (f := j3) (g := (qH (y, j)).2.1.2) (by
  have := hs3;simp only [F.one, strip, F.cons.injEq, and_true] at this;exact this.2)
 rw [HA.out.2.2.1, HA.out.2.2.2] at hk;obtain ⟨B3, hkv3, hc3⟩ := kids_row hn3;have HK3 := xH (show y3.kv = .slice (some ⟨B3, 0, none⟩) 3 3 by rw [hkv3, hk.1]);have HC3 := xH (hc3 29 _ (third_at hk.1));have HT3 := xH hk.2;have HB3 := xH (trw.qi (trw.qi HB1.out HS.out.b) hb3);have HO3 := xH (qp (ndI_at hn3));have HG3 := xH (heap_alloc_new w3 (.cells zC.toArray 27));have HS3 := xH (zO w3 y3);obtain ⟨sa, sc, rfl⟩ := row_slice hr3;generalize (qH (y, j)).2.2.2.length = nl at *;unfold zC at HG3 HS3;clear hb3 h0 hn3 hs3 hr3 hz3 hk hkv3 hc3 HN1 HND HND2 HS HO HG HB1;dsimp only;go_upto_region 3 with (refine qh rfl rfl _ _ rfl w3.heap.size rfl _ y3 HG3.out rfl HO3.out rfl ?_)
 have k11 := HS3.out.c 11 _ rfl;simp only [Nat.zero_add] at k11;rw [HK3.out] at k11;have k29 := trw.qf HS3.out.b HC3.out;rw [HT3.out] at k29;have HB4 := xH (trw.qi HB3.out HS3.out.b);clear HK3 HC3 HT3 HB3 HO3 HG3 HS3;generalize (w3.alloc _).setRow _ _ = w4 at *;generalize hW3 : w3.heap.size = W3 at *;have K11 := xH k11;have K29 := xH k29;clear k11 k29 hW3;go_wp2_with fail
 refine (L2.out w4).mono ?_;rintro e w5 ⟨R, hR, hb5, hf⟩;have hR2 : flatP (sg (strOf 14 (at_ pB))) 14 0 = R := hR;obtain ⟨t, ht⟩ := some_B;rw [ht] at hR2;subst hR2;obtain ⟨y5, j5, rfl, hn, hs⟩ := hf;have HE := xH (awk_b (y := y5) (j := j5) (by rw [ht, hs]));have HN5 := xH (zV ht hs);have HO := xH (qp hn);have HG := xH (heap_alloc_new w5 (.cells zC.toArray 27));have HS := xH (zO w5 y5);have HND := xH hn;have HB5 := xH (trw.qi HB4.out hb5);have K11 := xH (trw.qf hb5 K11.out);have K29 := xH (trw.qf hb5 K29.out);unfold zC at HG HS;clear hR hb5 hn ht hs L2 HB4;dsimp only;go_upto_region 4 with (refine qh rfl rfl _ _ rfl w5.heap.size rfl _ y5 HG.out rfl HO.out rfl ?_)
 generalize (w5.alloc _).setRow _ _ = w6 at *;have HND2 := xH (trw.vO HS.out.b HND.out);have HB6 := xH (trw.qi HB5.out HS.out.b);have K11 := xH (trw.qf HS.out.b K11.out);have K29 := xH (trw.qf HS.out.b K29.out);go_wp2_with (first
  | (refine jv rfl _ rfl w5.heap.size 0 rfl y5 HS.out.c ?_)
  | (refine (HN5.out w6 HND2.out).mono ?_))
 rintro e w7 ⟨hb7, ⟨h0, rfl⟩ | ⟨h0, _⟩⟩;case inr => exact absurd (show (qH (y5, j5)).1.1 = 33 by rw [HE.out]) (by rw [h0]; decide)
 rw [HE.out];have HG7 := xH (heap_alloc_new w7 (.cells zC.toArray 27));have HS7 := xH (zO w7 (lab 0 0));have HO7 : Hid (∀ u ∈ ndC (lab 0 0), u.oneCell' = true) := xH (fun u hu => by simp only [ndC, lab, nil3, List.mem_cons, List.not_mem_nil, or_false] at hu;rcases hu with rfl | rfl | rfl | rfl | rfl | rfl | rfl | rfl | rfl | rfl | rfl | rfl <;> rfl)
 have HB7 := xH (trw.qi HB6.out hb7);have K11 := xH (trw.qf hb7 K11.out);have K29 := xH (trw.qf hb7 K29.out);unfold zC at HG7 HS7;clear hb7 h0 HE HN5 HO HG HS HND HND2 HB5 HB6;dsimp only;go_upto_region 5 with (refine qh rfl rfl _ _ rfl w7.heap.size rfl _ (lab 0 0) HG7.out rfl HO7.out rfl ?_)
 have HB8 := xH (trw.qi HB7.out HS7.out.b);have k11 := trw.qf HS7.out.b K11.out;have k29 := trw.qf HS7.out.b K29.out;clear K11 K29 HB7 HS7 HG7 HO7;generalize (w7.alloc _).setRow _ _ = w8 at *;go_wp2_with fail
 go_ret
 exact ⟨rfl, HB8.out⟩
end gpw
end
section
namespace ext
open sq
open Go utfp ucdp setp prp tkp rtp
theorem char_lowX (p : Pt) {i : Nat} (hi : i < p.n) {c : Int} (h : p.g i = c) (h0 : 0 ≤ c) (h1 : c < 128) : p.char i = (c, i + 1) := by
 have hs : seqAt p.g p.n i = (c, 1) := by
  have hl : len0 (p.g i) = 1 := by rw [h]; unfold len0; rw [if_pos h1]
  have hw : wid (acc p.g i (head0 1) 0) = 1 := by show wid (p.g i - 0) = 1;rw [h];unfold wid;rw [if_neg (by omega), if_pos (by omega)]
  rw [seqAt_full (k := 0) hl (by decide) (by omega) (by decide) rfl, if_pos hw];show (p.g i - 0, (1 : Int)) = (c, 1);rw [h];simp
 unfold Pt.char nextP;rw [if_neg (by omega), Int.toNat_natCast];unfold stepv;rw [hs];split
 ·simp only [Prod.mk.injEq, true_and]; omega
 ·simp only [Prod.mk.injEq]; exact ⟨h, by omega⟩
end ext
end
section
namespace ext
open sq
open Go tkp trp rpp
theorem app_assocX : ∀ f g h : F, F.app (F.app f g) h = F.app f (F.app g h)
 | .nil, _, _ => rfl
 | .cons x k r, g, h => by simp only [F.app, app_assocX r g h]
theorem app_nilX : ∀ f : F, F.app f .nil = f
 | .nil => rfl
 | .cons x k r => by simp only [F.app, app_nilX r]
end ext
end
section
namespace ext
open sq
open Go utfp tkp rtp trp rpp
def pt (g : Nat → Int) (n : Nat) : Pt := { g := g, n := n, u := false, x := false }
theorem rl0 {g : Nat → Int} {n : Nat} (hn : n ≤ 1000) : rlexP g n 0 = lexF (pt g n) (n + 1) false [] 0 := by
 unfold rlexP;rw [if_neg (by omega), if_neg (by omega)];have h5 : (0 : Int).toNat.testBit 5 = false := by decide
 have h3 : (0 : Int).toNat.testBit 3 = false := by decide
 rw [h5, h3, if_neg (by simp)];rfl
theorem has_notX {p : Pt} {c : UInt8} {l : List UInt8} {i : Nat} (h : p.g i ≠ (c.toNat : Int)) : p.has (c :: l) i = false := by rw [Pt.has, decide_eq_false h];simp
theorem lex_tok {p : Pt} {k i to_ : Nat} {T : List Tk} {t : Tk} (hi : i < p.n) (h : p.g i ≠ 92) (e : tokR p i = .ok (some t, to_)) : lexF p (k + 1) false T i = lexF p k false (T ++ [t]) to_ := by rw [lexF, if_neg (by omega), if_neg (by simp), has_notX (c := 92) h, if_neg (by simp), e]
theorem lex_end {p : Pt} {k i : Nat} {b : Bool} {T : List Tk} (hi : p.n ≤ i) : lexF p k b T i = .ok T := by
 cases k with
 | zero => rfl
 | succ k => rw [lexF, if_pos hi]
theorem tok_shut {p : Pt} (hx : p.x = false) {i : Nat} (hi : i < p.n) (h : p.g i = 41) : tokR p i = .ok (some (lay { kind := 8 } i (i + 1)), i + 1) := by unfold tokR;rw [char_lowX p hi h (by decide) (by decide)];dsimp only;rw [if_neg (by simp [hx]), if_neg (by simp [hx]), if_neg (by decide), if_neg (by decide), if_neg (by decide), if_neg (by decide), if_neg (by decide), if_neg (by decide), if_neg (by decide), if_pos rfl];rfl
theorem one_F (K : Int) (l : F) : ∃ x k, oneF K l = F.one x k := by
 cases l with
 | nil => exact ⟨_, _, rfl⟩
 | cons x k r => cases r with
  | nil => exact ⟨_, _, rfl⟩
  | cons _ _ _ => exact ⟨_, _, rfl⟩
def r0 : Ps := { i := 0 }
def finX (L : List Tk) (n : Int) (r : F × Ps) : R F :=
 if (if r.2.e = 0 ∧ r.2.i < L.length then failS r.2 31 (L.getD r.2.i zeroT).at_ else r.2).e = 20 then .error (20, n)
 else if (if r.2.e = 0 ∧ r.2.i < L.length then failS r.2 31 (L.getD r.2.i zeroT).at_ else r.2).e ≠ 0 then .error ((if r.2.e = 0 ∧ r.2.i < L.length then failS r.2 31 (L.getD r.2.i zeroT).at_ else r.2).e, (if r.2.e = 0 ∧ r.2.i < L.length then failS r.2 31 (L.getD r.2.i zeroT).at_ else r.2).at_)
 else .ok (oneF 13 r.1)
theorem parse_fin (L : List Tk) (n : Int) : parseP L n = finX L n (run L (3 * L.length + 3) (.alt .nil) r0) := rfl
theorem run_parse {L : List Tk} {n : Int} {r : F × Ps} (e : run L (3 * L.length + 3) (.alt .nil) r0 = r) : (r.2.e = 11 → parseP L n = .error (11, r.2.at_)) ∧ (r.2.e = 0 → r.2.i = L.length → parseP L n = .ok (oneF 13 r.1)) := by
 rw [parse_fin, e];unfold finX;constructor
 ·intro h;rw [if_neg (show ¬ (r.2.e = 0 ∧ r.2.i < L.length) by rw [h]; exact fun x => absurd x.1 (by decide)), h, if_neg (by decide), if_pos (by decide)]
 ·intro h hi;rw [if_neg (show ¬ (r.2.e = 0 ∧ r.2.i < L.length) by omega), h, if_neg (by decide), if_neg (by decide)]
end ext
end
section
namespace gpf
open sq
open Go tkp trp rpp gpp rtp rsp
open ext (pt rl0 has_notX lex_tok lex_end tok_shut char_lowX r0 run_parse)
def fg (n : Nat) (i : Nat) : Int := if i < 3 * n then (if i % 3 = 0 then 40 else if i % 3 = 1 then 97 else 41) else 0
theorem fg_0 {n j : Nat} (h : j < n) : fg n (3 * j) = 40 := by unfold fg; rw [if_pos (by omega), if_pos (by omega)]
theorem fg_1 {n j : Nat} (h : j < n) : fg n (3 * j + 1) = 97 := by unfold fg; rw [if_pos (by omega), if_neg (by omega), if_pos (by omega)]
theorem fg_2 {n j : Nat} (h : j < n) : fg n (3 * j + 2) = 41 := by unfold fg; rw [if_pos (by omega), if_neg (by omega), if_neg (by omega)]
def tOp (j : Nat) : Tk := lay { kind := 10, n := 1 } (3 * j) (3 * j + 1)
def tLi (j : Nat) : Tk := lay { kind := 1, c := 97 } (3 * j + 1) (3 * j + 2)
def tCl (j : Nat) : Tk := lay { kind := 8 } (3 * j + 2) (3 * j + 3)
def tks : Nat → Nat → List Tk
 | _, 0 => []
 | j, m + 1 => tOp j :: tLi j :: tCl j :: tks (j + 1) m
theorem tks_len : ∀ m j, (tks j m).length = 3 * m
 | 0, _ => rfl
 | m + 1, j => by simp only [tks, List.length_cons, tks_len m (j + 1)]; omega
theorem tok_op {n j : Nat} (h : j < n) : tokR (pt (fg n) (3 * n)) (3 * j) = .ok (some (tOp j), 3 * j + 1) := by unfold tokR;rw [char_lowX (pt (fg n) (3 * n)) (show 3 * j < 3 * n by omega) (fg_0 h) (by decide) (by decide)];dsimp only;rw [if_neg (by simp [pt]), if_neg (by simp [pt]), if_neg (by decide), if_neg (by decide), if_pos rfl];unfold openR;rw [has_notX (p := pt (fg n) (3 * n)) (c := 42) (l := []) (i := 3 * j + 1) (by show fg n (3 * j + 1) ≠ _; rw [fg_1 h]; decide), has_notX (p := pt (fg n) (3 * n)) (c := 63) (l := []) (i := 3 * j + 1) (by show fg n (3 * j + 1) ≠ _; rw [fg_1 h]; decide), if_neg (by simp), if_pos rfl];rfl
theorem tok_li {n j : Nat} (h : j < n) : tokR (pt (fg n) (3 * n)) (3 * j + 1) = .ok (some (tLi j), 3 * j + 2) := by unfold tokR;rw [char_lowX (pt (fg n) (3 * n)) (show 3 * j + 1 < 3 * n by omega) (fg_1 h) (by decide) (by decide)];dsimp only;rw [if_neg (by simp [pt]), if_neg (by simp [pt]), if_neg (by decide), if_neg (by decide), if_neg (by decide), if_neg (by decide), if_neg (by decide), if_neg (by decide), if_neg (by decide), if_neg (by decide), if_neg (by decide), if_neg (by decide), if_neg (by decide), if_neg (by decide)];rfl
theorem lex_n {n : Nat} : ∀ (m j k : Nat) (T : List Tk), j + m = n → 3 * m ≤ k → lexF (pt (fg n) (3 * n)) k false T (3 * j) = .ok (T ++ tks j m)
 | 0, j, k, T, h, _ => by rw [lex_end (show 3 * n ≤ 3 * j by omega)];simp [tks]
 | m + 1, j, k, T, h, hk => by
  obtain ⟨k, rfl⟩ : ∃ q, k = q + 1 + 1 + 1 := ⟨k - 3, by omega⟩;have hj : j < n := by omega
  rw [lex_tok (show 3 * j < 3 * n by omega) (by show fg n (3 * j) ≠ 92; rw [fg_0 hj]; decide) (tok_op hj),
   lex_tok (show 3 * j + 1 < 3 * n by omega) (by show fg n (3 * j + 1) ≠ 92; rw [fg_1 hj]; decide) (tok_li hj),
   lex_tok (show 3 * j + 2 < 3 * n by omega) (by show fg n (3 * j + 2) ≠ 92; rw [fg_2 hj]; decide) (tok_shut rfl (show 3 * j + 2 < 3 * n by omega) (fg_2 hj)),
   show 3 * j + 2 + 1 = 3 * (j + 1) by omega, lex_n m (j + 1) k _ (by omega) (by omega)]
  simp only [tks, List.append_assoc, List.singleton_append];rfl
theorem tks_get : ∀ (m j i : Nat), i < m → (tks j m)[3 * i]? = some (tOp (j + i)) ∧ (tks j m)[3 * i + 1]? = some (tLi (j + i)) ∧ (tks j m)[3 * i + 2]? = some (tCl (j + i))
 | 0, _, _, h => by omega
 | m + 1, j, 0, _ => ⟨rfl, rfl, rfl⟩
 | m + 1, j, i + 1, h => by have ih := tks_get m (j + 1) i (by omega);rw [show j + 1 + i = j + (i + 1) by omega] at ih;rw [show 3 * (i + 1) = 3 * i + 1 + 1 + 1 by omega, show 3 * i + 1 + 1 + 1 + 1 = (3 * i + 1) + 1 + 1 + 1 by omega, show 3 * i + 1 + 1 + 1 + 2 = (3 * i + 2) + 1 + 1 + 1 by omega];exact ih
def capL (j : Nat) : Lab := lab 14 (3 * j : Nat)
def litLX (j : Nat) : Lab := leafL (tLi j) nil3
def capsX : Nat → Nat → F
 | _, 0 => .nil
 | j, m + 1 => .cons (capL j) (F.one (litLX j) .nil) (capsX (j + 1) m)
theorem kind_at {L : List Tk} {s : Ps} {t : Tk} (he : s.e = 0) (h : L[s.i]? = some t) : kindS L s = t.kind := by unfold kindS;rw [if_neg (by simp [he]), h]
theorem kind_no {L : List Tk} {s : Ps} (h : L[s.i]? = none) : kindS L s = 0 := by unfold kindS;rw [h];split <;> rfl
theorem get_D {L : List Tk} {i : Nat} {t : Tk} (h : L[i]? = some t) : L.getD i zeroT = t := by rw [List.getD_eq_getElem?_getD, h]; rfl
theorem li_k (j : Nat) : (tLi j).kind ≠ 10 := show (1 : Int) ≠ 10 by decide
theorem op_k (j : Nat) : ¬ (tOp j).kind ≠ 10 := show ¬ (10 : Int) ≠ 10 by decide
theorem op_n (j : Nat) : ¬ (tOp j).n = 13 := show ¬ (1 : Int) = 13 by decide
theorem op_c (j : Nat) : ¬ condT (tOp j) = true := show ¬ (false = true) by decide
theorem thing_cap {n j k : Nat} (hj : j < n) : run (tks 0 n) (k + 6) .thing ⟨3 * j, 0, 0, 0⟩ = (F.one (capL j) (F.one (litLX j) .nil), ⟨3 * (j + 1), 0, 0, 0⟩) := by
 obtain ⟨g0, g1, g2⟩ := tks_get n 0 j hj;rw [Nat.zero_add] at g0 g1 g2;have d0 := get_D g0;have d1 := get_D g1;have k1 : kindS (tks 0 n) ⟨3 * j + 1, 1, 0, 0⟩ = 1 := by rw [kind_at (s := ⟨3 * j + 1, 1, 0, 0⟩) rfl g1]; rfl
 have k2 : kindS (tks 0 n) ⟨3 * j + 2, 1, 0, 0⟩ = 8 := by rw [kind_at (s := ⟨3 * j + 2, 1, 0, 0⟩) rfl g2]; rfl
 generalize tks 0 n = L at *;have e1 : run L (k + 3) .thing ⟨3 * j + 1, 1, 0, 0⟩ = (F.one (litLX j) .nil, ⟨3 * j + 2, 1, 0, 0⟩) := by rw [run];simp only;rw [d1, if_pos (li_k j)];rfl
 have e2 : run L (k + 4) (.seq .nil) ⟨3 * j + 1, 1, 0, 0⟩ = (F.one (litLX j) .nil, ⟨3 * j + 2, 1, 0, 0⟩) := by rw [run, if_neg (by rw [k1]; decide), if_neg (by rw [k1]; decide)];simp only;rw [e1];simp only;rw [if_neg (by rw [k2]; exact fun x => absurd x.1 (by decide)), run, if_pos (by rw [k2]; decide)];rfl
 have e3 : run L (k + 5) (.alt .nil) ⟨3 * j + 1, 1, 0, 0⟩ = (F.one (litLX j) .nil, ⟨3 * j + 2, 1, 0, 0⟩) := by rw [run];simp only;rw [e2];simp only;rw [if_neg (by rw [k2]; decide)];rfl
 rw [run];simp only;rw [d0, if_neg (op_k j), if_neg (by decide), if_neg (show ¬ ((tOp j).n = 13 ∧ kindS L ⟨3 * j + 1, 0 + 1, 0, 0⟩ = 10) from fun x => op_n j x.1)];simp only [Nat.zero_add];rw [e3];simp only;rw [if_neg (by rw [k2]; decide)];have hg : jf (tOp j) .nil (F.one (litLX j) .nil) = F.one (capL j) (F.one (litLX j) .nil) := rfl;have hs : zf (tOp j) (F.one (litLX j) .nil) ⟨3 * j + 2 + 1, 1 - 1, 0, 0⟩ = ⟨3 * (j + 1), 0, 0, 0⟩ := by unfold zf;rw [if_neg (fun x => op_c j x.1)];rfl
 rw [hg, hs]
theorem seq_caps {n : Nat} : ∀ (m j fuel : Nat) (acc : F), j + m = n → 8 * m + 1 ≤ fuel → run (tks 0 n) fuel (.seq acc) ⟨3 * j, 0, 0, 0⟩ = (oneF 12 (F.app acc (capsX j m)), ⟨3 * n, 0, 0, 0⟩)
 | 0, j, fuel, acc, h, hf => by
  obtain ⟨k, rfl⟩ : ∃ k, fuel = k + 1 := ⟨fuel - 1, by omega⟩;have : kindS (tks 0 n) ⟨3 * j, 0, 0, 0⟩ = 0 := kind_no (List.getElem?_eq_none (by rw [tks_len]; show 3 * n ≤ 3 * j; omega));rw [run, if_pos (Or.inl this), capsX, ext.app_nilX];obtain rfl : j = n := by omega
  rfl
 | m + 1, j, fuel, acc, h, hf => by
  obtain ⟨k, rfl⟩ : ∃ k, fuel = k + 6 + 1 := ⟨fuel - 7, by omega⟩;have hj : j < n := by omega
  obtain ⟨g0, _, _⟩ := tks_get n 0 j hj;have k0 : kindS (tks 0 n) ⟨3 * j, 0, 0, 0⟩ = 10 := by rw [Nat.zero_add] at g0; rw [kind_at (s := ⟨3 * j, 0, 0, 0⟩) rfl g0]; rfl
  have k1 : kindS (tks 0 n) ⟨3 * (j + 1), 0, 0, 0⟩ ≠ 9 := by
   by_cases hj2 : j + 1 < n
   ·obtain ⟨g3, _, _⟩ := tks_get n 0 (j + 1) hj2;rw [kind_at (s := ⟨3 * (j + 1), 0, 0, 0⟩) rfl g3];show ¬ ((10 : Int) = 9);decide
   ·rw [kind_no (s := ⟨3 * (j + 1), 0, 0, 0⟩) (List.getElem?_eq_none (by rw [tks_len]; show 3 * n ≤ 3 * (j + 1); omega))];decide
  rw [run, if_neg (by rw [k0]; decide), if_neg (by rw [k0]; decide)];simp only;rw [thing_cap hj];simp only;rw [if_neg (fun x => k1 x.1), seq_caps m (j + 1) (k + 6) _ (by omega) (by omega), ext.app_assocX];rfl
theorem parse_n (n : Nat) (N : Int) : parseP (tks 0 n) N = .ok (oneF 12 (capsX 0 n)) := by
 have hl := tks_len n 0;have e : run (tks 0 n) (3 * (tks 0 n).length + 3) (.alt .nil) r0 = (oneF 12 (capsX 0 n), ⟨3 * n, 0, 0, 0⟩) := by
  rw [run];have := seq_caps n 0 (3 * (tks 0 n).length + 2) .nil (Nat.zero_add n) (by omega);try simp only
  rw [show (r0 : Ps) = ⟨3 * 0, 0, 0, 0⟩ from rfl, this];try simp only
  rw [if_neg (by rw [kind_no (s := ⟨3 * n, 0, 0, 0⟩) (List.getElem?_eq_none (by rw [hl]; exact xL _))]; decide)];rfl
 rw [(run_parse (n := N) e).2 rfl hl.symm];obtain ⟨x, k, h⟩ := ext.one_F 12 (capsX 0 n);show (Except.ok (oneF 13 (oneF 12 (capsX 0 n))) : R F) = _;rw [h];rfl
def capR (j : Nat) (u : Bool) (m f : Int) : Lab × F := ({ bare (capL j) with mode := repM f 14 0 }, (rowP u m (F.one (litLX j) .nil) f).1)
def capsR (u : Bool) (m f : Int) : Nat → Nat → F
 | _, 0 => .nil
 | j, c + 1 => .cons (capR j u m f).1 (capR j u m f).2 (capsR u m f (j + 1) c)
theorem node_cap (u : Bool) (m f : Int) (j : Nat) : nodeP u m (fun g => rowP u m (F.one (litLX j) .nil) g) (capL j) (F.one (litLX j) .nil) f = (F.one (capR j u m f).1 (capR j u m f).2, f) := rfl
theorem row_caps (u : Bool) (m f : Int) : ∀ c j, rowP u m (capsX j c) f = (capsR u m f j c, f)
 | 0, _ => rfl
 | c + 1, j => by
  rw [capsX, rowP];try simp only
  rw [node_cap];try simp only
  rw [row_caps u m f c (j + 1)];rfl
theorem flat_caps (u : Bool) (m f : Int) : ∀ c j, flatF (capsR u m f j c) = capsR u m f j c
 | 0, _ => rfl
 | c + 1, j => by rw [capsR, flatF, flat_caps u m f c (j + 1)];rfl
theorem res_n (n : Nat) (x : Lab) (k : F) (h : oneF 12 (capsX 0 n) = F.one x k) : resP (x, k) 0 = oneF 12 (capsR (decide (andI 0 32 ≠ 0)) (if andI 0 32 ≠ 0 then 1114111 else 255) (andI 0 23) 0 n) := by
 unfold resP;simp only;generalize decide (andI 0 32 ≠ 0) = u;generalize (if andI 0 32 ≠ 0 then (1114111 : Int) else 255) = m;generalize andI 0 23 = f
 match n, h with
 | 0, h => cases h; rfl
 | 1, h => cases h; rfl
 | n + 2, h =>
  have h' : F.one (lab 12 0) (capsX 0 (n + 2)) = F.one x k := h;simp only [F.one, F.cons.injEq, and_true] at h';obtain ⟨rfl, rfl⟩ := h';have hn : nodeP u m (fun g => rowP u m (capsX 0 (n + 2)) g) (lab 12 0) (capsX 0 (n + 2)) f = (oneF 12 (flatF (rowP u m (capsX 0 (n + 2)) f).1), (rowP u m (capsX 0 (n + 2)) f).2) := rfl;rw [hn, row_caps];simp only;rw [flat_caps]
theorem kid_num (u : Bool) (m f : Int) (j : Nat) (e : Int) (l : List (ByteArray × Int)) : (numF false e (capR j u m f).2 e (e, l)).1.1 = 0 ∧ (numF false e (capR j u m f).2 e (e, l)).2.2.1 = e ∧ (numF false e (capR j u m f).2 e (e, l)).2.2.2 = (e, l) := by
 have h : ∃ z, (capR j u m f).2 = F.one z .nil ∧ z.kind = 2 := ⟨_, rfl, rfl⟩;obtain ⟨z, hz, hk⟩ := h;have he : entS z (e, l) = (0, (e, l)) := if_neg (by rw [hk]; decide);have hn : (numN z .nil (e, l)).1 = (0, 0) ∧ (numN z .nil (e, l)).2.2 = (e, l) := by unfold numN;rw [he];exact ⟨rfl, rfl⟩
 rw [hz, F.one, numF_cons];simp only [Bool.false_eq_true, if_false];generalize numN z .nil (e, l) = q at *;obtain ⟨h1, h2⟩ := hn;rw [h1, h2, if_neg (by decide)];refine ⟨rfl, ?_, rfl⟩;show max e e = e;omega
theorem cap_ok (u : Bool) (m f : Int) {j : Nat} (hj : j < 60) : (numN (capR j u m f).1 (capR j u m f).2 ((j : Int), [])).1 = (0, 0) ∧ (numN (capR j u m f).1 (capR j u m f).2 ((j : Int), [])).2.2 = ((j : Int) + 1, []) := by
 have hE : entS (capR j u m f).1 ((j : Int), []) = (0, ((j : Int) + 1, [])) := by show (if 60 < (j : Int) + 1 then _ else _) = _;rw [if_neg (by omega)];rfl
 obtain ⟨q1, q2, q3⟩ := kid_num u m f j ((j : Int) + 1) [];unfold numN;rw [hE];simp only [ne_eq, not_true_eq_false, if_false];rw [show decide ((capR j u m f).1.kind = 16) = false from rfl];generalize numF false ((j : Int) + 1) (capR j u m f).2 ((j : Int) + 1) ((j : Int) + 1, []) = q at *;rw [q1];simp only [not_true_eq_false, if_false];rw [q2, q3];exact ⟨trivial, rfl⟩
theorem cap_60 (u : Bool) (m f : Int) : (numN (capR 60 u m f).1 (capR 60 u m f).2 (60, [])).1 = (12, 180) := by have hE : entS (capR 60 u m f).1 (60, []) = (12, (61, [])) := rfl;unfold numN;rw [hE];rfl
theorem num_caps (u : Bool) (m f : Int) : ∀ (c j : Nat) (bef : Int), j ≤ 60 → (j + c ≤ 60 → (numF false bef (capsR u m f j c) j (j, [])).1.1 = 0 ∧ (numF false bef (capsR u m f j c) j (j, [])).2.2.1 = (j + c : Nat) ∧ (numF false bef (capsR u m f j c) j (j, [])).2.2.2 = (((j + c : Nat) : Int), [])) ∧
 (60 < j + c → (numF false bef (capsR u m f j c) j (j, [])).1 = (12, 180))
 | 0, j, bef, hj => ⟨fun _ => ⟨rfl, rfl, rfl⟩, fun h => by omega⟩
 | c + 1, j, bef, hj => by
  rw [capsR, numF_cons];simp only [Bool.false_eq_true, if_false];by_cases h60 : j = 60
  ·subst h60;refine ⟨fun h => by omega, fun _ => ?_⟩;have := cap_60 u m f;rw [show ((60 : Nat) : Int) = 60 from rfl];generalize numN (capR 60 u m f).1 (capR 60 u m f).2 (60, []) = q at *;rw [this, if_pos (by decide)]
  ·obtain ⟨q1, q2⟩ := cap_ok u m f (j := j) (by omega);generalize numN (capR j u m f).1 (capR j u m f).2 ((j : Int), []) = q at *;rw [q1, if_neg (by decide), q2];simp only;have ih := num_caps u m f c (j + 1) bef (by omega);rw [show max (j : Int) ((j : Int) + 1) = ((j + 1 : Nat) : Int) by omega, show ((j : Int) + 1) = ((j + 1 : Nat) : Int) by omega];rw [show j + (c + 1) = j + 1 + c by omega];exact ih
theorem num_n (n : Nat) (u : Bool) (m f : Int) (y : Lab) (k : F) (h : oneF 12 (capsR u m f 0 n) = F.one y k) : (n ≤ 60 → (qH (y, k)).1.1 = 0 ∧ (qH (y, k)).2.2.1 = (n : Int)) ∧ (60 < n → (qH (y, k)).1 = (12, 180)) := by
 have hc := num_caps u m f n 0 0 (by decide);rw [Nat.zero_add] at hc
 match n, h with
 | 0, h =>
  cases h;exact ⟨fun _ => ⟨rfl, rfl⟩, fun h => by omega⟩
 | 1, h =>
  have h' : F.one (capR 0 u m f).1 (capR 0 u m f).2 = F.one y k := h;simp only [F.one, F.cons.injEq, and_true] at h';obtain ⟨rfl, rfl⟩ := h';refine ⟨fun _ => ?_, fun h => by omega⟩;unfold qH numN entS;simp only;rw [if_pos (show (capR 0 u m f).1.kind = 14 from rfl), show zy (capR 0 u m f).1.name (0, []) = (0, (1, [])) from rfl];simp only;rw [if_neg (by decide), show decide ((capR 0 u m f).1.kind = 16) = false from rfl];obtain ⟨q1, q2, q3⟩ := kid_num u m f 0 1 [];rw [if_neg (by rw [q1]; decide)];exact ⟨rfl, q2⟩
 | n + 2, h =>
  have h' : F.one (lab 12 0) (capsR u m f 0 (n + 2)) = F.one y k := h;simp only [F.one, F.cons.injEq, and_true] at h';obtain ⟨rfl, rfl⟩ := h';have hN : qH (lab 12 0, capsR u m f 0 (n + 2)) = (let q := numF false 0 (capsR u m f 0 (n + 2)) 0 (0, []); if q.1.1 ≠ 0 then (q.1, (lab 12 0, q.2.1), q.2.2.2) else ((0, 0), (lab 12 0, q.2.1), (q.2.2.1, q.2.2.2.2))) := rfl;rw [hN];have e0 : ((0 : Nat) : Int) = 0 := rfl;rw [e0] at hc;generalize numF false 0 (capsR u m f 0 (n + 2)) 0 (0, []) = q at *;simp only;refine ⟨fun h => ?_, fun h => ?_⟩
  ·obtain ⟨a, b, _⟩ := hc.1 h;rw [if_neg (by rw [a]; decide)];exact ⟨rfl, b⟩
  ·have a := hc.2 h;rw [if_pos (by rw [a]; decide)];exact a
end gpf
end
section
namespace utfw
open sq
open Go Go.RowKit utfp
theorem infoByte : (Try.prog.info? 5).map (fun i => (i.zero, i.size, i.bytes)) = some (some (.int .u8 0), 1, 1) := by kernel_rfl
def bc (l : List Int) : List Value := l.map (Value.int .u8)
def NilOk (v : Value) : Prop := v = .slice none 0 0 ∨ ∃ ad m c, v = .slice (some ad) m c
def Own (w : World) (base : Nat) (v : Value) (L : List Int) : Prop := w.ownsRow base 5 1 v L.length (bc L)
theorem own_below {w w' : World} {base : Nat} {v : Value} {L : List Int} (h : Own w base v L) (hb : Below w.heap.size w w') : Own w' base v L := by
 obtain ⟨h1, h2⟩ := h;refine ⟨h1, ?_⟩;rcases h2 with h2 | ⟨g, cap, cur, hv, hg, hh, r⟩
 ·exact Or.inl h2
 ·refine Or.inr ⟨g, cap, cur, hv, hg, ?_, r⟩;have hlt : g < w.heap.size := by
   rcases Nat.lt_or_ge g w.heap.size with h | h
   ·exact h
   ·rw [Array.getElem?_eq_none h] at hh; cases hh
  rw [hb.block g hlt];exact hh
theorem own_nil (w : World) (base : Nat) : Own w base (.slice none 0 0) [] := World.ownsRow_nil w base _ 1
theorem own_sl {w : World} {base : Nat} {v : Value} {L : List Int} (h : Own w base v L) (hL : ∀ x ∈ L, 0 ≤ x ∧ x ≤ 255) (hlen : L.length ≤ 140737488355328) : Sl w v L.length (at_ L) := by
 refine ⟨at_bytes hL, hlen, ?_⟩;have h' := h;obtain ⟨_, h2⟩ := h;rcases h2 with ⟨hv, hn⟩ | ⟨g, cap, cur, hv, _, hh, hnc, hcm, _⟩
 ·left;have e : L = [] := List.eq_nil_of_length_eq_zero hn;subst e;exact ⟨rfl, none, 0, hv, by omega⟩
 ·right;unfold maxLen at hcm;refine ⟨g, 0, cap, hv, ⟨hnc, by omega⟩, fun i hi => ?_⟩;unfold Own at h';rw [hv] at h';have := h'.cellAt i (by omega);rw [Nat.zero_add, this];simp [bc, at_, List.getD, hi]
theorem zJ {w : World} {base : Nat} {v : Value} {L : List Int} (h : Own w base v L) : ∃ a c, v = .slice a L.length c := by
 obtain ⟨_, h2⟩ := h;rcases h2 with ⟨h, hn⟩ | ⟨g, cap, cur, hv, _⟩
 ·rw [hn]; exact ⟨_, _, h⟩
 ·exact ⟨_, _, hv⟩
theorem wpList_append_sl {ops : Array Oper} {rest : List Oper} {o : Oper} {a : Act} {w : World} {Q : Exit → Act → World → Prop} (hgd : o.guard = none) (s x : Operand)
 (ho : o.op = .call { callee := .builtin .append, args := #[s, x], argTypes := #[22, 22] }) (base : Nat) (v : Value) (L : List Int) (hs : a.eval s = v) (hown : Own w base v L)
 (vx : Value) (m : Nat) (g : Nat → Int) (hx : a.eval x = vx) (hsl : Sl w vx m g) (hnil : NilOk vx) (hlen : L.length + m ≤ 140737488355328) (hbase : base ≤ w.heap.size)
 (h : ∀ v' w', Own w' base v' (L ++ (List.range m).map g) → (∀ B w0, Below B w0 w → B ≤ base → Below B w0 w') → wpList Try.prog ops Q rest (a.put o.dst v') w') : wpList Try.prog ops Q (o :: rest) a w := by
 obtain ⟨i0, hi, hz0, hz1, hz2⟩ := info_parts infoByte;rcases hnil with rfl | ⟨ad, m', c, rfl⟩
 ·have hm : m = 0 := by
   obtain ⟨_, _, ⟨h0, _⟩ | ⟨b, off, cap, hv, _⟩⟩ := hsl
   ·exact h0
   ·cases hv
  subst hm;refine wpList_append_own_none hgd s x _ ho base 5 i0 1 Try.underlying22 hi v _ _ hs hown hx ?_;refine h v w ?_ (fun B w0 hb _ => hb);simpa using hown
 ·have hm : m' = m := by
   obtain ⟨_, _, ⟨h0, a, cap, hv, _⟩ | ⟨b, off, cap, hv, _⟩⟩ := hsl
   ·cases hv; exact h0.symm
   ·cases hv; rfl
  subst hm;refine wpList_append_own w hgd s x _ ho base 5 i0 (.int .u8 0) 1 1 Try.underlying22 hi hz0 hz1 hz2 rfl (by decide) v _ _ hs hown ad m' c (bc ((List.range m').map g)) hx (by simp [bc]) ?_ ?_ (by unfold maxLen; omega) (by omega) hbase ?_
  ·intro j u hj;have hjm : j < m' := by
    rcases Nat.lt_or_ge j m' with h | h
    ·exact h
    ·rw [List.getElem?_eq_none (by simpa [bc] using h)] at hj; cases hj
   obtain ⟨_, _, ⟨h0, _⟩ | ⟨b, off, cap, hv, _, hc⟩⟩ := hsl
   ·omega
   ·cases hv;have hplain : (⟨b, off, none⟩ : Addr).add j = ⟨b, off + j, none⟩ := by unfold Addr.add; split <;> simp_all
    rw [hplain, hc j hjm];simp [bc, hjm] at hj;rw [← hj]
  ·intro u hu;simp only [bc, List.mem_map] at hu;obtain ⟨y, _, rfl⟩ := hu;rfl
  ·intro v' w' hown' hgr _;refine h v' w' ?_ (fun B w0 hb hB => hb.grown hgr (by omega) (fun k hk => ?_))
   ·have e : bc (L ++ (List.range m').map g) = bc L ++ bc ((List.range m').map g) := by simp [bc]
    unfold Own;rw [e];simpa using hown'
   ·have := (World.ownsRow.lt hown) k hk;omega
end utfw
end
end Go.Proofs.Ytnpcombfgdbhkaa
