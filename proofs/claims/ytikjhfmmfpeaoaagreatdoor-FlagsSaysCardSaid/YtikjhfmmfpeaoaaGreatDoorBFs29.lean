/- T -/
import Derived.Test.YtikjhfmmfpeaoaaGreatDoorBFs25
import Derived.Test.YtikjhfmmfpeaoaaGreatDoorBFs28
set_option maxHeartbeats 16000000
set_option maxRecDepth 1000000
namespace Go.Proofs.YtikjhfmmfpeaoaaGreatDoor
section
namespace fll
open sq
open Go Go.RowKit Go.Maps utfw tkp trp trw rpp rsp rtp setw fgp fkw
open rpw (sees jB qh ql qp jm)
open ucdw (Tab3)
open tkw (sg)
theorem strip_strip8 : ∀ f : F, strip (strip f) = strip f
 | .nil => rfl
 | .cons x k r => by rw [strip, strip, strip_strip8 k, strip_strip8 r]
theorem node_bare8 (u : Bool) (m : Int) (rk : Int → F × Int) (x : Lab) (k : F) (f : Int) : nodeP u m rk (bare x) (strip k) f = nodeP u m rk x k f := by unfold nodeP;rw [strip_strip8];rfl
theorem row_strip8 (u : Bool) (m : Int) : ∀ (l : F) (f : Int), rowP u m (strip l) f = rowP u m l f
 | .nil, _ => rfl
 | .cons x k r, f => by
  have e : (fun g => rowP u m (strip k) g) = fun g => rowP u m k g := funext fun g => row_strip8 u m k g
  rw [strip, rowP, rowP];show (F.app (nodeP u m (fun g => rowP u m (strip k) g) (bare x) (strip k) f).1 (rowP u m (strip r) (nodeP u m (fun g => rowP u m (strip k) g) (bare x) (strip k) f).2).1, (rowP u m (strip r) (nodeP u m (fun g => rowP u m (strip k) g) (bare x) (strip k) f).2).2) = _;rw [e, node_bare8, row_strip8 u m r]
theorem res_strip8 (x : Lab) (k : F) (o : Int) : resP (bare x, strip k) o = resP (x, k) o := by
 unfold resP;have e : ∀ u m, (fun g => rowP u m (strip k) g) = fun g => rowP u m k g := fun u m => funext fun g => row_strip8 u m k g
 simp only [e, node_bare8]
theorem same_strip8 : ∀ f g : F, strip f = strip g → sameF f g = true ∧ plF f g = true
 | .nil, .nil, _ => ⟨rfl, rfl⟩
 | .nil, .cons _ _ _, h => by cases h
 | .cons _ _ _, .nil, h => by cases h
 | .cons x k r, .cons y k' r', h => by
  simp only [strip, F.cons.injEq] at h;obtain ⟨h1, h2, h3⟩ := h;have a := same_strip8 k k' h2;have b := same_strip8 r r' h3;have hl : k.len = k'.len := by rw [← rpw.jm k, h2, rpw.jm]
  simp only [Lab.mk.injEq] at h1;obtain ⟨e1, e2, e3, _, e4, e5, e6, e7, e8, e9, e10, e11, _⟩ := h1;simp [sameF, plF, labEq, a.1, a.2, b.1, b.2, hl, e1, e2, e3, e4, e5, e6, e7, e8, e9, e10, e11]
theorem same8 {x y : Lab} {k j : F} (h : strip (F.one x k) = strip (F.one y j)) : sameT (x, k) (y, j) = true ∧ plT (x, k) (y, j) = true := by have := same_strip8 _ _ h;simp only [F.one, sameF, plF, Bool.and_true] at this;exact this
theorem doc8 {g : Nat → Int} {n : Nat} {o : Int} {t : F} (ht : rawP (sg (strOf n g)) n o = some t) {y : Lab} {j : F} (hs : strip (F.one y j) = t) (p : Int) (w : World) (hn : NdAt w (y, j)) : Calls Tryz.prog 11 #[ndV y, .int .i64 p] w (rsw.ResB (fun _ => false) (ansP t p) w) := by obtain ⟨h1, h2, h3, -⟩ := rawP_ok ht;subst hs;have e : ansP (strip (F.one y j)) p = resP (y, j) p := (answer_res (bare y, strip j) p h3).symm.trans (res_strip8 y j p);rw [e];refine rsw.res_any (fun _ => false) y j p w (fun i hi => by cases hi) (qY (fun _ _ hc => jB.2 ⟨rfl, hc⟩) hn) (okF_strip8.2 h1) ?_;rw [size_strip8] at h2;simp only [F.one, F.size] at h2;omega
theorem nd12 {w : World} {b : Nat} {x : Lab} (h : w.heap[b]? = some (.cells (ndC x).toArray 27 (0, 0))) : w.cell? ⟨b, 0, none⟩ = some (.int .i64 x.kind) ∧ w.cell? ⟨b, 1, none⟩ = some (.int .i64 x.at_) ∧ w.cell? ⟨b, 2, none⟩ = some (.int .i64 x.c) ∧ w.cell? ⟨b, 3, none⟩ = some x.sv ∧ w.cell? ⟨b, 4, none⟩ = some (.bool x.neg) ∧ w.cell? ⟨b, 5, none⟩ = some (.int .i64 x.n) ∧ w.cell? ⟨b, 6, none⟩ = some (.int .i64 x.m) ∧ w.cell? ⟨b, 7, none⟩ = some (.int .i64 x.mode) ∧ w.cell? ⟨b, 8, none⟩ = some (.string x.name) ∧ w.cell? ⟨b, 9, none⟩ = some (.int .i64 x.on) ∧ w.cell? ⟨b, 10, none⟩ = some (.int .i64 x.off) ∧ w.cell? ⟨b, 11, none⟩ = some x.kv := by unfold World.cell?;rw [h];exact ⟨rfl, rfl, rfl, rfl, rfl, rfl, rfl, rfl, rfl, rfl, rfl, rfl⟩
theorem says_law8 (v : Value) (n : Nat) (g : Nat → Int) (o : Int) (w : World) (hT : Tab3 w) (hv : Sl w v n g) : Calls Tryz.prog 3 #[v, .int .i64 o] w (trw.BoolB true w) := by
 have LA := xH (awake_any8 w hT);have HT := xH hT;have HV := xH hv;clear hT hv;go_enter Tryz.func3, Tryz.ntmps3;go_wp2_with fail
 refine LA.out.mono ?_;rintro e w1 ⟨rfl, hb⟩;have HB1 := xH hb;clear hb LA;have LR := xH (raw_any v n g o w1 (utfw.below_sl HB1.out HV.out));obtain ⟨R, hR⟩ : ∃ R, rawP (sg (strOf n g)) n o = R := ⟨_, rfl⟩;rw [hR] at LR;have HR := xH hR;clear hR HV;try dsimp only
 go_upto_region 4 with (fail)
 go_wp2_with fail
 refine LR.out.mono ?_;cases R with
 | none =>
  rintro e w2 ⟨hb, rfl⟩;have HB2 := xH (trw.qi HB1.out hb);have HG := xH (heap_alloc_new w2 (.cells zC.toArray 27));have HO := xH (qp (t := (lab 0 0, F.nil)) (rpw.zero_at w2));unfold zC at HG;clear hb LR;try dsimp only
  unfold ndV;go_upto_region 5 with (refine wpList_store_nw rfl rfl _ _ rfl w2.heap.size rfl _ (lab 0 0) HG.out rfl HO.out rfl ?_; intro w3 h3; have HB3 := xH (show Below w2.heap.size w2 w3 from h3.out ▸ rpw.jU w2 _ _ _); clear h3)
  go_wp2_with fail
  go_ret
  exact ⟨rfl, trw.qi HB2.out HB3.out⟩
 | some t =>
  rintro e w2 ⟨hb, y, j, rfl, hn, hs⟩;have HB2 := xH (trw.qi HB1.out hb);have HG := xH (heap_alloc_new w2 (.cells zC.toArray 27));have HO := xH (qp hn);have HN := xH hn;have HS := xH hs;unfold zC at HG;clear hb LR hn hs;try dsimp only
  unfold ndV;go_upto_region 7 with (refine wpList_store_nw rfl rfl _ _ rfl w2.heap.size rfl _ y HG.out rfl HO.out rfl ?_; intro w3 h3; have HB3 := xH (show Below w2.heap.size w2 w3 from h3.out ▸ rpw.jU w2 _ _ _); have HG3 := xH (show w3.heap[w2.heap.size]? = some (.cells (ndC y).toArray 27 (0, 0)) from h3.out ▸ setRow_heap _ _ _ _ _ _ HG.out); clear h3)
  have HB03 := xH (trw.qi HB2.out HB3.out);have HN3 := xH (kidsNd HN.out HB3.out);have LS := xH (res8 HR.out HS.out o (fun _ => false) w3 (fun i hi => by cases hi) HN3.out (tab_below8 HT.out HB03.out));clear HG HO HN;go_wp2_with (refine ql rfl _ rfl w2.heap.size rfl y HG3.out ?_)
  refine LS.out.mono ?_;rintro e w4 ⟨z, q, rfl, hn, hs, hb⟩;have HZ4 := xH (sees_none _ hn);have HS4 := xH hs;have HB4 := xH hb;have HO4 := xH (qp hn);have HG4 := xH (heap_alloc_new w4 (.cells zC.toArray 27));unfold zC at HG4;clear hn hs hb LS;try dsimp only
  unfold ndV;go_upto_region 8 with (refine wpList_store_nw rfl rfl _ _ rfl w4.heap.size rfl _ z HG4.out rfl HO4.out rfl ?_; intro w5 h5; have HB5 := xH (show Below w4.heap.size w4 w5 from h5.out ▸ rpw.jU w4 _ _ _); have HG5 := xH (show w5.heap[w4.heap.size]? = some (.cells (ndC z).toArray 27 (0, 0)) from h5.out ▸ setRow_heap _ _ _ _ _ _ HG4.out); clear h5)
  have HB35 := xH (trw.qi HB4.out HB5.out);have HGY5 := xH ((HB35.out.block _ (Array.getElem?_eq_some_iff.1 HG3.out).1).trans HG3.out);have LD := xH (doc8 HR.out HS.out o w5 (kidsNd HN3.out HB35.out));go_wp2_with (refine ql rfl _ rfl w2.heap.size rfl y HGY5.out ?_)
  refine LD.out.mono ?_;rintro e w6 ⟨hb, u, r, rfl, hn, hs⟩;have HU6 := xH (sees_none _ hn);have HSQ := xH (same8 (HS4.out.trans hs.symm));have HB6 := xH hb;have HO6 := xH (qp hn);have HG6 := xH (heap_alloc_new w6 (.cells zC.toArray 27));unfold zC at HG6;clear hn hs hb LD HS4 HO4 HG4;try dsimp only
  unfold ndV;go_upto_region 9 with (refine wpList_store_nw rfl rfl _ _ rfl w6.heap.size rfl _ u HG6.out rfl HO6.out rfl ?_; intro w7 h7; have HB7 := xH (show Below w6.heap.size w6 w7 from h7.out ▸ rpw.jU w6 _ _ _); have HG7 := xH (show w7.heap[w6.heap.size]? = some (.cells (ndC u).toArray 27 (0, 0)) from h7.out ▸ setRow_heap _ _ _ _ _ _ HG6.out); clear h7)
  have HB57 := xH (trw.qi HB6.out HB7.out);have HB07 := xH (trw.qi HB03.out (trw.qi HB35.out HB57.out));have HGZ7 := xH ((HB57.out.block _ (Array.getElem?_eq_some_iff.1 HG5.out).1).trans HG5.out);have HZ7 := xH (kidsNd HZ4.out (trw.qi HB5.out HB57.out));have HU7 := xH (kidsNd HU6.out HB7.out);have LQ := xH (rsame_any (q.size + 1) (z, q) (u, r) w7 (Nat.lt_succ_self _) HZ7.out HU7.out);have LP := xH (fun (w8 : World) (hb : Below w7.heap.size w7 w8) => places_any (q.size + 1) (z, q) (u, r) w8 (Nat.lt_succ_self _) (kidsNd HZ7.out hb) (kidsNd HU7.out hb));rw [HSQ.out.1] at LQ;rw [HSQ.out.2] at LP;clear HG6 HO6 HSQ HZ7 HU7 HU6 HZ4 HGY5 HG5;generalize w4.heap.size = V4 at *;generalize w6.heap.size = V6 at *;go_wp2_with (first
   | (refine ql rfl _ rfl V4 rfl z HGZ7.out ?_)
   | (refine ql rfl _ rfl V6 rfl u HG7.out ?_))
  refine LQ.out.mono ?_;rintro e w8 ⟨rfl, hb⟩;have HB8 := xH hb;have h4 := (hb.block _ (Array.getElem?_eq_some_iff.1 HGZ7.out).1).trans HGZ7.out;have h6 := (hb.block _ (Array.getElem?_eq_some_iff.1 HG7.out).1).trans HG7.out;have LP8 := xH (LP.out w8 hb);clear hb LQ LP HGZ7 HG7;obtain ⟨c0, c1, c2, c3, c4, c5, c6, c7, c8, c9, c10, c11⟩ := nd12 h4;obtain ⟨d0, d1, d2, d3, d4, d5, d6, d7, d8, d9, d10, d11⟩ := nd12 h6;clear h4 h6;unfold ndV at LP8;try dsimp only
  go_wp2_with fail
  refine LP8.out.mono ?_;rintro e w9 ⟨rfl, hb⟩;have HB9 := xH (trw.qi (trw.qi HB07.out HB8.out) hb);clear hb LP8 c0 c1 c2 c3 c4 c5 c6 c7 c8 c9 c10 c11 d0 d1 d2 d3 d4 d5 d6 d7 d8 d9 d10 d11;try dsimp only
  go_wp2_with fail
  go_ret
  exact ⟨rfl, HB9.out⟩
end fll
end
end Go.Proofs.YtikjhfmmfpeaoaaGreatDoor
