/- T -/
import Derived.StillTailTactics
import Derived.Test.YtikjhfmmfpeaoaaGreatDoorBFc25
set_option maxHeartbeats 16000000
set_option maxRecDepth 1000000
section
namespace Go.Proofs.YtikjhfmmfpeaoaaGreatDoor.fkw
open sq
open Go.Sort Go Go.RowKit Go.Maps setp setw tkp trp trw rpp rsp fgp
open ucdw (Tab3)
open rpw (sees jB qU qp qA qh ql)
open rsw (Old hN nd_unN nd_fld qV own_lit own_rg rg_rs lit_wf)
structure RF (h : Nat → Bool) (x : Lab) (j : F) (w w0 : World) : Prop where
 b : Below w.heap.size w w0
 n : w0.heap[w.heap.size]? = some (.cells (ndC x).toArray 27 (0, 0))
 r : w0.heap[w.heap.size + 1]? = some (.cells zC.toArray 27 (0, 0))
 t : NdAt (sees (hN h (w.heap.size + 1)) w0) (x, j)
 o : Old (hN h (w.heap.size + 1)) w0.heap.size
 s : w.heap.size + 2 ≤ w0.heap.size
theorem rf_start {h : Nat → Bool} {x : Lab} {j : F} {w : World} (ho : Old h w.heap.size) (hn : NdAt (sees h w) (x, j)) : RF h x j w ((w.alloc (.cells (ndC x).toArray 27)).alloc (.cells zC.toArray 27)) := by
 have z1 := World.size_alloc w (.cells (ndC x).toArray 27);have z2 := World.size_alloc (w.alloc (.cells (ndC x).toArray 27)) (.cells zC.toArray 27);have b1 := qg w (.cells (ndC x).toArray 27);have b2 := qg (w.alloc (.cells (ndC x).toArray 27)) (.cells zC.toArray 27);have g1 := heap_alloc_new w (.cells (ndC x).toArray 27);have g2 := heap_alloc_new (w.alloc (.cells (ndC x).toArray 27)) (.cells zC.toArray 27);rw [z1] at g2 z2;have hb := qi b1 b2;refine ⟨hb, (b2.block _ (by omega)).trans g1, g2, qY (qU fun a v k1 hc => ⟨?_, trw.qf hb hc⟩) hn, fun i hi => ?_, by omega⟩
 ·have := cell_lt hc;simp only [hN, k1, Bool.false_or, Bool.or_eq_false_iff, decide_eq_false_iff_not];omega
 ·simp only [hN, Bool.or_eq_true, decide_eq_true_eq] at hi;rcases hi with (hi | hi) | hi
  ·have := ho i hi;omega
  ·omega
  ·omega
theorem RF.below {h : Nat → Bool} {x : Lab} {j : F} {w w0 w1 : World} (hf : RF h x j w w0) (hb : Below w0.heap.size w0 w1) : RF h x j w w1 := by have hs := hf.s;exact ⟨qi hf.b hb, (hb.block _ (by omega)).trans hf.n, (hb.block _ (by omega)).trans hf.r, qV hb hf.t, hf.o.le hb.size, Nat.le_trans hs hb.size⟩
theorem RF.fld {h : Nat → Bool} {x : Lab} {j : F} {w w0 : World} (hf : RF h x j w w0) (o : Nat) (v : Value) (L : Lab) (hL : (ndC x).toArray.setIfInBounds o v = (ndC L).toArray) (hok : LabOk L) (hs : RgAt (sees (hN h (w.heap.size + 1)) w0) L.sv L.set) (hk : L.kv = x.kv) : RF h L j w (w0.setCell ⟨w.heap.size, o, none⟩ v) := by
 have hz : (w0.setCell ⟨w.heap.size, o, none⟩ v).heap.size = w0.heap.size := by simp [World.setCell]
 refine ⟨hf.b.setCell (Nat.le_refl _) _, ?_, (heap_setCell_other w0 ⟨w.heap.size, o, none⟩ (w.heap.size + 1) v (show w.heap.size + 1 ≠ w.heap.size by omega)).trans hf.r, nd_fld (t := (L, j)) ⟨hok, hs, by rw [show (L, j).1.kv = x.kv from hk]; exact hf.t.2.2⟩, by rw [hz]; exact hf.o, by rw [hz]; exact hf.s⟩;have := tkw.heap_set (o := o) (v := v) hf.n;rw [hL] at this;exact this
theorem rg_fld {h : Nat → Bool} {q o : Nat} {w : World} {v u : Value} {S : List Rg} (H : RgAt (sees (hN h (q + 1)) w) v S) : RgAt (sees (hN h (q + 1)) (w.setCell ⟨q, o, none⟩ u)) v S :=
 trw.rgAt_mono (qU fun a u k1 hc => ⟨k1, (World.cell?_of_block (rpw.qx o _ (fun e => by simp only [hN, Bool.or_eq_false_iff, decide_eq_false_iff_not] at k1;exact k1.2 (by rw [e])))).trans hc⟩) H
theorem RF.whole {h : Nat → Bool} {x y : Lab} {j k : F} {w w0 w3 : World} (hf : RF h x j w w0) (hn : NdAt (sees (hN h (w.heap.size + 1)) w0) (y, k)) (h3 : w3 = w0.setRow w.heap.size (ndC y).toArray) : RF h y k w w3 := by subst h3;have hz : (w0.setRow w.heap.size (ndC y).toArray).heap.size = w0.heap.size := tkw.setRow_size _ _ _;refine ⟨rpw.qC hf.b _ (Nat.le_refl _), setRow_heap _ _ _ _ _ _ hf.n, (tkw.setRow_other _ _ _ _ (by omega)).trans hf.r, qY (qU fun a v k1 hc => ⟨k1, rpw.jI _ hc fun e => ?_⟩) hn, by rw [hz]; exact hf.o, by rw [hz]; exact hf.s⟩;simp only [hN, Bool.or_eq_false_iff, decide_eq_false_iff_not] at k1;exact k1.2 (by rw [e])
theorem rf_end {h : Nat → Bool} {L : Lab} {j : F} {w w0 : World} {r : F} (hf : RF h L j w w0) (hr : strip (F.one L j) = r) : SelfB h r w (.returned (ndV L)) (w0.setRow (w.heap.size + 1) (ndC L).toArray) :=
 ⟨L, j, rfl, nd_unN hf.t, hr, rpw.qC hf.b _ (Nat.le_succ _)⟩
theorem rs_wf {w : World} {n : Nat} {v : Value} {S : List Rg} (h : OwnR w n v S) (hS : Wf S) : RsAt w v S := rg_rs (h := fun _ => false) (own_rg h hS (fun i hi => by cases hi))
theorem res_4 (b : Nat) (u : Bool) (m f : Int) (x : Lab) (j : F) (w : World) (h : Nat → Bool) (ha : AlOk u m) (hsc : ScAt w b u m f) (hT : Tab3 w) (ho : Old h w.heap.size) (hn : NdAt (sees h w) (x, j)) (_hl : x.set.length ≤ 100000) (hk : x.kind = 4) :
 Calls Tryz.prog 57 #[.pointer (some ⟨b, 0, none⟩), ndV x] w (SelfB h (ownF u m x (strip j) f) w) := by
 have HF := xH (rf_start ho hn);have HA := xH ha;have HO := xH ho;have HSC := xH (hsc.keep HF.out.b);have HT := xH (show Tab3 _ from fun i hi => trw.qf HF.out.b (hT i hi));have HK := xH hk;clear ha hsc hT ho hn hk;unfold ndC zC at HF HSC HT;unfold ndV;go_enter Tryz.func57, Tryz.ntmps57;go_upto_region 1 with (fail)
 generalize (w.alloc _).alloc _ = w0 at *;have HF : Hid (RF h x j w w0) := HF;have b1 : (x.kind == 1) = false := by simp [HK.out]
 have b2 : (x.kind == 2) = false := by simp [HK.out]
 have b3 : (x.kind == 3) = false := by simp [HK.out]
 have b6 : (x.kind == 6) = false := by simp [HK.out]
 have b4 : (x.kind == 4) = true := by simp [HK.out]
 have c0 : w0.cell? ⟨w.heap.size, 0, none⟩ = some (.int .i64 x.kind) := by unfold World.cell?; rw [HF.out.n]; rfl
 have f0 : w0.frozen? ⟨w.heap.size, 0, none⟩ = false := by unfold World.frozen?; rw [HF.out.n]; rfl
 have c5 : w0.cell? ⟨w.heap.size, 5, none⟩ = some (.int .i64 x.n) := by unfold World.cell?; rw [HF.out.n]; rfl
 have f5 : w0.frozen? ⟨w.heap.size, 5, none⟩ = false := by unfold World.frozen?; rw [HF.out.n]; rfl
 have HC := xH (assertion_any b u m f x.n w0 HSC.out);go_upto_region 11 with (fail)
 go_wp2_with fail
 refine HC.out.mono ?_;rintro e w1 ⟨rfl, hb⟩;have HF1 := xH (HF.out.below hb);clear hb c0 c5 f0 f5 HC;have c5 : w1.cell? ⟨w.heap.size, 5, none⟩ = some (.int .i64 x.n) := by unfold World.cell?; rw [HF1.out.n]; rfl
 have f5 : w1.frozen? ⟨w.heap.size, 5, none⟩ = false := by unfold World.frozen?; rw [HF1.out.n]; rfl
 go_upto_region 17 with (fail)
 have HN5 := xH (show I64 (assN f x.n) by have := HF1.out.t.1.2.2.2.1; unfold assN; unfold I64 at *; split <;> (try split) <;> omega);have HF2 := xH (HF1.out.fld 5 (.int .i64 (assN f x.n)) { x with n := assN f x.n } rfl ⟨HF1.out.t.1.1, HF1.out.t.1.2.1, HF1.out.t.1.2.2.1, HN5.out, HF1.out.t.1.2.2.2.2⟩ HF1.out.t.2.1 rfl);generalize w1.setCell _ _ = w2 at *;clear c5 f5;have HNO := xH (qp HF2.out.t);go_wp2_with (first
  | (refine ql rfl _ rfl w.heap.size rfl { x with n := assN f x.n } HF2.out.n ?_)
  | (refine qh rfl rfl _ _ rfl (w.heap.size + 1) rfl _ { x with n := assN f x.n } HF2.out.r rfl HNO.out rfl ?_))
 refine bodyPost_ret (qA rfl _ _ (w.heap.size + 1) { x with n := assN f x.n } rfl (setRow_heap _ _ _ _ _ _ HF2.out.r)) rfl ?_;exact rf_end HF2.out (by unfold ownF; have q := HK.out; rw [if_neg (by omega), if_neg (by omega), if_neg (by omega), if_pos q]; rfl)
theorem res_20 (b : Nat) (u : Bool) (m f : Int) (x : Lab) (j : F) (w : World) (h : Nat → Bool) (ha : AlOk u m) (hsc : ScAt w b u m f) (hT : Tab3 w) (ho : Old h w.heap.size) (hn : NdAt (sees h w) (x, j)) (_hl : x.set.length ≤ 100000) (hk : x.kind = 20) :
 Calls Tryz.prog 57 #[.pointer (some ⟨b, 0, none⟩), ndV x] w (SelfB h (ownF u m x (strip j) f) w) := by
 have HF := xH (rf_start ho hn);have HA := xH ha;have HO := xH ho;have HSC := xH (hsc.keep HF.out.b);have HT := xH (show Tab3 _ from fun i hi => trw.qf HF.out.b (hT i hi));have HK := xH hk;clear ha hsc hT ho hn hk;unfold ndC zC at HF HSC HT;unfold ndV;go_enter Tryz.func57, Tryz.ntmps57;go_upto_region 1 with (fail)
 generalize (w.alloc _).alloc _ = w0 at *;have HF : Hid (RF h x j w w0) := HF;have b1 : (x.kind == 1) = false := by simp [HK.out]
 have b2 : (x.kind == 2) = false := by simp [HK.out]
 have b3 : (x.kind == 3) = false := by simp [HK.out]
 have b6 : (x.kind == 6) = false := by simp [HK.out]
 have b4 : (x.kind == 4) = false := by simp [HK.out]
 have b7 : (x.kind == 7) = false := by simp [HK.out]
 have b20 : (x.kind == 20) = true := by simp [HK.out]
 have c0 : w0.cell? ⟨w.heap.size, 0, none⟩ = some (.int .i64 x.kind) := by unfold World.cell?; rw [HF.out.n]; rfl
 have f0 : w0.frozen? ⟨w.heap.size, 0, none⟩ = false := by unfold World.frozen?; rw [HF.out.n]; rfl
 have c7 : w0.cell? ⟨w.heap.size, 7, none⟩ = some (.int .i64 x.mode) := by unfold World.cell?; rw [HF.out.n]; rfl
 have f7 : w0.frozen? ⟨w.heap.size, 7, none⟩ = false := by unfold World.frozen?; rw [HF.out.n]; rfl
 have HC := xH (mode_any b u m f x.mode w0 HSC.out);go_upto_region 16 with (fail)
 go_wp2_with fail
 refine HC.out.mono ?_;rintro e w1 ⟨rfl, hb⟩;have HF1 := xH (HF.out.below hb);clear hb c0 c7 f0 f7 HC;have c7 : w1.cell? ⟨w.heap.size, 7, none⟩ = some (.int .i64 x.mode) := by unfold World.cell?; rw [HF1.out.n]; rfl
 have f7 : w1.frozen? ⟨w.heap.size, 7, none⟩ = false := by unfold World.frozen?; rw [HF1.out.n]; rfl
 go_upto_region 17 with (fail)
 have HN7 := xH (show I64 (repM f 20 x.mode) by have := HF1.out.t.1.2.2.2.2.2.1; unfold repM; unfold I64 at *; split <;> (try split) <;> omega);have HF2 := xH (HF1.out.fld 7 (.int .i64 (repM f 20 x.mode)) { x with mode := repM f 20 x.mode } rfl ⟨HF1.out.t.1.1, HF1.out.t.1.2.1, HF1.out.t.1.2.2.1, HF1.out.t.1.2.2.2.1, HF1.out.t.1.2.2.2.2.1, HN7.out, HF1.out.t.1.2.2.2.2.2.2⟩ HF1.out.t.2.1 rfl);generalize w1.setCell _ _ = w2 at *;clear c7 f7;have HNO := xH (qp HF2.out.t);go_wp2_with (first
  | (refine ql rfl _ rfl w.heap.size rfl { x with mode := repM f 20 x.mode } HF2.out.n ?_)
  | (refine qh rfl rfl _ _ rfl (w.heap.size + 1) rfl _ { x with mode := repM f 20 x.mode } HF2.out.r rfl HNO.out rfl ?_))
 refine bodyPost_ret (qA rfl _ _ (w.heap.size + 1) { x with mode := repM f 20 x.mode } rfl (setRow_heap _ _ _ _ _ _ HF2.out.r)) rfl ?_;exact rf_end HF2.out (by unfold ownF; have q := HK.out; rw [if_neg (by omega), if_neg (by omega), if_neg (by omega), if_neg (by omega), if_neg (by omega), if_neg (by omega), show repM f x.kind x.mode = repM f 20 x.mode by rw [q]]; rfl)
theorem res_7 (b : Nat) (u : Bool) (m f : Int) (x : Lab) (j : F) (w : World) (h : Nat → Bool) (ha : AlOk u m) (hsc : ScAt w b u m f) (hT : Tab3 w) (ho : Old h w.heap.size) (hn : NdAt (sees h w) (x, j)) (_hl : x.set.length ≤ 100000) (hk : x.kind = 7) :
 Calls Tryz.prog 57 #[.pointer (some ⟨b, 0, none⟩), ndV x] w (SelfB h (ownF u m x (strip j) f) w) := by
 have HF := xH (rf_start ho hn);have HA := xH ha;have HO := xH ho;have HSC := xH (hsc.keep HF.out.b);have HT := xH (show Tab3 _ from fun i hi => trw.qf HF.out.b (hT i hi));have HK := xH hk;clear ha hsc hT ho hn hk;unfold ndC zC at HF HSC HT;unfold ndV;go_enter Tryz.func57, Tryz.ntmps57;go_upto_region 1 with (fail)
 generalize (w.alloc _).alloc _ = w0 at *;have HF : Hid (RF h x j w w0) := HF;have b1 : (x.kind == 1) = false := by simp [HK.out]
 have b2 : (x.kind == 2) = false := by simp [HK.out]
 have b3 : (x.kind == 3) = false := by simp [HK.out]
 have b6 : (x.kind == 6) = false := by simp [HK.out]
 have b4 : (x.kind == 4) = false := by simp [HK.out]
 have b7 : (x.kind == 7) = true := by simp [HK.out]
 have c0 : w0.cell? ⟨w.heap.size, 0, none⟩ = some (.int .i64 x.kind) := by unfold World.cell?; rw [HF.out.n]; rfl
 have f0 : w0.frozen? ⟨w.heap.size, 0, none⟩ = false := by unfold World.frozen?; rw [HF.out.n]; rfl
 have HC := xH (has_any b u m f 1 w0 HSC.out);obtain ⟨cl, hcl⟩ : ∃ cl, decide (andI f 1 ≠ 0) = cl := ⟨_, rfl⟩;rw [hcl] at HC;have HCL := xH hcl;clear hcl;go_upto_region 13 with (fail)
 go_wp2_with fail
 refine HC.out.mono ?_;rintro e w1 ⟨rfl, hb⟩;have HF1 := xH (HF.out.below hb);clear hb c0 f0 HC;have c9 : w1.cell? ⟨w.heap.size, 9, none⟩ = some (.int .i64 x.on) := by unfold World.cell?; rw [HF1.out.n]; rfl
 have f9 : w1.frozen? ⟨w.heap.size, 9, none⟩ = false := by unfold World.frozen?; rw [HF1.out.n]; rfl
 cases cl with
 | true =>
  have HF2 := xH (HF1.out.fld 9 (.int .i64 1) { x with on := 1 } rfl ⟨HF1.out.t.1.1, HF1.out.t.1.2.1, HF1.out.t.1.2.2.1, HF1.out.t.1.2.2.2.1, HF1.out.t.1.2.2.2.2.1, HF1.out.t.1.2.2.2.2.2.1, by show I64 1; unfold I64; omega, HF1.out.t.1.2.2.2.2.2.2.2⟩ HF1.out.t.2.1 rfl);have HEQ := xH (show andI f 1 ≠ 0 by simpa using HCL.out);go_upto_region 17 with (fail)
  generalize w1.setCell _ _ = w2 at *;clear c9 f9;have HNO := xH (qp HF2.out.t);go_wp2_with (first
   | (refine ql rfl _ rfl w.heap.size rfl { x with on := 1 } HF2.out.n ?_)
   | (refine qh rfl rfl _ _ rfl (w.heap.size + 1) rfl _ { x with on := 1 } HF2.out.r rfl HNO.out rfl ?_))
  refine bodyPost_ret (qA rfl _ _ (w.heap.size + 1) { x with on := 1 } rfl (setRow_heap _ _ _ _ _ _ HF2.out.r)) rfl ?_;exact rf_end HF2.out (by unfold ownF; have q := HK.out; rw [if_neg (by omega), if_neg (by omega), if_neg (by omega), if_neg (by omega), if_neg (by omega), if_pos q, if_pos HEQ.out]; rfl)
 | false =>
  have HEQ := xH (show ¬ andI f 1 ≠ 0 by simpa using HCL.out);clear c9 f9;have HNO := xH (qp HF1.out.t);go_wp2_with (first
   | (refine ql rfl _ rfl w.heap.size rfl x HF1.out.n ?_)
   | (refine qh rfl rfl _ _ rfl (w.heap.size + 1) rfl _ x HF1.out.r rfl HNO.out rfl ?_))
  refine bodyPost_ret (qA rfl _ _ (w.heap.size + 1) x rfl (setRow_heap _ _ _ _ _ _ HF1.out.r)) rfl ?_;exact rf_end HF1.out (by unfold ownF; have q := HK.out; rw [if_neg (by omega), if_neg (by omega), if_neg (by omega), if_neg (by omega), if_neg (by omega), if_pos q, if_neg HEQ.out]; rfl)
theorem res_oth (b : Nat) (u : Bool) (m f : Int) (x : Lab) (j : F) (w : World) (h : Nat → Bool) (ha : AlOk u m) (hsc : ScAt w b u m f) (hT : Tab3 w) (ho : Old h w.heap.size) (hn : NdAt (sees h w) (x, j)) (_hl : x.set.length ≤ 100000) (hk : x.kind ≠ 1 ∧ x.kind ≠ 2 ∧ x.kind ≠ 3 ∧ x.kind ≠ 4 ∧ x.kind ≠ 6 ∧ x.kind ≠ 7 ∧ x.kind ≠ 20) :
 Calls Tryz.prog 57 #[.pointer (some ⟨b, 0, none⟩), ndV x] w (SelfB h (ownF u m x (strip j) f) w) := by
 have HF := xH (rf_start ho hn);have HA := xH ha;have HO := xH ho;have HSC := xH (hsc.keep HF.out.b);have HT := xH (show Tab3 _ from fun i hi => trw.qf HF.out.b (hT i hi));have HK := xH hk;clear ha hsc hT ho hn hk;unfold ndC zC at HF HSC HT;unfold ndV;go_enter Tryz.func57, Tryz.ntmps57;go_upto_region 1 with (fail)
 generalize (w.alloc _).alloc _ = w0 at *;have HF : Hid (RF h x j w w0) := HF;have b1 : (x.kind == 1) = false := by have q := HK.out; simp; omega
 have b2 : (x.kind == 2) = false := by have q := HK.out; simp; omega
 have b3 : (x.kind == 3) = false := by have q := HK.out; simp; omega
 have b6 : (x.kind == 6) = false := by have q := HK.out; simp; omega
 have b4 : (x.kind == 4) = false := by have q := HK.out; simp; omega
 have b7 : (x.kind == 7) = false := by have q := HK.out; simp; omega
 have b20 : (x.kind == 20) = false := by have q := HK.out; simp; omega
 have c0 : w0.cell? ⟨w.heap.size, 0, none⟩ = some (.int .i64 x.kind) := by unfold World.cell?; rw [HF.out.n]; rfl
 have HNO := xH (qp HF.out.t);go_wp2_with (first
  | (refine ql rfl _ rfl w.heap.size rfl x HF.out.n ?_)
  | (refine qh rfl rfl _ _ rfl (w.heap.size + 1) rfl _ x HF.out.r rfl HNO.out rfl ?_))
 refine bodyPost_ret (qA rfl _ _ (w.heap.size + 1) x rfl (setRow_heap _ _ _ _ _ _ HF.out.r)) rfl ?_;exact rf_end HF.out (by unfold ownF; have q := HK.out; rw [if_neg (by omega), if_neg (by omega), if_neg (by omega), if_neg (by omega), if_neg (by omega), if_neg (by omega)]; unfold repM; rw [if_neg (by omega), if_neg (by omega)]; rfl)
theorem res_6 (b : Nat) (u : Bool) (m f : Int) (x : Lab) (j : F) (w : World) (h : Nat → Bool) (ha : AlOk u m) (hsc : ScAt w b u m f) (hT : Tab3 w) (ho : Old h w.heap.size) (hn : NdAt (sees h w) (x, j)) (_hl : x.set.length ≤ 100000) (hk : x.kind = 6) :
 Calls Tryz.prog 57 #[.pointer (some ⟨b, 0, none⟩), ndV x] w (SelfB h (ownF u m x (strip j) f) w) := by
 have HF := xH (rf_start ho hn);have HA := xH ha;have HO := xH ho;have HSC := xH (hsc.keep HF.out.b);have HT := xH (show Tab3 _ from fun i hi => trw.qf HF.out.b (hT i hi));have HK := xH hk;clear ha hsc hT ho hn hk;unfold ndC zC at HF HSC HT;unfold ndV;go_enter Tryz.func57, Tryz.ntmps57;go_upto_region 1 with (fail)
 generalize (w.alloc _).alloc _ = w0 at *;have HF : Hid (RF h x j w w0) := HF;have b1 : (x.kind == 1) = false := by simp [HK.out]
 have b2 : (x.kind == 2) = false := by simp [HK.out]
 have b3 : (x.kind == 3) = false := by simp [HK.out]
 have b6 : (x.kind == 6) = true := by simp [HK.out]
 have c0 : w0.cell? ⟨w.heap.size, 0, none⟩ = some (.int .i64 x.kind) := by unfold World.cell?; rw [HF.out.n]; rfl
 have HC := xH (fun (w' : World) (hb : Below w0.heap.size w0 w') => line_any u m x.at_ w' (hN h (w.heap.size + 1)) HA.out HF.out.t.1.2.1 (HF.out.o.le hb.size));have d0 := HSC.out.cells.1;have d1 := HSC.out.cells.2.1;have c1 : w0.cell? ⟨w.heap.size, 1, none⟩ = some (.int .i64 x.at_) := by unfold World.cell?; rw [HF.out.n]; rfl
 go_upto_region 9 with (fail)
 go_still_tail 6, (by kernel_rfl)
 change wpList _ _ _ _ _ w0.drew;have HD := xH (show Below w0.heap.size w0 w0.drew from trw.qL w0);have HC1 := xH (HC.out w0.drew HD.out);have HF1 := xH (HF.out.below HD.out);clear HC c0 c1 d0 d1;unfold alV at HC1;generalize w0.drew = w1 at *;go_wp2_with fail
 refine HC1.out.mono ?_;rintro e w2 ⟨y, j', rfl, hn, hs, hb⟩;have HF2 := xH (HF1.out.below hb);have HNY := xH hn;have HSY := xH hs;have HYO := xH (qp hn);clear hn hs hb HC1;try dsimp only
 go_upto_region 17 with (first
  | (refine wpList_store_nw rfl rfl _ _ rfl w.heap.size rfl _ y HF2.out.n rfl HYO.out rfl ?_; intro w3 h3; have HF3 := xH (HF2.out.whole HNY.out h3.out); clear h3))
 have HNO := xH (qp HF3.out.t);go_wp2_with (first
  | (refine ql rfl _ rfl w.heap.size rfl y HF3.out.n ?_)
  | (refine qh rfl rfl _ _ rfl (w.heap.size + 1) rfl _ y HF3.out.r rfl HNO.out rfl ?_))
 refine bodyPost_ret (qA rfl _ _ (w.heap.size + 1) y rfl (setRow_heap _ _ _ _ _ _ HF3.out.r)) rfl ?_;exact rf_end HF3.out (by rw [HSY.out]; unfold ownF; have q := HK.out; rw [if_neg (by omega), if_neg (by omega), if_neg (by omega), if_neg (by omega), if_pos q])
theorem res_2 (b : Nat) (u : Bool) (m f : Int) (x : Lab) (j : F) (w : World) (h : Nat → Bool) (ha : AlOk u m) (hsc : ScAt w b u m f) (hT : Tab3 w) (ho : Old h w.heap.size) (hn : NdAt (sees h w) (x, j)) (hl : x.set.length ≤ 100000) (hk : x.kind = 2) :
 Calls Tryz.prog 57 #[.pointer (some ⟨b, 0, none⟩), ndV x] w (SelfB h (ownF u m x (strip j) f) w) := by
 have HF := xH (rf_start ho hn);have HA := xH ha;have HO := xH ho;have HSC := xH (hsc.keep HF.out.b);have HT := xH (show Tab3 _ from fun i hi => trw.qf HF.out.b (hT i hi));have HK := xH hk;clear ha hsc hT ho hn hk;unfold ndC zC at HF HSC HT;unfold ndV;go_enter Tryz.func57, Tryz.ntmps57;go_upto_region 1 with (fail)
 generalize (w.alloc _).alloc _ = w0 at *;have HF : Hid (RF h x j w w0) := HF;have b1 : (x.kind == 1) = false := by simp [HK.out]
 have b2 : (x.kind == 2) = true := by simp [HK.out]
 have c0 : w0.cell? ⟨w.heap.size, 0, none⟩ = some (.int .i64 x.kind) := by unfold World.cell?; rw [HF.out.n]; rfl
 have c3 : w0.cell? ⟨w.heap.size, 3, none⟩ = some (x.sv) := by unfold World.cell?; rw [HF.out.n]; rfl
 have c4 : w0.cell? ⟨w.heap.size, 4, none⟩ = some (.bool x.neg) := by unfold World.cell?; rw [HF.out.n]; rfl
 obtain ⟨cl, hcl⟩ : ∃ cl, decide (andI f 1 ≠ 0) = cl := ⟨_, rfl⟩;have HCL := xH hcl;have HC := xH (class_any b u m f x.sv x.set x.neg w0 HA.out HSC.out (rg_rs HF.out.t.2.1) (by omega) HT.out);rw [hcl] at HC;clear hcl;go_upto_region 5 with (fail)
 go_wp2_with fail
 refine HC.out.mono ?_;rintro e w1 ⟨hS, v2, rfl, ho, hb⟩;obtain ⟨sa, sc, rfl⟩ := zJ ho.1;have HF1 := xH (HF.out.below (hb));have HRG := xH (show RgAt (sees (hN h (w.heap.size + 1)) w1) (.slice sa (setP u m x.set cl x.neg).length sc) (setP u m x.set cl x.neg) from own_rg ho (fk_wf hS) HF.out.o);clear hS ho hb HC;obtain ⟨S, hS⟩ : ∃ S, setP u m x.set cl x.neg = S := ⟨_, rfl⟩;have HS := xH hS;rw [hS] at HRG;simp only [hS];clear hS;try dsimp only
 clear c0 c3 c4;have c3 : w1.cell? ⟨w.heap.size, 3, none⟩ = some (x.sv) := by unfold World.cell?; rw [HF1.out.n]; rfl
 have f3 : w1.frozen? ⟨w.heap.size, 3, none⟩ = false := by unfold World.frozen?; rw [HF1.out.n]; rfl
 have c4 : w1.cell? ⟨w.heap.size, 4, none⟩ = some (.bool x.neg) := by unfold World.cell?; rw [HF1.out.n]; rfl
 have f4 : w1.frozen? ⟨w.heap.size, 4, none⟩ = false := by unfold World.frozen?; rw [HF1.out.n]; rfl
 go_upto_region 17 with (fail)
 have HF2 := xH (HF1.out.fld 3 (.slice sa S.length sc) { x with sv := .slice sa S.length sc, set := S } rfl HF1.out.t.1 HRG.out rfl);have HF3 := xH (HF2.out.fld 4 (.bool false) { x with sv := .slice sa S.length sc, set := S, neg := false } rfl HF1.out.t.1 HF2.out.t.2.1 rfl);generalize (w1.setCell _ _).setCell _ _ = w2 at *;clear c3 c4 f3 f4;have HNO := xH (qp HF3.out.t);go_wp2_with (first
  | (refine ql rfl _ rfl w.heap.size rfl { x with sv := .slice sa S.length sc, set := S, neg := false } HF3.out.n ?_)
  | (refine qh rfl rfl _ _ rfl (w.heap.size + 1) rfl _ { x with sv := .slice sa S.length sc, set := S, neg := false } HF3.out.r rfl HNO.out rfl ?_))
 refine bodyPost_ret (qA rfl _ _ (w.heap.size + 1) { x with sv := .slice sa S.length sc, set := S, neg := false } rfl (setRow_heap _ _ _ _ _ _ HF3.out.r)) rfl ?_;exact rf_end HF3.out (by unfold ownF; have q := HK.out; rw [if_neg (by omega), if_pos q, HCL.out, HS.out]; rfl)
theorem res_3 (b : Nat) (u : Bool) (m f : Int) (x : Lab) (j : F) (w : World) (h : Nat → Bool) (ha : AlOk u m) (hsc : ScAt w b u m f) (hT : Tab3 w) (ho : Old h w.heap.size) (hn : NdAt (sees h w) (x, j)) (_hl : x.set.length ≤ 100000) (hk : x.kind = 3) :
 Calls Tryz.prog 57 #[.pointer (some ⟨b, 0, none⟩), ndV x] w (SelfB h (ownF u m x (strip j) f) w) := by
 have HF := xH (rf_start ho hn);have HA := xH ha;have HO := xH ho;have HSC := xH (hsc.keep HF.out.b);have HT := xH (show Tab3 _ from fun i hi => trw.qf HF.out.b (hT i hi));have HK := xH hk;clear ha hsc hT ho hn hk;unfold ndC zC at HF HSC HT;unfold ndV;go_enter Tryz.func57, Tryz.ntmps57;go_upto_region 1 with (fail)
 generalize (w.alloc _).alloc _ = w0 at *;have HF : Hid (RF h x j w w0) := HF;have b1 : (x.kind == 1) = false := by simp [HK.out]
 have b2 : (x.kind == 2) = false := by simp [HK.out]
 have b3 : (x.kind == 3) = true := by simp [HK.out]
 have c0 : w0.cell? ⟨w.heap.size, 0, none⟩ = some (.int .i64 x.kind) := by unfold World.cell?; rw [HF.out.n]; rfl
 obtain ⟨L, hL⟩ : ∃ L : List Rg, (if andI f 4 = 0 then [(10, 10)] else []) = L := ⟨_, rfl⟩;have HL := xH hL;have HC := xH (dot_any b u m f w0 HA.out HSC.out);rw [hL] at HC;clear hL;go_upto_region 7 with (fail)
 go_wp2_with fail
 refine HC.out.mono ?_;rintro e w1 ⟨hS, v2, rfl, ho, hb⟩;obtain ⟨sa, sc, rfl⟩ := zJ ho.1;have HF1 := xH (HF.out.below (hb));have HRG := xH (show RgAt (sees (hN h (w.heap.size + 1)) w1) (.slice sa (setP u m L false true).length sc) (setP u m L false true) from own_rg ho (fk_wf hS) HF.out.o);clear hS ho hb HC;obtain ⟨S, hS⟩ : ∃ S, setP u m L false true = S := ⟨_, rfl⟩;have HS := xH hS;rw [hS] at HRG;simp only [hS];clear hS;try dsimp only
 clear c0;have c0 : w1.cell? ⟨w.heap.size, 0, none⟩ = some (.int .i64 x.kind) := by unfold World.cell?; rw [HF1.out.n]; rfl
 have f0 : w1.frozen? ⟨w.heap.size, 0, none⟩ = false := by unfold World.frozen?; rw [HF1.out.n]; rfl
 have c3 : w1.cell? ⟨w.heap.size, 3, none⟩ = some (x.sv) := by unfold World.cell?; rw [HF1.out.n]; rfl
 have f3 : w1.frozen? ⟨w.heap.size, 3, none⟩ = false := by unfold World.frozen?; rw [HF1.out.n]; rfl
 go_upto_region 17 with (fail)
 have HF2 := xH (HF1.out.fld 0 (.int .i64 2) { x with kind := 2 } rfl ⟨(show I64 2 by unfold I64; omega), HF1.out.t.1.2.1, HF1.out.t.1.2.2.1, HF1.out.t.1.2.2.2.1, HF1.out.t.1.2.2.2.2.1, HF1.out.t.1.2.2.2.2.2.1, HF1.out.t.1.2.2.2.2.2.2.1, HF1.out.t.1.2.2.2.2.2.2.2⟩ HF1.out.t.2.1 rfl);have HF3 := xH (HF2.out.fld 3 (.slice sa S.length sc) { x with kind := 2, sv := .slice sa S.length sc, set := S } rfl HF2.out.t.1 (rg_fld HRG.out) rfl);generalize (w1.setCell _ _).setCell _ _ = w2 at *;clear c0 c3 f0 f3;have HNO := xH (qp HF3.out.t);go_wp2_with (first
  | (refine ql rfl _ rfl w.heap.size rfl { x with kind := 2, sv := .slice sa S.length sc, set := S } HF3.out.n ?_)
  | (refine qh rfl rfl _ _ rfl (w.heap.size + 1) rfl _ { x with kind := 2, sv := .slice sa S.length sc, set := S } HF3.out.r rfl HNO.out rfl ?_))
 refine bodyPost_ret (qA rfl _ _ (w.heap.size + 1) { x with kind := 2, sv := .slice sa S.length sc, set := S } rfl (setRow_heap _ _ _ _ _ _ HF3.out.r)) rfl ?_;exact rf_end HF3.out (by unfold ownF; have q := HK.out; rw [if_neg (by omega), if_neg (by omega), if_pos q, HL.out, HS.out]; rfl)
theorem res_1 (b : Nat) (u : Bool) (m f : Int) (x : Lab) (j : F) (w : World) (h : Nat → Bool) (ha : AlOk u m) (hsc : ScAt w b u m f) (hT : Tab3 w) (ho : Old h w.heap.size) (hn : NdAt (sees h w) (x, j)) (_hl : x.set.length ≤ 100000) (hk : x.kind = 1) :
 Calls Tryz.prog 57 #[.pointer (some ⟨b, 0, none⟩), ndV x] w (SelfB h (ownF u m x (strip j) f) w) := by
 have HF := xH (rf_start ho hn);have HA := xH ha;have HO := xH ho;have HSC := xH (hsc.keep HF.out.b);have HT := xH (show Tab3 _ from fun i hi => trw.qf HF.out.b (hT i hi));have HK := xH hk;clear ha hsc hT ho hn hk;unfold ndC zC at HF HSC HT;unfold ndV;go_enter Tryz.func57, Tryz.ntmps57;go_upto_region 1 with (fail)
 generalize (w.alloc _).alloc _ = w0 at *;have HF : Hid (RF h x j w w0) := HF;have b1 : (x.kind == 1) = true := by simp [HK.out]
 have c0 : w0.cell? ⟨w.heap.size, 0, none⟩ = some (.int .i64 x.kind) := by unfold World.cell?; rw [HF.out.n]; rfl
 have c2 : w0.cell? ⟨w.heap.size, 2, none⟩ = some (.int .i64 x.c) := by unfold World.cell?; rw [HF.out.n]; rfl
 obtain ⟨cl, hcl⟩ : ∃ cl, decide (andI f 1 ≠ 0) = cl := ⟨_, rfl⟩;have HCL := xH hcl;have HOL := xH (own_lit (R := [(x.c, x.c)]) (n := 1) (B := w0.heap.size) (cs := #[.int .i64 x.c, .int .i64 x.c]) (w := w0) rfl rfl rfl (by simp) (by simp));have HBL := xH (trw.qg w0 (.cells #[.int .i64 x.c, .int .i64 x.c] 57));have HC := xH (class_any b u m f (.slice (some ⟨w0.heap.size, 0, none⟩) 1 1) [(x.c, x.c)] false _ HA.out (HSC.out.keep HBL.out) (rs_wf HOL.out (lit_wf HF.out.t.1.2.2.1)) (by simp) (fun i hi => trw.qf HBL.out (HT.out i hi)));rw [hcl] at HC;clear hcl;go_upto_region 3 with (fail)
 go_wp2_with fail
 refine HC.out.mono ?_;rintro e w1 ⟨hS, v2, rfl, ho, hb⟩;obtain ⟨sa, sc, rfl⟩ := zJ ho.1;have HF1 := xH (HF.out.below (trw.qi HBL.out hb));have HRG := xH (show RgAt (sees (hN h (w.heap.size + 1)) w1) (.slice sa (setP u m [(x.c, x.c)] cl false).length sc) (setP u m [(x.c, x.c)] cl false) from own_rg ho (fk_wf hS) (HF.out.o.le HBL.out.size));clear hS ho hb HC;obtain ⟨S, hS⟩ : ∃ S, setP u m [(x.c, x.c)] cl false = S := ⟨_, rfl⟩;have HS := xH hS;rw [hS] at HRG;simp only [hS];clear hS;try dsimp only
 clear c0 c2;have c0 : w1.cell? ⟨w.heap.size, 0, none⟩ = some (.int .i64 x.kind) := by unfold World.cell?; rw [HF1.out.n]; rfl
 have f0 : w1.frozen? ⟨w.heap.size, 0, none⟩ = false := by unfold World.frozen?; rw [HF1.out.n]; rfl
 have c2 : w1.cell? ⟨w.heap.size, 2, none⟩ = some (.int .i64 x.c) := by unfold World.cell?; rw [HF1.out.n]; rfl
 have f2 : w1.frozen? ⟨w.heap.size, 2, none⟩ = false := by unfold World.frozen?; rw [HF1.out.n]; rfl
 have c3 : w1.cell? ⟨w.heap.size, 3, none⟩ = some (x.sv) := by unfold World.cell?; rw [HF1.out.n]; rfl
 have f3 : w1.frozen? ⟨w.heap.size, 3, none⟩ = false := by unfold World.frozen?; rw [HF1.out.n]; rfl
 go_upto_region 17 with (fail)
 have HF2 := xH (HF1.out.fld 0 (.int .i64 2) { x with kind := 2 } rfl ⟨(show I64 2 by unfold I64; omega), HF1.out.t.1.2.1, HF1.out.t.1.2.2.1, HF1.out.t.1.2.2.2.1, HF1.out.t.1.2.2.2.2.1, HF1.out.t.1.2.2.2.2.2.1, HF1.out.t.1.2.2.2.2.2.2.1, HF1.out.t.1.2.2.2.2.2.2.2⟩ HF1.out.t.2.1 rfl);have HF3 := xH (HF2.out.fld 3 (.slice sa S.length sc) { x with kind := 2, sv := .slice sa S.length sc, set := S } rfl HF2.out.t.1 (rg_fld HRG.out) rfl);have HF4 := xH (HF3.out.fld 2 (.int .i64 0) { x with kind := 2, sv := .slice sa S.length sc, set := S, c := 0 } rfl ⟨(show I64 2 by unfold I64; omega), HF1.out.t.1.2.1, (show I64 0 by unfold I64; omega), HF1.out.t.1.2.2.2.1, HF1.out.t.1.2.2.2.2.1, HF1.out.t.1.2.2.2.2.2.1, HF1.out.t.1.2.2.2.2.2.2.1, HF1.out.t.1.2.2.2.2.2.2.2⟩ HF3.out.t.2.1 rfl);generalize ((w1.setCell _ _).setCell _ _).setCell _ _ = w2 at *;clear c0 c2 c3 f0 f2 f3;have HNO := xH (qp HF4.out.t);go_wp2_with (first
  | (refine ql rfl _ rfl w.heap.size rfl { x with kind := 2, sv := .slice sa S.length sc, set := S, c := 0 } HF4.out.n ?_)
  | (refine qh rfl rfl _ _ rfl (w.heap.size + 1) rfl _ { x with kind := 2, sv := .slice sa S.length sc, set := S, c := 0 } HF4.out.r rfl HNO.out rfl ?_))
 refine bodyPost_ret (qA rfl _ _ (w.heap.size + 1) { x with kind := 2, sv := .slice sa S.length sc, set := S, c := 0 } rfl (setRow_heap _ _ _ _ _ _ HF4.out.r)) rfl ?_;exact rf_end HF4.out (by unfold ownF; have q := HK.out; rw [if_pos q, HCL.out, HS.out]; rfl)
theorem resolved_any (b : Nat) (u : Bool) (m f : Int) (x : Lab) (j : F) (w : World) (h : Nat → Bool) (ha : AlOk u m) (hsc : ScAt w b u m f) (hT : Tab3 w) (ho : Old h w.heap.size) (hn : NdAt (sees h w) (x, j)) (hl : x.set.length ≤ 100000) :
 Calls Tryz.prog 57 #[.pointer (some ⟨b, 0, none⟩), ndV x] w (SelfB h (ownF u m x (strip j) f) w) := by
 by_cases h1 : x.kind = 1
 ·exact res_1 b u m f x j w h ha hsc hT ho hn hl h1
 by_cases h2 : x.kind = 2
 ·exact res_2 b u m f x j w h ha hsc hT ho hn hl h2
 by_cases h3 : x.kind = 3
 ·exact res_3 b u m f x j w h ha hsc hT ho hn hl h3
 by_cases h4 : x.kind = 4
 ·exact res_4 b u m f x j w h ha hsc hT ho hn hl h4
 by_cases h6 : x.kind = 6
 ·exact res_6 b u m f x j w h ha hsc hT ho hn hl h6
 by_cases h7 : x.kind = 7
 ·exact res_7 b u m f x j w h ha hsc hT ho hn hl h7
 by_cases h20 : x.kind = 20
 ·exact res_20 b u m f x j w h ha hsc hT ho hn hl h20
 exact res_oth b u m f x j w h ha hsc hT ho hn hl ⟨h1, h2, h3, h4, h6, h7, h20⟩
end Go.Proofs.YtikjhfmmfpeaoaaGreatDoor.fkw
end
