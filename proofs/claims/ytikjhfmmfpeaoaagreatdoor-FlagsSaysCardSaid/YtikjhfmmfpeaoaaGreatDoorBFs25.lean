/- T -/
import Derived.Lib.SlBytesConst
import Derived.Test.YtikjhfmmfpeaoaaGreatDoorBFs24
set_option maxHeartbeats 16000000
set_option maxRecDepth 1000000
namespace Go.Proofs.YtikjhfmmfpeaoaaGreatDoor
section
namespace fkw
open sq
open Go.Sort Go Go.RowKit Go.Maps setp setw tkp trp trw rpp rsp fgp
open ucdw (Tab3)
open rpw (sees jB qU own_below qp qA qh ql jc jU)
open rsw (Old hx OwnH ownH_below qV row1_kids sees_below)
theorem Ch.wide {b : Nat} {w w' : World} (h : Ch b nil3 nil3 w w') (v : Value) : Ch b v v w w' := ⟨h.os, h.tape, h.output, h.size, fun q hq hb _ => h.block q hq hb (by intro e; cases e), fun _ e => Or.inl e⟩
theorem rg_h1 {h : Nat → Bool} {q o : Nat} {w : World} {v u : Value} {S : List Rg} (H : RgAt (sees (h1 h q) w) v S) : RgAt (sees (h1 h q) (w.setCell ⟨q, o, none⟩ u)) v S :=
 trw.rgAt_mono (qU fun a u k1 hc => ⟨k1, (World.cell?_of_block (rpw.qx o _ (fun e => by simp only [h1, dE, dD] at k1;exact k1.2 e))).trans hc⟩) H
theorem kv_h1 {h : Nat → Bool} {q o : Nat} {w : World} {v u : Value} {k : F} (H : jr (sees (h1 h q) w) v k) : jr (sees (h1 h q) (w.setCell ⟨q, o, none⟩ u)) v k :=
 jh (qU fun a u k1 hc => ⟨k1, (World.cell?_of_block (rpw.qx o _ (fun e => by simp only [h1, dE, dD] at k1;exact k1.2 e))).trans hc⟩) H
theorem put_11 {w0 : World} {u : Bool} {m : Int} {x : Lab} {k : F} (ha : AlOk u m) (hT : Tab3 w0) (hA : AllC w0 u m k) (hK : KidsC w0 u m k) (hn : NdAt w0 (x, k)) (_hl : x.set.length ≤ 100000) (hk : x.kind = 11) : PutC w0 u m x k := by
 intro w h b f v g0 hC hO hV hsz;obtain ⟨R, hR⟩ : ∃ R, putP u m (fun g => (bothP u m k g).1) (fun g => (bothP u m k g).2) x f = R := ⟨_, rfl⟩;rw [hR];have HR := xH (show (F.nil, turnI f x.on x.off) = R by rw [← hR]; unfold putP; rw [if_pos hk]);have HB := xH (trw.qg w (.cells (ndC x).toArray 27));have HG := xH (heap_alloc_new w (.cells (ndC x).toArray 27));have HZ := xH (World.size_alloc w (.cells (ndC x).toArray 27));have HC := xH (hC.keep HB.out);have HO := xH (ownH_below hO HB.out);have HV := xH hV;have HOW := xH (fun g (e : v.ownBlock = some g) => (own_below hO.1 e).2);have HLT := xH hC.sc.lt;have HCW := xH hC;have HO0 := xH hO;have HA := xH hA;have HK := xH hK;have HN := xH hn;have HAL := xH ha;have HT := xH hT;have HNO := xH (qp hn);have HKD := xH hk;clear ha hT hA hK hn hC hO hV hk hR;unfold ndC at HB HG HZ HC HO;unfold ndV;go_enter Tryz.func31, Tryz.ntmps31;go_upto_region 1 with (fail)
 generalize w.alloc _ = w1 at *;have HG : Hid (w1.heap[w.heap.size]? = some (.cells (ndC x).toArray 27 (0, 0))) := HG;have b11 : (x.kind == 11) = true := by have q := HKD.out; simp [q]
 have c0 := yC 0 (.int .i64 x.kind) HG;have HCH := xH (change_any b u m f x w1 HC.out.sc nil3);go_wp2_with (first
  | (refine ql rfl _ rfl w.heap.size rfl x HG.out ?_))
 refine HCH.out.mono ?_;rintro e w2 ⟨rfl, hsc, hch⟩;go_wp2_with fail
 go_ret
 refine ⟨v, F.nil, rfl, ?_, by rw [← HR.out]; rfl, by rw [← HR.out]; exact hsc, (hch.wide v).after HB.out⟩;rw [app_nil];exact ownH_ch HO.out hch HC.out.hb (fun e => by have := HV.out _ e; rw [HC.out.hb] at this; cases this)
theorem put_12 {w0 : World} {u : Bool} {m : Int} {x : Lab} {k : F} (ha : AlOk u m) (hT : Tab3 w0) (hA : AllC w0 u m k) (hK : KidsC w0 u m k) (hn : NdAt w0 (x, k)) (_hl : x.set.length ≤ 100000) (hk : x.kind = 12) : PutC w0 u m x k := by
 intro w h b f v g0 hC hO hV hsz;obtain ⟨R, hR⟩ : ∃ R, putP u m (fun g => (bothP u m k g).1) (fun g => (bothP u m k g).2) x f = R := ⟨_, rfl⟩;rw [hR];have HR := xH (show (bothP u m k f).1 = R by rw [← hR]; unfold putP; rw [if_neg (by omega), if_pos hk]);have HB := xH (trw.qg w (.cells (ndC x).toArray 27));have HG := xH (heap_alloc_new w (.cells (ndC x).toArray 27));have HZ := xH (World.size_alloc w (.cells (ndC x).toArray 27));have HC := xH (hC.keep HB.out);have HO := xH (ownH_below hO HB.out);have HV := xH hV;have HOW := xH (fun g (e : v.ownBlock = some g) => (own_below hO.1 e).2);have HLT := xH hC.sc.lt;have HCW := xH hC;have HO0 := xH hO;have HA := xH hA;have HK := xH hK;have HN := xH hn;have HAL := xH ha;have HT := xH hT;have HNO := xH (qp hn);have HKD := xH hk;clear ha hT hA hK hn hC hO hV hk hR;unfold ndC at HB HG HZ HC HO;unfold ndV;go_enter Tryz.func31, Tryz.ntmps31;go_upto_region 1 with (fail)
 generalize w.alloc _ = w1 at *;have HG : Hid (w1.heap[w.heap.size]? = some (.cells (ndC x).toArray 27 (0, 0))) := HG;have b11 : (x.kind == 11) = false := by have q := HKD.out; simp; omega
 have b12 : (x.kind == 12) = true := by have q := HKD.out; simp [q]
 have c0 := yC 0 (.int .i64 x.kind) HG;have c11 := yC 11 (x.kv) HG;have HCL := xH (HA.out w1 h b f v x.kv g0 HC.out HO.out HV.out hsz HN.out.2.2);rw [HR.out] at HCL;go_wp2_with fail
 refine HCL.out.mono ?_;rintro e w2 ⟨v', g, rfl, ho, hs, hsc, hch⟩;go_wp2_with fail
 go_ret
 exact ⟨v', g, rfl, ho, hs, hsc, hch.after HB.out⟩
theorem put_15 {w0 : World} {u : Bool} {m : Int} {x : Lab} {k : F} (ha : AlOk u m) (hT : Tab3 w0) (hA : AllC w0 u m k) (hK : KidsC w0 u m k) (hn : NdAt w0 (x, k)) (_hl : x.set.length ≤ 100000) (hk : x.kind = 15) : PutC w0 u m x k := by
 intro w h b f v g0 hC hO hV hsz;obtain ⟨R, hR⟩ : ∃ R, putP u m (fun g => (bothP u m k g).1) (fun g => (bothP u m k g).2) x f = R := ⟨_, rfl⟩;rw [hR];have HR := xH (show ((bothP u m k (turnI f x.on x.off)).1.1, f) = R by rw [← hR]; unfold putP; rw [if_neg (by omega), if_neg (by omega), if_pos hk]);have HB := xH (trw.qg w (.cells (ndC x).toArray 27));have HG := xH (heap_alloc_new w (.cells (ndC x).toArray 27));have HZ := xH (World.size_alloc w (.cells (ndC x).toArray 27));have HC := xH (hC.keep HB.out);have HO := xH (ownH_below hO HB.out);have HV := xH hV;have HOW := xH (fun g (e : v.ownBlock = some g) => (own_below hO.1 e).2);have HLT := xH hC.sc.lt;have HCW := xH hC;have HO0 := xH hO;have HA := xH hA;have HK := xH hK;have HN := xH hn;have HAL := xH ha;have HT := xH hT;have HNO := xH (qp hn);have HKD := xH hk;clear ha hT hA hK hn hC hO hV hk hR;unfold ndC at HB HG HZ HC HO;unfold ndV;go_enter Tryz.func31, Tryz.ntmps31;go_upto_region 1 with (fail)
 generalize w.alloc _ = w1 at *;have HG : Hid (w1.heap[w.heap.size]? = some (.cells (ndC x).toArray 27 (0, 0))) := HG;have b11 : (x.kind == 11) = false := by have q := HKD.out; simp; omega
 have b12 : (x.kind == 12) = false := by have q := HKD.out; simp; omega
 have b15 : (x.kind == 15) = true := by have q := HKD.out; simp [q]
 have c0 := yC 0 (.int .i64 x.kind) HG;have HSA := xH (show ScAt (w1.alloc (.cells (scC false 0 0) 50)) w1.heap.size false 0 0 from heap_alloc_new w1 (.cells (scC false 0 0) 50));have HSC := xH (sc_row HSA.out u m f);have HB0 := xH (jU w1 (scC false 0 0) (scC u m f) 50);have HS0 := xH (HC.out.sc);have HS1 := xH (HC.out.sc.keep (trw.qg w1 (.cells (scC false 0 0) 50)));have HZ0 := xH (show ((w1.alloc (.cells (scC false 0 0) 50)).setRow w1.heap.size (scC u m f)).heap.size = w1.heap.size + 1 by rw [tkw.setRow_size, World.size_alloc]);unfold scC at HSA HSC HB0 HS1 HZ0;go_upto_region 9 with (first
  | (refine wpList_load_sc rfl _ rfl b rfl u m f HS0.out ?_)
  | (refine wpList_load_sc rfl _ rfl b rfl u m f HS1.out ?_)
  | (refine wpList_store_sc rfl rfl _ _ rfl w1.heap.size rfl false 0 0 HSA.out u m f rfl ?_; unfold scC))
 generalize (w1.alloc _).setRow _ _ = w2 at *;have HG2 := xH ((HB0.out.block w.heap.size (by have := HZ.out; omega)).trans HG.out);have HCH := xH (change_any w1.heap.size u m f x w2 HSC.out nil3);have HO2 := xH (ownH_hide (h' := h1 h w1.heap.size) HO.out HB0.out (fun i hi => by
  simp only [h1, Bool.or_eq_true, dF] at hi;rcases hi with hi | hi
  ·exact Or.inl hi
  ·exact Or.inr (by omega)))
 clear c0;go_upto_region 10 with (first
  | (refine ql rfl _ rfl w.heap.size rfl x HG2.out ?_)
  | (refine HCH.out.mono ?_; rintro e w3 ⟨rfl, hsc, hch⟩; have HSC3 := xH hsc; have HCH3 := xH hch; clear hsc hch))
 have HLW := xH (show w.heap.size < w1.heap.size by have := HZ.out; omega);have HVO := xH (show ∀ g, v.ownBlock = some g → g < w1.heap.size from fun g e => by have := HOW.out g e; have := HLW.out; omega);have HO3 := xH (ownH_ch HO2.out HCH3.out (h1_self _ _) (fun e => by have := HVO.out _ e; omega));have HG3 := xH ((HCH3.out.block w.heap.size (by have := HZ0.out; have := HLW.out; omega) (by have := HLW.out; omega) (by intro e; cases e)).trans HG2.out);have HV3 := xH (show Vis (h1 h w1.heap.size) v from fun g e => by have p := HV.out g e;have q := HVO.out g e;simp only [h1, p, Bool.false_or, dD];omega)
 have HB3 := xH (show Below w1.heap.size w1 w3 from ⟨HCH3.out.os.trans HB0.out.os, HCH3.out.tape.trans HB0.out.tape, HCH3.out.output.trans HB0.out.output, Nat.le_trans HB0.out.size HCH3.out.size, fun i hi => (HCH3.out.block i (by have := HB0.out.size; omega) (by omega) (by intro e; cases e)).trans (HB0.out.block i hi)⟩);have HC3 := xH (show Cx w0 w3 (h1 h w1.heap.size) w1.heap.size u m (turnI f x.on x.off) from ⟨HC.out.be.trans (HB3.out.mono HC.out.be.size), h1_old HC.out.old HB3.out.size (by have := HZ0.out; have := HCH3.out.size; omega), h1_self _ _, HC.out.be.size, HSC3.out⟩);have HCL := xH (HA.out w3 _ _ _ v x.kv g0 HC3.out HO3.out HV3.out hsz HN.out.2.2);have HB03 := xH (trw.qi HB.out HB3.out);have HS3 := xH (HC.out.sc.keep HB3.out);have c11 := yC 11 (x.kv) HG3;go_wp2_with fail
 refine HCL.out.mono ?_;rintro e w4 ⟨v', g, rfl, ho, hs, hsc, hch⟩;go_wp2_with fail
 go_ret
 refine ⟨v', g, rfl, ownH_show ho (h1_mono _ _), by rw [← HR.out]; exact hs, ?_, Ch.inner HB03.out hch (Nat.le_of_lt HLW.out)⟩;rw [← HR.out];exact HS3.out.ch hch (by have := HLT.out; have := HLW.out; omega) (fun e => by have := HV.out _ e; rw [HC.out.hb] at this; cases this)
theorem put_meet {w0 w w1 w3 w4 w5 : World} {h : Nat → Bool} {b : Nat} {u : Bool} {m f : Int} {v : Value} {g0 : F} {x : Lab} {Q g : F} {sa ka : Option Addr} {sc kc : Nat} (hB3 : w1.heap.size ≤ w3.heap.size) (hz4 : w4.heap.size = w3.heap.size) (hz5 : w5.heap.size = w4.heap.size)
 (hG : w5.heap[w.heap.size]? = some (.cells ((ndC { x with sv := .slice sa x.set.length sc }).toArray.setIfInBounds 11 (.slice ka g.len kc)) 27 (0, 0)))
 (hx1 : LabOk x) (hrg : RgAt (sees (h1 (hx h v) w.heap.size) w5) (.slice sa x.set.length sc) x.set) (hkv : jr (sees (h1 (hx h v) w.heap.size) w5) (.slice ka g.len kc) g) (hs : strip g = Q) (hB5 : Below w.heap.size w w5) (hC : Cx w0 w h b u m f) (hO : OwnH h w0.heap.size w v g0) :
 ∃ a c kv g, (Value.slice sa x.set.length sc : Value) = .slice a x.set.length c ∧ Hid (w5.heap[w.heap.size]? = some (.cells (ndC { x with sv := .slice a x.set.length c, kv := kv }).toArray 27 (0, 0))) ∧ Hid (NdAt (sees (h1 (hx h v) w.heap.size) w5) ({ x with sv := .slice a x.set.length c, kv := kv }, g)) ∧ Hid (strip g = Q) ∧ Hid (Below w.heap.size w w5) ∧ Hid (ScAt w5 b u m f) ∧ Hid (OwnH h w0.heap.size w5 v g0) ∧ Hid (Below w0.heap.size w0 w5) ∧ Hid (w1.heap.size ≤ w5.heap.size) :=
 ⟨sa, sc, .slice ka g.len kc, g, rfl, xH hG, xH ⟨hx1, hrg, hkv⟩, xH hs, xH hB5, xH (hC.sc.keep hB5), xH (ownH_below hO hB5), xH (hC.be.trans (hB5.mono hC.be.size)), xH (by omega)⟩
theorem put_oth {w0 : World} {u : Bool} {m : Int} {x : Lab} {k : F} (ha : AlOk u m) (hT : Tab3 w0) (hA : AllC w0 u m k) (hK : KidsC w0 u m k) (hn : NdAt w0 (x, k)) (hl : x.set.length ≤ 100000) (hk : x.kind ≠ 11 ∧ x.kind ≠ 12 ∧ x.kind ≠ 15) : PutC w0 u m x k := by
 intro w h b f v g0 hC hO hV hsz;obtain ⟨R, hR⟩ : ∃ R, putP u m (fun g => (bothP u m k g).1) (fun g => (bothP u m k g).2) x f = R := ⟨_, rfl⟩;rw [hR];have HR := xH (show (ownF u m x (bothP u m k f).2 f, f) = R by rw [← hR]; unfold putP; rw [if_neg hk.1, if_neg hk.2.1, if_neg hk.2.2]);have HB := xH (trw.qg w (.cells (ndC x).toArray 27));have HG := xH (heap_alloc_new w (.cells (ndC x).toArray 27));have HZ := xH (World.size_alloc w (.cells (ndC x).toArray 27));have HC := xH (hC.keep HB.out);have HO := xH (ownH_below hO HB.out);have HV := xH hV;have HOW := xH (fun g (e : v.ownBlock = some g) => (own_below hO.1 e).2);have HLT := xH hC.sc.lt;have HCW := xH hC;have HO0 := xH hO;have HA := xH hA;have HK := xH hK;have HN := xH hn;have HAL := xH ha;have HT := xH hT;have HNO := xH (qp hn);have HKD := xH hk;clear ha hT hA hK hn hC hO hV hk hR;unfold ndC at HB HG HZ HC HO;unfold ndV;go_enter Tryz.func31, Tryz.ntmps31;go_upto_region 1 with (fail)
 generalize w.alloc _ = w1 at *;have HG : Hid (w1.heap[w.heap.size]? = some (.cells (ndC x).toArray 27 (0, 0))) := HG;have b11 : (x.kind == 11) = false := by have q := HKD.out; simp; omega
 have b12 : (x.kind == 12) = false := by have q := HKD.out; simp; omega
 have b15 : (x.kind == 15) = false := by have q := HKD.out; simp; omega
 have c0 := yC 0 (.int .i64 x.kind) HG;have c3 := yC 3 (x.sv) HG;have c11 := yC 11 (x.kv) HG;have HOX := xH (hx_old2 (m := w1.heap.size) HC.out.old (xL _) HO.out.1 (xL _));have HHO := xH (h1_old (q := w.heap.size) HOX.out (xL _) (by have := HZ.out; omega));have HHB := xH (show h1 (hx h v) w.heap.size b = true by simp [h1, hx, HC.out.hb]);have HCL := xH (fun (w' : World) (hb' : Below w1.heap.size w1 w') => clone_rg x.sv x.set w' (h1 (hx h v) w.heap.size) (trw.rgAt_mono (fun _ _ hc => (World.cell?_of_block ((HC.out.be.trans (hb'.mono HC.out.be.size)).block _ (cell_lt hc))).trans hc) HN.out.2.1) hl (HHO.out.le hb'.size));have HKL := xH (fun (w' : World) (hb' : Below w1.heap.size w1 w') => HK.out w' (h1 (hx h v) w.heap.size) b f x.kv ((HC.out.hide HHO.out HHB.out).keep hb') (by omega) HN.out.2.2);obtain ⟨Q, hQ⟩ : ∃ Q, (bothP u m k f).2 = Q := ⟨_, rfl⟩;rw [hQ] at HKL HR;have HBD := xH (show Below w1.heap.size w1 w1.drew from trw.qL w1);clear hQ;go_upto_region 11 with (fail)
 go_cut [36] (fun v36 wx => ∃ a c kv g, v36 = .slice a x.set.length c ∧ Hid (wx.heap[w.heap.size]? = some (.cells (ndC { x with sv := .slice a x.set.length c, kv := kv }).toArray 27 (0, 0))) ∧ Hid (NdAt (sees (h1 (hx h v) w.heap.size) wx) ({ x with sv := .slice a x.set.length c, kv := kv }, g)) ∧ Hid (strip g = Q) ∧ Hid (Below w.heap.size w wx) ∧ Hid (ScAt wx b u m f) ∧ Hid (OwnH h w0.heap.size wx v g0) ∧ Hid (Below w0.heap.size w0 wx) ∧ Hid (w1.heap.size ≤ wx.heap.size))
 case first =>
  go_wp2_with fail
  refine wp_region_held_drew (S := fun w' => True) (by kernel_rfl) trivial (fun hHeld => ?_);refine yT 0 ?_;simp only [xS];refine yT 3 ?_;simp only [xS];refine yT 4 ?_;simp only [xS];refine wpAnyH_ready (rs := [1, 5]) (by kernel_rfl) (by simp) ?_;refine AllReadyH.cons rfl (fun K hK => ?_) (AllReadyH.cons rfl (fun K hK => ?_) AllReadyH.nil)
  ·have q3 : w1.drew.cell? ⟨w.heap.size, 3, none⟩ = some x.sv := c3;go_simp;refine hK.out _ _ trivial (fun hHeld => ?_);clear hK K;try simp only [xS]
   refine wpAnyH_ready (rs := [2, 5]) (by kernel_rfl) (by simp) ?_;refine AllReadyH.cons rfl (fun K hK => ?_) (AllReadyH.cons rfl (fun K hK => ?_) AllReadyH.nil)
   ·go_simp;refine (HCL.out _ HBD.out).mono ?_;rintro e w2 ⟨sa, sc, rfl, hrg, hb⟩;have HB2 := xH (trw.qi HBD.out hb);have HRG := xH hrg;have HG2 := xH ((HB2.out.block w.heap.size (by have := HZ.out; omega)).trans HG.out);clear hrg hb;try dsimp only
    refine hK.out _ _ trivial (fun hHeld => ?_);clear hK K;try simp only [xS]
    refine xD 5 rfl (fun K hK => ?_);have q11 := yC 11 x.kv HG2;go_simp;refine hK.out _ _ trivial (fun hHeld => ?_);exact z141
   ·have q11 : w1.drew.cell? ⟨w.heap.size, 11, none⟩ = some x.kv := c11;exact z4
  ·have q11 : w1.drew.cell? ⟨w.heap.size, 11, none⟩ = some x.kv := c11;go_simp;refine hK.out _ _ trivial (fun hHeld => ?_);clear hK K;try simp only [xS]
   refine xD 1 rfl (fun K hK => ?_);have q3 : w1.drew.cell? ⟨w.heap.size, 3, none⟩ = some x.sv := c3;exact z4
 case rest =>
  obtain ⟨a, c, kv, g, rfl, hG, hN, hS, hB, hSC, hO, hB0, hW⟩ := hcut;have HGc := xH hG.out;have HOX2 := xH (HOX.out.le hW.out);have HRS := xH (resolved_any b u m f { x with sv := .slice a x.set.length c, kv := kv } g wc (hx h v) HAL.out hSC.out (fun i hi => (World.cell?_of_block (hB0.out.block _ (cell_lt (HT.out i hi)))).trans (HT.out i hi)) HOX2.out (nd_show hN.out (h1_mono _ _)) hl);have HEQ := xH (show ownF u m { x with sv := .slice a x.set.length c, kv := kv } (strip g) f = ownF u m x Q f by rw [hS.out]; rfl);have HOc := xH hO.out;have HSc := xH hSC.out;have HBc := xH hB.out;have HB0c := xH hB0.out;have HWc := xH (show w0.heap.size ≤ wc.heap.size from hB0.out.size);clear hG hN hS hB hSC hO hB0 hW c0 c3 c11 HCL HKL HA HK;go_wp2_with (first
   | (refine ql rfl _ rfl w.heap.size rfl { x with sv := .slice a x.set.length c, kv := kv } HGc.out ?_))
  refine HRS.out.mono ?_;rintro e w5 ⟨y, j, rfl, hn, hs, hb⟩;have HN5 := xH hn;have HS5 := xH (hs.trans HEQ.out);have HO5 := xH (ownH_below HOc.out hb);have HB5 := xH (HBc.out.trans (hb.mono HBc.out.size));have HSC5 := xH (HSc.out.keep hb);have HY := xH (qp hn);have HOX5 := xH (HOX2.out.le hb.size);have HW5 := xH (Nat.le_trans HWc.out hb.size);have HLN := xH (show g0.len + (F.one y j).len ≤ 200000 by simp only [F.one, F.len]; omega);obtain ⟨Z, hZ⟩ : ∃ Z, w5.heap.size = Z := ⟨_, rfl⟩;have HZZ := xH hZ;have HKD := xH (show ∀ w17, w17 = w5.alloc (.cells (ndC y).toArray 27) → jr (sees (hx h v) w17) (.slice (some ⟨Z, 0, none⟩) 1 1) (F.one y j) from fun w17 h17 => by subst h17;have := row1_kids HN5.out HOX5.out;rw [hZ] at this;exact this)
  clear hZ hn hs hb HRS HGc;try dsimp only
  go_wp2_with (first
   | (refine jc rfl _ rfl y rfl Z HZZ.out ?_; intro w17 h17; have HO17 := xH (ownH_below HO5.out (h17.out ▸ qg w5 _)); have HK17 := xH (HKD.out w17 h17.out); have HB17 := xH (show Below w5.heap.size w5 w17 from h17.out ▸ qg w5 _); have HS17 := xH (Nat.le_trans HW5.out HB17.out.size); clear h17)
   | (at_builtin; refine wpList_append_k rfl _ _ rfl h w0.heap.size v g0 rfl HO17.out _ (F.one y j) rfl HK17.out HLN.out HS17.out ?_; intro v18 w18 h18 hb18; have HO18 := xH h18; have HCH18 := xH (hb18 b); have HCHX := xH (hb18 w17.heap.size); clear h18 hb18))
  go_ret
  have HB017 := xH (HB5.out.trans (HB17.out.mono HB5.out.size));refine ⟨v18, F.one y j, rfl, HO18.out, by rw [← HR.out]; exact HS5.out, ?_, HCH18.out.after HB017.out⟩;rw [← HR.out];exact (HSC5.out.keep HB17.out).ch0 HCHX.out HV.out HC.out.hb
end fkw
end
section
namespace fkw
open sq
open Go.Sort Go Go.RowKit Go.Maps setp setw tkp trp trw rpp rsp fgp
open ucdw (Tab3)
open rpw (sees jB qU own_below qp qA qh ql jc jU)
open rsw (Old hx OwnH ownH_below qV)
theorem put_any {w0 : World} {u : Bool} {m : Int} (ha : AlOk u m) (hT : Tab3 w0) : ∀ (n : Nat) (k : F), k.size < n → ∀ x : Lab, NdAt w0 (x, k) → OkF (F.one x k) → PutC w0 u m x k := by
 intro n
 induction n with
 | zero => exact fun k h => absurd h (Nat.not_lt_zero _)
 | succ n ih =>
  intro k hk x hn hok;have hP : ∀ (x' : Lab) (k' : F), k'.size < k.size → NdAt w0 (x', k') → OkF (F.one x' k') → PutC w0 u m x' k' := fun x' k' h1 h2 h3 => ih k' (by omega) x' h2 h3
  have hA : AllC w0 u m k := all_of hok.2.2.1 hP;have hK : KidsC w0 u m k := kids_of hok.2.2.1 (fun x' k' h1 h2 h3 => result_of (hP x' k' h1 h2 h3) h2);have hl : x.set.length ≤ 100000 := Nat.le_trans hok.1 (by omega);by_cases h11 : x.kind = 11
  ·exact put_11 ha hT hA hK hn hl h11
  by_cases h12 : x.kind = 12
  ·exact put_12 ha hT hA hK hn hl h12
  by_cases h15 : x.kind = 15
  ·exact put_15 ha hT hA hK hn hl h15
  exact put_oth ha hT hA hK hn hl ⟨h11, h12, h15⟩
theorem fresolve_any (h : Nat → Bool) (x : Lab) (k : F) (o : Int) (w : World) (hold : Old h w.heap.size) (hn : NdAt w (x, k)) (hok : OkF (F.one x k)) (hsz : k.size ≤ 100000) (hT : Tab3 w) : Calls Tryz.prog 10 #[ndV x, .int .i64 o] w (SelfB h (answerP (x, k) o) w) := by
 have z1 := World.size_alloc w (.cells (ndC x).toArray 27);have b1 := qg w (.cells (ndC x).toArray 27);have b2 := qg (w.alloc (.cells (ndC x).toArray 27)) (.cells zC.toArray 27);have g1 := heap_alloc_new w (.cells (ndC x).toArray 27);have g2 := heap_alloc_new (w.alloc (.cells (ndC x).toArray 27)) (.cells zC.toArray 27);have z2 := World.size_alloc (w.alloc (.cells (ndC x).toArray 27)) (.cells zC.toArray 27);rw [z1] at g2 z2;have HB := xH (trw.qi b1 b2);have HG := xH ((b2.block _ (by omega)).trans g1);have HRV := xH g2;have HZ := xH z2;have HOLD := xH hold;obtain ⟨u, hu⟩ : ∃ u, decide (andI o 32 ≠ 0) = u := ⟨_, rfl⟩;obtain ⟨m, hm⟩ : ∃ m : Int, (if andI o 32 ≠ 0 then 1114111 else 255) = m := ⟨_, rfl⟩;have HAL := xH (show AlOk u m by
  rw [← hu, ← hm];by_cases q : andI o 32 = 0
  ·exact Or.inr ⟨by simp [q], by simp [q]⟩
  ·exact Or.inl ⟨by simp [q], by simp [q]⟩)
 have HRE := xH (result_of (put_any HAL.out hT (k.size + 1) k (Nat.lt_succ_self _) x hn hok) hn);have HAB := xH (fun w' : World => alphabet_any o w');rw [hu, hm] at HAB;obtain ⟨R, hR⟩ : ∃ R, putP u m (fun g => (bothP u m k g).1) (fun g => (bothP u m k g).2) x o = R := ⟨_, rfl⟩;obtain ⟨A, hA⟩ : ∃ A, answerP (x, k) o = A := ⟨_, rfl⟩;have HA := xH (show oneF 12 R.1 = A by rw [← hA, ← hR, ← hu, ← hm]; rfl);rw [hA];clear z1 b1 b2 g1 g2 z2 hn hok hold hu hm hA hT;unfold ndC zC at HB HG HRV HZ;go_enter Tryz.func10, Tryz.ntmps10;unfold ndV;go_upto_region 1 with (fail)
 generalize (w.alloc _).alloc _ = w1 at *;have HG : Hid (w1.heap[w.heap.size]? = some (.cells (ndC x).toArray 27 (0, 0))) := HG;go_upto_region 2 with (first
  | (refine (HAB.out _).mono ?_; rintro e w2 ⟨rfl, hb⟩; have HB2 := xH hb; clear hb; unfold alV))
 have HBA := xH (trw.qg w2 (.cells #[.bool u, .int .i64 m, .int .i64 o] 50));have HSC := xH (show ScAt (w2.alloc (.cells #[.bool u, .int .i64 m, .int .i64 o] 50)) w2.heap.size u m o from heap_alloc_new w2 (.cells #[.bool u, .int .i64 m, .int .i64 o] 50));have HZA := xH (World.size_alloc w2 (.cells #[.bool u, .int .i64 m, .int .i64 o] 50));obtain ⟨b, hb⟩ : ∃ b, w2.heap.size = b := ⟨_, rfl⟩;have HBB := xH (show w.heap.size + 2 ≤ b by rw [← hb]; have := HZ.out; have := HB2.out.size; omega);rw [hb] at HSC HZA;simp only [hb];have HB3 := xH (trw.qi (trw.qi HB.out HB2.out) HBA.out);have HB13 := xH (trw.qi HB2.out HBA.out);clear hb HAB HB2 HBA;generalize w2.alloc _ = w3 at *;have HO1 := xH (h1_old (q := w.heap.size + 1) (k := w3.heap.size) HOLD.out HB3.out.size (by have := HZA.out; have := HBB.out; omega));have HCX := xH (show Cx w w3 (h1 (h1 h (w.heap.size + 1)) b) b u m o from ⟨HB3.out, h1_old HO1.out (xL _) (by have := HZA.out; omega), h1_self _ _, by have := HBB.out; omega, HSC.out⟩);have HCL := xH (HRE.out w3 _ b o HCX.out hsz);rw [hR] at HCL;have HG3 := xH ((HB13.out.block w.heap.size (by have := HZ.out; omega)).trans HG.out);have HRV3 := xH ((HB13.out.block (w.heap.size + 1) (by have := HZ.out; omega)).trans HRV.out);clear HRE hR;go_wp2_with (first
  | (refine ql rfl _ rfl w.heap.size rfl x HG3.out ?_))
 refine HCL.out.mono ?_;rintro e w4 ⟨y, j, rfl, hn, hs, hsc, hch⟩;have HN4 := xH (nd_show hn (h1_mono _ _));have HS4 := xH (hs.trans HA.out);have HY := xH (qp hn);have HB4 := xH (hch.below HB3.out HB3.out.size (by have := HBB.out; omega) (by intro g e; cases e));have HR4 := xH ((hch.block (w.heap.size + 1) (by have := HZA.out; have := HBB.out; omega) (by have := HBB.out; omega) (by intro e; cases e)).trans HRV3.out);clear hn hs hsc hch HCL;try dsimp only
 go_wp2_with (first
  | (refine qh rfl rfl _ _ rfl (w.heap.size + 1) rfl _ y HR4.out rfl HY.out rfl ?_))
 refine xB (qA rfl _ _ (w.heap.size + 1) y rfl (setRow_heap _ _ _ _ _ _ HR4.out)) rfl ?_;exact ⟨y, j, rfl, nd_unh1 HN4.out, HS4.out, rpw.qC HB4.out _ (Nat.le_succ _)⟩
end fkw
end
section
namespace fgp
open sq
open Go tkp trp rpp rsp
def bareT (t : Tk) : Prop := t.n = 0 ∧ t.m = 0 ∧ t.name = ⟨#[]⟩ ∧ t.on = 0 ∧ t.off = 0
def TkR (t : Tk) : Prop :=
 (t.kind = 1 → bareT t ∧ t.set = [] ∧ t.neg = false) ∧ (t.kind = 2 → bareT t ∧ t.c = 0) ∧
 (t.kind = 3 → bareT t ∧ t.c = 0 ∧ t.set = [] ∧ t.neg = false) ∧ (t.kind = 11 → t.on = 0)
theorem raw_app : ∀ {f g : F}, RawF f → noAlt f → RawF g → RawF (F.app f g)
 | .nil, _, _, _, h => h
 | .cons _ _ _, _, ⟨_, h2, h3, h4, h5, h6, h7, h8, h9, h10⟩, n, h => ⟨fun c => absurd c n.1, h2, h3, h4, h5, h6, h7, h8, h9, raw_app h10 n.2 h⟩
theorem noAlt_app : ∀ {f g : F}, noAlt f → noAlt g → noAlt (F.app f g)
 | .nil, _, _, h => h
 | .cons _ _ _, _, n, h => ⟨n.1, noAlt_app n.2 h⟩
theorem no13 {x : Lab} {k : F} (K : Int) (e : x.kind = K) (h : K ≠ 13) : noAlt (.cons x k .nil) := ⟨by rw [e]; exact h, trivial⟩
theorem raw_lab {x : Lab} {k : F} (K : Int) (e : x.kind = K) (hx : 8 ≤ K ∧ K ≠ 12 ∧ K ≠ 15 ∨ K = 0) (hk : RawF k) : RawF (F.one x k) := by subst e;refine ⟨fun _ => rfl, ?_, ?_, ?_, ?_, ?_, ?_, ?_, hk, trivial⟩ <;> intro c <;> omega
theorem raw_12 {l : F} (h : RawF l) (n : noAlt l) : RawF (oneF 12 l) ∧ noAlt (oneF 12 l) := by
 have p : RawF (.cons (lab 12 0) l .nil) := ⟨fun _ => rfl, fun _ => n, fun c => absurd (show (12 : Int) = 15 from c) (by decide), fun c => absurd (show (12 : Int) = 1 ∨ (12 : Int) = 2 ∨ (12 : Int) = 3 ∨ (12 : Int) = 4 ∨ (12 : Int) = 7 from c) (by decide), fun c => absurd (show (12 : Int) = 1 from c) (by decide), fun c => absurd (show (12 : Int) = 2 from c) (by decide), fun c => absurd (show (12 : Int) = 3 from c) (by decide), fun c => absurd (show (12 : Int) = 7 from c) (by decide), h, trivial⟩
 match l, h, n with
 | .nil, _, _ => exact ⟨p, no13 12 rfl (by decide)⟩
 | .cons x k .nil, h, n => exact ⟨h, n⟩
 | .cons x k (.cons y q r), h, n => exact ⟨p, no13 12 rfl (by decide)⟩
theorem raw_13 {l : F} (h : RawF l) : RawF (oneF 13 l) ∧ (oneF 13 l).len = 1 := by
 have p : RawF (.cons (lab 13 0) l .nil) := raw_lab 13 rfl (by decide) h
 match l, h with
 | .nil, _ => exact ⟨p, rfl⟩
 | .cons x k .nil, h => exact ⟨h, rfl⟩
 | .cons x k (.cons y q r), h => exact ⟨p, rfl⟩
theorem leafK_in (k : Int) : (leafK k = k ∧ 1 ≤ k ∧ k ≤ 6) ∨ (k = 11 ∧ leafK k = 7) ∨ (8 ≤ leafK k ∧ leafK k ≤ 11) := by
 generalize e : leafK k = q;unfold leafK at e
 repeat' split at e
 all_goals omega
theorem raw_leaf {t : Tk} (h : TkR t) : RawF (F.one (leafL t nil3) .nil) ∧ noAlt (F.one (leafL t nil3) .nil) := by
 obtain ⟨h1, h2, h3, h11⟩ := h;have q := leafK_in t.kind;have k1 : leafK t.kind = 1 → t.kind = 1 := by omega
 have k2 : leafK t.kind = 2 → t.kind = 2 := by omega
 have k3 : leafK t.kind = 3 → t.kind = 3 := by omega
 have k7 : leafK t.kind = 7 → t.kind = 11 := by omega
 have k11 : leafK t.kind ≤ 11 := by omega
 refine ⟨⟨fun _ => rfl, fun c => ?_, fun c => ?_, fun _ => rfl, fun c => ?_, fun c => ?_, fun c => ?_, fun c => h11 (k7 c), trivial, trivial⟩, fun c => ?_, trivial⟩
 ·have : leafK t.kind = 12 := c;omega
 ·have : leafK t.kind = 15 := c;omega
 ·obtain ⟨⟨a, b, d, e, f⟩, g, i⟩ := h1 (k1 c);exact ⟨⟨a, b, rfl, d, e, f⟩, g, i⟩
 ·obtain ⟨⟨a, b, d, e, f⟩, g⟩ := h2 (k2 c);exact ⟨⟨a, b, rfl, d, e, f⟩, g⟩
 ·obtain ⟨⟨a, b, d, e, f⟩, g, i⟩ := h3 (k3 c);exact ⟨⟨a, b, rfl, d, e, f⟩, g, i⟩
 ·have : leafK t.kind = 13 := c;omega
theorem raw_zero : RawF zeroF ∧ noAlt zeroF := ⟨raw_lab 0 rfl (.inr rfl) trivial, no13 0 rfl (by decide)⟩
theorem raw_group (t : Tk) {look l : F} (h : RawF look) (n : noAlt look) (hl : RawF l) : RawF (jf t look l) ∧ noAlt (jf t look l) := by
 obtain ⟨a, b⟩ := raw_13 hl;unfold jf;split
 ·exact ⟨raw_lab 14 rfl (.inl (by decide)) a, no13 14 rfl (by decide)⟩
 split
 ·exact ⟨⟨fun _ => rfl, fun c => absurd (show (15 : Int) = 12 from c) (by decide), fun _ => b, fun c => absurd (show (15 : Int) = 1 ∨ (15 : Int) = 2 ∨ (15 : Int) = 3 ∨ (15 : Int) = 4 ∨ (15 : Int) = 7 from c) (by decide), fun c => absurd (show (15 : Int) = 1 from c) (by decide), fun c => absurd (show (15 : Int) = 2 from c) (by decide), fun c => absurd (show (15 : Int) = 3 from c) (by decide), fun c => absurd (show (15 : Int) = 7 from c) (by decide), a, trivial⟩, no13 15 rfl (by decide)⟩
 split
 ·exact ⟨raw_lab 17 rfl (.inl (by decide)) a, no13 17 rfl (by decide)⟩
 split
 ·exact ⟨raw_lab 18 rfl (.inl (by decide)) a, no13 18 rfl (by decide)⟩
 split
 ·exact ⟨raw_lab 16 rfl (.inl (by decide)) hl, no13 16 rfl (by decide)⟩
 ·exact ⟨raw_lab 19 rfl (.inl (by decide)) (raw_app h n hl), no13 19 rfl (by decide)⟩
def AccR : Md → Prop
 | .alt acc => RawF acc ∧ noAlt acc
 | .seq acc => RawF acc ∧ noAlt acc
 | .thing => True
theorem run_raw {L : List Tk} (hL : ∀ i, TkR (L.getD i zeroT)) : ∀ (n : Nat) (md : Md) (s : Ps), AccR md → RawF (run L n md s).1 ∧ noAlt (run L n md s).1
 | 0, _, _, _ => ⟨trivial, trivial⟩
 | n + 1, .alt acc, s, h => by
  have a := run_raw hL n (.seq .nil) s ⟨trivial, trivial⟩;have b : AccR (.alt (F.app acc (run L n (.seq .nil) s).1)) := ⟨raw_app h.1 h.2 a.1, noAlt_app h.2 a.2⟩;rw [run];simp only;split
  ·exact run_raw hL n _ _ b
  ·exact b
 | n + 1, .seq acc, s, h => by
  have a := run_raw hL n .thing s trivial;rw [run];split
  ·exact raw_12 h.1 h.2
  split
  ·exact raw_zero
  simp only;split
  ·exact run_raw hL n _ _ ⟨raw_app h.1 h.2 (raw_lab 20 rfl (.inl (by decide)) a.1), noAlt_app h.2 (no13 20 rfl (by decide))⟩
  ·exact run_raw hL n _ _ ⟨raw_app h.1 h.2 a.1, noAlt_app h.2 a.2⟩
 | n + 1, .thing, s, _ => by
  rw [run];simp only;split
  ·exact raw_leaf (hL _)
  split
  ·exact raw_zero
  obtain ⟨q, hq⟩ : ∃ q, (if (L.getD s.i zeroT).n = 13 ∧ kindS L { s with i := s.i + 1, op := s.op + 1 } = 10 then run L n .thing { s with i := s.i + 1, op := s.op + 1 } else (.nil, { s with i := s.i + 1, op := s.op + 1 })) = q := ⟨_, rfl⟩;have hq1 : RawF q.1 ∧ noAlt q.1 := by
   rw [← hq];split
   ·exact run_raw hL n .thing _ trivial
   ·exact ⟨trivial, trivial⟩
  rw [hq];split
  ·exact raw_zero
  ·exact raw_group _ hq1.1 hq1.2 (run_raw hL n (.alt .nil) _ ⟨trivial, trivial⟩).1
theorem parse_raw {L : List Tk} {n : Int} (hL : ∀ t ∈ L, TkR t) {q : F} (h : parseP L n = .ok q) : RawF q := by
 have hL : ∀ i, TkR (L.getD i zeroT) := fun i => by
  rw [List.getD];cases c : L[i]? with
  | none => exact ⟨fun h => absurd (show (0 : Int) = 1 from h) (by decide), fun h => absurd (show (0 : Int) = 2 from h) (by decide), fun h => absurd (show (0 : Int) = 3 from h) (by decide), fun h => absurd (show (0 : Int) = 11 from h) (by decide)⟩
  | some t => exact hL t (List.mem_of_getElem? c)
 unfold parseP at h;simp only at h;have e : oneF 13 (run L (3 * L.length + 3) (.alt .nil) { i := 0 }).1 = q := by
  generalize (if (run L (3 * L.length + 3) (.alt .nil) { i := 0 }).2.e = 0 ∧ (run L (3 * L.length + 3) (.alt .nil) { i := 0 }).2.i < L.length then failS (run L (3 * L.length + 3) (.alt .nil) { i := 0 }).2 31 (L.getD (run L (3 * L.length + 3) (.alt .nil) { i := 0 }).2.i zeroT).at_ else (run L (3 * L.length + 3) (.alt .nil) { i := 0 }).2) = z at h;by_cases c : z.e = 20
  ·rw [if_pos c] at h; cases h
  rw [if_neg c] at h;by_cases c : z.e ≠ 0
  ·rw [if_pos c] at h; cases h
  rw [if_neg c] at h;injection h
 rw [← e];exact (raw_13 (run_raw hL _ (.alt .nil) _ ⟨trivial, trivial⟩).1).1
end fgp
end
section
namespace fgp
open sq
open Go tkp trp setp rtp rpp
def GR (r : G) : Prop := ∀ t b, r = .ok (some t, b) → TkR t
theorem gr_err (e : Int × Int) : GR (.error e) := fun t b h => by cases h
theorem gr_none (b : Nat) : GR (.ok (none, b)) := fun t b h => by cases h
theorem gr_ite {c : Prop} [Decidable c] {a b : G} (h1 : GR a) (h2 : GR b) : GR (if c then a else b) := by
 split
 ·exact h1
 ·exact h2
theorem gr_tok {t : Tk} (h : TkR t) (f b : Nat) : GR (gtok t f b) := fun t' b' e => by
 unfold gtok at e;cases e;exact h
theorem tr0 {t : Tk} (h : 4 ≤ t.kind := by first | omega | (dsimp only; omega)) (h2 : t.kind ≠ 11 ∨ t.on = 0 := by first | exact .inr rfl | exact .inl (by dsimp only; omega)) : TkR t :=
 ⟨fun e => by omega, fun e => by omega, fun e => by omega, fun e => h2.elim (fun h => absurd e h) id⟩
theorem tr1 (c : Int) : TkR { kind := 1, c := c } :=
 ⟨fun _ => ⟨⟨rfl, rfl, rfl, rfl, rfl⟩, rfl, rfl⟩, fun e => absurd (show (1 : Int) = 2 from e) (by decide), fun e => absurd (show (1 : Int) = 3 from e) (by decide), fun e => absurd (show (1 : Int) = 11 from e) (by decide)⟩
theorem tr2 (l : List Rg) (neg : Bool) : TkR { kind := 2, set := l, neg := neg } :=
 ⟨fun e => absurd (show (2 : Int) = 1 from e) (by decide), fun _ => ⟨⟨rfl, rfl, rfl, rfl, rfl⟩, rfl⟩, fun e => absurd (show (2 : Int) = 3 from e) (by decide), fun e => absurd (show (2 : Int) = 11 from e) (by decide)⟩
theorem tr3 : TkR { kind := 3 } :=
 ⟨fun e => absurd (show (3 : Int) = 1 from e) (by decide), fun e => absurd (show (3 : Int) = 2 from e) (by decide), fun _ => ⟨⟨rfl, rfl, rfl, rfl, rfl⟩, rfl, rfl, rfl⟩, fun e => absurd (show (3 : Int) = 11 from e) (by decide)⟩
theorem quotes_k (p : Pt) (a : Nat) : (p.quotes a).1 = 11 ∨ (p.quotes a).1 = 12 := by
 unfold Pt.quotes
 repeat' split
 all_goals simp
theorem quan_gr (p : Pt) (i to_ : Nat) (n m : Int) : GR (quan p i to_ n m) := gr_tok tr0 _ _
theorem refR_gr (p : Pt) (f i : Nat) : GR (refR p f i) := by
 have hq := quotes_k p i;unfold refR;simp only
 repeat' (first | exact gr_err _ | exact gr_tok tr0 _ _ | refine gr_ite ?_ ?_ | split)
theorem backR_gr (p : Pt) (i to_ : Nat) : ∀ l, GR (backR p i to_ l)
 | [] => gr_err _
 | (o, z) :: l => by
  rw [backR]
  repeat' split
  all_goals first | exact backR_gr p i to_ l | exact gr_tok tr0 _ _
theorem escR_gr (p : Pt) (i : Nat) : GR (escR p i) := by
 unfold escR;simp only
 repeat' (first | exact gr_err _ | exact gr_none _ | exact gr_tok (tr2 _ _) _ _ | exact gr_tok (tr1 _) _ _ | exact gr_tok tr0 _ _ | exact refR_gr _ _ _ | exact backR_gr _ _ _ _ | refine gr_ite ?_ ?_ | split)
theorem clsR_gr (p : Pt) (f : Nat) : GR (clsR p f) := by
 unfold clsR;simp only;split
 ·exact gr_err _
 ·exact gr_tok (tr2 _ _) _ _
theorem shutR_gr (p : Pt) {t : Tk} (ht : TkR t) (f i : Nat) (s : List UInt8) (e : Int) : GR (shutR p t f i s e) := by
 unfold shutR
 repeat' split
 all_goals first | exact gr_err _ | exact gr_tok ht _ _
theorem callR_gr (p : Pt) {t : Tk} (ht : 4 ≤ t.kind) (h2 : t.on = 0) (f i : Nat) (s : List UInt8) : GR (callR p t f i s) := by
 unfold callR
 repeat' split
 all_goals first | exact gr_err _ | exact gr_tok (t := { t with name := p.sub i (p.name i).1 }) (tr0 ht (.inr h2)) _ _
theorem flagR_gr (p : Pt) (f : Nat) : ∀ (k i : Nat) (off : Bool) (on of_ : Int), GR (flagR p f k i off on of_)
 | 0, _, _, _, _ => gr_err _
 | k + 1, i, off, on, of_ => by
  rw [flagR]
  repeat' split
  all_goals first | exact gr_err _ | exact flagR_gr p f k _ _ _ _ | exact gr_tok tr0 _ _
theorem condE_gr (p : Pt) (f : Nat) {t : Tk} (ht : TkR t) (to_ : Nat) (ok : Bool) : GR (condE p f t to_ ok) := by
 unfold condE
 repeat' split
 all_goals first | exact gr_err _ | exact gr_tok ht _ _
theorem condR_gr (p : Pt) (f i : Nat) : GR (condR p f i) := by
 unfold condR condN
 repeat' (first | exact gr_err _ | exact condE_gr _ _ tr0 _ _ | exact gr_tok tr0 _ _ | refine gr_ite ?_ ?_ | split)
theorem verbG_gr (f i : Nat) (word arg : ByteArray) (wth : Bool) : GR (verbG f i word arg wth) := by
 unfold verbG;split
 ·exact gr_err _
 ·exact gr_tok tr0 _ _
theorem verbR_gr (p : Pt) (f : Nat) : GR (verbR p f) := by
 unfold verbR
 repeat' split
 all_goals first | exact gr_err _ | exact verbG_gr _ _ _ _ _
theorem kindR_gr (p : Pt) (f i : Nat) : ∀ (l : List (List UInt8 × Int)) (g : G), kindR p f i l = some g → GR g
 | [], g, h => by cases h
 | (s, k) :: l, g, h => by
  rw [kindR] at h;split at h
  ·cases h;exact gr_tok tr0 _ _
  ·exact kindR_gr p f i l g h
theorem numR_gr (p : Pt) (f i : Nat) : GR (numR p f i) := by
 have h1 := shutR_gr p (t := { kind := 12, n := (sgn p i).1, m := (sgn p i).2.1 }) tr0 f (sgn p i).2.2.1 [41] 26;unfold numR;simp only;split
 ·exact gr_err _
 split
 ·split
  ·exact gr_err _
  ·exact gr_err _
 split
 ·exact gr_err _
 ·rename_i r hr;split
  ·exact gr_err _
  ·rw [hr] at h1;exact h1
theorem openK_gr (p : Pt) (f i : Nat) : GR (openK p f i) := by
 unfold openK
 repeat' (first | exact gr_err _ | exact gr_none _ | exact condR_gr _ _ _ | exact numR_gr _ _ _ | exact flagR_gr _ _ _ _ _ _ _ | exact shutR_gr _ tr0 _ _ _ _ | exact callR_gr _ (by first | omega | (dsimp only; omega)) rfl _ _ _ | refine gr_ite ?_ ?_ | split)
theorem openR_gr (p : Pt) (f : Nat) : GR (openR p f) := by
 unfold openR;split
 ·exact verbR_gr _ _
 split
 ·exact gr_tok tr0 _ _
 split
 ·exact gr_err _
 split
 ·rename_i g hg;exact kindR_gr p f (f + 2) kindsT g hg
 ·exact openK_gr _ _ _
theorem tokR_gr (p : Pt) (i : Nat) : GR (tokR p i) := by
 unfold tokR;simp only
 repeat' (first | exact gr_err _ | exact gr_none _ | exact escR_gr _ _ | exact clsR_gr _ _ | exact openR_gr _ _ | exact quan_gr _ _ _ _ _ | exact gr_tok tr3 _ _ | exact gr_tok (tr1 _) _ _ | exact gr_tok tr0 _ _ | refine gr_ite ?_ ?_ | split)
theorem lexF_raw (p : Pt) : ∀ (k : Nat) (q : Bool) (T : List Tk) (i : Nat) (R : List Tk), (∀ t ∈ T, TkR t) → lexF p k q T i = .ok R → ∀ t ∈ R, TkR t
 | 0, _, T, i, R, h2, e => by rw [lexF] at e;cases e;exact h2
 | k + 1, q, T, i, R, h2, e => by
  rw [lexF] at e;have snoc : ∀ x : Tk, TkR x → ∀ t ∈ T ++ [x], TkR t := fun x hx t ht => by
   rcases List.mem_append.1 ht with ht | ht
   ·exact h2 t ht
   ·simp only [List.mem_cons, dM, or_false] at ht;subst ht;exact hx
  split at e
  ·cases e;exact h2
  split at e
  ·split at e
   ·exact lexF_raw p k _ _ _ _ h2 e
   ·exact lexF_raw p k _ _ _ _ (snoc (lay { kind := 1, c := (p.char i).1 } i (p.char i).2) (tr1 _)) e
  split at e
  ·exact lexF_raw p k _ _ _ _ h2 e
  split at e
  ·cases e
  ·exact lexF_raw p k _ _ _ _ h2 e
  ·rename_i t to_ ht;exact lexF_raw p k _ _ _ _ (snoc _ (tokR_gr p i t to_ ht)) e
theorem raw_of {g : Nat → Int} {n : Nat} {o m : Int} {L : List Tk} {q : F} (h : rlexP g n o = .ok L) (h2 : parseP L m = .ok q) : RawF q := by
 refine parse_raw ?_ h2;unfold rlexP at h;split at h
 ·cases h
 split at h
 ·cases h
 split at h
 ·cases h
 exact lexF_raw _ _ _ _ _ _ (fun t ht => by cases ht) h
end fgp
end
section
namespace fll
open sq
open Go Go.RowKit Go.Maps utfw tkp trp trw rpp rsp rtp setw fgp
open rtw (TkB Bd LexB rlex_any str_size Pat lexF_ok)
open rpw (sees jB TkIn LOk ParB rparse_any qh ql qp jm)
open rsw (lok_of tkIn_of qZ)
open tkw (sg)
theorem rlex_err8 {n : Nat} {g : Nat → Int} {o : Int} {x : Int × Int} (h : rlexP (sg (strOf n g)) n o = .error x) : x.1 ≠ 0 := rtw.rlex_e _ _ _ _ h
theorem parse_err8 {L : List Tk} {n : Int} {x : Int × Int} (h : parseP L n = .error x) : x.1 ≠ 0 := by
 unfold parseP at h;generalize run L (3 * L.length + 3) (.alt .nil) { i := 0 } = r at h;simp only at h;generalize (if r.2.e = 0 ∧ r.2.i < L.length then failS r.2 31 (L.getD r.2.i zeroT).at_ else r.2) = s at h;split at h
 ·cases h;simp
 ·split at h
  ·rename_i h1;cases h;exact h1
  ·cases h
theorem rlex_ok8 {n : Nat} {g : Nat → Int} {o : Int} {T : List Tk} (h : rlexP (sg (strOf n g)) n o = .ok T) : (∀ t ∈ T, TkB t ∧ t.at_ ≤ n) ∧ T.length ≤ n ∧ n ≤ 1000 := by
 unfold rlexP at h;split at h
 ·cases h
 ·split at h
  ·cases h
  ·rename_i hn;split at h
   ·cases h
   ·have hsz := str_size n g;have hP : Pat (strOf n g) { g := sg (strOf n g), n := n, u := o.toNat.testBit 5, x := o.toNat.testBit 3 } := ⟨rfl, hsz.symm, by rw [hsz]; omega⟩;have := lexF_ok hP (n + 1) false [] 0 T (fun t ht => by cases ht) (Nat.zero_le _) (Nat.zero_le _) h;exact ⟨this.1, this.2, by omega⟩
def rawP (g : Nat → Int) (n : Nat) (o : Int) : Option F := match rlexP g n o with
 | .error _ => none
 | .ok T => match parseP T n with
  | .error _ => none
  | .ok f => some f
def RawB (r : Option F) (w : World) (e : Ending) (w' : World) : Prop := Below w.heap.size w w' ∧ match r with
 | none => e = .returned (.tuple #[ndV (lab 0 0), .bool false])
 | some t => ∃ y j, e = .returned (.tuple #[ndV y, .bool true]) ∧ NdAt w' (y, j) ∧ strip (F.one y j) = t
theorem rawP_ok {n : Nat} {g : Nat → Int} {o : Int} {t : F} (h : rawP (sg (strOf n g)) n o = some t) : OkF t ∧ t.size ≤ 6003 ∧ RawF t ∧ ∃ x k, t = F.one x k := by
 unfold rawP at h;cases hl : rlexP (sg (strOf n g)) n o with
 | error x => rw [hl] at h; cases h
 | ok T =>
  rw [hl] at h;cases hp : parseP T n with
  | error x => simp only [hp] at h; cases h
  | ok f =>
   simp only [hp] at h;cases h;have a := rlex_ok8 hl;have b := zU (fun t ht => (a.1 t ht).1.s) hp;exact ⟨b.1, by omega, raw_of hl hp, b.2.2⟩
theorem raw_any (v : Value) (n : Nat) (g : Nat → Int) (o : Int) (w : World) (hv : Sl w v n g) : Calls Tryz.prog 9 #[v, .int .i64 o] w (RawB (rawP (sg (strOf n g)) n o) w) := by
 have HL := xH (rlex_any v n g o (w.alloc (.cells zC.toArray 27)) (utfw.below_sl (trw.qg w _) hv));have HB0 := xH (trw.qg w (.cells zC.toArray 27));have HRV := xH (heap_alloc_new w (.cells zC.toArray 27));have HZ := xH (World.size_alloc w (.cells zC.toArray 27));obtain ⟨a, cap, rfl⟩ : ∃ a c, v = .slice a n c := by
  obtain ⟨_, _, ⟨rfl, a, c, hv, _⟩ | ⟨b, off, cap, hv, _⟩⟩ := hv
  ·exact ⟨_, _, hv⟩
  ·exact ⟨_, _, hv⟩
 obtain ⟨R, hR⟩ : ∃ R, rawP (sg (strOf n g)) n o = R := ⟨_, rfl⟩;rw [hR];unfold rawP at hR;have HOKT := xH (fun T => rlex_ok8 (n := n) (g := g) (o := o) (T := T));have HR0 := xH hR;clear hR hv;unfold zC at HL HB0 HRV HZ;go_enter Tryz.func9, Tryz.ntmps9;go_upto_region 1 with (fail)
 generalize w.alloc _ = w0 at *;have H1 := xH (qp (t := (lab 0 0, F.nil)) (rpw.zero_at w0));go_wp2_with fail
 refine HL.out.mono ?_;obtain ⟨q, hq⟩ : ∃ q, rlexP (sg (strOf n g)) n o = q := ⟨_, rfl⟩;rw [hq] at HR0 ⊢;have HOK := xH (fun T (h : q = .ok T) => HOKT.out T (hq.trans h));have HERR := xH (fun x (h : q = .error x) => rlex_err8 (hq.trans h));clear hq HL HOKT;cases q with
 | error x =>
  rintro e w1 ⟨hb, rfl⟩;have HR := xH (show none = R from HR0.out);have b1 : (x.1 != 0) = true := by simpa using HERR.out x rfl
  have HB1 := xH (trw.qi HB0.out hb);have HRV1 := xH ((hb.block _ (by have := HZ.out; omega)).trans HRV.out);clear hb HR0;dsimp only;go_wp2_with (refine qh rfl rfl _ _ rfl w.heap.size rfl _ (lab 0 0) HRV1.out rfl H1.out rfl ?_)
  refine xB (qZ rfl _ _ w.heap.size (lab 0 0) rfl (setRow_heap _ _ _ _ _ _ HRV1.out)) rfl ?_;exact ⟨rpw.qC HB1.out _ (xL _), by rw [← HR.out]; rfl⟩
 | ok T =>
  rintro e w1 ⟨hb, v1, rfl, hrow⟩;have ht := HOK.out T rfl;have hl5 : T.length ≤ 50000 := by omega
  have htk := tkIn_of hrow (fun t h => (ht.1 t h).1.w) hl5;have HPA := xH (rparse_any (bl := w0.heap.size) v1 T (n : Int) w1 hb.size htk (lok_of ht.1 ht.2.2 ht.2.1));obtain ⟨a1, c1, rfl⟩ : ∃ a c, v1 = .slice a T.length c := by obtain ⟨a, c, h, _⟩ := htk;exact ⟨a, c, h⟩
  have HB1 := xH (trw.qi HB0.out hb);have HZZ := xH hb.size;have HRV1 := xH ((hb.block _ (by have := HZ.out; omega)).trans HRV.out);have HZ1 := xH (show w.heap.size + 1 ≤ w1.heap.size by have := HZ.out; have := hb.size; omega);clear hb hrow ht htk HOK HERR HB0 HRV;dsimp only;go_wp2_with fail
  refine HPA.out.mono ?_;obtain ⟨q, hq⟩ : ∃ q, parseP T (n : Int) = q := ⟨_, rfl⟩;have HR1 := xH (show (match parseP T (n : Int) with | .error _ => none | .ok f => some f) = R from HR0.out);have HPE := xH (fun x (h : q = .error x) => parse_err8 (hq.trans h));rw [hq] at HR1 ⊢;clear hq HPA HR0 hl5;cases q with
  | error x =>
   rintro e w2 ⟨hb, rfl⟩;have HR := xH (show none = R from HR1.out);have b1 : (x.1 == 0) = false := by simpa using HPE.out x rfl
   have HB2 := xH (trw.qi HB1.out hb);have HRV2 := xH ((hb.block _ (by have := HZ1.out; omega)).trans HRV1.out);have HZ2 := xH (show w.heap.size + 1 ≤ w2.heap.size by have := HZ1.out; have := hb.size; omega);have HG2 := xH (heap_alloc_new w2 (.cells zC.toArray 27));clear hb HR1 HPE;unfold zC at HG2;dsimp only;unfold ndV;go_upto_region 5 with (refine fkw.wpList_store_nw rfl rfl _ _ rfl w2.heap.size rfl _ (lab 0 0) HG2.out rfl H1.out rfl ?_; intro w3 h3; have HB3 := xH (show Below w2.heap.size w2 w3 from h3.out ▸ rpw.jU w2 _ _ _); have HG3 := xH (show w3.heap[w2.heap.size]? = some (.cells (ndC (lab 0 0)).toArray 27 (0, 0)) from h3.out ▸ setRow_heap _ _ _ _ _ _ HG2.out); clear h3)
   have HRV3 := xH ((HB3.out.block _ (by have := HZ2.out; omega)).trans HRV2.out);go_wp2_with (first
    | (refine ql rfl _ rfl w2.heap.size rfl (lab 0 0) HG3.out ?_)
    | (refine qh rfl rfl _ _ rfl w.heap.size rfl _ (lab 0 0) HRV3.out rfl H1.out rfl ?_))
   refine xB (qZ rfl _ _ w.heap.size (lab 0 0) rfl (setRow_heap _ _ _ _ _ _ HRV3.out)) rfl ?_;exact ⟨rpw.qC (trw.qi HB2.out HB3.out) _ (xL _), by rw [← HR.out]; rfl⟩
  | ok f =>
   have HR := xH (show some f = R from HR1.out);rintro e w2 ⟨hb, x2, k2, rfl, hn2, hs2⟩;have HB2 := xH (trw.qi HB1.out hb);have HRV2 := xH ((hb.block _ (by have := HZ1.out; omega)).trans HRV1.out);have HZ2 := xH (show w.heap.size + 1 ≤ w2.heap.size by have := HZ1.out; have := hb.size; omega);have HG2 := xH (heap_alloc_new w2 (.cells zC.toArray 27));have H2 := xH (qp hn2);have HN2 := xH hn2;have HS2 := xH hs2;clear hb HR1 HPE hs2 hn2;unfold zC at HG2;dsimp only;unfold ndV;go_upto_region 5 with (refine fkw.wpList_store_nw rfl rfl _ _ rfl w2.heap.size rfl _ x2 HG2.out rfl H2.out rfl ?_; intro w3 h3; have HB3 := xH (show Below w2.heap.size w2 w3 from h3.out ▸ rpw.jU w2 _ _ _); have HG3 := xH (show w3.heap[w2.heap.size]? = some (.cells (ndC x2).toArray 27 (0, 0)) from h3.out ▸ setRow_heap _ _ _ _ _ _ HG2.out); clear h3)
   have HRV3 := xH ((HB3.out.block _ (by have := HZ2.out; omega)).trans HRV2.out);have HN3 := xH (rsw.qV HB3.out HN2.out);go_wp2_with (first
    | (refine ql rfl _ rfl w2.heap.size rfl x2 HG3.out ?_)
    | (refine qh rfl rfl _ _ rfl w.heap.size rfl _ x2 HRV3.out rfl H2.out rfl ?_))
   refine xB (qZ rfl _ _ w.heap.size x2 rfl (setRow_heap _ _ _ _ _ _ HRV3.out)) rfl ?_;refine ⟨rpw.qC (trw.qi HB2.out HB3.out) _ (xL _), ?_⟩;rw [← HR.out];refine ⟨x2, k2, rfl, qY (fun a v hc => ?_) HN3.out, HS2.out⟩;have h1 := jB.1 hc;exact rpw.jI _ h1.2 (fun e => by have := h1.1;have := HZ.out;simp [e] at *;omega)
end fll
end
section
namespace fll
open sq
open Go Go.RowKit Go.Maps utfw tkp trp trw rpp rsp rtp setw fgp fkw
open rpw (sees jB qh ql qp jm)
open ucdw (Tab3)
open tkw (sg)
theorem okF_strip8 : ∀ {f : F}, OkF f ↔ OkF (strip f)
 | .nil => Iff.rfl
 | .cons x k r => by rw [strip];unfold OkF;rw [okF_strip8 (f := k), okF_strip8 (f := r), jm]
theorem size_strip8 : ∀ f : F, (strip f).size = f.size
 | .nil => rfl
 | .cons x k r => by rw [strip, F.size, F.size, size_strip8 k, size_strip8 r]
theorem both_strip8 (u : Bool) (m : Int) : ∀ (l : F) (f : Int), bothP u m (strip l) f = bothP u m l f
 | .nil, _ => rfl
 | .cons x k r, f => by
  have e : (fun g => bothP u m (strip k) g) = fun g => bothP u m k g := funext fun g => both_strip8 u m k g
  have e1 : (fun g => (bothP u m (strip k) g).1) = fun g => (bothP u m k g).1 := funext fun g => by rw [both_strip8 u m k g]
  have e2 : (fun g => (bothP u m (strip k) g).2) = fun g => (bothP u m k g).2 := funext fun g => by rw [both_strip8 u m k g]
  rw [strip, bothP, bothP, e1, e2];simp only [both_strip8 u m r];rfl
theorem answer_strip8 (x : Lab) (k : F) (o : Int) : answerP (bare x, strip k) o = answerP (x, k) o := by
 unfold answerP;have e1 : ∀ u m, (fun g => (bothP u m (strip k) g).1) = fun g => (bothP u m k g).1 := fun u m => funext fun g => by rw [both_strip8 u m k g]
 have e2 : ∀ u m, (fun g => (bothP u m (strip k) g).2) = fun g => (bothP u m k g).2 := fun u m => funext fun g => by rw [both_strip8 u m k g]
 simp only [e1, e2];rfl
def ansP (t : F) (o : Int) : F := match t with
 | .cons x k _ => answerP (x, k) o
 | .nil => .nil
theorem ans_strip (y : Lab) (j : F) (o : Int) : ansP (strip (F.one y j)) o = answerP (y, j) o := answer_strip8 y j o
theorem sees_none (w : World) {t : Nd} (h : NdAt (sees (fun _ => false) w) t) : NdAt w t := qY (fun _ _ hc => (jB.1 hc).2) h
theorem res8 {g : Nat → Int} {n : Nat} {o : Int} {t : F} (ht : rawP (sg (strOf n g)) n o = some t) {y : Lab} {j : F} (hs : strip (F.one y j) = t) (p : Int) (h : Nat → Bool) (w : World) (hold : rsw.Old h w.heap.size) (hn : NdAt w (y, j)) (hT : Tab3 w) : Calls Tryz.prog 10 #[ndV y, .int .i64 p] w (SelfB h (ansP t p) w) := by
 obtain ⟨h1, h2, -, -⟩ := rawP_ok ht;subst hs;rw [ans_strip];exact fresolve_any h y j p w hold hn (okF_strip8.2 h1) (by
  rw [size_strip8] at h2;simp only [F.one, F.size] at h2;omega) hT
theorem sl_lit8 (w : World) (t : TypeId) (fr : Nat × Nat) (l : List Int) (hl : ∀ x ∈ l, 0 ≤ x ∧ x ≤ 255) (hn : l.length ≤ 140737488355328) : Sl (w.alloc (.cells (l.map (Value.int .u8)).toArray t fr)) (.slice (some ⟨w.heap.size, 0, none⟩) l.length l.length) l.length (at_ l) := by
 refine ⟨fun i => ?_, hn, Or.inr ⟨w.heap.size, 0, l.length, rfl, ⟨xL _, by omega⟩, fun i hi => ?_⟩⟩
 ·unfold at_;by_cases hi : i < l.length
  ·have : l.getD i 0 ∈ l := by rw [show l.getD i 0 = l[i] by simp [List.getD, hi]];exact dI hi
   exact hl _ this
  ·rw [show l.getD i 0 = 0 by simp [List.getD, Nat.not_lt.1 hi]];omega
 ·rw [cell_of_row _ _ _ _ _ _ (heap_alloc_new w _)];simp [at_, List.getD, hi]
theorem raw_lit8 (w : World) (l : List Int) (hl : ∀ x ∈ l, 0 ≤ x ∧ x ≤ 255) (hn : l.length ≤ 140737488355328) (o : Int) : Calls Tryz.prog 9 #[.slice (some ⟨w.heap.size, 0, none⟩) l.length l.length, .int .i64 o] (w.alloc (.cells (l.map (Value.int .u8)).toArray 5 (l.length, l.length + 1)))
 fun e w' => ∃ R, rawP (sg (strOf l.length (at_ l))) l.length o = R ∧ RawB R w e w' := by
 refine (raw_any _ l.length (at_ l) o _ (sl_lit8 w 5 _ l hl hn)).mono ?_;intro e w' h;exact ⟨_, rfl, trw.qi (trw.qg w _) h.1, h.2⟩
def lA : List Int := [97, 40, 63, 105, 41, 98, 124, 99]
def lB : List Int := [40, 63, 85, 41, 97, 42, 63]
def ckA : F → Bool
 | .cons x (.cons _ (.cons p _ (.cons q _ .nil)) (.cons z _ .nil)) .nil => decide (x.kind = 13) && decide (p.set.length = 1) && decide (q.set.length = 2) && decide (z.set.length = 2)
 | _ => false
def ckB : F → Bool
 | .cons x _ .nil => decide (x.kind = 20) && decide (x.mode = 0)
 | _ => false
theorem awk_A8 : (match rawP (sg (strOf 8 (at_ lA))) 8 0 with | some t => ckA (ansP t 0) | none => false) = true := by decide +kernel
theorem awk_B8 : (match rawP (sg (strOf 7 (at_ lB))) 7 0 with | some t => ckB (ansP t 0) | none => false) = true := by decide +kernel
theorem awk_some8 {n : Nat} {l : List Int} {R : F → Bool} (h : (match rawP (sg (strOf n (at_ l))) n 0 with | some t => R t | none => false) = true) : ∃ t, rawP (sg (strOf n (at_ l))) n 0 = some t ∧ R t = true := by
 cases e : rawP (sg (strOf n (at_ l))) n 0 with
 | none => rw [e] at h; cases h
 | some t => rw [e] at h; exact ⟨t, rfl, h⟩
theorem ckA_mem {w : World} {y : Lab} {j : F} (hn : NdAt w (y, j)) (h : ckA (strip (F.one y j)) = true) : y.kind = 13 ∧ ∃ b o c b2 o2 c2 a3 c3 a4 c4 a5 c5, y.kv = .slice (some ⟨b, o, none⟩) 2 c ∧ w.cell? ⟨b, o + 11, none⟩ = some (.slice (some ⟨b2, o2, none⟩) 2 c2) ∧
 w.cell? ⟨b2, o2 + 3, none⟩ = some (.slice a3 1 c3) ∧ w.cell? ⟨b2, o2 + 12 + 3, none⟩ = some (.slice a4 2 c4) ∧ w.cell? ⟨b, o + 12 + 3, none⟩ = some (.slice a5 2 c5) := by
 match j, hn, h with
 | .cons y1 (.cons p kp (.cons q kq .nil)) (.cons z kz .nil), hn, h =>
  simp only [F.one, strip, ckA, dK, dF] at h;obtain ⟨⟨⟨h1, h2⟩, h3⟩, h4⟩ := h;obtain ⟨a, cap, e1, e2, e3, e4⟩ := hn.2.2;rcases e4 with e4 | ⟨b, o, rfl, hf⟩
  ·simp [F.len] at e4
  obtain ⟨g1, -, ⟨a2, c2, k1, k2, k3, k4⟩, hz, ⟨-, a5, c5, m1, -⟩, -⟩ := hf;rcases k4 with k4 | ⟨b2, o2, rfl, p1, ⟨-, a3, c3, m3, -⟩, -, q1, ⟨-, a4, c4, m4, -⟩, -⟩
  ·simp [F.len] at k4
  refine ⟨h1, b, o, cap, b2, o2, c2, a3, c3, a4, c4, a5, c5, e1, ?_, ?_, ?_, ?_⟩
  ·exact (g1 11 _ rfl).trans (congrArg some k1)
  ·rw [← h2, ← m3]; exact p1 3 _ rfl
  ·rw [← h3, ← m4]; exact q1 3 _ rfl
  ·rw [← h4, ← m1]; exact hz 3 _ rfl
 | .nil, _, h => cases h
 | .cons y1 .nil _, _, h => cases h
 | .cons y1 (.cons p kp .nil) _, _, h => cases h
 | .cons y1 (.cons p kp (.cons q kq (.cons _ _ _))) _, _, h => cases h
 | .cons y1 (.cons p kp (.cons q kq .nil)) .nil, _, h => cases h
 | .cons y1 (.cons p kp (.cons q kq .nil)) (.cons z kz (.cons _ _ _)), _, h => cases h
theorem kidsNd {w w' : World} {t : Nd} (h : NdAt w t) (hb : Below w.heap.size w w') : NdAt w' t := qY (fun _ _ hc => trw.qf hb hc) h
theorem ckB_of {y : Lab} {j : F} (h : ckB (strip (F.one y j)) = true) : y.kind = 20 ∧ y.mode = 0 := by simp only [F.one, strip, ckB, dK, dF] at h;exact h
theorem tab_below8 {w w' : World} (hT : Tab3 w) (hb : Below w.heap.size w w') : Tab3 w' := fun i hi => trw.qf hb (hT i hi)
theorem awake_any8 (w : World) (hT : Tab3 w) : Calls Tryz.prog 8 #[] w (trw.BoolB true w) := by
 obtain ⟨tA, hA, cA⟩ := awk_some8 (n := 8) (l := lA) (R := fun t => ckA (ansP t 0)) awk_A8;obtain ⟨tB, hB, cB⟩ := awk_some8 (n := 7) (l := lB) (R := fun t => ckB (ansP t 0)) awk_B8;have L1 := xH (raw_lit8 w lA (by decide) (by decide) 0);have L3 := xH (fun w => raw_lit8 w lB (by decide) (by decide) 0);have HT := xH hT;have HA := xH hA;have HB := xH hB;have CA := xH cA;have CB := xH cB;clear hT hA hB cA cB;unfold lA at L1;unfold lB at L3;have kc := fun (w : World) (C : Array Value) (n c : Nat) => Lib.run_convert_bytes_const (P := Tryz.prog) w 22 5 C n c Tryz.underlying22 Tryz.underlying5
 go_enter Tryz.func8, Tryz.ntmps8;go_wp2_with fail
 refine L1.out.mono ?_;rintro e w1 ⟨R, hR, hb, h⟩;obtain rfl : some tA = R := HA.out.symm.trans hR;obtain ⟨y, j, rfl, hn, hs⟩ := h;have HB1 := xH hb;have HN := xH hn;have HS := xH hs;have HO := xH (qp hn);have HG := xH (heap_alloc_new w1 (.cells zC.toArray 27));unfold zC at HG;clear hb hn hs hR L1;dsimp only;go_upto_region 2 with (refine wpList_store_nw rfl rfl _ _ rfl w1.heap.size rfl _ y HG.out rfl HO.out rfl ?_; intro w2 h2; have HB2 := xH (show Below w1.heap.size w1 w2 from h2.out ▸ rpw.jU w1 _ _ _); have HG2 := xH (show w2.heap[w1.heap.size]? = some (.cells (ndC y).toArray 27 (0, 0)) from h2.out ▸ setRow_heap _ _ _ _ _ _ HG.out); clear h2)
 have HB02 := xH (trw.qi HB1.out HB2.out);have HR2 := xH (res8 HA.out HS.out 0 (fun _ => false) w2 (fun i hi => by cases hi) (kidsNd HN.out HB2.out) (tab_below8 HT.out HB02.out));go_wp2_with (refine ql rfl _ rfl w1.heap.size rfl y HG2.out ?_)
 refine HR2.out.mono ?_;rintro e w3 ⟨z, q, rfl, hn, hs, hb⟩;have HA3 := xH (show z.kind = 13 ∧ _ from ckA_mem (sees_none _ hn) (by rw [hs]; exact CA.out));have HB3 := xH (trw.qi HB02.out hb);have HO3 := xH (qp hn);have HG3 := xH (heap_alloc_new w3 (.cells zC.toArray 27));unfold zC at HG3;clear hn hs hb HG2 HG HO HR2 HN HS;dsimp only;go_upto_region 3 with (refine wpList_store_nw rfl rfl _ _ rfl w3.heap.size rfl _ z HG3.out rfl HO3.out rfl ?_; intro w4 h4; have HB4 := xH (show Below w3.heap.size w3 w4 from h4.out ▸ rpw.jU w3 _ _ _); have HG4 := xH (show w4.heap[w3.heap.size]? = some (.cells (ndC z).toArray 27 (0, 0)) from h4.out ▸ setRow_heap _ _ _ _ _ _ HG3.out); clear h4)
 have HB04 := xH (trw.qi HB3.out HB4.out);have L4 := xH (L3.out w4);go_wp2_with fail
 refine L4.out.mono ?_;rintro e w5 ⟨R, hR, hb, h⟩;obtain rfl : some tB = R := HB.out.symm.trans hR;obtain ⟨y', j', rfl, hn, hs⟩ := h;have HB5 := xH (trw.qi HB4.out hb);have HG5' := xH (trw.qi HB04.out hb);have HGR5 := xH hb;have HN := xH hn;have HS := xH hs;have HO := xH (qp hn);have HG := xH (heap_alloc_new w5 (.cells zC.toArray 27));unfold zC at HG;clear hb hn hs hR L3 L4 HG3 HO3;dsimp only;go_upto_region 4 with (refine wpList_store_nw rfl rfl _ _ rfl w5.heap.size rfl _ y' HG.out rfl HO.out rfl ?_; intro w6 h6; have HB6 := xH (show Below w5.heap.size w5 w6 from h6.out ▸ rpw.jU w5 _ _ _); have HG6 := xH (show w6.heap[w5.heap.size]? = some (.cells (ndC y').toArray 27 (0, 0)) from h6.out ▸ setRow_heap _ _ _ _ _ _ HG.out); clear h6)
 have HR6 := xH (res8 HB.out HS.out 0 (fun _ => false) w6 (fun i hi => by cases hi) (kidsNd HN.out HB6.out) (tab_below8 HT.out (trw.qi HG5'.out HB6.out)));go_wp2_with (refine ql rfl _ rfl w5.heap.size rfl y' HG6.out ?_)
 refine HR6.out.mono ?_;rintro e w7 ⟨z', q', rfl, hn, hs, hb⟩;have HC7 := xH (ckB_of (y := z') (j := q') (by rw [hs]; exact CB.out));have HB47 := xH (trw.qi (trw.qi HGR5.out HB6.out) hb);have HB37 := xH (trw.qi HB4.out HB47.out);have HB07 := xH (trw.qi HB3.out HB37.out);have HO7 := xH (qp hn);have HG7 := xH (heap_alloc_new w7 (.cells zC.toArray 27));unfold zC at HG7;clear hn hs hb HG6 HG HO HR6 HN HS HB6 HG5' HB5 HGR5;dsimp only;go_upto_region 5 with (refine wpList_store_nw rfl rfl _ _ rfl w7.heap.size rfl _ z' HG7.out rfl HO7.out rfl ?_; intro w8 h8; have HB8 := xH (show Below w7.heap.size w7 w8 from h8.out ▸ rpw.jU w7 _ _ _); have HG8 := xH (show w8.heap[w7.heap.size]? = some (.cells (ndC z').toArray 27 (0, 0)) from h8.out ▸ setRow_heap _ _ _ _ _ _ HG7.out); clear h8)
 obtain ⟨k13, b, o, c, b2, o2, c2, a3, c3, a4, c4, a5, c5, e1, m1, m2, m3, m4⟩ := HA3.out;obtain ⟨k20, k0⟩ := HC7.out;have H48 := trw.qi HB47.out HB8.out;have H38 := trw.qi HB37.out HB8.out;have HG48 := (H48.block _ (Array.getElem?_eq_some_iff.1 HG4.out).1).trans HG4.out;have n0 : w8.cell? ⟨w3.heap.size, 0, none⟩ = some (.int .i64 13) := by unfold World.cell?; rw [HG48, ← k13]; rfl
 have n11 : w8.cell? ⟨w3.heap.size, 11, none⟩ = some (.slice (some ⟨b, o, none⟩) 2 c) := by unfold World.cell?; rw [HG48, ← e1]; rfl
 have r0 : w8.cell? ⟨w7.heap.size, 0, none⟩ = some (.int .i64 20) := by unfold World.cell?; rw [HG8.out, ← k20]; rfl
 have r7 : w8.cell? ⟨w7.heap.size, 7, none⟩ = some (.int .i64 0) := by unfold World.cell?; rw [HG8.out]; exact congrArg (fun v => some (Value.int .i64 v)) k0
 have d1 := trw.qf H38 m1;have d2 := trw.qf H38 m2;have d3 := trw.qf H38 m3;have d4 := trw.qf H38 m4;have HB08 := xH (trw.qi HB07.out HB8.out);have a0 : ∀ (b o : Nat), (⟨b, o, none⟩ : Addr).add (0 * 12) = ⟨b, o, none⟩ := fun b o => by unfold Addr.add; split <;> simp_all
 have a1 : ∀ (b o : Nat), (⟨b, o, none⟩ : Addr).add (1 * 12) = ⟨b, o + 12, none⟩ := fun b o => by unfold Addr.add; split <;> simp_all
 clear k13 e1 m1 m2 m3 m4 k20 k0 H48 H38 HG48 HA3 HC7 HG8 HG7 HG4 HB8 HB07 HB37 HB47 HB4 HB3 HB04 HO7 HB02 HB1 HB2;generalize w3.heap.size = V3 at *;generalize w7.heap.size = V7 at *;go_wp2_with fail
 go_ret
 exact ⟨rfl, HB08.out⟩
end fll
end
end Go.Proofs.YtikjhfmmfpeaoaaGreatDoor
