/- T -/
import Derived.Carry
import Derived.Deep.DeepHandedRow
import Derived.Lib.LaidTab
import Derived.SizedLaws
import Derived.Stop.LaidErr
import Derived.Test.YtdgfclbajjjcgaaBRs28
set_option maxHeartbeats 16000000
set_option maxRecDepth 1000000
namespace Go.Proofs.Ytdgfclbajjjcgaa
section
namespace rdw
open sq
open Go.Sort Go Go.RowKit Go.Maps setp setw tkp trp trw rpp rsp gpp sq
open gqw (NmI9 nm_blw9 nd129 wpList_store_ny)
open rfp (NmOk fst2)
open rfw (results_rs)
open rpw (sees jB qp qh ql qI)
open rsw (sees_to)
def RDocB (D : F × Int × Option Int) (w : World) (e : Ending) (w' : World) : Prop :=
 Below w.heap.size w w' ∧ ((∃ p, D.2.2 = some p ∧ e = .returned (.tuple #[ndV (lab 0 0), .int .i64 34, .int .i64 p])) ∨
  (D.2.2 = none ∧ ∃ y j, e = .returned (.tuple #[ndV y, .int .i64 0, .int .i64 0]) ∧ NdAt w' (y, j) ∧ strip (F.one y j) = D.1))
theorem rdoc_any (w : World) (x : Lab) (k : F) (cnt : Int) (v : Value) (l : Nm) (hn : NdAt w (x, k)) (ha : AllD (F.one x k)) (hz : k.size ≤ 100000) (hnm : NmI9 w v l) (hok : NmOk cnt l) (hcn : cnt ≤ 1000000) : Calls Try.prog 22 #[ndV x, .int .i64 cnt, v] w (RDocB (docN cnt l x k 0) w) := by
 have e1 := World.size_alloc w (.cells (ndC x).toArray 27);have HP := xH (show ((w.alloc (.cells (ndC x).toArray 27)).alloc (.cells zC.toArray 27)).heap[w.heap.size]? = some (.cells (ndC x).toArray 27 (0, 0)) from (heap_alloc_old _ _ (by rw [e1]; omega)).trans (heap_alloc_new _ _));have HQ := xH (show ((w.alloc (.cells (ndC x).toArray 27)).alloc (.cells zC.toArray 27)).heap[w.heap.size + 1]? = some (.cells zC.toArray 27 (0, 0)) from e1 ▸ heap_alloc_new (w.alloc (.cells (ndC x).toArray 27)) (.cells zC.toArray 27));have HB := xH (trw.qi (trw.qg w (.cells (ndC x).toArray 27)) (trw.qg _ (.cells zC.toArray 27)));have HZ2 := xH (show ((w.alloc (.cells (ndC x).toArray 27)).alloc (.cells zC.toArray 27)).heap.size = w.heap.size + 2 by rw [World.size_alloc, e1]);have HNM := xH (nm_blw9 hnm HB.out);have HN := xH hn;obtain ⟨na, nc, hnv, _⟩ := id hnm;subst hnv;obtain ⟨D, hD⟩ : ∃ D, docN cnt l x k 0 = D := ⟨_, rfl⟩;rw [hD];have HD := xH hD;clear hn hnm e1 hD;unfold ndC zC at HP HQ HB HZ2 HNM;unfold ndV;go_enter Try.func22, Try.ntmps22;go_upto_region 1 with (fail)
 generalize (w.alloc _).alloc _ = w1 at *;have HP : Hid (w1.heap[w.heap.size]? = some (.cells (ndC x).toArray 27 (0, 0))) := HP;obtain ⟨G, hG⟩ : ∃ G, w1.heap.size = G := ⟨_, rfl⟩;have HO := xH (hG ▸ heap_alloc_new w1 (.cells #[.int .i64 cnt, .slice na l.length nc, .int .i64 0, .int .i64 0] 75));have HBA := xH (trw.qg w1 (.cells #[.int .i64 cnt, .slice na l.length nc, .int .i64 0, .int .i64 0] 75));have HZA := xH (World.size_alloc w1 (.cells #[.int .i64 cnt, .slice na l.length nc, .int .i64 0, .int .i64 0] 75));go_upto_region 2 with (fail)
 generalize w1.alloc _ = w2 at *;rw [hG] at HZA;try simp only [hG]
 have HDS := xH (show DS w1 G cnt (.slice na l.length nc) none w2 from ⟨HBA.out, HO.out, by omega⟩);have HGE := xH (show G = w.heap.size + 2 by have := HZ2.out; omega);have HB2 := xH (trw.qi HB.out HBA.out);obtain ⟨h, hh⟩ : ∃ h : Nat → Bool, (fun b => decide (w.heap.size ≤ b ∧ b ≤ G)) = h := ⟨_, rfl⟩;have HH := xH (show ∀ b, h b = decide (w.heap.size ≤ b ∧ b ≤ G) from fun b => by rw [← hh]);have HCL := xH (node_any HNM.out hok hcn (k.size + 1) k (Nat.lt_succ_self _) x 0 w2 h none
  (fun i hi => by rw [HH.out] at hi; have := of_decide_eq_true hi; have := HZA.out; omega)
  (by rw [HH.out]; exact decide_eq_true (by have := HGE.out; omega))
  (qY (fun a u hc => jB.2 ⟨by rw [HH.out]; exact decide_eq_false (by have := cell_lt hc; omega), trw.qf HB2.out hc⟩) HN.out)
  HDS.out ha hz (by unfold rfw.Cb; omega))
 have HP2 := xH ((HBA.out.block w.heap.size (by have := HZ2.out; omega)).trans HP.out);have HQ2 := xH ((HBA.out.block (w.heap.size + 1) (by have := HZ2.out; omega)).trans HQ.out);rw [HD.out] at HCL;clear hh HP HQ HO HBA HDS HN HD ha hz hok hcn;go_wp2_with (first
  | (refine ql rfl _ rfl w.heap.size rfl x HP2.out ?_)
  | (refine HCL.out.mono ?_))
 rintro e w3 ⟨hc3, hd3, y, j, rfl, hn3, hst3⟩;have HC3 := xH hc3;have HD3 := xH hd3;have HS3 := xH hst3;have HN3 := xH hn3;have HQ3 := xH ((hc3.block (w.heap.size + 1) (by have := HZA.out; have := HGE.out; omega) (by have := HGE.out; omega) (Or.inr (Nat.zero_le _))).trans HQ2.out);have HY := xH (qp hn3);have HG3 := xH (heap_alloc_new w3 (.cells zC.toArray 27));have HST := xH (show ∀ w4, w4 = (w3.alloc (.cells zC.toArray 27)).setRow w3.heap.size (ndC y).toArray → Below w3.heap.size w3 w4 ∧ w4.heap[w3.heap.size]? = some (.cells (ndC y).toArray 27 (0, 0)) from fun w4 h4 => by subst h4;exact ⟨rpw.jU w3 _ _ _, setRow_heap _ _ _ _ _ _ (heap_alloc_new w3 _)⟩)
 have HSZ := xH (show w.heap.size + 3 ≤ w3.heap.size by have := hc3.size; have := HZA.out; have := HGE.out; omega);unfold zC at HG3 HST;clear hc3 hd3 hst3 hn3 HP2 HQ2 HCL;dsimp only;go_upto_region 3 with (refine wpList_store_ny rfl rfl _ _ rfl w3.heap.size rfl _ y HG3.out rfl HY.out rfl ?_; intro w4 h4; obtain ⟨hb4, hg4⟩ := HST.out w4 h4.out; have HB34 := xH hb4; have HG4 := xH hg4; clear h4 hb4 hg4)
 have HD4 := xH (HD3.out.keep HB34.out);have HQ4 := xH ((HB34.out.block (w.heap.size + 1) (by have := HSZ.out; omega)).trans HQ3.out);have HN4 := xH (rsw.qV HB34.out HN3.out);have HBW := xH (show Below w.heap.size w w4 from HB.out.trans (HD4.out.be.mono HB.out.size));obtain ⟨c0, c1, c2, c3, _, _⟩ := HD4.out.c;generalize w3.heap.size = B at *;clear HG3 HST HQ3 HN3 HD3 HC3 HB34;cases hE : D.2.2 with
 | none =>
  have HE := xH hE;rw [hE] at c2 c3;have c2 : w4.cell? ⟨G, 2, none⟩ = some (.int .i64 0) := c2;go_wp2_with (first
   | (refine ql rfl _ rfl B rfl y HG4.out ?_)
   | (refine qh rfl rfl _ _ rfl (w.heap.size + 1) rfl _ y HQ4.out rfl HY.out rfl ?_))
  refine xB (results_rs rfl _ _ (w.heap.size + 1) y rfl (setRow_heap _ _ _ _ _ _ HQ4.out)) rfl ?_;exact ⟨rpw.qC HBW.out _ (by omega), .inr ⟨HE.out, y, j, rfl, qY (fun a u hc => rpw.jI _ (sees_to hc) (fun e => by have h1 := (jB.1 hc).1;rw [HH.out, e] at h1;have := of_decide_eq_false h1;have := HGE.out;omega)) HN4.out, HS3.out⟩⟩
 | some p =>
  have HE := xH hE;rw [hE] at c2 c3;have c2 : w4.cell? ⟨G, 2, none⟩ = some (.int .i64 34) := c2;have c3 : w4.cell? ⟨G, 3, none⟩ = some (.int .i64 p) := c3;go_upto_region 4 with (fail)
  refine wp_region_held_drew (S := fun w' => w'.heap[G]? = w4.heap[G]?) (by kernel_rfl) rfl (fun hHeld => ?_);refine yT 0 ?_;simp only [xS];refine yT 1 ?_;simp only [xS];refine yT 2 ?_;simp only [xS];refine yT 3 ?_;simp only [xS];refine yF 4 (fun w' hS => (World.cell?_of_block (a := ⟨G, 2, none⟩) hS).trans c2) ?_;simp only [xS];refine yT 5 ?_;simp only [xS];refine yT 6 ?_;simp only [xS];refine yT 7 ?_;simp only [xS];refine yF 8 (fun w' hS => (World.cell?_of_block (a := ⟨G, 3, none⟩) hS).trans c3) ?_;simp only [xS];refine xD 9 rfl (fun K hK => ?_);refine qI rfl rfl _ _ rfl (w.heap.size + 1) rfl _ (lab 0 0) HQ4.out rfl (qp (t := (lab 0 0, F.nil)) (rpw.zero_at w)) rfl ?_;have HSR := xH (show (w4.drew.setRow (w.heap.size + 1) (ndC (lab 0 0)).toArray).heap[G]? = w4.heap[G]? from tkw.setRow_other _ _ _ _ (by have := HGE.out; omega));refine hK.out _ _ HSR.out (fun hHeld => ?_);clear hK K;try simp only [xS]
  refine yT 10 ?_;simp only [xS];refine yT 11 ?_;simp only [xS];refine wpAnyH_done (by kernel_rfl) ?_ _;go_wp2_with fail
  refine xB (results_rs rfl _ _ (w.heap.size + 1) (lab 0 0) rfl (setRow_heap _ _ _ _ _ _ HQ4.out)) rfl ?_;exact ⟨rpw.qC (qi HBW.out (Below.refl _ _).drew) _ (by omega), .inl ⟨p, HE.out, rfl⟩⟩
end rdw
end
section
namespace rfl10
open sq
open Go Go.RowKit Go.Maps utfw tkp trp trw rpp rsp rtp setw gpp rfp rfw sq
open rpw (qp ql)
open gqw (wpList_store_ny NmI9 nm_blw9 nd129 st9 same9)
open rsw (flatP)
open tkw (sg)
open rdw (eN docN docF_cons fst2_none AllD RDocB rdoc_any)
theorem flat_lfF {e : Nat → Int} {n : Nat} {o : Int} {t : F} (h : flatP e n o = some t) : LfF t := by
 unfold flatP at h;split at h
 ·cases h
 ·split at h
  ·cases h
  ·rename_i f hf;have hI := parse_lfF hf;split at h
   ·cases h
   ·cases h;exact resP_lfF _ _ ⟨hI.1, hI.2.1, trivial⟩
theorem strip_none : ∀ {f : F}, strip f = .nil → f = .nil
 | .nil, _ => rfl
 | .cons _ _ _, h => by cases h
theorem allD_of : ∀ {f : F}, AllV f → LfF (strip f) → AllD f
 | .nil, _, _ => trivial
 | .cons _ _ _, ⟨a, b, c⟩, ⟨d, e, g⟩ => ⟨a, fun q => strip_none (d q), allD_of b e, allD_of c g⟩
def ansX (E : Option Int) (f : F) : F := match E with
 | none => f
 | some _ => F.one (lab 0 0) .nil
def AnsB (X : F) (E : Option Int) (w : World) (e : Ending) (w' : World) : Prop := Below w.heap.size w w' ∧ ∃ y j, e = .returned (.tuple #[ndV y, .int .i64 (eN E), .int .i64 (E.getD 0)]) ∧ NdAt w' (y, j) ∧ strip (F.one y j) = X
theorem ans_res {N : Option Int × (Lab × F) × Int} {w w' : World} {e : Ending} (h : ResRB N w e w') : AnsB (ansX N.1 (F.one N.2.1.1 N.2.1.2)) N.1 w e w' := by
 obtain ⟨hb, ⟨p, hp, rfl⟩ | ⟨hp, y, j, rfl, hn, hs⟩⟩ := h
 ·rw [hp];exact ⟨hb, lab 0 0, .nil, rfl, rpw.zero_at w', rfl⟩
 ·rw [hp];exact ⟨hb, y, j, rfl, gpw.ndI_at hn, hs⟩
theorem ans_doc {D : F × Int × Option Int} {w w' : World} {e : Ending} (h : RDocB D w e w') : AnsB (ansX D.2.2 D.1) D.2.2 w e w' := by
 obtain ⟨hb, ⟨p, hp, rfl⟩ | ⟨hp, y, j, rfl, hn, hs⟩⟩ := h
 ·rw [hp];exact ⟨hb, lab 0 0, .nil, rfl, rpw.zero_at w', rfl⟩
 ·rw [hp];exact ⟨hb, y, j, rfl, hn, hs⟩
theorem res_doc {t : F} {y : Lab} {j : F} {l : Nm} {n : Nat} (hi : AllI n (refF false 0 t 0).1) (hs : strip (F.one y j) = (refF false 0 t 0).1) (hl : (nameR [] (capL (refF false 0 t 0).1)).2 = l) :
 NmOk (refF false 0 t 0).2 l ∧ (visN (refF false 0 t 0).2 l (bare y) (strip j) 0).1 = (docN (refF false 0 t 0).2 l y j 0).2.2 ∧
 ((docN (refF false 0 t 0).2 l y j 0).2.2 = none → F.one (visN (refF false 0 t 0).2 l (bare y) (strip j) 0).2.1.1 (visN (refF false 0 t 0).2 l (bare y) (strip j) 0).2.1.2 = (docN (refF false 0 t 0).2 l y j 0).1) := by
 have e := ref_again t false 0 0;rw [← hs] at e hi;have hT : strip (F.one y j) = .cons (bare y) (strip j) .nil := rfl;rw [hT] at e hi;have hn := nm_ok (bare y) (strip j);rw [e, hl] at hn;generalize hc : (refF false 0 t 0).2 = c at *;have hr := refs_doc hn (bare y) (strip j) (allI_ok hi) (by rw [e, ← hs, hT]);have hd := docF_cons c l false 0 y j .nil 0;rw [show strip (.cons y j .nil) = .cons (bare y) (strip j) .nil from rfl] at hd;simp only [Bool.false_eq_true, if_false] at hd;rw [(visF_one c l (bare y) (strip j) 0).1, (visF_one c l (bare y) (strip j) 0).2, hd] at hr;simp only [strip, docF, fst2_none, app_nil] at hr;exact ⟨hn, hr⟩
theorem says_law10 (v : Value) (n : Nat) (g : Nat → Int) (o : Int) (w : World) (hv : Sl w v n g) : Calls Try.prog 4 #[v, .int .i64 o] w (trw.BoolB true w) := by
 have HFL := xH (fun w1 (hb : Below w.heap.size w w1) => numd_any v n g o w1 (utfw.below_sl hb hv));obtain ⟨va, vc, rfl⟩ : ∃ a c, v = .slice a n c := by exact z142
 clear hv;go_enter Try.func4, Try.ntmps4;go_wp2_with fail
 refine (awake_any10 w).mono ?_;rintro e w1 ⟨rfl, hb1⟩;have HB1 := xH hb1;clear hb1;go_wp2_with fail
 refine (HFL.out w1 HB1.out).mono ?_;obtain ⟨R, hR⟩ : ∃ R, flatP (sg (strOf n g)) n o = R := ⟨_, rfl⟩;rw [hR];have fin0 : ∀ (e : Ending) (w2 : World), Below w1.heap.size w1 w2 → e = .returned (.tuple #[ndV (lab 0 0), .int .i64 0, nil3, .bool false]) → Hid (Below w.heap.size w w2) := fun e w2 hb _ => xH (trw.qi HB1.out hb)
 cases R with
 | none =>
  rintro e w2 ⟨hb2, rfl⟩;have HB2 := xH (trw.qi HB1.out hb2);have HG := xH (heap_alloc_new w2 (.cells zC.toArray 27));have HO := xH (qp (t := (lab 0 0, F.nil)) (rpw.zero_at w2));unfold zC at HG;clear hb2 hR HFL fin0;exact z44
 | some t =>
  have HNT := xH (nt_of hR);have HLF := xH (refF_lfF t false 0 0 (flat_lfF hR));clear fin0;rintro e w2 ⟨hb2, ⟨c0, rfl⟩ | ⟨c0, y, j, v2, rfl, hn, hs, hm⟩⟩
  ·have HB2 := xH (trw.qi HB1.out hb2);have HG := xH (heap_alloc_new w2 (.cells zC.toArray 27));have HO := xH (qp (t := (lab 0 0, F.nil)) (rpw.zero_at w2));unfold zC at HG;clear hb2 hR HFL c0;exact z44
  ·have HB2 := xH (trw.qi HB1.out hb2);have HND := xH hn;have HO := xH (qp hn);have HG := xH (heap_alloc_new w2 (.cells zC.toArray 27));obtain ⟨l, hl⟩ : ∃ l, (nameR [] (capL (refF false 0 t 0).1)).2 = l := ⟨_, rfl⟩;rw [hl] at hm;obtain ⟨na, nc, hnv, _⟩ := id hm;subst hnv;have HNV := xH hm;obtain ⟨hok, h1, h2⟩ := res_doc HNT.out.i hs hl;obtain ⟨N, hN⟩ : ∃ N, visN (refF false 0 t 0).2 l (bare y) (strip j) 0 = N := ⟨_, rfl⟩;obtain ⟨D, hD⟩ : ∃ D, docN (refF false 0 t 0).2 l y j 0 = D := ⟨_, rfl⟩;rw [hN, hD] at h1 h2;have hX : ansX D.2.2 D.1 = ansX N.1 (F.one N.2.1.1 N.2.1.2) := by
    rw [h1];cases hE : D.2.2 with
    | none => exact (h2 hE).symm
    | some p => rfl
   have hAD : AllD (F.one y j) := allD_of (allV_strip.1 (hs ▸ HNT.out.v)) (hs ▸ HLF.out);have hsz : j.size ≤ 100000 := by have h3 := HNT.out.z;rw [← hs, rsp.strip_size] at h3;simp only [F.one, F.size] at h3;omega
   obtain ⟨X, hXX⟩ : ∃ X, ansX N.1 (F.one N.2.1.1 N.2.1.2) = X := ⟨_, rfl⟩;obtain ⟨E, hE⟩ : ∃ E, N.1 = E := ⟨_, rfl⟩;have HP := xH (fun w3 (hn3 : NdAt w3 (y, j)) (hv3 : NmI9 w3 (.slice na l.length nc) l) => show Calls Try.prog 21 #[ndV y, .int .i64 (refF false 0 t 0).2, .slice na l.length nc] w3 (AnsB X E w3) from (res_num HNT.out hs (l := l) w3 hn3 hv3).mono fun e w4 h => by rw [hN] at h;have := ans_res h;rw [hXX, hE] at this;exact this)
   have HQ := xH (fun w3 (hn3 : NdAt w3 (y, j)) (hv3 : NmI9 w3 (.slice na l.length nc) l) => show Calls Try.prog 22 #[ndV y, .int .i64 (refF false 0 t 0).2, .slice na l.length nc] w3 (AnsB X E w3) from (rdoc_any w3 y j _ _ l hn3 hAD hsz hv3 hok HNT.out.k.2).mono fun e w4 h => by rw [hD] at h;have := ans_doc h;rw [hX, ← h1, hXX, hE] at this;exact this)
   unfold zC at HG;clear hb2 hR HFL c0 hn hs hm hl hN hD HB1 HNT HLF hok h1 h2 hX hAD hsz hXX hE;generalize (refF false 0 t 0).2 = c at *;try dsimp only
   unfold ndV;go_upto_region 5 with (refine wpList_store_ny rfl rfl _ _ rfl w2.heap.size rfl _ y HG.out rfl HO.out rfl ?_; intro w3 h3; have HS3 := xH (st9 h3.out); clear h3)
   have HB3 := xH (trw.qi HB2.out HS3.out.1);have HN3 := xH (trw.vO HS3.out.1 HND.out);have HM3 := xH (nm_blw9 HNV.out HS3.out.1);have HG3 := xH HS3.out.2;generalize w2.heap.size = A0 at *;clear HS3 HG HND HNV HB2;have HC3 := xH (HP.out w3 HN3.out HM3.out);go_wp2_with (first
    | (refine ql rfl _ rfl A0 rfl y HG3.out ?_)
    | (refine HC3.out.mono ?_))
   rintro e w4 ⟨hb4, y1, j1, rfl, hn1, hs1⟩;have HB4 := xH (trw.qi HB3.out hb4);have HN4 := xH (trw.vO hb4 HN3.out);have HM4 := xH (nm_blw9 HM3.out hb4);have HG4 := xH ((hb4.block A0 (Array.getElem?_eq_some_iff.1 HG3.out).1).trans HG3.out);have HA4 := xH hn1;have HS1 := xH hs1;have HO1 := xH (qp hn1);have HGA := xH (heap_alloc_new w4 (.cells zC.toArray 27));unfold zC at HGA;clear hb4 hn1 hs1 HC3 HP HG3 HN3 HM3 HB3;dsimp only;unfold ndV;go_upto_region 8 with (refine wpList_store_ny rfl rfl _ _ rfl w4.heap.size rfl _ y1 HGA.out rfl HO1.out rfl ?_; intro w5 h5; have HS5 := xH (st9 h5.out); clear h5)
   have HB5 := xH (trw.qi HB4.out HS5.out.1);have HN5 := xH (trw.vO HS5.out.1 HN4.out);have HA5 := xH (trw.vO HS5.out.1 HA4.out);have HM5 := xH (nm_blw9 HM4.out HS5.out.1);have HG5 := xH ((HS5.out.1.block A0 (Array.getElem?_eq_some_iff.1 HG4.out).1).trans HG4.out);have HK5 := xH HS5.out.2;generalize w4.heap.size = A1 at *;clear HS5 HGA HA4 HM4 HN4 HG4 HB4;have HC5 := xH (HQ.out w5 HN5.out HM5.out);go_wp2_with (first
    | (refine ql rfl _ rfl A0 rfl y HG5.out ?_)
    | (refine HC5.out.mono ?_))
   rintro e w6 ⟨hb6, y2, j2, rfl, hn2, hs2⟩;have HB6 := xH (trw.qi HB5.out hb6);have HA6 := xH (trw.vO hb6 HA5.out);have HD6 := xH hn2;have HSQ := xH (same9 (HS1.out.trans hs2.symm));have HK6 := xH ((hb6.block A1 (Array.getElem?_eq_some_iff.1 HK5.out).1).trans HK5.out);have HO2 := xH (qp hn2);have HGB := xH (heap_alloc_new w6 (.cells zC.toArray 27));unfold zC at HGB;clear hb6 hn2 hs2 HS1 HC5 HQ HG5 HN5 HA5 HM5 HB5 HK5;dsimp only;unfold ndV;go_upto_region 9 with (refine wpList_store_ny rfl rfl _ _ rfl w6.heap.size rfl _ y2 HGB.out rfl HO2.out rfl ?_; intro w7 h7; have HS7 := xH (st9 h7.out); clear h7)
   have HB7 := xH (trw.qi HB6.out HS7.out.1);have HA7 := xH (trw.vO HS7.out.1 HA6.out);have HD7 := xH (trw.vO HS7.out.1 HD6.out);have HK7 := xH ((HS7.out.1.block A1 (Array.getElem?_eq_some_iff.1 HK6.out).1).trans HK6.out);have HL7 := xH HS7.out.2;generalize w6.heap.size = A2 at *;clear HS7 HGB HA6 HD6 HB6 HK6;have LQ := xH (rsame_any (j1.size + 1) (y1, j1) (y2, j2) w7 (Nat.lt_succ_self _) HA7.out HD7.out);have LP := xH (fun (w8 : World) (hb : Below w7.heap.size w7 w8) => places_any (j1.size + 1) (y1, j1) (y2, j2) w8 (Nat.lt_succ_self _) (trw.vO hb HA7.out) (trw.vO hb HD7.out));rw [HSQ.out.1] at LQ;rw [HSQ.out.2] at LP;obtain ⟨c0, c1, c2, c3, c4, c5, c6, c7, c8, c9, c10, c11⟩ := nd129 HK7.out;obtain ⟨d0, d1, d2, d3, d4, d5, d6, d7, d8, d9, d10, d11⟩ := nd129 HL7.out;have q1 : (eN E == eN E) = true := by simp
   have q2 : (E.getD 0 == E.getD 0) = true := by simp
   clear HSQ HA7 HD7;unfold ndV at LQ;go_wp2_with fail
   refine LQ.out.mono ?_;rintro e w8 ⟨rfl, hb8⟩;have HB78 := xH hb8;have h4 := (hb8.block _ (Array.getElem?_eq_some_iff.1 HK7.out).1).trans HK7.out;have h6 := (hb8.block _ (Array.getElem?_eq_some_iff.1 HL7.out).1).trans HL7.out;have LP8 := xH (LP.out w8 hb8);clear hb8 LQ LP HK7 HL7 c0 c1 c2 c3 c4 c5 c6 c7 c8 c9 c10 c11 d0 d1 d2 d3 d4 d5 d6 d7 d8 d9 d10 d11;obtain ⟨c0, c1, c2, c3, c4, c5, c6, c7, c8, c9, c10, c11⟩ := nd129 h4;obtain ⟨d0, d1, d2, d3, d4, d5, d6, d7, d8, d9, d10, d11⟩ := nd129 h6;clear h4 h6;unfold ndV at LP8;try dsimp only
   go_wp2_with fail
   refine LP8.out.mono ?_;rintro e w9 ⟨rfl, hb9⟩;have HBX := xH (trw.qi HB7.out (trw.qi HB78.out hb9));clear hb9 LP8 c0 c1 c2 c3 c4 c5 c6 c7 c8 c9 c10 c11 d0 d1 d2 d3 d4 d5 d6 d7 d8 d9 d10 d11;try dsimp only
   go_wp2_with fail
   go_ret
   exact ⟨rfl, HBX.out⟩
end rfl10
end
section
namespace gpr
open sq
open Go Go.RowKit Go.ChangeShapes Go.WideShapes Go.ChangeAt utfp utfw
theorem own : ownKnob Try.prog.godebug = none := by kernel_rfl
theorem laidOut : laidOutB Try.prog = true := by kernel_rfl
theorem cellsByte : Try.prog.cellsOf 5 = 1 := by kernel_rfl
theorem bytesByte : Try.prog.bytesOf 5 = 1 := by kernel_rfl
theorem recBytes : Try.prog.readableRec 22 = true := by kernel_rfl
theorem rowBytes : (22 : TypeId) < Try.prog.types.size := of_decide_eq_true (by kernel_rfl)
theorem wf_byte {n : Int} (h : (Lit.int .u8 n).wf = true) : 0 ≤ n ∧ n ≤ 255 := by
 have h2 : IntKind.u8.min ≤ n ∧ n ≤ IntKind.u8.max := by simpa [Lit.wf] using h
 rw [show IntKind.u8.min = 0 by decide, show IntKind.u8.max = 255 by decide] at h2;exact h2
theorem open_bytes {H : Type} {enc : TypeId × Value → H} {W : World} {base : Nat} {v : Value} {d : DataW H} {ps : List MemPlace} (hval : Value.okWide Try.prog W .any base 22 v)
 (h : DataW.Trod enc Try.prog W 0 (fun _ => true) true 22 v d ps) (hsz : ∀ elems spare, d = .slice elems spare → (elems.length + spare.length) * Try.prog.bytesOf 5 ≤ reachBytes) :
 ∃ n g, Sl W v n g := by
 obtain ⟨a0, len, cap, rfl⟩ := okWide_slice Try.underlying22 hval;obtain ⟨fuel, hf⟩ := h;rcases open_ints Try.underlying22 Try.underlying5 cellsByte hf with ⟨hcs, _⟩ | ⟨a, len', cap', zs, hcs, _, hl, hm, hz, hx, hcell, hwz⟩
 ·simp [Value.cells] at hcs;obtain ⟨rfl, rfl, rfl⟩ := hcs;exact ⟨0, fun _ => 0, fun _ => by simp, by simp, Or.inl ⟨rfl, _, _, rfl, by omega⟩⟩
 ·simp [Value.cells] at hcs;obtain ⟨rfl, rfl, rfl⟩ := hcs;simp only [Prod.mk.injEq] at hx;obtain ⟨rfl, _⟩ := hx;simp only [if_true] at hz;have hr := hsz _ _ rfl;rw [bytesByte] at hr;simp only [lits, List.length_map, List.length_take, List.length_drop, reachBytes] at hr;unfold maxLen at hm;have hgb : ∀ i, 0 ≤ zs.getD i 0 ∧ zs.getD i 0 ≤ 255 := by
   intro i;by_cases hi : i < zs.length
   ·simp only [List.getD, List.getElem?_eq_getElem hi, Option.getD_some];exact wf_byte (hwz _ (List.getElem_mem hi))
   ·simp [List.getD, List.getElem?_eq_none (Nat.le_of_not_lt hi)]
  by_cases h0 : len = 0
  ·subst h0;exact ⟨0, fun _ => 0, fun _ => by simp, by simp, Or.inl ⟨rfl, _, _, rfl, by omega⟩⟩
  ·obtain ⟨b, off, spot⟩ := a;have c0 := hcell 0 (by omega);cases spot with
   | some s =>
    exfalso;have : ((⟨b, off, some s⟩ : Addr).add 0).spot.isSome = true := by unfold Addr.add; split <;> simp_all
    unfold World.cell? at c0;split at c0
    ·simp [this] at c0
    ·simp at c0
   | none =>
    refine ⟨len, fun i => zs.getD i 0, hgb, by omega, Or.inr ⟨b, off, cap, rfl, ⟨hl, by omega⟩, fun i hi => ?_⟩⟩;have := hcell i (by omega);have hplain : (⟨b, off, none⟩ : Addr).add i = ⟨b, off + i, none⟩ := by unfold Addr.add; split <;> simp_all
    rw [hplain] at this;exact this
end gpr
end
end Go.Proofs.Ytdgfclbajjjcgaa
