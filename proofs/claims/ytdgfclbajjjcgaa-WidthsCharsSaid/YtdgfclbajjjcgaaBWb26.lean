/- T -/
import Derived.Deep.RegionHeld3
import Derived.Laws.ComplexArith
import Derived.Laws.Cover2
import Derived.Laws.Cover3
import Derived.Test.YtdgfclbajjjcgaaBWb25
set_option maxHeartbeats 16000000
set_option maxRecDepth 1000000
namespace Go.Proofs.Ytdgfclbajjjcgaa
section
namespace rdw
open sq
open Go.Sort Go Go.RowKit Go.Maps setp setw tkp trp trw rpp rsp gpp sq
open gqw (NmI9 nm_blw9 nd129 wpList_store_ny)
open rfp (NmOk fst2)
open rfw (results_rs)
open rpw (sees jB qp qh ql qI)
open rsw (Old sees_to)
def RDocH (h0 : Nat → Bool) (D : F × Int × Option Int) (w : World) (e : Ending) (w' : World) : Prop :=
 Below w.heap.size w w' ∧ ((∃ p, D.2.2 = some p ∧ e = .returned (.tuple #[ndV (lab 0 0), .int .i64 34, .int .i64 p])) ∨
  (D.2.2 = none ∧ ∃ y j, e = .returned (.tuple #[ndV y, .int .i64 0, .int .i64 0]) ∧ NdAt (sees h0 w') (y, j) ∧ strip (F.one y j) = D.1))
theorem rdoc_h (h0 : Nat → Bool) (w : World) (x : Lab) (k : F) (cnt : Int) (v : Value) (l : Nm) (ho : Old h0 w.heap.size) (hn : NdAt (sees h0 w) (x, k)) (ha : AllD (F.one x k)) (hz : k.size ≤ 100000) (hnm : NmI9 w v l) (hok : NmOk cnt l) (hcn : cnt ≤ 1000000) : Calls Try.prog 22 #[ndV x, .int .i64 cnt, v] w (RDocH h0 (docN cnt l x k 0) w) := by
 have e1 := World.size_alloc w (.cells (ndC x).toArray 27);have HP := xH (show ((w.alloc (.cells (ndC x).toArray 27)).alloc (.cells zC.toArray 27)).heap[w.heap.size]? = some (.cells (ndC x).toArray 27 (0, 0)) from (heap_alloc_old _ _ (by rw [e1]; omega)).trans (heap_alloc_new _ _));have HQ := xH (show ((w.alloc (.cells (ndC x).toArray 27)).alloc (.cells zC.toArray 27)).heap[w.heap.size + 1]? = some (.cells zC.toArray 27 (0, 0)) from e1 ▸ heap_alloc_new (w.alloc (.cells (ndC x).toArray 27)) (.cells zC.toArray 27));have HB := xH (trw.qi (trw.qg w (.cells (ndC x).toArray 27)) (trw.qg _ (.cells zC.toArray 27)));have HZ2 := xH (show ((w.alloc (.cells (ndC x).toArray 27)).alloc (.cells zC.toArray 27)).heap.size = w.heap.size + 2 by rw [World.size_alloc, e1]);have HNM := xH (nm_blw9 hnm HB.out);have HN := xH hn;have HO0 := xH ho;obtain ⟨na, nc, hnv, _⟩ := id hnm;subst hnv;obtain ⟨D, hD⟩ : ∃ D, docN cnt l x k 0 = D := ⟨_, rfl⟩;rw [hD];have HD := xH hD;clear hn hnm e1 hD ho;unfold ndC zC at HP HQ HB HZ2 HNM;unfold ndV;go_enter Try.func22, Try.ntmps22;go_upto_region 1 with (fail)
 generalize (w.alloc _).alloc _ = w1 at *;have HP : Hid (w1.heap[w.heap.size]? = some (.cells (ndC x).toArray 27 (0, 0))) := HP;obtain ⟨G, hG⟩ : ∃ G, w1.heap.size = G := ⟨_, rfl⟩;have HO := xH (hG ▸ heap_alloc_new w1 (.cells #[.int .i64 cnt, .slice na l.length nc, .int .i64 0, .int .i64 0] 75));have HBA := xH (trw.qg w1 (.cells #[.int .i64 cnt, .slice na l.length nc, .int .i64 0, .int .i64 0] 75));have HZA := xH (World.size_alloc w1 (.cells #[.int .i64 cnt, .slice na l.length nc, .int .i64 0, .int .i64 0] 75));go_upto_region 2 with (fail)
 generalize w1.alloc _ = w2 at *;rw [hG] at HZA;try simp only [hG]
 have HDS := xH (show DS w1 G cnt (.slice na l.length nc) none w2 from ⟨HBA.out, HO.out, by omega⟩);have HGE := xH (show G = w.heap.size + 2 by have := HZ2.out; omega);have HB2 := xH (trw.qi HB.out HBA.out);obtain ⟨h, hh⟩ : ∃ h : Nat → Bool, (fun b => h0 b || decide (w.heap.size ≤ b ∧ b ≤ G)) = h := ⟨_, rfl⟩;have HH := xH (show ∀ b, h b = (h0 b || decide (w.heap.size ≤ b ∧ b ≤ G)) from fun b => by rw [← hh]);have HCL := xH (node_any HNM.out hok hcn (k.size + 1) k (Nat.lt_succ_self _) x 0 w2 h none
  (fun i hi => by
   rw [HH.out, Bool.or_eq_true] at hi;have h3 := HZA.out;have h4 := HGE.out;rcases hi with hi | hi
   ·have := HO0.out i hi; omega
   ·have := of_decide_eq_true hi; omega)
  (by rw [HH.out, Bool.or_eq_true]; exact Or.inr (decide_eq_true (by have := HGE.out; omega)))
  (qY (fun a u hc => jB.2 ⟨by rw [HH.out, (jB.1 hc).1, Bool.false_or]; exact decide_eq_false (by have := cell_lt (sees_to hc); omega), trw.qf HB2.out (sees_to hc)⟩) HN.out)
  HDS.out ha hz (by unfold rfw.Cb; omega))
 have HP2 := xH ((HBA.out.block w.heap.size (by have := HZ2.out; omega)).trans HP.out);have HQ2 := xH ((HBA.out.block (w.heap.size + 1) (by have := HZ2.out; omega)).trans HQ.out);rw [HD.out] at HCL;clear hh HP HQ HO HBA HDS HN HD ha hz hok hcn;go_wp2_with (first
  | (refine ql rfl _ rfl w.heap.size rfl x HP2.out ?_)
  | (refine HCL.out.mono ?_))
 rintro e w3 ⟨hc3, hd3, y, j, rfl, hn3, hst3⟩;have HC3 := xH hc3;have HD3 := xH hd3;have HS3 := xH hst3;have HN3 := xH hn3;have HQ3 := xH ((hc3.block (w.heap.size + 1) (by have := HZA.out; have := HGE.out; omega) (by have := HGE.out; omega) (Or.inr (Nat.zero_le _))).trans HQ2.out);have HY := xH (qp hn3);have HG3 := xH (heap_alloc_new w3 (.cells zC.toArray 27));have HST := xH (show ∀ w4, w4 = (w3.alloc (.cells zC.toArray 27)).setRow w3.heap.size (ndC y).toArray → Below w3.heap.size w3 w4 ∧ w4.heap[w3.heap.size]? = some (.cells (ndC y).toArray 27 (0, 0)) from fun w4 h4 => by subst h4;exact ⟨rpw.jU w3 _ _ _, setRow_heap _ _ _ _ _ _ (heap_alloc_new w3 _)⟩)
 have HSZ := xH (show w.heap.size + 3 ≤ w3.heap.size by have := hc3.size; have := HZA.out; have := HGE.out; omega);unfold zC at HG3 HST;clear hc3 hd3 hst3 hn3 HP2 HQ2 HCL;dsimp only;go_upto_region 3 with (refine wpList_store_ny rfl rfl _ _ rfl w3.heap.size rfl _ y HG3.out rfl HY.out rfl ?_; intro w4 h4; obtain ⟨hb4, hg4⟩ := HST.out w4 h4.out; have HB34 := xH hb4; have HG4 := xH hg4; clear h4 hb4 hg4)
 have HD4 := xH (HD3.out.keep HB34.out);have HQ4 := xH ((HB34.out.block (w.heap.size + 1) (by have := HSZ.out; omega)).trans HQ3.out);have HN4 := xH (rsw.qV HB34.out HN3.out);have HBW := xH (show Below w.heap.size w w4 from HB.out.trans (HD4.out.be.mono HB.out.size));obtain ⟨c0, c1, c2, c3, _, _⟩ := HD4.out.c;generalize w3.heap.size = B at *;clear HG3 HST HQ3 HN3 HD3 HC3 HB34;cases hE : D.2.2 with
 | none =>
  have HE := xH hE;rw [hE] at c2 c3;have c2 : w4.cell? ⟨G, 2, none⟩ = some (.int .i64 0) := c2;go_wp2_with (first
   | (refine ql rfl _ rfl B rfl y HG4.out ?_)
   | (refine qh rfl rfl _ _ rfl (w.heap.size + 1) rfl _ y HQ4.out rfl HY.out rfl ?_))
  refine xB (results_rs rfl _ _ (w.heap.size + 1) y rfl (setRow_heap _ _ _ _ _ _ HQ4.out)) rfl ?_;exact ⟨rpw.qC HBW.out _ (by omega), .inr ⟨HE.out, y, j, rfl, qY (fun a u hc => by
   have h1 := (jB.1 hc).1;rw [HH.out, dE] at h1;exact jB.2 ⟨h1.1, rpw.jI (n := w.heap.size + 1) _ (sees_to hc) (fun e => by rw [e] at h1;have := of_decide_eq_false h1.2;have := HGE.out;omega)⟩) HN4.out, HS3.out⟩⟩
 | some p =>
  have HE := xH hE;rw [hE] at c2 c3;have c2 : w4.cell? ⟨G, 2, none⟩ = some (.int .i64 34) := c2;have c3 : w4.cell? ⟨G, 3, none⟩ = some (.int .i64 p) := c3;go_upto_region 4 with (fail)
  refine wp_region_held_drew (S := fun w' => w'.heap[G]? = w4.heap[G]?) (by kernel_rfl) rfl (fun hHeld => ?_);refine yT 0 ?_;simp only [xS];refine yT 1 ?_;simp only [xS];refine yT 2 ?_;simp only [xS];refine yT 3 ?_;simp only [xS];refine yF 4 (fun w' hS => (World.cell?_of_block (a := ⟨G, 2, none⟩) hS).trans c2) ?_;simp only [xS];refine yT 5 ?_;simp only [xS];refine yT 6 ?_;simp only [xS];refine yT 7 ?_;simp only [xS];refine yF 8 (fun w' hS => (World.cell?_of_block (a := ⟨G, 3, none⟩) hS).trans c3) ?_;simp only [xS];refine xD 9 rfl (fun K hK => ?_);refine qI rfl rfl _ _ rfl (w.heap.size + 1) rfl _ (lab 0 0) HQ4.out rfl (qp (t := (lab 0 0, F.nil)) (rpw.zero_at w)) rfl ?_;have HSR := xH (show (w4.drew.setRow (w.heap.size + 1) (ndC (lab 0 0)).toArray).heap[G]? = w4.heap[G]? from tkw.setRow_other _ _ _ _ (by have := HGE.out; omega));refine hK.out _ _ HSR.out (fun hHeld => ?_);clear hK K;try simp only [xS]
  refine yT 10 ?_;simp only [xS];refine yT 11 ?_;simp only [xS];refine wpAnyH_done (by kernel_rfl) ?_ _;go_wp2_with fail
  refine xB (results_rs rfl _ _ (w.heap.size + 1) (lab 0 0) rfl (setRow_heap _ _ _ _ _ _ HQ4.out)) rfl ?_;exact ⟨rpw.qC (qi HBW.out (Below.refl _ _).drew) _ (by omega), .inl ⟨p, HE.out, rfl⟩⟩
end rdw
end
section
namespace rfl10
open sq
open Go Go.RowKit Go.Maps utfw tkp trp trw rpp rsp rtp setw gpp rfp rfw sq
open rpw (qp ql)
open gqw (wpList_store_ny NmI9 nm_blw9 nd129)
open rsw (flatP)
open tkw (sg)
open rdw (eN docN docF_cons fst2_none AllD)
theorem flat_lfF {e : Nat → Int} {n : Nat} {o : Int} {t : F} (h : flatP e n o = some t) : LfF t := by
 unfold flatP at h;split at h
 ·cases h
 ·split at h
  ·cases h
  ·rename_i f hf;have hI := parse_lfF hf;split at h
   ·cases h
   ·cases h;exact resP_lfF _ _ ⟨hI.1, hI.2.1, trivial⟩
theorem strip_none : ∀ {f : F}, strip f = .nil → f = .nil
 | .nil, _ => rfl
 | .cons _ _ _, h => by cases h
theorem allD_of : ∀ {f : F}, AllV f → LfF (strip f) → AllD f
 | .nil, _, _ => trivial
 | .cons _ _ _, ⟨a, b, c⟩, ⟨d, e, g⟩ => ⟨a, fun q => strip_none (d q), allD_of b e, allD_of c g⟩
def ansX (E : Option Int) (f : F) : F := match E with
 | none => f
 | some _ => F.one (lab 0 0) .nil
theorem res_doc {t : F} {y : Lab} {j : F} {l : Nm} {n : Nat} (hi : AllI n (refF false 0 t 0).1) (hs : strip (F.one y j) = (refF false 0 t 0).1) (hl : (nameR [] (capL (refF false 0 t 0).1)).2 = l) :
 NmOk (refF false 0 t 0).2 l ∧ (visN (refF false 0 t 0).2 l (bare y) (strip j) 0).1 = (docN (refF false 0 t 0).2 l y j 0).2.2 ∧
 ((docN (refF false 0 t 0).2 l y j 0).2.2 = none → F.one (visN (refF false 0 t 0).2 l (bare y) (strip j) 0).2.1.1 (visN (refF false 0 t 0).2 l (bare y) (strip j) 0).2.1.2 = (docN (refF false 0 t 0).2 l y j 0).1) := by
 have e := ref_again t false 0 0;rw [← hs] at e hi;have hT : strip (F.one y j) = .cons (bare y) (strip j) .nil := rfl;rw [hT] at e hi;have hn := nm_ok (bare y) (strip j);rw [e, hl] at hn;generalize hc : (refF false 0 t 0).2 = c at *;have hr := refs_doc hn (bare y) (strip j) (allI_ok hi) (by rw [e, ← hs, hT]);have hd := docF_cons c l false 0 y j .nil 0;rw [show strip (.cons y j .nil) = .cons (bare y) (strip j) .nil from rfl] at hd;simp only [Bool.false_eq_true, if_false] at hd;rw [(visF_one c l (bare y) (strip j) 0).1, (visF_one c l (bare y) (strip j) 0).2, hd] at hr;simp only [strip, docF, fst2_none, app_nil] at hr;exact ⟨hn, hr⟩
end rfl10
end
section
namespace rwl11
open sq
open Go Go.RowKit Go.Maps utfw tkp trp trw rpp rsp rtp setw gpp rsw
open rtw (TkB Bd LexB rlex_any str_size Pat lexF_ok)
open rpw (sees jB TkIn LOk ParB rparse_any qh ql qp jm qI)
open tkw (sg)
open gqw (rnumber_any refN refN_hi refF_cons NmI9 nm_i9 capL_len)
open rfl10 (refN_eq nm_len10 ansX nt_of NT flat_lfF res_doc allD_of)
open rfw (allV_strip)
open rfp (docF)
open rdw (eN docN docF_cons fst2_none AllD RDocH rdoc_h)
def docR (t : F) : F × Int × Option Int := docF (refF false 0 t 0).2 (nameR [] (capL (refF false 0 t 0).1)).2 false 0 (refF false 0 t 0).1 0
def Res11B (R : Option F) (w : World) (e : Ending) (w' : World) : Prop := Below w.heap.size w w' ∧ match R with
 | none => e = .returned (.tuple #[ndV (lab 0 0), .bool false])
 | some t => ((nameR [] (capL (refF false 0 t 0).1)).1.1 ≠ 0 ∧ e = .returned (.tuple #[ndV (lab 0 0), .bool false])) ∨
  ((nameR [] (capL (refF false 0 t 0).1)).1.1 = 0 ∧ ∃ y j, e = .returned (.tuple #[ndV y, .bool (eN (docR t).2.2 == 0)]) ∧ NdAt w' (y, j) ∧ strip (F.one y j) = ansX (docR t).2.2 (docR t).1)
def AnsH (h0 : Nat → Bool) (X : F) (E : Option Int) (w : World) (e : Ending) (w' : World) : Prop := Below w.heap.size w w' ∧ ∃ y j, e = .returned (.tuple #[ndV y, .int .i64 (eN E), .int .i64 (E.getD 0)]) ∧ NdAt (sees h0 w') (y, j) ∧ strip (F.one y j) = X
theorem zeroH (h0 : Nat → Bool) (w : World) : NdAt (sees h0 w) (lab 0 0, F.nil) := rpw.zero_at _
theorem ans_docH {h0 : Nat → Bool} {D : F × Int × Option Int} {w w' : World} {e : Ending} (h : RDocH h0 D w e w') : AnsH h0 (ansX D.2.2 D.1) D.2.2 w e w' := by
 obtain ⟨hb, ⟨p, hp, rfl⟩ | ⟨hp, y, j, rfl, hn, hs⟩⟩ := h
 ·rw [hp];exact ⟨hb, lab 0 0, .nil, rfl, zeroH h0 w', rfl⟩
 ·rw [hp];exact ⟨hb, y, j, rfl, hn, hs⟩
theorem res_docR {t : F} {y : Lab} {j : F} {l : Nm} {n : Nat} (hi : rfp.AllI n (refF false 0 t 0).1) (hs : strip (F.one y j) = (refF false 0 t 0).1) (hl : (nameR [] (capL (refF false 0 t 0).1)).2 = l) :
 rfp.NmOk (refF false 0 t 0).2 l ∧ (docN (refF false 0 t 0).2 l y j 0).1 = (docR t).1 ∧ (docN (refF false 0 t 0).2 l y j 0).2.2 = (docR t).2.2 := by
 have h1 := (res_doc hi hs hl).1;unfold docR;rw [hl, ← hs];have hd := docF_cons (refF false 0 t 0).2 l false 0 y j .nil 0;rw [show strip (F.one y j) = strip (.cons y j .nil) from rfl, hd];simp only [strip, docF, fst2_none, app_nil, Bool.false_eq_true, if_false];exact ⟨h1, trivial, trivial⟩
theorem res11_any (v : Value) (n : Nat) (g : Nat → Int) (o : Int) (w : World) (hv : Sl w v n g) : Calls Try.prog 28 #[v, .int .i64 o] w (Res11B (flatP (sg (strOf n g)) n o) w) := by
 have HL := xH (rlex_any v n g o (w.alloc (.cells zC.toArray 27)) (utfw.below_sl (qg w _) hv));have HB0 := xH (qg w (.cells zC.toArray 27));have HRV := xH (heap_alloc_new w (.cells zC.toArray 27));have HZ := xH (World.size_alloc w (.cells zC.toArray 27));obtain ⟨a, cap, rfl⟩ : ∃ a c, v = .slice a n c := by exact z139
 obtain ⟨R, hR⟩ : ∃ R, flatP (sg (strOf n g)) n o = R := ⟨_, rfl⟩;rw [hR];have HFO := xH (fun t (h : R = some t) => (gpw.flat_ok (hR.trans h)).2);have HNTL := xH (fun t (h : R = some t) => (⟨nt_of (hR.trans h), rfp.refF_lfF t false 0 0 (flat_lfF (hR.trans h))⟩ : NT n t ∧ rfp.LfF (refF false 0 t 0).1));unfold flatP at hR;have HOKT := xH (fun T => rlex_ok (n := n) (g := g) (o := o) (T := T));have HR0 := xH hR;clear hR hv;unfold zC at HL HB0 HRV HZ;go_enter Try.func28, Try.ntmps28;go_upto_region 1 with (fail)
 generalize w.alloc _ = w0 at *;have H1 := xH (qp (t := (lab 0 0, F.nil)) (rpw.zero_at w0));go_wp2_with fail
 refine HL.out.mono ?_;obtain ⟨q, hq⟩ : ∃ q, rlexP (sg (strOf n g)) n o = q := ⟨_, rfl⟩;rw [hq] at HR0 ⊢;have HOK := xH (fun T (h : q = .ok T) => HOKT.out T (hq.trans h));have HERR := xH (fun x (h : q = .error x) => rlex_err (hq.trans h));clear hq HL HOKT;cases q with
 | error x =>
  rintro e w1 ⟨hb, rfl⟩;have HR := xH (show none = R from HR0.out);have b1 : (x.1 != 0) = true := by simpa using HERR.out x rfl
  have HB1 := xH (trw.qi HB0.out hb);have HRV1 := xH ((hb.block _ (by have := HZ.out; omega)).trans HRV.out);clear hb HR0;dsimp only;go_wp2_with (refine qh rfl rfl _ _ rfl w.heap.size rfl _ (lab 0 0) HRV1.out rfl H1.out rfl ?_)
  refine xB (qZ rfl _ _ w.heap.size (lab 0 0) rfl (setRow_heap _ _ _ _ _ _ HRV1.out)) rfl ?_;exact ⟨rpw.qC HB1.out _ (xL _), by rw [← HR.out]; rfl⟩
 | ok T =>
  rintro e w1 ⟨hb, v1, rfl, hrow⟩;have ht := HOK.out T rfl;have hl5 : T.length ≤ 50000 := by omega
  have htk := tkIn_of hrow (fun t h => (ht.1 t h).1.w) hl5;have HZ0 := xH (show w.heap.size + 1 = w0.heap.size from HZ.out.symm);have HPA := xH (rparse_any (bl := w0.heap.size) v1 T (n : Int) w1 hb.size htk (lok_of ht.1 ht.2.2 ht.2.1));have HBL := xH hb.size;have HSET := xH (fun t h => (ht.1 t h).1.s);have HLEN := xH (show T.length ≤ 1000 by omega);obtain ⟨a1, c1, rfl⟩ : ∃ a c, v1 = .slice a T.length c := by obtain ⟨a, c, h, _⟩ := htk;exact ⟨a, c, h⟩
  have HB1 := xH (trw.qi HB0.out hb);have HRV1 := xH ((hb.block _ (by have := HZ.out; omega)).trans HRV.out);have HZ1 := xH (show w.heap.size + 1 ≤ w1.heap.size by have := HZ.out; have := hb.size; omega);clear hb hrow ht htk HOK HERR HB0 HRV HZ;dsimp only;go_wp2_with fail
  refine HPA.out.mono ?_;obtain ⟨q, hq⟩ : ∃ q, parseP T (n : Int) = q := ⟨_, rfl⟩;have HR1 := xH (show (match parseP T (n : Int) with | .error _ => none | .ok f => (match f with | .nil => none | .cons x k _ => some (resP (x, k) o))) = R from HR0.out);have HPE := xH (fun x (h : q = .error x) => parse_err (hq.trans h));have HPO := xH (fun f (h : q = .ok f) => zU HSET.out (hq.trans h));rw [hq] at HR1 ⊢;clear hq HPA HR0 hl5;cases q with
  | error x =>
   rintro e w2 ⟨hb, rfl⟩;have HR := xH (show none = R from HR1.out);have b1 : (x.1 != 0) = true := by simpa using HPE.out x rfl
   have HB2 := xH (trw.qi HB1.out hb);have HRV2 := xH ((hb.block _ (by have := HZ1.out; omega)).trans HRV1.out);have HZ2 := xH (show w.heap.size + 1 ≤ w2.heap.size by have := HZ1.out; have := hb.size; omega);have HG2 := xH (heap_alloc_new w2 (.cells #[.int .i64 0, .int .i64 0, .int .i64 0, .slice none 0 0, .bool false, .int .i64 0, .int .i64 0, .int .i64 0, .string ⟨#[]⟩, .int .i64 0, .int .i64 0, .slice none 0 0] 27));have HB3 := xH (below_row0 HB2.out (.cells #[.int .i64 0, .int .i64 0, .int .i64 0, .slice none 0 0, .bool false, .int .i64 0, .int .i64 0, .int .i64 0, .string ⟨#[]⟩, .int .i64 0, .int .i64 0, .slice none 0 0] 27) (ndC (lab 0 0)).toArray);have HRV3 := xH (show ((w2.alloc (.cells #[.int .i64 0, .int .i64 0, .int .i64 0, .slice none 0 0, .bool false, .int .i64 0, .int .i64 0, .int .i64 0, .string ⟨#[]⟩, .int .i64 0, .int .i64 0, .slice none 0 0] 27)).setRow w2.heap.size (ndC (lab 0 0)).toArray).heap[w.heap.size]? = _ from ((rpw.qC (qg w2 (.cells #[.int .i64 0, .int .i64 0, .int .i64 0, .slice none 0 0, .bool false, .int .i64 0, .int .i64 0, .int .i64 0, .string ⟨#[]⟩, .int .i64 0, .int .i64 0, .slice none 0 0] 27)) (ndC (lab 0 0)).toArray (xL _)).block _ (by have := HZ2.out; omega)).trans HRV2.out);clear hb HR1 HPE HPO;dsimp only;unfold ndV;go_upto_region 5 with (refine qh rfl rfl _ _ rfl w2.heap.size rfl _ (lab 0 0) HG2.out rfl H1.out rfl ?_)
   generalize (w2.alloc _).setRow w2.heap.size _ = w3 at *;go_wp2_with (refine qh rfl rfl _ _ rfl w.heap.size rfl _ (lab 0 0) HRV3.out rfl H1.out rfl ?_)
   refine xB (qZ rfl _ _ w.heap.size (lab 0 0) rfl (setRow_heap _ _ _ _ _ _ HRV3.out)) rfl ?_;exact ⟨rpw.qC HB3.out _ (xL _), by rw [← HR.out]; rfl⟩
  | ok f =>
   obtain ⟨hok, hsz, x, k, rfl⟩ := HPO.out f rfl;have HR := xH (show some (resP (x, k) o) = R from HR1.out);rintro e w2 ⟨hb, x2, k2, rfl, hn2, hs2⟩;obtain ⟨rfl, rfl⟩ : bare x2 = x ∧ strip k2 = k := by have := hs2;simp only [F.one, strip] at this;cases this;exact ⟨rfl, rfl⟩
   have HB2 := xH (trw.qi HB1.out hb);have HRV2 := xH ((hb.block _ (by have := HZ1.out; omega)).trans HRV1.out);have HZ2 := xH (show w.heap.size + 1 ≤ w2.heap.size by have := HZ1.out; have := hb.size; omega);have HG2 := xH (heap_alloc_new w2 (.cells #[.int .i64 0, .int .i64 0, .int .i64 0, .slice none 0 0, .bool false, .int .i64 0, .int .i64 0, .int .i64 0, .string ⟨#[]⟩, .int .i64 0, .int .i64 0, .slice none 0 0] 27));have H2 := xH (qp hn2);have HBW := xH (show w0.heap.size ≤ w2.heap.size from Nat.le_trans HBL.out hb.size);have HN2 := xH hn2;have HOK2 := xH (show OkF (F.one x2 k2) from okF_strip.2 hok);have HSZ := xH (show k2.size ≤ 30000 by have h1 := HLEN.out;simp only [F.one, F.size, strip_size] at hsz;omega)
   clear hb HR1 HPE HPO hs2 hn2 hok hsz;dsimp only;unfold ndV;go_upto_region 5 with (refine qh rfl rfl _ _ rfl w2.heap.size rfl _ x2 HG2.out rfl H2.out rfl ?_)
   have HB5 := xH (rpw.qC (qg w2 (.cells #[.int .i64 0, .int .i64 0, .int .i64 0, .slice none 0 0, .bool false, .int .i64 0, .int .i64 0, .int .i64 0, .string ⟨#[]⟩, .int .i64 0, .int .i64 0, .slice none 0 0] 27)) (ndC x2).toArray (xL _));have HG5 := xH (setRow_heap _ _ _ (ndC x2).toArray _ _ HG2.out);generalize (w2.alloc (.cells #[.int .i64 0, .int .i64 0, .int .i64 0, .slice none 0 0, .bool false, .int .i64 0, .int .i64 0, .int .i64 0, .string ⟨#[]⟩, .int .i64 0, .int .i64 0, .slice none 0 0] 27)).setRow w2.heap.size (ndC x2).toArray = w5 at *;have HRV5 := xH ((HB5.out.block _ (by have := HZ2.out; omega)).trans HRV2.out);have HN5 := xH (qV HB5.out HN2.out);have HO5 := xH (show Old (fun i => decide (i < w0.heap.size)) w5.heap.size from fun i hi => by have := HBW.out;have h2 := HB5.out.size;simp only [dF] at hi;omega)
   have HB6 := xH (trw.qi HB2.out HB5.out);have HZ5 := xH (show w.heap.size + 1 ≤ w5.heap.size from Nat.le_trans HZ2.out HB5.out.size);clear HG2 HB5 HN2 HRV2;go_wp2_with (refine ql rfl _ rfl w2.heap.size rfl x2 HG5.out ?_)
   refine (res_any (fun i => decide (i < w0.heap.size)) x2 k2 o w5 HO5.out HN5.out HOK2.out HSZ.out).mono ?_;rintro e w6 ⟨hb6, y, j, rfl, hn6, hs6⟩;have HRV6 := xH ((hb6.block _ (by have := HZ5.out; omega)).trans HRV5.out);have HB7 := xH (trw.qi HB6.out hb6);have HS65 := xH hb6.size;have HN6 := xH hn6;have H6 := xH (qp hn6);have HS6 := xH hs6;clear hb6 hn6 hs6;have HT := xH (show R = some (strip (F.one y j)) from by rw [← HR.out, HS6.out, res_strip]);have HTZ := xH (HFO.out _ HT.out);have HJ6 := xH (show j.size < 100000 from by have := HTZ.out;rw [strip_size] at this;simp only [F.one, F.size] at this;omega)
   have HRN := xH (rnumber_any (fun i => decide (i < w0.heap.size)) y j w6 (fun i hi => by have := HO5.out i hi;exact Nat.lt_of_lt_of_le this HS65.out) HN6.out HJ6.out)
   dsimp only;unfold ndV;unfold ndV at HRN;go_wp2_with fail
   refine HRN.out.mono ?_;rintro e w7 ⟨hb7, hq⟩;have HRV7 := xH ((hb7.block _ (by have := HZ5.out; have := HS65.out; omega)).trans HRV6.out);have HB8 := xH (trw.qi HB7.out hb7);have HZ7 := xH (show w.heap.size + 1 ≤ w7.heap.size by have := HZ5.out; have := HS65.out; have := hb7.size; omega);have H77 := xH hb7.size;rw [refN_eq] at hq;have HNL := xH (nm_len10 HTZ.out);generalize strip (F.one y j) = t at *;have HG7 := xH (heap_alloc_new w7 (.cells zC.toArray 27));unfold zC at HG7;clear hb7 HRN;rcases hq with ⟨c0, rfl⟩ | ⟨c0, y7, j7, v7, rfl, hn7, hs7, hr7, hz7⟩
   ·have b0 : ((nameR [] (capL (refF false 0 t 0).1)).1.1 != 0) = true := by simpa using c0
    have HC0 := xH c0;clear c0;dsimp only;unfold ndV;go_upto_region 8 with (refine gqw.wpList_store_ny rfl rfl _ _ rfl w7.heap.size rfl _ (lab 0 0) HG7.out rfl H1.out rfl ?_; intro w8 h8; have HS8 := xH (show Below w7.heap.size w7 w8 from by rw [h8.out]; exact rpw.jU w7 _ _ _); clear h8)
    have HRV8 := xH ((HS8.out.block _ (by have := HZ7.out; omega)).trans HRV7.out);have HB9 := xH (trw.qi HB8.out HS8.out);go_wp2_with (refine qh rfl rfl _ _ rfl w.heap.size rfl _ (lab 0 0) HRV8.out rfl H1.out rfl ?_)
    refine xB (qZ rfl _ _ w.heap.size (lab 0 0) rfl (setRow_heap _ _ _ _ _ _ HRV8.out)) rfl ?_;refine ⟨rpw.qC HB9.out _ (xL _), ?_⟩;rw [HT.out];exact .inl ⟨HC0.out, rfl⟩
   ·have HC0 := xH c0;have HN7 := xH hn7;have HO7 := xH (qp hn7);have HS7 := xH hs7;have HR7 := xH hr7;have HV7 := xH hz7;obtain ⟨na, nc, rfl⟩ := gpw.row_slice hr7;clear c0 hn7 hs7 hr7 hz7;have HLT7 := xH (show w.heap.size < w6.heap.size by have := HZ5.out; have := HS65.out; omega);have HW0 := xH (show w.heap.size < w0.heap.size by have := HZ0.out; omega);have HO77 := xH (show ∀ W : World, w7.heap.size ≤ W.heap.size → Old (fun i => decide (i < w0.heap.size)) W.heap.size from fun W hW i hi => by have := HO5.out i hi;have := HS65.out;have := H77.out;omega)
    obtain ⟨hnt, hlf⟩ := HNTL.out _ HT.out;obtain ⟨hok, hd1, hd2⟩ := res_docR hnt.i HS7.out rfl;have hAD : AllD (F.one y7 j7) := allD_of (allV_strip.1 (HS7.out ▸ hnt.v)) (HS7.out ▸ hlf);have hsz : j7.size ≤ 100000 := by have h3 := hnt.z;rw [← HS7.out, strip_size] at h3;simp only [F.one, F.size] at h3;omega
    obtain ⟨X, hX⟩ : ∃ X, ansX (docR t).2.2 (docR t).1 = X := ⟨_, rfl⟩;obtain ⟨E, hE⟩ : ∃ E, (docR t).2.2 = E := ⟨_, rfl⟩;have HX := xH hX;have HE := xH hE;obtain ⟨l, hl⟩ : ∃ l, (nameR [] (capL (refF false 0 t 0).1)).2 = l := ⟨_, rfl⟩;obtain ⟨c, hc⟩ : ∃ c, (refF false 0 t 0).2 = c := ⟨_, rfl⟩;have hcn := hnt.k.2;rw [hl, hc] at hok hd1 hd2;rw [hc] at hcn;rw [hl] at HR7 HV7 HNL;have HQ := xH (fun (W : World) (hW : w7.heap.size ≤ W.heap.size) (hn3 : NdAt (sees (fun i => decide (i < w0.heap.size)) W) (y7, j7)) (hv3 : NmI9 W (.slice na l.length nc) l) => show Calls Try.prog 22 #[ndV y7, .int .i64 c, .slice na l.length nc] W (AnsH (fun i => decide (i < w0.heap.size)) X E W) from (rdoc_h _ W y7 j7 c _ l (HO77.out W hW) hn3 hAD hsz hv3 hok hcn).mono fun e w4 h => by have := ans_docH h;rw [hd1, hd2, hE, ← hE, hX, hE] at this;exact this)
    have b0 : ((nameR [] (capL (refF false 0 t 0).1)).1.1 != 0) = false := by simpa using HC0.out
    simp only [hl, hc];clear hl hc hok hd1 hd2 hAD hsz hX hE hcn hnt hlf HNTL HO77;try dsimp only
    unfold ndV;go_upto_region 8 with (refine gqw.wpList_store_ny rfl rfl _ _ rfl w7.heap.size rfl _ y7 HG7.out rfl HO7.out rfl ?_; intro w8 h8; have HS8 := xH (show Below w7.heap.size w7 w8 ∧ w8.heap[w7.heap.size]? = some (.cells (ndC y7).toArray 27 (0, 0)) from by rw [h8.out]; exact ⟨rpw.jU w7 _ _ _, setRow_heap _ _ _ _ _ _ HG7.out⟩); clear h8)
    have HRV8 := xH ((HS8.out.1.block _ (by have := HZ7.out; omega)).trans HRV7.out);have HB9 := xH (trw.qi HB8.out HS8.out.1);have HN8 := xH (qV HS8.out.1 HN7.out);have HM8 := xH (nm_i9 (tkw.jJ HR7.out fun k hk => HS8.out.1.block k (rpw.own_below HR7.out hk).2) HV7.out HNL.out);have HC8 := xH (HQ.out w8 HS8.out.1.size HN8.out HM8.out);have HZ8 := xH (show w.heap.size + 1 ≤ w8.heap.size from Nat.le_trans HZ7.out HS8.out.1.size);clear HQ HN8 HM8 HR7 HV7;unfold ndV at HC8;go_wp2_with (first
     | (refine ql rfl _ rfl w7.heap.size rfl y7 HS8.out.2 ?_)
     | (refine HC8.out.mono ?_))
    rintro e w9 ⟨hb9, y, j, rfl, hn9, hs9⟩;have HB10 := xH (trw.qi HB9.out hb9);have HRV9 := xH ((hb9.block _ (by have := HZ8.out; omega)).trans HRV8.out);have HN9 := xH hn9;have HS9 := xH hs9;have HO9 := xH (qp hn9);have HZ9 := xH (Nat.le_trans HZ8.out hb9.size);have HG9 := xH (heap_alloc_new w9 (.cells zC.toArray 27));unfold zC at HG9;clear hb9 hn9 hs9 HC8;try dsimp only
    unfold ndV;go_upto_region 11 with (refine gqw.wpList_store_ny rfl rfl _ _ rfl w9.heap.size rfl _ y HG9.out rfl HO9.out rfl ?_; intro w10 h10; have HS10 := xH (show Below w9.heap.size w9 w10 ∧ w10.heap[w9.heap.size]? = some (.cells (ndC y).toArray 27 (0, 0)) from by rw [h10.out]; exact ⟨rpw.jU w9 _ _ _, setRow_heap _ _ _ _ _ _ HG9.out⟩); clear h10)
    have HRV10 := xH ((HS10.out.1.block _ (by have := HZ9.out; omega)).trans HRV9.out);have HB11 := xH (trw.qi HB10.out HS10.out.1);have HN10 := xH (qV HS10.out.1 HN9.out);go_wp2_with (first
     | (refine ql rfl _ rfl w9.heap.size rfl y HS10.out.2 ?_)
     | (refine qh rfl rfl _ _ rfl w.heap.size rfl _ y HRV10.out rfl HO9.out rfl ?_))
    refine xB (qZ rfl _ _ w.heap.size y rfl (setRow_heap _ _ _ _ _ _ HRV10.out)) rfl ?_;refine ⟨rpw.qC HB11.out _ (xL _), ?_⟩;rw [HT.out];refine .inr ⟨HC0.out, y, j, ?_, qY (fun a v hc => ?_) HN10.out, by rw [HX.out]; exact HS9.out⟩
    ·rw [HE.out];rfl
    ·have h1 := jB.1 hc;simp only [dD] at h1;exact rpw.jI _ h1.2 (by have := HW0.out; omega)
end rwl11
end
section
namespace wdf
open sq
open Go Ieee
theorem lg_shift {n : Nat} (h : n ≠ 0) (s : Nat) : (n <<< s).log2 = n.log2 + s := by
 have hp : 0 < 2 ^ s := Nat.two_pow_pos s;rw [Nat.shiftLeft_eq];refine (Nat.log2_eq_iff (Nat.mul_ne_zero h (by omega))).2 ⟨?_, ?_⟩
 ·rw [Nat.pow_add]; exact Nat.mul_le_mul_right _ (Nat.log2_self_le h)
 ·rw [show n.log2 + s + 1 = (n.log2 + 1) + s by omega, Nat.pow_add];exact Nat.mul_lt_mul_of_pos_right Nat.lt_log2_self hp
theorem cut_shift (way : Toward) (hw : way = .even ∨ way = .zero) (n d : Nat) (hd : d ≤ (n <<< d).log2 + 2) : way.cut false (n <<< d) d = n := by
 have hp : 0 < 2 ^ d := Nat.two_pow_pos d;have e1 : (n <<< d) / (1 <<< d) = n := by rw [Nat.shiftLeft_eq, Nat.shiftLeft_eq, Nat.one_mul, Nat.mul_div_cancel _ hp]
 have e2 : (n <<< d) % (1 <<< d) = 0 := by rw [Nat.shiftLeft_eq, Nat.shiftLeft_eq, Nat.one_mul, Nat.mul_mod_left]
 have e3 : (1 <<< d : Nat) ≠ 0 := by rw [Nat.shiftLeft_eq, Nat.one_mul]; omega
 unfold Toward.cut;rw [Nat.min_eq_left hd];simp only [e1, e2];rcases hw with rfl | rfl <;> simp [e3]
theorem near {n : Nat} (h : n ≠ 0) (hb : n < 2 ^ 53) (s : Nat) : Ieee.double.nearest false (n <<< s) (-(s : Int)) = (n.log2 + 1022) * 2 ^ 52 + n <<< (52 - n.log2) := by
 have hl : n.log2 < 53 := (Nat.log2_lt h).2 hb;have hne : n <<< s ≠ 0 := by have hp : 0 < 2 ^ s := Nat.two_pow_pos s;rw [Nat.shiftLeft_eq]; exact Nat.mul_ne_zero h (by omega)
 have hk1 : 2 ^ 52 ≤ n <<< (52 - n.log2) := by exact z92
 have hk2 : n <<< (52 - n.log2) < 2 ^ 53 := by exact z77
 have hlast : max (-(s : Int) + ((n <<< s).log2 : Nat) - (52 : Nat)) (-1074) = (n.log2 : Int) - 52 := by rw [lg_shift h]; omega
 have hkept : Toward.even.cut false ((n <<< s) <<< (-(s : Int) - ((n.log2 : Int) - 52)).toNat) (((n.log2 : Int) - 52) - -(s : Int)).toNat = n <<< (52 - n.log2) := by
  by_cases hc : 52 ≤ n.log2 + s
  ·rw [show (-(s : Int) - ((n.log2 : Int) - 52)).toNat = 0 by omega, show (((n.log2 : Int) - 52) - -(s : Int)).toNat = n.log2 + s - 52 by omega];rw [show (n <<< s) <<< 0 = (n <<< (52 - n.log2)) <<< (n.log2 + s - 52) by rw [← Nat.shiftLeft_add, ← Nat.shiftLeft_add]; congr 1; omega]
   refine cut_shift .even (.inl rfl) _ _ ?_;rw [lg_shift (by omega)]; omega
  ·rw [show (-(s : Int) - ((n.log2 : Int) - 52)).toNat = 52 - n.log2 - s by omega, show (((n.log2 : Int) - 52) - -(s : Int)).toNat = 0 by omega];rw [show (n <<< s) <<< (52 - n.log2 - s) = (n <<< (52 - n.log2)) <<< 0 by rw [← Nat.shiftLeft_add, ← Nat.shiftLeft_add]; congr 1; omega]
   exact cut_shift .even (.inl rfl) _ _ (by omega)
 unfold Ieee.Format.nearest;rw [if_neg hne];have e1 : Ieee.double.leastPlace = -1074 := by decide +kernel
 have e2 : Ieee.double.fractionBits = 52 := rfl;have e3 : Ieee.double.binade = 2 ^ 52 := rfl;have e4 : Ieee.double.infRung = 2047 * 2 ^ 52 := by decide +kernel
 simp only [e1, e2, e3, e4];rw [hlast, hkept];unfold Ieee.Format.word;rw [if_neg (by decide)];rw [show ((n.log2 : Int) - 52 - -1074).toNat = n.log2 + 1022 by omega];have hmul := Nat.mul_le_mul_right (2 ^ 52) (show n.log2 + 1022 ≤ 1074 by omega);have hle : (n.log2 + 1022) * 2 ^ 52 + n <<< (52 - n.log2) ≤ 2047 * 2 ^ 52 := by clear hkept hlast hk1;generalize n <<< (52 - n.log2) = K at hk2;clear hmul hne hb h;generalize n.log2 = L at hl;omega
 exact Nat.min_eq_left hle
def fl (n : Nat) : Nat := floatOfInt .f64 (n : Int)
theorem fl_def (n : Nat) : fl n = Ieee.double.nearest false n 0 := by
 unfold fl floatOfInt FloatKind.nearest FloatKind.encode Ieee.Format.write;simp only [FloatKind.format]
 congr 1
theorem fl_zero : fl 0 = 0 := by decide +kernel
theorem fl_near {n : Nat} (hb : n < 2 ^ 53) (s : Nat) : Ieee.double.nearest false (n <<< s) (-(s : Int)) = fl n := by
 by_cases h : n = 0
 ·subst h;rw [fl_zero, Nat.zero_shiftLeft];unfold Ieee.Format.nearest;rw [if_pos rfl]; rfl
 ·rw [near h hb, fl_def];have := near h hb 0;rw [Nat.shiftLeft_zero] at this;rw [← this]; rfl
theorem fl_read {n : Nat} (hb : n < 2 ^ 53) : ∃ s : Nat, s ≤ 1074 ∧ Ieee.double.read (fl n) = .number false (n <<< s) (-(s : Int)) := by
 by_cases h : n = 0
 ·subst h;refine ⟨1074, xL _, ?_⟩;rw [fl_zero, Nat.zero_shiftLeft]; decide +kernel
 ·have hl : n.log2 < 53 := (Nat.log2_lt h).2 hb;have hk1 : 2 ^ 52 ≤ n <<< (52 - n.log2) := by exact z92
  have hk2 : n <<< (52 - n.log2) < 2 ^ 53 := by exact z77
  refine ⟨52 - n.log2, by omega, ?_⟩;rw [← fl_near hb 0, near h hb 0];generalize hK : n <<< (52 - n.log2) = K at hk1 hk2 ⊢;have e0 : Ieee.double.signWeight = 2 ^ 63 := by decide +kernel
  have e1 : Ieee.double.leastPlace = -1074 := by decide +kernel
  have e3 : Ieee.double.binade = 2 ^ 52 := rfl;have e4 : Ieee.double.infRung = 2047 * 2 ^ 52 := by decide +kernel
  generalize hL : n.log2 = L at hl ⊢;have hlt : (L + 1022) * 2 ^ 52 + K < 2 ^ 63 := by omega
  unfold Ieee.Format.read;simp only [e0, e1, e3, e4];rw [Nat.mod_eq_of_lt hlt, Nat.div_eq_of_lt hlt];rw [if_neg (by omega), if_pos (by omega)];have d1 : ((L + 1022) * 2 ^ 52 + K) % 2 ^ 52 = K - 2 ^ 52 := by omega
  have d2 : ((L + 1022) * 2 ^ 52 + K) / 2 ^ 52 = L + 1023 := by omega
  rw [d1, d2, show 2 ^ 52 + (K - 2 ^ 52) = K by omega, show (-1074 + ((L + 1023 - 1 : Nat) : Int)) = -((52 - L : Nat) : Int) by omega];rfl
theorem fl_add {a b : Nat} (h : a + b < 2 ^ 53) : floatBits .add .f64 (fl a) (fl b) = some (fl (a + b)) := by
 obtain ⟨i, hi, ha⟩ := fl_read (show a < 2 ^ 53 by omega);obtain ⟨j, hj, hb⟩ := fl_read (show b < 2 ^ 53 by omega);show Ieee.double.add (fl a) (fl b) = _;unfold Ieee.Format.add;rw [ha, hb];have e1 : (-(i : Int) - min (-(i : Int)) (-(j : Int))).toNat = max i j - i := by omega
 have e2 : (-(j : Int) - min (-(i : Int)) (-(j : Int))).toNat = max i j - j := by omega
 have e3 : min (-(i : Int)) (-(j : Int)) = -((max i j : Nat) : Int) := by omega
 simp only [Ieee.Datum.sum, e1, e2, Ieee.signed, Bool.false_eq_true, if_false, Option.map_some, ← Nat.shiftLeft_add];rw [show i + (max i j - i) = max i j by omega, show j + (max i j - j) = max i j by omega, e3];rw [show ((a <<< (max i j) : Nat) : Int) + ((b <<< (max i j) : Nat) : Int) = (((a + b) <<< (max i j) : Nat) : Int) by rw [Nat.shiftLeft_eq, Nat.shiftLeft_eq, Nat.shiftLeft_eq, Nat.add_mul]; rfl]
 rw [Int.natAbs_natCast];have e5 : (if (((a + b) <<< (max i j) : Nat) : Int) = 0 then (false && false) else decide ((((a + b) <<< (max i j) : Nat) : Int) < 0)) = false := by
  split
  ·rfl
  ·rw [dD]; exact Int.not_lt.2 (Int.natCast_nonneg _)
 rw [e5];exact congrArg some (fl_near h _)
theorem fl_mul {a b : Nat} (ha' : a < 2 ^ 53) (hb' : b < 2 ^ 53) (h : a * b < 2 ^ 53) : floatBits .mul .f64 (fl a) (fl b) = some (fl (a * b)) := by
 obtain ⟨i, hi, ha⟩ := fl_read ha';obtain ⟨j, hj, hb⟩ := fl_read hb';show Ieee.double.mul (fl a) (fl b) = _;unfold Ieee.Format.mul;rw [ha, hb];simp only [Ieee.Datum.product, Option.map_some];rw [show (a <<< i) * (b <<< j) = (a * b) <<< (i + j) by simp only [Nat.shiftLeft_eq, Nat.pow_add]; ac_rfl]
 rw [show -(i : Int) + -(j : Int) = -((i + j : Nat) : Int) by omega];exact congrArg some (fl_near h _)
theorem fl_order {a b : Nat} (ha' : a < 2 ^ 53) (hb' : b < 2 ^ 53) : FloatKind.f64.format.order (fl a) (fl b) = some (if a < b then .lt else if a = b then .eq else .gt) := by
 obtain ⟨i, hi, ha⟩ := fl_read ha';obtain ⟨j, hj, hb⟩ := fl_read hb';show Ieee.double.order (fl a) (fl b) = _;unfold Ieee.Format.order;rw [ha, hb];have e1 : (-(i : Int) - min (-(i : Int)) (-(j : Int))).toNat = max i j - i := by omega
 have e2 : (-(j : Int) - min (-(i : Int)) (-(j : Int))).toNat = max i j - j := by omega
 simp only [Ieee.Datum.order, e1, e2, Ieee.signed, Bool.false_eq_true, if_false, ← Nat.shiftLeft_add];rw [show i + (max i j - i) = max i j by omega, show j + (max i j - j) = max i j by omega];rw [Nat.shiftLeft_eq, Nat.shiftLeft_eq];have hp : 0 < 2 ^ (max i j) := Nat.two_pow_pos _;generalize 2 ^ (max i j) = P at hp;show some (compareOfLessAndEq _ _) = _;unfold compareOfLessAndEq;by_cases h1 : a < b
 ·have := Nat.mul_lt_mul_of_pos_right h1 hp;rw [if_pos (by omega), if_pos h1]
 ·by_cases h2 : a = b
  ·subst h2; simp
  ·have := Nat.mul_lt_mul_of_pos_right (show b < a by omega) hp;rw [if_neg (by omega), if_neg (by omega), if_neg h1, if_neg h2]
theorem fl_neg {a : Nat} (ha' : a < 2 ^ 53) : (FloatKind.f64.decode (fl a)).neg = false := by obtain ⟨i, _, ha⟩ := fl_read ha';show (Ieee.double.read (fl a)).neg = false;rw [ha]; rfl
theorem fl_int {a : Nat} (ha' : a < 2 ^ 53) : floatToIntVal .f64 (fl a) .i64 = some (a : Int) := by
 obtain ⟨i, hi, ha⟩ := fl_read ha';unfold floatToIntVal;show (match (Ieee.double.read (fl a)).toInt .zero with | some n => _ | none => _) = _;rw [ha];simp only [Ieee.Datum.toInt, Ieee.Datum.integral];rw [show (-(i : Int)).toNat = 0 by omega, show (- -(i : Int)).toNat = i by omega, Nat.shiftLeft_zero];have hc : Toward.zero.cut false (a <<< i) i = a := by
  by_cases h0 : a = 0
  ·subst h0; rw [Nat.zero_shiftLeft]; unfold Toward.cut; simp
  ·exact cut_shift .zero (.inr rfl) _ _ (by rw [lg_shift h0]; omega)
 rw [hc];have e : Ieee.signed false a 0 = (a : Int) := by unfold Ieee.signed; simp
 simp only [e];rw [if_pos];have e1 : IntKind.i64.min = -9223372036854775808 := by decide +kernel
 have e2 : IntKind.i64.max = 9223372036854775807 := by decide +kernel
 rw [e1, e2]; omega
section
variable {P : Program} (w : World)
theorem run_min_fl (ts : Array TypeId) (t : TypeId) {a b : Nat} (ha : a < 2 ^ 53) (hb : b < 2 ^ 53) :
 (Builtin.min_ ts t #[.float .f64 (fl a), .float .f64 (fl b)]).run P w = .ok (.float .f64 (fl (min a b))) w := by
 have ho := fl_order ha hb;have hn := fl_neg ha;by_cases h1 : a < b
 ·rw [if_pos h1] at ho;simp [Builtin.min_, Builtin.min2, ho, Nat.min_eq_left (Nat.le_of_lt h1)]
 ·by_cases h2 : a = b
  ·subst h2;rw [if_neg h1, if_pos rfl] at ho;simp [Builtin.min_, Builtin.min2, ho]
  ·rw [if_neg h1, if_neg h2] at ho;simp [Builtin.min_, Builtin.min2, ho, Nat.min_eq_right (show b ≤ a by omega)]
theorem run_max_fl (ts : Array TypeId) (t : TypeId) {a b : Nat} (ha : a < 2 ^ 53) (hb : b < 2 ^ 53) :
 (Builtin.max_ ts t #[.float .f64 (fl a), .float .f64 (fl b)]).run P w = .ok (.float .f64 (fl (max a b))) w := by
 have ho := fl_order ha hb;have hn := fl_neg ha;by_cases h1 : a < b
 ·rw [if_pos h1] at ho;simp [Builtin.max_, Builtin.max2, ho, Nat.max_eq_right (Nat.le_of_lt h1)]
 ·by_cases h2 : a = b
  ·subst h2;rw [if_neg h1, if_pos rfl] at ho;simp [Builtin.max_, Builtin.max2, ho]
  ·rw [if_neg h1, if_neg h2] at ho;simp [Builtin.max_, Builtin.max2, ho, Nat.max_eq_left (show b ≤ a by omega)]
end
end wdf
end
section
namespace wdp
open sq
open Go trp rpp
abbrev Wd := Nat × Nat
def unk : Wd := (0, 1001)
def bnd (w : Wd) : Wd := (min w.1 1000, min w.2 1001)
def orW (a b : Wd) : Wd := (min a.1 b.1, max a.2 b.2)
def moreN (m : Int) : Nat := if m < 0 then 1001 else m.toNat
def timesW (w : Wd) (n m : Int) : Wd := bnd (n.toNat * w.1, moreN m * w.2)
def toldP (w : Wd) : Int × Int := (w.1, if 1000 < w.2 then -1 else w.2)
def acc1 (x : Lab) : Bool := decide (x.kind = 9) && decide (x.n = 1)
def accF : F → Bool
 | .nil => false
 | .cons x k r => acc1 x || accF k || accF r
def sumW (l : List Wd) : Wd := l.foldl (fun t w => bnd (t.1 + w.1, t.2 + w.2)) (0, 0)
def chF (l : List Wd) (a : Wd) : Wd := l.foldl (fun a w => orW w a) a
def chW : List Wd → Wd
 | [] => (0, 0)
 | w :: l => chF l w
def brW (x : Lab) (l : List Wd) : List Wd := if x.n = 13 then l.drop 1 else l
def condB (b : List Wd) : Wd := if b.length < 2 then orW (chW b) (0, 0) else chW b
def condW (x : Lab) (l : List Wd) : Wd := if x.n = 12 then (0, 0) else condB (brW x l)
def oneW (env : Int → Wd) (x : Lab) (l : List Wd) : Wd :=
 if x.kind = 2 then (1, 1)
 else if x.kind = 7 then unk
 else if x.kind = 12 ∨ x.kind = 14 ∨ x.kind = 17 then sumW l
 else if x.kind = 13 ∨ x.kind = 16 then chW l
 else if x.kind = 19 then condW x l
 else if x.kind = 20 then timesW (sumW l) x.n x.m
 else if x.kind = 8 then env x.n
 else (0, 0)
def wids (env : Int → Wd) : F → List Wd
 | .nil => []
 | .cons x k r => oneW env x (wids env k) :: wids env r
def partW (env : Int → Wd) (t : Nd) : Wd := if accF (F.one t.1 t.2) = true then unk else oneW env t.1 (wids env t.2)
def firstG (n : Int) : F → Option Nd
 | .nil => none
 | .cons x k r => if x.kind = 14 ∧ x.n = n then some (x, k) else (firstG n k).or (firstG n r)
def env0 : Int → Wd := fun _ => unk
def callW (t : Nd) (n : Int) : Wd :=
 match (if n = 0 then some t else firstG n (F.one t.1 t.2)) with
 | none => unk
 | some s => partW env0 s
def widP (t root : Nd) : Int × Int := toldP (partW (callW root) t)
def isBe (x : Lab) : Bool := decide (x.kind = 18) && (decide (x.n = 7) || decide (x.n = 8))
def altsP : F → F
 | .cons x k .nil => if x.kind = 13 then k else .cons x k .nil
 | l => l
def fixP (root : Nd) : F → Bool
 | .nil => true
 | .cons x k r => decide ((widP (x, k) root).1 = (widP (x, k) root).2) && decide ((widP (x, k) root).2 ≤ 255) && fixP root r
def behF (root : Nd) : F → Option Int
 | .nil => none
 | .cons x k r => if isBe x = true ∧ fixP root (altsP k) = false then some x.at_ else (behF root k).or (behF root r)
def Bw (w : Wd) : Prop := w.1 ≤ 1000 ∧ w.2 ≤ 1001
theorem bw_bnd (w : Wd) : Bw (bnd w) := ⟨Nat.min_le_right _ _, Nat.min_le_right _ _⟩
theorem bw_unk : Bw unk := ⟨by decide, by decide⟩
theorem bw_or {a b : Wd} (ha : Bw a) (hb : Bw b) : Bw (orW a b) := ⟨Nat.le_trans (Nat.min_le_left _ _) ha.1, Nat.max_le.2 ⟨ha.2, hb.2⟩⟩
theorem bw_zero : Bw (0, 0) := ⟨by decide, by decide⟩
theorem bw_sumG : ∀ (l : List Wd) (a : Wd), Bw a → Bw (l.foldl (fun t w => bnd (t.1 + w.1, t.2 + w.2)) a)
 | [], _, h => h
 | _ :: l, _, _ => bw_sumG l _ (bw_bnd _)
theorem bw_sum (l : List Wd) : Bw (sumW l) := bw_sumG l _ bw_zero
theorem bw_chF : ∀ (l : List Wd) (a : Wd), (∀ w ∈ l, Bw w) → Bw a → Bw (chF l a)
 | [], _, _, h => h
 | w :: l, a, hl, h => bw_chF l (orW w a) (fun v hv => hl v (List.mem_cons_of_mem _ hv)) (bw_or (hl w dJ) h)
theorem bw_ch {l : List Wd} (h : ∀ w ∈ l, Bw w) : Bw (chW l) := by
 cases l with
 | nil => exact bw_zero
 | cons w l => exact bw_chF l w (fun v hv => h v (List.mem_cons_of_mem _ hv)) (h w dJ)
theorem bw_cond {x : Lab} {l : List Wd} (h : ∀ w ∈ l, Bw w) : Bw (condW x l) := by
 have h2 : ∀ w ∈ brW x l, Bw w := by
  unfold brW;split
  ·exact fun w hw => h w (List.mem_of_mem_drop hw)
  ·exact h
 unfold condW;split
 ·exact bw_zero
 ·unfold condB;split
  ·exact bw_or (bw_ch h2) bw_zero
  ·exact bw_ch h2
theorem bw_one {env : Int → Wd} (he : ∀ n, Bw (env n)) {x : Lab} {l : List Wd} (h : ∀ w ∈ l, Bw w) : Bw (oneW env x l) := by
 unfold oneW
 repeat' split
 ·exact ⟨by decide, by decide⟩
 ·exact bw_unk
 ·exact bw_sum l
 ·exact bw_ch h
 ·exact bw_cond h
 ·exact bw_bnd _
 ·exact he _
 ·exact bw_zero
theorem bw_wids {env : Int → Wd} (he : ∀ n, Bw (env n)) : ∀ (f : F), ∀ w ∈ wids env f, Bw w
 | .nil, w, h => by cases h
 | .cons x k r, w, h => by
  rcases List.mem_cons.1 h with rfl | h
  ·exact bw_one he (bw_wids he k)
  ·exact bw_wids he r w h
theorem bw_part {env : Int → Wd} (he : ∀ n, Bw (env n)) (t : Nd) : Bw (partW env t) := by
 unfold partW;split
 ·exact bw_unk
 ·exact bw_one he (bw_wids he _)
theorem bw_env0 (n : Int) : Bw (env0 n) := bw_unk
theorem bw_call (t : Nd) (n : Int) : Bw (callW t n) := by
 unfold callW;split
 ·exact bw_unk
 ·exact bw_part bw_env0 _
theorem bw_wid (t root : Nd) : Bw (partW (callW root) t) := bw_part (bw_call root) t
theorem wids_len (env : Int → Wd) : ∀ f : F, (wids env f).length = f.len
 | .nil => rfl
 | .cons _ _ r => by rw [wids, dB, wids_len env r]; rfl
theorem wids_drop (env : Int → Wd) : ∀ (f : F) (i : Nat), (wids env f).drop i = wids env (f.drop i)
 | .nil, i => by cases i <;> rfl
 | .cons _ _ r, 0 => rfl
 | .cons x k r, i + 1 => by show (wids env r).drop i = wids env (r.drop i);exact wids_drop env r i
theorem acc_one (x : Lab) (k : F) : accF (F.one x k) = (acc1 x || accF k) := by simp [F.one, accF]
def RpX (x : Lab) : Prop := x.kind = 20 → 0 ≤ x.n ∧ x.n ≤ 100000 ∧ -1 ≤ x.m ∧ x.m ≤ 100000 ∧ (x.m = -1 ∨ x.n ≤ x.m)
def FitC : F → Prop
 | .nil => True
 | .cons x k r => (RpX x ∧ (x.kind = 8 → 0 ≤ x.n ∧ x.n ≤ 1000000)) ∧ FitC k ∧ FitC r
theorem first_fitC {n : Int} : ∀ {f : F} {t : Nd}, FitC f → firstG n f = some t → FitC (F.one t.1 t.2)
 | .nil, _, _, h => by cases h
 | .cons x k r, t, hr, h => by
  unfold firstG at h;split at h
  ·cases h;exact ⟨hr.1, hr.2.1, trivial⟩
  ·cases hk : firstG n k with
   | some s =>
    rw [hk] at h;cases h;exact first_fitC hr.2.1 hk
   | none =>
    rw [hk] at h;exact first_fitC hr.2.2 h
def Le (w : Wd) : Prop := w.1 ≤ w.2
theorem le_bnd {a b : Nat} (h : min a 1000 ≤ b) : Le (bnd (a, b)) := by show min a 1000 ≤ min b 1001;omega
theorem le_sumG : ∀ (l : List Wd) (t : Wd), (∀ w ∈ l, Le w) → Le t → Le (l.foldl (fun t w => bnd (t.1 + w.1, t.2 + w.2)) t)
 | [], _, _, h => h
 | w :: l, t, hl, h => by refine le_sumG l _ (fun v hv => hl v (List.mem_cons_of_mem _ hv)) (le_bnd ?_);have h1 := hl w dJ;unfold Le at h h1;omega
theorem le_or {a b : Wd} (ha : Le a) (hb : Le b) : Le (orW a b) := by unfold Le orW at *;simp only;omega
theorem le_chF : ∀ (l : List Wd) (t : Wd), (∀ w ∈ l, Le w) → Le t → Le (chF l t)
 | [], _, _, h => h
 | w :: l, t, hl, h => le_chF l (orW w t) (fun v hv => hl v (List.mem_cons_of_mem _ hv)) (le_or (hl w dJ) h)
theorem le_ch {l : List Wd} (h : ∀ w ∈ l, Le w) : Le (chW l) := by
 cases l with
 | nil => exact xL _
 | cons w l => exact le_chF l w (fun v hv => h v (List.mem_cons_of_mem _ hv)) (h w dJ)
theorem le_times {w : Wd} (h : Le w) (hb : Bw w) {n m : Int} (hn : 0 ≤ n) (hm : m = -1 ∨ n ≤ m) : Le (timesW w n m) := by
 obtain ⟨a, b⟩ := w;simp only [Le, Bw] at h hb;refine le_bnd ?_;unfold moreN;rcases hm with rfl | hm
 ·rw [if_pos (by decide)];by_cases h0 : b = 0
  ·obtain rfl : a = 0 := by omega
   simp
  ·omega
 ·rw [if_neg (by omega)];exact Nat.le_trans (Nat.min_le_left _ _) (Nat.mul_le_mul (by omega) h)
theorem le_one {env : Int → Wd} (he : ∀ n, Le (env n)) {x : Lab} {l : List Wd} (h : ∀ w ∈ l, Le w) (hf : RpX x) : Le (oneW env x l) := by
 unfold oneW;split
 ·exact xL _
 split
 ·exact Nat.zero_le _
 split
 ·exact le_sumG l (0, 0) h (xL _)
 split
 ·exact le_ch h
 split
 ·unfold condW;split
  ·exact xL _
  ·have h2 : ∀ w ∈ brW x l, Le w := by
    unfold brW;split
    ·exact fun w hw => h w (List.mem_of_mem_drop hw)
    ·exact h
   unfold condB;split
   ·exact le_or (le_ch h2) (xL _)
   ·exact le_ch h2
 split
 ·rename_i h20;exact le_times (le_sumG l (0, 0) h (xL _)) (bw_sum l) (hf h20).1 (hf h20).2.2.2.2
 split
 ·exact he _
 ·exact xL _
theorem le_wids {env : Int → Wd} (he : ∀ n, Le (env n)) : ∀ {f : F}, FitC f → ∀ w ∈ wids env f, Le w
 | .nil, _, w, h => by cases h
 | .cons x k r, hf, w, h => by
  rcases List.mem_cons.1 h with rfl | h
  ·exact le_one he (le_wids he hf.2.1) hf.1.1
  ·exact le_wids he hf.2.2 w h
theorem le_part {env : Int → Wd} (he : ∀ n, Le (env n)) {t : Nd} (hf : FitC (F.one t.1 t.2)) : Le (partW env t) := by
 unfold partW;split
 ·exact Nat.zero_le _
 ·exact le_one he (le_wids he hf.2.1) hf.1.1
theorem le_call {t : Nd} (hf : FitC (F.one t.1 t.2)) (n : Int) : Le (callW t n) := by
 unfold callW;have h0 : ∀ n, Le (env0 n) := fun _ => Nat.zero_le _
 by_cases hn : n = 0
 ·rw [if_pos hn];exact le_part h0 hf
 ·rw [if_neg hn];cases hg : firstG n (F.one t.1 t.2) with
  | none => exact Nat.zero_le _
  | some s => exact le_part h0 (first_fitC hf hg)
theorem wid_bounds {t root : Nd} (hf : FitC (F.one t.1 t.2)) (hr : FitC (F.one root.1 root.2)) : 0 ≤ (widP t root).1 ∧ (widP t root).1 ≤ 1000 ∧ ((widP t root).2 = -1 ∨ ((widP t root).1 ≤ (widP t root).2 ∧ (widP t root).2 ≤ 1000)) := by have h1 := bw_wid t root;have h2 := le_part (le_call hr) hf;unfold widP toldP;generalize partW (callW root) t = p at h1 h2 ⊢;obtain ⟨a, b⟩ := p;simp only [Bw, Le] at h1 h2;simp only;split <;> omega
end wdp
end
section
namespace wdw
open sq
open Go Go.RowKit trp trw rpp wdp wdf
theorem wpList_store_nf {ops : Array Oper} {rest : List Oper} {o : Oper} {a : Act} {w : World} {Q : Exit → Act → World → Prop} (hgd : o.guard = none) (hd : o.dst = none) (x y : Operand) (ho : o.op = .store 27 x y) (hx : a.eval x = .pointer (some ⟨w.heap.size, 0, none⟩)) (l : Lab) (h1 : ∀ u ∈ ndC l, u.oneCell' = true) (hy : a.eval y = ndV l)
 (h : ∀ w', Hid (Below w.heap.size w w' ∧ w'.heap[w.heap.size]? = some (.cells (ndC l).toArray 27 (0, 0))) → wpList Try.prog ops Q rest a w') :
 wpList Try.prog ops Q (o :: rest) a (w.alloc (.cells #[.int .i64 0, .int .i64 0, .int .i64 0, .slice none 0 0, .bool false, .int .i64 0, .int .i64 0, .int .i64 0, .string ⟨#[]⟩, .int .i64 0, .int .i64 0, .slice none 0 0] 27)) :=
 gqw.wpList_store_ny hgd hd x y ho w.heap.size hx _ l (heap_alloc_new w _) rfl h1 hy fun w' e => h w' (xH (by rw [e.out]; exact ⟨rpw.jU w _ _ _, setRow_heap _ _ _ _ _ _ (heap_alloc_new w _)⟩))
def cW (p : Wd) : Value := .complex .f64 (fl p.1) (fl p.2)
theorem cW_zero : cW (0, 0) = .complex .f64 0 0 := by unfold cW; rw [fl_zero]
theorem fl_1 : fl 1 = 4607182418800017408 := by decide +kernel
theorem fl_1000 : fl 1000 = 4652007308841189376 := by decide +kernel
theorem fl_1001 : fl 1001 = 4652016104934211584 := by decide +kernel
theorem cW_one : cW (1, 1) = .complex .f64 4607182418800017408 4607182418800017408 := by unfold cW; rw [fl_1]
theorem cW_unk : cW unk = .complex .f64 0 4652016104934211584 := by unfold cW unk; rw [fl_zero, fl_1001]
def WB (r : Wd) (w : World) (e : Ending) (w' : World) : Prop := e = .returned (cW r) ∧ Below w.heap.size w w'
theorem unknown_any (w : World) : Calls Try.prog 60 #[] w (WB unk w) := by
 unfold WB;rw [cW_unk];go_enter Try.func60, Try.ntmps60;go_wp2_with fail
 go_ret
 exact ⟨rfl, Below.refl _ _⟩
theorem bounded_any (p : Wd) (h1 : p.1 < 2 ^ 53) (h2 : p.2 < 2 ^ 53) (w : World) : Calls Try.prog 113 #[cW p] w (WB (bnd p) w) := by
 have m1 : ∀ (w : World) ts t, (Builtin.min_ ts t #[.float .f64 (fl p.1), .float .f64 4652007308841189376]).run Try.prog w = .ok (.float .f64 (fl (min p.1 1000))) w := fun w ts t => by rw [← fl_1000]; exact run_min_fl w ts t h1 (by decide)
 have m2 : ∀ (w : World) ts t, (Builtin.min_ ts t #[.float .f64 (fl p.2), .float .f64 4652016104934211584]).run Try.prog w = .ok (.float .f64 (fl (min p.2 1001))) w := fun w ts t => by rw [← fl_1001]; exact run_min_fl w ts t h2 (by decide)
 clear h1 h2;unfold WB bnd cW;go_enter Try.func113, Try.ntmps113;go_wp2_with fail
 go_ret
 exact ⟨rfl, Below.refl _ _⟩
theorem or_any (p q : Wd) (h1 : p.1 < 2 ^ 53) (h2 : p.2 < 2 ^ 53) (h3 : q.1 < 2 ^ 53) (h4 : q.2 < 2 ^ 53) (w : World) : Calls Try.prog 114 #[cW p, cW q] w (WB (orW p q) w) := by
 have m1 : ∀ (w : World) ts t, (Builtin.min_ ts t #[.float .f64 (fl p.1), .float .f64 (fl q.1)]).run Try.prog w = .ok (.float .f64 (fl (min p.1 q.1))) w := fun w ts t => run_min_fl w ts t h1 h3
 have m2 : ∀ (w : World) ts t, (Builtin.max_ ts t #[.float .f64 (fl p.2), .float .f64 (fl q.2)]).run Try.prog w = .ok (.float .f64 (fl (max p.2 q.2))) w := fun w ts t => run_max_fl w ts t h2 h4
 clear h1 h2 h3 h4;unfold WB orW cW;go_enter Try.func114, Try.ntmps114;go_wp2_with fail
 go_ret
 exact ⟨rfl, Below.refl _ _⟩
theorem toNat_fl {n : Int} (h : 0 ≤ n) : floatOfInt .f64 n = fl n.toNat := by unfold fl;rw [Int.toNat_of_nonneg h]
theorem times_any (p : Wd) (n m : Int) (hp : Bw p) (hn : 0 ≤ n ∧ n ≤ 100000) (hm : -1 ≤ m ∧ m ≤ 100000) (w : World) : Calls Try.prog 87 #[cW p, .int .i64 n, .int .i64 m] w (WB (timesW p n m) w) := by
 obtain ⟨a, b⟩ := p;simp only [Bw] at hp;have hM : (moreN m : Int) = if m < 0 then 1001 else m := by unfold moreN; split <;> omega
 have hMb : moreN m ≤ 100000 := by unfold moreN; split <;> omega
 have k1 : n.toNat * a ≤ 100000 * 1000 := Nat.mul_le_mul (by omega) hp.1;have k2 : moreN m * b ≤ 100000 * 1001 := Nat.mul_le_mul hMb hp.2;have e1 := run_float_arith (P := Try.prog) (op := .mul) (h := fl_mul (a := n.toNat) (b := a) (by omega) (by omega) (by omega));have e2 := run_float_arith (P := Try.prog) (op := .mul) (h := fl_mul (a := moreN m) (b := b) (by omega) (by omega) (by omega));have HB := xH (bounded_any (n.toNat * a, moreN m * b) (by show n.toNat * a < 2 ^ 53; omega) (by show moreN m * b < 2 ^ 53; omega));have f1 := toNat_fl hn.1;have f2 : floatOfInt .f64 (if m < 0 then 1001 else m) = fl (moreN m) := by unfold fl; rw [hM]
 obtain ⟨N, hN⟩ : ∃ N, n.toNat = N := ⟨_, rfl⟩;obtain ⟨M, hMM⟩ : ∃ M, moreN m = M := ⟨_, rfl⟩;have HT := xH (show timesW (a, b) n m = bnd (N * a, M * b) from by unfold timesW; rw [hN, hMM]);rw [hN] at e1 HB f1;rw [hMM] at e2 HB f2;rw [HT.out];clear k1 k2 hM hMb hp hN hMM HT;unfold cW at HB;unfold cW;by_cases h0 : m < 0
 ·rw [if_pos h0] at f2;exact z112
 ·rw [if_neg h0] at f2;exact z112
def ToldB (r : Int × Int) (w : World) (e : Ending) (w' : World) : Prop := e = .returned (.tuple #[.int .i64 r.1, .int .i64 r.2]) ∧ Below w.heap.size w w'
theorem told_any (p : Wd) (hp : Bw p) (w : World) : Calls Try.prog 45 #[cW p] w (ToldB (toldP p) w) := by
 obtain ⟨a, b⟩ := p;simp only [Bw] at hp;have e1 := fun (w : World) => run_convert_float_int (P := Try.prog) w 110 3 .f64 .i64 (fl a) a (by kernel_rfl) (by kernel_rfl) (fl_int (by omega))
 have e2 := fun (w : World) => run_convert_float_int (P := Try.prog) w 110 3 .f64 .i64 (fl b) b (by kernel_rfl) (by kernel_rfl) (fl_int (by omega))
 unfold cW ToldB toldP;by_cases h : 1000 < b
 ·have hi : (1000 : Int) < (b : Int) := by omega
  simp only [if_pos h];clear h hp;go_enter Try.func45, Try.ntmps45;go_wp2_with fail
  go_ret2
  exact ⟨rfl, Below.refl _ _⟩
 ·have hi : ¬ (1000 : Int) < (b : Int) := by omega
  simp only [if_neg h];clear h hp;go_enter Try.func45, Try.ntmps45;go_wp2_with fail
  go_ret2
  exact ⟨rfl, Below.refl _ _⟩
end wdw
end
end Go.Proofs.Ytdgfclbajjjcgaa
