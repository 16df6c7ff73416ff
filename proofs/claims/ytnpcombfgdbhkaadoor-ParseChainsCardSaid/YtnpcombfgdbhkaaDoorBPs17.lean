/- T -/
import Derived.Great.BuildSlice
import Derived.Test.YtnpcombfgdbhkaaDoorBPs16
set_option maxHeartbeats 16000000
set_option maxRecDepth 1000000
section
namespace Go.Proofs.YtnpcombfgdbhkaaDoor.psw
open sq
open Go.Sort Go Go.RowKit Go.Maps tkp trp trw rpp psp
open tkw (qO)
open rpw (sees jB qU fC jP FSub vw jQ app_sub jH jm jd qp vW oneR zk jV lab_ok rg_nil qh qA jU)
def hend (H : Nat → Bool) (iv v : Value) (i : Nat) : Bool := (H i && !decide (iv.ownBlock = some i)) || decide (v.ownBlock = some i)
theorem nr_kids {H H' : Nat → Bool} {n : Nat} {w w' : World} {v : Value} {f : F} (h : Nr H n w v f) (hr : w'.ownsRow n 31 12 v f.len (fC f)) (hv : ∀ b, v.ownBlock = some b → H' b = false) (hs : ∀ a u, (sees H w).cell? a = some u → (sees H' w').cell? a = some u) : jr (sees H' w') v f := by
 rcases hr.2 with ⟨hv0, h0⟩ | ⟨q, cap, cur, rfl, hq, hh, h1, h2, _, _⟩
 ·exact ⟨none, 0, by rw [hv0, h0], by omega, by decide, Or.inl h0⟩
 ·unfold maxLen at h2;refine ⟨_, cap, rfl, h1, by omega, Or.inr ⟨q, 0, rfl, vW h.s hs fun j u hj => jB.2 ⟨hv q rfl, ?_⟩⟩⟩;rw [Nat.zero_add, World.ownsRow.cellAt hr j (by have := (List.getElem?_eq_some_iff.1 hj).1; rw [jP] at this; exact this)];exact hj
theorem ap_items {H : Nat → Bool} {n : Nat} {w W : World} {g o m : Nat} {C C' : Array Value} {G : Gv} {v : Value} {xs : List Value} (h : Gi H n w g o C G) (a : Ap w g C' n G.kv v m xs W) : W.ownsRow n 31 12 G.iv G.jf.len (fC G.jf) :=
 tkw.jJ h.i.r fun q hq => a.ch.block q (World.ownsRow.lt h.i.r q hq).2 (by
  simp only [Bool.or_eq_false_iff, decide_eq_false_iff_not];exact ⟨fun e => h.ig (by rw [hq, e]), fun e => h.d q e hq⟩)
theorem ap_see {H : Nat → Bool} {n : Nat} {w W : World} {g o m : Nat} {C C' : Array Value} {G : Gv} {v : Value} {xs : List Value} (h : Gi H n w g o C G) (a : Ap w g C' n G.kv v m xs W) : ∀ b u, (sees H w).cell? b = some u → (sees (hend H G.iv v) W).cell? b = some u :=
 sees_ch a.ch (fun i _ e => by
  simp only [Bool.or_eq_true, decide_eq_true_eq] at e;rcases e with rfl | e
  ·exact h.hg
  ·exact h.k.h _ e) fun i hi e => by
  unfold hend;rw [e, Bool.false_and, Bool.false_or, decide_eq_false_iff_not];intro e2;rcases a.b i e2 with e3 | e3
  ·rw [h.k.h _ e3] at e; cases e
  ·omega
theorem ap_ik {H : Nat → Bool} {n : Nat} {w W : World} {g o m : Nat} {C C' : Array Value} {G : Gv} {v : Value} {xs : List Value} (h : Gi H n w g o C G) (a : Ap w g C' n G.kv v m xs W) : jr (sees (hend H G.iv v) W) G.iv G.jf := by
 refine nr_kids h.i (ap_items h a) (fun b e => ?_) (ap_see h a);simp only [hend, e, decide_true, Bool.not_true, Bool.and_false, Bool.false_or, decide_eq_false_iff_not];intro e2;rcases a.b b e2 with e3 | e3
 ·exact h.d b e3 e
 ·have := (World.ownsRow.lt h.i.r b e).2;omega
theorem kids_out {H : Nat → Bool} {w : World} {v : Value} {f : F} (h : jr (sees H w) v f) : jr w v f := jh (fun _ _ hc => (jB.1 hc).2) h
theorem gs_end {H : Nat → Bool} {n : Nat} {w w' : World} {g o : Nat} {C : Array Value} {G : Gv} {v : Value} (h : Gi H n w g o C G) (_hv : v ≠ nil3) (a : Ap w g ((C.setIfInBounds (o + 12) v).setIfInBounds (o + 13) nil3) n G.kv v (G.kf.len + 1) (fC G.kf ++ ndC (oneR 12 G.iv G.jf).1) w') :
 Gs H n w g o C G (hend H G.iv v) w' ((C.setIfInBounds (o + 12) v).setIfInBounds (o + 13) nil3) { G with kv := v, kf := F.app G.kf (F.one (oneR 12 G.iv G.jf).1 (oneR 12 G.iv G.jf).2), iv := nil3, jf := .nil } := by
 have hsee := ap_see h a;have hn := zk 12 (by unfold I64; omega) (ap_ik h a);have hvb : ∀ i, v.ownBlock = some i → H i = true ∨ w.heap.size ≤ i := fun i e => (a.b i e).imp (h.k.h i) id
 have hsz := a.ch.size;have hvs : ∀ i, v.ownBlock = some i → i < w'.heap.size := fun i e => (World.ownsRow.lt a.r i e).2
 have hig : decide (G.iv.ownBlock = some g) = false := by simpa using h.ig
 refine ⟨⟨a.c, by rw [Array.size_setIfInBounds, Array.size_setIfInBounds]; exact h.s, ?_, ⟨?_, ?_, app_sub (vw hsee h.k.s) ⟨hn, trivial⟩, fun b e => by simp [hend, show v.ownBlock = some b from e]⟩, nr_nil _ _ _, by simp [hend, h.hg, hig], fun e => ?_, fun e => (by cases e), fun b _ e => (by cases e), fun i e => ?_, Nat.le_trans h.n hsz, rgAt_mono hsee h.rg, h.ok⟩, ?_, fun i e _ e2 => by simp [hend, e, e2], fun i e => ?_, by rw [Array.size_setIfInBounds, Array.size_setIfInBounds], fun j hj => (set_out (by omega) hj).trans (set_out (by omega) hj), rfl, rfl, fun b e => a.b b e, fun b e => (by cases e), h.ho⟩
 ·have h1 := set_l (k := 12) (v := v) h.s (by omega) h.l;exact set_l (k := 13) (v := nil3) (by rw [Array.size_setIfInBounds]; exact h.s) (by omega) h1
 ·show w'.ownsRow n 31 12 v (F.app G.kf (F.one _ _)).len (fC (F.app G.kf (F.one _ _)));rw [jd, jQ];simpa [F.one, F.len, fC] using a.r
 ·intro e;exact absurd e (by show (F.app G.kf (F.one _ _)).len ≠ 0; rw [jd]; simp [F.one, F.len])
 ·rcases a.b g e with e2 | e2
  ·exact h.kg e2
  ·have := h.lt; omega
 ·simp only [hend, Bool.or_eq_true, Bool.and_eq_true, decide_eq_true_eq] at e;rcases e with e | e
  ·exact Nat.lt_of_lt_of_le (h.ho i e.1) hsz
  ·exact hvs i e
 ·refine ⟨a.ch.os, a.ch.tape, a.ch.output, a.ch.size, fun i hi e => a.ch.block i hi ?_⟩;simp only [top, Bool.or_eq_false_iff] at e ⊢;exact e.1
 ·simp only [hend, Bool.or_eq_true, Bool.and_eq_true, decide_eq_true_eq] at e;rcases e with e | e
  ·exact Or.inl e.1
  ·exact hvb i e
theorem end_any {H : Nat → Bool} {n : Nat} {w : World} {g o : Nat} {C : Array Value} {G : Gv} (h : Gi H n w g o C G) (hk : G.kf.len ≤ 60000) :
 Calls Tryd.prog 40 #[.pointer (some ⟨g, o, none⟩)] w (GB H n w g o C G fun _ _ G' r => r = .tuple #[] ∧ G'.g = endG G.g) := by
 obtain ⟨Gt, Gsv, Gkv, Gkf, Giv, Gjf⟩ := G;obtain ⟨ka, kc, hkv⟩ := gi_slice h.k.r;obtain ⟨ia, ic, hiv⟩ := gi_slice h.i.r;simp only at hkv hiv hk;subst hkv;subst hiv;have HG1 := xH h;have c13 : w.cell? ⟨g, o + 13, none⟩ = some (.slice ia Gjf.len ic) := gi_cell h rfl;have HA0 := xH (Ap.start h).1.drew;have HNE := xH h.kg;have HCF := xH (show C[o + 12]? = some (.slice ka Gkf.len kc) from h.l 12 _ rfl);have HC13 := xH (show ∀ v : Value, (C.setIfInBounds (o + 12) v)[o + 13]? = some (.slice ia Gjf.len ic) from fun v => by rw [Array.getElem?_setIfInBounds, if_neg (by omega)]; exact h.l 13 _ rfl);have HS := xH (show ∀ (C' : Array Value) (v : Value) (m : Nat) (xs : List Value) (W : World), C'[o + 13]? = some (.slice ia Gjf.len ic) → Ap w g C' n (.slice ka Gkf.len kc) v m xs W → W.cell? ⟨g, o + 13, none⟩ = some (.slice ia Gjf.len ic) from fun _ _ _ _ _ hc e => (e.cell hc).1);have HP := xH (fun (v : Value) => (show Gv.g ⟨Gt, Gsv, v, F.app Gkf (F.one (oneR 12 (.slice ia Gjf.len ic) Gjf).1 (oneR 12 (.slice ia Gjf.len ic) Gjf).2), nil3, .nil⟩ = endG (Gv.g ⟨Gt, Gsv, .slice ka Gkf.len kc, Gkf, .slice ia Gjf.len ic, Gjf⟩) from by unfold Gv.g endG;simp only;rw [jH, jV];rfl))
 have HN1 := xH (qp (zk 12 (by unfold I64; omega) (ap_ik h (Ap.start h).1)));have hbs : n ≤ w.heap.size := h.n;have HCZ := xH (show C[o + 13]? = some (.slice ia Gjf.len ic) from h.l 13 _ rfl);clear h;go_enter Tryd.func40, Tryd.ntmps40;go_wp2_with fail
 refine wp_region_held_drew (S := fun w' => w'.cell? ⟨g, o + 13, none⟩ = some (.slice ia Gjf.len ic)) (by kernel_rfl) c13 (fun hHeld => ?_);generalize hwd : w.drew = wd at *;clear hwd;refine xT 0 rfl ?_ ?_ ?_;rotate_left
 ·intro w' hSw;go_simp;try rfl
 simp only [xS];refine xT 1 rfl ?_ ?_ ?_;rotate_left
 ·intro w' hSw;go_simp;try rfl
 simp only [xS];refine xT 2 rfl ?_ ?_ ?_;rotate_left
 ·intro w' hSw;go_simp;try rfl
 simp only [xS];refine xT 4 rfl ?_ ?_ ?_;rotate_left
 ·intro w' hSw;go_simp;try rfl
 simp only [xS];refine xT 5 rfl ?_ ?_ ?_;rotate_left
 ·intro w' hSw;go_simp;try rfl
 simp only [xS];refine xT 6 rfl ?_ ?_ ?_;rotate_left
 ·intro w' hSw;go_simp;try rfl
 simp only [xS];refine xT 7 rfl ?_ ?_ ?_;rotate_left
 ·intro w' hSw;go_simp;try rfl
 simp only [xS];refine wpAnyH_ready (rs := [3, 8, 10]) (by kernel_rfl) (by simp) ?_;refine AllReadyH.cons rfl (fun K hK => ?_) (AllReadyH.cons rfl (fun K hK => ?_) (AllReadyH.cons rfl (fun K hK => ?_) AllReadyH.nil))
 ·have c1 := (HA0.out.cell HCF.out).1;go_simp;clear c1;refine hK.out _ _ (by first | exact HS.out _ _ _ _ _ HCZ.out HA0.out | exact HS.out _ _ _ _ _ (HC13.out _) HA0.out) (fun hHeld => ?_);clear hK K;try simp only [xS]
  refine xT 9 rfl ?_ ?_ ?_;rotate_left
  ·intro w' hSw;go_simp;try rfl
  simp only [xS];refine wpAnyH_ready (rs := [8, 10]) (by kernel_rfl) (by simp) ?_;refine AllReadyH.cons rfl (fun K hK => ?_) (AllReadyH.cons rfl (fun K hK => ?_) AllReadyH.nil)
  ·go_simp;refine (gather_any 12 (by unfold I64; omega) (.slice ia Gjf.len ic) Gjf _ (kids_out (ap_ik HG1.out HA0.out))).mono ?_;rintro e W2 ⟨rfl, hbn⟩;have HA2 := xH (HA0.out.below hbn);try replace HZ := xH (fun j u hj => trw.qf hbn (HZ.out j u hj))
   clear hbn;refine hK.out _ _ (by first | exact HS.out _ _ _ _ _ HCZ.out HA2.out | exact HS.out _ _ _ _ _ (HC13.out _) HA2.out) (fun hHeld => ?_);clear hK K;try simp only [xS]
   refine xD 10 rfl (fun K hK => ?_);go_simp;generalize hA : World.alloc _ _ = W3;obtain ⟨hz, hbn⟩ := zc_cells hA;clear hA;have HZ := xH hz;have HA3 := xH (HA2.out.below hbn);clear hz hbn;refine hK.out _ _ (by first | exact HS.out _ _ _ _ _ HCZ.out HA3.out | exact HS.out _ _ _ _ _ (HC13.out _) HA3.out) (fun hHeld => ?_);clear hK K;try simp only [xS]
   refine xD 11 rfl (fun K hK => ?_);refine held_ap_append rfl _ _ rfl HA3.out rfl _ rfl HZ.out (by omega) HNE.out (Nat.le_trans hbs HA3.out.ch.size) ?_;intro q cap W4 ha hqg hqo;have HA4 := xH ha;clear ha HZ;refine hK.out _ _ (by first | exact HS.out _ _ _ _ _ HCZ.out HA4.out | exact HS.out _ _ _ _ _ (HC13.out _) HA4.out) (fun hHeld => ?_);clear hK K;try simp only [xS]
   have hidx : (Gkf.len : Int) < (Gkf.len : Int) + 1 := by omega
   have hadd : (⟨q, 0, none⟩ : Addr).add (Gkf.len * 12) = ⟨q, Gkf.len * 12, none⟩ := by rw [add_plain, Nat.zero_add]
   refine xT 12 rfl ?_ ?_ ?_;rotate_left
   ·intro w' hSw;go_simp;try rfl
   simp only [xS];refine xT 14 rfl ?_ ?_ ?_;rotate_left
   ·intro w' hSw;go_simp;try rfl
   simp only [xS];refine xT 15 rfl ?_ ?_ ?_;rotate_left
   ·intro w' hSw;go_simp;try rfl
   simp only [xS];refine wpAnyH_ready (rs := [13, 16]) (by kernel_rfl) (by simp) ?_;refine AllReadyH.cons rfl (fun K hK => ?_) (AllReadyH.cons rfl (fun K hK => ?_) AllReadyH.nil)
   ·refine held_ap_elem rfl rfl _ _ rfl HA4.out rfl (oneR 12 (.slice ia Gjf.len ic) Gjf).1 HN1.out rfl (jP Gkf) hqg ?_;intro W5 ha;have HA5 := xH ha;clear ha;refine hK.out _ _ (by first | exact HS.out _ _ _ _ _ HCZ.out HA5.out | exact HS.out _ _ _ _ _ (HC13.out _) HA5.out) (fun hHeld => ?_);clear hK K;try simp only [xS]
    refine xD 16 rfl (fun K hK => ?_);obtain ⟨c3, c4⟩ := HA5.out.cell HCF.out;have HA6 := xH (HA5.out.fld hqo (o + 12) (.slice (some ⟨q, 0, none⟩) (Gkf.len + 1) cap));go_simp;clear c3 c4;refine hK.out _ _ (by first | exact HS.out _ _ _ _ _ HCZ.out HA6.out | exact HS.out _ _ _ _ _ (HC13.out _) HA6.out) (fun hHeld => ?_);clear hK K;try simp only [xS]
    refine wpAnyH_done (by kernel_rfl) ?_ _;have hC13 := HA6.out.cell (HC13.out _);obtain ⟨c3, c4⟩ := hC13;have HB := xH (HA6.out.fld hqo (o + 13) nil3);go_wp2_with fail
    go_end0
    exact ⟨_, _, _, _, rfl, gs_end HG1.out (fun e => by cases e) HB.out, rfl, HP.out _⟩
   ·obtain ⟨c3, c4⟩ := HA4.out.cell HCF.out;have HA7 := xH (HA4.out.fld hqo (o + 12) (.slice (some ⟨q, 0, none⟩) (Gkf.len + 1) cap));go_simp;clear c3 c4;refine hK.out _ _ (by first | exact HS.out _ _ _ _ _ HCZ.out HA7.out | exact HS.out _ _ _ _ _ (HC13.out _) HA7.out) (fun hHeld => ?_);clear hK K;try simp only [xS]
    refine xD 13 rfl (fun K hK => ?_);refine held_ap_elem rfl rfl _ _ rfl HA7.out rfl (oneR 12 (.slice ia Gjf.len ic) Gjf).1 HN1.out rfl (jP Gkf) hqg ?_;intro W8 ha;have HA8 := xH ha;clear ha;refine hK.out _ _ (by first | exact HS.out _ _ _ _ _ HCZ.out HA8.out | exact HS.out _ _ _ _ _ (HC13.out _) HA8.out) (fun hHeld => ?_);clear hK K;try simp only [xS]
    refine wpAnyH_done (by kernel_rfl) ?_ _;have hC13 := HA8.out.cell (HC13.out _);obtain ⟨c3, c4⟩ := hC13;have HB := xH (HA8.out.fld hqo (o + 13) nil3);go_wp2_with fail
    go_end0
    exact ⟨_, _, _, _, rfl, gs_end HG1.out (fun e => by cases e) HB.out, rfl, HP.out _⟩
  ·go_simp;generalize hA : World.alloc _ _ = W9;obtain ⟨hz, hbn⟩ := zc_cells hA;clear hA;have HZ := xH hz;have HA9 := xH (HA0.out.below hbn);clear hz hbn;refine hK.out _ _ (by first | exact HS.out _ _ _ _ _ HCZ.out HA9.out | exact HS.out _ _ _ _ _ (HC13.out _) HA9.out) (fun hHeld => ?_);clear hK K;try simp only [xS]
   refine xD 8 rfl (fun K hK => ?_);go_simp;refine (gather_any 12 (by unfold I64; omega) (.slice ia Gjf.len ic) Gjf _ (kids_out (ap_ik HG1.out HA9.out))).mono ?_;rintro e W10 ⟨rfl, hbn⟩;have HA10 := xH (HA9.out.below hbn);try replace HZ := xH (fun j u hj => trw.qf hbn (HZ.out j u hj))
   clear hbn;refine hK.out _ _ (by first | exact HS.out _ _ _ _ _ HCZ.out HA10.out | exact HS.out _ _ _ _ _ (HC13.out _) HA10.out) (fun hHeld => ?_);clear hK K;try simp only [xS]
   refine xD 11 rfl (fun K hK => ?_);refine held_ap_append rfl _ _ rfl HA10.out rfl _ rfl HZ.out (by omega) HNE.out (Nat.le_trans hbs HA10.out.ch.size) ?_;intro q cap W11 ha hqg hqo;have HA11 := xH ha;clear ha HZ;refine hK.out _ _ (by first | exact HS.out _ _ _ _ _ HCZ.out HA11.out | exact HS.out _ _ _ _ _ (HC13.out _) HA11.out) (fun hHeld => ?_);clear hK K;try simp only [xS]
   have hidx : (Gkf.len : Int) < (Gkf.len : Int) + 1 := by omega
   have hadd : (⟨q, 0, none⟩ : Addr).add (Gkf.len * 12) = ⟨q, Gkf.len * 12, none⟩ := by rw [add_plain, Nat.zero_add]
   refine xT 12 rfl ?_ ?_ ?_;rotate_left
   ·intro w' hSw;go_simp;try rfl
   simp only [xS];refine xT 14 rfl ?_ ?_ ?_;rotate_left
   ·intro w' hSw;go_simp;try rfl
   simp only [xS];refine xT 15 rfl ?_ ?_ ?_;rotate_left
   ·intro w' hSw;go_simp;try rfl
   simp only [xS];refine wpAnyH_ready (rs := [13, 16]) (by kernel_rfl) (by simp) ?_;refine AllReadyH.cons rfl (fun K hK => ?_) (AllReadyH.cons rfl (fun K hK => ?_) AllReadyH.nil)
   ·refine held_ap_elem rfl rfl _ _ rfl HA11.out rfl (oneR 12 (.slice ia Gjf.len ic) Gjf).1 HN1.out rfl (jP Gkf) hqg ?_;intro W12 ha;have HA12 := xH ha;clear ha;refine hK.out _ _ (by first | exact HS.out _ _ _ _ _ HCZ.out HA12.out | exact HS.out _ _ _ _ _ (HC13.out _) HA12.out) (fun hHeld => ?_);clear hK K;try simp only [xS]
    refine xD 16 rfl (fun K hK => ?_);obtain ⟨c3, c4⟩ := HA12.out.cell HCF.out;have HA13 := xH (HA12.out.fld hqo (o + 12) (.slice (some ⟨q, 0, none⟩) (Gkf.len + 1) cap));go_simp;clear c3 c4;refine hK.out _ _ (by first | exact HS.out _ _ _ _ _ HCZ.out HA13.out | exact HS.out _ _ _ _ _ (HC13.out _) HA13.out) (fun hHeld => ?_);clear hK K;try simp only [xS]
    refine wpAnyH_done (by kernel_rfl) ?_ _;have hC13 := HA13.out.cell (HC13.out _);obtain ⟨c3, c4⟩ := hC13;have HB := xH (HA13.out.fld hqo (o + 13) nil3);go_wp2_with fail
    go_end0
    exact ⟨_, _, _, _, rfl, gs_end HG1.out (fun e => by cases e) HB.out, rfl, HP.out _⟩
   ·obtain ⟨c3, c4⟩ := HA11.out.cell HCF.out;have HA14 := xH (HA11.out.fld hqo (o + 12) (.slice (some ⟨q, 0, none⟩) (Gkf.len + 1) cap));go_simp;clear c3 c4;refine hK.out _ _ (by first | exact HS.out _ _ _ _ _ HCZ.out HA14.out | exact HS.out _ _ _ _ _ (HC13.out _) HA14.out) (fun hHeld => ?_);clear hK K;try simp only [xS]
    refine xD 13 rfl (fun K hK => ?_);refine held_ap_elem rfl rfl _ _ rfl HA14.out rfl (oneR 12 (.slice ia Gjf.len ic) Gjf).1 HN1.out rfl (jP Gkf) hqg ?_;intro W15 ha;have HA15 := xH ha;clear ha;refine hK.out _ _ (by first | exact HS.out _ _ _ _ _ HCZ.out HA15.out | exact HS.out _ _ _ _ _ (HC13.out _) HA15.out) (fun hHeld => ?_);clear hK K;try simp only [xS]
    refine wpAnyH_done (by kernel_rfl) ?_ _;have hC13 := HA15.out.cell (HC13.out _);obtain ⟨c3, c4⟩ := hC13;have HB := xH (HA15.out.fld hqo (o + 13) nil3);go_wp2_with fail
    go_end0
    exact ⟨_, _, _, _, rfl, gs_end HG1.out (fun e => by cases e) HB.out, rfl, HP.out _⟩
 ·go_simp;refine (gather_any 12 (by unfold I64; omega) (.slice ia Gjf.len ic) Gjf _ (kids_out (ap_ik HG1.out HA0.out))).mono ?_;rintro e W16 ⟨rfl, hbn⟩;have HA16 := xH (HA0.out.below hbn);try replace HZ := xH (fun j u hj => trw.qf hbn (HZ.out j u hj))
  clear hbn;refine hK.out _ _ (by first | exact HS.out _ _ _ _ _ HCZ.out HA16.out | exact HS.out _ _ _ _ _ (HC13.out _) HA16.out) (fun hHeld => ?_);clear hK K;try simp only [xS]
  refine wpAnyH_ready (rs := [3, 10]) (by kernel_rfl) (by simp) ?_;refine AllReadyH.cons rfl (fun K hK => ?_) (AllReadyH.cons rfl (fun K hK => ?_) AllReadyH.nil)
  ·have c17 := (HA16.out.cell HCF.out).1;go_simp;clear c17;refine hK.out _ _ (by first | exact HS.out _ _ _ _ _ HCZ.out HA16.out | exact HS.out _ _ _ _ _ (HC13.out _) HA16.out) (fun hHeld => ?_);clear hK K;try simp only [xS]
   refine xT 9 rfl ?_ ?_ ?_;rotate_left
   ·intro w' hSw;go_simp;try rfl
   simp only [xS];refine xD 10 rfl (fun K hK => ?_);go_simp;generalize hA : World.alloc _ _ = W18;obtain ⟨hz, hbn⟩ := zc_cells hA;clear hA;have HZ := xH hz;have HA18 := xH (HA16.out.below hbn);clear hz hbn;refine hK.out _ _ (by first | exact HS.out _ _ _ _ _ HCZ.out HA18.out | exact HS.out _ _ _ _ _ (HC13.out _) HA18.out) (fun hHeld => ?_);clear hK K;try simp only [xS]
   refine xD 11 rfl (fun K hK => ?_);refine held_ap_append rfl _ _ rfl HA18.out rfl _ rfl HZ.out (by omega) HNE.out (Nat.le_trans hbs HA18.out.ch.size) ?_;intro q cap W19 ha hqg hqo;have HA19 := xH ha;clear ha HZ;refine hK.out _ _ (by first | exact HS.out _ _ _ _ _ HCZ.out HA19.out | exact HS.out _ _ _ _ _ (HC13.out _) HA19.out) (fun hHeld => ?_);clear hK K;try simp only [xS]
   have hidx : (Gkf.len : Int) < (Gkf.len : Int) + 1 := by omega
   have hadd : (⟨q, 0, none⟩ : Addr).add (Gkf.len * 12) = ⟨q, Gkf.len * 12, none⟩ := by rw [add_plain, Nat.zero_add]
   refine xT 12 rfl ?_ ?_ ?_;rotate_left
   ·intro w' hSw;go_simp;try rfl
   simp only [xS];refine xT 14 rfl ?_ ?_ ?_;rotate_left
   ·intro w' hSw;go_simp;try rfl
   simp only [xS];refine xT 15 rfl ?_ ?_ ?_;rotate_left
   ·intro w' hSw;go_simp;try rfl
   simp only [xS];refine wpAnyH_ready (rs := [13, 16]) (by kernel_rfl) (by simp) ?_;refine AllReadyH.cons rfl (fun K hK => ?_) (AllReadyH.cons rfl (fun K hK => ?_) AllReadyH.nil)
   ·refine held_ap_elem rfl rfl _ _ rfl HA19.out rfl (oneR 12 (.slice ia Gjf.len ic) Gjf).1 HN1.out rfl (jP Gkf) hqg ?_;intro W20 ha;have HA20 := xH ha;clear ha;refine hK.out _ _ (by first | exact HS.out _ _ _ _ _ HCZ.out HA20.out | exact HS.out _ _ _ _ _ (HC13.out _) HA20.out) (fun hHeld => ?_);clear hK K;try simp only [xS]
    refine xD 16 rfl (fun K hK => ?_);obtain ⟨c3, c4⟩ := HA20.out.cell HCF.out;have HA21 := xH (HA20.out.fld hqo (o + 12) (.slice (some ⟨q, 0, none⟩) (Gkf.len + 1) cap));go_simp;clear c3 c4;refine hK.out _ _ (by first | exact HS.out _ _ _ _ _ HCZ.out HA21.out | exact HS.out _ _ _ _ _ (HC13.out _) HA21.out) (fun hHeld => ?_);clear hK K;try simp only [xS]
    refine wpAnyH_done (by kernel_rfl) ?_ _;have hC13 := HA21.out.cell (HC13.out _);obtain ⟨c3, c4⟩ := hC13;have HB := xH (HA21.out.fld hqo (o + 13) nil3);go_wp2_with fail
    go_end0
    exact ⟨_, _, _, _, rfl, gs_end HG1.out (fun e => by cases e) HB.out, rfl, HP.out _⟩
   ·obtain ⟨c3, c4⟩ := HA19.out.cell HCF.out;have HA22 := xH (HA19.out.fld hqo (o + 12) (.slice (some ⟨q, 0, none⟩) (Gkf.len + 1) cap));go_simp;clear c3 c4;refine hK.out _ _ (by first | exact HS.out _ _ _ _ _ HCZ.out HA22.out | exact HS.out _ _ _ _ _ (HC13.out _) HA22.out) (fun hHeld => ?_);clear hK K;try simp only [xS]
    refine xD 13 rfl (fun K hK => ?_);refine held_ap_elem rfl rfl _ _ rfl HA22.out rfl (oneR 12 (.slice ia Gjf.len ic) Gjf).1 HN1.out rfl (jP Gkf) hqg ?_;intro W23 ha;have HA23 := xH ha;clear ha;refine hK.out _ _ (by first | exact HS.out _ _ _ _ _ HCZ.out HA23.out | exact HS.out _ _ _ _ _ (HC13.out _) HA23.out) (fun hHeld => ?_);clear hK K;try simp only [xS]
    refine wpAnyH_done (by kernel_rfl) ?_ _;have hC13 := HA23.out.cell (HC13.out _);obtain ⟨c3, c4⟩ := hC13;have HB := xH (HA23.out.fld hqo (o + 13) nil3);go_wp2_with fail
    go_end0
    exact ⟨_, _, _, _, rfl, gs_end HG1.out (fun e => by cases e) HB.out, rfl, HP.out _⟩
  ·go_simp;generalize hA : World.alloc _ _ = W24;obtain ⟨hz, hbn⟩ := zc_cells hA;clear hA;have HZ := xH hz;have HA24 := xH (HA16.out.below hbn);clear hz hbn;refine hK.out _ _ (by first | exact HS.out _ _ _ _ _ HCZ.out HA24.out | exact HS.out _ _ _ _ _ (HC13.out _) HA24.out) (fun hHeld => ?_);clear hK K;try simp only [xS]
   refine xD 3 rfl (fun K hK => ?_);have c25 := (HA24.out.cell HCF.out).1;go_simp;clear c25;refine hK.out _ _ (by first | exact HS.out _ _ _ _ _ HCZ.out HA24.out | exact HS.out _ _ _ _ _ (HC13.out _) HA24.out) (fun hHeld => ?_);clear hK K;try simp only [xS]
   refine xT 9 rfl ?_ ?_ ?_;rotate_left
   ·intro w' hSw;go_simp;try rfl
   simp only [xS];refine xD 11 rfl (fun K hK => ?_);refine held_ap_append rfl _ _ rfl HA24.out rfl _ rfl HZ.out (by omega) HNE.out (Nat.le_trans hbs HA24.out.ch.size) ?_;intro q cap W26 ha hqg hqo;have HA26 := xH ha;clear ha HZ;refine hK.out _ _ (by first | exact HS.out _ _ _ _ _ HCZ.out HA26.out | exact HS.out _ _ _ _ _ (HC13.out _) HA26.out) (fun hHeld => ?_);clear hK K;try simp only [xS]
   have hidx : (Gkf.len : Int) < (Gkf.len : Int) + 1 := by omega
   have hadd : (⟨q, 0, none⟩ : Addr).add (Gkf.len * 12) = ⟨q, Gkf.len * 12, none⟩ := by rw [add_plain, Nat.zero_add]
   refine xT 12 rfl ?_ ?_ ?_;rotate_left
   ·intro w' hSw;go_simp;try rfl
   simp only [xS];refine xT 14 rfl ?_ ?_ ?_;rotate_left
   ·intro w' hSw;go_simp;try rfl
   simp only [xS];refine xT 15 rfl ?_ ?_ ?_;rotate_left
   ·intro w' hSw;go_simp;try rfl
   simp only [xS];refine wpAnyH_ready (rs := [13, 16]) (by kernel_rfl) (by simp) ?_;refine AllReadyH.cons rfl (fun K hK => ?_) (AllReadyH.cons rfl (fun K hK => ?_) AllReadyH.nil)
   ·refine held_ap_elem rfl rfl _ _ rfl HA26.out rfl (oneR 12 (.slice ia Gjf.len ic) Gjf).1 HN1.out rfl (jP Gkf) hqg ?_;intro W27 ha;have HA27 := xH ha;clear ha;refine hK.out _ _ (by first | exact HS.out _ _ _ _ _ HCZ.out HA27.out | exact HS.out _ _ _ _ _ (HC13.out _) HA27.out) (fun hHeld => ?_);clear hK K;try simp only [xS]
    refine xD 16 rfl (fun K hK => ?_);obtain ⟨c3, c4⟩ := HA27.out.cell HCF.out;have HA28 := xH (HA27.out.fld hqo (o + 12) (.slice (some ⟨q, 0, none⟩) (Gkf.len + 1) cap));go_simp;clear c3 c4;refine hK.out _ _ (by first | exact HS.out _ _ _ _ _ HCZ.out HA28.out | exact HS.out _ _ _ _ _ (HC13.out _) HA28.out) (fun hHeld => ?_);clear hK K;try simp only [xS]
    refine wpAnyH_done (by kernel_rfl) ?_ _;have hC13 := HA28.out.cell (HC13.out _);obtain ⟨c3, c4⟩ := hC13;have HB := xH (HA28.out.fld hqo (o + 13) nil3);go_wp2_with fail
    go_end0
    exact ⟨_, _, _, _, rfl, gs_end HG1.out (fun e => by cases e) HB.out, rfl, HP.out _⟩
   ·obtain ⟨c3, c4⟩ := HA26.out.cell HCF.out;have HA29 := xH (HA26.out.fld hqo (o + 12) (.slice (some ⟨q, 0, none⟩) (Gkf.len + 1) cap));go_simp;clear c3 c4;refine hK.out _ _ (by first | exact HS.out _ _ _ _ _ HCZ.out HA29.out | exact HS.out _ _ _ _ _ (HC13.out _) HA29.out) (fun hHeld => ?_);clear hK K;try simp only [xS]
    refine xD 13 rfl (fun K hK => ?_);refine held_ap_elem rfl rfl _ _ rfl HA29.out rfl (oneR 12 (.slice ia Gjf.len ic) Gjf).1 HN1.out rfl (jP Gkf) hqg ?_;intro W30 ha;have HA30 := xH ha;clear ha;refine hK.out _ _ (by first | exact HS.out _ _ _ _ _ HCZ.out HA30.out | exact HS.out _ _ _ _ _ (HC13.out _) HA30.out) (fun hHeld => ?_);clear hK K;try simp only [xS]
    refine wpAnyH_done (by kernel_rfl) ?_ _;have hC13 := HA30.out.cell (HC13.out _);obtain ⟨c3, c4⟩ := hC13;have HB := xH (HA30.out.fld hqo (o + 13) nil3);go_wp2_with fail
    go_end0
    exact ⟨_, _, _, _, rfl, gs_end HG1.out (fun e => by cases e) HB.out, rfl, HP.out _⟩
 ·go_simp;generalize hA : World.alloc _ _ = W31;obtain ⟨hz, hbn⟩ := zc_cells hA;clear hA;have HZ := xH hz;have HA31 := xH (HA0.out.below hbn);clear hz hbn;refine hK.out _ _ (by first | exact HS.out _ _ _ _ _ HCZ.out HA31.out | exact HS.out _ _ _ _ _ (HC13.out _) HA31.out) (fun hHeld => ?_);clear hK K;try simp only [xS]
  refine wpAnyH_ready (rs := [3, 8]) (by kernel_rfl) (by simp) ?_;refine AllReadyH.cons rfl (fun K hK => ?_) (AllReadyH.cons rfl (fun K hK => ?_) AllReadyH.nil)
  ·have c32 := (HA31.out.cell HCF.out).1;go_simp;clear c32;refine hK.out _ _ (by first | exact HS.out _ _ _ _ _ HCZ.out HA31.out | exact HS.out _ _ _ _ _ (HC13.out _) HA31.out) (fun hHeld => ?_);clear hK K;try simp only [xS]
   refine xT 9 rfl ?_ ?_ ?_;rotate_left
   ·intro w' hSw;go_simp;try rfl
   simp only [xS];refine xD 8 rfl (fun K hK => ?_);go_simp;refine (gather_any 12 (by unfold I64; omega) (.slice ia Gjf.len ic) Gjf _ (kids_out (ap_ik HG1.out HA31.out))).mono ?_;rintro e W33 ⟨rfl, hbn⟩;have HA33 := xH (HA31.out.below hbn);try replace HZ := xH (fun j u hj => trw.qf hbn (HZ.out j u hj))
   clear hbn;refine hK.out _ _ (by first | exact HS.out _ _ _ _ _ HCZ.out HA33.out | exact HS.out _ _ _ _ _ (HC13.out _) HA33.out) (fun hHeld => ?_);clear hK K;try simp only [xS]
   refine xD 11 rfl (fun K hK => ?_);refine held_ap_append rfl _ _ rfl HA33.out rfl _ rfl HZ.out (by omega) HNE.out (Nat.le_trans hbs HA33.out.ch.size) ?_;intro q cap W34 ha hqg hqo;have HA34 := xH ha;clear ha HZ;refine hK.out _ _ (by first | exact HS.out _ _ _ _ _ HCZ.out HA34.out | exact HS.out _ _ _ _ _ (HC13.out _) HA34.out) (fun hHeld => ?_);clear hK K;try simp only [xS]
   have hidx : (Gkf.len : Int) < (Gkf.len : Int) + 1 := by omega
   have hadd : (⟨q, 0, none⟩ : Addr).add (Gkf.len * 12) = ⟨q, Gkf.len * 12, none⟩ := by rw [add_plain, Nat.zero_add]
   refine xT 12 rfl ?_ ?_ ?_;rotate_left
   ·intro w' hSw;go_simp;try rfl
   simp only [xS];refine xT 14 rfl ?_ ?_ ?_;rotate_left
   ·intro w' hSw;go_simp;try rfl
   simp only [xS];refine xT 15 rfl ?_ ?_ ?_;rotate_left
   ·intro w' hSw;go_simp;try rfl
   simp only [xS];refine wpAnyH_ready (rs := [13, 16]) (by kernel_rfl) (by simp) ?_;refine AllReadyH.cons rfl (fun K hK => ?_) (AllReadyH.cons rfl (fun K hK => ?_) AllReadyH.nil)
   ·refine held_ap_elem rfl rfl _ _ rfl HA34.out rfl (oneR 12 (.slice ia Gjf.len ic) Gjf).1 HN1.out rfl (jP Gkf) hqg ?_;intro W35 ha;have HA35 := xH ha;clear ha;refine hK.out _ _ (by first | exact HS.out _ _ _ _ _ HCZ.out HA35.out | exact HS.out _ _ _ _ _ (HC13.out _) HA35.out) (fun hHeld => ?_);clear hK K;try simp only [xS]
    refine xD 16 rfl (fun K hK => ?_);obtain ⟨c3, c4⟩ := HA35.out.cell HCF.out;have HA36 := xH (HA35.out.fld hqo (o + 12) (.slice (some ⟨q, 0, none⟩) (Gkf.len + 1) cap));go_simp;clear c3 c4;refine hK.out _ _ (by first | exact HS.out _ _ _ _ _ HCZ.out HA36.out | exact HS.out _ _ _ _ _ (HC13.out _) HA36.out) (fun hHeld => ?_);clear hK K;try simp only [xS]
    refine wpAnyH_done (by kernel_rfl) ?_ _;have hC13 := HA36.out.cell (HC13.out _);obtain ⟨c3, c4⟩ := hC13;have HB := xH (HA36.out.fld hqo (o + 13) nil3);go_wp2_with fail
    go_end0
    exact ⟨_, _, _, _, rfl, gs_end HG1.out (fun e => by cases e) HB.out, rfl, HP.out _⟩
   ·obtain ⟨c3, c4⟩ := HA34.out.cell HCF.out;have HA37 := xH (HA34.out.fld hqo (o + 12) (.slice (some ⟨q, 0, none⟩) (Gkf.len + 1) cap));go_simp;clear c3 c4;refine hK.out _ _ (by first | exact HS.out _ _ _ _ _ HCZ.out HA37.out | exact HS.out _ _ _ _ _ (HC13.out _) HA37.out) (fun hHeld => ?_);clear hK K;try simp only [xS]
    refine xD 13 rfl (fun K hK => ?_);refine held_ap_elem rfl rfl _ _ rfl HA37.out rfl (oneR 12 (.slice ia Gjf.len ic) Gjf).1 HN1.out rfl (jP Gkf) hqg ?_;intro W38 ha;have HA38 := xH ha;clear ha;refine hK.out _ _ (by first | exact HS.out _ _ _ _ _ HCZ.out HA38.out | exact HS.out _ _ _ _ _ (HC13.out _) HA38.out) (fun hHeld => ?_);clear hK K;try simp only [xS]
    refine wpAnyH_done (by kernel_rfl) ?_ _;have hC13 := HA38.out.cell (HC13.out _);obtain ⟨c3, c4⟩ := hC13;have HB := xH (HA38.out.fld hqo (o + 13) nil3);go_wp2_with fail
    go_end0
    exact ⟨_, _, _, _, rfl, gs_end HG1.out (fun e => by cases e) HB.out, rfl, HP.out _⟩
  ·go_simp;refine (gather_any 12 (by unfold I64; omega) (.slice ia Gjf.len ic) Gjf _ (kids_out (ap_ik HG1.out HA31.out))).mono ?_;rintro e W39 ⟨rfl, hbn⟩;have HA39 := xH (HA31.out.below hbn);try replace HZ := xH (fun j u hj => trw.qf hbn (HZ.out j u hj))
   clear hbn;refine hK.out _ _ (by first | exact HS.out _ _ _ _ _ HCZ.out HA39.out | exact HS.out _ _ _ _ _ (HC13.out _) HA39.out) (fun hHeld => ?_);clear hK K;try simp only [xS]
   refine xD 3 rfl (fun K hK => ?_);have c40 := (HA39.out.cell HCF.out).1;go_simp;clear c40;refine hK.out _ _ (by first | exact HS.out _ _ _ _ _ HCZ.out HA39.out | exact HS.out _ _ _ _ _ (HC13.out _) HA39.out) (fun hHeld => ?_);clear hK K;try simp only [xS]
   refine xT 9 rfl ?_ ?_ ?_;rotate_left
   ·intro w' hSw;go_simp;try rfl
   simp only [xS];refine xD 11 rfl (fun K hK => ?_);refine held_ap_append rfl _ _ rfl HA39.out rfl _ rfl HZ.out (by omega) HNE.out (Nat.le_trans hbs HA39.out.ch.size) ?_;intro q cap W41 ha hqg hqo;have HA41 := xH ha;clear ha HZ;refine hK.out _ _ (by first | exact HS.out _ _ _ _ _ HCZ.out HA41.out | exact HS.out _ _ _ _ _ (HC13.out _) HA41.out) (fun hHeld => ?_);clear hK K;try simp only [xS]
   have hidx : (Gkf.len : Int) < (Gkf.len : Int) + 1 := by omega
   have hadd : (⟨q, 0, none⟩ : Addr).add (Gkf.len * 12) = ⟨q, Gkf.len * 12, none⟩ := by rw [add_plain, Nat.zero_add]
   refine xT 12 rfl ?_ ?_ ?_;rotate_left
   ·intro w' hSw;go_simp;try rfl
   simp only [xS];refine xT 14 rfl ?_ ?_ ?_;rotate_left
   ·intro w' hSw;go_simp;try rfl
   simp only [xS];refine xT 15 rfl ?_ ?_ ?_;rotate_left
   ·intro w' hSw;go_simp;try rfl
   simp only [xS];refine wpAnyH_ready (rs := [13, 16]) (by kernel_rfl) (by simp) ?_;refine AllReadyH.cons rfl (fun K hK => ?_) (AllReadyH.cons rfl (fun K hK => ?_) AllReadyH.nil)
   ·refine held_ap_elem rfl rfl _ _ rfl HA41.out rfl (oneR 12 (.slice ia Gjf.len ic) Gjf).1 HN1.out rfl (jP Gkf) hqg ?_;intro W42 ha;have HA42 := xH ha;clear ha;refine hK.out _ _ (by first | exact HS.out _ _ _ _ _ HCZ.out HA42.out | exact HS.out _ _ _ _ _ (HC13.out _) HA42.out) (fun hHeld => ?_);clear hK K;try simp only [xS]
    refine xD 16 rfl (fun K hK => ?_);obtain ⟨c3, c4⟩ := HA42.out.cell HCF.out;have HA43 := xH (HA42.out.fld hqo (o + 12) (.slice (some ⟨q, 0, none⟩) (Gkf.len + 1) cap));go_simp;clear c3 c4;refine hK.out _ _ (by first | exact HS.out _ _ _ _ _ HCZ.out HA43.out | exact HS.out _ _ _ _ _ (HC13.out _) HA43.out) (fun hHeld => ?_);clear hK K;try simp only [xS]
    refine wpAnyH_done (by kernel_rfl) ?_ _;have hC13 := HA43.out.cell (HC13.out _);obtain ⟨c3, c4⟩ := hC13;have HB := xH (HA43.out.fld hqo (o + 13) nil3);go_wp2_with fail
    go_end0
    exact ⟨_, _, _, _, rfl, gs_end HG1.out (fun e => by cases e) HB.out, rfl, HP.out _⟩
   ·obtain ⟨c3, c4⟩ := HA41.out.cell HCF.out;have HA44 := xH (HA41.out.fld hqo (o + 12) (.slice (some ⟨q, 0, none⟩) (Gkf.len + 1) cap));go_simp;clear c3 c4;refine hK.out _ _ (by first | exact HS.out _ _ _ _ _ HCZ.out HA44.out | exact HS.out _ _ _ _ _ (HC13.out _) HA44.out) (fun hHeld => ?_);clear hK K;try simp only [xS]
    refine xD 13 rfl (fun K hK => ?_);refine held_ap_elem rfl rfl _ _ rfl HA44.out rfl (oneR 12 (.slice ia Gjf.len ic) Gjf).1 HN1.out rfl (jP Gkf) hqg ?_;intro W45 ha;have HA45 := xH ha;clear ha;refine hK.out _ _ (by first | exact HS.out _ _ _ _ _ HCZ.out HA45.out | exact HS.out _ _ _ _ _ (HC13.out _) HA45.out) (fun hHeld => ?_);clear hK K;try simp only [xS]
    refine wpAnyH_done (by kernel_rfl) ?_ _;have hC13 := HA45.out.cell (HC13.out _);obtain ⟨c3, c4⟩ := hC13;have HB := xH (HA45.out.fld hqo (o + 13) nil3);go_wp2_with fail
    go_end0
    exact ⟨_, _, _, _, rfl, gs_end HG1.out (fun e => by cases e) HB.out, rfl, HP.out _⟩
end Go.Proofs.YtnpcombfgdbhkaaDoor.psw
end
section
namespace Go.Proofs.YtnpcombfgdbhkaaDoor.psw
open sq
open Go.Sort Go Go.RowKit Go.Maps tkp trp trw rpp psp
open tkw (qO)
open rpw (sees jB qU fC jP FSub vw jQ app_sub jH jm jd qp vW oneR zk jV lab_ok rg_nil qh qA jU)
theorem held_load_nd {o : Oper} {a : Act} {W : World} {K : Act → World → Prop} {Q : Exit → Act → World → Prop} {ys : Nat → Option Bool} (hgd : o.guard = none) (x : Operand) (ho : o.op = .load 31 x)
 (b off : Nat) (hx : a.eval x = .pointer (some ⟨b, off, none⟩)) (l : Lab) (hc : ∀ j v, (ndC l)[j]? = some v → W.cell? ⟨b, off + j, none⟩ = some v) (h : K (a.put o.dst (ndV l)) W) :
 if Region.wanted o ys = true then Oper.wp Tryd.prog o a W K Q else K (a.put o.dst undef) W := by
 rw [if_pos (by unfold Region.wanted; rw [hgd])];unfold Oper.wp execOp;simp only [ho, hx, Instr.loadAt, Instr.sureAddr, Sem.run_bind, Sem.run_pure, Result.andThen_ok, run_load_nd W b off l hc];exact h
theorem held_build_nd {o : Oper} {a : Act} {W : World} {K : Act → World → Prop} {Q : Exit → Act → World → Prop} {ys : Nat → Option Bool} (hgd : o.guard = none) (x : Operand) (ho : o.op = .buildSlice 29 1 #[(0, x)])
 (l : Lab) (hx : a.eval x = ndV l) (h : ∀ W', W' = W.alloc (.cells (ndC l).toArray 31) → K (a.put o.dst (.slice (some ⟨W.heap.size, 0, none⟩) 1 1)) W') :
 if Region.wanted o ys = true then Oper.wp Tryd.prog o a W K Q else K (a.put o.dst undef) W := by
 rw [if_pos (by unfold Region.wanted; rw [hgd])];obtain ⟨i0, hi, hz0, hz1, hz2⟩ := info_parts infoNd;refine wp_buildSlice _ 31 1 _ ho (ndC l).toArray i0 _ Tryd.underlying29 hi hz0 (by rw [hz1]; decide) (by rw [hz1]; decide) ?_ (h _ rfl);simp only [List.map_toArray, List.map_cons, List.map_nil, hx, hz1];kernel_rfl
theorem held_ap_last {o : Oper} {a : Act} {W : World} {K : Act → World → Prop} {Q : Exit → Act → World → Prop} {ys : Nat → Option Bool} (hgd : o.guard = none) (hd : o.dst = none) (x y : Operand) (ho : o.op = .store 31 x y) {w : World} {g q n len cap : Nat} {C : Array Value} {v0 : Value} {xs zs : List Value}
 (hA : Ap w g C n v0 (.slice (some ⟨q, 0, none⟩) (len + 1) cap) (len + 1) (xs ++ zs) W) (hx : a.eval x = .pointer (some ⟨q, len * 12, none⟩)) (l : Lab) (h1 : ∀ u ∈ ndC l, u.oneCell' = true) (hy : a.eval y = ndV l) (hxl : xs.length = len * 12) (hq : q ≠ g)
 (h : ∀ W2, Ap w g C n v0 (.slice (some ⟨q, 0, none⟩) (len + 1) cap) (len + 1) (xs ++ ndC l) W2 → W.grownBy W2 (some q) → K a W2) :
 if Region.wanted o ys = true then Oper.wp Tryd.prog o a W K Q else K (a.put o.dst undef) W := by
 refine held_store_row hgd hd x y ho (g := q) (n := len) hx l h1 hy hA.r hxl fun W2 o2 g2 => h W2 ⟨(g2.block g hA.lt (fun e => hq (Option.some.inj e).symm)).trans hA.c, o2, ?_, hA.b⟩ g2
 refine hA.ch.trans (Ch.of_grown g2 (b := fun i => decide (i = q)) (fun k e => by simp [Option.some.inj e])) (fun _ _ e => e) (fun i hi e => ?_);simp only [Bool.or_eq_false_iff, decide_eq_false_iff_not] at e ⊢;intro e2;rcases hA.b q rfl with e3 | e3
 ·exact e.2 (by rw [e3, e2])
 ·omega
theorem f_last : ∀ f : F, f.len ≠ 0 → ∃ i x k, f = F.app i (F.one x k)
 | .nil, h => absurd rfl h
 | .cons x k .nil, _ => ⟨.nil, x, k, rfl⟩
 | .cons a b (.cons c d r), _ => by obtain ⟨i, x, k, e⟩ := f_last (.cons c d r) (by simp [F.len]);exact ⟨.cons a b i, x, k, by rw [e]; rfl⟩
theorem fsub_last {w : World} : ∀ {i : F} {x : Lab} {k : F}, FSub w (F.app i (F.one x k)) → FSub w i ∧ NdAt w (x, k)
 | .nil, _, _, h => ⟨trivial, h.1⟩
 | .cons _ _ _, _, _, h => ⟨⟨h.1, (fsub_last h.2).1⟩, (fsub_last h.2).2⟩
theorem gs_rep {H : Nat → Bool} {n : Nat} {w w' : World} {g o : Nat} {C : Array Value} {G : Gv} {i : F} {x : Lab} {k : F} {y : Lab} (h : Gi H n w g o C G) (hj : G.jf = F.app i (F.one x k)) (hy : NdAt (sees H w') (y, F.one x k)) (a : Ap w g C n G.iv G.iv (i.len + 1) (fC i ++ ndC y) w') :
 Gs H n w g o C G H w' C { G with jf := F.app i (F.one y (F.one x k)) } := by
 have htop : ∀ i, i < w.heap.size → (decide (i = g) || decide (G.iv.ownBlock = some i)) = true → H i = true := fun i _ e => by
  simp only [Bool.or_eq_true, decide_eq_true_eq] at e;rcases e with rfl | e
  ·exact h.hg
  ·exact h.i.h _ e
 have hsee := sees_ch (H := H) (H' := H) a.ch htop (fun _ _ e => e);have hsz := a.ch.size;have hkr : w'.ownsRow n 31 12 G.kv G.kf.len (fC G.kf) := tkw.jJ h.k.r fun q hq => a.ch.block q (World.ownsRow.lt h.k.r q hq).2 (by
  simp only [Bool.or_eq_false_iff, decide_eq_false_iff_not];exact ⟨fun e => h.kg (by rw [hq, e]), fun e => h.d q hq e⟩)
 have hs := h.i.s;rw [hj] at hs;refine ⟨⟨a.c, h.s, h.l, ⟨hkr, h.k.z, vw hsee h.k.s, h.k.h⟩, ⟨?_, ?_, app_sub (vw hsee (fsub_last hs).1) ⟨hy, trivial⟩, h.i.h⟩, h.hg, h.kg, h.ig, h.d, fun i e => Nat.lt_of_lt_of_le (h.ho i e) hsz, Nat.le_trans h.n hsz, rgAt_mono hsee h.rg, h.ok⟩, ?_, fun i e _ _ => e, fun i e => Or.inl e, rfl, fun j hj => rfl, rfl, rfl, fun b e => Or.inl e, fun b e => Or.inl e, h.ho⟩
 ·show w'.ownsRow n 31 12 G.iv (F.app i (F.one y (F.one x k))).len (fC (F.app i (F.one y (F.one x k))));rw [jd, jQ];simpa [F.one, F.len, fC] using a.r
 ·intro e;exact absurd e (by show (F.app i (F.one y (F.one x k))).len ≠ 0; rw [jd]; simp [F.one, F.len])
 ·refine ⟨a.ch.os, a.ch.tape, a.ch.output, a.ch.size, fun i hi e => a.ch.block i hi ?_⟩;simp only [top, Bool.or_eq_false_iff] at e ⊢;exact ⟨e.1.1, e.2⟩
theorem rep_at2 {H : Nat → Bool} {w w' : World} {t : Tk} {x : Lab} {k : F} {B : Nat} (hok : TkO t) (h : NdAt (sees H w) (x, k)) (hs : ∀ a u, (sees H w).cell? a = some u → (sees H w').cell? a = some u) (hB : w'.heap[B]? = some (.cells (ndC x).toArray 31 (0, 0))) (hh : H B = false) :
 NdAt (sees H w') ({ lab 20 t.at_ with n := t.n, m := t.m, mode := t.mode, kv := .slice (some ⟨B, 0, none⟩) 1 1 }, F.one x k) := by
 have z : I64 0 := by unfold I64; omega
 have hx := qY hs h;obtain ⟨h1, h2, h3, h4, h5, h6, h7, h8⟩ := hok;refine ⟨⟨by show I64 20; unfold I64; omega, by show I64 (t.at_ : Int); unfold I64; omega, z, h4, h5, h6, z, z⟩, rg_nil _, ⟨_, 1, rfl, Nat.le_refl _, by decide, Or.inr ⟨B, 0, rfl, fun j u hj => jB.2 ⟨hh, ?_⟩, ⟨hx.1, hx.2.1⟩, hx.2.2, trivial⟩⟩⟩;rw [Nat.zero_add];unfold World.cell?;rw [hB];simpa using hj
theorem tk_cells {w : World} {sv : Value} {t : Tk} {b : Nat} (h : w.heap[b]? = some (.cells (tA sv t) 53 (0, 0))) {j : Nat} {u : Value} (hj : (qO sv t)[j]? = some u) : w.cell? ⟨b, j, none⟩ = some u := by unfold World.cell?;rw [h];simpa [tA, qO] using hj
theorem rep_any {H : Nat → Bool} {n : Nat} {w : World} {g o : Nat} {C : Array Value} {G : Gv} (tsv : Value) (t : Tk) (h : Gi H n w g o C G) (ht : TkO t) (_ho1 : tsv.oneCell' = true) (hj : G.jf.len ≤ 60000) :
 Calls Tryd.prog 41 #[.pointer (some ⟨g, o, none⟩), .agg (tA tsv t)] w (GB H n w g o C G fun _ _ G' r => r = .bool (lastR (strip G.jf)) ∧ (lastR (strip G.jf) = true → G'.g = { G.g with jf := repL t (strip G.jf) }) ∧ (lastR (strip G.jf) = false → G' = G)) := by
 obtain ⟨Gt, Gsv, Gkv, Gkf, Giv, Gjf⟩ := G;obtain ⟨ka, kc, hkv⟩ := gi_slice h.k.r;obtain ⟨ia, ic, hiv⟩ := gi_slice h.i.r;simp only at hkv hiv hj;subst hkv;subst hiv;have HGI := xH h;have HHO := xH h.ho;have HB1 := xH (qg w (.cells (tA tsv t) 53));have HR1 := xH (heap_alloc_new w (.cells (tA tsv t) 53));have HG1 := xH (h.below HB1.out);have hN := h.lt;clear h;by_cases h0 : Gjf.len = 0
 ·obtain rfl : Gjf = .nil := by
   cases Gjf with
   | nil => rfl
   | cons _ _ _ => simp [F.len] at h0
  have HP := xH (show lastR (strip .nil) = false from rfl);have c13 : (w.alloc (.cells (tA tsv t) 53)).cell? ⟨g, o + 13, none⟩ = some (.slice ia 0 ic) := gi_cell HG1.out rfl;unfold tA at HB1 HR1 HG1 c13 ⊢;clear h0;go_enter Tryd.func41, Tryd.ntmps41;go_wp2_with fail
  go_ret
  exact ⟨_, _, _, _, rfl, (Gs.refl HG1.out).of_below HB1.out HHO.out, by rw [HP.out]; rfl, fun e => absurd (HP.out.symm.trans e) (by decide), fun _ => rfl⟩
 obtain ⟨i, x, k, rfl⟩ := f_last Gjf h0;have hlen : (F.app i (F.one x k)).len = i.len + 1 := by rw [jd]; rfl
 have HLR := xH (show lastR (strip (F.app i (F.one x k))) = (repK x.kind && decide (x.kind ≠ 20)) by rw [jH]; exact lastR_app (strip i) _ _);rcases HGI.out.i.r.2 with ⟨hv, hz⟩ | ⟨q, cap, cur, hv, _⟩
 ·exact absurd hz h0
 simp only [Value.slice.injEq] at hv;obtain ⟨rfl, _, rfl⟩ := hv;have hqg : q ≠ g := fun e => HGI.out.ig (by rw [e]; rfl)
 rw [hlen] at HGI HG1 ⊢;have c13 : (w.alloc (.cells (tA tsv t) 53)).cell? ⟨g, o + 13, none⟩ = some (.slice (some ⟨q, 0, none⟩) (i.len + 1) ic) := gi_cell HG1.out rfl;have HA0 := xH (show Ap (w.alloc (.cells (tA tsv t) 53)) g C n (.slice (some ⟨q, 0, none⟩) (i.len + 1) ic) (.slice (some ⟨q, 0, none⟩) (i.len + 1) ic) (i.len + 1) (fC i ++ ndC x) (w.alloc (.cells (tA tsv t) 53)).drew from by have := (Ap.start HG1.out).2.drew;rw [hlen, jQ, show fC (F.one x k) = ndC x ++ [] from rfl, List.append_nil] at this;exact this)
 have ck : (w.alloc (.cells (tA tsv t) 53)).cell? ⟨q, i.len * 12, none⟩ = some (.int .i64 x.kind) := by rw [World.ownsRow.cellAt (show (w.alloc (.cells (tA tsv t) 53)).ownsRow n 31 12 (.slice (some ⟨q, 0, none⟩) (i.len + 1) ic) (i.len + 1) (fC i ++ ndC x) from (HA0.out.r : _)) (i.len * 12) (by omega), List.getElem?_append_right (by rw [jP]; omega), jP];simp [ndC]
 have hNS := fsub_last HG1.out.i.s;have HNX := xH hNS.2;clear hNS h0;have hil : i.len ≤ 60000 := by omega
 have hG2 := World.size_alloc w (.cells (tA tsv t) 53);obtain ⟨N0, hNN⟩ : ∃ N0, w.heap.size = N0 := ⟨_, rfl⟩;have HNN := xH hNN;have hNg : N0 ≠ g := by omega
 have HS := xH (show ∀ (xs : List Value) (m : Nat) (W : World), Ap (w.alloc (.cells (tA tsv t) 53)) g C n (.slice (some ⟨q, 0, none⟩) (i.len + 1) ic) (.slice (some ⟨q, 0, none⟩) (i.len + 1) ic) m xs W → W.cell? ⟨g, o + 13, none⟩ = some (.slice (some ⟨q, 0, none⟩) (i.len + 1) ic) ∧ W.heap[N0]? = some (.cells (tA tsv t) 53 (0, 0)) from fun xs m W e => ⟨(e.cell (HG1.out.l 13 _ rfl)).1, e.row (hNN ▸ HR1.out) hNg (fun e2 => by have := (World.ownsRow.lt HGI.out.i.r N0 e2).2;omega)⟩)
 have HE := xH (show ∀ (B : Nat) (W : World), (w.alloc (.cells (tA tsv t) 53)).drew.heap.size = B → W.heap[B]? = some (.cells (ndC x).toArray 31 (0, 0)) →
  Ap (w.alloc (.cells (tA tsv t) 53)) g C n (.slice (some ⟨q, 0, none⟩) (i.len + 1) ic) (.slice (some ⟨q, 0, none⟩) (i.len + 1) ic) (i.len + 1) (fC i ++ ndC { lab 20 t.at_ with n := t.n, m := t.m, mode := t.mode, kv := .slice (some ⟨B, 0, none⟩) 1 1 }) W → lastR (strip (F.app i (F.one x k))) = true →
  GB H n w g o C ⟨Gt, Gsv, .slice ka Gkf.len kc, Gkf, .slice (some ⟨q, 0, none⟩) (i.len + 1) ic, F.app i (F.one x k)⟩ (fun _ _ G' r => r = .bool (lastR (strip (F.app i (F.one x k)))) ∧ (lastR (strip (F.app i (F.one x k))) = true → G'.g = { Gv.g ⟨Gt, Gsv, .slice ka Gkf.len kc, Gkf, .slice (some ⟨q, 0, none⟩) (i.len + 1) ic, F.app i (F.one x k)⟩ with jf := repL t (strip (F.app i (F.one x k))) }) ∧ (lastR (strip (F.app i (F.one x k))) = false → G' = ⟨Gt, Gsv, .slice ka Gkf.len kc, Gkf, .slice (some ⟨q, 0, none⟩) (i.len + 1) ic, F.app i (F.one x k)⟩)) (.returned (.bool true)) W from fun B W hB hBB hA hT => by
  have hhB : H B = false := by
   cases e : H B with
   | false => rfl
   | true =>
    have := HHO.out B e;have h3 : (w.alloc (.cells (tA tsv t) 53)).heap.size = B := hB;omega
  have hsee : ∀ a u, (sees H (w.alloc (.cells (tA tsv t) 53))).cell? a = some u → (sees H W).cell? a = some u := sees_ch hA.ch (fun j _ e => by
   simp only [Bool.or_eq_true, decide_eq_true_eq] at e;rcases e with rfl | e
   ·exact HG1.out.hg
   ·exact HG1.out.i.h _ e) (fun _ _ e => e)
  refine ⟨_, _, _, _, rfl, (gs_rep HG1.out rfl (rep_at2 ht HNX.out hsee hBB hhB) hA).of_below HB1.out HHO.out, by rw [hT], fun _ => ?_, fun e => by rw [hT] at e; cases e⟩;show (⟨Gt, strip Gkf, strip (F.app i (F.one _ (F.one x k)))⟩ : psp.G) = ⟨Gt, strip Gkf, repL t (strip (F.app i (F.one x k)))⟩;rw [jH, jH, show strip (F.one x k) = F.one { x with sv := nil3, kv := nil3 } (strip k) from rfl, repL_app];rfl)
 have dl : decide ((i.len : Int) < 0) = false := by simp
 unfold tA at HB1 HR1 HG1 c13 HA0 ck HS HE hG2 HNX ⊢;rw [hNN] at HR1 hN hG2;by_cases hR : (repK x.kind && decide (x.kind ≠ 20)) = true;case neg =>
  have hR' : (repK x.kind && decide (x.kind ≠ 20)) = false := by simpa using hR
  have HRR := xH (HLR.out.trans hR');have HC := xH (fun W => hR' ▸ prep_any x.kind W : ∀ W : World, Calls Tryd.prog 69 #[.int .i64 x.kind] W (fun e w' => e = .returned (.bool false) ∧ w' = W));clear hR hR';go_enter Tryd.func41, Tryd.ntmps41;go_wp2_with fail
  generalize w.alloc _ = w1 at *;refine (HC.out w1).mono ?_;rintro e w1 ⟨rfl, rfl⟩;go_wp2_with fail
  go_ret
  exact ⟨_, _, _, _, rfl, (Gs.refl HG1.out).of_below HB1.out HHO.out, by rw [HRR.out]; rfl, fun e => absurd (HRR.out.symm.trans e) (by decide), fun _ => rfl⟩
 have HRR := xH (HLR.out.trans hR);have HC := xH (fun W => hR ▸ prep_any x.kind W : ∀ W : World, Calls Tryd.prog 69 #[.int .i64 x.kind] W (fun e w' => e = .returned (.bool true) ∧ w' = W));have HE := xH (fun B W e1 e2 e3 => HE.out B W e1 e2 e3 HRR.out);clear hR;go_enter Tryd.func41, Tryd.ntmps41;go_wp2_with fail
 generalize w.alloc _ = w1 at *;refine (HC.out w1).mono ?_;rintro e w1 ⟨rfl, rfl⟩;go_wp2_with fail
 have hidx : (i.len : Int) < (i.len : Int) + 1 := by omega
 have hadd : (⟨q, 0, none⟩ : Addr).add (i.len * 12) = ⟨q, i.len * 12, none⟩ := by rw [add_plain, Nat.zero_add]
 refine wp_region_held_drew (S := fun w' => w'.cell? ⟨g, o + 13, none⟩ = some (.slice (some ⟨q, 0, none⟩) (i.len + 1) ic) ∧ w'.heap[N0]? = some (.cells (tA tsv t) 53 (0, 0))) (by kernel_rfl) ⟨c13, HR1.out⟩ (fun hHeld => ?_);generalize hwd : w1.drew = wd at *;clear hwd;refine xT 0 rfl ?_ ?_ ?_;rotate_left
 ·intro w' hSw;go_simp;try rfl
 simp only [xS];refine xT 1 rfl ?_ ?_ ?_;rotate_left
 ·intro w' hSw;go_simp;try rfl
 simp only [xS];refine xT 2 rfl ?_ ?_ ?_;rotate_left
 ·intro w' hSw;go_simp;try rfl
 simp only [xS];refine xT 3 rfl ?_ ?_ ?_;rotate_left
 ·intro w' hSw;obtain ⟨q13, qN⟩ := hSw;go_simp;try rfl
 simp only [xS];refine xT 4 rfl ?_ ?_ ?_;rotate_left
 ·intro w' hSw;go_simp;try rfl
 simp only [xS];refine xT 5 rfl ?_ ?_ ?_;rotate_left
 ·intro w' hSw;go_simp;try rfl
 simp only [xS];refine xT 6 rfl ?_ ?_ ?_;rotate_left
 ·intro w' hSw;obtain ⟨q13, qN⟩ := hSw;have t1 := tk_cells qN (j := 1) rfl;have t6 := tk_cells qN (j := 6) rfl;have t7 := tk_cells qN (j := 7) rfl;have t8 := tk_cells qN (j := 8) rfl;go_simp;try rfl
 simp only [xS];refine xT 7 rfl ?_ ?_ ?_;rotate_left
 ·intro w' hSw;go_simp;try rfl
 simp only [xS];refine xT 8 rfl ?_ ?_ ?_;rotate_left
 ·intro w' hSw;obtain ⟨q13, qN⟩ := hSw;have t1 := tk_cells qN (j := 1) rfl;have t6 := tk_cells qN (j := 6) rfl;have t7 := tk_cells qN (j := 7) rfl;have t8 := tk_cells qN (j := 8) rfl;go_simp;try rfl
 simp only [xS];refine xT 9 rfl ?_ ?_ ?_;rotate_left
 ·intro w' hSw;go_simp;try rfl
 simp only [xS];refine xT 10 rfl ?_ ?_ ?_;rotate_left
 ·intro w' hSw;obtain ⟨q13, qN⟩ := hSw;have t1 := tk_cells qN (j := 1) rfl;have t6 := tk_cells qN (j := 6) rfl;have t7 := tk_cells qN (j := 7) rfl;have t8 := tk_cells qN (j := 8) rfl;go_simp;try rfl
 simp only [xS];refine xT 11 rfl ?_ ?_ ?_;rotate_left
 ·intro w' hSw;go_simp;try rfl
 simp only [xS];refine xT 12 rfl ?_ ?_ ?_;rotate_left
 ·intro w' hSw;obtain ⟨q13, qN⟩ := hSw;have t1 := tk_cells qN (j := 1) rfl;have t6 := tk_cells qN (j := 6) rfl;have t7 := tk_cells qN (j := 7) rfl;have t8 := tk_cells qN (j := 8) rfl;go_simp;try rfl
 simp only [xS];refine xT 13 rfl ?_ ?_ ?_;rotate_left
 ·intro w' hSw;go_simp;try rfl
 simp only [xS];refine xT 14 rfl ?_ ?_ ?_;rotate_left
 ·intro w' hSw;go_simp;try rfl
 simp only [xS];refine xT 15 rfl ?_ ?_ ?_;rotate_left
 ·intro w' hSw;go_simp;try rfl
 simp only [xS];refine xT 16 rfl ?_ ?_ ?_;rotate_left
 ·intro w' hSw;obtain ⟨q13, qN⟩ := hSw;go_simp;try rfl
 simp only [xS];refine xT 17 rfl ?_ ?_ ?_;rotate_left
 ·intro w' hSw;go_simp;try rfl
 simp only [xS];refine xT 18 rfl ?_ ?_ ?_;rotate_left
 ·intro w' hSw;go_simp;try rfl
 simp only [xS];refine xD 19 rfl (fun K hK => ?_);refine held_load_nd rfl _ rfl q (i.len * 12) rfl x (fun j u hj => by rw [World.ownsRow.cellAt HA0.out.r (i.len * 12 + j) (by have := (List.getElem?_eq_some_iff.1 hj).1; simp only [ndC, List.length_cons, List.length_nil] at this; omega), List.getElem?_append_right (by rw [jP]; omega), jP];simpa using hj) ?_
 refine hK.out _ _ hHeld (fun hHeld => ?_);clear hK K;try simp only [xS]
 refine xD 20 rfl (fun K hK => ?_);refine held_build_nd rfl _ rfl x rfl ?_;intro W2 h2;have hbn : Below wd.heap.size wd W2 := h2 ▸ qg _ _;have HB2 := xH (show W2.heap[wd.heap.size]? = some (.cells (ndC x).toArray 31 (0, 0)) from h2 ▸ heap_alloc_new _ _);have HA2 := xH (HA0.out.below hbn);clear h2 hbn;obtain ⟨B, hB⟩ : ∃ B, wd.heap.size = B := ⟨_, rfl⟩;rw [hB] at HB2 ⊢;refine hK.out _ _ (HS.out _ _ _ HA2.out) (fun hHeld => ?_);clear hK K;try simp only [xS]
 refine xT 21 rfl ?_ ?_ ?_;rotate_left
 ·intro w' hSw;go_simp;try rfl
 simp only [xS];refine xT 22 rfl ?_ ?_ ?_;rotate_left
 ·intro w' hSw;go_simp;try rfl
 simp only [xS];refine xD 23 rfl (fun K hK => ?_);refine held_ap_last rfl rfl _ _ rfl HA2.out rfl { lab 20 t.at_ with n := t.n, m := t.m, mode := t.mode, kv := .slice (some ⟨B, 0, none⟩) 1 1 } (fun u hu => by simp only [ndC, lab, List.mem_cons, List.not_mem_nil, or_false] at hu;rcases hu with rfl | rfl | rfl | rfl | rfl | rfl | rfl | rfl | rfl | rfl | rfl | rfl <;> rfl) rfl (jP i) hqg ?_
 intro W3 ha hg3;have HA3 := xH ha;have hBq : B ≠ q := fun e => by have := (World.ownsRow.lt HA0.out.r q rfl).2;omega
 have HB3 := xH ((hg3.block B (Array.getElem?_eq_some_iff.1 HB2.out).1 (fun e => hBq (Option.some.inj e))).trans HB2.out);clear ha hg3;refine hK.out _ _ (HS.out _ _ _ HA3.out) (fun hHeld => ?_);clear hK K;try simp only [xS]
 refine wpAnyH_done (by kernel_rfl) ?_ _;go_wp2_with fail
 go_ret
 exact HE.out B _ hB HB3.out HA3.out
end Go.Proofs.YtnpcombfgdbhkaaDoor.psw
end
section
namespace Go.Proofs.YtnpcombfgdbhkaaDoor.psw
open sq
open Go.Sort Go Go.RowKit Go.Maps tkp trp trw rpp psp
open tkw (qO)
open rpw (sees jB qU fC jP FSub vw jQ app_sub jH jm jd qp vW oneR zk jV lab_ok rg_nil qh qA jU)
def hm (H : Nat → Bool) (v : Value) (i : Nat) : Bool := H i && !decide (v.ownBlock = some i)
def h1 (H : Nat → Bool) (b : Nat) (i : Nat) : Bool := H i || decide (i = b)
theorem Gi.more {H H1 : Nat → Bool} {n : Nat} {w w1 : World} {g o : Nat} {C : Array Value} {G : Gv} (h : Gi H n w g o C G) (hb : Below w.heap.size w w1) (a : ∀ i, H i = true → H1 i = true) (b : ∀ i, H1 i = true → H i = true ∨ (w.heap.size ≤ i ∧ i < w1.heap.size)) : Gi H1 n w1 g o C G := by
 have hs : ∀ x v, (sees H w).cell? x = some v → (sees H1 w1).cell? x = some v := qU fun x v e hc => ⟨by
  cases e2 : H1 x.block with
  | false => rfl
  | true =>
   rcases b _ e2 with e3 | e3
   ·rw [e] at e3; cases e3
   ·have := cell_lt hc; omega, trw.qf hb hc⟩
 have hh := h.below hb;exact ⟨hh.c, hh.s, hh.l, ⟨hh.k.r, hh.k.z, vw hs h.k.s, fun q e => a q (h.k.h q e)⟩, ⟨hh.i.r, hh.i.z, vw hs h.i.s, fun q e => a q (h.i.h q e)⟩, a _ h.hg, h.kg, h.ig, h.d, fun i e => by
  rcases b i e with e3 | e3
  ·exact Nat.lt_of_lt_of_le (h.ho i e3) hb.size
  ·exact e3.2, hh.n, rgAt_mono hs h.rg, h.ok⟩
theorem Gs.more {H H1 H' : Nat → Bool} {n : Nat} {w w1 w' : World} {g o : Nat} {C C' : Array Value} {G G' : Gv} (h : Gs H1 n w1 g o C G H' w' C' G') (hb : Below w.heap.size w w1) (ho : ∀ i, H i = true → i < w.heap.size) (a : ∀ i, H i = true → H1 i = true) (b : ∀ i, H1 i = true → H i = true ∨ (w.heap.size ≤ i ∧ i < w1.heap.size)) : Gs H n w g o C G H' w' C' G' :=
 ⟨h.i, (Ch.of_below hb).trans h.ch (fun _ _ e => e) (fun _ _ e => e), fun i e => h.h1 i (a i e), fun i e => by
  rcases h.h2 i e with e2 | e2
  ·exact (b i e2).imp id (fun q => q.1)
  ·exact Or.inr (Nat.le_trans hb.size e2), h.z, h.out, h.t, h.sv, fun b e => (h.kb b e).imp id (Nat.le_trans hb.size), fun b e => (h.ib b e).imp id (Nat.le_trans hb.size), ho⟩
theorem Gs.late {H H' : Nat → Bool} {n : Nat} {w w' w2 : World} {g o R : Nat} {C C' : Array Value} {G G' : Gv} (h : Gs H n w g o C G H' w' C' G') (hc : Ch (fun i => decide (i = R)) w' w2) (hR : w.heap.size ≤ R) (hH : H' R = true) (hg : g ≠ R) (hk : G'.kv.ownBlock ≠ some R) (hi : G'.iv.ownBlock ≠ some R) : Gs H n w g o C G H' w2 C' G' := by
 have hs : ∀ x v, (sees H' w').cell? x = some v → (sees H' w2).cell? x = some v := sees_ch hc (fun i _ e => by simp only [decide_eq_true_eq] at e; rw [e]; exact hH) (fun _ _ e => e);have hlt := h.i.lt;refine ⟨⟨(hc.block g hlt (by simpa using hg)).trans h.i.c, h.i.s, h.i.l, ⟨tkw.jJ h.i.k.r fun q hq => hc.block q (World.ownsRow.lt h.i.k.r q hq).2 (by simp only [decide_eq_false_iff_not]; exact fun e => hk (by rw [hq, e])), h.i.k.z, vw hs h.i.k.s, h.i.k.h⟩,
  ⟨tkw.jJ h.i.i.r fun q hq => hc.block q (World.ownsRow.lt h.i.i.r q hq).2 (by simp only [decide_eq_false_iff_not]; exact fun e => hi (by rw [hq, e])), h.i.i.z, vw hs h.i.i.s, h.i.i.h⟩, h.i.hg, h.i.kg, h.i.ig, h.i.d, fun i e => Nat.lt_of_lt_of_le (h.i.ho i e) hc.size, Nat.le_trans h.i.n hc.size, rgAt_mono hs h.i.rg, h.i.ok⟩,
  h.ch.trans hc (fun _ _ e => e) (fun i hi _ => by simp only [decide_eq_false_iff_not]; omega), h.h1, h.h2, h.z, h.out, h.t, h.sv, h.kb, h.ib, h.ho⟩
theorem Gs.below {H H' : Nat → Bool} {n : Nat} {w w' w2 : World} {g o : Nat} {C C' : Array Value} {G G' : Gv} (h : Gs H n w g o C G H' w' C' G') (hb : Below w'.heap.size w' w2) : Gs H n w g o C G H' w2 C' G' :=
 ⟨h.i.below hb, h.ch.trans (Ch.of_below hb) (fun _ _ e => e) (fun _ _ e => e), h.h1, h.h2, h.z, h.out, h.t, h.sv, h.kb, h.ib, h.ho⟩
theorem gi_kids {H : Nat → Bool} {n : Nat} {w : World} {g o : Nat} {C : Array Value} {G : Gv} (h : Gi H n w g o C G) : jr (sees (hm H G.kv) w) G.kv G.kf :=
 nr_kids h.k h.k.r (fun b e => by simp [hm, e]) (qU fun a v e hc => ⟨by simp [hm, e], hc⟩)
theorem Gs.new {H H' H1 : Nat → Bool} {n : Nat} {w w1 w' : World} {g o R : Nat} {C C' : Array Value} {G G' : Gv} (h : Gs H n w1 g o C G H' w' C' G') (hi : Gi H1 n w g o C G) (_hb : Below w.heap.size w w1) (h0 : w.heap.size ≤ R) (h1 : R < w1.heap.size) : g ≠ R ∧ G'.kv.ownBlock ≠ some R ∧ G'.iv.ownBlock ≠ some R ∧ G.kv.ownBlock ≠ some R ∧ G.iv.ownBlock ≠ some R ∧ w'.heap[R]? = w1.heap[R]? := by
 have hk : G.kv.ownBlock ≠ some R := fun e => by have := (World.ownsRow.lt hi.k.r R e).2; omega
 have hj : G.iv.ownBlock ≠ some R := fun e => by have := (World.ownsRow.lt hi.i.r R e).2; omega
 have hg : g ≠ R := by have := hi.lt; omega
 refine ⟨hg, fun e => ?_, fun e => ?_, hk, hj, h.ch.block R h1 ?_⟩
 ·rcases h.kb R e with e2 | e2
  ·exact hk e2
  ·omega
 ·rcases h.ib R e with e2 | e2
  ·exact hj e2
  ·omega
 ·simp only [top, Bool.or_eq_false_iff, decide_eq_false_iff_not];exact ⟨⟨fun e => hg e.symm, hk⟩, hj⟩
theorem tree_any {H : Nat → Bool} {n : Nat} {w : World} {g o : Nat} {C : Array Value} {G : Gv} (h : Gi H n w g o C G) (hk : G.kf.len ≤ 60000) :
 Calls Tryd.prog 24 #[.pointer (some ⟨g, o, none⟩)] w (GB H n w g o C G fun _ _ G' r => r = ndV (oneR 13 G'.kv G'.kf).1 ∧ G'.g = endG G.g) := by
 have hb1 := qg w (.cells zC.toArray 31);have HRV := xH (heap_alloc_new w (.cells zC.toArray 31));have HZ := xH (World.size_alloc w (.cells zC.toArray 31));have HM1 := xH (show ∀ i, h1 H w.heap.size i = true → H i = true ∨ (w.heap.size ≤ i ∧ i < (w.alloc (.cells zC.toArray 31)).heap.size) from fun i e => by
  simp only [h1, Bool.or_eq_true, decide_eq_true_eq] at e;rcases e with e | e
  ·exact Or.inl e
  ·exact Or.inr (by rw [HZ.out]; omega))
 have HM2 := xH (show ∀ i, H i = true → h1 H w.heap.size i = true from fun i e => by simp [h1, e]);have HG1 := xH (h.more hb1 HM2.out HM1.out);have HGI := xH h;have HB1 := xH hb1;clear h hb1;unfold zC at HRV HZ HM1 HG1 HB1;go_enter Tryd.func24, Tryd.ntmps24;go_upto_region 1 with (fail)
 generalize w.alloc _ = w1 at *;obtain ⟨R, hR⟩ : ∃ R, w.heap.size = R := ⟨_, rfl⟩;have HR := xH hR;rw [hR] at HRV HZ HM1 HM2 HG1 ⊢;clear hR;go_upto_region 1 with (fail)
 go_wp2_with fail
 refine (end_any HG1.out hk).mono ?_;rintro e w2 ⟨r, H', C', G', rfl, hs, rfl, hg⟩;have HS2 := xH hs;have HGG := xH hg;have hnew := hs.new HGI.out HB1.out (R := R) (by rw [HR.out]; exact Nat.le_refl _) (by rw [HZ.out]; omega);have HN := xH hnew;have HRV2 := xH (hnew.2.2.2.2.2.trans HRV.out);have HHR := xH (hs.h1 R (by simp [h1]) hnew.2.2.2.1 hnew.2.2.2.2.1);clear hs hg hnew;obtain ⟨Gt, Gsv, Gkv, Gkf, Giv, Gjf⟩ := G';obtain ⟨ka, kc, hkv⟩ := gi_slice HS2.out.i.k.r;simp only at hkv;subst hkv;have c12 : w2.cell? ⟨g, o + 12, none⟩ = some (.slice ka Gkf.len kc) := gi_cell HS2.out.i rfl;have HKI := xH (gi_kids HS2.out.i);have H1 := xH (qp (zk 13 (by unfold I64; omega) (kids_out HKI.out)));dsimp only;go_wp2_with fail
 refine (gather_any 13 (by unfold I64; omega) (.slice ka Gkf.len kc) Gkf w2 (kids_out HKI.out)).mono ?_;rintro e w3 ⟨rfl, hb3⟩;have HRV3 := xH ((hb3.block R (Array.getElem?_eq_some_iff.1 HRV2.out).1).trans HRV2.out);have HS3 := xH (HS2.out.below hb3);clear hb3 c12;dsimp only;go_wp2_with (refine qh rfl rfl _ _ rfl R rfl _ (oneR 13 (.slice ka Gkf.len kc) Gkf).1 HRV3.out rfl H1.out rfl ?_)
 refine bodyPost_ret (qA rfl _ _ R (oneR 13 (.slice ka Gkf.len kc) Gkf).1 rfl (setRow_heap _ _ _ _ _ _ HRV3.out)) rfl ?_;exact ⟨_, _, _, _, rfl, ((HS3.out.more HB1.out HGI.out.ho HM2.out (by rw [HR.out]; exact HM1.out)).late (Ch.row _ w3 R _ (by simp)) (R := R) (by rw [HR.out]; exact Nat.le_refl _) HHR.out HN.out.1 HN.out.2.1 HN.out.2.2.1), rfl, HGG.out⟩
end Go.Proofs.YtnpcombfgdbhkaaDoor.psw
end
