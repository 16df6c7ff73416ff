/- T -/
import Derived.Test.YtnpcombfgdbhkaaDoorBPs15
import Derived.Test.YtnpcombfgdbhkaaDoorBPs19
set_option maxHeartbeats 16000000
set_option maxRecDepth 1000000
section
namespace Go.Proofs.YtnpcombfgdbhkaaDoor.psw
open sq
open Go.Sort Go Go.RowKit Go.Maps tkp trp trw rpp psp
open tkw (qO)
open rpw (sees jB qU fC jP FSub vw jQ app_sub jH jm jd qp vW oneR zk jV lab_ok rg_nil qh qA jU)
theorem cell_rowP {w : World} {P : Nat} {v : Value} (h : w.heap[P]? = some (.cells #[v] 62 (0, 0))) : w.cell? ⟨P, 0, none⟩ = some v ∧ w.frozen? ⟨P, 0, none⟩ = false := by unfold World.cell? World.frozen?;rw [h];exact ⟨rfl, rfl⟩
theorem read_quant {n P q cap : Nat} {zh H : Nat → Bool} {w : World} {cur : Array Value} {G : Gv} {T : List Gv} (tsv : Value) (t : Tk) (h : PaI zh H n w P q cap cur (G :: T)) (hT : TabP w) (hU : T.length ≤ 40) (hl : ∀ B ∈ G :: T, B.kf.len ≤ 60000 ∧ B.jf.len ≤ 60000) (ht : TkO t) (ho1 : tsv.oneCell' = true) (hk : t.kind = 9) : Calls Tryd.prog 22 #[.pointer (some ⟨P, 0, none⟩), .agg (tA tsv t)] w (StB zh n P (psp.stepG t ((G :: T).map Gv.g)) w) := by
 obtain ⟨R, hR⟩ : ∃ R, psp.stepG t ((G :: T).map Gv.g) = R := ⟨_, rfl⟩;rw [hR];have HRR := xH (hR.symm.trans (show _ = (if lastR G.g.jf = true then .ok ({ G.g with jf := psp.repL t G.g.jf } :: T.map Gv.g) else .error (30, (t.at_ : Int)) : E2 (List psp.G)) from (step_c t G.g (T.map Gv.g)).trans (by rw [if_neg (by omega), if_pos hk])));clear hR;have HTO := xH ht;have HSO := xH ho1;have HO0 := xH h.ho;have HN := xH h.n;have HL := xH hl;have HB1 := xH (qg w (.cells (tA tsv t) 53));have HR1 := xH (heap_alloc_new w (.cells (tA tsv t) 53));have HI1 := xH (h.below HB1.out);have HT1 := xH (tabP_below HB1.out hT);have HBW := xH (HB1.out.mono HN.out);have t0 : (w.alloc (.cells (tA tsv t) 53)).cell? ⟨w.heap.size, 0, none⟩ = some (.int .i64 t.kind) := tk_cells HR1.out rfl;have b7 : (t.kind == 7) = false := by simp; omega
 have b9 : (t.kind == 9) = true := by simp [hk]
 clear h hT hl hk ht;unfold tA at HB1 HR1 HI1 HT1 HBW t0 ⊢;go_enter Tryd.func22, Tryd.ntmps22;go_upto_region 6 with (fail)
 generalize w.alloc _ = w1 at *;obtain ⟨N, hNN⟩ : ∃ N, w.heap.size = N := ⟨_, rfl⟩;have HNN := xH hNN;rw [hNN] at HR1 ⊢;clear hNN;clear t0;have HNH := xH (show H N = false from by
  cases e : H N with
  | false => rfl
  | true => have := HO0.out N e; have := HNN.out; omega)
 go_wp2_with fail
 refine wp_region_held_drew (S := fun w' => w'.heap[N]? = some (.cells (tA tsv t) 53 (0, 0))) (by kernel_rfl) HR1.out (fun hHeld => ?_);have hbd := trw.qL w1;have HI1 := xH (HI1.out.below hbd);have HT1 := xH (tabP_below hbd HT1.out);have HBW := xH (HBW.out.trans (hbd.mono (Nat.le_trans HN.out HB1.out.size)));clear hbd;generalize hwd : w1.drew = wd at *;clear hwd;refine xT 0 rfl ?_ ?_ ?_;rotate_left
 ·intro w' hSw;go_simp;try rfl
 simp only [xS];refine xT 2 rfl ?_ ?_ ?_;rotate_left
 ·intro w' hSw;have t0 := tk_cells hSw (j := 0) rfl;have t1 := tk_cells hSw (j := 1) rfl;have t2 := tk_cells hSw (j := 2) rfl;have t3 := tk_cells hSw (j := 3) rfl;have t4 := tk_cells hSw (j := 4) rfl;have t5 := tk_cells hSw (j := 5) rfl;have t6 := tk_cells hSw (j := 6) rfl;have t7 := tk_cells hSw (j := 7) rfl;have t8 := tk_cells hSw (j := 8) rfl;have t9 := tk_cells hSw (j := 9) rfl;have t10 := tk_cells hSw (j := 10) rfl;have t11 := tk_cells hSw (j := 11) rfl;go_simp;try rfl
 simp only [xS];refine xD 1 rfl (fun K hK => ?_);go_simp;refine (last_any (m := T.length) _ (by omega) HI1.out.cell.1).mono ?_;rintro e w2 ⟨rfl, hb2⟩;have HI2 := xH (HI1.out.below hb2);have HT2 := xH (tabP_below hb2 HT1.out);have HB2 := xH (HBW.out.trans (hb2.mono HI1.out.n));refine hK.out _ _ ((hb2.block N (Array.getElem?_eq_some_iff.1 hHeld).1).trans hHeld) (fun hHeld => ?_);clear hK K;try simp only [xS]
 clear hb2 HI1 HT1 HBW;refine xD 3 rfl (fun K hK => ?_);go_simp;refine (rep_any (o := T.length * 14) tsv t HI2.out.top HTO.out HSO.out (HL.out G (List.mem_cons_self ..)).2).mono ?_;rintro e w3 ⟨r, H3, C3, G3, rfl, hs, rfl, hg1, hg2⟩;obtain ⟨hi3, hb3⟩ := HI2.out.upd hs;have HI3 := xH hi3;have HB3 := xH (HB2.out.trans hb3);have HG1 := xH hg1;have hv3 := hs.ch.block N (Array.getElem?_eq_some_iff.1 hHeld).1 (by
  cases e : psw.top q G.kv G.iv N with
  | false => rfl
  | true =>
   have e2 := top_own HI2.out.top e;rw [HNH.out] at e2;cases e2)
 have HV3 := xH (hv3.trans hHeld);refine hK.out _ _ HV3.out (fun hHeld => ?_);clear hK K;try simp only [xS]
 clear hs hi3 hb3 hg1 hg2 hv3;cases hL : lastR (strip G.jf) with
 | true =>
  have HRQ := xH (HRR.out.trans (if_pos hL));have HG2 := xH (HG1.out hL);clear hL HRR HG1;refine xT 4 rfl ?_ ?_ ?_;rotate_left
  ·intro w' hSw;go_simp;try rfl
  simp only [xS];refine wpAnyH_done (by kernel_rfl) ?_ _;go_wp2_with fail
  refine bodyPost_ret (results_tmp2 rfl _ _ _) rfl ?_;rw [HRQ.out];exact stB_ok HB3.out HI3.out (by show G3.g :: T.map Gv.g = _; rw [HG2.out]; rfl)
 | false =>
  have HRQ := xH (HRR.out.trans (if_neg (by rw [show lastR G.g.jf = false from hL]; decide)));clear hL HRR HG1;refine xT 4 rfl ?_ ?_ ?_;rotate_left
  ·intro w' hSw;go_simp;try rfl
  simp only [xS];refine wpAnyH_done (by kernel_rfl) ?_ _;have t1 : w3.cell? ⟨N, 1, none⟩ = some (.int .i64 (t.at_ : Int)) := tk_cells HV3.out rfl;go_wp2_with fail
  go_quiet (fail)
  go_wp2_with fail
  refine bodyPost_ret (results_tmp2 rfl _ _ _) rfl ?_;rw [HRQ.out];exact stB_er (HB3.out.trans ((dn_below _ _).mono HI3.out.n))
theorem read_leaf {n P q cap : Nat} {zh H : Nat → Bool} {w : World} {cur : Array Value} {G : Gv} {T : List Gv} (tsv : Value) (t : Tk) (h : PaI zh H n w P q cap cur (G :: T)) (hT : TabP w) (hU : T.length ≤ 40) (hl : ∀ B ∈ G :: T, B.kf.len ≤ 60000 ∧ B.jf.len ≤ 60000) (ht : TkO t) (hr : RgAt w tsv t.set) (hls : t.set.length ≤ 1000000) (h15 : 1 ≤ t.kind ∧ t.kind ≤ 15) (hk : ¬ (7 ≤ t.kind ∧ t.kind ≤ 10)) : Calls Tryd.prog 22 #[.pointer (some ⟨P, 0, none⟩), .agg (tA tsv t)] w (StB zh n P (psp.stepG t ((G :: T).map Gv.g)) w) := by
 obtain ⟨R, hR⟩ : ∃ R, psp.stepG t ((G :: T).map Gv.g) = R := ⟨_, rfl⟩;rw [hR];have HRR := xH (hR.symm.trans (show _ = (.ok (putG G.g (F.one (leafL t nil3) .nil) :: T.map Gv.g) : E2 (List psp.G)) from (step_c t G.g (T.map Gv.g)).trans (by rw [if_neg (by omega), if_neg (by omega), if_neg (by omega), if_neg (by omega)])));clear hR;have HTO := xH ht;have HO0 := xH h.ho;have HLS := xH hls;have H15 := xH (And.intro h15 hk);have HRG := xH (rgAt_mono (fun _ _ hc => trw.qf (qg w (.cells (tA tsv t) 53)) hc) hr);have HN := xH h.n;have HL := xH hl;have HB1 := xH (qg w (.cells (tA tsv t) 53));have HR1 := xH (heap_alloc_new w (.cells (tA tsv t) 53));have HI1 := xH (h.below HB1.out);have HT1 := xH (tabP_below HB1.out hT);have HBW := xH (HB1.out.mono HN.out);have t0 : (w.alloc (.cells (tA tsv t) 53)).cell? ⟨w.heap.size, 0, none⟩ = some (.int .i64 t.kind) := tk_cells HR1.out rfl;have b7 : (t.kind == 7) = false := by simp; omega
 have b9 : (t.kind == 9) = false := by simp; omega
 have b10 : (t.kind == 10) = false := by simp; omega
 have b8 : (t.kind == 8) = false := by simp; omega
 clear h hT hl hk ht hr hls h15;unfold tA at HB1 HR1 HI1 HT1 HBW t0 HRG ⊢;go_enter Tryd.func22, Tryd.ntmps22;go_upto_region 2 with (fail)
 generalize w.alloc _ = w1 at *;obtain ⟨N, hNN⟩ : ∃ N, w.heap.size = N := ⟨_, rfl⟩;have HNN := xH hNN;rw [hNN] at HR1 ⊢;clear hNN;clear t0 b7 b8 b9 b10;have HNH := xH (show H N = false from by
  cases e : H N with
  | false => rfl
  | true => have := HO0.out N e; have := HNN.out; omega)
 go_wp2_with fail
 refine wp_region_held_drew (S := fun w' => w'.heap[N]? = some (.cells (tA tsv t) 53 (0, 0))) (by kernel_rfl) HR1.out (fun hHeld => ?_);have hbd := trw.qL w1;have HI1 := xH (HI1.out.below hbd);have HT1 := xH (tabP_below hbd HT1.out);have HBW := xH (HBW.out.trans (hbd.mono (Nat.le_trans HN.out HB1.out.size)));have HRG := xH (rgAt_mono (fun _ _ hc => trw.qf hbd hc) HRG.out);clear hbd;generalize hwd : w1.drew = wd at *;clear hwd;refine xT 0 rfl ?_ ?_ ?_;rotate_left
 ·intro w' hSw;go_simp;try rfl
 simp only [xS];refine xT 2 rfl ?_ ?_ ?_;rotate_left
 ·intro w' hSw;have t0 := tk_cells hSw (j := 0) rfl;have t1 := tk_cells hSw (j := 1) rfl;have t2 := tk_cells hSw (j := 2) rfl;have t3 := tk_cells hSw (j := 3) rfl;have t4 := tk_cells hSw (j := 4) rfl;have t5 := tk_cells hSw (j := 5) rfl;have t6 := tk_cells hSw (j := 6) rfl;have t7 := tk_cells hSw (j := 7) rfl;have t8 := tk_cells hSw (j := 8) rfl;have t9 := tk_cells hSw (j := 9) rfl;have t10 := tk_cells hSw (j := 10) rfl;have t11 := tk_cells hSw (j := 11) rfl;go_simp;try rfl
 simp only [xS];refine xD 1 rfl (fun K hK => ?_);go_simp;refine (last_any (m := T.length) _ (by omega) HI1.out.cell.1).mono ?_;rintro e w2 ⟨rfl, hb2⟩;have HI2 := xH (HI1.out.below hb2);have HT2 := xH (tabP_below hb2 HT1.out);have HB2 := xH (HBW.out.trans (hb2.mono HI1.out.n));refine hK.out _ _ ((hb2.block N (Array.getElem?_eq_some_iff.1 hHeld).1).trans hHeld) (fun hHeld => ?_);clear hK K;try simp only [xS]
 have HRG := xH (rgAt_mono (fun _ _ hc => trw.qf hb2 hc) HRG.out);clear hb2 HI1 HT1 HBW;refine xD 3 rfl (fun K hK => ?_);go_simp;refine (ele_any tsv t w2 HT2.out HRG.out HTO.out HLS.out H15.out.1 H15.out.2).mono ?_;rintro e w3 ⟨sv, rfl, hn, hb3⟩;have HI3 := xH (HI2.out.below hb3);have HB3 := xH (HB2.out.trans (hb3.mono HI2.out.n));have HN3 := xH (hn H HI2.out.ho);refine hK.out _ _ ((hb3.block N (Array.getElem?_eq_some_iff.1 hHeld).1).trans hHeld) (fun hHeld => ?_);clear hK K;try simp only [xS]
 clear hn hb3 HI2 HB2 HT2 HRG;refine xD 4 rfl (fun K hK => ?_);go_simp;refine (put_any (o := T.length * 14) (leafL t sv) .nil HI3.out.top HN3.out (HL.out G (List.mem_cons_self ..)).1 (HL.out G (List.mem_cons_self ..)).2).mono ?_;rintro e w4 ⟨r, H4, C4, G4, rfl, hs, rfl, hg⟩;obtain ⟨hi4, hb4⟩ := HI3.out.upd hs;have HI4 := xH hi4;have HB4 := xH (HB3.out.trans hb4);have HG4 := xH hg;have hv4 := hs.ch.block N (Array.getElem?_eq_some_iff.1 hHeld).1 (by
  cases e : psw.top q G.kv G.iv N with
  | false => rfl
  | true =>
   have e2 := top_own HI3.out.top e;rw [HNH.out] at e2;cases e2)
 refine hK.out _ _ (hv4.trans hHeld) (fun hHeld => ?_);clear hK K;try simp only [xS]
 clear hs hi4 hb4 hg hv4;refine wpAnyH_done (by kernel_rfl) ?_ _;go_wp2_with fail
 refine bodyPost_ret (results_tmp2 rfl _ _ _) rfl ?_;rw [HRR.out];exact stB_ok HB4.out HI4.out (by show G4.g :: T.map Gv.g = _; rw [HG4.out]; rfl)
theorem read_open {n P q cap : Nat} {zh H : Nat → Bool} {w : World} {cur : Array Value} {G : Gv} {T : List Gv} (tsv : Value) (t : Tk) (h : PaI zh H n w P q cap cur (G :: T)) (hT : TabP w) (hU : T.length ≤ 40) (hl : ∀ B ∈ G :: T, B.kf.len ≤ 60000 ∧ B.jf.len ≤ 60000) (ht : TkO t) (ho1 : tsv.oneCell' = true) (hr : RgAt (sees H w) tsv t.set) (hk : t.kind = 10) : Calls Tryd.prog 22 #[.pointer (some ⟨P, 0, none⟩), .agg (tA tsv t)] w (StB zh n P (psp.stepG t ((G :: T).map Gv.g)) w) := by
 obtain ⟨R, hR⟩ : ∃ R, psp.stepG t ((G :: T).map Gv.g) = R := ⟨_, rfl⟩;rw [hR];have HRR := xH (hR.symm.trans (show _ = (if 40 < (T.map Gv.g).length + 1 then .error (11, (t.at_ : Int)) else .ok (⟨t, .nil, .nil⟩ :: G.g :: T.map Gv.g) : E2 (List psp.G)) from (step_c t G.g (T.map Gv.g)).trans (by rw [if_neg (by omega), if_neg (by omega), if_pos hk])));clear hR;have HTO := xH ht;have HSO := xH ho1;have HO0 := xH h.ho;have HRG := xH (rgAt_mono (qU (h := H) (h' := H) fun _ _ e hc => ⟨e, trw.qf (qg w (.cells (tA tsv t) 53)) hc⟩) hr);have HN := xH h.n;have HL := xH hl;have HB1 := xH (qg w (.cells (tA tsv t) 53));have HR1 := xH (heap_alloc_new w (.cells (tA tsv t) 53));have HI1 := xH (h.below HB1.out);have HT1 := xH (tabP_below HB1.out hT);have HBW := xH (HB1.out.mono HN.out);have t0 : (w.alloc (.cells (tA tsv t) 53)).cell? ⟨w.heap.size, 0, none⟩ = some (.int .i64 t.kind) := tk_cells HR1.out rfl;have b7 : (t.kind == 7) = false := by simp; omega
 have b9 : (t.kind == 9) = false := by simp; omega
 have b10 : (t.kind == 10) = true := by simp [hk]
 have cP : (w.alloc (.cells (tA tsv t) 53)).cell? ⟨P, 0, none⟩ = some (.slice (some ⟨q, 0, none⟩) (T.length + 1) cap) := HI1.out.cell.1;have HNP := xH (show w.heap.size ≠ P from fun e => by have := h.ho P h.hp; omega);have t1 : (w.alloc (.cells (tA tsv t) 53)).cell? ⟨w.heap.size, 1, none⟩ = some (.int .i64 (t.at_ : Int)) := tk_cells HR1.out rfl;clear h hT hl hk ht hr;unfold tA at HB1 HR1 HI1 HT1 HBW t0 HRG cP t1 ⊢;go_enter Tryd.func22, Tryd.ntmps22;by_cases h40 : 40 < T.length + 1
 ·have HRQ := xH (HRR.out.trans (if_pos (by rw [List.length_map]; exact h40)));have d40 : decide (40 < T.length + 1) = true := by simpa using h40
  have d41 : (40 : Int) < (T.length : Int) + 1 := by omega
  go_upto_region 10 with (fail)
  go_wp2_with fail
  go_quiet (fail)
  go_wp2_with fail
  refine bodyPost_ret (results_tmp2 rfl _ _ _) rfl ?_;rw [HRQ.out];exact stB_er (HBW.out.trans ((dn_below _ _).mono (Nat.le_trans HN.out HB1.out.size)))
 have HRQ := xH (HRR.out.trans (if_neg (by rw [List.length_map]; exact h40)));have d40 : decide (40 < T.length + 1) = false := by simpa using h40
 have d41 : ¬ (40 : Int) < (T.length : Int) + 1 := by omega
 clear HRR h40;go_upto_region 11 with (fail)
 generalize w.alloc _ = w1 at *;obtain ⟨N, hNN⟩ : ∃ N, w.heap.size = N := ⟨_, rfl⟩;have HNN := xH hNN;rw [hNN] at HR1 HNP ⊢;clear hNN;clear t0 t1 cP d40 d41 b7 b9 b10;have HNH := xH (show H N = false from by
  cases e : H N with
  | false => rfl
  | true => have := HO0.out N e; have := HNN.out; omega)
 go_wp2_with fail
 refine wp_region_held_drew (S := fun w' => w'.heap[N]? = some (.cells (tA tsv t) 53 (0, 0))) (by kernel_rfl) HR1.out (fun hHeld => ?_);have hbd := trw.qL w1;have HI1 := xH (HI1.out.below hbd);have HT1 := xH (tabP_below hbd HT1.out);have HBW := xH (HBW.out.trans (hbd.mono (Nat.le_trans HN.out HB1.out.size)));have HRG := xH (rgAt_mono (qU (h := H) (h' := H) fun _ _ e hc => ⟨e, trw.qf hbd hc⟩) HRG.out);clear hbd;generalize hwd : w1.drew = wd at *;clear hwd;refine xT 0 rfl ?_ ?_ ?_;rotate_left
 ·intro w' hSw;go_simp;try rfl
 simp only [xS];refine xT 1 rfl ?_ ?_ ?_;rotate_left
 ·intro w' hSw;go_simp;try rfl
 simp only [xS];refine xT 2 rfl ?_ ?_ ?_;rotate_left
 ·intro w' hSw;go_simp;try rfl
 simp only [xS];refine xT 3 rfl ?_ ?_ ?_;rotate_left
 ·intro w' hSw;go_simp;try rfl
 simp only [xS];refine xT 5 rfl ?_ ?_ ?_;rotate_left
 ·intro w' hSw;have t0 := tk_cells hSw (j := 0) rfl;have t1 := tk_cells hSw (j := 1) rfl;have t2 := tk_cells hSw (j := 2) rfl;have t3 := tk_cells hSw (j := 3) rfl;have t4 := tk_cells hSw (j := 4) rfl;have t5 := tk_cells hSw (j := 5) rfl;have t6 := tk_cells hSw (j := 6) rfl;have t7 := tk_cells hSw (j := 7) rfl;have t8 := tk_cells hSw (j := 8) rfl;have t9 := tk_cells hSw (j := 9) rfl;have t10 := tk_cells hSw (j := 10) rfl;have t11 := tk_cells hSw (j := 11) rfl;go_simp;try rfl
 simp only [xS];refine xT 6 rfl ?_ ?_ ?_;rotate_left
 ·intro w' hSw;go_simp;try rfl
 simp only [xS];refine wpAnyH_ready (rs := [4, 7]) (by kernel_rfl) (by simp) ?_;refine AllReadyH.cons rfl (fun K hK => ?_) (AllReadyH.cons rfl (fun K hK => ?_) AllReadyH.nil)
 ·have c0' := HI1.out.cell.1;go_simp;clear c0';refine hK.out _ _ hHeld (fun hHeld => ?_);clear hK K;try simp only [xS]
  refine xD 7 rfl (fun K hK => ?_);refine held_build_g rfl _ rfl tsv t rfl ?_;intro W2 h2;have hbn : Below wd.heap.size wd W2 := h2 ▸ qg _ _;have HBG := xH (show W2.heap[wd.heap.size]? = some (.cells (gA tsv t) 59 (0, 0)) from h2 ▸ heap_alloc_new _ _);have HI2 := xH (HI1.out.below hbn);have HB2 := xH (HBW.out.trans (hbn.mono HI1.out.n));have HRX := xH (rgAt_mono (qU (h := H) (h' := H) fun _ _ e hc => ⟨e, trw.qf hbn hc⟩) HRG.out);clear h2;obtain ⟨B, hB⟩ : ∃ B, wd.heap.size = B := ⟨_, rfl⟩;rw [hB] at HBG ⊢;refine hK.out _ _ ((hbn.block N (Array.getElem?_eq_some_iff.1 hHeld).1).trans hHeld) (fun hHeld => ?_);clear hK K;try simp only [xS]
  clear hbn;refine xD 8 rfl (fun K hK => ?_);refine held_append_g rfl _ _ rfl HI2.out rfl tsv t B rfl HBG.out HSO.out (by simp only [List.length_cons]; omega) ?_;intro w3 q3 cap3 cur3 hg3 hc3 hz3 hl3 hm3 ht3 hq3;have hpush := HI2.out.push (sv := tsv) (t := t) hg3 hc3 hz3 hl3 hm3 ht3 hq3 (HRX.out) HTO.out;have HPU := xH hpush;have cP := (show w3.heap[P]? = some (.cells #[.slice (some ⟨q, 0, none⟩) (T.length + 1) cap] 62 (0, 0)) from (hg3.block P (HI2.out.ho P HI2.out.hp) (fun e => HI2.out.pq (Option.some.inj e))).trans HI2.out.p);have HCP := xH cP;have hN3 := hg3.block N (Array.getElem?_eq_some_iff.1 hHeld).1 (fun e => by have := Option.some.inj e;have h2 := HI2.out.hq;rw [← this, HNH.out] at h2;cases h2)
  refine hK.out _ _ (hN3.trans hHeld) (fun hHeld => ?_);clear hK K;try simp only [xS]
  clear hg3 hc3 hz3 hl3 hm3 ht3 hq3 hpush cP hN3;refine xT 9 rfl ?_ ?_ ?_;rotate_left
  ·intro w' hSw;go_simp;try rfl
  simp only [xS];refine xT 10 rfl ?_ ?_ ?_;rotate_left
  ·intro w' hSw;go_simp;try rfl
  simp only [xS];refine xD 11 rfl (fun K hK => ?_);obtain ⟨c3, c4⟩ := cell_rowP HCP.out;go_simp;refine hK.out _ _ ((rpw.qx 0 _ HNP.out).trans hHeld) (fun hHeld => ?_);clear hK K;try simp only [xS]
  clear c3 c4;refine wpAnyH_done (by kernel_rfl) ?_ _;go_wp2_with fail
  refine bodyPost_ret (results_tmp2 rfl _ _ _) rfl ?_;rw [HRQ.out];exact stB_ok (HB2.out.trans HPU.out.2) HPU.out.1 rfl
 ·refine held_build_g rfl _ rfl tsv t rfl ?_;intro W2 h2;have hbn : Below wd.heap.size wd W2 := h2 ▸ qg _ _;have HBG := xH (show W2.heap[wd.heap.size]? = some (.cells (gA tsv t) 59 (0, 0)) from h2 ▸ heap_alloc_new _ _);have HI2 := xH (HI1.out.below hbn);have HB2 := xH (HBW.out.trans (hbn.mono HI1.out.n));have HRX := xH (rgAt_mono (qU (h := H) (h' := H) fun _ _ e hc => ⟨e, trw.qf hbn hc⟩) HRG.out);clear h2;obtain ⟨B, hB⟩ : ∃ B, wd.heap.size = B := ⟨_, rfl⟩;rw [hB] at HBG ⊢;refine hK.out _ _ ((hbn.block N (Array.getElem?_eq_some_iff.1 hHeld).1).trans hHeld) (fun hHeld => ?_);clear hK K;try simp only [xS]
  clear hbn;refine xD 4 rfl (fun K hK => ?_);have c0' := HI2.out.cell.1;go_simp;clear c0';refine hK.out _ _ hHeld (fun hHeld => ?_);clear hK K;try simp only [xS]
  refine xD 8 rfl (fun K hK => ?_);refine held_append_g rfl _ _ rfl HI2.out rfl tsv t B rfl HBG.out HSO.out (by simp only [List.length_cons]; omega) ?_;intro w3 q3 cap3 cur3 hg3 hc3 hz3 hl3 hm3 ht3 hq3;have hpush := HI2.out.push (sv := tsv) (t := t) hg3 hc3 hz3 hl3 hm3 ht3 hq3 (HRX.out) HTO.out;have HPU := xH hpush;have cP := (show w3.heap[P]? = some (.cells #[.slice (some ⟨q, 0, none⟩) (T.length + 1) cap] 62 (0, 0)) from (hg3.block P (HI2.out.ho P HI2.out.hp) (fun e => HI2.out.pq (Option.some.inj e))).trans HI2.out.p);have HCP := xH cP;have hN3 := hg3.block N (Array.getElem?_eq_some_iff.1 hHeld).1 (fun e => by have := Option.some.inj e;have h2 := HI2.out.hq;rw [← this, HNH.out] at h2;cases h2)
  refine hK.out _ _ (hN3.trans hHeld) (fun hHeld => ?_);clear hK K;try simp only [xS]
  clear hg3 hc3 hz3 hl3 hm3 ht3 hq3 hpush cP hN3;refine xT 9 rfl ?_ ?_ ?_;rotate_left
  ·intro w' hSw;go_simp;try rfl
  simp only [xS];refine xT 10 rfl ?_ ?_ ?_;rotate_left
  ·intro w' hSw;go_simp;try rfl
  simp only [xS];refine xD 11 rfl (fun K hK => ?_);obtain ⟨c3, c4⟩ := cell_rowP HCP.out;go_simp;refine hK.out _ _ ((rpw.qx 0 _ HNP.out).trans hHeld) (fun hHeld => ?_);clear hK K;try simp only [xS]
  clear c3 c4;refine wpAnyH_done (by kernel_rfl) ?_ _;go_wp2_with fail
  refine bodyPost_ret (results_tmp2 rfl _ _ _) rfl ?_;rw [HRQ.out];exact stB_ok (HB2.out.trans HPU.out.2) HPU.out.1 rfl
end Go.Proofs.YtnpcombfgdbhkaaDoor.psw
end
section
namespace Go.Proofs.YtnpcombfgdbhkaaDoor.psw
open sq
open Go.Sort Go Go.RowKit Go.Maps tkp trp trw rpp psp
open tkw (qO)
open rpw (sees jB qU fC jP FSub vw jQ app_sub jH jm jd qp vW oneR zk jV lab_ok rg_nil qh qA jU zT)
structure LTk (L : List Tk) : Prop where
 n : L.length ≤ 50000
 t : ∀ t ∈ L, TkO t ∧ t.set.length ≤ 1000000 ∧ 1 ≤ t.kind ∧ t.kind ≤ 15 ∧ (t.kind = 10 → 1 ≤ t.n ∧ t.n ≤ 13)
def Opd : List psp.G → Prop
 | [] => True
 | g :: T => (T ≠ [] → g.t.kind = 10 ∧ 1 ≤ g.t.n ∧ g.t.n ≤ 13) ∧ Opd T
theorem putG_len (g : psp.G) (x : F) : (putG g x).kf.len + (putG g x).jf.len = g.kf.len + g.jf.len + x.len := by
 unfold putG;split
 ·simp only [jd]; omega
 ·simp only [jd]; omega
theorem repL_len (t : Tk) : ∀ f : F, (psp.repL t f).len = f.len
 | .nil => rfl
 | .cons _ _ .nil => rfl
 | .cons _ _ (.cons a b r) => by show (psp.repL t (.cons a b r)).len + 1 = (F.cons a b r).len + 1;rw [repL_len t (.cons a b r)]
theorem oneF_len (k : Int) (f : F) : (oneF k f).len = 1 := by unfold oneF;split <;> rfl
theorem nodeG_len (g : psp.G) : (nodeG g).len = 1 := by obtain ⟨x, k, e, _⟩ := groupF_one g.t .nil (endG g).kf;unfold nodeG;rw [e];rfl
theorem putG_t (g : psp.G) (x : F) : (putG g x).t = g.t := by unfold putG; split <;> rfl
theorem opd_t {g g' : psp.G} {T : List psp.G} (h : Opd (g :: T)) (e : g'.t = g.t) : Opd (g' :: T) := ⟨fun q => by rw [e]; exact h.1 q, h.2⟩
theorem step_inv {t : Tk} {g : psp.G} {T U : List psp.G} {i : Nat} (h : psp.stepG t (g :: T) = .ok U) (hk : t.kind = 10 → 1 ≤ t.n ∧ t.n ≤ 13) (hl : ∀ B ∈ g :: T, B.kf.len + B.jf.len ≤ i) (hT : T.length ≤ 40) (ho : Opd (g :: T)) : ∃ g' T', U = g' :: T' ∧ (∀ B ∈ U, B.kf.len + B.jf.len ≤ i + 1) ∧ T'.length ≤ 40 ∧ Opd U := by
 rw [step_c] at h;have hg := hl g (List.mem_cons_self ..);have hrest : ∀ B ∈ T, B.kf.len + B.jf.len ≤ i + 1 := fun B hB => Nat.le_succ_of_le (hl B (List.mem_cons_of_mem _ hB))
 by_cases h7 : t.kind = 7
 ·rw [if_pos h7] at h;cases h;refine ⟨_, _, rfl, fun B hB => ?_, hT, opd_t ho rfl⟩;rcases List.mem_cons.1 hB with rfl | hB
  ·show (F.app g.kf (oneF 12 g.jf)).len + 0 ≤ _;rw [jd, oneF_len];omega
  ·exact hrest B hB
 rw [if_neg h7] at h;by_cases h9 : t.kind = 9
 ·rw [if_pos h9] at h;split at h
  ·cases h;refine ⟨_, _, rfl, fun B hB => ?_, hT, opd_t ho rfl⟩;rcases List.mem_cons.1 hB with rfl | hB
   ·show g.kf.len + (psp.repL t g.jf).len ≤ _;rw [repL_len];omega
   ·exact hrest B hB
  ·cases h
 rw [if_neg h9] at h;by_cases h10 : t.kind = 10
 ·rw [if_pos h10] at h;split at h
  ·cases h
  ·cases h;refine ⟨_, _, rfl, fun B hB => ?_, by simp only [List.length_cons]; omega, fun _ => ⟨h10, hk h10⟩, ho⟩;rcases List.mem_cons.1 hB with rfl | hB
   ·simp [F.len]
   ·exact Nat.le_succ_of_le (hl B hB)
 rw [if_neg h10] at h;by_cases h8 : t.kind = 8
 ·rw [if_pos h8] at h;cases T with
  | nil => cases h
  | cons q V =>
   simp only at h;split at h
   ·cases h
   ·cases h;refine ⟨_, _, rfl, fun B hB => ?_, by simp only [List.length_cons] at hT; omega, opd_t ho.2 (putG_t _ _)⟩;rcases List.mem_cons.1 hB with rfl | hB
    ·rw [putG_len, nodeG_len];have := hl q (by simp);omega
    ·exact hrest B (List.mem_cons_of_mem _ hB)
 rw [if_neg h8] at h;cases h;refine ⟨_, _, rfl, fun B hB => ?_, hT, opd_t ho (putG_t _ _)⟩;rcases List.mem_cons.1 hB with rfl | hB
 ·rw [putG_len];show _ + 1 ≤ _;omega
 ·exact hrest B hB
theorem step_er {t : Tk} {g : psp.G} {T : List psp.G} {x : Int × Int} (h : psp.stepG t (g :: T) = .error x) : x.1 ≠ 0 := by
 rw [step_c] at h;split at h
 ·cases h
 split at h
 ·split at h <;> cases h;show (30 : Int) ≠ 0;decide
 split at h
 ·split at h <;> cases h;show (11 : Int) ≠ 0;decide
 split at h
 ·cases T with
  | nil =>
   cases h;show (31 : Int) ≠ 0;decide
  | cons q V =>
   simp only at h;split at h <;> cases h;show (32 : Int) ≠ 0;decide
 ·cases h
theorem read_any {n P q cap : Nat} {zh H : Nat → Bool} {w : World} {cur : Array Value} {G : Gv} {T : List Gv} (tsv : Value) (t : Tk) (h : PaI zh H n w P q cap cur (G :: T)) (hT : TabP w) (hU : T.length ≤ 40) (hl : ∀ B ∈ G :: T, B.kf.len ≤ 60000 ∧ B.jf.len ≤ 60000) (ht : TkO t) (ho1 : tsv.oneCell' = true) (hr : RgAt (sees H w) tsv t.set) (hls : t.set.length ≤ 1000000) (h1 : 1 ≤ t.kind) (h15 : t.kind ≤ 15) (hop : T ≠ [] → G.t.kind = 10 ∧ 1 ≤ G.t.n ∧ G.t.n ≤ 13) : Calls Tryd.prog 22 #[.pointer (some ⟨P, 0, none⟩), .agg (tA tsv t)] w (StB zh n P (psp.stepG t ((G :: T).map Gv.g)) w) := by
 by_cases h7 : t.kind = 7
 ·exact read_bar tsv t h hT hU hl h7
 by_cases h8 : t.kind = 8
 ·exact read_close tsv t h hT hU hl h8 hop
 by_cases h9 : t.kind = 9
 ·exact read_quant tsv t h hT hU hl ht ho1 h9
 by_cases h10 : t.kind = 10
 ·exact read_open tsv t h hT hU hl ht ho1 hr h10
 exact read_leaf tsv t h hT hU hl ht (rgAt_mono (fun _ _ hc => (jB.1 hc).2) hr) hls ⟨h1, h15⟩ (by omega)
def PrB (zh : Nat → Bool) (w : World) (r : R F) (e : Ending) (w' : World) : Prop := Below w.heap.size w w' ∧ match r with
 | .error x => e = .returned (.tuple #[ndV (lab 0 0), .int .i64 x.1, .int .i64 x.2])
 | .ok f => ∃ x k, e = .returned (.tuple #[ndV x, .int .i64 0, .int .i64 0]) ∧ NdAt (sees zh w') (x, k) ∧ strip (F.one x k) = f
theorem results_nd3 {fn : Func} {p q r : Tmp} (h : fn.results = #[.cell p 31, .tmp q, .tmp r]) (tmps : Array Value) (w : World) (g : Nat) (l : Lab) (hp : tmps.getD p undef = .pointer (some ⟨g, 0, none⟩)) (hg : w.heap[g]? = some (.cells (ndC l).toArray 31 (0, 0))) :
 (results fn tmps).run Tryd.prog w = .ok (.tuple #[ndV l, tmps.getD q undef, tmps.getD r undef]) w := by
 have hp' : tmps[p]?.getD undef = .pointer (some ⟨g, 0, none⟩) := by simpa using hp
 simp [results, h, hp', asAddr, run_loadVar_row w g 31 31 (ndC l).toArray (0, 0) _ hg Tryd.underlying31 rfl (by rw [ndInfo]; rfl)];rfl
def c0G : Array Value := #[.int .i64 0, .int .i64 0, .int .i64 0, .int .i64 0, .slice none 0 0, .bool false, .int .i64 0, .int .i64 0, .int .i64 0, .string ⟨#[]⟩, .int .i64 0, .int .i64 0, .slice none 0 0, .slice none 0 0]
def W3 (w : World) : World := (((w.alloc (.cells zC.toArray 31)).alloc (.cells c0G 59)).alloc (.cells #[.slice (some ⟨w.heap.size + 1, 0, none⟩) 1 1] 62))
theorem pa_new (zh : Nat → Bool) (w : World) (ho : ∀ i, zh i = true → i < w.heap.size) : PaI (fun i => zh i || decide (i = w.heap.size)) (fun i => zh i || decide (i = w.heap.size) || decide (i = w.heap.size + 1) || decide (i = w.heap.size + 2)) (w.heap.size + 1) (W3 w) (w.heap.size + 2) (w.heap.size + 1) 1 c0G [g0 nil3 zeroT] ∧ Below w.heap.size w (W3 w) ∧ (W3 w).heap[w.heap.size]? = some (.cells zC.toArray 31 (0, 0)) ∧ (W3 w).heap.size = w.heap.size + 3 := by
 have z1 := World.size_alloc w (.cells zC.toArray 31);have z2 := World.size_alloc (w.alloc (.cells zC.toArray 31)) (.cells c0G 59);have z3 := World.size_alloc ((w.alloc (.cells zC.toArray 31)).alloc (.cells c0G 59)) (.cells #[.slice (some ⟨w.heap.size + 1, 0, none⟩) 1 1] 62);have b1 := qg w (.cells zC.toArray 31);have b2 := qg (w.alloc (.cells zC.toArray 31)) (.cells c0G 59);have b3 := qg ((w.alloc (.cells zC.toArray 31)).alloc (.cells c0G 59)) (.cells #[.slice (some ⟨w.heap.size + 1, 0, none⟩) 1 1] 62);have g1 := heap_alloc_new w (.cells zC.toArray 31);have g2 := heap_alloc_new (w.alloc (.cells zC.toArray 31)) (.cells c0G 59);have g3 := heap_alloc_new ((w.alloc (.cells zC.toArray 31)).alloc (.cells c0G 59)) (.cells #[.slice (some ⟨w.heap.size + 1, 0, none⟩) 1 1] 62);rw [z1] at g2;rw [z2, z1] at g3;have hz : (W3 w).heap.size = w.heap.size + 3 := by unfold W3; omega
 have z : I64 0 := by unfold I64; omega
 refine ⟨⟨g3, (b3.block _ (by omega)).trans g2, rfl, Nat.le_refl _, by decide, rfl, fun G hG => ?_, ?_, by simp, by simp, fun i e => ?_, fun i e => ?_, Nat.le_refl _, Nat.le_succ _, fun R hR => ?_, by rw [hz]; omega⟩, qi (qi b1 b2) b3, ?_, hz⟩
 ·rcases List.mem_cons.1 hG with rfl | hG
  ·exact ⟨nr_nil _ _ _, nr_nil _ _ _, fun e => (by cases e), fun e => (by cases e), rg_nil _, Nat.zero_le _, z, z, z, z, z, z, z⟩
  ·cases hG
 ·exact List.Pairwise.cons (fun _ _ b e => (by cases e)) (List.Pairwise.cons (fun _ _ b e => (by cases e)) List.Pairwise.nil)
 ·simp only [Bool.or_eq_true, decide_eq_true_eq] at e;rw [hz];rcases e with ((e | e) | e) | e
  ·have := ho i e;omega
  ·omega
  ·omega
  ·omega
 ·simp only [Bool.or_eq_true, decide_eq_true_eq] at e ⊢;rcases e with ((e | e) | e) | e
  ·exact Or.inr (Or.inl e)
  ·exact Or.inl (by omega)
  ·exact Or.inl (by omega)
  ·exact Or.inl (by omega)
 ·have h1 := hR.1;simp only [Bool.or_eq_true, decide_eq_true_eq] at h1 ⊢;exact Or.inl (Or.inl h1)
 ·exact (b3.block _ (by omega)).trans ((b2.block _ (by omega)).trans g1)
def PaR (zh : Nat → Bool) (n P : Nat) (w3 : World) (L : List Tk) (N : Int) (R : R F) (vi : Value) (wr : World) : Prop := ∃ (i : Nat) (H : Nat → Bool) (q cap : Nat) (cur : Array Value) (G : Gv) (T : List Gv), vi = .int .i64 i ∧ i ≤ L.length ∧ T.length ≤ 40 ∧ Hid (PaI zh H n wr P q cap cur (G :: T)) ∧ Hid (Below n w3 wr) ∧ Hid (goG (L.drop i) ((G :: T).map Gv.g) N = R) ∧ Hid (∀ B ∈ (G :: T).map Gv.g, B.kf.len + B.jf.len ≤ i) ∧ Hid (Opd ((G :: T).map Gv.g))
theorem lens {T : List Gv} {i : Nat} (h : ∀ B ∈ T.map Gv.g, B.kf.len + B.jf.len ≤ i) (hi : i ≤ 50000) : ∀ B ∈ T, B.kf.len ≤ 60000 ∧ B.jf.len ≤ 60000 := fun B hB => by
 have := h B.g (List.mem_map_of_mem hB);have e1 : B.g.kf.len = B.kf.len := jm _;have e2 : B.g.jf.len = B.jf.len := jm _;omega
theorem opd_top {G : Gv} {T : List Gv} (h : Opd ((G :: T).map Gv.g)) : T ≠ [] → G.t.kind = 10 ∧ 1 ≤ G.t.n ∧ G.t.n ≤ 13 := fun e => h.1 (by simpa using e)
theorem parse_any (zh : Nat → Bool) (v : Value) (L : List Tk) (N : Int) (w : World) (ho : ∀ i, zh i = true → i < w.heap.size) (hT : TabP w) (hl : rpw.TkIn (sees zh w) v L) (hk : LTk L) : Calls Tryd.prog 11 #[v, .int .i64 N] w (PrB zh w (stackP L N)) := by
 obtain ⟨R, hR⟩ : ∃ R, stackP L N = R := ⟨_, rfl⟩;rw [hR];have hnew := pa_new zh w ho;have HI0 := xH hnew.1;have HB0 := xH hnew.2.1;have HR0 := xH hnew.2.2.1;have HZ0 := xH hnew.2.2.2;have HT0 := xH (tabP_below hnew.2.1 hT);have HL0 := xH (rpw.tkIn_mono (fun _ _ hc => trw.qf hnew.2.1 (jB.1 hc).2) hl);have HLW := xH hl;have HZO := xH ho;have HK := xH hk;have HR := xH hR;have hln := hk.n;obtain ⟨va, vc, rfl⟩ : ∃ a c, v = .slice a L.length c := by obtain ⟨a, c, h, _⟩ := hl;exact ⟨a, c, h⟩
 have hg1 : 0 < w.heap.size := cell_lt (hT.1 0 (by decide));have hg2 : 1 < w.heap.size := cell_lt (hT.2 0 (by decide));have HGL := xH (And.intro hg1 hg2);clear hnew hT hl hk hR hg1 hg2 ho;unfold W3 c0G zC at HI0 HB0 HR0 HZ0 HT0 HL0;go_enter Tryd.func11, Tryd.ntmps11;go_wp2_with fail
 generalize ((w.alloc _).alloc _).alloc _ = w3 at *
 go_loopw [18] (fun vi wr => PaR (fun i => zh i || decide (i = w.heap.size)) (w.heap.size + 1) (w.heap.size + 2) w3 L N R vi wr) (fun vi _ => L.length - (intOf vi).toNat)
 case atStart =>
  exact ⟨0, _, _, _, _, _, _, rfl, Nat.zero_le _, Nat.zero_le _, HI0, xH (Below.refl _ _), HR, xH (fun B hB => by simp only [List.map_cons, List.map_nil, List.mem_cons, List.not_mem_nil, or_false] at hB;subst hB;exact Nat.le_refl _), xH ⟨fun e => absurd rfl e, trivial⟩⟩
 case round =>
  obtain ⟨i, H, q, cap, cur, G, T, rfl, hi, hTl, HI, HB, HG, HLN, HOP⟩ := hrel;have HRW := xH ((HB.out.block w.heap.size (Nat.lt_succ_self _)).trans HR0.out);have HTB := xH (show TabP wr from ⟨fun j hj => (World.cell?_of_block (HB.out.block _ (by have := HGL.out.1; show 0 < _; omega))).trans (HT0.out.1 j hj), fun j hj => (World.cell?_of_block (HB.out.block _ (by have := HGL.out.2; show 1 < _; omega))).trans (HT0.out.2 j hj)⟩);have HLs := xH (lens HLN.out (by omega));by_cases hend : i = L.length
  ·subst hend;have HG0 := xH (show goG [] ((G :: T).map Gv.g) N = R from by have := HG.out; rwa [List.drop_eq_nil_of_le (Nat.le_refl _)] at this);have cP : wr.cell? ⟨w.heap.size + 2, 0, none⟩ = some (.slice (some ⟨q, 0, none⟩) (T.length + 1) cap) := HI.out.cell.1;have HBX := xH (HB0.out.trans (HB.out.mono (Nat.le_succ _)));cases T with
   | nil =>
    have HRR := xH (HG0.out.symm.trans (show goG [] [G.g] N = .ok (psp.treeG G.g) from rfl));have cP1 : wr.cell? ⟨w.heap.size + 2, 0, none⟩ = some (.slice (some ⟨q, 0, none⟩) 1 cap) := cP;clear HG HG0 cP;go_wp2_with fail
    refine (last_any (m := 0) _ (by omega) cP1).mono ?_;rintro e w4 ⟨rfl, hb4⟩;have HI4 := xH (HI.out.below hb4);have HB4 := xH (HBX.out.trans (hb4.mono (by have := HBX.out.size; exact this)));have HR4 := xH ((hb4.block w.heap.size (by have := HI.out.n; omega)).trans HRW.out);clear hb4 cP1 HI HB HRW HTB;dsimp only;go_wp2_with fail
    refine (tree_any (o := 0) (C := cur) (G := G) (show Gi H (w.heap.size + 1) w4 q 0 cur G from HI4.out.top) (HLs.out G (List.mem_cons_self ..)).1).mono ?_;rintro e w5 ⟨r, H5, C5, G5, rfl, hs, rfl, hg⟩;obtain ⟨hi5, hb5⟩ := HI4.out.upd hs;have HB5 := xH (HB4.out.trans (hb5.mono (Nat.le_succ _)));have HR5 := xH ((hb5.block w.heap.size (Nat.lt_succ_self _)).trans HR4.out);have hk5 := gi_kids hs.i;have HKI := xH hk5;have H5R := xH (show hm H5 G5.kv w.heap.size = true from by
     have e : G5.kv.ownBlock ≠ some w.heap.size := fun e => by have := (World.ownsRow.lt hs.i.k.r _ e).1; omega
     simp [hm, hi5.hr w.heap.size ⟨by simp, Nat.le_refl _⟩, e])
    have HZR := xH (fun R (h : zh R = true) => show hm H5 G5.kv R = true from by
     have hlt := HZO.out R h;have e : G5.kv.ownBlock ≠ some R := fun e => by have := (World.ownsRow.lt hs.i.k.r _ e).1; omega
     simp [hm, hi5.hr R ⟨by simp [h], by omega⟩, e])
    have HST := xH (show strip (F.one (oneR 13 G5.kv G5.kf).1 (oneR 13 G5.kv G5.kf).2) = psp.treeG G.g from by rw [jV];show oneF 13 G5.g.kf = _;rw [hg];rfl)
    have HND := xH (zk 13 (by unfold I64; omega) HKI.out);have H1 := xH (qp HND.out);obtain ⟨x, k, hxk⟩ : ∃ x k, oneR 13 G5.kv G5.kf = (x, k) := ⟨_, _, rfl⟩;rw [hxk] at HST HND H1 ⊢;clear hs hg hi5 hb5 hk5 hxk;dsimp only;go_wp2_with (refine qh rfl rfl _ _ rfl w.heap.size rfl _ x HR5.out rfl H1.out rfl ?_)
    refine bodyPost_ret (results_nd3 rfl _ _ w.heap.size x rfl (setRow_heap _ _ _ _ _ _ HR5.out)) rfl ?_;rw [HRR.out];refine ⟨ps_row HB5.out _ (Nat.le_refl _), x, k, rfl, ?_, HST.out⟩;refine qY (fun a u hc => ?_) HND.out;obtain ⟨h1, h2⟩ := jB.1 hc;refine jB.2 ⟨?_, (World.cell?_of_block (tkw.setRow_other _ _ _ _ (fun e => by rw [e, H5R.out] at h1; cases h1))).trans h2⟩;cases e : zh a.block with
    | false => rfl
    | true =>
     rw [HZR.out _ e] at h1;cases h1
   | cons A U =>
    have HRR := xH (HG0.out.symm.trans (show goG [] ((G :: A :: U).map Gv.g) N = .error (20, N) from rfl));have H1 := xH (qp (show NdAt wr (lab 0 0, .nil) from ⟨lab_ok 0 (by unfold I64; omega) nil3, rg_nil _, none, 0, rfl, by simp [F.len], by decide, Or.inl rfl⟩));have d1 : decide (1 < (A :: U).length + 1) = true := by simp
    have d2 : (1 : Int) < (((A :: U).length : Nat) : Int) + 1 := by simp only [List.length_cons]; omega
    clear HG HG0;generalize (A :: U).length = z at *;go_wp2_with (refine qh rfl rfl _ _ rfl w.heap.size rfl _ (lab 0 0) HRW.out rfl H1.out rfl ?_)
    refine bodyPost_ret (results_nd3 rfl _ _ w.heap.size (lab 0 0) rfl (setRow_heap _ _ _ _ _ _ HRW.out)) rfl ?_;rw [HRR.out];exact ⟨ps_row HBX.out _ (Nat.le_refl _), rfl⟩
  ·have hlt : i < L.length := by omega
   obtain ⟨t, ht⟩ : ∃ t, L[i]? = some t := ⟨_, List.getElem?_eq_getElem hlt⟩;have htm := HK.out.t t (List.mem_of_getElem? ht);have HBX := xH (HB0.out.trans (HB.out.mono (Nat.le_succ _)));obtain ⟨va', vc', hv, hc1, hc2, hc3, h0 | ⟨gb, oo, hva, hcell⟩⟩ := HLW.out
   ·rw [h0] at hlt; cases hlt
   cases hv;subst hva;obtain ⟨sv, hrg, hcs⟩ := hcell i t ht;have HG1 := xH (show goG (t :: L.drop (i + 1)) ((G :: T).map Gv.g) N = R from by have := HG.out; rwa [drop_at ht] at this);have HCT := xH (show ∀ j u, (qO sv t)[j]? = some u → wr.cell? ⟨gb, oo + i * 12 + j, none⟩ = some u from fun j u hj => (World.cell?_of_block (HBX.out.block gb (cell_lt (jB.1 (hcs j u hj)).2))).trans (jB.1 (hcs j u hj)).2);have HRG := xH (show RgAt (sees H wr) sv t.set from rgAt_mono (fun a u hc => jB.2 ⟨by
    obtain ⟨hz, hc⟩ := jB.1 hc;cases e : H a.block with
    | false => rfl
    | true =>
     have hl := cell_lt hc;rcases HI.out.hn _ e with h1 | h1
     ·omega
     ·simp only [hz, Bool.false_or, decide_eq_true_eq] at h1;omega, (World.cell?_of_block (HBX.out.block a.block (cell_lt (jB.1 hc).2))).trans (jB.1 hc).2⟩) hrg)
   obtain ⟨sa, sq, hsv, _⟩ := id hrg;have HSO := xH (show sv.oneCell' = true from hsv ▸ rfl);have HTM := xH htm;have H1T := xH (show ∀ u ∈ (tA sv t).toList, u.oneCell' = true from fun u hu => by simp only [tA, List.mem_cons, List.not_mem_nil, or_false] at hu;rcases hu with rfl | rfl | rfl | rfl | rfl | rfl | rfl | rfl | rfl | rfl | rfl | rfl <;> first | rfl | exact HSO.out)
   have hiL : (i : Int) < (L.length : Int) := by omega
   have hi0 : (0 : Int) ≤ (i : Int) := by omega
   have HTA := xH (heap_alloc_new wr (.cells zT 53));have HT2 := xH (setRow_heap _ _ _ (tA sv t) _ _ HTA.out);have HB2 := xH (alloc_belowT wr zT (tA sv t));have HI2 := xH (HI.out.below HB2.out);have HTB2 := xH (tabP_below HB2.out HTB.out);have HRG2 := xH (rgAt_mono (qU (h := H) (h' := H) fun _ _ e hc => ⟨e, trw.qf HB2.out hc⟩) HRG.out);have HBW := xH (HB.out.trans (HB2.out.mono HI.out.n));have HCO := xH (opd_top HOP.out);clear ht htm hcell hrg hcs hsv hc1 hc2 hc3 HB HI HTB HRG HG;unfold zT at HTA HT2 HB2 HI2 HTB2 HRG2 HBW;go_upto_region 5 with (first
    | (refine wpList_load_tg rfl _ rfl gb (oo + i * 12) rfl sv t HCT.out ?_)
    | (refine tkw.wpList_store_tok rfl rfl _ _ rfl wr.heap.size rfl _ (tA sv t) HTA.out rfl rfl H1T.out rfl ?_))
   clear HTA HCT HB2;generalize (wr.alloc _).setRow wr.heap.size _ = w4 at *;obtain ⟨V, hV⟩ : ∃ V, wr.heap.size = V := ⟨_, rfl⟩;rw [hV] at HT2 ⊢;clear hV;have HT12 := xH (show ∀ j u, (qO sv t)[j]? = some u → w4.cell? ⟨V, 0 + j, none⟩ = some u from fun j u hj => by rw [Nat.zero_add]; exact tk_cells HT2.out hj);go_wp2_with (refine wpList_load_tg rfl _ rfl V 0 rfl sv t HT12.out ?_)
   refine (read_any sv t HI2.out HTB2.out hTl HLs.out HTM.out.1 HSO.out HRG2.out HTM.out.2.1 HTM.out.2.2.1 HTM.out.2.2.2.1 HCO.out).mono ?_;intro e w5 hst;obtain ⟨hb5, hm5⟩ := hst;have HB5 := xH (HBW.out.trans hb5);have HR5 := xH ((HB5.out.block w.heap.size (Nat.lt_succ_self _)).trans HR0.out);clear hb5 HBW HT12 HT2 HRG2 HTB2 HRW;cases hS : psp.stepG t ((G :: T).map Gv.g) with
   | error x =>
    rw [hS] at hm5;have HRR := xH (HG1.out.symm.trans (go_er hS));have hx0 := step_er hS;obtain ⟨x1, x2⟩ := x;simp only at hm5 hx0;subst hm5;have bx : (x1 != 0) = true := by simpa using hx0
    have H1 := xH (qp (show NdAt w5 (lab 0 0, .nil) from ⟨lab_ok 0 (by unfold I64; omega) nil3, rg_nil _, none, 0, rfl, by simp [F.len], by decide, Or.inl rfl⟩));clear hx0 hS HG1;dsimp only;go_wp2_with (refine qh rfl rfl _ _ rfl w.heap.size rfl _ (lab 0 0) HR5.out rfl H1.out rfl ?_)
    refine bodyPost_ret (results_nd3 rfl _ _ w.heap.size (lab 0 0) rfl (setRow_heap _ _ _ _ _ _ HR5.out)) rfl ?_;rw [HRR.out];exact ⟨ps_row (HB0.out.trans (HB5.out.mono (Nat.le_succ _))) _ (Nat.le_refl _), rfl⟩
   | ok U =>
    rw [hS] at hm5;obtain ⟨rfl, H6, q6, cap6, cur6, T6, hI6, hU6⟩ := hm5;obtain ⟨g6, T7, hU7, hl7, hT7, ho7⟩ := step_inv hS HTM.out.2.2.2.2 HLN.out (by rw [List.length_map]; exact hTl) HOP.out;have hG6 := (go_step (N := N) (l := L.drop (i + 1)) hS).symm.trans HG1.out;subst hU6;cases T6 with
    | nil => cases hU7
    | cons G8 T8 =>
     have ht8 : T8.length ≤ 40 := by simp only [List.map_cons, List.cons.injEq] at hU7;rw [← hU7.2, List.length_map] at hT7;exact hT7
     have HX := xH (And.intro hI6 (And.intro hG6 (And.intro hl7 ho7)));have hwr : IntKind.i64.wrap ((i : Int) + 1) = (i : Int) + 1 := by rw [IntKind.wrap_i64]; omega
     clear hI6 hG6 hl7 ho7 hS hU7 hT7 HG1;dsimp only;go_wp2_with fail
     exact ⟨⟨i + 1, H6, q6, cap6, cur6, G8, T8, rfl, by omega, ht8, xH HX.out.1, HB5, xH HX.out.2.1, xH HX.out.2.2.1, xH HX.out.2.2.2⟩, by simp [intOf]; omega⟩
end Go.Proofs.YtnpcombfgdbhkaaDoor.psw
end
section
namespace Go.Proofs.YtnpcombfgdbhkaaDoor.psl
open sq
open Go Go.RowKit Go.Maps tkp trp trw rpp rtp setw psw psp
open rtw (TkB Bd TkG Adj Pat lexF_ok lexF_adj)
open rpw (TkIn LOk sees jB tkIn_mono)
open tkw (qO yw sg)
open utfw (strOf)
structure Lx (n : Nat) (L : List Tk) : Prop where
 m : n ≤ 1000
 l : L.length ≤ n
 b : ∀ t ∈ L, TkB t ∧ t.at_ ≤ n
 a : Adj L
 g : ∀ t ∈ L, TkG t
theorem strOf_size (n : Nat) (g : Nat → Int) : (strOf n g).size = n := by unfold strOf;show (strOfNums _).data.size = _;simp [strOfNums]
theorem lx_of {n : Nat} {g : Nat → Int} {o : Int} {T : List Tk} (h : rlexP (sg (strOf n g)) n o = .ok T) : Lx n T := by
 unfold rlexP at h;split at h
 ·cases h
 ·split at h
  ·cases h
  ·rename_i hn;split at h
   ·cases h
   ·have hsz := strOf_size n g;have hP : Pat (strOf n g) { g := sg (strOf n g), n := n, u := o.toNat.testBit 5, x := o.toNat.testBit 3 } := ⟨rfl, hsz.symm, by rw [hsz]; omega⟩;have h1 := lexF_ok hP (n + 1) false [] 0 T (fun t ht => by cases ht) (Nat.zero_le _) (Nat.zero_le _) h;have h2 := lexF_adj hP (n + 1) false [] 0 T (fun j t u hj => by cases hj) (fun t ht => by cases ht) (fun a ha => by cases ha) h;exact ⟨by omega, h1.2, h1.1, h2.1, h2.2⟩
theorem Lx.lok {n : Nat} {L : List Tk} (h : Lx n L) : LOk L :=
 ⟨by have := h.m; have := h.l; omega, fun t ht => by obtain ⟨b, ha⟩ := h.b t ht;have hn := h.m;obtain ⟨k, c, n', m, mode, on, off, _, _⟩ := b;unfold Bd at *;unfold I64;refine ⟨by omega, by omega, by omega, by omega, by omega, by omega, by omega, by omega⟩⟩
theorem Lx.ltk {n : Nat} {L : List Tk} (h : Lx n L) : LTk L :=
 ⟨h.lok.n, fun t ht => ⟨h.lok.t t ht, by have := (h.b t ht).1.s; omega, (h.g t ht).k.1, (h.g t ht).k.2, (h.g t ht).ha⟩⟩
theorem Lx.tok {n : Nat} {L : List Tk} (h : Lx n L) : TOk L := ⟨fun t ht => (h.g t ht).k, fun i t u h1 h2 h3 h4 => (h.a i t u h1 h2 h3 h4).1⟩
theorem flat12 {α : Type} (f : α → List Value) (hf : ∀ a, (f a).length = 12) : ∀ (l : List α) (i j : Nat), j < 12 → (l.flatMap f)[i * 12 + j]? = (l[i]?).bind fun a => (f a)[j]?
 | [], i, j, _ => by simp
 | a :: l, 0, j, hj => by rw [List.flatMap_cons, List.getElem?_append_left (by rw [hf]; omega)];simp
 | a :: l, i + 1, j, hj => by rw [List.flatMap_cons, List.getElem?_append_right (by rw [hf]; omega), hf, show (i + 1) * 12 + j - 12 = i * 12 + j by omega, flat12 f hf l i j hj];simp
theorem tkC12 (p : Tk × Value) : (qO p.2 p.1).length = 12 := rfl
theorem tkIn_of {zh : Nat → Bool} {w : World} {base : Nat} {v : Value} {T : List Tk} (h : yw w base v T) (hz : ∀ i, zh i = true → i < base) (hb : ∀ t ∈ T, Wf t.set) (hl : T.length ≤ 50000) : TkIn (sees zh w) v T := by
 obtain ⟨l, h1, h2, h3⟩ := h;have hlen : l.length = T.length := by rw [← h1]; simp
 rw [hlen] at h3;rcases h3.2 with ⟨rfl, h0⟩ | ⟨g, cap, cur, hv, hgb, _, hc1, hc2, _, _⟩
 ·have : T = [] := List.length_eq_zero_iff.1 h0;subst this;exact ⟨none, 0, rfl, by simp, by decide, by simp, Or.inl rfl⟩
 ·subst hv;unfold maxLen at hc2;refine ⟨_, cap, rfl, hc1, by omega, by omega, Or.inr ⟨g, 0, rfl, fun i t hi => ?_⟩⟩;have hlt : i < l.length := by rw [hlen];exact (List.getElem?_eq_some_iff.1 hi).1
  obtain ⟨p, hp⟩ : ∃ p, l[i]? = some p := ⟨_, List.getElem?_eq_getElem hlt⟩;have ht : p.1 = t := by rw [← h1, List.getElem?_map, hp] at hi;exact Option.some.inj hi
  subst ht;have hmem : p ∈ l := List.mem_of_getElem? hp;have hmt : p.1 ∈ T := List.mem_of_getElem? hi;refine ⟨p.2, own_rg (h2 p hmem) (hb p.1 hmt) hz, fun j u hj => ?_⟩;have hj12 : j < 12 := by have := (List.getElem?_eq_some_iff.1 hj).1;rw [tkC12] at this;exact this
  refine jB.2 ⟨?_, ?_⟩
  ·cases e : zh g with
   | false => rfl
   | true => have := hz g e; omega
  rw [Nat.zero_add, World.ownsRow.cellAt h3 (i * 12 + j) (by rw [hlen] at hlt; omega), flat12 _ tkC12 l i j hj12, hp];exact hj
theorem tkIn_out {zh : Nat → Bool} {w : World} {v : Value} {L : List Tk} (h : TkIn (sees zh w) v L) : TkIn w v L := tkIn_mono (fun _a _u hc => (jB.1 hc).2) h
theorem nd_out {zh : Nat → Bool} {w : World} {t : Nd} (h : NdAt (sees zh w) t) : NdAt w t := qY (fun _a _v hc => (jB.1 hc).2) h
theorem tkIn_sees {w : World} {v : Value} {L : List Tk} (h : TkIn w v L) : TkIn (sees (fun i => decide (i < 0)) w) v L := tkIn_mono (fun a v hc => jB.2 ⟨by simp, hc⟩) h
theorem tkIn_below {w w' : World} {v : Value} {L : List Tk} (hb : Below w.heap.size w w') (h : TkIn w v L) : TkIn w' v L := tkIn_mono (fun _a _u hc => trw.qf hb hc) h
theorem nd_sees {w : World} {t : Nd} (h : NdAt (sees (fun i => decide (i < 0)) w) t) : NdAt w t := qY (fun _a _v hc => (jB.1 hc).2) h
theorem parse_err {L : List Tk} {n : Int} {x : Int × Int} (h : parseP L n = .error x) : x.1 ≠ 0 := by
 unfold parseP at h;generalize run L (3 * L.length + 3) (.alt .nil) { i := 0 } = r at h;simp only at h;generalize (if r.2.e = 0 ∧ r.2.i < L.length then failS r.2 31 (L.getD r.2.i zeroT).at_ else r.2) = s at h;split at h
 ·cases h;simp
 ·split at h
  ·rename_i h1;cases h;exact h1
  ·cases h
def textP (s : ByteArray) : R F := match rlexP (sg (strOf s.size (sg s))) s.size 0 with
 | .error x => .error x
 | .ok T => parseP T s.size
def awP : R F → Bool
 | .ok (.cons x (.cons y (.cons _ _ (.cons z _ .nil)) (.cons _ _ .nil)) .nil) => decide (x.kind = 13) && decide (y.kind = 12) && decide (z.kind = 20)
 | _ => false
def erP (a b : Int) : R F → Bool
 | .error x => decide (x.1 = a) && decide (x.2 = b)
 | _ => false
theorem awk_a : awP (textP ⟨#[97, 98, 42, 124, 99]⟩) = true := by decide +kernel
theorem awk_b : erP 30 2 (textP ⟨#[97, 42, 42]⟩) = true := by decide +kernel
theorem awk_c : erP 20 1 (textP ⟨#[40]⟩) = true := by decide +kernel
theorem er_eq {a b : Int} {r : R F} (h : erP a b r = true) : r = .error (a, b) := by
 unfold erP at h;split at h
 ·rename_i x;simp only [Bool.and_eq_true, decide_eq_true_eq] at h;obtain ⟨x1, x2⟩ := x;simp only at h;rw [h.1, h.2]
 ·cases h
theorem ok_a : ∃ f, textP ⟨#[97, 98, 42, 124, 99]⟩ = .ok f := by
 have h := awk_a;cases e : textP ⟨#[97, 98, 42, 124, 99]⟩ with
 | ok f => exact ⟨f, rfl⟩
 | error x => rw [e] at h; cases h
theorem awP_k {x : Lab} {k : F} (h : awP (.ok (strip (F.one x k))) = true) : x.kind = 13 ∧ ∃ y a ka z kz y2 k2, k = .cons y (.cons a ka (.cons z kz .nil)) (.cons y2 k2 .nil) ∧ y.kind = 12 ∧ z.kind = 20 := by
 cases k with
 | nil => cases h
 | cons y j r =>
  cases j with
  | nil => cases h
  | cons a ka j2 =>
   cases j2 with
   | nil => cases h
   | cons z kz j3 =>
    cases j3 with
    | cons _ _ _ => cases h
    | nil =>
     cases r with
     | nil => cases h
     | cons y2 k2 r2 =>
      cases r2 with
      | cons _ _ _ => cases h
      | nil =>
       simp only [F.one, strip, awP, Bool.and_eq_true, decide_eq_true_eq] at h;exact ⟨h.1.1, y, a, ka, z, kz, y2, k2, rfl, h.1.2, h.2⟩
theorem awk_mem {w : World} {x : Lab} {k : F} (hn : NdAt w (x, k)) (h : awP (.ok (strip (F.one x k))) = true) : x.kind = 13 ∧ ∃ b o c b2 o2 c2, x.kv = .slice (some ⟨b, o, none⟩) 2 c ∧ w.cell? ⟨b, o, none⟩ = some (.int .i64 12) ∧ w.cell? ⟨b, o + 11, none⟩ = some (.slice (some ⟨b2, o2, none⟩) 2 c2) ∧ w.cell? ⟨b2, o2 + 12, none⟩ = some (.int .i64 20) := by
 obtain ⟨hx, y, a, ka, z, kz, y2, k2, rfl, hy, hz⟩ := awP_k h;obtain ⟨b, o, c, h1, _, _, _, h4⟩ := kid_at (i := 0) hn.2.2 rfl;obtain ⟨h5, _, h6, _⟩ := h4;obtain ⟨b2, o2, c2, h7, _, _, _, h8⟩ := kid_at (i := 1) h6 rfl;refine ⟨hx, b, o, c, b2, o2, c2, h1, ?_, ?_, ?_⟩
 ·have := h5 0 _ rfl;rw [hy] at this;simpa using this
 ·have := h5 11 _ rfl;rw [h7] at this;simpa [F.len] using this
 ·have := h8.1 0 _ rfl;rw [hz] at this;simpa using this
end Go.Proofs.YtnpcombfgdbhkaaDoor.psl
end
section
namespace Go.Proofs.YtnpcombfgdbhkaaDoor.rtw
open sq
open Go utfp ucdp setp prp tkp rtp
def GE {α : Type} (r : R α) : Prop := ∀ e, r = .error e → e.1 ≠ 0
theorem jq {α : Type} {e : Int × Int} (h : e.1 ≠ 0) : GE (.error e : R α) := fun e' h' => by cases h'; exact h
theorem ge_ok {α : Type} (x : α) : GE (.ok x : R α) := fun e h => by cases h
theorem zL (t : Tk) (f b : Nat) : GE (gtok t f b) := fun e h => by unfold gtok at h; cases h
theorem jD {α : Type} {c : Prop} [Decidable c] {a b : R α} (h1 : GE a) (h2 : GE b) : GE (if c then a else b) := by
 by_cases h : c
 ·rw [if_pos h]; exact h1
 ·rw [if_neg h]; exact h2
theorem refR_e (p : Pt) (f i : Nat) : GE (refR p f i) := by
 unfold refR;simp only
 repeat' (first | exact zL _ _ _ | exact jq (by simp) | refine jD ?_ ?_)
theorem backR_e (p : Pt) (i to_ : Nat) : ∀ l, GE (backR p i to_ l)
 | [] => jq (by simp)
 | (o, z) :: l => by
  rw [backR]
  repeat' (first | exact zL _ _ _ | exact backR_e p i to_ l | refine jD ?_ ?_)
theorem many_e {p : Pt} {c : Int} {i : Nat} {e : Int} (h : many p c i = .error e) : e ≠ 0 := by
 unfold many at h;split at h
 ·split at h
  ·cases h; decide
  ·split at h
   ·cases h
   ·cases h; decide
 ·split at h <;> cases h
theorem escR_e (p : Pt) (i : Nat) : GE (escR p i) := by
 rw [escR_eq]
 repeat' (first | exact zL _ _ _ | exact ge_ok _ | exact jq (by simp) | exact refR_e _ _ _ | exact backR_e _ _ _ _ | refine jD ?_ ?_)
 ·split
  ·exact jq (by simp)
  ·exact zL _ _ _
 ·split
  ·rename_i e he;exact jq (many_e he)
  ·exact zL _ _ _
  ·repeat' (first | exact zL _ _ _ | exact jq (by simp) | refine jD ?_ ?_)
theorem itemE_e (p : Pt) (i b : Nat) : GE (itemE p i b) := by
 unfold itemE;simp only
 repeat' (first | exact ge_ok _ | exact jq (by simp) | refine jD ?_ ?_)
 ·split
  ·exact jq (by simp)
  ·exact ge_ok _
 ·split
  ·rename_i e he;exact jq (many_e he)
  ·exact ge_ok _
  ·repeat' (first | exact ge_ok _ | exact jq (by simp) | refine jD ?_ ?_)
theorem itemR_e (p : Pt) (i : Nat) : GE (itemR p i) := by
 unfold itemR itemC
 repeat' (first | exact ge_ok _ | exact jq (by simp) | exact itemE_e _ _ _ | refine jD ?_ ?_)
theorem rangeR_e (p : Pt) (i : Nat) : GE (rangeR p i) := by
 have h1 := itemR_e p i;unfold rangeR;split
 ·rename_i e he;exact jq (h1 _ he)
 ·rename_i l s to_ _;have h2 := itemR_e p (to_ + 1);refine jD ?_ (ge_ok _);split
  ·rename_i e he;exact jq (h2 _ he)
  ·exact jD (jq (by simp)) (ge_ok _)
theorem clsL_e (p : Pt) (first : Nat) : ∀ (k : Nat) (all : List Rg) (i : Nat), GE (clsL p first k all i)
 | 0, _, _ => jq (by simp)
 | k + 1, all, i => by
  have h1 := rangeR_e p i;rw [clsL];refine jD (jq (by simp)) (jD (ge_ok _) ?_);split
  ·rename_i e he;exact jq (h1 _ he)
  ·exact clsL_e p first k _ _
theorem clsR_e (p : Pt) (f : Nat) : GE (clsR p f) := by
 have h := clsL_e p (if p.has [94] (f + 1) = true then f + 2 else f + 1) (p.n + 1 - (if p.has [94] (f + 1) = true then f + 2 else f + 1)) [] (if p.has [94] (f + 1) = true then f + 2 else f + 1);unfold clsR;simp only;split
 ·rename_i e he;exact jq (h _ he)
 ·exact zL _ _ _
theorem shutR_e (p : Pt) (t : Tk) (f i : Nat) (s : List UInt8) : GE (shutR p t f i s 26) := by
 unfold shutR
 repeat' (first | exact zL _ _ _ | exact jq (by simp) | refine jD ?_ ?_)
theorem callR_e (p : Pt) (t : Tk) (f i : Nat) (s : List UInt8) : GE (callR p t f i s) := by
 unfold callR
 repeat' (first | exact zL _ _ _ | exact jq (by simp) | refine jD ?_ ?_)
theorem flagR_e (p : Pt) (f : Nat) : ∀ (k i : Nat) (off : Bool) (on of_ : Int), GE (flagR p f k i off on of_)
 | 0, _, _, _, _ => jq (by simp)
 | k + 1, i, off, on, of_ => by
  rw [flagR]
  repeat' (first | exact zL _ _ _ | exact jq (by simp) | exact flagR_e p f k _ _ _ _ | refine jD ?_ ?_)
theorem condE_e (p : Pt) (f : Nat) (t : Tk) (to_ : Nat) (ok : Bool) : GE (condE p f t to_ ok) := by
 unfold condE
 repeat' (first | exact zL _ _ _ | exact jq (by simp) | refine jD ?_ ?_)
theorem condR_e (p : Pt) (f i : Nat) : GE (condR p f i) := by
 unfold condR condN
 repeat' (first | exact zL _ _ _ | exact jq (by simp) | exact condE_e _ _ _ _ _ | refine jD ?_ ?_)
theorem verbR_e (p : Pt) (f : Nat) : GE (verbR p f) := by
 have hv : ∀ (f i : Nat) (word arg : ByteArray) (wth : Bool), GE (verbG f i word arg wth) := fun f i word arg wth => by
  unfold verbG
  repeat' (first | exact zL _ _ _ | exact jq (by simp) | refine jD ?_ ?_)
 unfold verbR;split
 ·exact jq (by simp)
 ·split
  ·exact hv _ _ _ _ _
  ·exact hv _ _ _ _ _
theorem kindR_e (p : Pt) (f i : Nat) : ∀ (l : List (List UInt8 × Int)), ∀ g, kindR p f i l = some g → GE g
 | [], g, h => by cases h
 | (s, k) :: l, g, h => by
  rw [kindR] at h;split at h
  ·cases h;exact zL _ _ _
  ·exact kindR_e p f i l g h
theorem numR_e (p : Pt) (f i : Nat) : GE (numR p f i) := by
 have h1 := shutR_e p { kind := 12, n := (sgn p i).1, m := (sgn p i).2.1 } f (sgn p i).2.2.1 [41];unfold numR;simp only;refine jD (jq (by simp)) (jD (jD (jq (by simp)) (jq (by simp))) ?_);split
 ·rename_i e he;exact jq (h1 _ he)
 ·exact jD (jq (by simp)) (ge_ok _)
theorem openK_e (p : Pt) (f i : Nat) : GE (openK p f i) := by
 unfold openK
 repeat' (first | exact callR_e _ _ _ _ _ | exact shutR_e _ _ _ _ _ | exact condR_e _ _ _ | exact numR_e _ _ _ | exact flagR_e _ _ _ _ _ _ _ | exact jq (by simp) | refine jD ?_ ?_)
 split
 ·exact jq (by simp)
 ·exact ge_ok _
theorem openR_e (p : Pt) (f : Nat) : GE (openR p f) := by
 unfold openR;refine jD (verbR_e _ _) (jD (zL _ _ _) (jD (jq (by simp)) ?_));split
 ·rename_i g hg;exact kindR_e p f (f + 2) kindsT g hg
 ·exact openK_e _ _ _
theorem tokR_e (p : Pt) (i : Nat) : GE (tokR p i) := by
 have hq : ∀ (i to_ : Nat) (n m : Int), GE (quan p i to_ n m) := fun i to_ n m => zL _ _ _
 rw [tokR_eq]
 repeat' (first | exact ge_ok _ | exact zL _ _ _ | exact escR_e _ _ | exact clsR_e _ _ | exact openR_e _ _ | exact hq _ _ _ _ | refine jD ?_ ?_)
 split
 ·exact zL _ _ _
 ·repeat' (first | exact jq (by simp) | exact hq _ _ _ _ | refine jD ?_ ?_)
theorem lexF_e (p : Pt) : ∀ (k : Nat) (q : Bool) (T : List Tk) (i : Nat), GE (lexF p k q T i)
 | 0, _, T, _ => ge_ok _
 | k + 1, q, T, i => by
  have h := tokR_e p i;rw [lexF];refine jD (ge_ok _) (jD (jD (lexF_e p k _ _ _) (lexF_e p k _ _ _)) (jD (lexF_e p k _ _ _) ?_));split
  ·rename_i e he;exact jq (h _ he)
  ·exact lexF_e p k _ _ _
  ·exact lexF_e p k _ _ _
theorem rlex_e (g : Nat → Int) (n : Nat) (o : Int) : GE (rlexP g n o) := by unfold rlexP;exact jD (jq (by simp)) (jD (jq (by simp)) (jD (jq (by simp)) (lexF_e _ _ _ _ _)))
end Go.Proofs.YtnpcombfgdbhkaaDoor.rtw
end
