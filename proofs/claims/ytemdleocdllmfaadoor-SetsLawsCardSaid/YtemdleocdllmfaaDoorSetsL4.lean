/- The walk of the law SetsLaws. -/
import Derived.Test.YtemdleocdllmfaaDoorSetsL3
import Derived.Test.YtemdleocdllmfaaDoorSetsP3
import Derived.Deep.RegionWith
namespace Go.Proofs.YtemdleocdllmfaaDoor.setw
open Go Go.RowKit Go.Shelf Go.Proofs.YtemdleocdllmfaaDoor.bulk Go.Proofs.YtemdleocdllmfaaDoor.ucdp Go.Proofs.YtemdleocdllmfaaDoor.ucdw Go.Proofs.YtemdleocdllmfaaDoor.setp Go.Proofs.YtemdleocdllmfaaDoor.flt Go.Proofs.YtemdleocdllmfaaDoor.setl

theorem same_true (v1 v2 : Value) (S T : List Rg) (b1 b2 : Nat) (w : World) (hS : Canon S) (hT : Canon T) (h1 : ZsAt b1 w v1 S) (h2 : ZsAt b2 w v2 T) (e : S = T) :
    Calls Tryd.prog 19 #[.agg #[v1], .agg #[v2]] w (BoolB true w) := by
  have := same_any v1 v2 S T b1 b2 w hS hT h1 h2
  rwa [decide_eq_true e] at this
/-- plainly: a set with all other cases has them all -/
theorem cases_again {U C Q : List Rg} {u : Bool} (hC : Canon C) (hQ : Canon Q) (mC : ∀ x, Has C x ↔ Has U x ∨ ∃ d, Has U d ∧ x ∈ othersP d u) (mQ : ∀ x, Has Q x ↔ Has C x ∨ ∃ d, Has C d ∧ x ∈ othersP d u) : C = Q :=
  canon_ext hC hQ fun x => by
    rw [mQ]
    constructor
    · exact Or.inl
    · rintro (a | ⟨d, a, b⟩)
      · exact a
      · rcases (mC d).1 a with c | ⟨f, c, g⟩
        · exact (mC x).2 (Or.inr ⟨d, c, b⟩)
        · rcases others_closed g b with h | h
          · exact (mC x).2 (Or.inl (h ▸ c))
          · exact (mC x).2 (Or.inr ⟨f, c, h⟩)
/-- plainly: what the law asks -/
theorem laws_pure {S T N U V W C D E F A : List Rg} {l1 l2 : List Rg} {m : Int} {u : Bool} (_kS : Canon S) (_kT : Canon T) (_kU : Canon U) (kV : Canon V) (kW : Canon W) (kC : Canon C) (kD : Canon D) (kE : Canon E) (kF : Canon F) (kA : Canon A)
    (mS : ∀ c, Has S c ↔ Has l1 c ∧ 0 ≤ c ∧ c ≤ m) (_mT : ∀ c, Has T c ↔ Has l2 c ∧ 0 ≤ c ∧ c ≤ m) (mN : ∀ c, Has N c ↔ 0 ≤ c ∧ c ≤ m ∧ ¬ Has S c) (mU : ∀ c, Has U c ↔ Has S c ∨ Has T c) (mV : ∀ c, Has V c ↔ 0 ≤ c ∧ c ≤ m ∧ ¬ Has U c)
    (mW : ∀ c, Has W c ↔ Has N c ∧ 0 ≤ c ∧ c ≤ m ∧ ¬ Has T c) (mC : ∀ c, Has C c ↔ Has U c ∨ ∃ d, Has U d ∧ c ∈ othersP d u)
    (mD : ∀ c, Has D c ↔ (Has S c ∨ ∃ d, Has S d ∧ c ∈ othersP d u) ∨ (Has T c ∨ ∃ d, Has T d ∧ c ∈ othersP d u)) (mE : ∀ c, Has E c ↔ Has S c ∧ Has N c) (mF : ∀ c, Has F c ↔ Has S c ∨ Has N c) (mA : ∀ c, Has A c ↔ Has [(0, 1114111)] c ∧ 0 ≤ c ∧ c ≤ m) (hm : m ≤ 1114111) :
    V = W ∧ C = D ∧ tot E = 0 ∧ F = A := by
  refine ⟨canon_ext kV kW fun c => ?_, canon_ext kC kD fun c => ?_, ?_, canon_ext kF kA fun c => ?_⟩
  · rw [mV, mW, mN, mU]
    constructor
    · rintro ⟨a, b, d⟩
      exact ⟨⟨a, b, fun e => d (Or.inl e)⟩, a, b, fun e => d (Or.inr e)⟩
    · rintro ⟨⟨a, b, d⟩, _, _, e⟩
      exact ⟨a, b, fun f => f.elim d e⟩
  · rw [mC, mD, mU]
    constructor
    · rintro ((a | a) | ⟨d, a, b⟩)
      · exact Or.inl (Or.inl a)
      · exact Or.inr (Or.inl a)
      · rcases (mU d).1 a with c | c
        · exact Or.inl (Or.inr ⟨d, c, b⟩)
        · exact Or.inr (Or.inr ⟨d, c, b⟩)
    · rintro ((a | ⟨d, a, b⟩) | (a | ⟨d, a, b⟩))
      · exact Or.inl (Or.inl a)
      · exact Or.inr ⟨d, (mU d).2 (Or.inl a), b⟩
      · exact Or.inl (Or.inr a)
      · exact Or.inr ⟨d, (mU d).2 (Or.inr a), b⟩
  · have : E = [] := canon_ext kE canon_nil fun c => by
      rw [mE, mN]
      exact ⟨fun a => absurd a.1 a.2.2.2, fun a => absurd a (has_nil _)⟩
    rw [this]
    rfl
  · rw [mF, mN, mA, has_one]
    constructor
    · rintro (a | ⟨a, b, _⟩)
      · have := (mS c).1 a
        simp only
        omega
      · simp only
        omega
    · rintro ⟨_, a, b⟩
      rcases Classical.em (Has S c) with d | d
      · exact Or.inl d
      · exact Or.inr ⟨a, b, d⟩
/-- .. and Not of Not -/
theorem not_not {S N Q : List Rg} {l1 : List Rg} {m : Int} (kS : Canon S) (kQ : Canon Q) (mS : ∀ c, Has S c ↔ Has l1 c ∧ 0 ≤ c ∧ c ≤ m) (mN : ∀ c, Has N c ↔ 0 ≤ c ∧ c ≤ m ∧ ¬ Has S c) (mQ : ∀ c, Has Q c ↔ 0 ≤ c ∧ c ≤ m ∧ ¬ Has N c) : S = Q :=
  canon_ext kS kQ fun c => by
    rw [mQ, mN]
    constructor
    · intro a
      have := (mS c).1 a
      exact ⟨this.2.1, this.2.2, fun b => b.2.2 a⟩
    · rintro ⟨a, b, d⟩
      exact Classical.byContradiction fun e => d ⟨a, b, e⟩

theorem wf_all : Wf [(0, 1114111)] := fun r hr => by
  obtain rfl := List.mem_singleton.1 hr
  decide
theorem new_all (most : Int) (w : World) (B : Nat) (hB : w.heap.size = B) (h1 : -9223372036854775808 ≤ most) (h2 : most ≤ 9223372036854775807) :
    Calls Tryd.prog 11 #[.slice (some ⟨B, 0, none⟩) 1 1, .int .i64 most] (w.alloc (.cells #[.int .i64 0, .int .i64 1114111] 46)) (SetB (fun c => Has [(0, 1114111)] c ∧ 0 ≤ c ∧ c ≤ min most 1114111) (w.alloc (.cells #[.int .i64 0, .int .i64 1114111] 46))) :=
  hB ▸ new_any _ [(0, 1114111)] most _ (rs_lit1 w _ 0 1114111 wf_all) (by decide) h1 h2
set_option maxRecDepth 100000 in
set_option maxHeartbeats 8000000 in
theorem laws_law (v1 v2 : Value) (l1 l2 : List Rg) (most : Int) (u : Bool) (w : World) (hv1 : RsAt w v1 l1) (hv2 : RsAt w v2 l2) (h1 : -9223372036854775808 ≤ most) (h2 : most ≤ 9223372036854775807) (hT : Tab3 w) :
    Calls Tryd.prog 6 #[v1, v2, .int .i64 most, .bool u] w (BoolB true w) := by
  have H0 := Lib.hid (awake_any w hT)
  have HT0 := Lib.hid hT
  have HV1 := Lib.hid hv1
  have HV2 := Lib.hid hv2
  obtain ⟨a1, q1, rfl⟩ := rsAt_len hv1
  obtain ⟨a2, q2, rfl⟩ := rsAt_len hv2
  clear hv1 hv2 hT
  by_cases hbig : (50 : Int) < l1.length
  · go_enter Tryd.func6, Tryd.ntmps6
    go_wp2_with fail
    refine H0.out.mono ?_
    rintro e w1 ⟨rfl, hb1⟩
    go_wp2_with fail
    go_ret
    exact ⟨rfl, hb1⟩
  by_cases hbig2 : (50 : Int) < l2.length
  · go_enter Tryd.func6, Tryd.ntmps6
    go_wp2_with fail
    refine H0.out.mono ?_
    rintro e w1 ⟨rfl, hb1⟩
    go_wp2_with fail
    go_ret
    exact ⟨rfl, hb1⟩
  go_enter Tryd.func6, Tryd.ntmps6
  go_wp2_with fail
  refine H0.out.mono ?_
  rintro e w1 ⟨rfl, hb1⟩
  have HL0 := Lib.hid (st_nil hb1)
  clear hb1
  go_wp2_with fail
  refine (new_any _ l1 most w1 (rsAt_below HV1.out HL0.out.1) (by omega) h1 h2).mono ?_
  rintro e yS ⟨vS, S, rfl, hK, hM, hz, hb⟩
  obtain ⟨gS, cS, rfl⟩ := zsAt_len hz
  have lS := canon_len hK
  have HL1 := Lib.hid (st_push HL0.out hb hz 27)
  have KS := Lib.hid hK
  have MS := Lib.hid hM
  clear hK hM hz hb  
  go_wp2_with fail
  generalize hbS : yS.heap.size = bS at *
  generalize yS.alloc _ = wS at *
  clear hbS
  refine (new_any _ l2 most wS (rsAt_below HV2.out HL1.out.1) (by omega) h1 h2).mono ?_
  rintro e yT ⟨vT, T, rfl, hK, hM, hz, hb⟩
  obtain ⟨gT, cT, rfl⟩ := zsAt_len hz
  have lT := canon_len hK
  have HL2 := Lib.hid (st_push HL1.out hb hz 27)
  have KT := Lib.hid hK
  have MT := Lib.hid hM
  have d0 := st_cell (b := bS) (v := .slice gS S.length cS) (S := S) HL2.out (by simp)
  clear hK hM hz hb HL1 
  go_wp2_with fail
  clear d0
  generalize hbT : yT.heap.size = bT at *
  generalize yT.alloc _ = wT at *
  clear hbT
  refine (not_any (.slice gS S.length cS) S 0 most wT KS.out (st_z (b := bS) HL2.out (by simp)) h1 h2).mono ?_
  rintro e yN ⟨vN, N, rfl, hK, hM, hz, hb⟩
  obtain ⟨gN, cN, rfl⟩ := zsAt_len hz
  have lN := canon_len hK
  have HL3 := Lib.hid (st_push HL2.out hb hz 27)
  have KN := Lib.hid hK
  have MN := Lib.hid hM
  have d0 := st_cell (b := bS) (v := .slice gS S.length cS) (S := S) HL3.out (by simp)
  have d1 := st_cell (b := bT) (v := .slice gT T.length cT) (S := T) HL3.out (by simp)
  clear hK hM hz hb HL2 
  go_wp2_with fail
  clear d0 d1
  generalize hbN : yN.heap.size = bN at *
  generalize yN.alloc _ = wN at *
  clear hbN
  refine (union_any (.slice gS S.length cS) (.slice gT T.length cT) S T 0 0 wN KS.out KT.out (st_z (b := bS) HL3.out (by simp)) (st_z (b := bT) HL3.out (by simp))).mono ?_
  rintro e yU ⟨vU, U, rfl, hK, hM, hz, hb⟩
  obtain ⟨gU, cU, rfl⟩ := zsAt_len hz
  have lU := canon_len hK
  have HL4 := Lib.hid (st_push HL3.out hb hz 27)
  have KU := Lib.hid hK
  have MU := Lib.hid hM
  have d0 := st_cell (b := yU.heap.size) (v := .slice gU U.length cU) (S := U) HL4.out (by simp)
  clear hK hM hz hb HL3 
  go_wp2_with fail
  clear d0
  generalize hbU : yU.heap.size = bU at *
  generalize yU.alloc _ = wU at *
  clear hbU
  refine (not_any (.slice gU U.length cU) U 0 most wU KU.out (st_z (b := bU) HL4.out (by simp)) h1 h2).mono ?_
  rintro e yV ⟨vV, V, rfl, hK, hM, hz, hb⟩
  obtain ⟨gV, cV, rfl⟩ := zsAt_len hz
  have lV := canon_len hK
  have HL5 := Lib.hid (st_push HL4.out hb hz 27)
  have KV := Lib.hid hK
  have MV := Lib.hid hM
  clear hK hM hz hb HL4 
  go_upto_region 11 with (fail)
  generalize hbV : yV.heap.size = bV at *
  generalize yV.alloc _ = wV at *
  clear hbV
  go_cut [15] (fun v w' => ∃ (b : Nat) (p : Option Addr) (q : Nat) (O : List Rg), v = .pointer (some ⟨b, 0, none⟩) ∧ Canon O ∧ (∀ c, Has O c ↔ Has N c ∧ 0 ≤ c ∧ c ≤ min most 1114111 ∧ ¬ Has T c) ∧ ST w [(b, .slice p O.length q, O), (bV, .slice gV V.length cV, V), (bU, .slice gU U.length cU, U), (bN, .slice gN N.length cN, N), (bT, .slice gT T.length cT, T), (bS, .slice gS S.length cS, S)] w')
  case first =>
    have hst := HL5.out
    have HS := KN
    have HT := KT
    have k1 := st_cell (b := bN) (v := .slice gN N.length cN) (S := N) hst (by simp)
    have k2 := st_cell (b := bT) (v := .slice gT T.length cT) (S := T) hst (by simp)
    have HK : Hid (∀ wi, Below wV.heap.size wV wi → (Below wV.heap.size wV wi ∧ wi.cell? ⟨bN, 0, none⟩ = some (.slice gN N.length cN) ∧ wi.cell? ⟨bT, 0, none⟩ = some (.slice gT T.length cT))) := fun wi h => ⟨h, below_cell h k1, below_cell h k2⟩
    have HS1 : Hid (∀ wi, Below wV.heap.size wV wi → ZsAt 0 wi (.slice gN N.length cN) N) := fun wi h => st_z (b := bN) (st_on hst h) (by simp)
    have HS2 : Hid (∀ wi, Below wV.heap.size wV wi → ZsAt 0 wi (.slice gT T.length cT) T) := fun wi h => st_z (b := bT) (st_on hst h) (by simp)
    clear k1 k2
    refine wp_region_held_drew (S := fun w' => Below wV.heap.size wV w' ∧ w'.cell? ⟨bN, 0, none⟩ = some (.slice gN N.length cN) ∧ w'.cell? ⟨bT, 0, none⟩ = some (.slice gT T.length cT)) (by kernel_rfl) (HK.out _ (below_drew _)) (fun hHeld => ?_)
    refine wpAnyH_take (i := 0) (v := ?_) rfl (by kernel_rfl) (by kernel_rfl) (by kernel_rfl) (fun _ _ _ h => h) (Or.inl ⟨by rfl, ?_⟩) (by assumption) ?_
    rotate_left
    · intro w hSw
      obtain ⟨_, hSw1, hSw2⟩ := hSw
      go_simp
      try rfl
    simp only [Act.put, List.setIfInBounds_toArray, List.set_cons_zero, List.set_cons_succ, List.getElem_toArray, List.getElem_cons_zero]
    refine wpAnyH_take (i := 1) (v := ?_) rfl (by kernel_rfl) (by kernel_rfl) (by kernel_rfl) (fun _ _ _ h => h) (Or.inl ⟨by rfl, ?_⟩) (by assumption) ?_
    rotate_left
    · intro w hSw
      obtain ⟨_, hSw1, hSw2⟩ := hSw
      go_simp
      try rfl
    simp only [Act.put, List.setIfInBounds_toArray, List.set_cons_zero, List.set_cons_succ, List.getElem_toArray, List.getElem_cons_succ, List.getElem_cons_zero]
    refine wpAnyH_take (i := 2) (v := ?_) rfl (by kernel_rfl) (by kernel_rfl) (by kernel_rfl) (fun _ _ _ h => h) (Or.inl ⟨by rfl, ?_⟩) (by assumption) ?_
    rotate_left
    · intro w hSw
      obtain ⟨_, hSw1, hSw2⟩ := hSw
      go_simp
      try rfl
    simp only [Act.put, List.setIfInBounds_toArray, List.set_cons_zero, List.set_cons_succ, List.getElem_toArray, List.getElem_cons_succ, List.getElem_cons_zero]
    refine wpAnyH_ready (rs := [3, 5]) (by kernel_rfl) (by simp) ?_
    refine AllReadyH.cons rfl (fun K hK => ?_) (AllReadyH.cons rfl (fun K hK => ?_) AllReadyH.nil)
    · go_simp
      refine (not_any (.slice gT T.length cT) T 0 most _ HT.out (HS2.out _ (below_drew _)) h1 h2).mono ?_
      rintro e wn ⟨vn, N2, rfl, hN, hhN, hzN, hbN⟩
      obtain ⟨gn, cn, rfl⟩ := zsAt_len hzN
      have hln := canon_len hN
      have hz0 := zsAt_mono hzN (Nat.zero_le _)
      have hn7 : Below wV.heap.size wV wn := (below_drew _).trans (hbN.mono (below_drew _).size)
      refine hK.out _ _ (HK.out _ hn7) (fun hHeld => ?_)
      clear hK K
      try simp only [Act.put, List.setIfInBounds_toArray, List.set_cons_zero, List.set_cons_succ, List.getElem_toArray, List.getElem_cons_succ, List.getElem_cons_zero]
      refine wpAnyH_ready (rs := [4, 5]) (by kernel_rfl) (by simp) ?_
      refine AllReadyH.cons rfl (fun K hK => ?_) (AllReadyH.cons rfl (fun K hK => ?_) AllReadyH.nil)
      · go_simp
        refine (meet_any (.slice gN N.length cN) (.slice gn N2.length cn) N N2 0 0 _ HS.out hN (HS1.out _ (hn7)) hz0).mono ?_
        rintro e wm ⟨vm, O, rfl, hO, hhO, hzO, hbO⟩
        obtain ⟨po, qo, rfl⟩ := zsAt_len hzO
        have hlo := canon_len hO
        have hm7 : Below wV.heap.size wV wm := (hn7).trans (hbO.mono (hn7).size)
        refine hK.out _ _ (HK.out _ hm7) (fun hHeld => ?_)
        clear hK K
        try simp only [Act.put, List.setIfInBounds_toArray, List.set_cons_zero, List.set_cons_succ, List.getElem_toArray, List.getElem_cons_succ, List.getElem_cons_zero]
        refine wpAnyH_ready (rs := [5]) (by kernel_rfl) (by simp) ?_
        refine AllReadyH.cons rfl (fun K hK => ?_) AllReadyH.nil
        go_simp
        refine hK.out _ _ (HK.out _ (Below.alloc hm7 hm7.size _)) (fun hHeld => ?_)
        clear hK K
        try simp only [Act.put, List.setIfInBounds_toArray, List.set_cons_zero, List.set_cons_succ, List.getElem_toArray, List.getElem_cons_succ, List.getElem_cons_zero]
        refine wpAnyH_ready (rs := [6]) (by kernel_rfl) (by simp) ?_
        refine AllReadyH.cons rfl (fun K hK => ?_) AllReadyH.nil
        go_simp
        refine hK.out _ _ (HK.out _ (Below.alloc hm7 hm7.size _)) (fun hHeld => ?_)
        clear hK K
        try simp only [Act.put, List.setIfInBounds_toArray, List.set_cons_zero, List.set_cons_succ, List.getElem_toArray, List.getElem_cons_succ, List.getElem_cons_zero]
        refine wpAnyH_done (by kernel_rfl) ?_ _
        go_wp2_with fail
        go_meet
        exact ⟨wm.heap.size, po, qo, O, rfl, hO, fun c => (hhO c).trans (and_congr Iff.rfl (hhN c)), st_push hst hm7 hzO _⟩
      · go_simp
        refine hK.out _ _ (HK.out _ (Below.alloc hn7 hn7.size _)) (fun hHeld => ?_)
        clear hK K
        try simp only [Act.put, List.setIfInBounds_toArray, List.set_cons_zero, List.set_cons_succ, List.getElem_toArray, List.getElem_cons_succ, List.getElem_cons_zero]
        refine wpAnyH_ready (rs := [4]) (by kernel_rfl) (by simp) ?_
        refine AllReadyH.cons rfl (fun K hK => ?_) AllReadyH.nil
        have hb0 := below_alloc wn (.cells #[.slice none 0 0] 27)
        go_simp
        refine (meet_any (.slice gN N.length cN) (.slice gn N2.length cn) N N2 0 0 _ HS.out hN (HS1.out _ (below_trans hn7 hb0)) (zsAt_below hz0 hb0)).mono ?_
        rintro e wm ⟨vm, O, rfl, hO, hhO, hzO, hbO⟩
        obtain ⟨po, qo, rfl⟩ := zsAt_len hzO
        have hlo := canon_len hO
        have hm7 : Below wV.heap.size wV wm := (below_trans hn7 hb0).trans (hbO.mono (below_trans hn7 hb0).size)
        refine hK.out _ _ (HK.out _ hm7) (fun hHeld => ?_)
        clear hK K
        try simp only [Act.put, List.setIfInBounds_toArray, List.set_cons_zero, List.set_cons_succ, List.getElem_toArray, List.getElem_cons_succ, List.getElem_cons_zero]
        obtain ⟨kc, fc⟩ := keeps hbO (cell_new wn (.slice none 0 0) 27).2.2.1 (cell_new wn _ _).1 (cell_new wn _ _).2.1
        refine wpAnyH_ready (rs := [6]) (by kernel_rfl) (by simp) ?_
        refine AllReadyH.cons rfl (fun K hK => ?_) AllReadyH.nil
        go_simp
        refine hK.out _ _ (HK.out _ (Below.setCell hm7 hn7.size _)) (fun hHeld => ?_)
        clear hK K
        try simp only [Act.put, List.setIfInBounds_toArray, List.set_cons_zero, List.set_cons_succ, List.getElem_toArray, List.getElem_cons_succ, List.getElem_cons_zero]
        refine wpAnyH_done (by kernel_rfl) ?_ _
        go_wp2_with fail
        go_meet
        exact ⟨wn.heap.size, po, qo, O, rfl, hO, fun c => (hhO c).trans (and_congr Iff.rfl (hhN c)), st_late2 hst hm7 kc hzO (by simp) hn7.size⟩
    · go_simp
      refine hK.out _ _ (HK.out _ (Below.alloc (below_drew _) (Nat.le_refl _) _)) (fun hHeld => ?_)
      clear hK K
      try simp only [Act.put, List.setIfInBounds_toArray, List.set_cons_zero, List.set_cons_succ, List.getElem_toArray, List.getElem_cons_succ, List.getElem_cons_zero]
      refine wpAnyH_ready (rs := [3]) (by kernel_rfl) (by simp) ?_
      refine AllReadyH.cons rfl (fun K hK => ?_) AllReadyH.nil
      have hb0 : Below wV.heap.size wV (wV.drew.alloc (.cells #[.slice none 0 0] 27)) := Below.alloc (below_drew _) (Nat.le_refl _) _
      go_simp
      refine (not_any (.slice gT T.length cT) T 0 most _ HT.out (HS2.out _ (hb0)) h1 h2).mono ?_
      rintro e wn ⟨vn, N2, rfl, hN, hhN, hzN, hbN⟩
      obtain ⟨gn, cn, rfl⟩ := zsAt_len hzN
      have hln := canon_len hN
      have hz0 := zsAt_mono hzN (Nat.zero_le _)
      have hn7 : Below wV.heap.size wV wn := (hb0).trans (hbN.mono (hb0).size)
      refine hK.out _ _ (HK.out _ hn7) (fun hHeld => ?_)
      clear hK K
      try simp only [Act.put, List.setIfInBounds_toArray, List.set_cons_zero, List.set_cons_succ, List.getElem_toArray, List.getElem_cons_succ, List.getElem_cons_zero]
      obtain ⟨kc, fc⟩ : wn.cell? ⟨wV.heap.size, 0, none⟩ = some (.slice none 0 0) ∧ wn.frozen? ⟨wV.heap.size, 0, none⟩ = false := keeps hbN (cell_new wV.drew (.slice none 0 0) 27).2.2.1 (cell_new wV.drew _ _).1 (cell_new wV.drew _ _).2.1
      refine wpAnyH_ready (rs := [4]) (by kernel_rfl) (by simp) ?_
      refine AllReadyH.cons rfl (fun K hK => ?_) AllReadyH.nil
      go_simp
      refine (meet_any (.slice gN N.length cN) (.slice gn N2.length cn) N N2 0 0 _ HS.out hN (HS1.out _ (hn7)) hz0).mono ?_
      rintro e wm ⟨vm, O, rfl, hO, hhO, hzO, hbO⟩
      obtain ⟨po, qo, rfl⟩ := zsAt_len hzO
      have hlo := canon_len hO
      have hm7 : Below wV.heap.size wV wm := (hn7).trans (hbO.mono (hn7).size)
      refine hK.out _ _ (HK.out _ hm7) (fun hHeld => ?_)
      clear hK K
      try simp only [Act.put, List.setIfInBounds_toArray, List.set_cons_zero, List.set_cons_succ, List.getElem_toArray, List.getElem_cons_succ, List.getElem_cons_zero]
      obtain ⟨kd, fd⟩ := keeps hbO (cell_lt kc) kc fc
      refine wpAnyH_ready (rs := [6]) (by kernel_rfl) (by simp) ?_
      refine AllReadyH.cons rfl (fun K hK => ?_) AllReadyH.nil
      go_simp
      refine hK.out _ _ (HK.out _ (Below.setCell hm7 (p := ⟨wV.heap.size, 0, none⟩) (Nat.le_refl _) _)) (fun hHeld => ?_)
      clear hK K
      try simp only [Act.put, List.setIfInBounds_toArray, List.set_cons_zero, List.set_cons_succ, List.getElem_toArray, List.getElem_cons_succ, List.getElem_cons_zero]
      refine wpAnyH_done (by kernel_rfl) ?_ _
      go_wp2_with fail
      go_meet
      exact ⟨wV.heap.size, po, qo, O, rfl, hO, fun c => (hhO c).trans (and_congr Iff.rfl (hhN c)), st_late2 hst hm7 kd hzO (cell_lt kc) (Nat.le_refl _)⟩
  case rest =>
    obtain ⟨bW, gW, cW, W, rfl, hO, hhO, hst⟩ := hcut
    have KW := Lib.hid hO
    have MW := Lib.hid hhO
    have HLW := Lib.hid hst
    have lW := canon_len hO
    have d0 := st_cell (b := bU) (v := .slice gU U.length cU) (S := U) hst (by simp)
    clear hO hhO hst HL5
    go_wp2_with fail
    clear d0
    refine (caseless_any (.slice gU U.length cU) U 0 u _ KU.out (st_z (b := bU) HLW.out (by simp)) (below_tab HLW.out.1 HT0.out)).mono ?_
    rintro e yC ⟨vC, C, rfl, hK, hM, hz, hb⟩
    obtain ⟨gC, cC, rfl⟩ := zsAt_len hz
    have lC := canon_len hK
    have HL6 := Lib.hid (st_push HLW.out hb hz 27)
    have KC := Lib.hid hK
    have MC := Lib.hid hM
    have d0 := st_cell (b := bS) (v := .slice gS S.length cS) (S := S) HL6.out (by simp)
    clear hK hM hz hb HLW 
    go_wp2_with fail
    clear d0
    generalize hbC : yC.heap.size = bC at *
    generalize yC.alloc _ = wC at *
    clear hbC
    refine (caseless_any (.slice gS S.length cS) S 0 u _ KS.out (st_z (b := bS) HL6.out (by simp)) (below_tab HL6.out.1 HT0.out)).mono ?_
    rintro e yD ⟨vD, D, rfl, hK, hM, hz, hb⟩
    obtain ⟨gD, cD, rfl⟩ := zsAt_len hz
    have lD := canon_len hK
    have HL7 := Lib.hid (st_push HL6.out hb hz 27)
    have HLp := Lib.hid (st_on HL6.out hb)
    have HBp := Lib.hid (below_alloc yD (.cells #[.slice gD D.length cD] 27))
    have HFz := Lib.hid (cell_new yD (.slice gD D.length cD) 27).2.1
    have KD := Lib.hid hK
    have MD := Lib.hid hM
    clear hK hM hz hb HL6 
    go_upto_region 14 with (fail)
    generalize hbD : yD.heap.size = bD at *
    generalize yD.alloc _ = wD at *
    have HbE := Lib.hid hbD
    clear hbD
    go_cut [] (fun w' => ∃ (p : Option Addr) (q : Nat) (O : List Rg), Canon O ∧ (∀ c, Has O c ↔ Has D c ∨ (Has T c ∨ ∃ d, Has T d ∧ c ∈ othersP d u)) ∧ ST w [(bD, .slice p O.length q, O), (bC, .slice gC C.length cC, C), (bW, .slice gW W.length cW, W), (bV, .slice gV V.length cV, V), (bU, .slice gU U.length cU, U), (bN, .slice gN N.length cN, N), (bT, .slice gT T.length cT, T), (bS, .slice gS S.length cS, S)] w')
    case first =>
      have hst := HL7.out
      have f1 := st_cell (b := bD) (v := .slice gD D.length cD) (S := D) (st_on hst (below_drew _)) (by simp)
      have f2 := st_cell (b := bT) (v := .slice gT T.length cT) (S := T) (st_on hst (below_drew _)) (by simp)
      have hst2 := st_on hst (below_drew wD)
      have hB0 : Below yD.heap.size yD wD := by rw [HbE.out]; exact HBp.out
      have hbq := below_drew wD
      have hp0 := st_cell (b := bT) (v := .slice gT T.length cT) (S := T) HLp.out (by simp)
      have HK : Hid (∀ wi, Below yD.heap.size yD wi → (Below yD.heap.size yD wi ∧ wi.cell? ⟨bT, 0, none⟩ = some (.slice gT T.length cT))) := fun wi h => ⟨h, below_cell h hp0⟩
      have hB1 := hB0.trans (hbq.mono hB0.size)
      refine wp_region_held_drew (S := fun w' => Below yD.heap.size yD w' ∧ w'.cell? ⟨bT, 0, none⟩ = some (.slice gT T.length cT)) (by kernel_rfl) (HK.out _ hB1) (fun hHeld => ?_)
      refine wpAnyH_take (i := 1) (v := ?_) rfl (by kernel_rfl) (by kernel_rfl) (by kernel_rfl) (fun _ _ _ h => h) (Or.inl ⟨by rfl, ?_⟩) (by assumption) ?_
      rotate_left
      · intro w hSw
        obtain ⟨_, c0⟩ := hSw
        go_simp
        try rfl
      simp only [Act.put, List.setIfInBounds_toArray, List.set_cons_zero, List.set_cons_succ, List.getElem_toArray, List.getElem_cons_succ, List.getElem_cons_zero]
      refine wpAnyH_take (i := 2) (v := ?_) rfl (by kernel_rfl) (by kernel_rfl) (by kernel_rfl) (fun _ _ _ h => h) (Or.inl ⟨by rfl, ?_⟩) (by assumption) ?_
      rotate_left
      · intro w hSw
        obtain ⟨_, c0⟩ := hSw
        go_simp
        try rfl
      simp only [Act.put, List.setIfInBounds_toArray, List.set_cons_zero, List.set_cons_succ, List.getElem_toArray, List.getElem_cons_succ, List.getElem_cons_zero]
      refine wpAnyH_ready (rs := [0, 3]) (by kernel_rfl) (by simp) ?_
      refine AllReadyH.cons rfl (fun K hK => ?_) (AllReadyH.cons rfl (fun K hK => ?_) AllReadyH.nil)
      · go_simp
        refine hK.out _ _ (HK.out _ hB1) (fun hHeld => ?_)
        clear hK K
        try simp only [Act.put, List.setIfInBounds_toArray, List.set_cons_zero, List.set_cons_succ, List.getElem_toArray, List.getElem_cons_succ, List.getElem_cons_zero]
        refine wpAnyH_ready (rs := [3]) (by kernel_rfl) (by simp) ?_
        refine AllReadyH.cons rfl (fun K hK => ?_) AllReadyH.nil
        go_simp
        refine (caseless_any (.slice gT T.length cT) T 0 u _ KT.out (st_z (b := bT) hst2 (by simp)) (below_tab hst2.1 HT0.out)).mono ?_
        rintro e x1 ⟨v1, O1, rfl, hO1, hM1, hz1, hb1⟩
        obtain ⟨g1, c1, rfl⟩ := zsAt_len hz1
        have lo1 := canon_len hO1
        have hst3 := st_on hst2 hb1
        have f3 := st_cell (b := bD) (v := .slice gD D.length cD) (S := D) hst3 (by simp)
        have hB2 := hB1.trans (hb1.mono hB1.size)
        refine hK.out _ _ (HK.out _ hB2) (fun hHeld => ?_)
        clear hK K
        try simp only [Act.put, List.setIfInBounds_toArray, List.set_cons_zero, List.set_cons_succ, List.getElem_toArray, List.getElem_cons_succ, List.getElem_cons_zero]
        refine wpAnyH_ready (rs := [4]) (by kernel_rfl) (by simp) ?_
        refine AllReadyH.cons rfl (fun K hK => ?_) AllReadyH.nil
        go_simp
        refine (union_any (.slice gD D.length cD) (.slice g1 O1.length c1) D O1 0 0 _ KD.out hO1 (st_z (b := bD) hst3 (by simp)) (zsAt_mono hz1 (Nat.zero_le _))).mono ?_
        rintro e x2 ⟨v2, O2, rfl, hO2, hM2, hz2, hb2⟩
        obtain ⟨g2, c2, rfl⟩ := zsAt_len hz2
        have lo2 := canon_len hO2
        have f4 := below_cell hb2 f3
        have hw2 := below_trans (below_trans hbq hb1) hb2
        have f5 : x2.frozen? ⟨bD, 0, none⟩ = false := (hw2.frozen (p := ⟨bD, 0, none⟩) (cell_lt f1)).trans HFz.out
        have hB3 := hB2.trans (hb2.mono hB2.size)
        refine hK.out _ _ (HK.out _ hB3) (fun hHeld => ?_)
        clear hK K
        try simp only [Act.put, List.setIfInBounds_toArray, List.set_cons_zero, List.set_cons_succ, List.getElem_toArray, List.getElem_cons_succ, List.getElem_cons_zero]
        refine wpAnyH_ready (rs := [5]) (by kernel_rfl) (by simp) ?_
        refine AllReadyH.cons rfl (fun K hK => ?_) AllReadyH.nil
        go_simp
        refine hK.out _ _ (HK.out _ (Below.setCell hB3 (p := ⟨bD, 0, none⟩) (Nat.le_of_eq HbE.out) _)) (fun hHeld => ?_)
        clear hK K
        try simp only [Act.put, List.setIfInBounds_toArray, List.set_cons_zero, List.set_cons_succ, List.getElem_toArray, List.getElem_cons_succ, List.getElem_cons_zero]
        refine wpAnyH_done (by kernel_rfl) ?_ _
        go_wp2_with fail
        go_meet
        exact ⟨g2, c2, O2, hO2, fun c => (hM2 c).trans (or_congr Iff.rfl (hM1 c)), st_late2 HLp.out (hB0.trans (hw2.mono hB0.size)) f4 hz2 (cell_lt f3) (Nat.le_of_eq HbE.out)⟩
      · go_simp
        refine (caseless_any (.slice gT T.length cT) T 0 u _ KT.out (st_z (b := bT) hst2 (by simp)) (below_tab hst2.1 HT0.out)).mono ?_
        rintro e x1 ⟨v1, O1, rfl, hO1, hM1, hz1, hb1⟩
        obtain ⟨g1, c1, rfl⟩ := zsAt_len hz1
        have lo1 := canon_len hO1
        have hst3 := st_on hst2 hb1
        have f3 := st_cell (b := bD) (v := .slice gD D.length cD) (S := D) hst3 (by simp)
        have hB2 := hB1.trans (hb1.mono hB1.size)
        refine hK.out _ _ (HK.out _ hB2) (fun hHeld => ?_)
        clear hK K
        try simp only [Act.put, List.setIfInBounds_toArray, List.set_cons_zero, List.set_cons_succ, List.getElem_toArray, List.getElem_cons_succ, List.getElem_cons_zero]
        refine wpAnyH_ready (rs := [0]) (by kernel_rfl) (by simp) ?_
        refine AllReadyH.cons rfl (fun K hK => ?_) AllReadyH.nil
        go_simp
        refine hK.out _ _ (HK.out _ hB2) (fun hHeld => ?_)
        clear hK K
        try simp only [Act.put, List.setIfInBounds_toArray, List.set_cons_zero, List.set_cons_succ, List.getElem_toArray, List.getElem_cons_succ, List.getElem_cons_zero]
        refine wpAnyH_ready (rs := [4]) (by kernel_rfl) (by simp) ?_
        refine AllReadyH.cons rfl (fun K hK => ?_) AllReadyH.nil
        go_simp
        refine (union_any (.slice gD D.length cD) (.slice g1 O1.length c1) D O1 0 0 _ KD.out hO1 (st_z (b := bD) hst3 (by simp)) (zsAt_mono hz1 (Nat.zero_le _))).mono ?_
        rintro e x2 ⟨v2, O2, rfl, hO2, hM2, hz2, hb2⟩
        obtain ⟨g2, c2, rfl⟩ := zsAt_len hz2
        have lo2 := canon_len hO2
        have f4 := below_cell hb2 f3
        have hw2 := below_trans (below_trans hbq hb1) hb2
        have f5 : x2.frozen? ⟨bD, 0, none⟩ = false := (hw2.frozen (p := ⟨bD, 0, none⟩) (cell_lt f1)).trans HFz.out
        have hB3 := hB2.trans (hb2.mono hB2.size)
        refine hK.out _ _ (HK.out _ hB3) (fun hHeld => ?_)
        clear hK K
        try simp only [Act.put, List.setIfInBounds_toArray, List.set_cons_zero, List.set_cons_succ, List.getElem_toArray, List.getElem_cons_succ, List.getElem_cons_zero]
        refine wpAnyH_ready (rs := [5]) (by kernel_rfl) (by simp) ?_
        refine AllReadyH.cons rfl (fun K hK => ?_) AllReadyH.nil
        go_simp
        refine hK.out _ _ (HK.out _ (Below.setCell hB3 (p := ⟨bD, 0, none⟩) (Nat.le_of_eq HbE.out) _)) (fun hHeld => ?_)
        clear hK K
        try simp only [Act.put, List.setIfInBounds_toArray, List.set_cons_zero, List.set_cons_succ, List.getElem_toArray, List.getElem_cons_succ, List.getElem_cons_zero]
        refine wpAnyH_done (by kernel_rfl) ?_ _
        go_wp2_with fail
        go_meet
        exact ⟨g2, c2, O2, hO2, fun c => (hM2 c).trans (or_congr Iff.rfl (hM1 c)), st_late2 HLp.out (hB0.trans (hw2.mono hB0.size)) f4 hz2 (cell_lt f3) (Nat.le_of_eq HbE.out)⟩
    case rest =>
      obtain ⟨gG, cG, G, hO, hhO, hst⟩ := hcut
      have KG := Lib.hid hO
      have MG0 := Lib.hid hhO
      have HLG := Lib.hid hst
      have lG := canon_len hO
      have d0 := st_cell (b := bS) (v := .slice gS S.length cS) (S := S) hst (by simp)
      have d1 := st_cell (b := bN) (v := .slice gN N.length cN) (S := N) hst (by simp)
      clear hO hhO hst HL7 HLp HBp HFz HbE
      go_wp2_with fail
      clear d0 d1
      refine (meet_any (.slice gS S.length cS) (.slice gN N.length cN) S N 0 0 _ KS.out KN.out (st_z (b := bS) HLG.out (by simp)) (st_z (b := bN) HLG.out (by simp))).mono ?_
      rintro e yE ⟨vE, E, rfl, hK, hM, hz, hb⟩
      obtain ⟨gE, cE, rfl⟩ := zsAt_len hz
      have lE := canon_len hK
      have HL8 := Lib.hid (st_push HLG.out hb hz 27)
      have KE := Lib.hid hK
      have ME := Lib.hid hM
      have d0 := st_cell (b := bS) (v := .slice gS S.length cS) (S := S) HL8.out (by simp)
      have d1 := st_cell (b := bN) (v := .slice gN N.length cN) (S := N) HL8.out (by simp)
      clear hK hM hz hb HLG 
      go_wp2_with fail
      clear d0 d1
      generalize hbE : yE.heap.size = bE at *
      generalize yE.alloc _ = wE at *
      clear hbE
      refine (union_any (.slice gS S.length cS) (.slice gN N.length cN) S N 0 0 _ KS.out KN.out (st_z (b := bS) HL8.out (by simp)) (st_z (b := bN) HL8.out (by simp))).mono ?_
      rintro e yF ⟨vF, F, rfl, hK, hM, hz, hb⟩
      obtain ⟨gF, cF, rfl⟩ := zsAt_len hz
      have lF := canon_len hK
      have HL9 := Lib.hid (st_push HL8.out hb hz 27)
      have KF := Lib.hid hK
      have MF := Lib.hid hM
      clear hK hM hz hb HL8 
      go_wp2_with fail
      have Hsz := Lib.hid (World.size_alloc yF (.cells #[.slice gF F.length cF] 27))
      generalize hbF : yF.heap.size = bF at *
      generalize yF.alloc _ = wF at *
      clear hbF
      refine (new_all most wF (bF + 1) Hsz.out h1 h2).mono ?_
      rintro e yA ⟨vA, A, rfl, hK, hM, hz, hb⟩
      obtain ⟨gA, cA, rfl⟩ := zsAt_len hz
      have lA := canon_len hK
      have HL10 := Lib.hid (st_push HL9.out (below_trans (below_alloc _ _) hb) hz 27)
      have KA := Lib.hid hK
      have MA := Lib.hid hM
      clear hK hM hz hb HL9 
      go_upto_region 18 with (fail)
      generalize hbA : yA.heap.size = bA at *
      generalize yA.alloc _ = wA at *
      clear hbA
      obtain ⟨e1, e2, e3, e4⟩ := laws_pure (u := u) KS.out KT.out KU.out KV.out KW.out KC.out KG.out KE.out KF.out KA.out MS.out MT.out MN.out MU.out MV.out MW.out MC.out (fun c => (MG0.out c).trans (or_congr (MD.out c) Iff.rfl)) ME.out MF.out MA.out (by omega)
      have HQ1 : Hid (∀ wi, ST w [(bA, .slice gA A.length cA, A), (bF, .slice gF F.length cF, F), (bE, .slice gE E.length cE, E), (bD, .slice gG G.length cG, G), (bC, .slice gC C.length cC, C), (bW, .slice gW W.length cW, W), (bV, .slice gV V.length cV, V), (bU, .slice gU U.length cU, U), (bN, .slice gN N.length cN, N), (bT, .slice gT T.length cT, T), (bS, .slice gS S.length cS, S)] wi → Calls Tryd.prog 19 #[.agg #[.slice gV V.length cV], .agg #[.slice gW W.length cW]] wi (BoolB true wi)) := fun wi h => same_true _ _ V W 0 0 wi KV.out KW.out (st_z (b := bV) h (by simp)) (st_z (b := bW) h (by simp)) e1
      have HQ2 : Hid (∀ wi, ST w [(bA, .slice gA A.length cA, A), (bF, .slice gF F.length cF, F), (bE, .slice gE E.length cE, E), (bD, .slice gG G.length cG, G), (bC, .slice gC C.length cC, C), (bW, .slice gW W.length cW, W), (bV, .slice gV V.length cV, V), (bU, .slice gU U.length cU, U), (bN, .slice gN N.length cN, N), (bT, .slice gT T.length cT, T), (bS, .slice gS S.length cS, S)] wi → Calls Tryd.prog 19 #[.agg #[.slice gC C.length cC], .agg #[.slice gG G.length cG]] wi (BoolB true wi)) := fun wi h => same_true _ _ C G 0 0 wi KC.out KG.out (st_z (b := bC) h (by simp)) (st_z (b := bD) h (by simp)) e2
      have HQ3 : Hid (∀ wi, ST w [(bA, .slice gA A.length cA, A), (bF, .slice gF F.length cF, F), (bE, .slice gE E.length cE, E), (bD, .slice gG G.length cG, G), (bC, .slice gC C.length cC, C), (bW, .slice gW W.length cW, W), (bV, .slice gV V.length cV, V), (bU, .slice gU U.length cU, U), (bN, .slice gN N.length cN, N), (bT, .slice gT T.length cT, T), (bS, .slice gS S.length cS, S)] wi → Calls Tryd.prog 19 #[.agg #[.slice gF F.length cF], .agg #[.slice gA A.length cA]] wi (BoolB true wi)) := fun wi h => same_true _ _ F A 0 0 wi KF.out KA.out (st_z (b := bF) h (by simp)) (st_z (b := bA) h (by simp)) e4
      have HQ4 : Hid (∀ wi, ST w [(bA, .slice gA A.length cA, A), (bF, .slice gF F.length cF, F), (bE, .slice gE E.length cE, E), (bD, .slice gG G.length cG, G), (bC, .slice gC C.length cC, C), (bW, .slice gW W.length cW, W), (bV, .slice gV V.length cV, V), (bU, .slice gU U.length cU, U), (bN, .slice gN N.length cN, N), (bT, .slice gT T.length cT, T), (bS, .slice gS S.length cS, S)] wi → Calls Tryd.prog 15 #[.agg #[.slice gE E.length cE]] wi (IntB (tot E) wi)) := fun wi h => count_any _ E 0 wi KE.out (st_z (b := bE) h (by simp))
      rw [e3] at HQ4
      have hst := HL10.out
      clear e1 e2 e3 e4
      have HK : Hid (∀ wi, ST w [(bA, .slice gA A.length cA, A), (bF, .slice gF F.length cF, F), (bE, .slice gE E.length cE, E), (bD, .slice gG G.length cG, G), (bC, .slice gC C.length cC, C), (bW, .slice gW W.length cW, W), (bV, .slice gV V.length cV, V), (bU, .slice gU U.length cU, U), (bN, .slice gN N.length cN, N), (bT, .slice gT T.length cT, T), (bS, .slice gS S.length cS, S)] wi → (ST w [(bA, .slice gA A.length cA, A), (bF, .slice gF F.length cF, F), (bE, .slice gE E.length cE, E), (bD, .slice gG G.length cG, G), (bC, .slice gC C.length cC, C), (bW, .slice gW W.length cW, W), (bV, .slice gV V.length cV, V), (bU, .slice gU U.length cU, U), (bN, .slice gN N.length cN, N), (bT, .slice gT T.length cT, T), (bS, .slice gS S.length cS, S)] wi ∧ wi.cell? ⟨bS, 0, none⟩ = some (.slice gS S.length cS) ∧ wi.cell? ⟨bN, 0, none⟩ = some (.slice gN N.length cN) ∧ wi.cell? ⟨bV, 0, none⟩ = some (.slice gV V.length cV) ∧ wi.cell? ⟨bW, 0, none⟩ = some (.slice gW W.length cW) ∧ wi.cell? ⟨bC, 0, none⟩ = some (.slice gC C.length cC) ∧ wi.cell? ⟨bD, 0, none⟩ = some (.slice gG G.length cG) ∧ wi.cell? ⟨bE, 0, none⟩ = some (.slice gE E.length cE) ∧ wi.cell? ⟨bF, 0, none⟩ = some (.slice gF F.length cF) ∧ wi.cell? ⟨bA, 0, none⟩ = some (.slice gA A.length cA))) := fun wi h => ⟨h, st_cell (S := S) h (by simp), st_cell (S := N) h (by simp), st_cell (S := V) h (by simp), st_cell (S := W) h (by simp), st_cell (S := C) h (by simp), st_cell (S := G) h (by simp), st_cell (S := E) h (by simp), st_cell (S := F) h (by simp), st_cell (S := A) h (by simp)⟩
      have h0 := st_on hst (below_drew _)
      refine wp_region_held_drew (S := fun w' => ST w [(bA, .slice gA A.length cA, A), (bF, .slice gF F.length cF, F), (bE, .slice gE E.length cE, E), (bD, .slice gG G.length cG, G), (bC, .slice gC C.length cC, C), (bW, .slice gW W.length cW, W), (bV, .slice gV V.length cV, V), (bU, .slice gU U.length cU, U), (bN, .slice gN N.length cN, N), (bT, .slice gT T.length cT, T), (bS, .slice gS S.length cS, S)] w' ∧ w'.cell? ⟨bS, 0, none⟩ = some (.slice gS S.length cS) ∧ w'.cell? ⟨bN, 0, none⟩ = some (.slice gN N.length cN) ∧ w'.cell? ⟨bV, 0, none⟩ = some (.slice gV V.length cV) ∧ w'.cell? ⟨bW, 0, none⟩ = some (.slice gW W.length cW) ∧ w'.cell? ⟨bC, 0, none⟩ = some (.slice gC C.length cC) ∧ w'.cell? ⟨bD, 0, none⟩ = some (.slice gG G.length cG) ∧ w'.cell? ⟨bE, 0, none⟩ = some (.slice gE E.length cE) ∧ w'.cell? ⟨bF, 0, none⟩ = some (.slice gF F.length cF) ∧ w'.cell? ⟨bA, 0, none⟩ = some (.slice gA A.length cA)) (by kernel_rfl) (HK.out _ h0) (fun hHeld => ?_)
      refine wpAnyH_take (i := 0) (v := ?_) rfl (by kernel_rfl) (by kernel_rfl) (by kernel_rfl) (fun _ _ _ h => h) (Or.inl ⟨by rfl, ?_⟩) (by assumption) ?_
      rotate_left
      · intro w hSw
        obtain ⟨_, c0, c1, c2, c3, c4, c5, c6, c7, c8⟩ := hSw
        go_simp
        try rfl
      simp only [Act.put, List.setIfInBounds_toArray, List.set_cons_zero, List.set_cons_succ, List.getElem_toArray, List.getElem_cons_zero]
      refine wpAnyH_take (i := 1) (v := ?_) rfl (by kernel_rfl) (by kernel_rfl) (by kernel_rfl) (fun _ _ _ h => h) (Or.inl ⟨by rfl, ?_⟩) (by assumption) ?_
      rotate_left
      · intro w hSw
        obtain ⟨_, c0, c1, c2, c3, c4, c5, c6, c7, c8⟩ := hSw
        go_simp
        try rfl
      simp only [Act.put, List.setIfInBounds_toArray, List.set_cons_zero, List.set_cons_succ, List.getElem_toArray, List.getElem_cons_succ, List.getElem_cons_zero]
      refine wpAnyH_take (i := 2) (v := ?_) rfl (by kernel_rfl) (by kernel_rfl) (by kernel_rfl) (fun _ _ _ h => h) (Or.inl ⟨by rfl, ?_⟩) (by assumption) ?_
      rotate_left
      · intro w hSw
        obtain ⟨_, c0, c1, c2, c3, c4, c5, c6, c7, c8⟩ := hSw
        go_simp
        try rfl
      simp only [Act.put, List.setIfInBounds_toArray, List.set_cons_zero, List.set_cons_succ, List.getElem_toArray, List.getElem_cons_succ, List.getElem_cons_zero]
      refine wpAnyH_ready (rs := [3]) (by kernel_rfl) (by simp) ?_
      refine AllReadyH.cons rfl (fun K hK => ?_) AllReadyH.nil
      go_simp
      refine (not_any (.slice gN N.length cN) N 0 most _ KN.out (st_z (b := bN) h0 (by simp)) h1 h2).mono ?_
      rintro e x1 ⟨v3, Q1, rfl, hQ1, hM1, hz1, hb1⟩
      obtain ⟨g3, c3, rfl⟩ := zsAt_len hz1
      have lq1 := canon_len hQ1
      have h1 := st_on h0 hb1
      refine hK.out _ _ (HK.out _ h1) (fun hHeld => ?_)
      clear hK K
      try simp only [Act.put, List.setIfInBounds_toArray, List.set_cons_zero, List.set_cons_succ, List.getElem_toArray, List.getElem_cons_succ, List.getElem_cons_zero]
      refine wpAnyH_ready (rs := [4]) (by kernel_rfl) (by simp) ?_
      refine AllReadyH.cons rfl (fun K hK => ?_) AllReadyH.nil
      go_simp
      refine (same_true (.slice gS S.length cS) (.slice g3 Q1.length c3) S Q1 0 0 _ KS.out hQ1 (st_z (b := bS) h1 (by simp)) (zsAt_mono hz1 (Nat.zero_le _)) (not_not KS.out hQ1 MS.out MN.out hM1)).mono ?_
      rintro e x2 ⟨rfl, hb2⟩
      have h2 := st_on h1 hb2
      refine hK.out _ _ (HK.out _ h2) (fun hHeld => ?_)
      clear hK K
      try simp only [Act.put, List.setIfInBounds_toArray, List.set_cons_zero, List.set_cons_succ, List.getElem_toArray, List.getElem_cons_succ, List.getElem_cons_zero]
      refine wpAnyH_take (i := 5) (v := ?_) rfl (by kernel_rfl) (by kernel_rfl) (by kernel_rfl) (fun _ _ _ h => h) (Or.inl ⟨by rfl, ?_⟩) (by assumption) ?_
      rotate_left
      · intro w hSw
        obtain ⟨_, c0, c1, c2, c3, c4, c5, c6, c7, c8⟩ := hSw
        go_simp
        try rfl
      simp only [Act.put, List.setIfInBounds_toArray, List.set_cons_zero, List.set_cons_succ, List.getElem_toArray, List.getElem_cons_succ, List.getElem_cons_zero]
      refine wpAnyH_take (i := 6) (v := ?_) rfl (by kernel_rfl) (by kernel_rfl) (by kernel_rfl) (fun _ _ _ h => h) (Or.inl ⟨by rfl, ?_⟩) (by assumption) ?_
      rotate_left
      · intro w hSw
        obtain ⟨_, c0, c1, c2, c3, c4, c5, c6, c7, c8⟩ := hSw
        go_simp
        try rfl
      simp only [Act.put, List.setIfInBounds_toArray, List.set_cons_zero, List.set_cons_succ, List.getElem_toArray, List.getElem_cons_succ, List.getElem_cons_zero]
      refine wpAnyH_take (i := 7) (v := ?_) rfl (by kernel_rfl) (by kernel_rfl) (by kernel_rfl) (fun _ _ _ h => h) (Or.inl ⟨by rfl, ?_⟩) (by assumption) ?_
      rotate_left
      · intro w hSw
        obtain ⟨_, c0, c1, c2, c3, c4, c5, c6, c7, c8⟩ := hSw
        go_simp
        try rfl
      simp only [Act.put, List.setIfInBounds_toArray, List.set_cons_zero, List.set_cons_succ, List.getElem_toArray, List.getElem_cons_succ, List.getElem_cons_zero]
      refine wpAnyH_ready (rs := [8]) (by kernel_rfl) (by simp) ?_
      refine AllReadyH.cons rfl (fun K hK => ?_) AllReadyH.nil
      go_simp
      refine (HQ1.out _ h2).mono ?_
      rintro e x3 ⟨rfl, hb3⟩
      have h3 := st_on h2 hb3
      refine hK.out _ _ (HK.out _ h3) (fun hHeld => ?_)
      clear hK K
      try simp only [Act.put, List.setIfInBounds_toArray, List.set_cons_zero, List.set_cons_succ, List.getElem_toArray, List.getElem_cons_succ, List.getElem_cons_zero]
      refine wpAnyH_take (i := 9) (v := ?_) rfl (by kernel_rfl) (by kernel_rfl) (by kernel_rfl) (fun _ _ _ h => h) (Or.inl ⟨by rfl, ?_⟩) (by assumption) ?_
      rotate_left
      · intro w hSw
        obtain ⟨_, c0, c1, c2, c3, c4, c5, c6, c7, c8⟩ := hSw
        go_simp
        try rfl
      simp only [Act.put, List.setIfInBounds_toArray, List.set_cons_zero, List.set_cons_succ, List.getElem_toArray, List.getElem_cons_succ, List.getElem_cons_zero]
      refine wpAnyH_take (i := 10) (v := ?_) rfl (by kernel_rfl) (by kernel_rfl) (by kernel_rfl) (fun _ _ _ h => h) (Or.inl ⟨by rfl, ?_⟩) (by assumption) ?_
      rotate_left
      · intro w hSw
        obtain ⟨_, c0, c1, c2, c3, c4, c5, c6, c7, c8⟩ := hSw
        go_simp
        try rfl
      simp only [Act.put, List.setIfInBounds_toArray, List.set_cons_zero, List.set_cons_succ, List.getElem_toArray, List.getElem_cons_succ, List.getElem_cons_zero]
      refine wpAnyH_take (i := 11) (v := ?_) rfl (by kernel_rfl) (by kernel_rfl) (by kernel_rfl) (fun _ _ _ h => h) (Or.inl ⟨by rfl, ?_⟩) (by assumption) ?_
      rotate_left
      · intro w hSw
        obtain ⟨_, c0, c1, c2, c3, c4, c5, c6, c7, c8⟩ := hSw
        go_simp
        try rfl
      simp only [Act.put, List.setIfInBounds_toArray, List.set_cons_zero, List.set_cons_succ, List.getElem_toArray, List.getElem_cons_succ, List.getElem_cons_zero]
      refine wpAnyH_take (i := 12) (v := ?_) rfl (by kernel_rfl) (by kernel_rfl) (by kernel_rfl) (fun _ _ _ h => h) (Or.inl ⟨by rfl, ?_⟩) (by assumption) ?_
      rotate_left
      · intro w hSw
        obtain ⟨_, c0, c1, c2, c3, c4, c5, c6, c7, c8⟩ := hSw
        go_simp
        try rfl
      simp only [Act.put, List.setIfInBounds_toArray, List.set_cons_zero, List.set_cons_succ, List.getElem_toArray, List.getElem_cons_succ, List.getElem_cons_zero]
      refine wpAnyH_ready (rs := [13]) (by kernel_rfl) (by simp) ?_
      refine AllReadyH.cons rfl (fun K hK => ?_) AllReadyH.nil
      go_simp
      refine (HQ2.out _ h3).mono ?_
      rintro e x4 ⟨rfl, hb4⟩
      have h4 := st_on h3 hb4
      refine hK.out _ _ (HK.out _ h4) (fun hHeld => ?_)
      clear hK K
      try simp only [Act.put, List.setIfInBounds_toArray, List.set_cons_zero, List.set_cons_succ, List.getElem_toArray, List.getElem_cons_succ, List.getElem_cons_zero]
      refine wpAnyH_take (i := 14) (v := ?_) rfl (by kernel_rfl) (by kernel_rfl) (by kernel_rfl) (fun _ _ _ h => h) (Or.inl ⟨by rfl, ?_⟩) (by assumption) ?_
      rotate_left
      · intro w hSw
        obtain ⟨_, c0, c1, c2, c3, c4, c5, c6, c7, c8⟩ := hSw
        go_simp
        try rfl
      simp only [Act.put, List.setIfInBounds_toArray, List.set_cons_zero, List.set_cons_succ, List.getElem_toArray, List.getElem_cons_succ, List.getElem_cons_zero]
      refine wpAnyH_take (i := 15) (v := ?_) rfl (by kernel_rfl) (by kernel_rfl) (by kernel_rfl) (fun _ _ _ h => h) (Or.inl ⟨by rfl, ?_⟩) (by assumption) ?_
      rotate_left
      · intro w hSw
        obtain ⟨_, c0, c1, c2, c3, c4, c5, c6, c7, c8⟩ := hSw
        go_simp
        try rfl
      simp only [Act.put, List.setIfInBounds_toArray, List.set_cons_zero, List.set_cons_succ, List.getElem_toArray, List.getElem_cons_succ, List.getElem_cons_zero]
      refine wpAnyH_take (i := 16) (v := ?_) rfl (by kernel_rfl) (by kernel_rfl) (by kernel_rfl) (fun _ _ _ h => h) (Or.inl ⟨by rfl, ?_⟩) (by assumption) ?_
      rotate_left
      · intro w hSw
        obtain ⟨_, c0, c1, c2, c3, c4, c5, c6, c7, c8⟩ := hSw
        go_simp
        try rfl
      simp only [Act.put, List.setIfInBounds_toArray, List.set_cons_zero, List.set_cons_succ, List.getElem_toArray, List.getElem_cons_succ, List.getElem_cons_zero]
      refine wpAnyH_take (i := 17) (v := ?_) rfl (by kernel_rfl) (by kernel_rfl) (by kernel_rfl) (fun _ _ _ h => h) (Or.inl ⟨by rfl, ?_⟩) (by assumption) ?_
      rotate_left
      · intro w hSw
        obtain ⟨_, c0, c1, c2, c3, c4, c5, c6, c7, c8⟩ := hSw
        go_simp
        try rfl
      simp only [Act.put, List.setIfInBounds_toArray, List.set_cons_zero, List.set_cons_succ, List.getElem_toArray, List.getElem_cons_succ, List.getElem_cons_zero]
      refine wpAnyH_take (i := 18) (v := ?_) rfl (by kernel_rfl) (by kernel_rfl) (by kernel_rfl) (fun _ _ _ h => h) (Or.inl ⟨by rfl, ?_⟩) (by assumption) ?_
      rotate_left
      · intro w hSw
        obtain ⟨_, c0, c1, c2, c3, c4, c5, c6, c7, c8⟩ := hSw
        go_simp
        try rfl
      simp only [Act.put, List.setIfInBounds_toArray, List.set_cons_zero, List.set_cons_succ, List.getElem_toArray, List.getElem_cons_succ, List.getElem_cons_zero]
      refine wpAnyH_ready (rs := [19]) (by kernel_rfl) (by simp) ?_
      refine AllReadyH.cons rfl (fun K hK => ?_) AllReadyH.nil
      go_simp
      refine (caseless_any (.slice gC C.length cC) C 0 u _ KC.out (st_z (b := bC) h4 (by simp)) (below_tab h4.1 HT0.out)).mono ?_
      rintro e x5 ⟨v4, Q2, rfl, hQ2, hM2, hz2, hb5⟩
      obtain ⟨g4, c4, rfl⟩ := zsAt_len hz2
      have lq2 := canon_len hQ2
      have h5 := st_on h4 hb5
      refine hK.out _ _ (HK.out _ h5) (fun hHeld => ?_)
      clear hK K
      try simp only [Act.put, List.setIfInBounds_toArray, List.set_cons_zero, List.set_cons_succ, List.getElem_toArray, List.getElem_cons_succ, List.getElem_cons_zero]
      refine wpAnyH_ready (rs := [20]) (by kernel_rfl) (by simp) ?_
      refine AllReadyH.cons rfl (fun K hK => ?_) AllReadyH.nil
      go_simp
      refine (same_true (.slice gC C.length cC) (.slice g4 Q2.length c4) C Q2 0 0 _ KC.out hQ2 (st_z (b := bC) h5 (by simp)) (zsAt_mono hz2 (Nat.zero_le _)) (cases_again KC.out hQ2 MC.out hM2)).mono ?_
      rintro e x6 ⟨rfl, hb6⟩
      have h6 := st_on h5 hb6
      refine hK.out _ _ (HK.out _ h6) (fun hHeld => ?_)
      clear hK K
      try simp only [Act.put, List.setIfInBounds_toArray, List.set_cons_zero, List.set_cons_succ, List.getElem_toArray, List.getElem_cons_succ, List.getElem_cons_zero]
      refine wpAnyH_take (i := 21) (v := ?_) rfl (by kernel_rfl) (by kernel_rfl) (by kernel_rfl) (fun _ _ _ h => h) (Or.inl ⟨by rfl, ?_⟩) (by assumption) ?_
      rotate_left
      · intro w hSw
        obtain ⟨_, c0, c1, c2, c3, c4, c5, c6, c7, c8⟩ := hSw
        go_simp
        try rfl
      simp only [Act.put, List.setIfInBounds_toArray, List.set_cons_zero, List.set_cons_succ, List.getElem_toArray, List.getElem_cons_succ, List.getElem_cons_zero]
      refine wpAnyH_take (i := 22) (v := ?_) rfl (by kernel_rfl) (by kernel_rfl) (by kernel_rfl) (fun _ _ _ h => h) (Or.inl ⟨by rfl, ?_⟩) (by assumption) ?_
      rotate_left
      · intro w hSw
        obtain ⟨_, c0, c1, c2, c3, c4, c5, c6, c7, c8⟩ := hSw
        go_simp
        try rfl
      simp only [Act.put, List.setIfInBounds_toArray, List.set_cons_zero, List.set_cons_succ, List.getElem_toArray, List.getElem_cons_succ, List.getElem_cons_zero]
      refine wpAnyH_take (i := 23) (v := ?_) rfl (by kernel_rfl) (by kernel_rfl) (by kernel_rfl) (fun _ _ _ h => h) (Or.inl ⟨by rfl, ?_⟩) (by assumption) ?_
      rotate_left
      · intro w hSw
        obtain ⟨_, c0, c1, c2, c3, c4, c5, c6, c7, c8⟩ := hSw
        go_simp
        try rfl
      simp only [Act.put, List.setIfInBounds_toArray, List.set_cons_zero, List.set_cons_succ, List.getElem_toArray, List.getElem_cons_succ, List.getElem_cons_zero]
      refine wpAnyH_ready (rs := [24]) (by kernel_rfl) (by simp) ?_
      refine AllReadyH.cons rfl (fun K hK => ?_) AllReadyH.nil
      go_simp
      refine (HQ4.out _ h6).mono ?_
      rintro e x7 ⟨rfl, hb7⟩
      have h7 := st_on h6 hb7
      refine hK.out _ _ (HK.out _ h7) (fun hHeld => ?_)
      clear hK K
      try simp only [Act.put, List.setIfInBounds_toArray, List.set_cons_zero, List.set_cons_succ, List.getElem_toArray, List.getElem_cons_succ, List.getElem_cons_zero]
      refine wpAnyH_take (i := 25) (v := ?_) rfl (by kernel_rfl) (by kernel_rfl) (by kernel_rfl) (fun _ _ _ h => h) (Or.inl ⟨by rfl, ?_⟩) (by assumption) ?_
      rotate_left
      · intro w hSw
        obtain ⟨_, c0, c1, c2, c3, c4, c5, c6, c7, c8⟩ := hSw
        go_simp
        try rfl
      simp only [Act.put, List.setIfInBounds_toArray, List.set_cons_zero, List.set_cons_succ, List.getElem_toArray, List.getElem_cons_succ, List.getElem_cons_zero]
      refine wpAnyH_take (i := 26) (v := ?_) rfl (by kernel_rfl) (by kernel_rfl) (by kernel_rfl) (fun _ _ _ h => h) (Or.inl ⟨by rfl, ?_⟩) (by assumption) ?_
      rotate_left
      · intro w hSw
        obtain ⟨_, c0, c1, c2, c3, c4, c5, c6, c7, c8⟩ := hSw
        go_simp
        try rfl
      simp only [Act.put, List.setIfInBounds_toArray, List.set_cons_zero, List.set_cons_succ, List.getElem_toArray, List.getElem_cons_succ, List.getElem_cons_zero]
      refine wpAnyH_take (i := 27) (v := ?_) rfl (by kernel_rfl) (by kernel_rfl) (by kernel_rfl) (fun _ _ _ h => h) (Or.inl ⟨by rfl, ?_⟩) (by assumption) ?_
      rotate_left
      · intro w hSw
        obtain ⟨_, c0, c1, c2, c3, c4, c5, c6, c7, c8⟩ := hSw
        go_simp
        try rfl
      simp only [Act.put, List.setIfInBounds_toArray, List.set_cons_zero, List.set_cons_succ, List.getElem_toArray, List.getElem_cons_succ, List.getElem_cons_zero]
      refine wpAnyH_take (i := 28) (v := ?_) rfl (by kernel_rfl) (by kernel_rfl) (by kernel_rfl) (fun _ _ _ h => h) (Or.inl ⟨by rfl, ?_⟩) (by assumption) ?_
      rotate_left
      · intro w hSw
        obtain ⟨_, c0, c1, c2, c3, c4, c5, c6, c7, c8⟩ := hSw
        go_simp
        try rfl
      simp only [Act.put, List.setIfInBounds_toArray, List.set_cons_zero, List.set_cons_succ, List.getElem_toArray, List.getElem_cons_succ, List.getElem_cons_zero]
      refine wpAnyH_take (i := 29) (v := ?_) rfl (by kernel_rfl) (by kernel_rfl) (by kernel_rfl) (fun _ _ _ h => h) (Or.inl ⟨by rfl, ?_⟩) (by assumption) ?_
      rotate_left
      · intro w hSw
        obtain ⟨_, c0, c1, c2, c3, c4, c5, c6, c7, c8⟩ := hSw
        go_simp
        try rfl
      simp only [Act.put, List.setIfInBounds_toArray, List.set_cons_zero, List.set_cons_succ, List.getElem_toArray, List.getElem_cons_succ, List.getElem_cons_zero]
      refine wpAnyH_ready (rs := [30]) (by kernel_rfl) (by simp) ?_
      refine AllReadyH.cons rfl (fun K hK => ?_) AllReadyH.nil
      go_simp
      refine (HQ3.out _ h7).mono ?_
      rintro e x8 ⟨rfl, hb8⟩
      have h8 := st_on h7 hb8
      refine hK.out _ _ (HK.out _ h8) (fun hHeld => ?_)
      clear hK K
      try simp only [Act.put, List.setIfInBounds_toArray, List.set_cons_zero, List.set_cons_succ, List.getElem_toArray, List.getElem_cons_succ, List.getElem_cons_zero]
      refine wpAnyH_take (i := 31) (v := ?_) rfl (by kernel_rfl) (by kernel_rfl) (by kernel_rfl) (fun _ _ _ h => h) (Or.inl ⟨by rfl, ?_⟩) (by assumption) ?_
      rotate_left
      · intro w hSw
        obtain ⟨_, c0, c1, c2, c3, c4, c5, c6, c7, c8⟩ := hSw
        go_simp
        try rfl
      simp only [Act.put, List.setIfInBounds_toArray, List.set_cons_zero, List.set_cons_succ, List.getElem_toArray, List.getElem_cons_succ, List.getElem_cons_zero]
      refine wpAnyH_take (i := 32) (v := ?_) rfl (by kernel_rfl) (by kernel_rfl) (by kernel_rfl) (fun _ _ _ h => h) (Or.inl ⟨by rfl, ?_⟩) (by assumption) ?_
      rotate_left
      · intro w hSw
        obtain ⟨_, c0, c1, c2, c3, c4, c5, c6, c7, c8⟩ := hSw
        go_simp
        try rfl
      simp only [Act.put, List.setIfInBounds_toArray, List.set_cons_zero, List.set_cons_succ, List.getElem_toArray, List.getElem_cons_succ, List.getElem_cons_zero]
      refine wpAnyH_done (by kernel_rfl) ?_ _
      go_wp2_with fail
      go_ret
      exact ⟨rfl, h8.1⟩
end Go.Proofs.YtemdleocdllmfaaDoor.setw
