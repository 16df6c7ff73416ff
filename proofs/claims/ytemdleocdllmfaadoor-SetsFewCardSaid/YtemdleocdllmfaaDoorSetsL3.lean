/- The walk of the law SetsParts. -/
import Derived.Test.YtemdleocdllmfaaDoorSetsL1
import Derived.Deep.RegionHeld3
import Derived.Deep.DeepCutAuto
namespace Go.Proofs.YtemdleocdllmfaaDoor.setw
open Go Go.RowKit Go.Shelf Go.Proofs.YtemdleocdllmfaaDoor.bulk Go.Proofs.YtemdleocdllmfaaDoor.ucdp Go.Proofs.YtemdleocdllmfaaDoor.ucdw Go.Proofs.YtemdleocdllmfaaDoor.setp Go.Proofs.YtemdleocdllmfaaDoor.flt Go.Proofs.YtemdleocdllmfaaDoor.setl

/-- sets in variables of their own, in a world in which nothing of what was there has turned -/
def ST (w : World) (L : List (Nat × Value × List Rg)) (wi : World) : Prop := Below w.heap.size w wi ∧ ∀ x ∈ L, SC x.2.2 x.1 x.2.1 wi
theorem st_on {w wi wj : World} {L : List (Nat × Value × List Rg)} (h : ST w L wi) (hb : Below wi.heap.size wi wj) : ST w L wj := ⟨below_trans h.1 hb, fun x hx => sc_on (h.2 x hx) hb⟩
theorem st_nil {w wi : World} (h : Below w.heap.size w wi) : ST w [] wi := ⟨h, fun x hx => by cases hx⟩
theorem st_push {w wi wj : World} {L : List (Nat × Value × List Rg)} {base : Nat} {v : Value} {S : List Rg} (h : ST w L wi) (hb : Below wi.heap.size wi wj) (hz : ZsAt base wj v S) (T : TypeId) : ST w ((wj.heap.size, v, S) :: L) (wj.alloc (.cells #[v] T)) := by
  refine ⟨below_trans (below_trans h.1 hb) (below_alloc _ _), fun x hx => ?_⟩
  rcases List.mem_cons.1 hx with rfl | hx
  · exact sc_new hz T
  · exact sc_on (sc_on (h.2 x hx) hb) (below_alloc _ _)
theorem st_cell {w wi : World} {L : List (Nat × Value × List Rg)} {b : Nat} {v : Value} {S : List Rg} (h : ST w L wi) (hx : (b, v, S) ∈ L) : wi.cell? ⟨b, 0, none⟩ = some v := (h.2 _ hx).1
theorem st_z {w wi : World} {L : List (Nat × Value × List Rg)} {b : Nat} {v : Value} {S : List Rg} (h : ST w L wi) (hx : (b, v, S) ∈ L) : ZsAt 0 wi v S := (h.2 _ hx).2

/-- how many of the first n numbers are such -/
def card (p : Int → Bool) : Nat → Int
  | 0 => 0
  | n + 1 => card p n + if p (n : Int) = true then 1 else 0
theorem card_congr {p q : Int → Bool} (h : ∀ x, p x = q x) (n : Nat) : card p n = card q n := by
  induction n with
  | zero => rfl
  | succ n ih => simp only [card, ih, h]
theorem card_disj {p q r : Int → Bool} (n : Nat) (h : ∀ x, r x = (p x || q x)) (hd : ∀ x, (p x && q x) = false) : card r n = card p n + card q n := by
  induction n with
  | zero => rfl
  | succ n ih =>
    have h1 := h n
    have h2 := hd n
    simp only [card, ih, h1]
    cases hp : p n <;> cases hq : q n <;> simp_all <;> omega
theorem card_none (n : Nat) : card (fun _ => false) n = 0 := by
  induction n with
  | zero => rfl
  | succ n ih => simp [card, ih]
theorem card_range {a b : Int} (h0 : 0 ≤ a) (n : Nat) : card (fun x => decide (a ≤ x) && decide (x ≤ b)) n = max 0 (min (b + 1) n - a) := by
  induction n with
  | zero => simp only [card]; omega
  | succ n ih =>
    simp only [card, ih, Bool.and_eq_true, decide_eq_true_eq]
    split <;> omega
theorem tot_card {S : List Rg} (h : Canon S) : tot S = card (hasB S) 1114112 := by
  induction S with
  | nil => exact (card_none _).symm
  | cons r S ih =>
    have hr := h.2 r (List.mem_cons_self ..)
    have e := card_disj (p := fun x => decide (r.1 ≤ x) && decide (x ≤ r.2)) (q := hasB S) (r := hasB (r :: S)) 1114112 (fun x => rfl) (fun x => by
      rw [Bool.and_eq_false_iff]
      rcases Classical.em (Has S x) with a | a
      · left
        have := canon_head h a
        simp
        omega
      · right
        rw [Bool.eq_false_iff]
        exact fun b => a (hasB_iff.1 b))
    rw [e, card_range hr.1, ← ih (canon_tail h)]
    simp only [tot]
    omega
/-- plainly: two parts of a set -/
theorem tot_disj {A B C : List Rg} (hA : Canon A) (hB : Canon B) (hC : Canon C) (h : ∀ x, Has C x ↔ Has A x ∨ Has B x) (hd : ∀ x, ¬ (Has A x ∧ Has B x)) : tot C = tot A + tot B := by
  rw [tot_card hA, tot_card hB, tot_card hC]
  exact card_disj _ (fun x => by rw [Bool.eq_iff_iff, Bool.or_eq_true, hasB_iff, hasB_iff, hasB_iff]; exact h x) (fun x => by
    rw [Bool.and_eq_false_iff]
    rcases Classical.em (Has A x) with a | a
    · right
      rw [Bool.eq_false_iff]
      exact fun b => hd x ⟨a, hasB_iff.1 b⟩
    · left
      rw [Bool.eq_false_iff]
      exact fun b => a (hasB_iff.1 b))
theorem parts_pure {S T B O U M V : List Rg} (hS : Canon S) (hT : Canon T) (hB : Canon B) (hO : Canon O) (hU : Canon U) (hM : Canon M) (hV : Canon V) (hb : ∀ x, Has B x ↔ Has S x ∧ Has T x) (ho : ∀ x, Has O x ↔ Has S x ∧ 0 ≤ x ∧ x ≤ min 1114111 1114111 ∧ ¬ Has T x)
    (hu : ∀ x, Has U x ↔ Has B x ∨ Has O x) (hm : ∀ x, Has M x ↔ Has B x ∧ Has O x) (hv : ∀ x, Has V x ↔ Has S x ∨ Has T x) : U = S ∧ tot M = 0 ∧ tot B + tot O = tot S ∧ tot V + tot B = tot S + tot T := by
  have e1 : ∀ x, Has S x ↔ Has B x ∨ Has O x := fun x => by
    rw [hb, ho]
    constructor
    · intro a
      have := has_bd hS.2 a
      rcases Classical.em (Has T x) with c | c
      · exact Or.inl ⟨a, c⟩
      · exact Or.inr ⟨a, by omega, by omega, c⟩
    · rintro (a | a)
      · exact a.1
      · exact a.1
  have e2 : ∀ x, ¬ (Has B x ∧ Has O x) := fun x => by
    rw [hb, ho]
    exact fun a => a.2.2.2.2 a.1.2
  have e3 := tot_disj hB hO hS e1 e2
  have e4 := tot_disj hT hO hV (fun x => by
    rw [hv, ho]
    constructor
    · rintro (a | a)
      · have := has_bd hS.2 a
        rcases Classical.em (Has T x) with c | c
        · exact Or.inl c
        · exact Or.inr ⟨a, by omega, by omega, c⟩
      · exact Or.inl a
    · rintro (a | a)
      · exact Or.inr a
      · exact Or.inl a.1) (fun x => by rw [ho]; exact fun a => a.2.2.2.2 a.1)
  refine ⟨canon_ext hU hS fun x => (hu x).trans (e1 x).symm, ?_, by omega, by omega⟩
  have : M = [] := canon_ext hM canon_nil fun x => by
    rw [hm]
    exact ⟨fun a => absurd a (e2 x), fun a => absurd a (has_nil _)⟩
  rw [this]
  rfl

/-- a set is stored into a variable that was laid before the set was reckoned -/
theorem st_late2 {w w0 wj : World} {L : List (Nat × Value × List Rg)} {base b : Nat} {v v0 : Value} {S : List Rg} (h : ST w L w0) (hb : Below w0.heap.size w0 wj) (kc : wj.cell? ⟨b, 0, none⟩ = some v0) (hz : ZsAt base wj v S) (hlt : b < base) (hle : w0.heap.size ≤ b := by omega) : ST w ((b, v, S) :: L) (wj.setCell ⟨b, 0, none⟩ v) := by
  have h2 := st_on h (hb.setCell (p := ⟨b, 0, none⟩) hle v)
  refine ⟨h2.1, fun x hx => ?_⟩
  rcases List.mem_cons.1 hx with rfl | hx
  · exact ⟨World.cell?_setCell_same _ _ _ kc, zsAt_mono (zsAt_set hz hlt _) (Nat.zero_le _)⟩
  · exact h2.2 x hx

set_option maxRecDepth 100000 in
set_option maxHeartbeats 4000000 in
theorem parts_law (v1 v2 : Value) (l1 l2 : List Rg) (w : World) (hv1 : RsAt w v1 l1) (hv2 : RsAt w v2 l2) (hT : Tab3 w) :
    Calls Tryd.prog 9 #[v1, v2] w (BoolB true w) := by
  have H0 := Lib.hid (awake_any w hT)
  have HV1 := Lib.hid hv1
  have HV2 := Lib.hid hv2
  obtain ⟨a1, q1, rfl⟩ := rsAt_len hv1
  obtain ⟨a2, q2, rfl⟩ := rsAt_len hv2
  clear hv1 hv2 hT
  by_cases hbig : (100 : Int) < l1.length
  · go_enter Tryd.func9, Tryd.ntmps9
    go_wp2_with fail
    refine H0.out.mono ?_
    rintro e w1 ⟨rfl, hb1⟩
    go_wp2_with fail
    go_ret
    exact ⟨rfl, hb1⟩
  by_cases hbig2 : (100 : Int) < l2.length
  · go_enter Tryd.func9, Tryd.ntmps9
    go_wp2_with fail
    refine H0.out.mono ?_
    rintro e w1 ⟨rfl, hb1⟩
    go_wp2_with fail
    go_ret
    exact ⟨rfl, hb1⟩
  go_enter Tryd.func9, Tryd.ntmps9
  go_wp2_with fail
  refine H0.out.mono ?_
  rintro e w1 ⟨rfl, hb1⟩
  have HB1 := Lib.hid hb1
  clear hb1
  go_wp2_with fail
  refine (new_any _ l1 1114111 w1 (rsAt_below HV1.out HB1.out) (by omega) (by decide) (by decide)).mono ?_
  rintro e w2 ⟨v3, S, rfl, hS, hh, hz, hb2⟩
  obtain ⟨gs, cs, rfl⟩ := zsAt_len hz
  have hls := canon_len hS
  have HST := Lib.hid (st_push (st_nil HB1.out) hb2 hz 27)
  have HS := Lib.hid hS
  clear hS hh hz hb2
  go_wp2_with fail
  generalize hbs : w2.heap.size = bs at *
  generalize w2.alloc _ = w3 at *
  refine (new_any _ l2 1114111 w3 (rsAt_below HV2.out HST.out.1) (by omega) (by decide) (by decide)).mono ?_
  rintro e w4 ⟨v4, T, rfl, hT, hh, hz, hb2⟩
  obtain ⟨gt, ct, rfl⟩ := zsAt_len hz
  have hlt := canon_len hT
  have HST4 := Lib.hid (st_push HST.out hb2 hz 27)
  have HT := Lib.hid hT
  have d1 := st_cell (b := bs) (v := .slice gs S.length cs) (S := S) HST4.out (by simp)
  clear hT hh hz hb2 HST hbs
  go_wp2_with fail
  clear d1
  generalize hbt : w4.heap.size = bt at *
  generalize w4.alloc _ = w5 at *
  have d1 := st_cell (b := bs) (v := .slice gs S.length cs) (S := S) HST4.out (by simp)
  have d2 := st_cell (b := bt) (v := .slice gt T.length ct) (S := T) HST4.out (by simp)
  refine (meet_any (.slice gs S.length cs) (.slice gt T.length ct) S T 0 0 w5 HS.out HT.out (st_z (b := bs) HST4.out (by simp)) (st_z (b := bt) HST4.out (by simp))).mono ?_
  rintro e w6 ⟨v6, B, rfl, hB, hhB, hz, hb2⟩
  obtain ⟨gb, cb, rfl⟩ := zsAt_len hz
  have hlb := canon_len hB
  have HST6 := Lib.hid (st_push HST4.out hb2 hz 27)
  have HBc := Lib.hid hB
  have HBh := Lib.hid hhB
  clear hB hhB hz hb2 HST4 d1 d2 hbt
  go_upto_region 9 with (fail)
  generalize hbb : w6.heap.size = bb at *
  generalize w6.alloc _ = w7 at *
  go_cut [9] (fun v w' => ∃ (b : Nat) (p : Option Addr) (q : Nat) (O : List Rg), v = .pointer (some ⟨b, 0, none⟩) ∧ Canon O ∧ (∀ c, Has O c ↔ Has S c ∧ 0 ≤ c ∧ c ≤ min 1114111 1114111 ∧ ¬ Has T c) ∧ ST w [(b, .slice p O.length q, O), (bb, .slice gb B.length cb, B), (bt, .slice gt T.length ct, T), (bs, .slice gs S.length cs, S)] w')
  case first =>
    have hst := HST6.out
    have k1 := st_cell (b := bs) (v := .slice gs S.length cs) (S := S) hst (by simp)
    have k2 := st_cell (b := bt) (v := .slice gt T.length ct) (S := T) hst (by simp)
    have HK : Hid (∀ wi, Below w7.heap.size w7 wi → (Below w7.heap.size w7 wi ∧ wi.cell? ⟨bs, 0, none⟩ = some (.slice gs S.length cs) ∧ wi.cell? ⟨bt, 0, none⟩ = some (.slice gt T.length ct))) := fun wi h => ⟨h, below_cell h k1, below_cell h k2⟩
    have HS1 : Hid (∀ wi, Below w7.heap.size w7 wi → ZsAt 0 wi (.slice gs S.length cs) S) := fun wi h => st_z (b := bs) (st_on hst h) (by simp)
    have HS2 : Hid (∀ wi, Below w7.heap.size w7 wi → ZsAt 0 wi (.slice gt T.length ct) T) := fun wi h => st_z (b := bt) (st_on hst h) (by simp)
    clear k1 k2
    refine wp_region_held_drew (S := fun w' => Below w7.heap.size w7 w' ∧ w'.cell? ⟨bs, 0, none⟩ = some (.slice gs S.length cs) ∧ w'.cell? ⟨bt, 0, none⟩ = some (.slice gt T.length ct)) (by kernel_rfl) (HK.out _ (below_drew _)) (fun hHeld => ?_)
    refine wpAnyH_take (i := 0) (v := ?_) rfl (by kernel_rfl) (by kernel_rfl) (by kernel_rfl) (fun _ _ _ h => h) (Or.inl ⟨by rfl, ?_⟩) (by assumption) ?_
    rotate_left
    · intro w hSw
      obtain ⟨_, hSw1, hSw2⟩ := hSw
      go_simp
      try rfl
    simp only [Act.put, List.setIfInBounds_toArray, List.set_cons_zero, List.set_cons_succ, List.getElem_toArray, List.getElem_cons_zero]
    refine wpAnyH_take (i := 1) (v := ?_) rfl (by kernel_rfl) (by kernel_rfl) (by kernel_rfl) (fun _ _ _ h => h) (Or.inl ⟨by rfl, ?_⟩) (by assumption) ?_
    rotate_left
    · intro w hSw
      obtain ⟨_, hSw1, hSw2⟩ := hSw
      go_simp
      try rfl
    simp only [Act.put, List.setIfInBounds_toArray, List.set_cons_zero, List.set_cons_succ, List.getElem_toArray, List.getElem_cons_succ, List.getElem_cons_zero]
    refine wpAnyH_ready (rs := [2, 4]) (by kernel_rfl) (by simp) ?_
    refine AllReadyH.cons rfl (fun K hK => ?_) (AllReadyH.cons rfl (fun K hK => ?_) AllReadyH.nil)
    · go_simp
      refine (not_any (.slice gt T.length ct) T 0 1114111 _ HT.out (HS2.out _ (below_drew _)) (by decide) (by decide)).mono ?_
      rintro e wn ⟨vn, N, rfl, hN, hhN, hzN, hbN⟩
      obtain ⟨gn, cn, rfl⟩ := zsAt_len hzN
      have hln := canon_len hN
      have hz0 := zsAt_mono hzN (Nat.zero_le _)
      have hn7 : Below w7.heap.size w7 wn := (below_drew _).trans (hbN.mono (below_drew _).size)
      refine hK.out _ _ (HK.out _ hn7) (fun hHeld => ?_)
      clear hK K
      try simp only [Act.put, List.setIfInBounds_toArray, List.set_cons_zero, List.set_cons_succ, List.getElem_toArray, List.getElem_cons_succ, List.getElem_cons_zero]
      refine wpAnyH_ready (rs := [3, 4]) (by kernel_rfl) (by simp) ?_
      refine AllReadyH.cons rfl (fun K hK => ?_) (AllReadyH.cons rfl (fun K hK => ?_) AllReadyH.nil)
      · go_simp
        refine (meet_any (.slice gs S.length cs) (.slice gn N.length cn) S N 0 0 _ HS.out hN (HS1.out _ (hn7)) hz0).mono ?_
        rintro e wm ⟨vm, O, rfl, hO, hhO, hzO, hbO⟩
        obtain ⟨po, qo, rfl⟩ := zsAt_len hzO
        have hlo := canon_len hO
        have hm7 : Below w7.heap.size w7 wm := (hn7).trans (hbO.mono (hn7).size)
        refine hK.out _ _ (HK.out _ hm7) (fun hHeld => ?_)
        clear hK K
        try simp only [Act.put, List.setIfInBounds_toArray, List.set_cons_zero, List.set_cons_succ, List.getElem_toArray, List.getElem_cons_succ, List.getElem_cons_zero]
        refine wpAnyH_ready (rs := [4]) (by kernel_rfl) (by simp) ?_
        refine AllReadyH.cons rfl (fun K hK => ?_) AllReadyH.nil
        go_simp
        refine hK.out _ _ (HK.out _ (Below.alloc hm7 hm7.size _)) (fun hHeld => ?_)
        clear hK K
        try simp only [Act.put, List.setIfInBounds_toArray, List.set_cons_zero, List.set_cons_succ, List.getElem_toArray, List.getElem_cons_succ, List.getElem_cons_zero]
        refine wpAnyH_ready (rs := [5]) (by kernel_rfl) (by simp) ?_
        refine AllReadyH.cons rfl (fun K hK => ?_) AllReadyH.nil
        go_simp
        refine hK.out _ _ (HK.out _ (Below.alloc hm7 hm7.size _)) (fun hHeld => ?_)
        clear hK K
        try simp only [Act.put, List.setIfInBounds_toArray, List.set_cons_zero, List.set_cons_succ, List.getElem_toArray, List.getElem_cons_succ, List.getElem_cons_zero]
        refine wpAnyH_done (by kernel_rfl) ?_ _
        go_wp2_with fail
        go_meet
        exact ⟨wm.heap.size, po, qo, O, rfl, hO, fun c => (hhO c).trans (and_congr Iff.rfl (hhN c)), st_push hst hm7 hzO _⟩
      · go_simp
        refine hK.out _ _ (HK.out _ (Below.alloc hn7 hn7.size _)) (fun hHeld => ?_)
        clear hK K
        try simp only [Act.put, List.setIfInBounds_toArray, List.set_cons_zero, List.set_cons_succ, List.getElem_toArray, List.getElem_cons_succ, List.getElem_cons_zero]
        refine wpAnyH_ready (rs := [3]) (by kernel_rfl) (by simp) ?_
        refine AllReadyH.cons rfl (fun K hK => ?_) AllReadyH.nil
        have hb0 := below_alloc wn (.cells #[.slice none 0 0] 27)
        go_simp
        refine (meet_any (.slice gs S.length cs) (.slice gn N.length cn) S N 0 0 _ HS.out hN (HS1.out _ (below_trans hn7 hb0)) (zsAt_below hz0 hb0)).mono ?_
        rintro e wm ⟨vm, O, rfl, hO, hhO, hzO, hbO⟩
        obtain ⟨po, qo, rfl⟩ := zsAt_len hzO
        have hlo := canon_len hO
        have hm7 : Below w7.heap.size w7 wm := (below_trans hn7 hb0).trans (hbO.mono (below_trans hn7 hb0).size)
        refine hK.out _ _ (HK.out _ hm7) (fun hHeld => ?_)
        clear hK K
        try simp only [Act.put, List.setIfInBounds_toArray, List.set_cons_zero, List.set_cons_succ, List.getElem_toArray, List.getElem_cons_succ, List.getElem_cons_zero]
        obtain ⟨kc, fc⟩ := keeps hbO (cell_new wn (.slice none 0 0) 27).2.2.1 (cell_new wn _ _).1 (cell_new wn _ _).2.1
        refine wpAnyH_ready (rs := [5]) (by kernel_rfl) (by simp) ?_
        refine AllReadyH.cons rfl (fun K hK => ?_) AllReadyH.nil
        go_simp
        refine hK.out _ _ (HK.out _ (Below.setCell hm7 hn7.size _)) (fun hHeld => ?_)
        clear hK K
        try simp only [Act.put, List.setIfInBounds_toArray, List.set_cons_zero, List.set_cons_succ, List.getElem_toArray, List.getElem_cons_succ, List.getElem_cons_zero]
        refine wpAnyH_done (by kernel_rfl) ?_ _
        go_wp2_with fail
        go_meet
        exact ⟨wn.heap.size, po, qo, O, rfl, hO, fun c => (hhO c).trans (and_congr Iff.rfl (hhN c)), st_late2 hst hm7 kc hzO (by simp) hn7.size⟩
    · go_simp
      refine hK.out _ _ (HK.out _ (Below.alloc (below_drew _) (Nat.le_refl _) _)) (fun hHeld => ?_)
      clear hK K
      try simp only [Act.put, List.setIfInBounds_toArray, List.set_cons_zero, List.set_cons_succ, List.getElem_toArray, List.getElem_cons_succ, List.getElem_cons_zero]
      refine wpAnyH_ready (rs := [2]) (by kernel_rfl) (by simp) ?_
      refine AllReadyH.cons rfl (fun K hK => ?_) AllReadyH.nil
      have hb0 : Below w7.heap.size w7 (w7.drew.alloc (.cells #[.slice none 0 0] 27)) := Below.alloc (below_drew _) (Nat.le_refl _) _
      go_simp
      refine (not_any (.slice gt T.length ct) T 0 1114111 _ HT.out (HS2.out _ (hb0)) (by decide) (by decide)).mono ?_
      rintro e wn ⟨vn, N, rfl, hN, hhN, hzN, hbN⟩
      obtain ⟨gn, cn, rfl⟩ := zsAt_len hzN
      have hln := canon_len hN
      have hz0 := zsAt_mono hzN (Nat.zero_le _)
      have hn7 : Below w7.heap.size w7 wn := (hb0).trans (hbN.mono (hb0).size)
      refine hK.out _ _ (HK.out _ hn7) (fun hHeld => ?_)
      clear hK K
      try simp only [Act.put, List.setIfInBounds_toArray, List.set_cons_zero, List.set_cons_succ, List.getElem_toArray, List.getElem_cons_succ, List.getElem_cons_zero]
      obtain ⟨kc, fc⟩ : wn.cell? ⟨w7.heap.size, 0, none⟩ = some (.slice none 0 0) ∧ wn.frozen? ⟨w7.heap.size, 0, none⟩ = false := keeps hbN (cell_new w7.drew (.slice none 0 0) 27).2.2.1 (cell_new w7.drew _ _).1 (cell_new w7.drew _ _).2.1
      refine wpAnyH_ready (rs := [3]) (by kernel_rfl) (by simp) ?_
      refine AllReadyH.cons rfl (fun K hK => ?_) AllReadyH.nil
      go_simp
      refine (meet_any (.slice gs S.length cs) (.slice gn N.length cn) S N 0 0 _ HS.out hN (HS1.out _ (hn7)) hz0).mono ?_
      rintro e wm ⟨vm, O, rfl, hO, hhO, hzO, hbO⟩
      obtain ⟨po, qo, rfl⟩ := zsAt_len hzO
      have hlo := canon_len hO
      have hm7 : Below w7.heap.size w7 wm := (hn7).trans (hbO.mono (hn7).size)
      refine hK.out _ _ (HK.out _ hm7) (fun hHeld => ?_)
      clear hK K
      try simp only [Act.put, List.setIfInBounds_toArray, List.set_cons_zero, List.set_cons_succ, List.getElem_toArray, List.getElem_cons_succ, List.getElem_cons_zero]
      obtain ⟨kd, fd⟩ := keeps hbO (cell_lt kc) kc fc
      refine wpAnyH_ready (rs := [5]) (by kernel_rfl) (by simp) ?_
      refine AllReadyH.cons rfl (fun K hK => ?_) AllReadyH.nil
      go_simp
      refine hK.out _ _ (HK.out _ (Below.setCell hm7 (p := ⟨w7.heap.size, 0, none⟩) (Nat.le_refl _) _)) (fun hHeld => ?_)
      clear hK K
      try simp only [Act.put, List.setIfInBounds_toArray, List.set_cons_zero, List.set_cons_succ, List.getElem_toArray, List.getElem_cons_succ, List.getElem_cons_zero]
      refine wpAnyH_done (by kernel_rfl) ?_ _
      go_wp2_with fail
      go_meet
      exact ⟨w7.heap.size, po, qo, O, rfl, hO, fun c => (hhO c).trans (and_congr Iff.rfl (hhN c)), st_late2 hst hm7 kd hzO (cell_lt kc) (Nat.le_refl _)⟩
  case rest =>
    obtain ⟨bo, po, qo, O, rfl, hO, hhO, hst⟩ := hcut
    have HO := Lib.hid hO
    have HOh := Lib.hid hhO
    have HL := Lib.hid hst
    have d1 := st_cell (b := bo) (v := .slice po O.length qo) (S := O) hst (by simp)
    have d2 := st_cell (b := bb) (v := .slice gb B.length cb) (S := B) hst (by simp)
    have hlo := canon_len hO
    clear hO hhO hst
    go_wp2_with fail
    refine (union_any (.slice gb B.length cb) (.slice po O.length qo) B O 0 0 _ HBc.out HO.out (st_z (b := bb) HL.out (by simp)) (st_z (b := bo) HL.out (by simp))).mono ?_
    rintro e wu ⟨vu, U, rfl, hU, hhU, hz, hb2⟩
    obtain ⟨gu, cu, rfl⟩ := zsAt_len hz
    have hlu := canon_len hU
    have HLu := Lib.hid (st_push HL.out hb2 hz 27)
    have HU := Lib.hid hU
    have HUh := Lib.hid hhU
    have d3 := st_cell (b := bo) (v := .slice po O.length qo) (S := O) HLu.out (by simp)
    have d4 := st_cell (b := bb) (v := .slice gb B.length cb) (S := B) HLu.out (by simp)
    clear hU hhU hz hb2 HL d1 d2
    go_wp2_with fail
    clear d3 d4
    generalize hbu : wu.heap.size = bu at *
    generalize wu.alloc _ = wv at *
    refine (meet_any (.slice gb B.length cb) (.slice po O.length qo) B O 0 0 _ HBc.out HO.out (st_z (b := bb) HLu.out (by simp)) (st_z (b := bo) HLu.out (by simp))).mono ?_
    rintro e wm ⟨vm, M, rfl, hM, hhM, hz, hb2⟩
    obtain ⟨gm, cm, rfl⟩ := zsAt_len hz
    have hlm := canon_len hM
    have HLm := Lib.hid (st_push HLu.out hb2 hz 27)
    have HM := Lib.hid hM
    have HMh := Lib.hid hhM
    have d3 := st_cell (b := bs) (v := .slice gs S.length cs) (S := S) HLm.out (by simp)
    have d4 := st_cell (b := bt) (v := .slice gt T.length ct) (S := T) HLm.out (by simp)
    clear hM hhM hz hb2 HLu hbu
    go_wp2_with fail
    clear d3 d4
    generalize hbm : wm.heap.size = bm at *
    generalize wm.alloc _ = wx at *
    refine (union_any (.slice gs S.length cs) (.slice gt T.length ct) S T 0 0 _ HS.out HT.out (st_z (b := bs) HLm.out (by simp)) (st_z (b := bt) HLm.out (by simp))).mono ?_
    rintro e wy ⟨vy, V, rfl, hV, hhV, hz, hb2⟩
    obtain ⟨gv, cv, rfl⟩ := zsAt_len hz
    have hlv := canon_len hV
    have HLv := Lib.hid (st_push HLm.out hb2 hz 27)
    have HV := Lib.hid hV
    have HVh := Lib.hid hhV
    clear hV hhV hz hb2 HLm hbm
    go_upto_region 13 with (fail)
    generalize hbv : wy.heap.size = bv at *
    generalize wy.alloc _ = wz at *
    clear hbv
    obtain ⟨e1, e2, e3, e4⟩ := parts_pure HS.out HT.out HBc.out HO.out HU.out HM.out HV.out HBh.out HOh.out HUh.out HMh.out HVh.out
    have HQ1 : Hid (∀ wi, ST w [(bv, .slice gv V.length cv, V), (bm, .slice gm M.length cm, M), (bu, .slice gu U.length cu, U), (bo, .slice po O.length qo, O), (bb, .slice gb B.length cb, B), (bt, .slice gt T.length ct, T), (bs, .slice gs S.length cs, S)] wi → Calls Tryd.prog 19 #[.agg #[.slice gu U.length cu], .agg #[.slice gs S.length cs]] wi (BoolB true wi)) := fun wi h => by
      have := same_any (.slice gu U.length cu) (.slice gs S.length cs) U S 0 0 wi HU.out HS.out (st_z (b := bu) h (by simp)) (st_z (b := bs) h (by simp))
      rwa [decide_eq_true e1] at this
    have HCM : Hid (∀ wi, ST w [(bv, .slice gv V.length cv, V), (bm, .slice gm M.length cm, M), (bu, .slice gu U.length cu, U), (bo, .slice po O.length qo, O), (bb, .slice gb B.length cb, B), (bt, .slice gt T.length ct, T), (bs, .slice gs S.length cs, S)] wi → Calls Tryd.prog 15 #[.agg #[.slice gm M.length cm]] wi (IntB (tot M) wi)) := fun wi h => count_any _ M 0 wi HM.out (st_z (b := bm) h (by simp))
    have tbM := tot_canon HM.out
    have HCB : Hid (∀ wi, ST w [(bv, .slice gv V.length cv, V), (bm, .slice gm M.length cm, M), (bu, .slice gu U.length cu, U), (bo, .slice po O.length qo, O), (bb, .slice gb B.length cb, B), (bt, .slice gt T.length ct, T), (bs, .slice gs S.length cs, S)] wi → Calls Tryd.prog 15 #[.agg #[.slice gb B.length cb]] wi (IntB (tot B) wi)) := fun wi h => count_any _ B 0 wi HBc.out (st_z (b := bb) h (by simp))
    have tbB := tot_canon HBc.out
    have HCO : Hid (∀ wi, ST w [(bv, .slice gv V.length cv, V), (bm, .slice gm M.length cm, M), (bu, .slice gu U.length cu, U), (bo, .slice po O.length qo, O), (bb, .slice gb B.length cb, B), (bt, .slice gt T.length ct, T), (bs, .slice gs S.length cs, S)] wi → Calls Tryd.prog 15 #[.agg #[.slice po O.length qo]] wi (IntB (tot O) wi)) := fun wi h => count_any _ O 0 wi HO.out (st_z (b := bo) h (by simp))
    have tbO := tot_canon HO.out
    have HCS : Hid (∀ wi, ST w [(bv, .slice gv V.length cv, V), (bm, .slice gm M.length cm, M), (bu, .slice gu U.length cu, U), (bo, .slice po O.length qo, O), (bb, .slice gb B.length cb, B), (bt, .slice gt T.length ct, T), (bs, .slice gs S.length cs, S)] wi → Calls Tryd.prog 15 #[.agg #[.slice gs S.length cs]] wi (IntB (tot S) wi)) := fun wi h => count_any _ S 0 wi HS.out (st_z (b := bs) h (by simp))
    have tbS := tot_canon HS.out
    have HCT : Hid (∀ wi, ST w [(bv, .slice gv V.length cv, V), (bm, .slice gm M.length cm, M), (bu, .slice gu U.length cu, U), (bo, .slice po O.length qo, O), (bb, .slice gb B.length cb, B), (bt, .slice gt T.length ct, T), (bs, .slice gs S.length cs, S)] wi → Calls Tryd.prog 15 #[.agg #[.slice gt T.length ct]] wi (IntB (tot T) wi)) := fun wi h => count_any _ T 0 wi HT.out (st_z (b := bt) h (by simp))
    have tbT := tot_canon HT.out
    have HCV : Hid (∀ wi, ST w [(bv, .slice gv V.length cv, V), (bm, .slice gm M.length cm, M), (bu, .slice gu U.length cu, U), (bo, .slice po O.length qo, O), (bb, .slice gb B.length cb, B), (bt, .slice gt T.length ct, T), (bs, .slice gs S.length cs, S)] wi → Calls Tryd.prog 15 #[.agg #[.slice gv V.length cv]] wi (IntB (tot V) wi)) := fun wi h => count_any _ V 0 wi HV.out (st_z (b := bv) h (by simp))
    have tbV := tot_canon HV.out
    rw [e2] at HCM
    generalize tot B = nb at *
    generalize tot O = no at *
    generalize tot S = ns at *
    generalize tot T = nt at *
    generalize tot V = nv at *
    have hw1 : IntKind.i64.wrap (nb + no) = nb + no := IntWalk.i64_in _ (by omega)
    have hw2 : IntKind.i64.wrap (nv + nb) = nv + nb := IntWalk.i64_in _ (by omega)
    have hw3 : IntKind.i64.wrap (ns + nt) = ns + nt := IntWalk.i64_in _ (by omega)
    have he1 : decide (nb + no = ns) = true := decide_eq_true e3
    have he2 : decide (nv + nb = ns + nt) = true := decide_eq_true e4
    have hf1 : (nb + no == ns) = true := by simp [e3]
    have hf2 : (nv + nb == ns + nt) = true := by simp [e4]
    have hst := HLv.out
    clear e1 e2 e3 e4 tbM tbB tbO tbS tbT tbV
    have HK : Hid (∀ wi, ST w [(bv, .slice gv V.length cv, V), (bm, .slice gm M.length cm, M), (bu, .slice gu U.length cu, U), (bo, .slice po O.length qo, O), (bb, .slice gb B.length cb, B), (bt, .slice gt T.length ct, T), (bs, .slice gs S.length cs, S)] wi → (ST w [(bv, .slice gv V.length cv, V), (bm, .slice gm M.length cm, M), (bu, .slice gu U.length cu, U), (bo, .slice po O.length qo, O), (bb, .slice gb B.length cb, B), (bt, .slice gt T.length ct, T), (bs, .slice gs S.length cs, S)] wi ∧ wi.cell? ⟨bs, 0, none⟩ = some (.slice gs S.length cs) ∧ wi.cell? ⟨bt, 0, none⟩ = some (.slice gt T.length ct) ∧ wi.cell? ⟨bb, 0, none⟩ = some (.slice gb B.length cb) ∧ wi.cell? ⟨bo, 0, none⟩ = some (.slice po O.length qo) ∧ wi.cell? ⟨bu, 0, none⟩ = some (.slice gu U.length cu) ∧ wi.cell? ⟨bm, 0, none⟩ = some (.slice gm M.length cm) ∧ wi.cell? ⟨bv, 0, none⟩ = some (.slice gv V.length cv))) := fun wi h => ⟨h, st_cell (S := S) h (by simp), st_cell (S := T) h (by simp), st_cell (S := B) h (by simp), st_cell (S := O) h (by simp), st_cell (S := U) h (by simp), st_cell (S := M) h (by simp), st_cell (S := V) h (by simp)⟩
    have h0 := st_on hst (below_drew _)
    refine wp_region_held_drew (S := fun w' => ST w [(bv, .slice gv V.length cv, V), (bm, .slice gm M.length cm, M), (bu, .slice gu U.length cu, U), (bo, .slice po O.length qo, O), (bb, .slice gb B.length cb, B), (bt, .slice gt T.length ct, T), (bs, .slice gs S.length cs, S)] w' ∧ w'.cell? ⟨bs, 0, none⟩ = some (.slice gs S.length cs) ∧ w'.cell? ⟨bt, 0, none⟩ = some (.slice gt T.length ct) ∧ w'.cell? ⟨bb, 0, none⟩ = some (.slice gb B.length cb) ∧ w'.cell? ⟨bo, 0, none⟩ = some (.slice po O.length qo) ∧ w'.cell? ⟨bu, 0, none⟩ = some (.slice gu U.length cu) ∧ w'.cell? ⟨bm, 0, none⟩ = some (.slice gm M.length cm) ∧ w'.cell? ⟨bv, 0, none⟩ = some (.slice gv V.length cv)) (by kernel_rfl) (HK.out _ h0) (fun hHeld => ?_)
    refine wpAnyH_take (i := 0) (v := ?_) rfl (by kernel_rfl) (by kernel_rfl) (by kernel_rfl) (fun _ _ _ h => h) (Or.inl ⟨by rfl, ?_⟩) (by assumption) ?_
    rotate_left
    · intro w hSw
      obtain ⟨_, c0, c1, c2, c3, c4, c5, c6⟩ := hSw
      go_simp
      try rfl
    simp only [Act.put, List.setIfInBounds_toArray, List.set_cons_zero, List.set_cons_succ, List.getElem_toArray, List.getElem_cons_zero]
    refine wpAnyH_take (i := 1) (v := ?_) rfl (by kernel_rfl) (by kernel_rfl) (by kernel_rfl) (fun _ _ _ h => h) (Or.inl ⟨by rfl, ?_⟩) (by assumption) ?_
    rotate_left
    · intro w hSw
      obtain ⟨_, c0, c1, c2, c3, c4, c5, c6⟩ := hSw
      go_simp
      try rfl
    simp only [Act.put, List.setIfInBounds_toArray, List.set_cons_zero, List.set_cons_succ, List.getElem_toArray, List.getElem_cons_succ, List.getElem_cons_zero]
    refine wpAnyH_ready (rs := [2]) (by kernel_rfl) (by simp) ?_
    refine AllReadyH.cons rfl (fun K hK => ?_) AllReadyH.nil
    go_simp
    refine (HQ1.out _ h0).mono ?_
    rintro e x1 ⟨rfl, hb1⟩
    have h1 := st_on h0 hb1
    refine hK.out _ _ (HK.out _ h1) (fun hHeld => ?_)
    clear hK K
    try simp only [Act.put, List.setIfInBounds_toArray, List.set_cons_zero, List.set_cons_succ, List.getElem_toArray, List.getElem_cons_succ, List.getElem_cons_zero]
    refine wpAnyH_take (i := 3) (v := ?_) rfl (by kernel_rfl) (by kernel_rfl) (by kernel_rfl) (fun _ _ _ h => h) (Or.inl ⟨by rfl, ?_⟩) (by assumption) ?_
    rotate_left
    · intro w hSw
      obtain ⟨_, c0, c1, c2, c3, c4, c5, c6⟩ := hSw
      go_simp
      try rfl
    simp only [Act.put, List.setIfInBounds_toArray, List.set_cons_zero, List.set_cons_succ, List.getElem_toArray, List.getElem_cons_succ, List.getElem_cons_zero]
    refine wpAnyH_take (i := 4) (v := ?_) rfl (by kernel_rfl) (by kernel_rfl) (by kernel_rfl) (fun _ _ _ h => h) (Or.inl ⟨by rfl, ?_⟩) (by assumption) ?_
    rotate_left
    · intro w hSw
      obtain ⟨_, c0, c1, c2, c3, c4, c5, c6⟩ := hSw
      go_simp
      try rfl
    simp only [Act.put, List.setIfInBounds_toArray, List.set_cons_zero, List.set_cons_succ, List.getElem_toArray, List.getElem_cons_succ, List.getElem_cons_zero]
    refine wpAnyH_ready (rs := [5]) (by kernel_rfl) (by simp) ?_
    refine AllReadyH.cons rfl (fun K hK => ?_) AllReadyH.nil
    go_simp
    refine (HCM.out _ h1).mono ?_
    rintro e x2 ⟨rfl, hb2⟩
    have h2 := st_on h1 hb2
    refine hK.out _ _ (HK.out _ h2) (fun hHeld => ?_)
    clear hK K
    try simp only [Act.put, List.setIfInBounds_toArray, List.set_cons_zero, List.set_cons_succ, List.getElem_toArray, List.getElem_cons_succ, List.getElem_cons_zero]
    refine wpAnyH_take (i := 6) (v := ?_) rfl (by kernel_rfl) (by kernel_rfl) (by kernel_rfl) (fun _ _ _ h => h) (Or.inl ⟨by rfl, ?_⟩) (by assumption) ?_
    rotate_left
    · intro w hSw
      obtain ⟨_, c0, c1, c2, c3, c4, c5, c6⟩ := hSw
      go_simp
      try rfl
    simp only [Act.put, List.setIfInBounds_toArray, List.set_cons_zero, List.set_cons_succ, List.getElem_toArray, List.getElem_cons_succ, List.getElem_cons_zero]
    refine wpAnyH_take (i := 7) (v := ?_) rfl (by kernel_rfl) (by kernel_rfl) (by kernel_rfl) (fun _ _ _ h => h) (Or.inl ⟨by rfl, ?_⟩) (by assumption) ?_
    rotate_left
    · intro w hSw
      obtain ⟨_, c0, c1, c2, c3, c4, c5, c6⟩ := hSw
      go_simp
      try rfl
    simp only [Act.put, List.setIfInBounds_toArray, List.set_cons_zero, List.set_cons_succ, List.getElem_toArray, List.getElem_cons_succ, List.getElem_cons_zero]
    refine wpAnyH_take (i := 8) (v := ?_) rfl (by kernel_rfl) (by kernel_rfl) (by kernel_rfl) (fun _ _ _ h => h) (Or.inl ⟨by rfl, ?_⟩) (by assumption) ?_
    rotate_left
    · intro w hSw
      obtain ⟨_, c0, c1, c2, c3, c4, c5, c6⟩ := hSw
      go_simp
      try rfl
    simp only [Act.put, List.setIfInBounds_toArray, List.set_cons_zero, List.set_cons_succ, List.getElem_toArray, List.getElem_cons_succ, List.getElem_cons_zero]
    refine wpAnyH_take (i := 9) (v := ?_) rfl (by kernel_rfl) (by kernel_rfl) (by kernel_rfl) (fun _ _ _ h => h) (Or.inl ⟨by rfl, ?_⟩) (by assumption) ?_
    rotate_left
    · intro w hSw
      obtain ⟨_, c0, c1, c2, c3, c4, c5, c6⟩ := hSw
      go_simp
      try rfl
    simp only [Act.put, List.setIfInBounds_toArray, List.set_cons_zero, List.set_cons_succ, List.getElem_toArray, List.getElem_cons_succ, List.getElem_cons_zero]
    refine wpAnyH_take (i := 11) (v := ?_) rfl (by kernel_rfl) (by kernel_rfl) (by kernel_rfl) (fun _ _ _ h => h) (Or.inl ⟨by rfl, ?_⟩) (by assumption) ?_
    rotate_left
    · intro w hSw
      obtain ⟨_, c0, c1, c2, c3, c4, c5, c6⟩ := hSw
      go_simp
      try rfl
    simp only [Act.put, List.setIfInBounds_toArray, List.set_cons_zero, List.set_cons_succ, List.getElem_toArray, List.getElem_cons_succ, List.getElem_cons_zero]
    refine wpAnyH_take (i := 14) (v := ?_) rfl (by kernel_rfl) (by kernel_rfl) (by kernel_rfl) (fun _ _ _ h => h) (Or.inl ⟨by rfl, ?_⟩) (by assumption) ?_
    rotate_left
    · intro w hSw
      obtain ⟨_, c0, c1, c2, c3, c4, c5, c6⟩ := hSw
      go_simp
      try rfl
    simp only [Act.put, List.setIfInBounds_toArray, List.set_cons_zero, List.set_cons_succ, List.getElem_toArray, List.getElem_cons_succ, List.getElem_cons_zero]
    refine wpAnyH_ready (rs := [10]) (by kernel_rfl) (by simp) ?_
    refine AllReadyH.cons rfl (fun K hK => ?_) AllReadyH.nil
    go_simp
    refine (HCB.out _ h2).mono ?_
    rintro e x3 ⟨rfl, hb3⟩
    have h3 := st_on h2 hb3
    refine hK.out _ _ (HK.out _ h3) (fun hHeld => ?_)
    clear hK K
    try simp only [Act.put, List.setIfInBounds_toArray, List.set_cons_zero, List.set_cons_succ, List.getElem_toArray, List.getElem_cons_succ, List.getElem_cons_zero]
    refine wpAnyH_ready (rs := [12]) (by kernel_rfl) (by simp) ?_
    refine AllReadyH.cons rfl (fun K hK => ?_) AllReadyH.nil
    go_simp
    refine (HCO.out _ h3).mono ?_
    rintro e x4 ⟨rfl, hb4⟩
    have h4 := st_on h3 hb4
    refine hK.out _ _ (HK.out _ h4) (fun hHeld => ?_)
    clear hK K
    try simp only [Act.put, List.setIfInBounds_toArray, List.set_cons_zero, List.set_cons_succ, List.getElem_toArray, List.getElem_cons_succ, List.getElem_cons_zero]
    refine wpAnyH_take (i := 13) (v := ?_) rfl (by kernel_rfl) (by kernel_rfl) (by kernel_rfl) (fun _ _ _ h => h) (Or.inl ⟨by rfl, ?_⟩) (by assumption) ?_
    rotate_left
    · intro w hSw
      obtain ⟨_, c0, c1, c2, c3, c4, c5, c6⟩ := hSw
      go_simp
      try rfl
    simp only [Act.put, List.setIfInBounds_toArray, List.set_cons_zero, List.set_cons_succ, List.getElem_toArray, List.getElem_cons_succ, List.getElem_cons_zero]
    refine wpAnyH_ready (rs := [15]) (by kernel_rfl) (by simp) ?_
    refine AllReadyH.cons rfl (fun K hK => ?_) AllReadyH.nil
    go_simp
    refine (HCS.out _ h4).mono ?_
    rintro e x5 ⟨rfl, hb5⟩
    have h5 := st_on h4 hb5
    refine hK.out _ _ (HK.out _ h5) (fun hHeld => ?_)
    clear hK K
    try simp only [Act.put, List.setIfInBounds_toArray, List.set_cons_zero, List.set_cons_succ, List.getElem_toArray, List.getElem_cons_succ, List.getElem_cons_zero]
    refine wpAnyH_take (i := 16) (v := ?_) rfl (by kernel_rfl) (by kernel_rfl) (by kernel_rfl) (fun _ _ _ h => h) (Or.inl ⟨by rfl, ?_⟩) (by assumption) ?_
    rotate_left
    · intro w hSw
      obtain ⟨_, c0, c1, c2, c3, c4, c5, c6⟩ := hSw
      go_simp
      try rfl
    simp only [Act.put, List.setIfInBounds_toArray, List.set_cons_zero, List.set_cons_succ, List.getElem_toArray, List.getElem_cons_succ, List.getElem_cons_zero]
    refine wpAnyH_take (i := 17) (v := ?_) rfl (by kernel_rfl) (by kernel_rfl) (by kernel_rfl) (fun _ _ _ h => h) (Or.inl ⟨by rfl, ?_⟩) (by assumption) ?_
    rotate_left
    · intro w hSw
      obtain ⟨_, c0, c1, c2, c3, c4, c5, c6⟩ := hSw
      go_simp
      try rfl
    simp only [Act.put, List.setIfInBounds_toArray, List.set_cons_zero, List.set_cons_succ, List.getElem_toArray, List.getElem_cons_succ, List.getElem_cons_zero]
    refine wpAnyH_take (i := 18) (v := ?_) rfl (by kernel_rfl) (by kernel_rfl) (by kernel_rfl) (fun _ _ _ h => h) (Or.inl ⟨by rfl, ?_⟩) (by assumption) ?_
    rotate_left
    · intro w hSw
      obtain ⟨_, c0, c1, c2, c3, c4, c5, c6⟩ := hSw
      go_simp
      try rfl
    simp only [Act.put, List.setIfInBounds_toArray, List.set_cons_zero, List.set_cons_succ, List.getElem_toArray, List.getElem_cons_succ, List.getElem_cons_zero]
    refine wpAnyH_take (i := 19) (v := ?_) rfl (by kernel_rfl) (by kernel_rfl) (by kernel_rfl) (fun _ _ _ h => h) (Or.inl ⟨by rfl, ?_⟩) (by assumption) ?_
    rotate_left
    · intro w hSw
      obtain ⟨_, c0, c1, c2, c3, c4, c5, c6⟩ := hSw
      go_simp
      try rfl
    simp only [Act.put, List.setIfInBounds_toArray, List.set_cons_zero, List.set_cons_succ, List.getElem_toArray, List.getElem_cons_succ, List.getElem_cons_zero]
    refine wpAnyH_take (i := 21) (v := ?_) rfl (by kernel_rfl) (by kernel_rfl) (by kernel_rfl) (fun _ _ _ h => h) (Or.inl ⟨by rfl, ?_⟩) (by assumption) ?_
    rotate_left
    · intro w hSw
      obtain ⟨_, c0, c1, c2, c3, c4, c5, c6⟩ := hSw
      go_simp
      try rfl
    simp only [Act.put, List.setIfInBounds_toArray, List.set_cons_zero, List.set_cons_succ, List.getElem_toArray, List.getElem_cons_succ, List.getElem_cons_zero]
    refine wpAnyH_take (i := 24) (v := ?_) rfl (by kernel_rfl) (by kernel_rfl) (by kernel_rfl) (fun _ _ _ h => h) (Or.inl ⟨by rfl, ?_⟩) (by assumption) ?_
    rotate_left
    · intro w hSw
      obtain ⟨_, c0, c1, c2, c3, c4, c5, c6⟩ := hSw
      go_simp
      try rfl
    simp only [Act.put, List.setIfInBounds_toArray, List.set_cons_zero, List.set_cons_succ, List.getElem_toArray, List.getElem_cons_succ, List.getElem_cons_zero]
    refine wpAnyH_take (i := 26) (v := ?_) rfl (by kernel_rfl) (by kernel_rfl) (by kernel_rfl) (fun _ _ _ h => h) (Or.inl ⟨by rfl, ?_⟩) (by assumption) ?_
    rotate_left
    · intro w hSw
      obtain ⟨_, c0, c1, c2, c3, c4, c5, c6⟩ := hSw
      go_simp
      try rfl
    simp only [Act.put, List.setIfInBounds_toArray, List.set_cons_zero, List.set_cons_succ, List.getElem_toArray, List.getElem_cons_succ, List.getElem_cons_zero]
    refine wpAnyH_ready (rs := [20]) (by kernel_rfl) (by simp) ?_
    refine AllReadyH.cons rfl (fun K hK => ?_) AllReadyH.nil
    go_simp
    refine (HCV.out _ h5).mono ?_
    rintro e x6 ⟨rfl, hb6⟩
    have h6 := st_on h5 hb6
    refine hK.out _ _ (HK.out _ h6) (fun hHeld => ?_)
    clear hK K
    try simp only [Act.put, List.setIfInBounds_toArray, List.set_cons_zero, List.set_cons_succ, List.getElem_toArray, List.getElem_cons_succ, List.getElem_cons_zero]
    refine wpAnyH_ready (rs := [22]) (by kernel_rfl) (by simp) ?_
    refine AllReadyH.cons rfl (fun K hK => ?_) AllReadyH.nil
    go_simp
    refine (HCB.out _ h6).mono ?_
    rintro e x7 ⟨rfl, hb7⟩
    have h7 := st_on h6 hb7
    refine hK.out _ _ (HK.out _ h7) (fun hHeld => ?_)
    clear hK K
    try simp only [Act.put, List.setIfInBounds_toArray, List.set_cons_zero, List.set_cons_succ, List.getElem_toArray, List.getElem_cons_succ, List.getElem_cons_zero]
    refine wpAnyH_take (i := 23) (v := ?_) rfl (by kernel_rfl) (by kernel_rfl) (by kernel_rfl) (fun _ _ _ h => h) (Or.inl ⟨by rfl, ?_⟩) (by assumption) ?_
    rotate_left
    · intro w hSw
      obtain ⟨_, c0, c1, c2, c3, c4, c5, c6⟩ := hSw
      go_simp
      try rfl
    simp only [Act.put, List.setIfInBounds_toArray, List.set_cons_zero, List.set_cons_succ, List.getElem_toArray, List.getElem_cons_succ, List.getElem_cons_zero]
    refine wpAnyH_ready (rs := [25]) (by kernel_rfl) (by simp) ?_
    refine AllReadyH.cons rfl (fun K hK => ?_) AllReadyH.nil
    go_simp
    refine (HCS.out _ h7).mono ?_
    rintro e x8 ⟨rfl, hb8⟩
    have h8 := st_on h7 hb8
    refine hK.out _ _ (HK.out _ h8) (fun hHeld => ?_)
    clear hK K
    try simp only [Act.put, List.setIfInBounds_toArray, List.set_cons_zero, List.set_cons_succ, List.getElem_toArray, List.getElem_cons_succ, List.getElem_cons_zero]
    refine wpAnyH_ready (rs := [27]) (by kernel_rfl) (by simp) ?_
    refine AllReadyH.cons rfl (fun K hK => ?_) AllReadyH.nil
    go_simp
    refine (HCT.out _ h8).mono ?_
    rintro e x9 ⟨rfl, hb9⟩
    have h9 := st_on h8 hb9
    refine hK.out _ _ (HK.out _ h9) (fun hHeld => ?_)
    clear hK K
    try simp only [Act.put, List.setIfInBounds_toArray, List.set_cons_zero, List.set_cons_succ, List.getElem_toArray, List.getElem_cons_succ, List.getElem_cons_zero]
    refine wpAnyH_take (i := 28) (v := ?_) rfl (by kernel_rfl) (by kernel_rfl) (by kernel_rfl) (fun _ _ _ h => h) (Or.inl ⟨by rfl, ?_⟩) (by assumption) ?_
    rotate_left
    · intro w hSw
      obtain ⟨_, c0, c1, c2, c3, c4, c5, c6⟩ := hSw
      go_simp
      try rfl
    simp only [Act.put, List.setIfInBounds_toArray, List.set_cons_zero, List.set_cons_succ, List.getElem_toArray, List.getElem_cons_succ, List.getElem_cons_zero]
    refine wpAnyH_take (i := 29) (v := ?_) rfl (by kernel_rfl) (by kernel_rfl) (by kernel_rfl) (fun _ _ _ h => h) (Or.inl ⟨by rfl, ?_⟩) (by assumption) ?_
    rotate_left
    · intro w hSw
      obtain ⟨_, c0, c1, c2, c3, c4, c5, c6⟩ := hSw
      go_simp
      try rfl
    simp only [Act.put, List.setIfInBounds_toArray, List.set_cons_zero, List.set_cons_succ, List.getElem_toArray, List.getElem_cons_succ, List.getElem_cons_zero]
    refine wpAnyH_take (i := 30) (v := ?_) rfl (by kernel_rfl) (by kernel_rfl) (by kernel_rfl) (fun _ _ _ h => h) (Or.inl ⟨by rfl, ?_⟩) (by assumption) ?_
    rotate_left
    · intro w hSw
      obtain ⟨_, c0, c1, c2, c3, c4, c5, c6⟩ := hSw
      go_simp
      try rfl
    simp only [Act.put, List.setIfInBounds_toArray, List.set_cons_zero, List.set_cons_succ, List.getElem_toArray, List.getElem_cons_succ, List.getElem_cons_zero]
    refine wpAnyH_take (i := 31) (v := ?_) rfl (by kernel_rfl) (by kernel_rfl) (by kernel_rfl) (fun _ _ _ h => h) (Or.inl ⟨by rfl, ?_⟩) (by assumption) ?_
    rotate_left
    · intro w hSw
      obtain ⟨_, c0, c1, c2, c3, c4, c5, c6⟩ := hSw
      go_simp
      try rfl
    simp only [Act.put, List.setIfInBounds_toArray, List.set_cons_zero, List.set_cons_succ, List.getElem_toArray, List.getElem_cons_succ, List.getElem_cons_zero]
    refine wpAnyH_done (by kernel_rfl) ?_ _
    go_wp2_with fail
    go_ret
    exact ⟨rfl, h9.1⟩
end Go.Proofs.YtemdleocdllmfaaDoor.setw
