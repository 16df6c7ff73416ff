/- The contract of package props' where: the set of those code points of which something holds that hangs on category and script alone. (Written by gen/props3.py.) -/
import Derived.Test.YtgdhhpbpbkgmeaaDoorPropsW2
namespace Go.Proofs.YtgdhhpbpbkgmeaaDoor.prw
open Go Go.RowKit Go.Proofs.YtgdhhpbpbkgmeaaDoor.bulk Go.Proofs.YtgdhhpbpbkgmeaaDoor.ucdp Go.Proofs.YtgdhhpbpbkgmeaaDoor.ucdw Go.Proofs.YtgdhhpbpbkgmeaaDoor.setp Go.Proofs.YtgdhhpbpbkgmeaaDoor.setw Go.Proofs.YtgdhhpbpbkgmeaaDoor.prp

/-- the table of package props holds what the program's text lays in it -/
def TabS (w : World) : Prop := ∀ i, i < 94 → w.cell? ⟨1, i, none⟩ = some (.int .i64 (st i))
theorem tabS_below {w w' : World} (h : Below w.heap.size w w') (hT : TabS w) : TabS w' := fun i hi => below_cell h (hT i hi)
/-- the code points of which something holds, in new memory -/
def PropR (q : Int → Prop) (w : World) (e : Ending) (w' : World) : Prop := ∃ v S, e = .returned v ∧ Canon S ∧ (∀ c, Has S c ↔ q c) ∧ OwnR w' w.heap.size v S ∧ Below w.heap.size w w'
/-- how far 'where' has come -/
def WRel (h : Int → Bool) (w : World) (v i : Value) (wr : World) : Prop := ∃ k : Nat, k ≤ 93 ∧ i = .int .i64 k ∧ OwnR wr w.heap.size v (wl h k) ∧ Below w.heap.size w wr

set_option maxRecDepth 100000 in
set_option maxHeartbeats 4000000 in
theorem where_any (f : Nat) (lb : Array Value) (g : Nat → Nat → Bool) (w : World) (hT : TabS w) (eg : ∀ args w, (callFunc f args).run Tryd.prog w = .ok (.enter f args) w)
    (hC : ∀ c, 0 ≤ c → c ≤ 1114112 → ∀ w1, Below w.heap.size w w1 → Calls Tryd.prog f (#[.int .i64 c] ++ lb) w1 (BolB (g (cls c).1 (cls c).2.1) w1)) :
    Calls Tryd.prog 55 #[.func (.func f) #[] lb] w (PropR (fun c => 0 ≤ c ∧ c ≤ 1114111 ∧ g (cls c).1 (cls c).2.1 = true) w) := by
  have HA := Lib.hid (wl_all g)
  obtain ⟨h, hh⟩ : ∃ h : Int → Bool, (fun c => g (cls c).1 (cls c).2.1) = h := ⟨_, rfl⟩
  have hhc : ∀ c, g (cls c).1 (cls c).2.1 = h c := fun c => congrFun hh c
  rw [hh] at HA
  simp only [hhc] at hC
  have HC := Lib.hid hC
  have HT := Lib.hid hT
  clear hC hT hh hhc
  go_enter Tryd.func55, Tryd.ntmps55
  go_wp2_with fail
  go_loopw [3, 5] (fun v i wr => WRel h w v i wr) (fun _ i _ => 93 - (intOf i).toNat)
  case atStart => exact ⟨0, Nat.zero_le _, rfl, ownR_nil _ _, Below.refl _ _⟩
  case round =>
    obtain ⟨k, hk, rfl, ho, hb⟩ := hrel
    have HO := Lib.hid ho
    have HB := Lib.hid hb
    clear ho hb
    by_cases hlt : k < 93
    · have c1 := below_cell HB.out (HT.out k (by omega))
      have C1 := Lib.hid (HT.out k (by omega))
      have C2 := Lib.hid (HT.out (k + 1) (by omega))
      have b1 := st_bd k (by omega)
      have b2 := st_bd (k + 1) (by omega)
      have HCL := Lib.hid (HC.out (st k) b1.1 b1.2 wr HB.out)
      have hi1 : (k : Int) < 93 := by omega
      have hi2 : (k : Int) < 94 := by omega
      have hi3 : IntKind.i64.wrap ((k : Int) + 1) = (k : Int) + 1 := IntWalk.i64_in _ (by omega)
      have hi4 : (k : Int) + 1 < 94 := by omega
      have hi5 : (0 : Int) ≤ (k : Int) + 1 := by omega
      have hkl : (wl h k).length ≤ 100000000 := by have := wl_len h k; omega
      have HKL := Lib.hid hkl
      have HS := Lib.hid (wl_succ h k)
      generalize st k = x at *
      generalize st (k + 1) = y at *
      have hwy : IntKind.i64.wrap (y - 1) = y - 1 := IntWalk.i64_in _ (by omega)
      clear hkl
      cases hv : h x with
      | true =>
        rw [hv] at HCL HS
        go_wp2_with fail
        refine HCL.out.mono ?_
        rintro e w2 ⟨rfl, hb2⟩
        have HO2 := Lib.hid (ownR_below HO.out hb2)
        have HB2 := Lib.hid (below_trans HB.out hb2)
        clear hb2
        go_wp2_with fail
        have h0 : Below w.heap.size w w2.drew := HB2.out.drew
        refine wp_region_held_drew (S := fun w' => Below w.heap.size w w') (by kernel_rfl) h0 (fun hHeld => ?_)
        refine wpAnyH_take (i := 0) (v := ?_) rfl (by kernel_rfl) (by kernel_rfl) (by kernel_rfl) (fun _ _ _ h => h) (Or.inl ⟨by rfl, ?_⟩) (by assumption) ?_
        rotate_left
        · intro w' hSw
          have d1 := below_cell hSw C1.out
          have d2 := below_cell hSw C2.out
          go_simp
          try rfl
        simp only [Act.put, List.setIfInBounds_toArray, List.set_cons_zero, List.set_cons_succ, List.getElem_toArray, List.getElem_cons_zero]
        refine wpAnyH_take (i := 1) (v := ?_) rfl (by kernel_rfl) (by kernel_rfl) (by kernel_rfl) (fun _ _ _ h => h) (Or.inl ⟨by rfl, ?_⟩) (by assumption) ?_
        rotate_left
        · intro w' hSw
          have d1 := below_cell hSw C1.out
          have d2 := below_cell hSw C2.out
          go_simp
          try rfl
        simp only [Act.put, List.setIfInBounds_toArray, List.set_cons_zero, List.set_cons_succ, List.getElem_toArray, List.getElem_cons_succ, List.getElem_cons_zero]
        refine wpAnyH_take (i := 2) (v := ?_) rfl (by kernel_rfl) (by kernel_rfl) (by kernel_rfl) (fun _ _ _ h => h) (Or.inl ⟨by rfl, ?_⟩) (by assumption) ?_
        rotate_left
        · intro w' hSw
          have d1 := below_cell hSw C1.out
          have d2 := below_cell hSw C2.out
          go_simp
          try rfl
        simp only [Act.put, List.setIfInBounds_toArray, List.set_cons_zero, List.set_cons_succ, List.getElem_toArray, List.getElem_cons_succ, List.getElem_cons_zero]
        refine wpAnyH_take (i := 3) (v := ?_) rfl (by kernel_rfl) (by kernel_rfl) (by kernel_rfl) (fun _ _ _ h => h) (Or.inl ⟨by rfl, ?_⟩) (by assumption) ?_
        rotate_left
        · intro w' hSw
          have d1 := below_cell hSw C1.out
          have d2 := below_cell hSw C2.out
          go_simp
          try rfl
        simp only [Act.put, List.setIfInBounds_toArray, List.set_cons_zero, List.set_cons_succ, List.getElem_toArray, List.getElem_cons_succ, List.getElem_cons_zero]
        refine wpAnyH_take (i := 4) (v := ?_) rfl (by kernel_rfl) (by kernel_rfl) (by kernel_rfl) (fun _ _ _ h => h) (Or.inl ⟨by rfl, ?_⟩) (by assumption) ?_
        rotate_left
        · intro w' hSw
          have d1 := below_cell hSw C1.out
          have d2 := below_cell hSw C2.out
          go_simp
          try rfl
        simp only [Act.put, List.setIfInBounds_toArray, List.set_cons_zero, List.set_cons_succ, List.getElem_toArray, List.getElem_cons_succ, List.getElem_cons_zero]
        refine wpAnyH_take (i := 5) (v := ?_) rfl (by kernel_rfl) (by kernel_rfl) (by kernel_rfl) (fun _ _ _ h => h) (Or.inl ⟨by rfl, ?_⟩) (by assumption) ?_
        rotate_left
        · intro w' hSw
          have d1 := below_cell hSw C1.out
          have d2 := below_cell hSw C2.out
          go_simp
          try rfl
        simp only [Act.put, List.setIfInBounds_toArray, List.set_cons_zero, List.set_cons_succ, List.getElem_toArray, List.getElem_cons_succ, List.getElem_cons_zero]
        refine wpAnyH_take (i := 6) (v := ?_) rfl (by kernel_rfl) (by kernel_rfl) (by kernel_rfl) (fun _ _ _ h => h) (Or.inl ⟨by rfl, ?_⟩) (by assumption) ?_
        rotate_left
        · intro w' hSw
          have d1 := below_cell hSw C1.out
          have d2 := below_cell hSw C2.out
          go_simp
          try rfl
        simp only [Act.put, List.setIfInBounds_toArray, List.set_cons_zero, List.set_cons_succ, List.getElem_toArray, List.getElem_cons_succ, List.getElem_cons_zero]
        refine wpAnyH_take (i := 7) (v := ?_) rfl (by kernel_rfl) (by kernel_rfl) (by kernel_rfl) (fun _ _ _ h => h) (Or.inl ⟨by rfl, ?_⟩) (by assumption) ?_
        rotate_left
        · intro w' hSw
          have d1 := below_cell hSw C1.out
          have d2 := below_cell hSw C2.out
          go_simp
          try rfl
        simp only [Act.put, List.setIfInBounds_toArray, List.set_cons_zero, List.set_cons_succ, List.getElem_toArray, List.getElem_cons_succ, List.getElem_cons_zero]
        refine wpAnyH_take (i := 8) (v := ?_) rfl (by kernel_rfl) (by kernel_rfl) (by kernel_rfl) (fun _ _ _ h => h) (Or.inl ⟨by rfl, ?_⟩) (by assumption) ?_
        rotate_left
        · intro w' hSw
          have d1 := below_cell hSw C1.out
          have d2 := below_cell hSw C2.out
          go_simp
          try rfl
        simp only [Act.put, List.setIfInBounds_toArray, List.set_cons_zero, List.set_cons_succ, List.getElem_toArray, List.getElem_cons_succ, List.getElem_cons_zero]
        refine wpAnyH_take (i := 9) (v := ?_) rfl (by kernel_rfl) (by kernel_rfl) (by kernel_rfl) (fun _ _ _ h => h) (Or.inl ⟨by rfl, ?_⟩) (by assumption) ?_
        rotate_left
        · intro w' hSw
          have d1 := below_cell hSw C1.out
          have d2 := below_cell hSw C2.out
          go_simp
          try rfl
        simp only [Act.put, List.setIfInBounds_toArray, List.set_cons_zero, List.set_cons_succ, List.getElem_toArray, List.getElem_cons_succ, List.getElem_cons_zero]
        refine wpAnyH_ready (rs := [10]) (by kernel_rfl) (by simp) ?_
        refine AllReadyH.cons rfl (fun K hK => ?_) AllReadyH.nil
        go_simp
        refine hK.out _ _ (h0.alloc h0.size _) (fun hHeld => ?_)
        clear hK K
        try simp only [Act.put, List.setIfInBounds_toArray, List.set_cons_zero, List.set_cons_succ, List.getElem_toArray, List.getElem_cons_succ, List.getElem_cons_zero]
        refine wpAnyH_ready (rs := [11]) (by kernel_rfl) (by simp) ?_
        refine AllReadyH.cons rfl (fun K hK => ?_) AllReadyH.nil
        refine held_append_r (w := w2.drew) rfl _ _ rfl w.heap.size _ (wl h k) rfl HO2.out x (y - 1) _ rfl rfl rfl HKL.out h0.size ?_
        intro va2 wa2 hoa hba
        have HOA := Lib.hid hoa
        have HBA := Lib.hid (hba _ _ h0 (Nat.le_refl _))
        clear hoa hba
        refine hK.out _ _ HBA.out (fun hHeld => ?_)
        clear hK K
        try simp only [Act.put, List.setIfInBounds_toArray, List.set_cons_zero, List.set_cons_succ, List.getElem_toArray, List.getElem_cons_succ, List.getElem_cons_zero]
        refine wpAnyH_take (i := 12) (v := ?_) rfl (by kernel_rfl) (by kernel_rfl) (by kernel_rfl) (fun _ _ _ h => h) (Or.inl ⟨by rfl, ?_⟩) (by assumption) ?_
        rotate_left
        · intro w' hSw
          go_simp
          try rfl
        simp only [Act.put, List.setIfInBounds_toArray, List.set_cons_zero, List.set_cons_succ, List.getElem_toArray, List.getElem_cons_succ, List.getElem_cons_zero]
        refine wpAnyH_done (by kernel_rfl) ?_ _
        go_wp2_with fail
        go_roundw
        case rel => exact ⟨k + 1, by omega, by go_num, by rw [HS.out]; exact HOA.out, HBA.out⟩
        case measure => simp [intOf]; omega
      | false =>
        rw [hv] at HCL HS
        go_wp2_with fail
        refine HCL.out.mono ?_
        rintro e w2 ⟨rfl, hb2⟩
        have HO2 := Lib.hid (ownR_below HO.out hb2)
        have HB2 := Lib.hid (below_trans HB.out hb2)
        clear hb2
        go_wp2_with fail
        go_roundw
        case rel => exact ⟨k + 1, by omega, by go_num, by rw [HS.out]; exact HO2.out, HB2.out⟩
        case measure => simp [intOf]; omega
    · obtain rfl : k = 93 := by omega
      have HRs := Lib.hid (rs_own HO.out (wl_inR (h := h) (Nat.le_refl 93)))
      have hl : (wl h 93).length ≤ 1000000 := by have := wl_len h 93; omega
      have HNew := Lib.hid (fun v (hv : RsAt wr v (wl h 93)) => new_any v (wl h 93) 1114111 wr hv hl (by decide) (by decide))
      clear hl
      go_wp2_with fail
      refine (HNew.out _ HRs.out).mono ?_
      rintro e w2 ⟨va, S, rfl, hS, hhs, hz, hb2⟩
      have HSC := Lib.hid hS
      have HRan := Lib.hid (ranges_any va S _ w2 hS hz)
      have HB2 := Lib.hid (below_trans HB.out hb2)
      have HH := Lib.hid hhs
      clear hS hz hb2 hhs
      go_wp2_with fail
      refine HRan.out.mono ?_
      rintro e w3 ⟨vb, rfl, ho3, hb3⟩
      have HO3 := Lib.hid (ownR_mono ho3 HB2.out.size)
      have HB3 := Lib.hid (below_trans HB2.out hb3)
      clear ho3 hb3
      go_wp2_with fail
      go_ret
      exact ⟨_, S, rfl, HSC.out, fun c => by rw [HH.out c]; have := HA.out c; rwa [show min (1114111 : Int) 1114111 = 1114111 by decide], HO3.out, HB3.out⟩
end Go.Proofs.YtgdhhpbpbkgmeaaDoor.prw
