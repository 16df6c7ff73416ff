/- The contracts of package props' of and where. (Written by gen/props2.py.) -/
import Derived.Test.YtgdhhpbpbkgmeaaDoorPropsW1
import Derived.Test.YtgdhhpbpbkgmeaaDoorSetsJ3
import Derived.Test.YtgdhhpbpbkgmeaaDoorSetsX
import Derived.Deep.RegionHeld3
namespace Go.Proofs.YtgdhhpbpbkgmeaaDoor.prw
open Go Go.RowKit Go.Proofs.YtgdhhpbpbkgmeaaDoor.bulk Go.Proofs.YtgdhhpbpbkgmeaaDoor.ucdp Go.Proofs.YtgdhhpbpbkgmeaaDoor.ucdw Go.Proofs.YtgdhhpbpbkgmeaaDoor.setp Go.Proofs.YtgdhhpbpbkgmeaaDoor.setw Go.Proofs.YtgdhhpbpbkgmeaaDoor.prp

/-- the set of ranges, as a value of type Set -/
def SetA (base : Nat) (R : List Rg) (w : World) (e : Ending) (w' : World) : Prop := ∃ v, e = .returned (.agg #[v]) ∧ ZsAt base w' v R ∧ Below w.heap.size w w'
/-- how far 'of' has come -/
def OfRel (R : List Rg) (w1 : World) (v i : Value) (wr : World) : Prop := ∃ k : Nat, k ≤ R.length ∧ i = .int .i64 (2 * k + 1) ∧ OwnR wr w1.heap.size v (R.take k) ∧ Below w1.heap.size w1 wr
theorem set_of {R S : List Rg} (hR : Canon R) (hS : Canon S) (h : ∀ c, Has S c ↔ Has R c ∧ 0 ≤ c ∧ c ≤ min 1114111 1114111) : S = R :=
  canon_ext hS hR fun c => by
    rw [h]
    constructor
    · exact fun a => a.1
    · intro a
      have := has_bd hR.2 a
      exact ⟨a, by omega, by omega⟩

set_option maxRecDepth 100000 in
set_option maxHeartbeats 4000000 in
theorem of_any (R : List Rg) (g cap : Nat) (w : World) (hR : Canon R) (hl : R.length ≤ 1000) (hc : ∀ i (hi : i < R.length), w.cell? ⟨g, i * 2, none⟩ = some (.int .i64 R[i].1) ∧ w.cell? ⟨g, i * 2 + 1, none⟩ = some (.int .i64 R[i].2)) :
    Calls Tryd.prog 53 #[.slice (some ⟨g, 0, none⟩) (2 * R.length) cap] w (SetA w.heap.size R w) := by
  obtain ⟨n, hn⟩ : ∃ n, 2 * R.length = n := ⟨_, rfl⟩
  rw [hn]
  have HC := Lib.hid hc
  have HR := Lib.hid hR
  have HN := Lib.hid hn
  clear hc hR hn
  go_enter Tryd.func53, Tryd.ntmps53
  go_wp2_with fail
  obtain ⟨c4, f4, hlt4, hb4⟩ := cell_new w (.slice none 0 0) 27
  generalize w.alloc _ = w1 at *
  have C4 := Lib.hid c4
  have F4 := Lib.hid f4
  clear c4 f4
  go_loopw [3, 4] (fun v i wr => OfRel R w1 v i wr) (fun _ i _ => n - (intOf i).toNat)
  case atStart => exact ⟨0, Nat.zero_le _, rfl, ownR_nil _ _, Below.refl _ _⟩
  case round =>
    obtain ⟨k, hk, rfl, ho, hb⟩ := hrel
    have HO := Lib.hid ho
    have HB := Lib.hid hb
    have HBw := Lib.hid (below_trans hb4 hb)
    clear ho hb
    have hn := HN.out
    by_cases hlt : k < R.length
    · obtain ⟨hc1, hc2⟩ := HC.out k hlt
      have C1 := Lib.hid hc1
      have C2 := Lib.hid hc2
      have HT := Lib.hid (take_snoc hlt)
      have hkl : (R.take k).length ≤ 100000000 := by rw [List.length_take]; omega
      have HKL := Lib.hid hkl
      clear hc1 hc2 hkl
      obtain ⟨x, y, hxy⟩ : ∃ x y, R[k] = (x, y) := ⟨_, _, rfl⟩
      rw [hxy] at C1 C2 HT
      simp only at C1 C2
      clear hxy
      have hi1 : (2 * (k : Int) + 1) < (n : Int) := by omega
      have hi2 : IntKind.i64.wrap (2 * (k : Int) + 1 - 1) = 2 * (k : Int) := by rw [show 2 * (k : Int) + 1 - 1 = 2 * k by omega]; exact IntWalk.i64_in _ (by omega)
      have hi2b : IntKind.i64.wrap (2 * (k : Int)) = 2 * (k : Int) := IntWalk.i64_in _ (by omega)
      have hi3 : 2 * (k : Int) < (n : Int) := by omega
      have hi4 : (0 : Int) ≤ 2 * (k : Int) := by omega
      have hi5 : (0 : Int) ≤ 2 * (k : Int) + 1 := by omega
      have hi6 : (2 * (k : Int)).toNat = 2 * k := by omega
      have hi7 : (2 * (k : Int) + 1).toNat = 2 * k + 1 := by omega
      have hi8 : IntKind.i64.wrap (2 * (k : Int) + 1 + 2) = 2 * (k : Int) + 1 + 2 := IntWalk.i64_in _ (by omega)
      go_wp2_with fail
      have h0 : Below w1.heap.size w1 wr.drew := HB.out.drew
      have hd : Below w.heap.size w wr := HBw.out
      refine wp_region_held_drew (S := fun w' => Below w1.heap.size w1 w') (by kernel_rfl) h0 (fun hHeld => ?_)
      refine wpAnyH_take (i := 0) (v := ?_) rfl (by kernel_rfl) (by kernel_rfl) (by kernel_rfl) (fun _ _ _ h => h) (Or.inl ⟨by rfl, ?_⟩) (by assumption) ?_
      rotate_left
      · intro w' hSw
        have d1 := below_cell (below_trans hb4 hSw) C1.out
        have d2 := below_cell (below_trans hb4 hSw) C2.out
        rw [Nat.mul_comm] at d1 d2
        go_simp
        try rfl
      simp only [Act.put, List.setIfInBounds_toArray, List.set_cons_zero, List.set_cons_succ, List.getElem_toArray, List.getElem_cons_zero]
      refine wpAnyH_take (i := 1) (v := ?_) rfl (by kernel_rfl) (by kernel_rfl) (by kernel_rfl) (fun _ _ _ h => h) (Or.inl ⟨by rfl, ?_⟩) (by assumption) ?_
      rotate_left
      · intro w' hSw
        have d1 := below_cell (below_trans hb4 hSw) C1.out
        have d2 := below_cell (below_trans hb4 hSw) C2.out
        rw [Nat.mul_comm] at d1 d2
        go_simp
        try rfl
      simp only [Act.put, List.setIfInBounds_toArray, List.set_cons_zero, List.set_cons_succ, List.getElem_toArray, List.getElem_cons_succ, List.getElem_cons_zero]
      refine wpAnyH_take (i := 2) (v := ?_) rfl (by kernel_rfl) (by kernel_rfl) (by kernel_rfl) (fun _ _ _ h => h) (Or.inl ⟨by rfl, ?_⟩) (by assumption) ?_
      rotate_left
      · intro w' hSw
        have d1 := below_cell (below_trans hb4 hSw) C1.out
        have d2 := below_cell (below_trans hb4 hSw) C2.out
        rw [Nat.mul_comm] at d1 d2
        go_simp
        try rfl
      simp only [Act.put, List.setIfInBounds_toArray, List.set_cons_zero, List.set_cons_succ, List.getElem_toArray, List.getElem_cons_succ, List.getElem_cons_zero]
      refine wpAnyH_take (i := 3) (v := ?_) rfl (by kernel_rfl) (by kernel_rfl) (by kernel_rfl) (fun _ _ _ h => h) (Or.inl ⟨by rfl, ?_⟩) (by assumption) ?_
      rotate_left
      · intro w' hSw
        have d1 := below_cell (below_trans hb4 hSw) C1.out
        have d2 := below_cell (below_trans hb4 hSw) C2.out
        rw [Nat.mul_comm] at d1 d2
        go_simp
        try rfl
      simp only [Act.put, List.setIfInBounds_toArray, List.set_cons_zero, List.set_cons_succ, List.getElem_toArray, List.getElem_cons_succ, List.getElem_cons_zero]
      refine wpAnyH_take (i := 4) (v := ?_) rfl (by kernel_rfl) (by kernel_rfl) (by kernel_rfl) (fun _ _ _ h => h) (Or.inl ⟨by rfl, ?_⟩) (by assumption) ?_
      rotate_left
      · intro w' hSw
        have d1 := below_cell (below_trans hb4 hSw) C1.out
        have d2 := below_cell (below_trans hb4 hSw) C2.out
        rw [Nat.mul_comm] at d1 d2
        go_simp
        try rfl
      simp only [Act.put, List.setIfInBounds_toArray, List.set_cons_zero, List.set_cons_succ, List.getElem_toArray, List.getElem_cons_succ, List.getElem_cons_zero]
      refine wpAnyH_take (i := 5) (v := ?_) rfl (by kernel_rfl) (by kernel_rfl) (by kernel_rfl) (fun _ _ _ h => h) (Or.inl ⟨by rfl, ?_⟩) (by assumption) ?_
      rotate_left
      · intro w' hSw
        have d1 := below_cell (below_trans hb4 hSw) C1.out
        have d2 := below_cell (below_trans hb4 hSw) C2.out
        rw [Nat.mul_comm] at d1 d2
        go_simp
        try rfl
      simp only [Act.put, List.setIfInBounds_toArray, List.set_cons_zero, List.set_cons_succ, List.getElem_toArray, List.getElem_cons_succ, List.getElem_cons_zero]
      refine wpAnyH_take (i := 6) (v := ?_) rfl (by kernel_rfl) (by kernel_rfl) (by kernel_rfl) (fun _ _ _ h => h) (Or.inl ⟨by rfl, ?_⟩) (by assumption) ?_
      rotate_left
      · intro w' hSw
        have d1 := below_cell (below_trans hb4 hSw) C1.out
        have d2 := below_cell (below_trans hb4 hSw) C2.out
        rw [Nat.mul_comm] at d1 d2
        go_simp
        try rfl
      simp only [Act.put, List.setIfInBounds_toArray, List.set_cons_zero, List.set_cons_succ, List.getElem_toArray, List.getElem_cons_succ, List.getElem_cons_zero]
      refine wpAnyH_take (i := 7) (v := ?_) rfl (by kernel_rfl) (by kernel_rfl) (by kernel_rfl) (fun _ _ _ h => h) (Or.inl ⟨by rfl, ?_⟩) (by assumption) ?_
      rotate_left
      · intro w' hSw
        have d1 := below_cell (below_trans hb4 hSw) C1.out
        have d2 := below_cell (below_trans hb4 hSw) C2.out
        rw [Nat.mul_comm] at d1 d2
        go_simp
        try rfl
      simp only [Act.put, List.setIfInBounds_toArray, List.set_cons_zero, List.set_cons_succ, List.getElem_toArray, List.getElem_cons_succ, List.getElem_cons_zero]
      refine wpAnyH_take (i := 8) (v := ?_) rfl (by kernel_rfl) (by kernel_rfl) (by kernel_rfl) (fun _ _ _ h => h) (Or.inl ⟨by rfl, ?_⟩) (by assumption) ?_
      rotate_left
      · intro w' hSw
        have d1 := below_cell (below_trans hb4 hSw) C1.out
        have d2 := below_cell (below_trans hb4 hSw) C2.out
        rw [Nat.mul_comm] at d1 d2
        go_simp
        try rfl
      simp only [Act.put, List.setIfInBounds_toArray, List.set_cons_zero, List.set_cons_succ, List.getElem_toArray, List.getElem_cons_succ, List.getElem_cons_zero]
      refine wpAnyH_take (i := 9) (v := ?_) rfl (by kernel_rfl) (by kernel_rfl) (by kernel_rfl) (fun _ _ _ h => h) (Or.inl ⟨by rfl, ?_⟩) (by assumption) ?_
      rotate_left
      · intro w' hSw
        have d1 := below_cell (below_trans hb4 hSw) C1.out
        have d2 := below_cell (below_trans hb4 hSw) C2.out
        rw [Nat.mul_comm] at d1 d2
        go_simp
        try rfl
      simp only [Act.put, List.setIfInBounds_toArray, List.set_cons_zero, List.set_cons_succ, List.getElem_toArray, List.getElem_cons_succ, List.getElem_cons_zero]
      refine wpAnyH_take (i := 10) (v := ?_) rfl (by kernel_rfl) (by kernel_rfl) (by kernel_rfl) (fun _ _ _ h => h) (Or.inl ⟨by rfl, ?_⟩) (by assumption) ?_
      rotate_left
      · intro w' hSw
        have d1 := below_cell (below_trans hb4 hSw) C1.out
        have d2 := below_cell (below_trans hb4 hSw) C2.out
        rw [Nat.mul_comm] at d1 d2
        go_simp
        try rfl
      simp only [Act.put, List.setIfInBounds_toArray, List.set_cons_zero, List.set_cons_succ, List.getElem_toArray, List.getElem_cons_succ, List.getElem_cons_zero]
      refine wpAnyH_ready (rs := [11]) (by kernel_rfl) (by simp) ?_
      refine AllReadyH.cons rfl (fun K hK => ?_) AllReadyH.nil
      go_simp
      refine hK.out _ _ (h0.alloc h0.size _) (fun hHeld => ?_)
      clear hK K
      try simp only [Act.put, List.setIfInBounds_toArray, List.set_cons_zero, List.set_cons_succ, List.getElem_toArray, List.getElem_cons_succ, List.getElem_cons_zero]
      refine wpAnyH_ready (rs := [12]) (by kernel_rfl) (by simp) ?_
      refine AllReadyH.cons rfl (fun K hK => ?_) AllReadyH.nil
      refine held_append_r (w := wr.drew) rfl _ _ rfl w1.heap.size _ (R.take k) rfl HO.out x y _ rfl rfl rfl HKL.out h0.size ?_
      intro va2 wa2 hoa hba
      have HOA := Lib.hid hoa
      have HBA := Lib.hid (hba _ _ h0 (Nat.le_refl _))
      clear hoa hba
      refine hK.out _ _ HBA.out (fun hHeld => ?_)
      clear hK K
      try simp only [Act.put, List.setIfInBounds_toArray, List.set_cons_zero, List.set_cons_succ, List.getElem_toArray, List.getElem_cons_succ, List.getElem_cons_zero]
      refine wpAnyH_take (i := 13) (v := ?_) rfl (by kernel_rfl) (by kernel_rfl) (by kernel_rfl) (fun _ _ _ h => h) (Or.inl ⟨by rfl, ?_⟩) (by assumption) ?_
      rotate_left
      · intro w' hSw
        go_simp
        try rfl
      simp only [Act.put, List.setIfInBounds_toArray, List.set_cons_zero, List.set_cons_succ, List.getElem_toArray, List.getElem_cons_succ, List.getElem_cons_zero]
      refine wpAnyH_done (by kernel_rfl) ?_ _
      go_wp2_with fail
      go_roundw
      case rel => exact ⟨k + 1, by omega, by go_num, by rw [HT.out]; exact HOA.out, HBA.out⟩
      case measure => simp [intOf]; omega
    · obtain rfl : k = R.length := by omega
      have ho := HO.out
      rw [List.take_length] at ho
      have hwf : Wf R := wf_canon HR.out.2
      have HRs := Lib.hid (rs_own ho hwf)
      clear ho hwf
      have hni : ¬ (2 * (R.length : Int) + 1) < (n : Int) := by omega
      have HNew := Lib.hid (fun v (h : RsAt wr v R) => new_any v R 1114111 wr h (by omega) (by decide) (by decide))
      go_wp2_with fail
      refine (HNew.out _ HRs.out).mono ?_
      rintro e w2 ⟨va, S, rfl, hS, hh, hz, hb2⟩
      obtain rfl : S = R := set_of HR.out hS hh
      obtain ⟨k4, g4⟩ := keeps (below_trans HB.out hb2) hlt4 C4.out F4.out
      obtain ⟨a2, cap2, rfl⟩ := zsAt_len hz
      have HZ := Lib.hid hz
      have HB2 := Lib.hid (below_trans HB.out hb2)
      have hsz := HB.out.size
      clear hS hh hz hb2
      go_wp2_with fail
      refine bodyPost_ret (v := .agg #[.slice a2 S.length cap2]) (by simp [results, Tryd.results53, go_sem, k4]) rfl ?_
      exact ⟨_, rfl, zsAt_mono (zsAt_set (zsAt_mono HZ.out hsz) hlt4 _) (Nat.le_of_lt hlt4), (hb4.trans (HB2.out.mono (Nat.le_of_lt hlt4))).setCell (Nat.le_refl _) _⟩
end Go.Proofs.YtgdhhpbpbkgmeaaDoor.prw
