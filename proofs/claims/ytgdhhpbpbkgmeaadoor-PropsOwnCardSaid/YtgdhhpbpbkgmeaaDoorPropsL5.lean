/- The walk of the law PropsOwn; before it, the document's answers, in new memory. -/
import Derived.Test.YtgdhhpbpbkgmeaaDoorPropsD2
import Derived.Test.YtgdhhpbpbkgmeaaDoorPropsR1
import Derived.Test.YtgdhhpbpbkgmeaaDoorUcdR2
import Derived.Test.YtgdhhpbpbkgmeaaDoorSetsJ4
import Derived.Test.YtgdhhpbpbkgmeaaDoorSetsJ32
import Derived.Test.YtgdhhpbpbkgmeaaDoorSetsJ6
import Derived.Maps.AppendAt
import Derived.Test.YtgdhhpbpbkgmeaaDoorPropsA
namespace Go.Proofs.YtgdhhpbpbkgmeaaDoor.prd
open Go Go.RowKit Go.Proofs.YtgdhhpbpbkgmeaaDoor.bulk Go.Proofs.YtgdhhpbpbkgmeaaDoor.ucdp Go.Proofs.YtgdhhpbpbkgmeaaDoor.setp Go.Proofs.YtgdhhpbpbkgmeaaDoor.setw Go.Proofs.YtgdhhpbpbkgmeaaDoor.prp Go.Proofs.YtgdhhpbpbkgmeaaDoor.prw
open Go.Proofs.YtgdhhpbpbkgmeaaDoor.ucdw (below_cell below_trans below_alloc below_drew refC)

/-- what the document's Property answers, in new memory -/
def DPN (n : ByteArray) (w : World) (e : Ending) (w' : World) : Prop := ∃ v S, e = .returned (.tuple #[v, .bool (isP n)]) ∧ Canon S ∧ (∀ c, Has S c ↔ 0 ≤ c ∧ c ≤ 1114111 ∧ propP n c = true) ∧ OwnR w' w.heap.size v S ∧ Below w.heap.size w w'
theorem dpn_none {n : ByteArray} {w w' : World} (hi : isP n = false) (hF : ∀ c, (Has [] c ∧ 0 ≤ c ∧ c ≤ 1114111) ↔ 0 ≤ c ∧ c ≤ 1114111 ∧ propP n c = true) (hb : Below w.heap.size w w') : DPN n w (.returned (.tuple #[.slice none 0 0, .bool false])) w' :=
  ⟨_, [], by rw [hi], canon_nil, fun c => ⟨fun h => absurd h (has_nil _), fun h => ((hF c).2 h).1⟩, ownR_nil _ _, hb⟩
theorem dpn_some {n : ByteArray} {w w' : World} {v : Value} {S : List Rg} (hi : isP n = true) (hS : Canon S) (hh : ∀ c, Has S c ↔ 0 ≤ c ∧ c ≤ 1114111 ∧ propP n c = true) (hr : OwnR w' w.heap.size v S) (hb : Below w.heap.size w w') : DPN n w (.returned (.tuple #[v, .bool true])) w' :=
  ⟨v, S, by rw [hi], hS, hh, hr, hb⟩
set_option maxRecDepth 100000 in
set_option maxHeartbeats 8000000 in
theorem dprop_new (n : ByteArray) (w : World) (hn : n ≠ cAny) : Calls Tryd.prog 34 #[.string n] w (DPN n w) := by
  have hA : ¬ n.toList = [65, 110, 121] := fun e => hn (eq_lit e)
  have HNE := Lib.hid hn
  have bA : (n.toList == [65, 110, 121]) = false := by simp [hA]
  clear hn
  go_enter Tryd.func34, Tryd.ntmps34
  go_wp2_with fail
  refine (Go.Proofs.YtgdhhpbpbkgmeaaDoor.ucdw.table_any w).mono ?_
  rintro e w2 ⟨vt, rfl, ht, hb2⟩
  obtain ⟨g, cap, rfl, _, hg2, hc1, hc2, hcell⟩ := Go.Proofs.YtgdhhpbpbkgmeaaDoor.ucdw.ownR_open ht
  have HG := Lib.hid hcell
  have HB2 := Lib.hid hb2
  clear ht hb2 hcell
  go_wp2_with fail
  go_loopw [4, 5, 7] (fun v4 v5 i wr => DRel n w2 v4 v5 i wr) (fun _ _ i _ => 81 - (intOf i).toNat)
  case atStart => exact ⟨0, Nat.zero_le _, rfl, ownR_nil _ _, ownR_nil _ _, Below.refl _ _, fun b h => by cases h⟩
  case round =>
    obtain ⟨k, hk, rfl, ho4, ho5, hb, hne⟩ := hrel
    have HO4 := Lib.hid ho4
    have HO5 := Lib.hid ho5
    have HB := Lib.hid hb
    have HNe := Lib.hid hne
    clear ho4 ho5 hb hne
    by_cases hlt : k < 81
    · have f0 := HG.out k 0 hlt (by decide)
      have f1 := HG.out k 1 hlt (by decide)
      have f2 := HG.out k 2 hlt (by decide)
      have f3 := HG.out k 3 hlt (by decide)
      have hds := dl_succ n k
      have hda : da (k + 1) = da k ++ [((rw5 k).1, (rw5 k).2.1)] := rfl
      have hin := rw5_in hlt
      obtain ⟨lo, hi, kk, ss, sh, hr5⟩ : ∃ lo hi kk ss sh, rw5 k = (lo, hi, kk, ss, sh) := ⟨_, _, _, _, _, rfl⟩
      have hr5' : Go.Proofs.YtgdhhpbpbkgmeaaDoor.ucdw.rk k = (lo, hi, kk, ss, sh) := hr5
      rw [hr5] at hds hda hin
      simp only [hr5', refC] at f0 f1 f2 f3
      simp only [List.getElem?_cons_zero, List.getElem?_cons_succ, Nat.add_zero] at f0 f1 f2 f3
      have hki : (k : Int) < 81 := by omega
      have hin2 := hin.1.1
      clear hin hr5 hr5'
      have F0 := Lib.hid f0
      have F1 := Lib.hid f1
      have F2 := Lib.hid f2
      have F3 := Lib.hid f3
      clear f0 f1 f2 f3
      go_wp2_with fail
      have h0 : Below w2.heap.size w2 wr.drew := HB.out.drew
      refine wp_region_held_drew (S := fun w' => Below w2.heap.size w2 w') (by kernel_rfl) h0 (fun hHeld => ?_)
      refine wpAnyH_take (i := 0) (v := ?_) rfl (by kernel_rfl) (by kernel_rfl) (by kernel_rfl) (fun _ _ _ h => h) (Or.inl ⟨by rfl, ?_⟩) (by assumption) ?_
      rotate_left
      · intro w' hSw
        have d0 := below_cell hSw F0.out
        have d1 := below_cell hSw F1.out
        go_simp
        try rfl
      simp only [Act.put, List.setIfInBounds_toArray, List.set_cons_zero, List.set_cons_succ, List.getElem_toArray, List.getElem_cons_zero]
      refine wpAnyH_take (i := 1) (v := ?_) rfl (by kernel_rfl) (by kernel_rfl) (by kernel_rfl) (fun _ _ _ h => h) (Or.inl ⟨by rfl, ?_⟩) (by assumption) ?_
      rotate_left
      · intro w' hSw
        have d0 := below_cell hSw F0.out
        have d1 := below_cell hSw F1.out
        go_simp
        try rfl
      simp only [Act.put, List.setIfInBounds_toArray, List.set_cons_zero, List.set_cons_succ, List.getElem_toArray, List.getElem_cons_succ, List.getElem_cons_zero]
      refine wpAnyH_take (i := 2) (v := ?_) rfl (by kernel_rfl) (by kernel_rfl) (by kernel_rfl) (fun _ _ _ h => h) (Or.inl ⟨by rfl, ?_⟩) (by assumption) ?_
      rotate_left
      · intro w' hSw
        have d0 := below_cell hSw F0.out
        have d1 := below_cell hSw F1.out
        go_simp
        try rfl
      simp only [Act.put, List.setIfInBounds_toArray, List.set_cons_zero, List.set_cons_succ, List.getElem_toArray, List.getElem_cons_succ, List.getElem_cons_zero]
      refine wpAnyH_take (i := 3) (v := ?_) rfl (by kernel_rfl) (by kernel_rfl) (by kernel_rfl) (fun _ _ _ h => h) (Or.inl ⟨by rfl, ?_⟩) (by assumption) ?_
      rotate_left
      · intro w' hSw
        have d0 := below_cell hSw F0.out
        have d1 := below_cell hSw F1.out
        go_simp
        try rfl
      simp only [Act.put, List.setIfInBounds_toArray, List.set_cons_zero, List.set_cons_succ, List.getElem_toArray, List.getElem_cons_succ, List.getElem_cons_zero]
      refine wpAnyH_take (i := 4) (v := ?_) rfl (by kernel_rfl) (by kernel_rfl) (by kernel_rfl) (fun _ _ _ h => h) (Or.inl ⟨by rfl, ?_⟩) (by assumption) ?_
      rotate_left
      · intro w' hSw
        have d0 := below_cell hSw F0.out
        have d1 := below_cell hSw F1.out
        go_simp
        try rfl
      simp only [Act.put, List.setIfInBounds_toArray, List.set_cons_zero, List.set_cons_succ, List.getElem_toArray, List.getElem_cons_succ, List.getElem_cons_zero]
      refine wpAnyH_take (i := 5) (v := ?_) rfl (by kernel_rfl) (by kernel_rfl) (by kernel_rfl) (fun _ _ _ h => h) (Or.inl ⟨by rfl, ?_⟩) (by assumption) ?_
      rotate_left
      · intro w' hSw
        have d0 := below_cell hSw F0.out
        have d1 := below_cell hSw F1.out
        go_simp
        try rfl
      simp only [Act.put, List.setIfInBounds_toArray, List.set_cons_zero, List.set_cons_succ, List.getElem_toArray, List.getElem_cons_succ, List.getElem_cons_zero]
      refine wpAnyH_take (i := 6) (v := ?_) rfl (by kernel_rfl) (by kernel_rfl) (by kernel_rfl) (fun _ _ _ h => h) (Or.inl ⟨by rfl, ?_⟩) (by assumption) ?_
      rotate_left
      · intro w' hSw
        have d0 := below_cell hSw F0.out
        have d1 := below_cell hSw F1.out
        go_simp
        try rfl
      simp only [Act.put, List.setIfInBounds_toArray, List.set_cons_zero, List.set_cons_succ, List.getElem_toArray, List.getElem_cons_succ, List.getElem_cons_zero]
      refine wpAnyH_take (i := 7) (v := ?_) rfl (by kernel_rfl) (by kernel_rfl) (by kernel_rfl) (fun _ _ _ h => h) (Or.inl ⟨by rfl, ?_⟩) (by assumption) ?_
      rotate_left
      · intro w' hSw
        have d0 := below_cell hSw F0.out
        have d1 := below_cell hSw F1.out
        go_simp
        try rfl
      simp only [Act.put, List.setIfInBounds_toArray, List.set_cons_zero, List.set_cons_succ, List.getElem_toArray, List.getElem_cons_succ, List.getElem_cons_zero]
      refine wpAnyH_take (i := 8) (v := ?_) rfl (by kernel_rfl) (by kernel_rfl) (by kernel_rfl) (fun _ _ _ h => h) (Or.inl ⟨by rfl, ?_⟩) (by assumption) ?_
      rotate_left
      · intro w' hSw
        have d0 := below_cell hSw F0.out
        have d1 := below_cell hSw F1.out
        go_simp
        try rfl
      simp only [Act.put, List.setIfInBounds_toArray, List.set_cons_zero, List.set_cons_succ, List.getElem_toArray, List.getElem_cons_succ, List.getElem_cons_zero]
      refine wpAnyH_take (i := 9) (v := ?_) rfl (by kernel_rfl) (by kernel_rfl) (by kernel_rfl) (fun _ _ _ h => h) (Or.inl ⟨by rfl, ?_⟩) (by assumption) ?_
      rotate_left
      · intro w' hSw
        have d0 := below_cell hSw F0.out
        have d1 := below_cell hSw F1.out
        go_simp
        try rfl
      simp only [Act.put, List.setIfInBounds_toArray, List.set_cons_zero, List.set_cons_succ, List.getElem_toArray, List.getElem_cons_succ, List.getElem_cons_zero]
      refine wpAnyH_take (i := 10) (v := ?_) rfl (by kernel_rfl) (by kernel_rfl) (by kernel_rfl) (fun _ _ _ h => h) (Or.inl ⟨by rfl, ?_⟩) (by assumption) ?_
      rotate_left
      · intro w' hSw
        have d0 := below_cell hSw F0.out
        have d1 := below_cell hSw F1.out
        go_simp
        try rfl
      simp only [Act.put, List.setIfInBounds_toArray, List.set_cons_zero, List.set_cons_succ, List.getElem_toArray, List.getElem_cons_succ, List.getElem_cons_zero]
      refine wpAnyH_ready (rs := [11]) (by kernel_rfl) (by simp) ?_
      refine AllReadyH.cons rfl (fun K hK => ?_) AllReadyH.nil
      go_simp
      refine hK.out _ _ (h0.alloc h0.size _) (fun hHeld => ?_)
      clear hK K
      try simp only [Act.put, List.setIfInBounds_toArray, List.set_cons_zero, List.set_cons_succ, List.getElem_toArray, List.getElem_cons_succ, List.getElem_cons_zero]
      refine wpAnyH_ready (rs := [12]) (by kernel_rfl) (by simp) ?_
      refine AllReadyH.cons rfl (fun K hK => ?_) AllReadyH.nil
      go_simp
      refine hK.out _ _ (h0.alloc h0.size _) (fun hHeld => ?_)
      clear hK K
      try simp only [Act.put, List.setIfInBounds_toArray, List.set_cons_zero, List.set_cons_succ, List.getElem_toArray, List.getElem_cons_succ, List.getElem_cons_zero]
      refine wpAnyH_done (by kernel_rfl) ?_ _
      obtain ⟨c0, c1, hbx, ho4x, ho5x, h4b, h5b, hBx⟩ : World.cell? (World.drew (wr.alloc (Obj.cells #[Value.int IntKind.i64 lo, Value.int IntKind.i64 hi] 52))) ⟨wr.heap.size, 0, none⟩ = some (.int .i64 lo) ∧ World.cell? (World.drew (wr.alloc (Obj.cells #[Value.int IntKind.i64 lo, Value.int IntKind.i64 hi] 52))) ⟨wr.heap.size, 1, none⟩ = some (.int .i64 hi) ∧ Below w2.heap.size w2 (World.drew (wr.alloc (Obj.cells #[Value.int IntKind.i64 lo, Value.int IntKind.i64 hi] 52))) ∧ OwnR (World.drew (wr.alloc (Obj.cells #[Value.int IntKind.i64 lo, Value.int IntKind.i64 hi] 52))) w2.heap.size u4 (dl n k) ∧ OwnR (World.drew (wr.alloc (Obj.cells #[Value.int IntKind.i64 lo, Value.int IntKind.i64 hi] 52))) w2.heap.size u5 (da k) ∧ (∀ b, u4.ownBlock = some b → b < wr.heap.size) ∧ (∀ b, u5.ownBlock = some b → b < wr.heap.size) ∧ wr.heap.size < (World.drew (wr.alloc (Obj.cells #[Value.int IntKind.i64 lo, Value.int IntKind.i64 hi] 52))).heap.size := by
        refine ⟨?_, ?_, h0.alloc h0.size _, ownR_below HO4.out (show Below wr.heap.size wr (World.drew (wr.alloc _)) from (below_alloc wr _).drew), ownR_below HO5.out (show Below wr.heap.size wr (World.drew (wr.alloc _)) from (below_alloc wr _).drew), fun b hb => (World.ownsRow.lt HO4.out.1 b hb).2, fun b hb => (World.ownsRow.lt HO5.out.1 b hb).2, ?_⟩
        · show World.cell? (wr.alloc _) ⟨wr.heap.size, 0, none⟩ = _
          rw [World.cell?_alloc_new]; rfl
        · show World.cell? (wr.alloc _) ⟨wr.heap.size, 1, none⟩ = _
          rw [World.cell?_alloc_new]; rfl
        · show wr.heap.size < (wr.alloc _).heap.size
          rw [World.size_alloc]; omega
      generalize World.drew (wr.alloc (Obj.cells #[Value.int IntKind.i64 lo, Value.int IntKind.i64 hi] 52)) = wx at *
      have C0 := Lib.hid c0
      have C1 := Lib.hid c1
      have HBx := Lib.hid hbx
      have HO4x := Lib.hid ho4x
      have HO5x := Lib.hid ho5x
      have H4b := Lib.hid h4b
      have H5b := Lib.hid h5b
      have HdaL := Lib.hid (show (da k).length ≤ 100000000 by rw [da_len]; omega)
      have HdlL := Lib.hid (show (dl n k).length ≤ 100000000 by have := dl_len n k; omega)
      clear h0 hHeld hbx ho4x ho5x h4b h5b HO4 HO5 HB
      generalize wr.heap.size = B0 at *
      go_upto_region 11 with (at_builtin; refine wpList_append_rg rfl _ _ rfl w2.heap.size u5 (da k) rfl HO5x.out lo hi _ rfl rfl HdaL.out HBx.out.size ?_; intro v5 w3 ho5 hb5 hg5 hat5)
      have HO5 := Lib.hid (show OwnR w3 w2.heap.size v5 (da (k + 1)) from by rw [hda]; exact ho5)
      have HO4 := Lib.hid (ownR_apart HO4x.out hg5 HNe.out)
      have HB3 := Lib.hid (hb5 _ _ HBx.out (Nat.le_refl _))
      have D0 := Lib.hid (hg5.cell C0.out (fun e => absurd (H5b.out B0 e.symm) (Nat.lt_irrefl _)))
      have D1 := Lib.hid (hg5.cell C1.out (fun e => absurd (H5b.out B0 e.symm) (Nat.lt_irrefl _)))
      have HN5 := Lib.hid (show ∀ b, u4.ownBlock = some b → v5.ownBlock ≠ some b from fun b hb e => by
        rcases hat5 with h | ⟨q, h, hq⟩
        · exact HNe.out b hb (h ▸ e)
        · rw [h] at e
          have e2 : q = b := Option.some.inj e
          have := H4b.out b hb
          omega)
      have H4c := Lib.hid (show ∀ b, u4.ownBlock = some b → b < w3.heap.size from fun b hb => (World.ownsRow.lt HO4.out.1 b hb).2)
      have HB0 := Lib.hid (Nat.lt_of_lt_of_le hBx hg5.size)
      clear ho5 hb5 hg5 hat5 c0 c1 C0 C1 HBx HO4x HO5x HNe H4b H5b hda hBx
      have d2 := below_cell HB3.out F2.out
      have d3 := below_cell HB3.out F3.out
      obtain ⟨cb, hcb⟩ : ∃ cb, catB kk = cb := ⟨_, rfl⟩
      obtain ⟨sb, hsb⟩ : ∃ sb, scrB ss = sb := ⟨_, rfl⟩
      have hsz : cb.size = 2 := by rw [← hcb]; exact cat_two hin2
      have hsz2 : (1 : Int) ≤ (cb.size : Int) := by omega
      have HMB := Lib.hid (show mB n kk ss = (((cb.toList == n.toList) || (sb.toList == n.toList)) || (decide (n.size = 1) && ((cb.extract 0 1).toList == n.toList)) || ((n.toList == [76, 38]) && ((cb.toList == [76, 117]) || (cb.toList == [76, 108])))) from mB_walk hcb hsb)
      rw [hcb] at d2
      rw [hsb] at d3
      clear F0 F1 F2 F3 hcb hsb
      go_upto_region 12 with (fail)
      go_cut [74] from 14 to 78 (fun v w' => v = .bool (mB n kk ss) ∧ w' = w3)
      case first =>
        by_cases h1 : cb.toList = n.toList
        · have b1 : (cb.toList == n.toList) = true := by simp [h1]
          go_wp2_with fail
          go_meet
          exact ⟨by rw [HMB.out]; simp [*], rfl⟩
        have b1 : (cb.toList == n.toList) = false := by simp [h1]
        by_cases h2 : sb.toList = n.toList
        · have b2 : (sb.toList == n.toList) = true := by simp [h2]
          go_wp2_with fail
          go_meet
          exact ⟨by rw [HMB.out]; simp [*], rfl⟩
        have b2 : (sb.toList == n.toList) = false := by simp [h2]
        by_cases h3 : n.size = 1
        · have b3 : decide (n.size = 1) = true := decide_eq_true h3
          have b3i : ((n.size : Int) == 1) = true := by simp [h3]
          by_cases h4 : (cb.extract 0 1).toList = n.toList
          · have b4 : ((cb.extract 0 1).toList == n.toList) = true := by simp [h4]
            go_wp2_with fail
            go_meet
            exact ⟨by rw [HMB.out]; simp [*], rfl⟩
          have b4 : ((cb.extract 0 1).toList == n.toList) = false := by simp [h4]
          have h5 : ¬ n.toList = [76, 38] := fun e => by
            have e2 := eq_lit (a := #[76, 38]) e
            rw [e2] at h3
            exact absurd h3 (by decide)
          have b5 : (n.toList == [76, 38]) = false := by simp [h5]
          go_wp2_with fail
          go_meet
          exact ⟨by rw [HMB.out]; simp [*], rfl⟩
        have b3 : decide (n.size = 1) = false := decide_eq_false h3
        have b3i : ((n.size : Int) == 1) = false := by simp; omega
        by_cases h5 : n.toList = [76, 38]
        · have b5 : (n.toList == [76, 38]) = true := by simp [h5]
          clear h5
          by_cases h6 : cb.toList = [76, 117]
          · have b6 : (cb.toList == [76, 117]) = true := by simp [h6]
            clear h6
            go_wp2_with fail
            go_meet
            exact ⟨by rw [HMB.out]; simp [*], rfl⟩
          have b6 : (cb.toList == [76, 117]) = false := by simp [h6]
          by_cases h7 : cb.toList = [76, 108]
          · have b7 : (cb.toList == [76, 108]) = true := by simp [h7]
            clear h7
            go_wp2_with fail
            go_meet
            exact ⟨by rw [HMB.out]; simp [*], rfl⟩
          have b7 : (cb.toList == [76, 108]) = false := by simp [h7]
          go_wp2_with fail
          go_meet
          exact ⟨by rw [HMB.out]; simp [*], rfl⟩
        have b5 : (n.toList == [76, 38]) = false := by simp [h5]
        go_wp2_with fail
        go_meet
        exact ⟨by rw [HMB.out]; simp [*], rfl⟩
      case rest =>
        obtain ⟨rfl, rfl⟩ := hcut
        clear HMB d2 d3
        have d0 := D0.out
        have d1 := D1.out
        cases hm : mB n kk ss
        · rw [hm, if_neg (by simp)] at hds
          have HDS := Lib.hid hds
          clear hds
          go_wp2_with fail
          go_roundw
          case rel => exact ⟨k + 1, by omega, by go_num, by rw [HDS.out]; exact HO4.out, HO5.out, HB3.out, HN5.out⟩
          case measure => simp [intOf]; omega
        · rw [hm, if_pos rfl] at hds
          have HDS := Lib.hid hds
          clear hds
          go_wp2_with (at_builtin; refine wpList_append_rg rfl _ _ rfl w2.heap.size u4 (dl n k) rfl HO4.out lo hi _ rfl rfl HdlL.out HB3.out.size ?_; intro v4 w4 ho4 hb4 hg4 hat4; have HO4n := Lib.hid ho4; have HB4 := Lib.hid (hb4 _ _ HB3.out (Nat.le_refl _)); have HG4 := Lib.hid hg4; have HAt := Lib.hid hat4; clear ho4 hb4 hg4 hat4)
          go_roundw
          case rel => exact ⟨k + 1, by omega, by go_num, by rw [HDS.out]; exact HO4n.out, ownR_apart HO5.out HG4.out (fun b hb e => HN5.out b e hb), HB4.out, fun b hb e => by
            rcases HAt.out with h | ⟨q, h, hq⟩
            · exact HN5.out b (h ▸ hb) e
            · rw [h] at hb
              have e2 : q = b := Option.some.inj hb
              have := (World.ownsRow.lt HO5.out.1 b e).2
              omega⟩
          case measure => simp [intOf]; omega
    · obtain rfl : k = 81 := by omega
      clear HG
      have HCN := Lib.hid (show cnB n = (((n.toList == [67, 110]) || (n.toList == [67])) || (n.toList == [85, 110, 107, 110, 111, 119, 110])) from cn_walk n)
      go_upto_region 14 with (fail)
      go_cut [88] (fun v w' => v = .bool (cnB n) ∧ w' = wr)
      case first =>
        by_cases h1 : n.toList = [67, 110]
        · have b1 : (n.toList == [67, 110]) = true := by simp [h1]
          go_wp2_with fail
          go_meet
          exact ⟨by rw [HCN.out]; simp [*], rfl⟩
        have b1 : (n.toList == [67, 110]) = false := by simp [h1]
        by_cases h2 : n.toList = [67]
        · have b2 : (n.toList == [67]) = true := by simp [h2]
          go_wp2_with fail
          go_meet
          exact ⟨by rw [HCN.out]; simp [*], rfl⟩
        have b2 : (n.toList == [67]) = false := by simp [h2]
        by_cases h3 : n.toList = [85, 110, 107, 110, 111, 119, 110]
        · have b3 : (n.toList == [85, 110, 107, 110, 111, 119, 110]) = true := by simp [h3]
          go_wp2_with fail
          go_meet
          exact ⟨by rw [HCN.out]; simp [*], rfl⟩
        have b3 : (n.toList == [85, 110, 107, 110, 111, 119, 110]) = false := by simp [h3]
        go_wp2_with fail
        go_meet
        exact ⟨by rw [HCN.out]; simp [*], rfl⟩
      case rest =>
        obtain ⟨rfl, rfl⟩ := hcut
        clear HCN
        have HBw := Lib.hid (HB2.out.trans (HB.out.mono HB2.out.size))
        cases hc : cnB n
        · have hF := doc_has HNE.out (comp_has (da 81)) (F := dl n 81) (by rw [hc, if_neg (by simp)])
          have hN := doc_none HNE.out comp_ne (F := dl n 81) (by rw [hc, if_neg (by simp)])
          have HF := Lib.hid hF
          have HWf := Lib.hid (dl_wf n 81 (Nat.le_refl _))
          have hlen := dl_len n 81
          by_cases h0 : dl n 81 = []
          · have HI := Lib.hid (hN.1 h0)
            rw [h0] at HO4 HF
            obtain rfl := HO4.out.2 rfl
            clear hF hN HWf
            go_wp2_with fail
            go_ret2
            exact dpn_none HI.out HF.out HBw.out
          · have HI := Lib.hid (show isP n = true by
              cases h : isP n
              · exact absurd (hN.2 h) h0
              · rfl)
            obtain ⟨av, qv, rfl⟩ := ownR_len HO4.out
            have hpos : ¬ (((dl n 81).length : Int) = 0) := by
              intro e
              exact h0 (List.eq_nil_of_length_eq_zero (by omega))
            have HNew := Lib.hid (fun v (h : OwnR wc w2.heap.size v (dl n 81)) => rneww_any v (dl n 81) 1114111 wc (rs_own h HWf.out) (by omega) (by decide) (by decide))
            generalize dl n 81 = F at *
            clear hF hN
            go_wp2_with fail
            refine (HNew.out _ HO4.out).mono ?_
            rintro e w5 ⟨v5, S, rfl, hS, hh, ho, hb5⟩
            have HD := Lib.hid (dpn_some HI.out hS (fun c => (hh c).trans (HF.out c)) (ownR_mono ho HBw.out.size) (HBw.out.trans (hb5.mono HBw.out.size)))
            clear hS hh ho hb5
            go_wp2_with fail
            go_ret2
            exact HD.out
        · go_wp2_with fail
          refine (join2_any u5 (.slice none 0 0) (da 81) [] 1114111 wc (rs_own HO5.out (da_wf 81 (Nat.le_refl _))) (rs_nil _) (by rw [da_len]; omega) (by simp) (by decide) (by decide)).mono ?_
          rintro e w4 ⟨vj, J, rfl, hJ, hhJ, hoJ, hb4⟩
          have HJ := Lib.hid (show ∀ c, Has J c ↔ 0 ≤ c ∧ c ≤ 1114111 ∧ ¬ Has (da 81) c from fun c => by rw [hhJ c, qB_not]; rw [show min (1114111 : Int) 1114111 = 1114111 by decide])
          have hF := doc_has HNE.out HJ.out (F := dl n 81 ++ J) (by rw [hc, if_pos rfl])
          have h256 : Has J 256 := (HJ.out 256).2 ⟨by decide, by decide, no256⟩
          have hJn : J ≠ [] := fun e => by rw [e] at h256; exact has_nil _ h256
          have hN := doc_none HNE.out hJn (F := dl n 81 ++ J) (by rw [hc, if_pos rfl])
          have hjl := canon_len4 hJ
          have hlen := dl_len n 81
          have HF := Lib.hid hF
          have HWf := Lib.hid (wf_app (dl_wf n 81 (Nat.le_refl _)) (wf_canon hJ.2))
          have HI := Lib.hid (show isP n = true by
            cases h : isP n
            · exact absurd (List.append_eq_nil_iff.1 (hN.2 h)).2 hJn
            · rfl)
          have HO4b := Lib.hid (ownR_below HO4.out hb4)
          have HRJ := Lib.hid (rs_own hoJ (wf_canon hJ.2))
          have HB4 := Lib.hid (HB.out.trans (hb4.mono HB.out.size))
          have HLs := Lib.hid (show (dl n 81).length + J.length ≤ 100000000 by omega)
          have hJp : 0 < J.length := by
            rcases Nat.eq_zero_or_pos J.length with h | h
            · exact absurd (List.eq_nil_of_length_eq_zero h) hJn
            · exact h
          have hFl : (dl n 81 ++ J).length ≤ 600000 := by rw [List.length_append]; omega
          have hpos : ¬ (((dl n 81 ++ J).length : Int) = 0) := by rw [List.length_append]; omega
          clear hJ hhJ hoJ hb4 hF hN h256 hJn HJ
          go_upto_region 16 with (at_builtin; refine wpList_append_rs rfl _ _ rfl w2.heap.size u4 (dl n 81) rfl HO4b.out _ J rfl HRJ.out HLs.out HB4.out.size ?_; intro va wa hoa hba; have HOa := Lib.hid hoa; have HBa := Lib.hid (hba _ _ HB4.out (Nat.le_refl _)); clear hoa hba)
          have HBw2 := Lib.hid (HB2.out.trans (HBa.out.mono HB2.out.size))
          obtain ⟨av, qv, rfl⟩ := ownR_len HOa.out
          have HNew := Lib.hid (fun v (h : OwnR wa w2.heap.size v (dl n 81 ++ J)) => rneww_any v (dl n 81 ++ J) 1114111 wa (rs_own h HWf.out) hFl (by decide) (by decide))
          generalize dl n 81 ++ J = F at *
          go_wp2_with fail
          refine (HNew.out _ HOa.out).mono ?_
          rintro e w5 ⟨v5, S, rfl, hS, hh, ho, hb5⟩
          have HD := Lib.hid (dpn_some HI.out hS (fun c => (hh c).trans (HF.out c)) (ownR_mono ho HBw2.out.size) (HBw2.out.trans (hb5.mono HBw2.out.size)))
          clear hS hh ho hb5
          go_wp2_with fail
          go_ret2
          exact HD.out
end Go.Proofs.YtgdhhpbpbkgmeaaDoor.prd

namespace Go.Proofs.YtgdhhpbpbkgmeaaDoor.prw
open Go Go.RowKit Go.Proofs.YtgdhhpbpbkgmeaaDoor.bulk Go.Proofs.YtgdhhpbpbkgmeaaDoor.ucdp Go.Proofs.YtgdhhpbpbkgmeaaDoor.setp Go.Proofs.YtgdhhpbpbkgmeaaDoor.setw Go.Proofs.YtgdhhpbpbkgmeaaDoor.prp Go.Proofs.YtgdhhpbpbkgmeaaDoor.prd
open Go.Proofs.YtgdhhpbpbkgmeaaDoor.ucdw (below_trans below_cell below_alloc)

/-- a literal's ranges, in new memory -/
theorem ownR_lit {R : List Rg} {n : Nat} {cs : Array Value} {w : World} {B : Nat} (hB : B = w.heap.size) (h : cs.toList = rcs R) (hn : n = R.length) (hR : R ≠ []) (hl : R.length ≤ 1000) : OwnR (w.alloc (.cells cs 52)) w.heap.size (.slice (some ⟨B, 0, none⟩) n n) R := by
  subst hB
  subst hn
  refine ⟨?_, fun e => absurd e hR⟩
  have h2 := World.ownsRow_lit (base := w.heap.size) (e := 52) (size := 2) w cs R.length (Nat.le_refl _) (by unfold maxLen; omega) (by rw [← Array.length_toList, h, rcs_len])
  rw [h] at h2
  exact h2
/-- what the document's Posix and Escape answer at such names, in new memory -/
def RN2 (R : List Rg) (w : World) (e : Ending) (w' : World) : Prop := ∃ v, e = .returned (.tuple #[v, .bool true]) ∧ OwnR w' w.heap.size v R ∧ Below w.heap.size w w'
def nAlpha : ByteArray := ⟨#[97, 108, 112, 104, 97]⟩
def nPunct : ByteArray := ⟨#[112, 117, 110, 99, 116]⟩
def nSpace : ByteArray := ⟨#[115, 112, 97, 99, 101]⟩
def nWord : ByteArray := ⟨#[119, 111, 114, 100]⟩
theorem rp_alpha (w : World) : Calls Tryd.prog 30 #[.string nAlpha] w (RN2 [(65, 90), (97, 122)] w) := by
  unfold nAlpha
  go_enter Tryd.func30, Tryd.ntmps30
  go_wp2_with fail
  go_ret2
  exact ⟨_, rfl, ownR_lit rfl rfl rfl (by simp) (by simp), below_alloc _ _⟩
theorem rp_punct (w : World) : Calls Tryd.prog 30 #[.string nPunct] w (RN2 [(33, 47), (58, 64), (91, 96), (123, 126)] w) := by
  unfold nPunct
  go_enter Tryd.func30, Tryd.ntmps30
  go_wp2_with fail
  go_ret2
  exact ⟨_, rfl, ownR_lit rfl rfl rfl (by simp) (by simp), below_alloc _ _⟩
theorem rp_space (w : World) : Calls Tryd.prog 30 #[.string nSpace] w (RN2 [(9, 13), (32, 32)] w) := by
  unfold nSpace
  go_enter Tryd.func30, Tryd.ntmps30
  go_wp2_with fail
  go_ret2
  exact ⟨_, rfl, ownR_lit rfl rfl rfl (by simp) (by simp), below_alloc _ _⟩
theorem rp_word (w : World) : Calls Tryd.prog 30 #[.string nWord] w (RN2 [(48, 57), (65, 90), (95, 95), (97, 122)] w) := by
  unfold nWord
  go_enter Tryd.func30, Tryd.ntmps30
  go_wp2_with fail
  go_ret2
  exact ⟨_, rfl, ownR_lit rfl rfl rfl (by simp) (by simp), below_alloc _ _⟩
theorem re_v (w : World) : Calls Tryd.prog 32 #[.int .i64 118] w (RN2 [(10, 13), (133, 133), (8232, 8233)] w) := by
  go_enter Tryd.func32, Tryd.ntmps32
  go_wp2_with fail
  go_ret2
  exact ⟨_, rfl, ownR_lit rfl rfl rfl (by simp) (by simp), below_alloc _ _⟩
/-- the names that the law chooses among, and what each has -/
def names4 : List (ByteArray × List Rg) := [(nAlpha, [(65, 90), (97, 122)]), (nPunct, [(33, 47), (58, 64), (91, 96), (123, 126)]), (nSpace, [(9, 13), (32, 32)]), (nWord, [(48, 57), (65, 90), (95, 95), (97, 122)])]
theorem names4_ok {p : ByteArray × List Rg} (h : p ∈ names4) : posixP p.1 = p.2 ∧ posixB p.1 = true ∧ p.1.size ≤ maxLen ∧ p.2 ≠ [] ∧ ∀ w, Calls Tryd.prog 30 #[.string p.1] w (RN2 p.2 w) := by
  simp only [names4, List.mem_cons, List.not_mem_nil, or_false] at h
  rcases h with rfl | rfl | rfl | rfl
  · exact ⟨by decide +kernel, by decide +kernel, by unfold maxLen; decide, by simp, rp_alpha⟩
  · exact ⟨by decide +kernel, by decide +kernel, by unfold maxLen; decide, by simp, rp_punct⟩
  · exact ⟨by decide +kernel, by decide +kernel, by unfold maxLen; decide, by simp, rp_space⟩
  · exact ⟨by decide +kernel, by decide +kernel, by unfold maxLen; decide, by simp, rp_word⟩
/-- ranges of the call's own stay where a cell of another block is written -/
theorem ownR_set {w : World} {base : Nat} {v : Value} {D : List Rg} (h : OwnR w base v D) {a : Addr} (ha : a.block < base) (u : Value) : OwnR (w.setCell a u) base v D := by
  refine ⟨⟨h.1.1, ?_⟩, h.2⟩
  rcases h.1.2 with h2 | ⟨g, cap, cur, hv, hg, hh, r⟩
  · exact Or.inl h2
  · exact Or.inr ⟨g, cap, cur, hv, hg, (Below.heap_setCell w a u _ (by show g ≠ a.block; omega)).trans hh, r⟩
theorem ownR_ne {w : World} {base : Nat} {v : Value} {D : List Rg} (h : OwnR w base v D) {a : Addr} (ha : ∀ g, v.ownBlock = some g → g ≠ a.block) (u : Value) : OwnR (w.setCell a u) base v D := by
  refine ⟨⟨h.1.1, ?_⟩, h.2⟩
  rcases h.1.2 with h2 | ⟨g, cap, cur, hv, hg, hh, r⟩
  · exact Or.inl h2
  · exact Or.inr ⟨g, cap, cur, hv, hg, (Below.heap_setCell w a u _ (ha g (by rw [hv]; rfl))).trans hh, r⟩
theorem wl_LuP : isP cLu = true := by decide +kernel
theorem names4_wf {p : ByteArray × List Rg} (h : p ∈ names4) : wfB p.2 = true := by
  simp only [names4, List.mem_cons, List.not_mem_nil, or_false] at h
  rcases h with rfl | rfl | rfl | rfl <;> decide +kernel
theorem names4_len {p : ByteArray × List Rg} (h : p ∈ names4) : p.2.length ≤ 4 := by
  simp only [names4, List.mem_cons, List.not_mem_nil, or_false] at h
  rcases h with rfl | rfl | rfl | rfl <;> simp
theorem lu_ne {S : List Rg} (h : ∀ c, Has S c ↔ 0 ≤ c ∧ c ≤ 1114111 ∧ propP cLu c = true) : S ≠ [] := fun e => by
  have := (h 65).2 ⟨by decide, by decide, by decide +kernel⟩
  rw [e] at this
  exact has_nil _ this
/-- the rest of the law, behind the choice of a name -/
def OwnRel (n : ByteArray) (w2 : World) (v : Value) (w' : World) : Prop := (∃ R, (n, R) ∈ names4) ∧ v = .string n ∧ w' = w2
theorem rem_4 (x : Int) (h : 0 ≤ x) : x.tmod 4 = 0 ∨ x.tmod 4 = 1 ∨ x.tmod 4 = 2 ∨ x.tmod 4 = 3 := by
  rw [Int.tmod_eq_emod_of_nonneg h]
  omega
set_option maxRecDepth 100000 in
set_option maxHeartbeats 8000000 in
theorem own_law (x : Int) (w : World) (h1 : -9223372036854775808 ≤ x) (h2 : x ≤ 9223372036854775807) (hT : TabS w) : Calls Tryd.prog 10 #[.int .i64 x] w (BolB true w) := by
  have HA := Lib.hid (awake_any w hT)
  have HT := Lib.hid hT
  clear hT
  go_enter Tryd.func10, Tryd.ntmps10
  go_wp2_with fail
  refine HA.out.mono ?_
  rintro e w1 ⟨rfl, hb1⟩
  have HB1 := Lib.hid hb1
  clear hb1
  go_upto_region 5 with (fail)
  obtain ⟨n0, n1, n2, n3, hb2⟩ : (w1.alloc (.cells #[.string ⟨#[97, 108, 112, 104, 97]⟩, .string ⟨#[112, 117, 110, 99, 116]⟩, .string ⟨#[115, 112, 97, 99, 101]⟩, .string ⟨#[119, 111, 114, 100]⟩] 9)).cell? ⟨w1.heap.size, 0, none⟩ = some (.string nAlpha) ∧ (w1.alloc (.cells #[.string ⟨#[97, 108, 112, 104, 97]⟩, .string ⟨#[112, 117, 110, 99, 116]⟩, .string ⟨#[115, 112, 97, 99, 101]⟩, .string ⟨#[119, 111, 114, 100]⟩] 9)).cell? ⟨w1.heap.size, 1, none⟩ = some (.string nPunct) ∧ (w1.alloc (.cells #[.string ⟨#[97, 108, 112, 104, 97]⟩, .string ⟨#[112, 117, 110, 99, 116]⟩, .string ⟨#[115, 112, 97, 99, 101]⟩, .string ⟨#[119, 111, 114, 100]⟩] 9)).cell? ⟨w1.heap.size, 2, none⟩ = some (.string nSpace) ∧ (w1.alloc (.cells #[.string ⟨#[97, 108, 112, 104, 97]⟩, .string ⟨#[112, 117, 110, 99, 116]⟩, .string ⟨#[115, 112, 97, 99, 101]⟩, .string ⟨#[119, 111, 114, 100]⟩] 9)).cell? ⟨w1.heap.size, 3, none⟩ = some (.string nWord) ∧ Below w1.heap.size w1 (w1.alloc (.cells #[.string ⟨#[97, 108, 112, 104, 97]⟩, .string ⟨#[112, 117, 110, 99, 116]⟩, .string ⟨#[115, 112, 97, 99, 101]⟩, .string ⟨#[119, 111, 114, 100]⟩] 9)) := by
    refine ⟨?_, ?_, ?_, ?_, below_alloc _ _⟩ <;> rw [World.cell?_alloc_new] <;> rfl
  have HB2 := Lib.hid (below_trans HB1.out hb2)
  clear hb2
  generalize World.alloc w1 _ = w2 at *
  by_cases hx : x < 0
  · have hw1 : IntKind.i64.wrap (x + 1) = x + 1 := IntWalk.i64_in _ (by omega)
    have hw2 : IntKind.i64.wrap (-(x + 1)) = -(x + 1) := IntWalk.i64_in _ (by omega)
    have hx0 : 0 ≤ -(x + 1) := by omega
    go_upto_region 7 with (fail)
    generalize -(x + 1) = y at *
    go_cut [5] (fun v w' => ∃ n R, (n, R) ∈ names4 ∧ v = .string n ∧ w' = w2)
    case first =>
      rcases rem_4 y hx0 with hm | hm | hm | hm
      · go_wp2_with fail
        go_meet
        exact ⟨nAlpha, _, List.mem_cons_self .., rfl, rfl⟩
      · go_wp2_with fail
        go_meet
        exact ⟨nPunct, _, List.mem_cons_of_mem _ (List.mem_cons_self ..), rfl, rfl⟩
      · go_wp2_with fail
        go_meet
        exact ⟨nSpace, _, List.mem_cons_of_mem _ (List.mem_cons_of_mem _ (List.mem_cons_self ..)), rfl, rfl⟩
      · go_wp2_with fail
        go_meet
        exact ⟨nWord, _, List.mem_cons_of_mem _ (List.mem_cons_of_mem _ (List.mem_cons_of_mem _ (List.mem_cons_self ..))), rfl, rfl⟩
    case rest =>
      obtain ⟨n, R, hmem, rfl, rfl⟩ := hcut
      obtain ⟨e1, e2, e3, e4, HRPx⟩ := names4_ok hmem
      simp only at e1 e2 e3 e4 HRPx
      have HPos := Lib.hid (fun u => (show Calls Tryd.prog 29 #[.string n] u (RB2 R true u) from by have h := pos_any n u e3; rw [e1, e2] at h; exact h))
      have HRP := Lib.hid HRPx
      have HLu := Lib.hid (fun u (h : Below w.heap.size w u) => property_any cLu u (by unfold maxLen; decide) (tabS_below h HT.out))
      have HRLu := Lib.hid (fun u => dprop_new cLu u (by decide))
      have HEv := Lib.hid (fun u => esc_any 118 u)
      have HREv := Lib.hid (fun u => re_v u)
      have iLu : isP cLu = true := wl_LuP
      have HWR := Lib.hid (wf_of (R := R) (by have := names4_wf hmem; exact this))
      have HWE := Lib.hid (wf_of (R := [(10, 13), (133, 133), (8232, 8233)]) (by decide +kernel))
      have HRl := Lib.hid (show R.length ≤ 100000000 by have := names4_len hmem; simp only at this; omega)
      unfold cLu at HLu HRLu
      clear e1 e2 e3 HRPx hmem
      go_wp2_with fail
      refine (HPos.out _).mono ?_
      rintro e w3 ⟨v1, rfl, ho1, hb3⟩
      obtain ⟨g1, q1, rfl, hg1, hn1, hm1, hc1⟩ := ownR_slice ho1 e4
      have hp1 : 0 < R.length := by rcases Nat.eq_zero_or_pos R.length with h | h; exact absurd (List.eq_nil_of_length_eq_zero h) e4; exact h
      have C1 := Lib.hid (hc1 0 hp1).1
      have O1 := Lib.hid ho1
      have L1 := Lib.hid (World.ownsRow.lt ho1.1 g1 rfl)
      have HB3 := Lib.hid (below_trans HB2.out hb3)
      clear ho1 hb3 hc1
      go_wp2_with fail
      refine (HRP.out _).mono ?_
      rintro e w4 ⟨v2, rfl, ho2, hb4⟩
      have O2 := Lib.hid ho2
      have L2 := Lib.hid (World.ownsRow.lt ho2.1)
      have HX4 := Lib.hid hb4
      have HB4 := Lib.hid (below_trans HB3.out hb4)
      clear ho2 hb4
      go_wp2_with fail
      refine (HLu.out _ HB4.out).mono ?_
      rintro e w5 ⟨v3, T, rfl, hT3, hh3, ho3, hb5⟩
      have hT0 : T ≠ [] := lu_ne hh3
      have hTl := canon_len hT3
      have HTW := Lib.hid (wf_canon hT3.2)
      have HTC := Lib.hid hT3
      have HTH := Lib.hid hh3
      obtain ⟨g3, q3, rfl, hg3, hn3, hm3, hc3⟩ := ownR_slice ho3 hT0
      have hp3 : 0 < T.length := by rcases Nat.eq_zero_or_pos T.length with h | h; exact absurd (List.eq_nil_of_length_eq_zero h) hT0; exact h
      have C3 := Lib.hid (hc3 0 hp3).2
      have O3 := Lib.hid ho3
      have L3 := Lib.hid (World.ownsRow.lt ho3.1 g3 rfl)
      have HX5 := Lib.hid hb5
      have HB5 := Lib.hid (below_trans HB4.out hb5)
      clear ho3 hb5 hc3 hT3 hh3
      go_wp2_with fail
      refine (HRLu.out _).mono ?_
      rintro e w6 ⟨v4, T', rfl, hT4, hh4, ho4, hb6⟩
      obtain rfl : T' = T := canon_ext hT4 HTC.out fun c => (hh4 c).trans (HTH.out c).symm
      have O4 := Lib.hid ho4
      have L4 := Lib.hid (World.ownsRow.lt ho4.1)
      have HX6 := Lib.hid hb6
      have HB6 := Lib.hid (below_trans HB5.out hb6)
      clear ho4 hb6 hT4 hh4
      go_wp2_with fail
      refine (HEv.out _).mono ?_
      rintro e w7 ⟨v5, rfl, ho5, hb7⟩
      change OwnR w7 w6.heap.size v5 [(10, 13), (133, 133), (8232, 8233)] at ho5
      obtain ⟨g5, q5, rfl, hg5, hn5, hm5, hc5⟩ := ownR_slice ho5 (by simp)
      have C5 := Lib.hid (hc5 0 (by simp)).2
      have O5 := Lib.hid ho5
      have L5 := Lib.hid (World.ownsRow.lt ho5.1 g5 rfl)
      have HX7 := Lib.hid hb7
      have HB7 := Lib.hid (below_trans HB6.out hb7)
      clear ho5 hb7 hc5
      go_wp2_with fail
      refine (HREv.out _).mono ?_
      rintro e w8 ⟨v6, rfl, ho6, hb8⟩
      have L6 := World.ownsRow.lt ho6.1
      have l1 := L1.out
      have l3 := L3.out
      have l5 := L5.out
      have s34 := HX4.out.size
      have s45 := HX5.out.size
      have s56 := HX6.out.size
      have s67 := HX7.out.size
      have s78 := hb8.size
      have x48 := ((HX5.out.trans (HX6.out.mono HX5.out.size)).trans (HX7.out.mono (Nat.le_trans HX5.out.size HX6.out.size))).trans (hb8.mono (Nat.le_trans HX5.out.size (Nat.le_trans HX6.out.size HX7.out.size)))
      have x58 := (HX6.out.trans (HX7.out.mono HX6.out.size)).trans (hb8.mono (Nat.le_trans HX6.out.size HX7.out.size))
      have x38 := HX4.out.trans (x48.mono HX4.out.size)
      have x68 := HX7.out.trans (hb8.mono HX7.out.size)
      have o1 := ownR_below O1.out x38
      have o3 := ownR_below O3.out x58
      have o5 := ownR_below O5.out hb8
      have o2 := ownR_below O2.out x48
      have o4 := ownR_below O4.out x68
      have c1 := below_cell x38 C1.out
      have c3 := below_cell x58 C3.out
      have c5 := below_cell hb8 C5.out
      have f1 : w8.frozen? ⟨g1, 0, none⟩ = false := World.ownsRow.frozenAt o1.1 0
      have f3 : w8.frozen? ⟨g3, 1, none⟩ = false := World.ownsRow.frozenAt o3.1 1
      have f5 : w8.frozen? ⟨g5, 1, none⟩ = false := World.ownsRow.frozenAt o5.1 1
      have HBz := Lib.hid ((((below_trans HB7.out hb8).setCell (p := ⟨g1, 0, none⟩) (by show w.heap.size ≤ g1; have := HB3.out.size; have := HB2.out.size; omega) (.int .i64 7)).setCell (p := ⟨g3, 1, none⟩) (by show w.heap.size ≤ g3; have := HB4.out.size; omega) (.int .i64 7)).setCell (p := ⟨g5, 1, none⟩) (by show w.heap.size ≤ g5; have := HB6.out.size; omega) (.int .i64 999))
      have Z2 := Lib.hid (rs_own (ownR_ne (ownR_ne (ownR_ne o2 (a := ⟨g1, 0, none⟩) (fun g hg => by have := L2.out g hg; show g ≠ g1; omega) (.int .i64 7)) (a := ⟨g3, 1, none⟩) (fun g hg => by have := L2.out g hg; show g ≠ g3; omega) (.int .i64 7)) (a := ⟨g5, 1, none⟩) (fun g hg => by have := L2.out g hg; show g ≠ g5; omega) (.int .i64 999)) HWR.out)
      have Z4 := Lib.hid (rs_own (ownR_ne (ownR_ne (ownR_ne o4 (a := ⟨g1, 0, none⟩) (fun g hg => by have := L4.out g hg; show g ≠ g1; omega) (.int .i64 7)) (a := ⟨g3, 1, none⟩) (fun g hg => by have := L4.out g hg; show g ≠ g3; omega) (.int .i64 7)) (a := ⟨g5, 1, none⟩) (fun g hg => by have := L4.out g hg; show g ≠ g5; omega) (.int .i64 999)) HTW.out)
      have Z6 := Lib.hid (rs_own (ownR_ne (ownR_ne (ownR_ne ho6 (a := ⟨g1, 0, none⟩) (fun g hg => by have := L6 g hg; show g ≠ g1; omega) (.int .i64 7)) (a := ⟨g3, 1, none⟩) (fun g hg => by have := L6 g hg; show g ≠ g3; omega) (.int .i64 7)) (a := ⟨g5, 1, none⟩) (fun g hg => by have := L6 g hg; show g ≠ g5; omega) (.int .i64 999)) HWE.out)
      have n13 : g1 ≠ g3 := by omega
      have n15 : g1 ≠ g5 := by omega
      have n35 : g3 ≠ g5 := by omega
      have d3 : (w8.setCell ⟨g1, 0, none⟩ (.int .i64 7)).cell? ⟨g3, 0 * 2 + 1, none⟩ = _ := (World.cell?_of_block (Below.heap_setCell w8 ⟨g1, 0, none⟩ _ _ (Ne.symm n13))).trans c3
      have k3 : (w8.setCell ⟨g1, 0, none⟩ (.int .i64 7)).frozen? ⟨g3, 1, none⟩ = false := (World.frozen?_of_block (Below.heap_setCell w8 ⟨g1, 0, none⟩ _ _ (Ne.symm n13))).trans f3
      have d5 : ((w8.setCell ⟨g1, 0, none⟩ (.int .i64 7)).setCell ⟨g3, 1, none⟩ (.int .i64 7)).cell? ⟨g5, 0 * 2 + 1, none⟩ = _ := (World.cell?_of_block (Below.heap_setCell _ ⟨g3, 1, none⟩ _ _ (Ne.symm n35))).trans ((World.cell?_of_block (Below.heap_setCell w8 ⟨g1, 0, none⟩ _ _ (Ne.symm n15))).trans c5)
      have k5 : ((w8.setCell ⟨g1, 0, none⟩ (.int .i64 7)).setCell ⟨g3, 1, none⟩ (.int .i64 7)).frozen? ⟨g5, 1, none⟩ = false := (World.frozen?_of_block (Below.heap_setCell _ ⟨g3, 1, none⟩ _ _ (Ne.symm n35))).trans ((World.frozen?_of_block (Below.heap_setCell w8 ⟨g1, 0, none⟩ _ _ (Ne.symm n15))).trans f5)
      simp only [Nat.zero_mul, Nat.zero_add] at c1 d3 d5
      have z1 : ((R.length : Int) == 0) = false := by simp; omega
      have z3 : ((T'.length : Int) == 0) = false := by simp; omega
      have y1 : (0 : Int) < (R.length : Int) := by omega
      have y3 : (0 : Int) < (T'.length : Int) := by omega
      clear o1 o2 o3 o4 o5 ho6 hb8 L6 x38 x48 x58 x68 c3 c5 f3 f5 l1 l3 l5 s34 s45 s56 s67 s78 hg1 hg3 hg5
      go_upto_region 19 with (fail)
      generalize World.setCell (World.setCell (World.setCell w8 ⟨g1, 0, none⟩ (.int .i64 7)) ⟨g3, 1, none⟩ (.int .i64 7)) ⟨g5, 1, none⟩ (.int .i64 999) = wz at *
      clear c1 d3 d5 k3 k5 f1
      go_wp2_with fail
      refine (HPos.out _).mono ?_
      rintro e w9 ⟨v7, rfl, ho7, hb9⟩
      have HX := Lib.hid (rs_own ho7 HWR.out)
      have HB9 := Lib.hid (below_trans HBz.out hb9)
      have HZ9 := Lib.hid hb9
      clear ho7 hb9
      go_wp2_with fail
      refine (HLu.out _ HB9.out).mono ?_
      rintro e w10 ⟨v8, T2, rfl, hT8, hh8, ho8, hb10⟩
      obtain rfl : T2 = T' := canon_ext hT8 HTC.out fun c => (hh8 c).trans (HTH.out c).symm
      have HY := Lib.hid (rs_own ho8 HTW.out)
      have HB10 := Lib.hid (below_trans HB9.out hb10)
      have HZ10 := Lib.hid (below_trans HZ9.out hb10)
      have HX10 := Lib.hid (rsAt_below HX.out hb10)
      clear ho8 hb10 hT8 hh8
      go_wp2_with fail
      refine (HEv.out _).mono ?_
      rintro e w11 ⟨v9, rfl, ho9, hb11⟩
      change OwnR w11 w10.heap.size v9 [(10, 13), (133, 133), (8232, 8233)] at ho9
      have HZ := Lib.hid (rs_own ho9 HWE.out)
      have HB11 := Lib.hid (below_trans HB10.out hb11)
      have HZ11 := Lib.hid (below_trans HZ10.out hb11)
      have S1 := Lib.hid (fun u (h : Below w11.heap.size w11 u) => rsame_any v7 v2 R R u (rsAt_below (rsAt_below HX10.out hb11) h) (rsAt_below (rsAt_below Z2.out HZ11.out) h) HRl.out HRl.out)
      have S2 := Lib.hid (fun u (h : Below w11.heap.size w11 u) => rsame_any v8 v4 T2 T2 u (rsAt_below (rsAt_below HY.out hb11) h) (rsAt_below (rsAt_below Z4.out HZ11.out) h) (by omega) (by omega))
      have S3 := Lib.hid (fun u (h : Below w11.heap.size w11 u) => rsame_any v9 v6 [(10, 13), (133, 133), (8232, 8233)] [(10, 13), (133, 133), (8232, 8233)] u (rsAt_below HZ.out h) (rsAt_below (rsAt_below Z6.out HZ11.out) h) (by simp) (by simp))
      rw [decide_eq_true rfl] at S1 S2 S3
      clear ho9 hb11
      go_wp2_with fail
      refine (S1.out _ (Below.refl _ _)).mono ?_
      rintro e w12 ⟨rfl, qa, rfl⟩
      have B12 : Below w11.heap.size w11 (w11.drewN qa) := below_dn (Below.refl _ _) qa
      go_wp2_with fail
      refine (S2.out _ B12).mono ?_
      rintro e w13 ⟨rfl, qb, rfl⟩
      have B13 : Below w11.heap.size w11 (w11.drewN (qa + qb)) := below_dn (Below.refl _ _) _
      go_wp2_with fail
      refine (S3.out _ B13).mono ?_
      rintro e w14 ⟨rfl, qc, rfl⟩
      go_wp2_with fail
      go_ret
      exact ⟨rfl, below_trans HB11.out (below_dn (Below.refl _ _) _)⟩
  · have hx0 : 0 ≤ x := by omega
    go_upto_region 7 with (fail)
    go_cut [5] (fun v w' => ∃ n R, (n, R) ∈ names4 ∧ v = .string n ∧ w' = w2)
    case first =>
      rcases rem_4 x hx0 with hm | hm | hm | hm
      · go_wp2_with fail
        go_meet
        exact ⟨nAlpha, _, List.mem_cons_self .., rfl, rfl⟩
      · go_wp2_with fail
        go_meet
        exact ⟨nPunct, _, List.mem_cons_of_mem _ (List.mem_cons_self ..), rfl, rfl⟩
      · go_wp2_with fail
        go_meet
        exact ⟨nSpace, _, List.mem_cons_of_mem _ (List.mem_cons_of_mem _ (List.mem_cons_self ..)), rfl, rfl⟩
      · go_wp2_with fail
        go_meet
        exact ⟨nWord, _, List.mem_cons_of_mem _ (List.mem_cons_of_mem _ (List.mem_cons_of_mem _ (List.mem_cons_self ..))), rfl, rfl⟩
    case rest =>
      obtain ⟨n, R, hmem, rfl, rfl⟩ := hcut
      obtain ⟨e1, e2, e3, e4, HRPx⟩ := names4_ok hmem
      simp only at e1 e2 e3 e4 HRPx
      have HPos := Lib.hid (fun u => (show Calls Tryd.prog 29 #[.string n] u (RB2 R true u) from by have h := pos_any n u e3; rw [e1, e2] at h; exact h))
      have HRP := Lib.hid HRPx
      have HLu := Lib.hid (fun u (h : Below w.heap.size w u) => property_any cLu u (by unfold maxLen; decide) (tabS_below h HT.out))
      have HRLu := Lib.hid (fun u => dprop_new cLu u (by decide))
      have HEv := Lib.hid (fun u => esc_any 118 u)
      have HREv := Lib.hid (fun u => re_v u)
      have iLu : isP cLu = true := wl_LuP
      have HWR := Lib.hid (wf_of (R := R) (by have := names4_wf hmem; exact this))
      have HWE := Lib.hid (wf_of (R := [(10, 13), (133, 133), (8232, 8233)]) (by decide +kernel))
      have HRl := Lib.hid (show R.length ≤ 100000000 by have := names4_len hmem; simp only at this; omega)
      unfold cLu at HLu HRLu
      clear e1 e2 e3 HRPx hmem
      go_wp2_with fail
      refine (HPos.out _).mono ?_
      rintro e w3 ⟨v1, rfl, ho1, hb3⟩
      obtain ⟨g1, q1, rfl, hg1, hn1, hm1, hc1⟩ := ownR_slice ho1 e4
      have hp1 : 0 < R.length := by rcases Nat.eq_zero_or_pos R.length with h | h; exact absurd (List.eq_nil_of_length_eq_zero h) e4; exact h
      have C1 := Lib.hid (hc1 0 hp1).1
      have O1 := Lib.hid ho1
      have L1 := Lib.hid (World.ownsRow.lt ho1.1 g1 rfl)
      have HB3 := Lib.hid (below_trans HB2.out hb3)
      clear ho1 hb3 hc1
      go_wp2_with fail
      refine (HRP.out _).mono ?_
      rintro e w4 ⟨v2, rfl, ho2, hb4⟩
      have O2 := Lib.hid ho2
      have L2 := Lib.hid (World.ownsRow.lt ho2.1)
      have HX4 := Lib.hid hb4
      have HB4 := Lib.hid (below_trans HB3.out hb4)
      clear ho2 hb4
      go_wp2_with fail
      refine (HLu.out _ HB4.out).mono ?_
      rintro e w5 ⟨v3, T, rfl, hT3, hh3, ho3, hb5⟩
      have hT0 : T ≠ [] := lu_ne hh3
      have hTl := canon_len hT3
      have HTW := Lib.hid (wf_canon hT3.2)
      have HTC := Lib.hid hT3
      have HTH := Lib.hid hh3
      obtain ⟨g3, q3, rfl, hg3, hn3, hm3, hc3⟩ := ownR_slice ho3 hT0
      have hp3 : 0 < T.length := by rcases Nat.eq_zero_or_pos T.length with h | h; exact absurd (List.eq_nil_of_length_eq_zero h) hT0; exact h
      have C3 := Lib.hid (hc3 0 hp3).2
      have O3 := Lib.hid ho3
      have L3 := Lib.hid (World.ownsRow.lt ho3.1 g3 rfl)
      have HX5 := Lib.hid hb5
      have HB5 := Lib.hid (below_trans HB4.out hb5)
      clear ho3 hb5 hc3 hT3 hh3
      go_wp2_with fail
      refine (HRLu.out _).mono ?_
      rintro e w6 ⟨v4, T', rfl, hT4, hh4, ho4, hb6⟩
      obtain rfl : T' = T := canon_ext hT4 HTC.out fun c => (hh4 c).trans (HTH.out c).symm
      have O4 := Lib.hid ho4
      have L4 := Lib.hid (World.ownsRow.lt ho4.1)
      have HX6 := Lib.hid hb6
      have HB6 := Lib.hid (below_trans HB5.out hb6)
      clear ho4 hb6 hT4 hh4
      go_wp2_with fail
      refine (HEv.out _).mono ?_
      rintro e w7 ⟨v5, rfl, ho5, hb7⟩
      change OwnR w7 w6.heap.size v5 [(10, 13), (133, 133), (8232, 8233)] at ho5
      obtain ⟨g5, q5, rfl, hg5, hn5, hm5, hc5⟩ := ownR_slice ho5 (by simp)
      have C5 := Lib.hid (hc5 0 (by simp)).2
      have O5 := Lib.hid ho5
      have L5 := Lib.hid (World.ownsRow.lt ho5.1 g5 rfl)
      have HX7 := Lib.hid hb7
      have HB7 := Lib.hid (below_trans HB6.out hb7)
      clear ho5 hb7 hc5
      go_wp2_with fail
      refine (HREv.out _).mono ?_
      rintro e w8 ⟨v6, rfl, ho6, hb8⟩
      have L6 := World.ownsRow.lt ho6.1
      have l1 := L1.out
      have l3 := L3.out
      have l5 := L5.out
      have s34 := HX4.out.size
      have s45 := HX5.out.size
      have s56 := HX6.out.size
      have s67 := HX7.out.size
      have s78 := hb8.size
      have x48 := ((HX5.out.trans (HX6.out.mono HX5.out.size)).trans (HX7.out.mono (Nat.le_trans HX5.out.size HX6.out.size))).trans (hb8.mono (Nat.le_trans HX5.out.size (Nat.le_trans HX6.out.size HX7.out.size)))
      have x58 := (HX6.out.trans (HX7.out.mono HX6.out.size)).trans (hb8.mono (Nat.le_trans HX6.out.size HX7.out.size))
      have x38 := HX4.out.trans (x48.mono HX4.out.size)
      have x68 := HX7.out.trans (hb8.mono HX7.out.size)
      have o1 := ownR_below O1.out x38
      have o3 := ownR_below O3.out x58
      have o5 := ownR_below O5.out hb8
      have o2 := ownR_below O2.out x48
      have o4 := ownR_below O4.out x68
      have c1 := below_cell x38 C1.out
      have c3 := below_cell x58 C3.out
      have c5 := below_cell hb8 C5.out
      have f1 : w8.frozen? ⟨g1, 0, none⟩ = false := World.ownsRow.frozenAt o1.1 0
      have f3 : w8.frozen? ⟨g3, 1, none⟩ = false := World.ownsRow.frozenAt o3.1 1
      have f5 : w8.frozen? ⟨g5, 1, none⟩ = false := World.ownsRow.frozenAt o5.1 1
      have HBz := Lib.hid ((((below_trans HB7.out hb8).setCell (p := ⟨g1, 0, none⟩) (by show w.heap.size ≤ g1; have := HB3.out.size; have := HB2.out.size; omega) (.int .i64 7)).setCell (p := ⟨g3, 1, none⟩) (by show w.heap.size ≤ g3; have := HB4.out.size; omega) (.int .i64 7)).setCell (p := ⟨g5, 1, none⟩) (by show w.heap.size ≤ g5; have := HB6.out.size; omega) (.int .i64 999))
      have Z2 := Lib.hid (rs_own (ownR_ne (ownR_ne (ownR_ne o2 (a := ⟨g1, 0, none⟩) (fun g hg => by have := L2.out g hg; show g ≠ g1; omega) (.int .i64 7)) (a := ⟨g3, 1, none⟩) (fun g hg => by have := L2.out g hg; show g ≠ g3; omega) (.int .i64 7)) (a := ⟨g5, 1, none⟩) (fun g hg => by have := L2.out g hg; show g ≠ g5; omega) (.int .i64 999)) HWR.out)
      have Z4 := Lib.hid (rs_own (ownR_ne (ownR_ne (ownR_ne o4 (a := ⟨g1, 0, none⟩) (fun g hg => by have := L4.out g hg; show g ≠ g1; omega) (.int .i64 7)) (a := ⟨g3, 1, none⟩) (fun g hg => by have := L4.out g hg; show g ≠ g3; omega) (.int .i64 7)) (a := ⟨g5, 1, none⟩) (fun g hg => by have := L4.out g hg; show g ≠ g5; omega) (.int .i64 999)) HTW.out)
      have Z6 := Lib.hid (rs_own (ownR_ne (ownR_ne (ownR_ne ho6 (a := ⟨g1, 0, none⟩) (fun g hg => by have := L6 g hg; show g ≠ g1; omega) (.int .i64 7)) (a := ⟨g3, 1, none⟩) (fun g hg => by have := L6 g hg; show g ≠ g3; omega) (.int .i64 7)) (a := ⟨g5, 1, none⟩) (fun g hg => by have := L6 g hg; show g ≠ g5; omega) (.int .i64 999)) HWE.out)
      have n13 : g1 ≠ g3 := by omega
      have n15 : g1 ≠ g5 := by omega
      have n35 : g3 ≠ g5 := by omega
      have d3 : (w8.setCell ⟨g1, 0, none⟩ (.int .i64 7)).cell? ⟨g3, 0 * 2 + 1, none⟩ = _ := (World.cell?_of_block (Below.heap_setCell w8 ⟨g1, 0, none⟩ _ _ (Ne.symm n13))).trans c3
      have k3 : (w8.setCell ⟨g1, 0, none⟩ (.int .i64 7)).frozen? ⟨g3, 1, none⟩ = false := (World.frozen?_of_block (Below.heap_setCell w8 ⟨g1, 0, none⟩ _ _ (Ne.symm n13))).trans f3
      have d5 : ((w8.setCell ⟨g1, 0, none⟩ (.int .i64 7)).setCell ⟨g3, 1, none⟩ (.int .i64 7)).cell? ⟨g5, 0 * 2 + 1, none⟩ = _ := (World.cell?_of_block (Below.heap_setCell _ ⟨g3, 1, none⟩ _ _ (Ne.symm n35))).trans ((World.cell?_of_block (Below.heap_setCell w8 ⟨g1, 0, none⟩ _ _ (Ne.symm n15))).trans c5)
      have k5 : ((w8.setCell ⟨g1, 0, none⟩ (.int .i64 7)).setCell ⟨g3, 1, none⟩ (.int .i64 7)).frozen? ⟨g5, 1, none⟩ = false := (World.frozen?_of_block (Below.heap_setCell _ ⟨g3, 1, none⟩ _ _ (Ne.symm n35))).trans ((World.frozen?_of_block (Below.heap_setCell w8 ⟨g1, 0, none⟩ _ _ (Ne.symm n15))).trans f5)
      simp only [Nat.zero_mul, Nat.zero_add] at c1 d3 d5
      have z1 : ((R.length : Int) == 0) = false := by simp; omega
      have z3 : ((T'.length : Int) == 0) = false := by simp; omega
      have y1 : (0 : Int) < (R.length : Int) := by omega
      have y3 : (0 : Int) < (T'.length : Int) := by omega
      clear o1 o2 o3 o4 o5 ho6 hb8 L6 x38 x48 x58 x68 c3 c5 f3 f5 l1 l3 l5 s34 s45 s56 s67 s78 hg1 hg3 hg5
      go_upto_region 19 with (fail)
      generalize World.setCell (World.setCell (World.setCell w8 ⟨g1, 0, none⟩ (.int .i64 7)) ⟨g3, 1, none⟩ (.int .i64 7)) ⟨g5, 1, none⟩ (.int .i64 999) = wz at *
      clear c1 d3 d5 k3 k5 f1
      go_wp2_with fail
      refine (HPos.out _).mono ?_
      rintro e w9 ⟨v7, rfl, ho7, hb9⟩
      have HX := Lib.hid (rs_own ho7 HWR.out)
      have HB9 := Lib.hid (below_trans HBz.out hb9)
      have HZ9 := Lib.hid hb9
      clear ho7 hb9
      go_wp2_with fail
      refine (HLu.out _ HB9.out).mono ?_
      rintro e w10 ⟨v8, T2, rfl, hT8, hh8, ho8, hb10⟩
      obtain rfl : T2 = T' := canon_ext hT8 HTC.out fun c => (hh8 c).trans (HTH.out c).symm
      have HY := Lib.hid (rs_own ho8 HTW.out)
      have HB10 := Lib.hid (below_trans HB9.out hb10)
      have HZ10 := Lib.hid (below_trans HZ9.out hb10)
      have HX10 := Lib.hid (rsAt_below HX.out hb10)
      clear ho8 hb10 hT8 hh8
      go_wp2_with fail
      refine (HEv.out _).mono ?_
      rintro e w11 ⟨v9, rfl, ho9, hb11⟩
      change OwnR w11 w10.heap.size v9 [(10, 13), (133, 133), (8232, 8233)] at ho9
      have HZ := Lib.hid (rs_own ho9 HWE.out)
      have HB11 := Lib.hid (below_trans HB10.out hb11)
      have HZ11 := Lib.hid (below_trans HZ10.out hb11)
      have S1 := Lib.hid (fun u (h : Below w11.heap.size w11 u) => rsame_any v7 v2 R R u (rsAt_below (rsAt_below HX10.out hb11) h) (rsAt_below (rsAt_below Z2.out HZ11.out) h) HRl.out HRl.out)
      have S2 := Lib.hid (fun u (h : Below w11.heap.size w11 u) => rsame_any v8 v4 T2 T2 u (rsAt_below (rsAt_below HY.out hb11) h) (rsAt_below (rsAt_below Z4.out HZ11.out) h) (by omega) (by omega))
      have S3 := Lib.hid (fun u (h : Below w11.heap.size w11 u) => rsame_any v9 v6 [(10, 13), (133, 133), (8232, 8233)] [(10, 13), (133, 133), (8232, 8233)] u (rsAt_below HZ.out h) (rsAt_below (rsAt_below Z6.out HZ11.out) h) (by simp) (by simp))
      rw [decide_eq_true rfl] at S1 S2 S3
      clear ho9 hb11
      go_wp2_with fail
      refine (S1.out _ (Below.refl _ _)).mono ?_
      rintro e w12 ⟨rfl, qa, rfl⟩
      have B12 : Below w11.heap.size w11 (w11.drewN qa) := below_dn (Below.refl _ _) qa
      go_wp2_with fail
      refine (S2.out _ B12).mono ?_
      rintro e w13 ⟨rfl, qb, rfl⟩
      have B13 : Below w11.heap.size w11 (w11.drewN (qa + qb)) := below_dn (Below.refl _ _) _
      go_wp2_with fail
      refine (S3.out _ B13).mono ?_
      rintro e w14 ⟨rfl, qc, rfl⟩
      go_wp2_with fail
      go_ret
      exact ⟨rfl, below_trans HB11.out (below_dn (Below.refl _ _) _)⟩
end Go.Proofs.YtgdhhpbpbkgmeaaDoor.prw
