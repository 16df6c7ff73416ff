/- The contracts of the document's Of, Category, Script. -/
import Derived.Test.YtgdhhpbpbkgmeaaDoorUcdR2
import Derived.IntWalk
namespace Go.Proofs.YtgdhhpbpbkgmeaaDoor.ucdw
open Go Go.RowKit Go.Proofs.YtgdhhpbpbkgmeaaDoor.bulk Go.Proofs.YtgdhhpbpbkgmeaaDoor.ucdp

set_option maxHeartbeats 1000000 in
theorem of_any (c : Int) (w : World) : Calls Tryd.prog 74 #[.int .i64 c] w (RefB (ofP c) w) := by
  by_cases h0 : c < 0 ∨ 1114111 < c
  · have HE := Lib.hid (of_out h0)
    rcases h0 with h0 | h0
    all_goals
      go_enter Tryd.func74, Tryd.ntmps74
      go_wp2_with fail
      refine bodyPost_ret (v := refV (0, 0, 0, 0, 0)) (by simp [results, Tryd.results74, go_sem, refV, catB, scrB]) rfl ⟨by rw [HE.out], ?_⟩
      exact below_alloc _ _
  · have h1 : 0 ≤ c := by omega
    have h2 : c ≤ 1114111 := by omega
    have HI := Lib.hid (fun k hk hb hi => of_in (c := c) (k := k) h1 h2 hk hb hi)
    have HN := Lib.hid (fun hb => of_none (c := c) h1 h2 hb)
    have HT := Lib.hid table_any
    clear h0
    go_enter Tryd.func74, Tryd.ntmps74
    go_wp2_with fail
    refine (HT.out _).mono ?_
    rintro e w1 ⟨v, rfl, ho, hb1⟩
    obtain ⟨g, cap, rfl, hg, hg2, hcap, hcap2, hcell⟩ := ownR_open ho
    have HC := Lib.hid hcell
    have Hg := Lib.hid hg
    have c0 := (hb1.cell (p := ⟨w.heap.size, 0, none⟩) (by simp)).trans (show _ = some (.int .i64 0) by simp)
    have c1 := (hb1.cell (p := ⟨w.heap.size, 1, none⟩) (by simp)).trans (show _ = some (.int .i64 0) by simp)
    have c2 := (hb1.cell (p := ⟨w.heap.size, 2, none⟩) (by simp)).trans (show _ = some (.string ⟨#[]⟩) by simp)
    have c3 := (hb1.cell (p := ⟨w.heap.size, 3, none⟩) (by simp)).trans (show _ = some (.string ⟨#[]⟩) by simp)
    have c4 := (hb1.cell (p := ⟨w.heap.size, 4, none⟩) (by simp)).trans (show _ = some (.int .i64 0) by simp)
    have f0 := (hb1.frozen (p := ⟨w.heap.size, 0, none⟩) (by simp)).trans (show _ = false by simp)
    have f1 := (hb1.frozen (p := ⟨w.heap.size, 1, none⟩) (by simp)).trans (show _ = false by simp)
    have f2 := (hb1.frozen (p := ⟨w.heap.size, 2, none⟩) (by simp)).trans (show _ = false by simp)
    have f3 := (hb1.frozen (p := ⟨w.heap.size, 3, none⟩) (by simp)).trans (show _ = false by simp)
    have f4 := (hb1.frozen (p := ⟨w.heap.size, 4, none⟩) (by simp)).trans (show _ = false by simp)
    have hB := below_trans (below_alloc w _) hb1
    clear hcell ho hb1 hg
    go_wp2_with fail
    go_loop [4] (fun i => ∃ k : Nat, k ≤ 81 ∧ i = .int .i64 k ∧ Hid (∀ j, j < k → inRow c (rk j) = false)) (fun i => 81 - (intOf i).toNat)
    case atStart => exact ⟨0, Nat.zero_le _, rfl, Lib.hid (fun j h => by omega)⟩
    case round =>
      obtain ⟨k, hk, rfl, HR⟩ := hrel
      by_cases hlt : k < 81
      · have r0 := HC.out k 0 hlt (by decide)
        have r1 := HC.out k 1 hlt (by decide)
        have r2 := HC.out k 2 hlt (by decide)
        have r3 := HC.out k 3 hlt (by decide)
        have r4 := HC.out k 4 hlt (by decide)
        have HIk := Lib.hid (HI.out k hlt HR.out)
        have HS := Lib.hid (show inRow c (rk k) = false → ∀ j, j < k + 1 → inRow c (rk j) = false by
          intro h j hj
          by_cases e : j = k
          · subst e; exact h
          · exact HR.out j (by omega))
        have HW := Lib.hid (show ∀ r, rk k = r → inRow c r = (decide (r.1 ≤ c) && decide (c ≤ r.2.1)) by intro r hr; rfl)
        obtain ⟨⟨a, b, x, y, z⟩, hr⟩ : ∃ r, rk k = r := ⟨_, rfl⟩
        have HWr := Lib.hid (HW.out _ hr)
        rw [hr] at r0 r1 r2 r3 r4 HIk HS
        simp only [refC, List.getElem?_cons_zero, List.getElem?_cons_succ, Nat.add_zero] at r0 r1 r2 r3 r4
        clear hr HW
        by_cases ha : a ≤ c
        · by_cases hbc : c ≤ b
          · have HO := Lib.hid (HIk.out (by unfold inRow; simp [ha, hbc]))
            go_wp2_with fail
            refine bodyPost_ret (v := refV (a, b, x, y, z)) (by simp [results, Tryd.results74, go_sem, refV, c0, c1, c2, c3, c4]) rfl ⟨by rw [HO.out], ?_⟩
            exact ((((hB.setCell (by simp) _).setCell (by simp) _).setCell (by simp) _).setCell (by simp) _).setCell (by simp) _
          · have HR2 := Lib.hid (HS.out (by unfold inRow; simp [hbc]))
            go_wp2_with fail
            go_round
            case rel => exact ⟨k + 1, by omega, by go_num, HR2⟩
            case measure => simp [intOf]; omega
        · have HR2 := Lib.hid (HS.out (by unfold inRow; simp [ha]))
          go_wp2_with fail
          go_round
          case rel => exact ⟨k + 1, by omega, by go_num, HR2⟩
          case measure => simp [intOf]; omega
      · obtain rfl : k = 81 := by omega
        have HO := Lib.hid (HN.out HR.out)
        go_wp2_with fail
        refine bodyPost_ret (v := refV (c, c, 20, 3, 0)) (by simp [results, Tryd.results74, go_sem, refV, catB, scrB, c0, c1, c2, c3, c4]) rfl ⟨by rw [HO.out], ?_⟩
        exact ((((hB.setCell (by simp) _).setCell (by simp) _).setCell (by simp) _).setCell (by simp) _).setCell (by simp) _

theorem of_vals (c : Int) (w : World) : ∃ a b : Int, Calls Tryd.prog 74 #[.int .i64 c] w fun e w' => e = .returned (.agg #[.int .i64 a, .int .i64 b, .string (catB (cls c).1), .string (scrB (cls c).2.1), .int .i64 (cls c).2.2]) ∧ Below w.heap.size w w' :=
  ⟨(ofP c).1, (ofP c).2.1, by have := of_any c w; rw [← of_cls]; exact this⟩
end Go.Proofs.YtgdhhpbpbkgmeaaDoor.ucdw
