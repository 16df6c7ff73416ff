/- The walk of the law UcdBeyond. -/
import Derived.Test.YtnmppacgjjkpcaaDoorUcdR5
namespace Go.Proofs.YtnmppacgjjkpcaaDoor.ucdw
open Go Go.RowKit Go.Proofs.YtnmppacgjjkpcaaDoor.bulk Go.Proofs.YtnmppacgjjkpcaaDoor.ucdp

theorem cls_out {c : Int} (h : c < 0 ∨ 1114111 < c) : cls c = (0, 0, 0) := by unfold cls; rw [if_pos h]
theorem others_out {c : Int} (u : Bool) (h : c < 0 ∨ 1114111 < c) : othersP c u = [] := by
  cases u with
  | false =>
    unfold othersP
    rw [if_pos rfl, if_neg (by omega), if_neg (by omega)]
  | true =>
    rw [others_single ⟨by omega, by omega, by omega, by omega, by omega, by omega, by omega, by omega, by omega, by omega, by omega, by omega⟩, cls_out h]
    rfl
theorem code_bd {c : Int} (h0 : 0 ≤ c) (h1 : c ≤ 1114111) : 1 ≤ (cls c).1 ∧ (cls c).1 ≤ 23 ∧ 1 ≤ (cls c).2.1 ∧ (cls c).2.1 ≤ 10 := by
  have all : (rows.all fun r => decide (1 ≤ r.2.2.1) && decide (r.2.2.1 ≤ 23) && decide (1 ≤ r.2.2.2.1) && decide (r.2.2.2.1 ≤ 10)) = true := by decide +kernel
  rcases cls_row c with ⟨_, h⟩ | ⟨_, _, e | ⟨r, hr, _, _, e⟩⟩
  · omega
  · rw [e]; decide
  · have := List.all_eq_true.1 all r hr
    simp only [Bool.and_eq_true, decide_eq_true_eq] at this
    rw [e]
    exact ⟨this.1.1.1, this.1.1.2, this.1.2, this.2⟩
theorem catB_size {k : Nat} (h1 : 1 ≤ k) (h2 : k ≤ 23) : (catB k).size = 2 := by
  have all : ∀ i : Fin 24, 1 ≤ i.val → (catB i.val).size = 2 := by decide +kernel
  exact all ⟨k, by omega⟩ h1
theorem scrB_some {k : Nat} (h1 : 1 ≤ k) (h2 : k ≤ 10) : (scrB k).size ≠ 0 := by
  have all : ∀ i : Fin 11, 1 ≤ i.val → (scrB i.val).size ≠ 0 := by decide +kernel
  exact all ⟨k, by omega⟩ h1

set_option maxHeartbeats 1000000 in
theorem beyond_out (c : Int) (u : Bool) (w : World) (h1 : -9223372036854775808 ≤ c) (h2 : c ≤ 9223372036854775807) (ho : c < 0 ∨ 1114111 < c) (hT : Tab3 w) : Calls Tryd.prog 8 #[.int .i64 c, .bool u] w (BoolB true w) := by
  have H0 := Lib.hid (awake_any w hT)
  have HO := Lib.hid (fun (b : Bool) w1 (hb : Below w.heap.size w w1) => (others_out b ho ▸ others_any c b w1 h1 h2 (below_tab hb hT) : Calls _ _ _ w1 (IntsB [] w1)))
  have HC := Lib.hid (fun w1 => strB_of (show catB (cls c).1 = ⟨#[]⟩ by rw [cls_out ho]; rfl) (category_any c w1 h1 h2))
  have HS := Lib.hid (fun w1 => strB_of (show scrB (cls c).2.1 = ⟨#[]⟩ by rw [cls_out ho]; rfl) (script_any c w1 h1 h2))
  clear hT h1 h2
  rcases ho with ho | ho
  all_goals
    go_enter Tryd.func8, Tryd.ntmps8
    go_wp2_with fail
    refine H0.out.mono ?_
    rintro e w1 ⟨rfl, hw1⟩
    go_wp2_with fail
    refine (HO.out _ _ hw1).mono ?_
    rintro e w2 ⟨v, rfl, hv, hb2⟩
    obtain rfl := ints_none hv
    have hw2 := below_trans hw1 hb2
    go_wp2_with fail
    refine (HC.out _).mono ?_
    rintro e w3 ⟨rfl, hb3⟩
    have hw3 := below_trans hw2 hb3
    go_wp2_with fail
    refine (HS.out _).mono ?_
    rintro e w4 ⟨rfl, hb4⟩
    have hw4 := below_trans hw3 hb4
    go_wp2_with fail
    refine (HO.out _ _ hw4).mono ?_
    rintro e w5 ⟨v5, rfl, hv5, hb5⟩
    obtain rfl := ints_none hv5
    have hw5 := below_trans hw4 hb5
    clear hv hv5 hb2 hb3 hb4 hb5
    go_wp2_with fail
    go_ret
    exact ⟨rfl, hw5⟩

set_option maxHeartbeats 1000000 in
theorem beyond_in (c : Int) (u : Bool) (w : World) (h0 : 0 ≤ c) (h1 : c ≤ 1114111) (hT : Tab3 w) : Calls Tryd.prog 8 #[.int .i64 c, .bool u] w (BoolB true w) := by
  have H0 := Lib.hid (awake_any w hT)
  have HO := Lib.hid (fun w1 (hb : Below w.heap.size w w1) => others_any c false w1 (by omega) (by omega) (below_tab hb hT))
  have HG := Lib.hid (fun h => others_great (c := c) h)
  have HC := Lib.hid (fun w1 => category_any c w1 (by omega) (by omega))
  have HS := Lib.hid (fun w1 => script_any c w1 (by omega) (by omega))
  obtain ⟨k1, k2, k3, k4⟩ := code_bd h0 h1
  have hz := catB_size k1 k2
  have hs := scrB_some k3 k4
  generalize catB (cls c).1 = cs at *
  generalize scrB (cls c).2.1 = ss at *
  have hse : (ss.toList == []) = false := by
    cases h : ss.toList with
    | nil =>
      exfalso
      apply hs
      have := congrArg List.length h
      rw [ByteArray.toList_eq] at this
      simpa using this
    | cons => rfl
  clear hT k1 k2 k3 k4 hs
  by_cases hg : 127 < c
  · have hE := HG.out hg
    have HE := Lib.hid hE
    clear hE
    go_enter Tryd.func8, Tryd.ntmps8
    go_wp2_with fail
    refine H0.out.mono ?_
    rintro e w1 ⟨rfl, hw1⟩
    go_wp2_with fail
    refine (HO.out _ hw1).mono ?_
    rintro e w2 ⟨v, rfl, hv, hb2⟩
    rw [HE.out] at hv
    obtain rfl := ints_none hv
    have hw2 := below_trans hw1 hb2
    go_wp2_with fail
    refine (HC.out _).mono ?_
    rintro e w3 ⟨rfl, hb3⟩
    have hw3 := below_trans hw2 hb3
    go_wp2_with fail
    refine (HS.out _).mono ?_
    rintro e w4 ⟨rfl, hb4⟩
    have hw4 := below_trans hw3 hb4
    clear hv hb2 hb3 hb4
    go_wp2_with fail
    go_ret
    exact ⟨rfl, hw4⟩
  · go_enter Tryd.func8, Tryd.ntmps8
    go_wp2_with fail
    refine H0.out.mono ?_
    rintro e w1 ⟨rfl, hw1⟩
    go_wp2_with fail
    refine (HO.out _ hw1).mono ?_
    rintro e w2 ⟨v, rfl, hv, hb2⟩
    have hw2 := below_trans hw1 hb2
    clear hv
    go_wp2_with fail
    refine (HC.out _).mono ?_
    rintro e w3 ⟨rfl, hb3⟩
    have hw3 := below_trans hw2 hb3
    go_wp2_with fail
    refine (HS.out _).mono ?_
    rintro e w4 ⟨rfl, hb4⟩
    have hw4 := below_trans hw3 hb4
    clear hb2 hb3 hb4
    go_wp2_with fail
    go_ret
    exact ⟨rfl, hw4⟩
theorem beyond_law (c : Int) (u : Bool) (w : World) (h1 : -9223372036854775808 ≤ c) (h2 : c ≤ 9223372036854775807) (hT : Tab3 w) : Calls Tryd.prog 8 #[.int .i64 c, .bool u] w (BoolB true w) := by
  by_cases h : c < 0 ∨ 1114111 < c
  · exact beyond_out c u w h1 h2 h hT
  · exact beyond_in c u w (by omega) (by omega) hT
end Go.Proofs.YtnmppacgjjkpcaaDoor.ucdw
