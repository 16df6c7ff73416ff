/- The contracts of the document's Same, of the same numbers; and of the statements' own look at layer 2, 'awake'. -/
import Derived.Test.YtnmppacgjjkpcaaDoorUcdR4
import Derived.Test.YtnmppacgjjkpcaaDoorUcdW7
namespace Go.Proofs.YtnmppacgjjkpcaaDoor.ucdw
open Go Go.RowKit Go.Proofs.YtnmppacgjjkpcaaDoor.bulk Go.Proofs.YtnmppacgjjkpcaaDoor.ucdp

theorem intsAt_below {b : Nat} {w w' : World} {v : Value} {l : List Int} (h : Below w.heap.size w w') (hv : IntsAt b w v l) : IntsAt b w' v l := by
  rcases hv with hv | ⟨hl, g, cap, e, hg, hg2, h3, h4, hc⟩
  · exact Or.inl hv
  · exact Or.inr ⟨hl, g, cap, e, hg, Nat.lt_of_lt_of_le hg2 h.size, h3, h4, fun i hi => below_cell h (hc i hi)⟩
theorem below_drewN {w w' : World} (h : Below w.heap.size w w') (n : Nat) : Below w.heap.size w (w'.drewN n) := ⟨h.os, h.tape, h.output, h.size, h.block⟩

set_option maxHeartbeats 1000000 in
theorem same_any (v1 v2 : Value) (l : List Int) (b1 b2 : Nat) (w : World) (h1 : IntsAt b1 w v1 l) (h2 : IntsAt b2 w v2 l) (hl : l.length ≤ 1000) : Calls Tryd.prog 14 #[v1, v2] w (BoolB true w) := by
  rcases h1 with ⟨rfl, rfl⟩ | ⟨hne, g1, k1, rfl, _, _, hk1, hm1, hc1⟩
  · rcases h2 with ⟨_, rfl⟩ | ⟨hne, _⟩
    · go_enter Tryd.func14, Tryd.ntmps14
      go_wp2_with fail
      refine wp_loop_rounds 1 ?_
      rw [rounds_succ]
      go_wp2_with fail
      go_ret
      exact ⟨rfl, Below.refl _ _⟩
    · exact absurd rfl hne
  · rcases h2 with ⟨rfl, _⟩ | ⟨_, g2, k2, rfl, _, _, hk2, hm2, hc2⟩
    · exact absurd rfl hne
    · have HC1 := Lib.hid hc1
      have HC2 := Lib.hid hc2
      generalize hn : l.length = n at *
      clear hn hc1 hc2 hne
      go_enter Tryd.func14, Tryd.ntmps14
      go_wp2_with fail
      go_loopw [5] (fun iv wr => ∃ i : Nat, i ≤ n ∧ iv = .int .i64 i ∧ Below w.heap.size w wr) (fun iv _ => n - (intOf iv).toNat)
      case atStart => exact ⟨0, Nat.zero_le _, rfl, Below.refl _ _⟩
      case round =>
        obtain ⟨i, hi, rfl, hb⟩ := hrel
        by_cases hlt : i < n
        · have a1 := below_cell hb (HC1.out i hlt)
          have a2 := below_cell hb (HC2.out i hlt)
          generalize l.getD i 0 = x at *
          go_wp2_with fail
          go_quiet (fail)
          go_wp2_with fail
          go_roundw
          case rel => exact ⟨i + 1, by omega, by go_num, below_drewN hb _⟩
          case measure => simp [intOf]; omega
        · go_wp2_with fail
          go_ret
          exact ⟨rfl, hb⟩

theorem ints_two {b : Nat} {w : World} {v : Value} {x y : Int} (h : IntsAt b w v [x, y]) : ∃ g cap : Nat, v = .slice (some ⟨g, 0, none⟩) 2 cap ∧ 2 ≤ cap ∧ cap ≤ 9223372036854775807 ∧ w.cell? ⟨g, 0, none⟩ = some (.int .i64 x) ∧ w.cell? ⟨g, 1, none⟩ = some (.int .i64 y) := by
  rcases h with ⟨h, _⟩ | ⟨_, g, cap, e, _, _, h3, h4, hc⟩
  · cases h
  · exact ⟨g, cap, e, h3, h4, hc 0 (by simp), hc 1 (by simp)⟩
theorem ints_one {b : Nat} {w : World} {v : Value} {x : Int} (h : IntsAt b w v [x]) : ∃ g cap : Nat, v = .slice (some ⟨g, 0, none⟩) 1 cap ∧ 1 ≤ cap ∧ cap ≤ 9223372036854775807 ∧ w.cell? ⟨g, 0, none⟩ = some (.int .i64 x) := by
  rcases h with ⟨h, _⟩ | ⟨_, g, cap, e, _, _, h3, h4, hc⟩
  · cases h
  · exact ⟨g, cap, e, h3, h4, hc 0 (by simp)⟩
theorem ints_none {b : Nat} {w : World} {v : Value} (h : IntsAt b w v []) : v = .slice none 0 0 := by
  rcases h with ⟨_, h⟩ | ⟨h, _⟩
  · exact h
  · exact absurd rfl h
theorem ints_head {b : Nat} {w : World} {v : Value} {x : Int} {l : List Int} (h : IntsAt b w v (x :: l)) : ∃ g n cap : Nat, v = .slice (some ⟨g, 0, none⟩) n cap ∧ 1 ≤ n ∧ n ≤ cap ∧ cap ≤ 9223372036854775807 ∧ w.cell? ⟨g, 0, none⟩ = some (.int .i64 x) := by
  rcases h with ⟨h, _⟩ | ⟨_, g, cap, e, _, _, h3, h4, hc⟩
  · cases h
  · exact ⟨g, _, cap, e, by simp, h3, h4, hc 0 (by simp)⟩
theorem strB_of {s t : ByteArray} (h : s = t) {w : World} {f : FuncId} {args : Array Value} (hc : Calls Tryd.prog f args w (StrB s w)) : Calls Tryd.prog f args w (StrB t w) := by rw [← h]; exact hc
theorem awk_lu (w : World) : Calls Tryd.prog 10 #[.int .i64 65] w (StrB ⟨#[76, 117]⟩ w) := strB_of (by rw [show cls 65 = (10, 2, 32) by decide +kernel]; rfl) (category_any 65 w (by decide) (by decide))
theorem awk_cn (w : World) : Calls Tryd.prog 10 #[.int .i64 5000] w (StrB ⟨#[67, 110]⟩ w) := strB_of (by rw [show cls 5000 = (20, 3, 0) by decide +kernel]; rfl) (category_any 5000 w (by decide) (by decide))
theorem awk_cy (w : World) : Calls Tryd.prog 12 #[.int .i64 1050] w (StrB ⟨#[67, 121, 114, 105, 108, 108, 105, 99]⟩ w) := strB_of (by rw [show cls 1050 = (10, 6, 32) by decide +kernel]; rfl) (script_any 1050 w (by decide) (by decide))

set_option maxHeartbeats 1000000 in
theorem awake_any (w : World) (hT : Tab3 w) : Calls Tryd.prog 9 #[] w (BoolB true w) := by
  have HO := Lib.hid (others_m107 w hT)
  have H1 := Lib.hid awk_lu
  have H2 := Lib.hid awk_cy
  have H3 := Lib.hid awk_cn
  clear hT
  go_enter Tryd.func9, Tryd.ntmps9
  go_wp2_with fail
  refine HO.out.mono ?_
  rintro e w1 ⟨v, rfl, hv, hb1⟩
  obtain ⟨g, cap, rfl, k1, k2, c0, c1⟩ := ints_two hv
  clear hv
  go_wp2_with fail
  refine (H1.out _).mono ?_
  rintro e w2 ⟨rfl, hb2⟩
  go_wp2_with fail
  refine (H2.out _).mono ?_
  rintro e w3 ⟨rfl, hb3⟩
  go_wp2_with fail
  refine (H3.out _).mono ?_
  rintro e w4 ⟨rfl, hb4⟩
  have d0 := below_cell hb4 (below_cell hb3 (below_cell hb2 c0))
  have d1 := below_cell hb4 (below_cell hb3 (below_cell hb2 c1))
  have hw := below_trans (below_trans (below_trans hb1 hb2) hb3) hb4
  clear hb1 hb2 hb3 hb4 c0 c1
  go_wp2_with fail
  go_ret
  exact ⟨rfl, hw⟩
end Go.Proofs.YtnmppacgjjkpcaaDoor.ucdw
