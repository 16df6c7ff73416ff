/- The walk of the law SetsHas, and what the walks of layer 3's laws have in common. -/
import Derived.Test.YtemdleocdllmfaaDoorSetsA
namespace Go.Proofs.YtemdleocdllmfaaDoor.setw
open Go Go.RowKit Go.Shelf Go.Proofs.YtemdleocdllmfaaDoor.bulk Go.Proofs.YtemdleocdllmfaaDoor.ucdp Go.Proofs.YtemdleocdllmfaaDoor.ucdw Go.Proofs.YtemdleocdllmfaaDoor.setp Go.Proofs.YtemdleocdllmfaaDoor.flt Go.Proofs.YtemdleocdllmfaaDoor.setl

/-- a set in a variable of its own -/
def SC (S : List Rg) (b : Nat) (v : Value) (wi : World) : Prop := wi.cell? ⟨b, 0, none⟩ = some v ∧ ZsAt 0 wi v S
theorem sc_on {S : List Rg} {b : Nat} {v : Value} {wi wj : World} (h : SC S b v wi) (hb : Below wi.heap.size wi wj) : SC S b v wj := ⟨below_cell hb h.1, zsAt_below h.2 hb⟩
theorem sc_new {S : List Rg} {base : Nat} {v : Value} {w : World} (h : ZsAt base w v S) (T : TypeId) : SC S w.heap.size v (w.alloc (.cells #[v] T)) :=
  ⟨(cell_new w v T).1, zsAt_mono (zsAt_below h (below_alloc _ _)) (Nat.zero_le _)⟩
/-- ranges in memory, as package api has them: where they lie -/
theorem ownR_slice {w : World} {base : Nat} {v : Value} {S : List Rg} (h : OwnR w base v S) (hS : S ≠ []) : ∃ g cap : Nat, v = .slice (some ⟨g, 0, none⟩) S.length cap ∧ base ≤ g ∧ S.length ≤ cap ∧ cap ≤ 9223372036854775807 ∧
    ∀ i (hi : i < S.length), w.cell? ⟨g, i * 2, none⟩ = some (.int .i64 S[i].1) ∧ w.cell? ⟨g, i * 2 + 1, none⟩ = some (.int .i64 S[i].2) := by
  have h1 := h.1
  obtain ⟨_, h2⟩ := h.1
  rcases h2 with ⟨_, hn⟩ | ⟨g, cap, cur, hv, hg, hh, hnc, hcm, _⟩
  · exact absurd (List.eq_nil_of_length_eq_zero hn) hS
  · unfold maxLen at hcm
    rw [hv] at h1
    refine ⟨g, cap, hv, hg, hnc, by omega, fun i hi => ?_⟩
    have hr : ∀ (l : List Rg) (i : Nat) (hi : i < l.length), (rcs l)[i * 2]? = some (.int .i64 l[i].1) ∧ (rcs l)[i * 2 + 1]? = some (.int .i64 l[i].2) := by
      intro l
      induction l with
      | nil => intro i hi; cases hi
      | cons r l ih =>
        intro i hi
        cases i with
        | zero => exact ⟨rfl, rfl⟩
        | succ i =>
          have := ih i (by simpa using hi)
          have e1 : rcs (r :: l) = [.int .i64 r.1, .int .i64 r.2] ++ rcs l := rfl
          rw [e1, show (i + 1) * 2 = i * 2 + 2 by omega]
          constructor
          · rw [List.getElem?_append_right (by simp)]; simpa using this.1
          · rw [List.getElem?_append_right (by simp)]; simpa using this.2
    have := hr S i hi
    constructor
    · rw [h1.cellAt _ (by omega)]; exact this.1
    · rw [h1.cellAt _ (by omega)]; exact this.2
theorem ownR_len {w : World} {base : Nat} {v : Value} {S : List Rg} (h : OwnR w base v S) : ∃ a cap, v = .slice a S.length cap := by
  by_cases hS : S = []
  · subst hS; exact ⟨_, _, h.2 rfl⟩
  · obtain ⟨g, cap, hv, _⟩ := ownR_slice h hS
    exact ⟨_, _, hv⟩
theorem hasB_take {S : List Rg} {k : Nat} (hk : k < S.length) (c : Int) : hasB (S.take (k + 1)) c = (hasB (S.take k) c || (decide (S[k].1 ≤ c) && decide (c ≤ S[k].2))) := by
  unfold hasB
  rw [take_snoc hk, List.any_append]
  simp

/-- plainly: a number in a set is all that both have -/
theorem has_pure {S U : List Rg} {c m : Int} (hS : ∀ x, Has S x → 0 ≤ x ∧ x ≤ m) (hU : Canon U) (h : ∀ x, Has U x ↔ Has S x ∧ Has [(c, c)] x ∧ 0 ≤ x ∧ x ≤ m) (hm : m ≤ 1114111) : tot U = if hasB S c = true then 1 else 0 := by
  by_cases hc : hasB S c = true
  · rw [if_pos hc]
    have hH := hasB_iff.1 hc
    have hb := hS c hH
    have : U = [(c, c)] := canon_ext hU ⟨List.pairwise_singleton _ _, inR_one hb.1 (Int.le_refl _) (by omega)⟩ fun x => by
      rw [h x]
      simp only [has_one]
      constructor
      · exact fun a => a.2.1
      · intro a
        have e : x = c := by omega
        subst e
        exact ⟨hH, a, hb⟩
    rw [this]
    simp [tot]
  · rw [if_neg hc]
    have : U = [] := canon_ext hU canon_nil fun x => by
      rw [h x]
      constructor
      · rintro ⟨a, b, _⟩
        rw [has_one] at b
        have e : x = c := by simp only at b; omega
        subst e
        exact absurd (hasB_iff.2 a) hc
      · exact fun a => absurd a (has_nil _)
    rw [this]
    rfl
/-- how far the law's loop has come -/
def HRel (S : List Rg) (c : Int) (w4 : World) (v i : Value) (wr : World) : Prop := ∃ k : Nat, k ≤ S.length ∧ i = .int .i64 k ∧ v = .bool (hasB (S.take k) c) ∧ wr = w4

set_option maxRecDepth 100000 in
set_option maxHeartbeats 4000000 in
theorem has_law (v : Value) (l : List Rg) (most c : Int) (w : World) (hv : RsAt w v l) (h1 : -9223372036854775808 ≤ most) (h2 : most ≤ 9223372036854775807) (h3 : -9223372036854775808 ≤ c) (h4 : c ≤ 9223372036854775807) (hT : Tab3 w) :
    Calls Tryd.prog 8 #[v, .int .i64 most, .int .i64 c] w (BoolB true w) := by
  have H0 := Lib.hid (awake_any w hT)
  have HV := Lib.hid hv
  obtain ⟨a, cap, rfl⟩ := rsAt_len hv
  clear hv hT
  by_cases hbig : (200 : Int) < l.length
  · go_enter Tryd.func8, Tryd.ntmps8
    go_wp2_with fail
    refine H0.out.mono ?_
    rintro e w1 ⟨rfl, hb1⟩
    go_wp2_with fail
    go_ret
    exact ⟨rfl, hb1⟩
  · go_enter Tryd.func8, Tryd.ntmps8
    go_wp2_with fail
    refine H0.out.mono ?_
    rintro e w1 ⟨rfl, hb1⟩
    have HB1 := Lib.hid hb1
    clear hb1
    go_wp2_with fail
    refine (new_any _ l most w1 (rsAt_below HV.out HB1.out) (by omega) h1 h2).mono ?_
    rintro e w2 ⟨v2, S, rfl, hS, hh, hz, hb2⟩
    obtain ⟨g2, c2, rfl⟩ := zsAt_len hz
    have hl := canon_len hS
    have hsc := sc_new hz 27
    have HB3 := Lib.hid (below_trans (below_trans HB1.out hb2) (below_alloc w2 (.cells #[.slice g2 S.length c2] 27)))
    have HS := Lib.hid hS
    have HH := Lib.hid hh
    have HZ := Lib.hid hsc.2
    have HC3 := Lib.hid hsc
    clear hS hh hz hb2 hsc
    go_wp2_with fail
    generalize w2.alloc _ = w3 at *
    refine (ranges_any _ S 0 w3 HS.out HZ.out).mono ?_
    rintro e w4 ⟨v4, rfl, hr4, hb4⟩
    obtain ⟨g4, c4, rfl⟩ := ownR_len hr4
    have HB4 := Lib.hid (below_trans HB3.out hb4)
    have HC4 := Lib.hid (sc_on HC3.out hb4)
    have HR4 := Lib.hid hr4
    clear hr4 hb4
    go_wp2_with fail
    go_loopw [10, 11] (fun v i wr => HRel S c w4 v i wr) (fun _ i _ => S.length - (intOf i).toNat)
    case atStart => exact ⟨0, Nat.zero_le _, rfl, rfl, rfl⟩
    case round =>
      obtain ⟨k, hk, rfl, rfl, rfl⟩ := hrel
      by_cases hlt : k < S.length
      · obtain ⟨g, cap', hv, _, hg3, hg4, hcs⟩ := ownR_slice HR4.out (by intro h; rw [h] at hlt; simp at hlt)
        cases hv
        obtain ⟨hc1, hc2⟩ := hcs k hlt
        have HT := Lib.hid (hasB_take hlt c)
        obtain ⟨x, y, hxy⟩ : ∃ x y, S[k] = (x, y) := ⟨_, _, rfl⟩
        rw [hxy] at hc1 hc2 HT
        simp only at hc1 hc2 HT
        clear hcs hxy
        generalize hasB (S.take k) c = b at *
        cases b with
        | true =>
          go_wp2_with fail
          go_roundw
          case rel => exact ⟨k + 1, by omega, by go_num, by rw [HT.out]; rfl, rfl⟩
          case measure => simp [intOf]; omega
        | false =>
          by_cases hx : x ≤ c
          · by_cases hy : c ≤ y
            · go_wp2_with fail
              go_roundw
              case rel => exact ⟨k + 1, by omega, by go_num, by rw [HT.out]; simp [hx, hy], rfl⟩
              case measure => simp [intOf]; omega
            · have hyb : decide (c ≤ y) = false := decide_eq_false hy
              go_wp2_with fail
              go_roundw
              case rel => exact ⟨k + 1, by omega, by go_num, by rw [HT.out]; simp [hy], rfl⟩
              case measure => simp [intOf]; omega
          · have hxb : decide (x ≤ c) = false := decide_eq_false hx
            go_wp2_with fail
            go_roundw
            case rel => exact ⟨k + 1, by omega, by go_num, by rw [HT.out]; simp [hx], rfl⟩
            case measure => simp [intOf]; omega
      · obtain rfl : k = S.length := by omega
        rw [List.take_length]
        go_wp2_with fail
        refine (new_any _ [(c, c)] most _ (rs_lit1 wr _ c c (fun r hr => by obtain rfl := List.mem_singleton.1 hr; exact ⟨⟨h3, h4⟩, h3, h4⟩)) (by simp) h1 h2).mono ?_
        rintro e w5 ⟨v5, T, rfl, hT, hh5, hz5, hb5⟩
        obtain ⟨g5, c5, rfl⟩ := zsAt_len hz5
        have hl5 := canon_len hT
        have hb6 := below_trans (below_alloc wr (.cells #[.int .i64 c, .int .i64 c] 46)) hb5
        have hn6 := below_alloc w5 (.cells #[.slice g5 T.length c5] 27)
        have HB6 := Lib.hid (below_trans (below_trans HB4.out hb6) hn6)
        have HC6 := Lib.hid (sc_on (sc_on HC4.out hb6) hn6)
        have hsc := sc_new hz5 27
        have HT5 := Lib.hid hT
        have HH5 := Lib.hid hh5
        have HZ6 := Lib.hid hsc.2
        have d6 := HC6.out.1
        clear hT hh5 hz5 hb5 hb6 hn6 hsc
        go_wp2_with fail
        clear d6
        generalize w5.alloc _ = w6 at *
        refine (meet_any _ _ S T 0 0 w6 HS.out HT5.out HC6.out.2 HZ6.out).mono ?_
        rintro e w7 ⟨v7, U, rfl, hU, hh7, hz7, hb7⟩
        obtain ⟨g7, c7, rfl⟩ := zsAt_len hz7
        have hl7 := canon_len hU
        have hn8 := below_alloc w7 (.cells #[.slice g7 U.length c7] 27)
        have HB8 := Lib.hid (below_trans (below_trans HB6.out hb7) hn8)
        have HC8 := Lib.hid (sc_on (sc_on HC6.out hb7) hn8)
        have HD8 := Lib.hid (sc_new hz7 27)
        have HU := Lib.hid hU
        have HP := Lib.hid (has_pure (fun x hx => ((HH.out x).1 hx).2) hU (fun x => (hh7 x).trans (and_congr Iff.rfl (HH5.out x))) (by omega))
        have d8 := HC8.out.1
        clear hU hh7 hz7 hb7 hn8
        go_wp2_with fail
        clear d8
        generalize w7.alloc _ = w8 at *
        refine (has_any _ S 0 c w8 HS.out HC8.out.2).mono ?_
        rintro e w9 ⟨rfl, hb9⟩
        have HB9 := Lib.hid (below_trans HB8.out hb9)
        have HD9 := Lib.hid (sc_on HD8.out hb9)
        have d9 := HD9.out.1
        clear hb9
        have hHP := HP.out
        generalize hasB S c = b at *
        cases b with
        | true =>
          rw [if_pos rfl] at hHP
          have HQ := Lib.hid hHP
          clear hHP
          go_wp2_with fail
          refine (count_any _ U 0 w9 HU.out HD9.out.2).mono ?_
          rintro e wx ⟨rfl, hbx⟩
          rw [HQ.out]
          go_wp2_with fail
          go_ret
          exact ⟨rfl, below_trans HB9.out hbx⟩
        | false =>
          rw [if_neg (by simp)] at hHP
          have HQ := Lib.hid hHP
          clear hHP
          go_wp2_with fail
          refine (count_any _ U 0 w9 HU.out HD9.out.2).mono ?_
          rintro e wx ⟨rfl, hbx⟩
          rw [HQ.out]
          go_wp2_with fail
          go_ret
          exact ⟨rfl, below_trans HB9.out hbx⟩
end Go.Proofs.YtemdleocdllmfaaDoor.setw
