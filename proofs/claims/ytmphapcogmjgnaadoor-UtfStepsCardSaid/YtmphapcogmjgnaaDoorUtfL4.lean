/- The contract of the document's Prev, and the walk of the law UtfSteps. -/
import Derived.Test.YtmphapcogmjgnaaDoorUtfW4
import Derived.Test.YtmphapcogmjgnaaDoorUtfW6
namespace Go.Proofs.YtmphapcogmjgnaaDoor.utfw
open Go Go.RowKit Go.Proofs.YtmphapcogmjgnaaDoor.utfp

theorem lastSeq_of {g : Nat → Int} {n p k : Nat} (_hg : ∀ i, 0 ≤ g i ∧ g i ≤ 255) (hk : k + 1 ≤ p) (hp : p ≤ n) (h : 0 ≤ ofP (k + 1) (sh g (p - (k + 1)))) :
    lastSeq g n p (k + 1) = (ofP (k + 1) (sh g (p - (k + 1))), ((p - (k + 1) : Nat) : Int)) := by
  have hs := seq_of_of (n := n) (p := p - (k + 1)) (k := k + 1) (by omega) (by omega) h
  unfold lastSeq
  rw [hs]
  rw [if_pos (by simp only; omega)]
  congr 1
  omega
theorem lastSeq_not {g : Nat → Int} {n p k : Nat} (hg : ∀ i, 0 ≤ g i ∧ g i ≤ 255) (h : ofP (k + 1) (sh g (p - (k + 1))) < 0) : lastSeq g n p (k + 1) = lastSeq g n p k := by
  apply lastSeq_step
  intro he
  have h1 := of_of_seq (n := n) (p := p - (k + 1)) (k := k + 1) hg (by omega) (by omega)
  have h2 := seqAt_num (n := n) (p := p - (k + 1)) hg
  omega

set_option maxHeartbeats 1000000 in
theorem rprev_any (v : Value) (n : Nat) (g : Nat → Int) (a : Int) (u : Bool) (w : World) (hv : Sl w v n g) :
    Calls Tryd.prog 16 #[v, .int .i64 a, .bool u] w (TwoB (prevP u g n a) w) := by
  obtain ⟨hg, hn, hv⟩ := hv
  by_cases h0 : a < 1
  · have HR := Lib.hid (show prevP u g n a = (-1, a) by unfold prevP; rw [if_pos (by omega)])
    rcases hv with ⟨rfl, a0, c0, rfl, hc0⟩ | ⟨b, off, cap, rfl, hcap, hc⟩
    all_goals
      clear hg
      go_enter Tryd.func16, Tryd.ntmps16
      go_wp2
      go_ret2
      exact twoB HR.out (Below.refl _ _)
  by_cases h1 : (n : Int) < a
  · have HR := Lib.hid (show prevP u g n a = (-1, a) by unfold prevP; rw [if_pos (by omega)])
    rcases hv with ⟨rfl, a0, c0, rfl, hc0⟩ | ⟨b, off, cap, rfl, hcap, hc⟩
    all_goals
      clear hg
      go_enter Tryd.func16, Tryd.ntmps16
      go_wp2
      go_ret2
      exact twoB HR.out (Below.refl _ _)
  rcases hv with ⟨rfl, a0, c0, rfl, hc0⟩ | ⟨b, off, cap, rfl, hcap, hc⟩
  · omega
  obtain ⟨q, hq⟩ : ∃ q : Nat, a = (q : Int) + 1 := ⟨(a - 1).toNat, by omega⟩
  subst hq
  have hp : q < n := by omega
  have hP : prevP u g n ((q : Int) + 1) = if u = true then lastSeq g n (q + 1) (min 4 (q + 1)) else (g q, (q : Int)) := by
    unfold prevP
    rw [if_neg (by omega)]
    simp only [show ((q : Int) + 1).toNat = q + 1 from by omega, Nat.add_sub_cancel, Int.add_sub_cancel]
  rw [hP]
  clear hP
  have hcell := hc q hp
  have hgp := hg q
  obtain ⟨hg1, hg2⟩ := hgp
  obtain ⟨hcap1, hcap2⟩ := hcap
  cases u with
  | false =>
    clear hg hc h0 h1
    go_enter Tryd.func16, Tryd.ntmps16
    go_wp2
    go_ret2
    exact twoB (by simp) (Below.refl _ _)
  | true =>
    simp only [if_true]
    have HO := Lib.hid (fun (wr : World) (k : Nat) (hk : k = 1 ∨ k = 2 ∨ k = 3 ∨ k = 4) (hkp : k ≤ q + 1) (hb : Below w.heap.size w wr) =>
      of_any b (off + (q + 1 - k)) k (cap - (q + 1 - k)) (sh g (q + 1 - k)) hk wr (fun i => hg (q + 1 - k + i)) (by omega) (fun i hi => by rw [Nat.add_assoc]; exact below_cell hb (hc (q + 1 - k + i) (by omega))))
    have HY := Lib.hid (fun (k : Nat) (h1 : k + 1 ≤ q + 1) (h : 0 ≤ ofP (k + 1) (sh g (q + 1 - (k + 1)))) => lastSeq_of (n := n) hg h1 (by omega) h)
    have HN := Lib.hid (fun (k : Nat) (h : ofP (k + 1) (sh g (q + 1 - (k + 1))) < 0) => lastSeq_not (n := n) (p := q + 1) (k := k) hg h)
    clear h0 h1 hg hc
    generalize hR : lastSeq g n (q + 1) (min 4 (q + 1)) = R
    have HR := Lib.hid hR
    clear hR
    go_enter Tryd.func16, Tryd.ntmps16
    go_wp2
    go_loopw [8] (fun sz wr => ∃ k : Nat, k ≤ 4 ∧ sz = .int .i64 k ∧ Hid (R = lastSeq g n (q + 1) (min k (q + 1))) ∧ Below w.heap.size w wr) (fun sz _ => (intOf sz).toNat)
    case atStart => exact ⟨4, by omega, rfl, Lib.hid (by rw [HR.out]), Below.refl _ _⟩
    case round =>
      obtain ⟨k, hk4, rfl, HK, hd⟩ := hrel
      by_cases hk0 : k ≤ 0
      · have hcell2 := below_cell hd hcell
        go_wp2
        go_ret2
        exact twoB (by rw [HK.out, show k = 0 from by omega]; simp [lastSeq]) hd
      by_cases hkq : q + 1 < k
      · have HKK : Hid (R = lastSeq g n (q + 1) (min (k - 1) (q + 1))) := Lib.hid (by rw [HK.out, show min k (q + 1) = q + 1 from by omega, show min (k - 1) (q + 1) = q + 1 from by omega])
        go_wp2
        go_roundw
        case rel => exact ⟨k - 1, by omega, by go_num, HKK, hd⟩
        case measure => simp [intOf]; omega
      have C := HO.out wr k (by omega) (by omega) hd
      have hy := HY.out (k - 1) (by omega)
      have hnn := HN.out (k - 1)
      have hk1 : k - 1 + 1 = k := by omega
      rw [hk1] at hy hnn
      have HK2 := HK.out
      rw [show min k (q + 1) = k from by omega] at HK2
      generalize ofP k (sh g (q + 1 - k)) = c at C hy hnn
      have HKK := Lib.hid HK2
      have HC := Lib.hid C
      have HL := Lib.hid (show q + 1 - (q + 1 - k) = k from by omega)
      have Hy := Lib.hid hy
      have Hn := Lib.hid hnn
      have hsub : ((q : Int) + 1 - k).toNat = q + 1 - k := by omega
      have hkq2 : (k : Int) ≤ q + 1 := by omega
      have hk02 : 1 ≤ (k : Int) := by omega
      clear C hy hnn HK2 hk1 hkq hk0
      by_cases hs : 0 ≤ c
      · go_wp2_with (go_at_call 24; rw [HL.out]; refine HC.out.mono ?_; rintro e w' ⟨rfl, hb2⟩)
        go_ret2
        exact twoB (by rw [HKK.out, Hy.out hs, show ((q + 1 - k : Nat) : Int) = (q : Int) + 1 - k from by omega]) (below_trans hd hb2)
      · go_wp2_with (go_at_call 24; rw [HL.out]; refine HC.out.mono ?_; rintro e w' ⟨rfl, hb2⟩)
        go_roundw
        case rel => exact ⟨k - 1, by omega, by go_num, Lib.hid (by rw [HKK.out, Hn.out (by omega), show min (k - 1) (q + 1) = k - 1 from by omega]), below_trans hd hb2⟩
        case measure => simp [intOf]; omega

/-- what the law asks at one offset -/
structure StepsAt (v : Value) (n : Nat) (g : Nat → Int) (u : Bool) (w : World) : Prop where
  nx : ∀ (a : Int) w1, Below w.heap.size w w1 → Calls Tryd.prog 13 #[v, .int .i64 a, .bool u] w1 (TwoPost (nextP u g n a) w1)
  rnx : ∀ (a : Int) w1, Below w.heap.size w w1 → Calls Tryd.prog 14 #[v, .int .i64 a, .bool u] w1 (TwoB (nextP u g n a) w1)
  pv : ∀ (a : Int) w1, Below w.heap.size w w1 → Calls Tryd.prog 15 #[v, .int .i64 a, .bool u] w1 (TwoPost (prevP u g n a) w1)
  rpv : ∀ (a : Int) w1, Below w.heap.size w w1 → Calls Tryd.prog 16 #[v, .int .i64 a, .bool u] w1 (TwoB (prevP u g n a) w1)

set_option maxRecDepth 100000 in
set_option maxHeartbeats 4000000 in
theorem steps_law (v : Value) (n : Nat) (g : Nat → Int) (x : Int) (_wx : (Lit.int .i64 x).wf = true) (u : Bool) (w : World) (hv : Sl w v n g) (hT : Tabs w) :
    Calls Tryd.prog 4 #[v, .int .i64 x, .bool u] w (BoolB true w) := by
  have HA : StepsAt v n g u w := ⟨fun a w1 hb => next_any v n g a u w1 (below_sl hb hv) (below_tabs hb hT), fun a w1 hb => rnext_any v n g a u w1 (below_sl hb hv), fun a w1 hb => prev_any v n g a u w1 (below_sl hb hv) (below_tabs hb hT), fun a w1 hb => rprev_any v n g a u w1 (below_sl hb hv)⟩
  have H0 := Lib.hid (awake_any w hT)
  have hnn : n ≤ 140737488355328 := hv.2.1
  obtain ⟨b, cap, rfl⟩ : ∃ b cap, v = .slice b n cap := by
    obtain ⟨_, _, hv | hv⟩ := hv
    · obtain ⟨rfl, a, c, rfl, _⟩ := hv; exact ⟨_, _, rfl⟩
    · obtain ⟨b, off, cap, rfl, _⟩ := hv; exact ⟨_, _, rfl⟩
  clear hv hT
  go_enter Tryd.func4, Tryd.ntmps4
  go_wp2_with fail
  refine H0.out.mono ?_
  rintro e w1 ⟨rfl, hb1⟩
  by_cases hbig : (5000 : Int) < n
  · go_wp2_with fail
    go_ret
    exact ⟨rfl, hb1⟩
  go_wp2_with fail
  go_loopw [8] (fun s wr => ∃ a : Int, -1 ≤ a ∧ a ≤ n + 2 ∧ s = .int .i64 a ∧ Below w.heap.size w wr) (fun s _ => ((n : Int) + 2 - intOf s).toNat)
  case atStart => exact ⟨-1, by omega, by omega, rfl, hb1⟩
  case round =>
    obtain ⟨a, ha1, ha2, rfl, hb⟩ := hrel
    by_cases han : a ≤ (n : Int) + 1
    · go_wp2_with fail
      refine (HA.nx a _ hb).mono ?_
      rintro e w2 ⟨rfl, hd2⟩
      have hb2 := below_trans hb (drawn_below hd2)
      go_wp2_with fail
      refine (HA.rnx a _ hb2).mono ?_
      rintro e w3 ⟨rfl, hd3⟩
      have hb3 := below_trans hb2 hd3
      go_wp2_with fail
      refine (HA.pv a _ hb3).mono ?_
      rintro e w4 ⟨rfl, hd4⟩
      have hb4 := below_trans hb3 (drawn_below hd4)
      go_wp2_with fail
      refine (HA.rpv a _ hb4).mono ?_
      rintro e w5 ⟨rfl, hd5⟩
      have hb5 := below_trans hb4 hd5
      go_wp2_with fail
      go_roundw
      case rel => exact ⟨a + 1, by omega, by omega, rfl, hb5⟩
      case measure => simp [intOf]; omega
    · go_wp2_with fail
      refine (HA.nx x _ hb).mono ?_
      rintro e w2 ⟨rfl, hd2⟩
      have hb2 := below_trans hb (drawn_below hd2)
      go_wp2_with fail
      refine (HA.rnx x _ hb2).mono ?_
      rintro e w3 ⟨rfl, hd3⟩
      have hb3 := below_trans hb2 hd3
      go_wp2_with fail
      refine (HA.pv x _ hb3).mono ?_
      rintro e w4 ⟨rfl, hd4⟩
      have hb4 := below_trans hb3 (drawn_below hd4)
      go_wp2_with fail
      refine (HA.rpv x _ hb4).mono ?_
      rintro e w5 ⟨rfl, hd5⟩
      have hb5 := below_trans hb4 hd5
      go_wp2_with fail
      go_ret
      exact ⟨rfl, hb5⟩
end Go.Proofs.YtmphapcogmjgnaaDoor.utfw
