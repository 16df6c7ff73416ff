/- The walk of the law UtfEdges: the offsets at which characters begin, and how many there are, are the document's. -/
import Derived.Test.YtmphapcogmjgnaaDoorUtfL8
import Derived.Test.YtmphapcogmjgnaaDoorUtfW6
namespace Go.Proofs.YtmphapcogmjgnaaDoor.utfw
open Go Go.RowKit Go.Proofs.YtmphapcogmjgnaaDoor.utfp

set_option maxRecDepth 100000 in
set_option maxHeartbeats 4000000 in
theorem edges_law (v : Value) (n : Nat) (g : Nat → Int) (u : Bool) (w : World) (s1 : Sl w v n g) (hT : Tabs w) :
    Calls Tryd.prog 5 #[v, .bool u] w (BoolB true w) := by
  have H0 := Lib.hid (awake_any w hT)
  have Hg := Lib.hid s1.1
  have HR := Lib.hid (fun (h : n ≤ 2000) w1 (hb : Below w.heap.size w w1) => redges_any v n g u w1 (below_sl hb s1) h)
  have HCo := Lib.hid (fun w1 (hb : Below w.heap.size w w1) => count_any v n g u w1 (below_sl hb s1) (below_tabs hb hT))
  have HE := Lib.hid (fun (a : Int) w1 (hb : Below w.heap.size w w1) => edge_any v n g a u w1 (below_sl hb s1) (below_tabs hb hT))
  have hn1 := s1.2.1
  obtain ⟨a1, c1, hv1⟩ : ∃ a c, v = .slice a n c := by
    obtain ⟨_, _, ⟨rfl, a, c, hv, _⟩ | ⟨b, off, cap, hv, _⟩⟩ := s1
    · exact ⟨_, _, hv⟩
    · exact ⟨_, _, hv⟩
  subst hv1
  clear hT s1
  by_cases hb1 : (2000 : Int) < n
  · go_enter Tryd.func5, Tryd.ntmps5
    go_wp2_with fail
    refine H0.out.mono ?_
    rintro e w1 ⟨rfl, hb1⟩
    go_wp2_with fail
    go_ret
    exact ⟨rfl, hb1⟩
  have hn2 : n ≤ 2000 := by omega
  have HAt := Lib.hid (fun (p k : Nat) (hp : p ≤ n) (h1 : ∀ j, j < k → edgeN u g n j < p) (h2 : k < (edgesL u g n).length → p ≤ edgeN u g n k) => edge_at (u := u) (k := k) Hg.out hp h1 h2)
  have HLt := Lib.hid (fun (i j : Nat) (h : i < j) (hj : j < (edgesL u g n).length) => edgeN_lt (u := u) Hg.out h hj)
  have HLe := Lib.hid (fun (k : Nat) (h : k < (edgesL u g n).length) => edgeN_le (u := u) Hg.out h)
  have Hm : (edgesL u g n).length = countP u g n + 1 := rfl
  have Hml : (edgesL u g n).length ≤ 2001 := by have := edges_len (utf := u) (n := n) Hg.out n 0; rw [Hm]; unfold countP; omega
  have e1 : edgeP u g n (-1) = false := by unfold edgeP; rw [if_pos (by omega)]
  have e2 : edgeP u g n ((n : Int) + 1) = false := by unfold edgeP; rw [if_pos (by omega)]
  have hcm : ((countP u g n : Int) != ((edgesL u g n).length : Int) - 1) = false := by rw [Hm]; simp
  have CE1 := HE.out (-1)
  have CE2 := HE.out ((n : Int) + 1)
  rw [e1] at CE1
  rw [e2] at CE2
  have HCE1 := Lib.hid CE1
  have HCE2 := Lib.hid CE2
  have HRR := Lib.hid (HR.out hn2)
  have Hrl : ∀ k, k < (edgesL u g n).length → (edgesL u g n).getD k 0 = edgeN u g n k := fun _ _ => rfl
  have HHrl := Lib.hid Hrl
  have Hne := Lib.hid (show edgesL u g n ≠ [] by unfold edgesL; simp)
  clear CE1 CE2 e1 e2 Hrl HR
  go_enter Tryd.func5, Tryd.ntmps5
  go_wp2_with fail
  refine H0.out.mono ?_
  rintro e w1 ⟨rfl, hw1⟩
  go_wp2_with fail
  refine (HRR.out _ hw1).mono ?_
  rintro e w2 ⟨vl, rfl, hol, hd2⟩
  have hw2 := below_trans hw1 hd2
  obtain ⟨gl, cl, hvl, hcl1, hcl2, hcells⟩ := ownI_slice hol Hne.out
  rw [hvl]
  have HC := Lib.hid (fun wr (hb : Below w2.heap.size w2 wr) (k : Nat) (hk : k < (edgesL u g n).length) => (below_cell hb (hcells k hk)).trans (by rw [HHrl.out k hk]))
  clear hol hvl hcells
  generalize hR : (edgesL u g n).length = m at *
  clear hR
  generalize countP u g n = cnt at *
  have HHm := Lib.hid Hm
  clear Hm
  go_wp2_with fail
  refine (HCo.out _ hw2).mono ?_
  rintro e w3 ⟨rfl, hd3⟩
  have hw3 := below_trans hw2 (drawn_below hd3)
  go_wp2_with fail
  refine (HCE1.out _ hw3).mono ?_
  rintro e w4 ⟨rfl, hd4⟩
  have hw4 := below_trans hw3 (drawn_below hd4)
  go_wp2_with fail
  refine (HCE2.out _ hw4).mono ?_
  rintro e w5 ⟨rfl, hd5⟩
  have hw5 := below_trans hw4 (drawn_below hd5)
  have hl5 : Below w2.heap.size w2 w5 := below_trans (below_trans (drawn_below hd3) (drawn_below hd4)) (drawn_below hd5)
  go_wp2_with fail
  go_loopw [7, 8] (fun kv pv wr => ∃ k p : Nat, k ≤ m ∧ p ≤ n + 1 ∧ kv = .int .i64 k ∧ pv = .int .i64 p ∧ Hid (∀ j, j < k → edgeN u g n j < p) ∧ Hid (k < m → p ≤ edgeN u g n k) ∧ Below w.heap.size w wr ∧ Below w2.heap.size w2 wr) (fun _ pv _ => n + 1 - (intOf pv).toNat)
  case atStart => exact ⟨0, 0, Nat.zero_le _, Nat.zero_le _, rfl, rfl, Lib.hid (by intro j h; omega), Lib.hid (by intro _; omega), hw5, hl5⟩
  case round =>
    obtain ⟨k, p, hk, hp, rfl, rfl, HA, HB, hb, hl⟩ := hrel
    by_cases hpn : p ≤ n
    · have hat := HAt.out p k hpn HA.out HB.out
      have CE := HE.out (p : Int) _ hb
      by_cases hkm : k < m
      · have hcell := HC.out wr hl k hkm
        have hpe := HB.out hkm
        by_cases heq : edgeN u g n k = p
        · have hbt : ((edgeN u g n k : Int) == (p : Int)) = true := by rw [heq]; simp
          rw [show edgeP u g n (p : Int) = true by rw [hat]; simp [hkm, heq]] at CE
          have HCE := Lib.hid CE
          have HA2 : Hid (∀ j, j < k + 1 → edgeN u g n j < p + 1) := Lib.hid (by
            intro j hj
            by_cases e : j = k
            · subst e; omega
            · have := HA.out j (by omega); omega)
          have HB2 : Hid (k + 1 < m → p + 1 ≤ edgeN u g n (k + 1)) := Lib.hid (by
            intro h
            have := HLt.out k (k + 1) (by omega) h
            omega)
          generalize edgeN u g n k = q at hcell hbt
          clear hat CE heq hpe
          go_wp2_with fail
          refine HCE.out.mono ?_
          rintro e w6 ⟨rfl, hd6⟩
          have hw6 := below_trans hb (drawn_below hd6)
          have hl6 := below_trans hl (drawn_below hd6)
          go_wp2_with fail
          go_roundw
          case rel => exact ⟨k + 1, p + 1, by omega, by omega, by go_num, by go_num, HA2, HB2, hw6, hl6⟩
          case measure => simp [intOf]; omega
        · have hbt : ((edgeN u g n k : Int) == (p : Int)) = false := by simp; omega
          rw [show edgeP u g n (p : Int) = false by rw [hat]; simp [heq]] at CE
          have HCE := Lib.hid CE
          have HA2 : Hid (∀ j, j < k → edgeN u g n j < p + 1) := Lib.hid (by
            intro j hj
            have := HA.out j hj; omega)
          have HB2 : Hid (k < m → p + 1 ≤ edgeN u g n k) := Lib.hid (by intro h; omega)
          generalize edgeN u g n k = q at hcell hbt
          clear hat CE heq hpe
          go_wp2_with fail
          refine HCE.out.mono ?_
          rintro e w6 ⟨rfl, hd6⟩
          have hw6 := below_trans hb (drawn_below hd6)
          have hl6 := below_trans hl (drawn_below hd6)
          go_wp2_with fail
          go_roundw
          case rel => exact ⟨k, p + 1, by omega, by omega, rfl, by go_num, HA2, HB2, hw6, hl6⟩
          case measure => simp [intOf]; omega
      · rw [show edgeP u g n (p : Int) = false by rw [hat]; simp [hkm]] at CE
        have HCE := Lib.hid CE
        have HA2 : Hid (∀ j, j < k → edgeN u g n j < p + 1) := Lib.hid (by
          intro j hj
          have := HA.out j hj; omega)
        have HB2 : Hid (k < m → p + 1 ≤ edgeN u g n k) := Lib.hid (by intro h; omega)
        have hkd : decide (k < m) = false := by simpa using hkm
        clear hat CE
        go_wp2_with fail
        refine HCE.out.mono ?_
        rintro e w6 ⟨rfl, hd6⟩
        have hw6 := below_trans hb (drawn_below hd6)
        have hl6 := below_trans hl (drawn_below hd6)
        go_wp2_with fail
        go_roundw
        case rel => exact ⟨k, p + 1, by omega, by omega, rfl, by go_num, HA2, HB2, hw6, hl6⟩
        case measure => simp [intOf]; omega
    · have hkm : k = m := by
        rcases Nat.lt_or_ge k m with h | h
        · have h1 := HB.out h
          have h2 := HLe.out k h
          omega
        · omega
      have hkb : ((k : Int) == (m : Int)) = true := by rw [hkm]; simp
      have Hkm := Lib.hid hkm
      clear hkm
      go_wp2_with fail
      go_ret
      exact ⟨rfl, hb⟩
end Go.Proofs.YtmphapcogmjgnaaDoor.utfw
