/- The contracts of the document's answers for layer 1: At, Next, Prev, Valid, Encode: they are what package utf answers. -/
import Derived.Test.YtmphapcogmjgnaaDoorUtfOf
import Derived.Test.YtmphapcogmjgnaaDoorUtfP2
namespace Go.Proofs.YtmphapcogmjgnaaDoor.utfw
open Go Go.RowKit Go.Proofs.YtmphapcogmjgnaaDoor.utfp

/-- what At answers -/
def atR (g : Nat → Int) (n p : Nat) : Int × Int := if 0 < (seqAt g n p).2 then seqAt g n p else (-1, 0)
theorem atR_yes {g : Nat → Int} {n p k : Nat} (hk1 : 1 ≤ k) (hk : p + k ≤ n) (h : 0 ≤ ofP k (sh g p)) : atR g n p = (ofP k (sh g p), (k : Int)) := by
  unfold atR
  rw [seq_of_of hk1 hk h]
  rw [if_pos (by simp only; omega)]
theorem atR_no {g : Nat → Int} {n p k : Nat} (hg : ∀ i, 0 ≤ g i ∧ g i ≤ 255) (hk : 4 < k ∨ n < p + k) (h : ∀ j, 1 ≤ j → j < k → ofP j (sh g p) < 0) : atR g n p = (-1, 0) := by
  unfold atR
  have hb := seqAt_num (n := n) (p := p) hg
  split
  · rename_i hs
    have h1 := of_of_seq (n := n) (p := p) (k := (seqAt g n p).2.toNat) hg (by omega) (by omega)
    have h2 := h (seqAt g n p).2.toNat (by omega) (by
      rcases seqAt_bd (n := n) (p := p) hg with h0 | h0
      · rw [h0] at hs; simp at hs
      · omega)
    omega
  · rfl

theorem atR_bd {g : Nat → Int} {n p : Nat} (hg : ∀ i, 0 ≤ g i ∧ g i ≤ 255) : -1 ≤ (atR g n p).1 ∧ (atR g n p).1 ≤ 1114111 ∧ 0 ≤ (atR g n p).2 ∧ (atR g n p).2 ≤ 4 ∧ ((p : Int) ≤ n → (p : Int) + (atR g n p).2 ≤ n) := by
  have hb := seqAt_num (n := n) (p := p) hg
  unfold atR
  split
  · exact ⟨by omega, hb.2.1, hb.2.2.1, hb.2.2.2.1, hb.2.2.2.2⟩
  · exact ⟨by simp, by simp, by simp, by simp, by simp⟩

/-- two numbers, and a world in which nothing of what was there has turned -/
def TwoB (r : Int × Int) (w : World) (e : Ending) (w' : World) : Prop := e = .returned (.tuple #[.int .i64 r.1, .int .i64 r.2]) ∧ Below w.heap.size w w'
theorem twoB {r : Int × Int} {w w' : World} {a s : Int} (h : r = (a, s)) (hb : Below w.heap.size w w') : TwoB r w (.returned (.tuple #[.int .i64 a, .int .i64 s])) w' := by
  unfold TwoB; rw [h]; exact ⟨rfl, hb⟩
def NumBoolB (r : Int × Bool) (w : World) (e : Ending) (w' : World) : Prop := e = .returned (.tuple #[.int .i64 r.1, .bool r.2]) ∧ Below w.heap.size w w'
theorem numBoolB {r : Int × Bool} {w w' : World} {a : Int} {s : Bool} (h : r = (a, s)) (hb : Below w.heap.size w w') : NumBoolB r w (.returned (.tuple #[.int .i64 a, .bool s])) w' := by
  unfold NumBoolB; rw [h]; exact ⟨rfl, hb⟩

set_option maxHeartbeats 1000000 in
theorem at_any (b off n cap : Nat) (g : Nat → Int) (P : Int) (p : Nat) (hP : P = p) (hp : p < n) (hn : n ≤ 140737488355328) (w : World) (hg : ∀ i, 0 ≤ g i ∧ g i ≤ 255)
    (hcap : n ≤ cap ∧ cap ≤ 9223372036854775807) (hc : ∀ i, i < n → w.cell? ⟨b, off + i, none⟩ = some (.int .u8 (g i))) :
    Calls Tryd.prog 23 #[.slice (some ⟨b, off, none⟩) n cap, .int .i64 P] w (TwoB (atR g n p) w) := by
  subst hP
  have HO := Lib.hid (fun (wr : World) (k : Nat) (hk : k = 1 ∨ k = 2 ∨ k = 3 ∨ k = 4) (hkp : p + k ≤ n) (hb : Below w.heap.size w wr) =>
    of_any b (off + p) k (cap - p) (sh g p) hk wr (fun i => hg (p + i)) (by omega) (fun i hi => by rw [Nat.add_assoc]; exact below_cell hb (hc (p + i) (by omega))))
  have HY := Lib.hid (fun (k : Nat) (h1 : 1 ≤ k) (h2 : p + k ≤ n) (h3 : 0 ≤ ofP k (sh g p)) => atR_yes h1 h2 h3)
  have HN := Lib.hid (fun (k : Nat) (h1 : 4 < k ∨ n < p + k) (h2 : ∀ j, 1 ≤ j → j < k → ofP j (sh g p) < 0) => atR_no hg h1 h2)
  generalize atR g n p = R at *
  obtain ⟨hcap1, hcap2⟩ := hcap
  clear hg hc
  go_enter Tryd.func23, Tryd.ntmps23
  go_wp2
  go_loopw [6] (fun c wr => ∃ k : Nat, 1 ≤ k ∧ k ≤ 5 ∧ c = .int .i64 k ∧ Hid (∀ j, 1 ≤ j → j < k → ofP j (sh g p) < 0) ∧ Below w.heap.size w wr) (fun c _ => (5 - intOf c).toNat)
  case atStart => exact ⟨1, by omega, by omega, rfl, Lib.hid (by intro j _ _; omega), Below.refl _ _⟩
  case round =>
    obtain ⟨k, hk1, hk5, rfl, HK, hb⟩ := hrel
    by_cases hk4 : k ≤ 4
    · by_cases hkn : p + k ≤ n
      · have C := HO.out wr k (by omega) hkn hb
        have Hy := HY.out k hk1 hkn
        have Hk := fun (h : ofP k (sh g p) < 0) => (show ∀ j, 1 ≤ j → j < k + 1 → ofP j (sh g p) < 0 from fun j h1 h2 => by
          by_cases e : j = k
          · subst e; exact h
          · exact HK.out j h1 (by omega))
        generalize ofP k (sh g p) = c at C Hy Hk
        have HC := Lib.hid C
        have Hyy := Lib.hid Hy
        have Hkk := Lib.hid Hk
        clear C Hy Hk
        by_cases hs : 0 ≤ c
        · go_wp2_with (go_at_call 24; refine HC.out.mono ?_; rintro e w' ⟨rfl, hb2⟩)
          go_ret2
          exact twoB (Hyy.out hs) (below_trans hb hb2)
        · go_wp2_with (go_at_call 24; refine HC.out.mono ?_; rintro e w' ⟨rfl, hb2⟩)
          go_roundw
          case rel => exact ⟨k + 1, by omega, by omega, by go_num, Lib.hid (Hkk.out (by omega)), below_trans hb hb2⟩
          case measure => simp [intOf]; omega
      · have HE := Lib.hid (HN.out k (by omega) HK.out)
        have hkn2 : n < p + k := by omega
        clear hkn
        go_wp2
        go_ret2
        exact twoB HE.out hb
    · have HE := Lib.hid (HN.out k (by omega) HK.out)
      have hk4' : 5 ≤ k := by omega
      clear hk4
      go_wp2
      go_ret2
      exact twoB HE.out hb

theorem nextR {u : Bool} {g : Nat → Int} {n p : Nat} : stepv u g n p = if u = true ∧ 0 < (atR g n p).2 then ((atR g n p).1, (p : Int) + (atR g n p).2) else (g p, (p : Int) + 1) := by
  unfold stepv atR
  by_cases h : 0 < (seqAt g n p).2
  · rw [if_pos h]
  · rw [if_neg h]
    rw [if_neg (by simpa using fun _ => Int.not_lt.1 h), if_neg (by simp)]

set_option maxHeartbeats 1000000 in
theorem rnext_any (v : Value) (n : Nat) (g : Nat → Int) (a : Int) (u : Bool) (w : World) (hv : Sl w v n g) :
    Calls Tryd.prog 14 #[v, .int .i64 a, .bool u] w (TwoB (nextP u g n a) w) := by
  obtain ⟨hg, hn, hv⟩ := hv
  by_cases h0 : a < 0
  · have HR := Lib.hid (show nextP u g n a = (-1, a) by unfold nextP; rw [if_pos (by omega)])
    rcases hv with ⟨rfl, a0, c0, rfl, hc0⟩ | ⟨b, off, cap, rfl, hcap, hc⟩
    all_goals
      clear hg
      go_enter Tryd.func14, Tryd.ntmps14
      go_wp2
      go_ret2
      exact twoB HR.out (Below.refl _ _)
  by_cases h1 : (n : Int) ≤ a
  · have HR := Lib.hid (show nextP u g n a = (-1, a) by unfold nextP; rw [if_pos (by omega)])
    rcases hv with ⟨rfl, a0, c0, rfl, hc0⟩ | ⟨b, off, cap, rfl, hcap, hc⟩
    all_goals
      clear hg
      go_enter Tryd.func14, Tryd.ntmps14
      go_wp2
      go_ret2
      exact twoB HR.out (Below.refl _ _)
  rcases hv with ⟨rfl, a0, c0, rfl, hc0⟩ | ⟨b, off, cap, rfl, hcap, hc⟩
  · omega
  obtain ⟨p, rfl⟩ := Int.eq_ofNat_of_zero_le (show 0 ≤ a by omega)
  have hp : p < n := by omega
  have hN : nextP u g n (p : Int) = stepv u g n p := by unfold nextP; rw [if_neg (by omega)]; simp
  rw [hN, nextR]
  have hcell := hc p hp
  have hgp := hg p
  obtain ⟨hg1, hg2⟩ := hgp
  have C := at_any b off n cap g p p rfl hp hn w hg hcap hc
  have hq := atR_bd (n := n) (p := p) hg
  unfold TwoB at C
  generalize atR g n p = q at *
  obtain ⟨c, s⟩ := q
  simp only at hq C ⊢
  obtain ⟨q1, q2, q3, q4, q5⟩ := hq
  have q6 := q5 (by omega)
  have HC := Lib.hid C
  obtain ⟨hcap1, hcap2⟩ := hcap
  cases u with
  | false =>
    rw [if_neg (by simp)]
    clear hN hg hc h0 h1 C q5
    go_enter Tryd.func14, Tryd.ntmps14
    go_wp2_with (go_at_call 23; refine HC.out.mono ?_; rintro e w' ⟨rfl, hb⟩; have hcell2 := below_cell hb hcell)
    go_ret2
    exact twoB rfl hb
  | true =>
    by_cases hs : 0 < s
    · rw [if_pos ⟨rfl, hs⟩]
      clear hN hg hc h0 h1 C q5 hcell
      go_enter Tryd.func14, Tryd.ntmps14
      go_wp2_with (go_at_call 23; refine HC.out.mono ?_; rintro e w' ⟨rfl, hb⟩)
      go_ret2
      exact twoB rfl hb
    · rw [if_neg (by simpa using hs)]
      clear hN hg hc h0 h1 C q5
      go_enter Tryd.func14, Tryd.ntmps14
      go_wp2_with (go_at_call 23; refine HC.out.mono ?_; rintro e w' ⟨rfl, hb⟩; have hcell2 := below_cell hb hcell)
      go_ret2
      exact twoB rfl hb

theorem validR {g : Nat → Int} {n p : Nat} (hg : ∀ i, 0 ≤ g i ∧ g i ≤ 255) (hp : p < n) : validF g n n p = if (atR g n p).2 = 0 then ((p : Int), false) else validF g n n (p + (atR g n p).2.toNat) := by
  rw [validP_step hg hp]
  have := seqAt_num (n := n) (p := p) hg
  unfold atR
  by_cases h : 0 < (seqAt g n p).2
  · rw [if_pos h]
  · rw [if_neg h]
    rw [if_pos (by omega), if_pos rfl]

set_option maxHeartbeats 1000000 in
theorem rvalid_any (v : Value) (n : Nat) (g : Nat → Int) (w : World) (hv : Sl w v n g) :
    Calls Tryd.prog 12 #[v] w (NumBoolB (validP g n) w) := by
  obtain ⟨hg, hn, hv⟩ := hv
  rcases hv with ⟨rfl, a0, c0, rfl, hc0⟩ | ⟨b, off, cap, rfl, hcap, hc⟩
  · clear hg
    go_enter Tryd.func12, Tryd.ntmps12
    go_wp2
    go_loopw [4] (fun a wr => a = .int .i64 0 ∧ Below w.heap.size w wr) (fun a _ => (intOf a).toNat)
    case atStart => exact ⟨rfl, Below.refl _ _⟩
    case round =>
      obtain ⟨rfl, hd⟩ := hrel
      go_wp2
      go_ret2
      exact numBoolB rfl hd
  have HS := Lib.hid (fun (wr : World) (p : Nat) (hp : p < n) (hd : Below w.heap.size w wr) => at_any b off n cap g p p rfl hp hn wr hg hcap (fun i hi => below_cell hd (hc i hi)))
  have HB := Lib.hid (fun p : Nat => atR_bd (n := n) (p := p) hg)
  have HV := Lib.hid (fun p h => validR (g := g) (n := n) (p := p) hg h)
  have HE := Lib.hid (fun p h => validP_end (g := g) (n := n) (p := p) h)
  have H0 : validP g n = validF g n n 0 := rfl
  generalize validP g n = R at *
  have HR := Lib.hid H0
  obtain ⟨hcap1, hcap2⟩ := hcap
  clear hg hc H0
  go_enter Tryd.func12, Tryd.ntmps12
  go_wp2
  go_loopw [4] (fun a wr => ∃ p : Nat, p ≤ n ∧ a = .int .i64 p ∧ Hid (R = validF g n n p) ∧ Below w.heap.size w wr) (fun a _ => n - (intOf a).toNat)
  case atStart => exact ⟨0, Nat.zero_le _, rfl, HR, Below.refl _ _⟩
  case round =>
    obtain ⟨p, hp, rfl, HK, hd⟩ := hrel
    by_cases hpn : p < n
    · have C := HS.out wr p hpn hd
      have hbd := HB.out p
      have hst := HV.out p hpn
      unfold TwoB at C
      generalize atR g n p = r at *
      obtain ⟨c, s⟩ := r
      simp only at hbd C hst
      obtain ⟨q1, q2, q3, q4, q5⟩ := hbd
      have q6 := q5 (by omega)
      have HC := Lib.hid C
      have Hst := Lib.hid hst
      clear C hst q5
      by_cases hs : s = 0
      · have hsb : (s == 0) = true := by simp [hs]
        have Hs := Lib.hid hs
        clear hs
        go_wp2_with (go_at_call 23; refine HC.out.mono ?_; rintro e w' ⟨rfl, hd2⟩)
        go_ret2
        exact numBoolB (by rw [HK.out, Hst.out, if_pos Hs.out]) (below_trans hd hd2)
      · have hsb : (s == 0) = false := by simp [hs]
        have Hs := Lib.hid hs
        have q7 : 1 ≤ s := by omega
        clear hs
        go_wp2_with (go_at_call 23; refine HC.out.mono ?_; rintro e w' ⟨rfl, hd2⟩)
        go_roundw
        case rel => exact ⟨p + s.toNat, by omega, by rw [show ((p + s.toNat : Nat) : Int) = p + s from by omega], Lib.hid (by rw [HK.out, Hst.out, if_neg Hs.out]), below_trans hd hd2⟩
        case measure => simp [intOf]; omega
    · have hE := Lib.hid (HE.out p (by omega))
      go_wp2
      go_ret2
      exact numBoolB (by rw [HK.out, hE.out]) hd
end Go.Proofs.YtmphapcogmjgnaaDoor.utfw
