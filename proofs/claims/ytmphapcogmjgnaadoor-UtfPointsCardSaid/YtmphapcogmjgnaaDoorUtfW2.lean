/- The contracts of package utf's functions that only read: Next, Prev, Valid, Count, Edge. -/
import Derived.Test.YtmphapcogmjgnaaDoorUtfW1
namespace Go.Proofs.YtmphapcogmjgnaaDoor.utfw
open Go Go.RowKit Go.Proofs.YtmphapcogmjgnaaDoor.utfp

/-- a slice of bytes: nil and empty, or its cells -/
def Sl (w : World) (v : Value) (n : Nat) (g : Nat → Int) : Prop :=
  (∀ i, 0 ≤ g i ∧ g i ≤ 255) ∧ n ≤ 140737488355328 ∧ ((n = 0 ∧ ∃ a cap, v = .slice a 0 cap ∧ cap ≤ 9223372036854775807) ∨ ∃ b off cap, v = .slice (some ⟨b, off, none⟩) n cap ∧ (n ≤ cap ∧ cap ≤ 9223372036854775807) ∧ ∀ i, i < n → w.cell? ⟨b, off + i, none⟩ = some (.int .u8 (g i)))

theorem Drawn.sl {w w' : World} {v : Value} {n : Nat} {g : Nat → Int} (hd : Drawn w w') (h : Sl w v n g) : Sl w' v n g := by
  obtain ⟨h1, h2, h3⟩ := h
  refine ⟨h1, h2, ?_⟩
  rcases h3 with h3 | ⟨b, off, cap, h3, h4, h5⟩
  · exact Or.inl h3
  · exact Or.inr ⟨b, off, cap, h3, h4, fun i hi => by rw [hd.cell]; exact h5 i hi⟩

/-- two numbers, and a world that only drew -/
def TwoPost (r : Int × Int) (w : World) (e : Ending) (w' : World) : Prop := e = .returned (.tuple #[.int .i64 r.1, .int .i64 r.2]) ∧ Drawn w w'
theorem twoPost {r : Int × Int} {w w' : World} {a s : Int} (h : r = (a, s)) (hw : Drawn w w') : TwoPost r w (.returned (.tuple #[.int .i64 a, .int .i64 s])) w' := by
  unfold TwoPost; rw [h]; exact ⟨rfl, hw⟩

set_option maxHeartbeats 1000000 in
theorem next_any (v : Value) (n : Nat) (g : Nat → Int) (a : Int) (u : Bool) (w : World) (hv : Sl w v n g) (hT : Tabs w) :
    Calls Tryd.prog 13 #[v, .int .i64 a, .bool u] w (TwoPost (nextP u g n a) w) := by
  obtain ⟨hg, hn, hv⟩ := hv
  by_cases h0 : a < 0
  · have HR := Lib.hid (show nextP u g n a = (-1, a) by unfold nextP; rw [if_pos (by omega)])
    rcases hv with ⟨rfl, a0, c0, rfl, hc0⟩ | ⟨b, off, cap, rfl, hcap, hc⟩
    all_goals
      clear hT hg
      go_enter Tryd.func13, Tryd.ntmps13
      go_wp2
      go_ret2
      exact twoPost HR.out ⟨0, rfl⟩
  by_cases h1 : (n : Int) ≤ a
  · have HR := Lib.hid (show nextP u g n a = (-1, a) by unfold nextP; rw [if_pos (by omega)])
    rcases hv with ⟨rfl, a0, c0, rfl, hc0⟩ | ⟨b, off, cap, rfl, hcap, hc⟩
    all_goals
      clear hT hg
      go_enter Tryd.func13, Tryd.ntmps13
      go_wp2
      go_ret2
      exact twoPost HR.out ⟨0, rfl⟩
  rcases hv with ⟨rfl, a0, c0, rfl, hc0⟩ | ⟨b, off, cap, rfl, hcap, hc⟩
  · omega
  obtain ⟨p, rfl⟩ := Int.eq_ofNat_of_zero_le (show 0 ≤ a by omega)
  have hp : p < n := by omega
  have hN : nextP u g n (p : Int) = stepv u g n p := by unfold nextP; rw [if_neg (by omega)]; simp
  rw [hN]
  have hcell := hc p hp
  have hgp := hg p
  obtain ⟨hg1, hg2⟩ := hgp
  cases u with
  | false =>
    have HR := Lib.hid (show stepv false g n p = (g p, (p : Int) + 1) by simp [stepv])
    clear hN hT hg hc h0 h1
    go_enter Tryd.func13, Tryd.ntmps13
    go_wp2
    go_ret2
    exact twoPost HR.out ⟨0, rfl⟩
  | true =>
    have C := seq_any b off n cap g p p rfl hp hn w hg hc hT
    have hq := seqAt_num (n := n) (p := p) hg
    unfold stepv SeqPost at *
    generalize seqAt g n p = q at *
    obtain ⟨c, s⟩ := q
    simp only at hq C ⊢
    obtain ⟨q1, q2, q3, q4, q5⟩ := hq
    have q6 := q5 (by omega)
    have HC := Lib.hid C
    by_cases hs : 0 < s
    · rw [if_pos ⟨trivial, hs⟩]
      clear hN hT hg hc h0 h1 C q5 hcell
      go_enter Tryd.func13, Tryd.ntmps13
      go_wp2_with (go_at_call 22; refine HC.out.mono ?_; rintro e w' ⟨rfl, hd⟩)
      go_ret2
      exact twoPost rfl hd
    · rw [if_neg (by simpa using hs)]
      clear hN hT hg hc h0 h1 C q5
      go_enter Tryd.func13, Tryd.ntmps13
      go_wp2_with (go_at_call 22; refine HC.out.mono ?_; rintro e w' ⟨rfl, hd⟩; have hcell2 : w'.cell? ⟨b, off + p, none⟩ = some (.int .u8 (g p)) := by rw [hd.cell]; exact hcell)
      go_ret2
      exact twoPost rfl hd

theorem lastSeq_step {g : Nat → Int} {n p k : Nat} (h : (seqAt g n (p - (k + 1))).2 ≠ (k : Int) + 1) : lastSeq g n p (k + 1) = lastSeq g n p k := by
  rw [lastSeq, if_neg h]

set_option maxHeartbeats 1000000 in
theorem prev_any (v : Value) (n : Nat) (g : Nat → Int) (a : Int) (u : Bool) (w : World) (hv : Sl w v n g) (hT : Tabs w) :
    Calls Tryd.prog 15 #[v, .int .i64 a, .bool u] w (TwoPost (prevP u g n a) w) := by
  obtain ⟨hg, hn, hv⟩ := hv
  by_cases h0 : a < 1
  · have HR := Lib.hid (show prevP u g n a = (-1, a) by unfold prevP; rw [if_pos (by omega)])
    rcases hv with ⟨rfl, a0, c0, rfl, hc0⟩ | ⟨b, off, cap, rfl, hcap, hc⟩
    all_goals
      clear hT hg
      go_enter Tryd.func15, Tryd.ntmps15
      go_wp2
      go_ret2
      exact twoPost HR.out (Drawn.refl _)
  by_cases h1 : (n : Int) < a
  · have HR := Lib.hid (show prevP u g n a = (-1, a) by unfold prevP; rw [if_pos (by omega)])
    rcases hv with ⟨rfl, a0, c0, rfl, hc0⟩ | ⟨b, off, cap, rfl, hcap, hc⟩
    all_goals
      clear hT hg
      go_enter Tryd.func15, Tryd.ntmps15
      go_wp2
      go_ret2
      exact twoPost HR.out (Drawn.refl _)
  rcases hv with ⟨rfl, a0, c0, rfl, hc0⟩ | ⟨b, off, cap, rfl, hcap, hc⟩
  · omega
  obtain ⟨q, hq⟩ : ∃ q : Nat, a = (q : Int) + 1 := ⟨(a - 1).toNat, by omega⟩
  subst hq
  have hp : q < n := by omega
  have hP : prevP u g n ((q : Int) + 1) = if u = true then lastSeq g n (q + 1) (min 4 (q + 1)) else (g q, (q : Int)) := by
    unfold prevP
    rw [if_neg (by omega)]
    simp only [show ((q : Int) + 1).toNat = q + 1 from by omega, Nat.add_sub_cancel, Int.add_sub_cancel]
  rw [hP]
  clear hP
  have hcell := hc q hp
  have hgp := hg q
  obtain ⟨hg1, hg2⟩ := hgp
  cases u with
  | false =>
    clear hT hg hc h0 h1
    go_enter Tryd.func15, Tryd.ntmps15
    go_wp2
    go_ret2
    exact twoPost (by simp) (Drawn.refl _)
  | true =>
    simp only [if_true]
    have HS := Lib.hid (fun (wr : World) (k : Nat) (hk : k ≤ q + 1) (hk0 : 1 ≤ k) (hd : Drawn w wr) => seq_any b off n cap g ((q : Int) + 1 - k) (q + 1 - k) (by omega) (by omega) hn wr hg (fun i hi => by rw [hd.cell]; exact hc i hi) (hd.tabs hT))
    have HB := Lib.hid (fun k : Nat => seqAt_num (n := n) (p := q + 1 - k) hg)
    have HM : ∀ m : Nat, m ≤ 4 → m ≤ q + 1 → (4 ≤ m ∨ q + 1 ≤ m) → min 4 (q + 1) = m := fun m h1 h2 h3 => by omega
    have HMh := Lib.hid HM
    clear h0 h1 hT hg hc HM
    generalize hR : lastSeq g n (q + 1) (min 4 (q + 1)) = R
    have HR := Lib.hid hR
    clear hR
    by_cases h4 : 3 ≤ q
    all_goals
      go_enter Tryd.func15, Tryd.ntmps15
      go_wp2
      go_loopw [8] (fun sz wr => ∃ k : Nat, k ≤ 4 ∧ k ≤ q + 1 ∧ sz = .int .i64 k ∧ Hid (R = lastSeq g n (q + 1) k) ∧ Drawn w wr) (fun sz _ => (intOf sz).toNat)
      case atStart =>
        first
          | exact ⟨4, by omega, by omega, rfl, Lib.hid (by rw [← HR.out, HMh.out 4 (by omega) (by omega) (by omega)]), Drawn.refl _⟩
          | exact ⟨q + 1, by omega, by omega, by go_num, Lib.hid (by rw [← HR.out, HMh.out (q + 1) (by omega) (by omega) (by omega)]), Drawn.refl _⟩
      case round =>
        obtain ⟨k, hk4, hkq, rfl, HK, hd⟩ := hrel
        by_cases hk0 : k ≤ 0
        · have hcell2 : wr.cell? ⟨b, off + q, none⟩ = some (.int .u8 (g q)) := by rw [hd.cell]; exact hcell
          go_wp2
          go_ret2
          exact twoPost (by rw [HK.out, show k = 0 from by omega, lastSeq]; simp) hd
        · have hpos : 1 ≤ k := by omega
          have C := HS.out wr k hkq hpos hd
          have hbd := HB.out k
          have hst := fun h => lastSeq_step (g := g) (n := n) (p := q + 1) (k := k - 1) h
          have hfull : (seqAt g n (q + 1 - k)).2 = k → lastSeq g n (q + 1) k = ((seqAt g n (q + 1 - k)).1, (q : Int) + 1 - k) := by
            obtain ⟨j, rfl⟩ : ∃ j, k = j + 1 := ⟨k - 1, by omega⟩
            intro h
            rw [lastSeq, if_pos (by rw [h]; omega)]
            congr 1
          rw [show k - 1 + 1 = k from by omega] at hst
          unfold SeqPost at C
          generalize seqAt g n (q + 1 - k) = r at *
          obtain ⟨c, s⟩ := r
          simp only at hbd C hst hfull
          obtain ⟨q1, q2, q3, q4, q5⟩ := hbd
          have HC := Lib.hid C
          have Hst := Lib.hid hst
          have Hfull := Lib.hid hfull
          clear C hst hfull q5
          by_cases hs : s = k
          · have hsb : (s == (k : Int)) = true := by simp [hs]
            have Hs := Lib.hid hs
            clear hs
            go_wp2_with (go_at_call 22; refine HC.out.mono ?_; rintro e w' ⟨rfl, hd2⟩)
            go_ret2
            exact twoPost (by rw [HK.out, Hfull.out Hs.out]) (hd.trans hd2)
          · have hsb : (s == (k : Int)) = false := by simp [hs]
            have Hs := Lib.hid hs
            clear hs
            go_wp2_with (go_at_call 22; refine HC.out.mono ?_; rintro e w' ⟨rfl, hd2⟩)
            go_roundw
            case rel => exact ⟨k - 1, by omega, by omega, by go_num, Lib.hid (by rw [HK.out, Hst.out (by have := Hs.out; omega)]), hd.trans hd2⟩
            case measure => simp [intOf]; omega

/-- a number and a truth value, and a world that only drew -/
def NumBoolPost (r : Int × Bool) (w : World) (e : Ending) (w' : World) : Prop := e = .returned (.tuple #[.int .i64 r.1, .bool r.2]) ∧ Drawn w w'
theorem numBoolPost {r : Int × Bool} {w w' : World} {a : Int} {s : Bool} (h : r = (a, s)) (hw : Drawn w w') : NumBoolPost r w (.returned (.tuple #[.int .i64 a, .bool s])) w' := by
  unfold NumBoolPost; rw [h]; exact ⟨rfl, hw⟩
def NumPost (r : Int) (w : World) (e : Ending) (w' : World) : Prop := e = .returned (.int .i64 r) ∧ Drawn w w'
theorem numPost {r : Int} {w w' : World} {a : Int} (h : r = a) (hw : Drawn w w') : NumPost r w (.returned (.int .i64 a)) w' := by
  unfold NumPost; rw [h]; exact ⟨rfl, hw⟩
def BoolPost (r : Bool) (w : World) (e : Ending) (w' : World) : Prop := e = .returned (.bool r) ∧ Drawn w w'
theorem boolPost {r : Bool} {w w' : World} {a : Bool} (h : r = a) (hw : Drawn w w') : BoolPost r w (.returned (.bool a)) w' := by
  unfold BoolPost; rw [h]; exact ⟨rfl, hw⟩

set_option maxHeartbeats 1000000 in
theorem valid_any (v : Value) (n : Nat) (g : Nat → Int) (w : World) (hv : Sl w v n g) (hT : Tabs w) :
    Calls Tryd.prog 11 #[v] w (NumBoolPost (validP g n) w) := by
  obtain ⟨hg, hn, hv⟩ := hv
  rcases hv with ⟨rfl, a0, c0, rfl, hc0⟩ | ⟨b, off, cap, rfl, hcap, hc⟩
  · clear hT hg
    go_enter Tryd.func11, Tryd.ntmps11
    go_wp2
    go_loopw [4] (fun a wr => a = .int .i64 0 ∧ Drawn w wr) (fun a _ => (intOf a).toNat)
    case atStart => exact ⟨rfl, Drawn.refl _⟩
    case round =>
      obtain ⟨rfl, hd⟩ := hrel
      go_wp2
      go_ret2
      exact numBoolPost rfl hd
  have HS := Lib.hid (fun (wr : World) (p : Nat) (hp : p < n) (hd : Drawn w wr) => seq_any b off n cap g p p rfl hp hn wr hg (fun i hi => by rw [hd.cell]; exact hc i hi) (hd.tabs hT))
  have HB := Lib.hid (fun p : Nat => seqAt_num (n := n) (p := p) hg)
  have HV := Lib.hid (fun p h => validP_step (g := g) (n := n) (p := p) hg h)
  have HE := Lib.hid (fun p h => validP_end (g := g) (n := n) (p := p) h)
  have H0 : validP g n = validF g n n 0 := rfl
  generalize validP g n = R at *
  have HR := Lib.hid H0
  clear hT hg hc H0
  go_enter Tryd.func11, Tryd.ntmps11
  go_wp2
  go_loopw [4] (fun a wr => ∃ p : Nat, p ≤ n ∧ a = .int .i64 p ∧ Hid (R = validF g n n p) ∧ Drawn w wr) (fun a _ => n - (intOf a).toNat)
  case atStart => exact ⟨0, Nat.zero_le _, rfl, HR, Drawn.refl _⟩
  case round =>
    obtain ⟨p, hp, rfl, HK, hd⟩ := hrel
    by_cases hpn : p < n
    · have C := HS.out wr p hpn hd
      have hbd := HB.out p
      have hst := HV.out p hpn
      unfold SeqPost at C
      generalize seqAt g n p = r at *
      obtain ⟨c, s⟩ := r
      simp only at hbd C hst
      obtain ⟨q1, q2, q3, q4, q5⟩ := hbd
      have q6 := q5 (by omega)
      have HC := Lib.hid C
      have Hst := Lib.hid hst
      clear C hst q5
      by_cases hs : s = 0
      · have hsb : (s == 0) = true := by simp [hs]
        have Hs := Lib.hid hs
        clear hs
        go_wp2_with (go_at_call 22; refine HC.out.mono ?_; rintro e w' ⟨rfl, hd2⟩)
        go_ret2
        exact numBoolPost (by rw [HK.out, Hst.out, if_pos Hs.out]) (hd.trans hd2)
      · have hsb : (s == 0) = false := by simp [hs]
        have Hs := Lib.hid hs
        have q7 : 1 ≤ s := by omega
        clear hs
        go_wp2_with (go_at_call 22; refine HC.out.mono ?_; rintro e w' ⟨rfl, hd2⟩)
        go_roundw
        case rel => exact ⟨p + s.toNat, by omega, by rw [show ((p + s.toNat : Nat) : Int) = p + s from by omega], Lib.hid (by rw [HK.out, Hst.out, if_neg Hs.out]), hd.trans hd2⟩
        case measure => simp [intOf]; omega
    · have hE := Lib.hid (HE.out p (by omega))
      go_wp2
      go_ret2
      exact numBoolPost (by rw [HK.out, hE.out]) hd

set_option maxHeartbeats 1000000 in
theorem count_any (v : Value) (n : Nat) (g : Nat → Int) (u : Bool) (w : World) (hv : Sl w v n g) (hT : Tabs w) :
    Calls Tryd.prog 18 #[v, .bool u] w (NumPost (countP u g n) w) := by
  have hv0 := hv
  obtain ⟨hg, hn, hv⟩ := hv
  cases u with
  | false =>
    have HR := Lib.hid (show ((countP false g n : Nat) : Int) = n by rw [countP_false])
    rcases hv with ⟨rfl, a0, c0, rfl, hc0⟩ | ⟨b, off, cap, rfl, hcap, hc⟩
    all_goals
      clear hT hg hv0
      go_enter Tryd.func18, Tryd.ntmps18
      go_wp2
      go_ret
      exact numPost HR.out (Drawn.refl _)
  | true =>
  rcases hv with ⟨rfl, a0, c0, rfl, hc0⟩ | ⟨b, off, cap, rfl, hcap, hc⟩
  · clear hT hg hv0
    go_enter Tryd.func18, Tryd.ntmps18
    go_wp2
    go_loopw [5, 6] (fun c a wr => c = .int .i64 0 ∧ a = .int .i64 0 ∧ Drawn w wr) (fun _ a _ => (intOf a).toNat)
    case atStart => exact ⟨rfl, rfl, Drawn.refl _⟩
    case round =>
      obtain ⟨rfl, rfl, hd⟩ := hrel
      go_wp2
      go_ret
      exact numPost rfl hd
  have HN := Lib.hid (fun (wr : World) (p : Nat) (hd : Drawn w wr) => next_any (.slice (some ⟨b, off, none⟩) n cap) n g p true wr (hd.sl hv0) (hd.tabs hT))
  have HP := Lib.hid (fun (p : Nat) (hp : p < n) => nextP_step true g n p hg hp)
  have HB := Lib.hid (fun (p : Nat) (hp : p < n) => stepN_bd (utf := true) hg hp)
  have HV := Lib.hid (fun p h => edges_step (utf := true) (g := g) (n := n) (p := p) hg h)
  have HE := Lib.hid (fun p h => edges_end (utf := true) (g := g) (n := n) (p := p) h)
  have H0 : countP true g n = (edgesF true g n n 0).length := rfl
  have HL := Lib.hid (fun p => edges_len (utf := true) (g := g) (n := n) hg n p)
  generalize countP true g n = R at *
  have HR := Lib.hid H0
  clear hT hg hc H0 hv0
  go_enter Tryd.func18, Tryd.ntmps18
  go_wp2
  go_loopw [5, 6] (fun c a wr => ∃ p k : Nat, p ≤ n ∧ k ≤ n ∧ a = .int .i64 p ∧ c = .int .i64 k ∧ Hid (R = k + (edgesF true g n n p).length) ∧ Drawn w wr) (fun _ a _ => n - (intOf a).toNat)
  case atStart => exact ⟨0, 0, Nat.zero_le _, Nat.zero_le _, rfl, rfl, Lib.hid (by rw [HR.out]; simp), Drawn.refl _⟩
  case round =>
    obtain ⟨p, k, hp, hkn, rfl, rfl, HK, hd⟩ := hrel
    by_cases hpn : p < n
    · have C := HN.out wr p hd
      rw [HP.out p hpn] at C
      have HC := Lib.hid C
      have hst := HV.out p hpn
      have hbd := HB.out p hpn
      have hl := HL.out p
      have hR : R ≤ n := by rw [HR.out]; have := HL.out 0; omega
      generalize stepN true g n p = q at *
      have HK2 : R = k + 1 + (edgesF true g n n q).length := by rw [HK.out, hst, List.length_cons]; omega
      have hk1 : k + 1 ≤ n := by omega
      have HKK := Lib.hid HK2
      obtain ⟨q1, q2, _⟩ := hbd
      clear C hst hl hR HK2
      go_wp2_with (go_at_call 13; refine HC.out.mono ?_; rintro e w' ⟨rfl, hd2⟩)
      go_roundw
      case rel => exact ⟨q, k + 1, by omega, hk1, rfl, by go_num, HKK, hd.trans hd2⟩
      case measure => simp [intOf]; omega
    · have hE := HE.out p (by omega)
      have HK2 := HK.out
      rw [hE] at HK2
      have HKK := Lib.hid HK2
      clear hE HK2
      go_wp2
      go_ret
      exact numPost (by rw [HKK.out]; simp) hd

set_option maxHeartbeats 1000000 in
theorem edge_any (v : Value) (n : Nat) (g : Nat → Int) (a : Int) (u : Bool) (w : World) (hv : Sl w v n g) (hT : Tabs w) :
    Calls Tryd.prog 19 #[v, .int .i64 a, .bool u] w (BoolPost (edgeP u g n a) w) := by
  obtain ⟨hg, hn, hv⟩ := hv
  by_cases h0 : a < 0
  · have HR := Lib.hid (show edgeP u g n a = false by unfold edgeP; rw [if_pos (by omega)])
    rcases hv with ⟨rfl, a0, c0, rfl, hc0⟩ | ⟨b, off, cap, rfl, hcap, hc⟩
    all_goals
      clear hT hg
      go_enter Tryd.func19, Tryd.ntmps19
      go_wp2
      go_ret
      exact boolPost HR.out (Drawn.refl _)
  by_cases h1 : (n : Int) < a
  · have HR := Lib.hid (show edgeP u g n a = false by unfold edgeP; rw [if_pos (by omega)])
    rcases hv with ⟨rfl, a0, c0, rfl, hc0⟩ | ⟨b, off, cap, rfl, hcap, hc⟩
    all_goals
      clear hT hg
      go_enter Tryd.func19, Tryd.ntmps19
      go_wp2
      go_ret
      exact boolPost HR.out (Drawn.refl _)
  obtain ⟨p, rfl⟩ := Int.eq_ofNat_of_zero_le (show 0 ≤ a by omega)
  have hP : edgeP u g n (p : Int) = if u = true then goodB g n p else true := by unfold edgeP; rw [if_neg (by omega)]; simp
  rw [hP]
  clear hP
  cases u with
  | false =>
    rcases hv with ⟨rfl, a0, c0, rfl, hc0⟩ | ⟨b, off, cap, rfl, hcap, hc⟩
    all_goals
      clear hT hg
      go_enter Tryd.func19, Tryd.ntmps19
      go_wp2
      go_ret
      exact boolPost (by simp) (Drawn.refl _)
  | true =>
  simp only [if_true]
  rcases hv with ⟨rfl, a0, c0, rfl, hc0⟩ | ⟨b, off, cap, rfl, hcap, hc⟩
  · obtain rfl : p = 0 := by omega
    clear hT hg h0 h1
    go_enter Tryd.func19, Tryd.ntmps19
    go_wp2
    go_loopw [7] (fun c wr => c = .int .i64 1 ∧ Drawn w wr) (fun c _ => (4 - intOf c).toNat)
    case atStart => exact ⟨rfl, Drawn.refl _⟩
    case round =>
      obtain ⟨rfl, hd⟩ := hrel
      go_wp2
      go_ret
      exact boolPost rfl hd
  have hpn : p ≤ n := by omega
  have HS := Lib.hid (fun (wr : World) (k : Nat) (hk : 1 ≤ k) (hkp : k ≤ p) (hd : Drawn w wr) => seq_any b off n cap g ((p : Int) - k) (p - k) (by omega) (by omega) hn wr hg (fun i hi => by rw [hd.cell]; exact hc i hi) (hd.tabs hT))
  have HB := Lib.hid (fun p : Nat => seqAt_num (n := n) (p := p) hg)
  have hnb : decide (n < p) = false := by simp; omega
  clear hT hg hc h0 h1
  go_enter Tryd.func19, Tryd.ntmps19
  go_wp2
  go_loopw [7] (fun c wr => ∃ k : Nat, 1 ≤ k ∧ k ≤ 4 ∧ c = .int .i64 k ∧ Hid (∀ j, 1 ≤ j → j < k → j ≤ p → (seqAt g n (p - j)).2 ≤ j) ∧ Drawn w wr) (fun c _ => (4 - intOf c).toNat)
  case atStart => exact ⟨1, by omega, by omega, rfl, Lib.hid (by intro j _ _ _; omega), Drawn.refl _⟩
  case round =>
    obtain ⟨k, hk1, hk4, rfl, HK, hd⟩ := hrel
    by_cases hkp : k < 4 ∧ k ≤ p
    · obtain ⟨hk3, hkp⟩ := hkp
      have C := HS.out wr k hk1 hkp hd
      have hbd := HB.out (p - k)
      by_cases hs : (k : Int) < (seqAt g n (p - k)).2
      · have HG := Lib.hid (goodB_not (g := g) (n := n) (p := p) (q := p - k) (by omega) (by omega))
        unfold SeqPost at C
        generalize seqAt g n (p - k) = r at *
        obtain ⟨c, s⟩ := r
        simp only at hbd C hs
        obtain ⟨q1, q2, q3, q4, q5⟩ := hbd
        have HC := Lib.hid C
        clear C q5
        go_wp2_with (go_at_call 22; refine HC.out.mono ?_; rintro e w' ⟨rfl, hd2⟩)
        go_ret
        exact boolPost HG.out (hd.trans hd2)
      · have HKK : Hid (∀ j, 1 ≤ j → j < k + 1 → j ≤ p → (seqAt g n (p - j)).2 ≤ j) := Lib.hid (by
          intro j h1 h2 h3
          by_cases e : j = k
          · subst e; omega
          · exact HK.out j h1 (by omega) h3)
        unfold SeqPost at C
        generalize seqAt g n (p - k) = r at C hbd hs
        obtain ⟨c, s⟩ := r
        simp only at hbd C hs
        obtain ⟨q1, q2, q3, q4, q5⟩ := hbd
        have HC := Lib.hid C
        clear C q5
        go_wp2_with (go_at_call 22; refine HC.out.mono ?_; rintro e w' ⟨rfl, hd2⟩)
        go_roundw
        case rel => exact ⟨k + 1, by omega, by omega, by go_num, HKK, hd.trans hd2⟩
        case measure => simp [intOf]; omega
    · have HG := Lib.hid (goodB_yes (g := g) (n := n) (p := p) (fun q hq => by
        by_cases h : p - q < k
        · have := HK.out (p - q) (by omega) h (by omega)
          rw [show p - (p - q) = q from by omega] at this
          omega
        · have := (HB.out q).2.2.2.1
          omega))
      by_cases hk3 : k < 4
      · have hkp2 : p < k := by omega
        clear hkp
        go_wp2
        go_ret
        exact boolPost HG.out hd
      · clear hkp
        go_wp2
        go_ret
        exact boolPost HG.out hd
end Go.Proofs.YtmphapcogmjgnaaDoor.utfw
