/- The walk of the law UtfBack: the characters of a valid text, one behind the other, are it; Prev goes back to where Next came from. -/
import Derived.Test.YtmphapcogmjgnaaDoorUtfL6
namespace Go.Proofs.YtmphapcogmjgnaaDoor.utfw
open Go Go.RowKit Go.Proofs.YtmphapcogmjgnaaDoor.utfp

theorem valid_no {g : Nat → Int} {n : Nat} (hg : ∀ i, 0 ≤ g i ∧ g i ≤ 255) : ∀ k p, n - p ≤ k → p ≤ n → (validF g n n p).2 = false → 0 ≤ (validF g n n p).1 ∧ (validF g n n p).1 < n := by
  intro k
  induction k with
  | zero =>
    intro p hk hp h
    obtain rfl : p = n := by omega
    rw [validP_end (Nat.le_refl _)] at h
    cases h
  | succ k ih =>
    intro p hk hp h
    by_cases e : p = n
    · subst e
      rw [validP_end (Nat.le_refl _)] at h
      cases h
    have hpn : p < n := by omega
    rw [validP_step hg hpn] at h ⊢
    by_cases hs : (seqAt g n p).2 = 0
    · rw [if_pos hs]
      simp only
      omega
    · rw [if_neg hs] at h ⊢
      have hb := seqAt_num (n := n) (p := p) hg
      exact ih _ (by omega) (by omega) h
theorem last_back {g : Nat → Int} {n p s : Nat} {c : Int} (hg : ∀ i, 0 ≤ g i ∧ g i ≤ 255) (hs1 : 1 ≤ s) (h : seqAt g n p = (c, (s : Int))) : ∀ k, s ≤ k → k ≤ p + s → lastSeq g n (p + s) k = (c, (p : Int)) := by
  intro k
  induction k with
  | zero => intro h1; omega
  | succ k ih =>
    intro h1 h2
    by_cases e : s = k + 1
    · subst e
      unfold lastSeq
      rw [show p + (k + 1) - (k + 1) = p from by omega, h]
      rw [if_pos (by simp only; omega)]
      congr 1
      omega
    · rw [lastSeq_step]
      · exact ih (by omega) (by omega)
      · intro he
        have := inside (g := g) (n := n) (p := p + s - (k + 1)) (q := p) hg (by omega) (by rw [he]; omega)
        rw [h] at this
        simp at this
        omega
/-- one step through a valid text -/
theorem back_step {g : Nat → Int} {n p : Nat} (hg : ∀ i, 0 ≤ g i ∧ g i ≤ 255) (hp : p < n) (hv : (validF g n n p).2 = true) :
    ∃ (c : Int) (s : Nat), 1 ≤ s ∧ p + s ≤ n ∧ nextP true g n (p : Int) = (c, ((p + s : Nat) : Int)) ∧ prevP true g n ((p + s : Nat) : Int) = (c, (p : Int)) ∧ enc c = (List.range s).map (sh g p) ∧ (validF g n n (p + s)).2 = true := by
  have hb := seqAt_num (n := n) (p := p) hg
  rw [validP_step hg hp] at hv
  by_cases hs : (seqAt g n p).2 = 0
  · rw [if_pos hs] at hv; cases hv
  rw [if_neg hs] at hv
  have hby := seq_bytes hg hs
  obtain ⟨s, hse⟩ : ∃ s : Nat, (seqAt g n p).2 = s := ⟨(seqAt g n p).2.toNat, by omega⟩
  refine ⟨(seqAt g n p).1, s, by omega, by omega, ?_, ?_, ?_, ?_⟩
  · unfold nextP
    rw [if_neg (by omega)]
    unfold stepv
    rw [show ((p : Int)).toNat = p from by simp, if_pos ⟨rfl, by omega⟩, hse]
    simp
  · unfold prevP
    rw [if_neg (by omega), if_pos rfl, show (((p + s : Nat) : Int)).toNat = p + s from by omega]
    exact last_back hg (by omega) (by rw [← hse]) _ (by omega) (by omega)
  · rw [hby.1, hse]; simp
  · rw [hse] at hv; simpa using hv
theorem grow_map {g : Nat → Int} {p s : Nat} : (List.range p).map g ++ (List.range s).map (sh g p) = (List.range (p + s)).map g := by
  rw [List.range_add, List.map_append, List.map_map]
  rfl

set_option maxRecDepth 100000 in
set_option maxHeartbeats 4000000 in
theorem back_law (v : Value) (n : Nat) (g : Nat → Int) (w : World) (s1 : Sl w v n g) (hT : Tabs w) :
    Calls Tryd.prog 7 #[v] w (BoolB true w) := by
  have H0 := Lib.hid (awake_any w hT)
  have Hg := Lib.hid s1.1
  have HT := Lib.hid hT
  have HV := Lib.hid (fun w1 (hb : Below w.heap.size w w1) => valid_any v n g w1 (below_sl hb s1) (below_tabs hb hT))
  have HN := Lib.hid (fun (a : Int) w1 (hb : Below w.heap.size w w1) => next_any v n g a true w1 (below_sl hb s1) (below_tabs hb hT))
  have HP := Lib.hid (fun (a : Int) w1 (hb : Below w.heap.size w w1) => prev_any v n g a true w1 (below_sl hb s1) (below_tabs hb hT))
  have hE := fun (c : Int) w1 (hb : Below w.heap.size w w1) => encode_any c true w1 (below_tabs hb hT)
  simp only [show ∀ c, encP true c = enc c from fun c => by simp [encP]] at hE
  have HE := Lib.hid hE
  have HS := Lib.hid s1
  have hn1 := s1.2.1
  obtain ⟨a1, c1, hv1⟩ := sl_slice s1
  subst hv1
  clear hT s1 hE
  by_cases hb1 : (5000 : Int) < n
  · go_enter Tryd.func7, Tryd.ntmps7
    go_wp2_with fail
    refine H0.out.mono ?_
    rintro e w1 ⟨rfl, hb1⟩
    go_wp2_with fail
    go_ret
    exact ⟨rfl, hb1⟩
  have HR := Lib.hid (show validF g n n 0 = validP g n from rfl)
  have HNo := Lib.hid (fun h => valid_no (n := n) Hg.out n 0 (by omega) (by omega) h)
  have HYes := Lib.hid (fun h => (through (g := g) (N := n) Hg.out Hg.out (fun _ _ => rfl) (Nat.le_refl _) n 0 (by omega) (by omega) h).2.1)
  rw [HR.out] at HNo HYes
  generalize validP g n = r at *
  obtain ⟨x, y⟩ := r
  cases y with
  | false =>
    obtain ⟨m1, m2⟩ := HNo.out rfl
    simp only at m1 m2
    go_enter Tryd.func7, Tryd.ntmps7
    go_wp2_with fail
    refine H0.out.mono ?_
    rintro e w1 ⟨rfl, hw1⟩
    go_wp2_with fail
    refine (HV.out _ hw1).mono ?_
    rintro e w2 ⟨rfl, hd2⟩
    go_wp2_with fail
    go_ret
    exact ⟨rfl, below_trans hw1 (drawn_below hd2)⟩
  | true =>
    have hx := HYes.out rfl
    simp only at hx
    subst hx
    go_enter Tryd.func7, Tryd.ntmps7
    go_wp2_with fail
    refine H0.out.mono ?_
    rintro e w1 ⟨rfl, hw1⟩
    go_wp2_with fail
    refine (HV.out _ hw1).mono ?_
    rintro e w2 ⟨rfl, hd2⟩
    have hw2 := below_trans hw1 (drawn_below hd2)
    go_wp2_with fail
    go_loopw [6, 7] (fun va i wr => ∃ p : Nat, p ≤ n ∧ i = .int .i64 p ∧ Hid (Own wr w.heap.size va ((List.range p).map g)) ∧ Hid ((validF g n n p).2 = true) ∧ Below w.heap.size w wr) (fun _ i _ => n - (intOf i).toNat)
    case atStart => exact ⟨0, Nat.zero_le _, rfl, Lib.hid (own_nil _ _), Lib.hid (by rw [HR.out]), hw2⟩
    case round =>
      obtain ⟨p, hp, rfl, HO, HK, hb⟩ := hrel
      by_cases hpn : p < n
      · obtain ⟨c, s, q1, q2, q3, q4, q5, q6⟩ := back_step Hg.out hpn HK.out
        have CN := HN.out (p : Int) _ hb
        rw [q3] at CN
        have CP := HP.out ((p + s : Nat) : Int)
        rw [q4] at CP
        have CE := HE.out c
        have hel : (enc c).length = s := by rw [q5]; simp
        have hmap := map_at (enc c)
        rw [hel] at hmap
        have hgr := grow_map (g := g) (p := p) (s := s)
        rw [← q5] at hgr
        have hk : ((List.range p).map g).length + s ≤ 140737488355328 := by simp; omega
        generalize enc c = l at *
        simp only [Int.natCast_add] at CN CP
        have HCN := Lib.hid CN
        have HCP := Lib.hid CP
        have HCE := Lib.hid CE
        have Hel := Lib.hid hel
        have Hmap := Lib.hid hmap
        have Hgr := Lib.hid hgr
        have Hk := Lib.hid hk
        have Hq6 := Lib.hid q6
        have hi0 : (p : Int) < p + s := by omega
        clear CN CP CE q3 q4 q5 q6 hel hmap hgr hk
        go_wp2_with fail
        refine HCN.out.mono ?_
        rintro e w3 ⟨rfl, hd3⟩
        have hw3 := below_trans hb (drawn_below hd3)
        go_wp2_with fail
        refine (HCE.out _ hw3).mono ?_
        rintro e w4 ⟨vx, rfl, hvx, hd4⟩
        have hw4 := below_trans hw3 hd4
        have hne : l ≠ [] := by
          intro h
          have := Hel.out
          rw [h] at this
          simp at this
          omega
        rw [if_neg hne]
        rw [Hel.out] at hvx
        have hnil : NilOk vx := by
          obtain ⟨_, _, ⟨h0, _⟩ | ⟨b, off, cap, hv3, _⟩⟩ := hvx
          · omega
          · exact Or.inr ⟨_, _, _, hv3⟩
        have Hvx := Lib.hid hvx
        have Hnil := Lib.hid hnil
        clear hne hvx hnil
        go_wp2_with fail
        refine (HCP.out _ hw4).mono ?_
        rintro e w5 ⟨rfl, hd5⟩
        have hw5 := below_trans hw4 (drawn_below hd5)
        have HO5 := Lib.hid (own_below (own_below (own_below HO.out (drawn_below hd3)) hd4) (drawn_below hd5))
        have Hvx5 := Lib.hid (hd5.sl Hvx.out)
        go_wp2_with (at_builtin; refine wpList_append_sl rfl _ _ rfl w.heap.size _ _ rfl HO5.out vx s (at_ l) rfl Hvx5.out Hnil.out Hk.out hw5.size ?_; rw [Hmap.out, Hgr.out]; intro vb wb hob hbb; have HOb := Lib.hid hob; have hwb := hbb _ _ hw5 (Nat.le_refl _); clear hob hbb)
        go_roundw
        case rel => exact ⟨p + s, by omega, by go_num, HOb, Hq6, hwb⟩
        case measure => simp [intOf]; omega
      · have hpe : p = n := by omega
        have HO2 := HO.out
        rw [hpe] at HO2
        obtain ⟨a3, c3, hva⟩ := own_slice HO2
        have hsl := own_sl HO2 (bytes_map Hg.out) (by simp; omega)
        have hL : ((List.range n).map g).length = n := by simp
        rw [hL] at hva hsl
        have e1 : strOf n (at_ ((List.range n).map g)) = strOf n g := by
          have := strOf_at ((List.range n).map g)
          rw [hL] at this
          exact this
        have k1 := conv_sl hsl
        rw [e1, hva] at k1
        have k2 := conv_sl (below_sl hb HS.out)
        have Hpe := Lib.hid hpe
        rw [hva]
        clear HO2 hsl hva e1 hpe hL
        have hpn2 : (n : Int) ≤ p := by omega
        have hpn3 : ((p : Int) == n) = true := by rw [Hpe.out]; simp
        clear hpn
        go_wp2_with fail
        go_ret
        exact ⟨rfl, hb⟩
end Go.Proofs.YtmphapcogmjgnaaDoor.utfw
