/- The contract of the document's Caseless. -/
import Derived.Test.YtgdhhpbpbkgmeaaDoorSetsJ5
import Derived.Test.YtgdhhpbpbkgmeaaDoorSetsP2
namespace Go.Proofs.YtgdhhpbpbkgmeaaDoor.setw
open Go Go.RowKit Go.Proofs.YtgdhhpbpbkgmeaaDoor.bulk Go.Proofs.YtgdhhpbpbkgmeaaDoor.ucdp Go.Proofs.YtgdhhpbpbkgmeaaDoor.ucdw Go.Proofs.YtgdhhpbpbkgmeaaDoor.setp

theorem dups_has (L : List Int) (c : Int) : Has (dups L) c ↔ c ∈ L := by
  unfold dups Has
  constructor
  · rintro ⟨r, hr, a, b⟩
    obtain ⟨x, hx, rfl⟩ := List.mem_map.1 hr
    have : c = x := by simp only at a b; omega
    rw [this]
    exact hx
  · intro h
    exact ⟨(c, c), List.mem_map.2 ⟨c, h, rfl⟩, Int.le_refl _, Int.le_refl _⟩
/-- what Caseless has collected, of the first k numbers -/
def caseL (l : List Rg) (u : Bool) : Nat → List Rg
  | 0 => l
  | k + 1 => if hasB l k = true then caseL l u k ++ dups (othersP k u) else caseL l u k
theorem caseL_succ (l : List Rg) (u : Bool) (k : Nat) : caseL l u (k + 1) = if hasB l k = true then caseL l u k ++ dups (othersP k u) else caseL l u k := rfl
theorem caseL_len (l : List Rg) (u : Bool) : ∀ k, (caseL l u k).length ≤ l.length + 2 * k
  | 0 => by simp [caseL]
  | k + 1 => by
    have := caseL_len l u k
    have h2 := others_len k u
    rw [caseL_succ]
    split
    · simp only [List.length_append, dups, List.length_map]; omega
    · omega
theorem caseL_has (l : List Rg) (u : Bool) (c : Int) : ∀ k : Nat, Has (caseL l u k) c ↔ Has l c ∨ ∃ d : Int, 0 ≤ d ∧ d < k ∧ Has l d ∧ c ∈ othersP d u
  | 0 => by
    simp only [caseL]
    constructor
    · exact Or.inl
    · rintro (h | ⟨d, h0, h1, _⟩)
      · exact h
      · omega
  | k + 1 => by
    have ih := caseL_has l u c k
    rw [caseL_succ]
    by_cases hk : hasB l k = true
    · rw [if_pos hk, has_append, ih, dups_has]
      constructor
      · rintro ((h | ⟨d, h0, h1, h2⟩) | h)
        · exact Or.inl h
        · exact Or.inr ⟨d, h0, by omega, h2⟩
        · exact Or.inr ⟨k, by omega, by omega, hasB_iff.1 hk, h⟩
      · rintro (h | ⟨d, h0, h1, h2, h3⟩)
        · exact Or.inl (Or.inl h)
        · by_cases hd : d = k
          · subst hd; exact Or.inr h3
          · exact Or.inl (Or.inr ⟨d, h0, by omega, h2, h3⟩)
    · rw [if_neg hk, ih]
      constructor
      · rintro (h | ⟨d, h0, h1, h2⟩)
        · exact Or.inl h
        · exact Or.inr ⟨d, h0, by omega, h2⟩
      · rintro (h | ⟨d, h0, h1, h2, h3⟩)
        · exact Or.inl h
        · by_cases hd : d = k
          · subst hd; exact absurd (hasB_iff.2 h2) hk
          · exact Or.inr ⟨d, h0, by omega, h2, h3⟩
def caseM (l : List Rg) (u : Bool) : List Rg := if hasB l 8490 = true then caseL l u 1201 ++ dups (othersP 8490 u) else caseL l u 1201
theorem caseM_len (l : List Rg) (u : Bool) : (caseM l u).length ≤ l.length + 2404 := by
  have := caseL_len l u 1201
  have h2 := others_len 8490 u
  unfold caseM
  split
  · simp only [List.length_append, dups, List.length_map]; omega
  · omega
theorem caseM_has {l : List Rg} {u : Bool} (hl : InR l) (c : Int) : (Has (caseM l u) c ∧ 0 ≤ c ∧ c ≤ min 1114111 1114111) ↔ Has l c ∨ ∃ d, Has l d ∧ c ∈ othersP d u := by
  have e : Has (caseM l u) c ↔ Has l c ∨ ∃ d, Has l d ∧ c ∈ othersP d u := by
    unfold caseM
    by_cases hk : hasB l 8490 = true
    · rw [if_pos hk, has_append, caseL_has, dups_has]
      constructor
      · rintro ((h | ⟨d, _, _, h2⟩) | h)
        · exact Or.inl h
        · exact Or.inr ⟨d, h2⟩
        · exact Or.inr ⟨8490, hasB_iff.1 hk, h⟩
      · rintro (h | ⟨d, h2, h3⟩)
        · exact Or.inl (Or.inl h)
        · rcases others_where (c := d) (u := u) (fun e => by rw [e] at h3; cases h3) with h | h
          · exact Or.inl (Or.inr ⟨d, h.1, by omega, h2, h3⟩)
          · subst h; exact Or.inr h3
    · rw [if_neg hk, caseL_has]
      constructor
      · rintro (h | ⟨d, _, _, h2⟩)
        · exact Or.inl h
        · exact Or.inr ⟨d, h2⟩
      · rintro (h | ⟨d, h2, h3⟩)
        · exact Or.inl h
        · rcases others_where (c := d) (u := u) (fun e => by rw [e] at h3; cases h3) with h | h
          · exact Or.inr ⟨d, h.1, by omega, h2, h3⟩
          · subst h; exact absurd (hasB_iff.2 h2) hk
  rw [e]
  constructor
  · exact fun h => h.1
  · intro h
    refine ⟨h, ?_⟩
    rcases h with h | ⟨d, _, h⟩
    · have := has_bd hl h; omega
    · have := others_mem h; omega
theorem caseL_wf {l : List Rg} {u : Bool} (hl : InR l) : Wf (caseM l u) := by
  have hd : ∀ c, Wf (dups (othersP c u)) := fun c r hr => by
    obtain ⟨x, hx, rfl⟩ := List.mem_map.1 hr
    have := others_mem hx
    simp only
    omega
  have hk : ∀ k, Wf (caseL l u k) := by
    intro k
    induction k with
    | zero => exact wf_canon hl
    | succ k ih =>
      rw [caseL_succ]
      split
      · exact fun r hr => (List.mem_append.1 hr).elim (ih r) (hd k r)
      · exact ih
  unfold caseM
  split
  · exact fun r hr => (List.mem_append.1 hr).elim (hk _ r) (hd _ r)
  · exact hk _
theorem rneww_any (v : Value) (l : List Rg) (most : Int) (w : World) (hv : RsAt w v l) (hl : l.length ≤ 600000) (h1 : -9223372036854775808 ≤ most) (h2 : most ≤ 9223372036854775807) :
    Calls Tryd.prog 14 #[v, .int .i64 most] w (DocS (fun c => Has l c ∧ 0 ≤ c ∧ c ≤ min most 1114111) w) := by
  have HJ := Lib.hid (join0w_any v (.slice none 0 0) l [] most w hv (rs_nil w) hl (by simp) h1 h2)
  clear hv
  go_enter Tryd.func14, Tryd.ntmps14
  go_wp2_with fail
  refine HJ.out.mono ?_
  rintro e w1 ⟨v1, S, rfl, hS, hh, ho, hb⟩
  have HS := Lib.hid hS
  have HH := Lib.hid hh
  have HO := Lib.hid ho
  clear hS hh ho
  go_wp2_with fail
  go_ret
  refine ⟨_, S, rfl, HS.out, fun c => ?_, HO.out, hb⟩
  rw [HH.out, qB_union]
  constructor
  · rintro ⟨a, b, c | c⟩
    · exact ⟨c, a, b⟩
    · exact absurd c (has_nil _)
  · rintro ⟨a, b, c⟩
    exact ⟨b, c, Or.inl a⟩

/-- how far Caseless has come -/
def CaRel (l : List Rg) (u : Bool) (w : World) (v i : Value) (wr : World) : Prop := ∃ k : Nat, k ≤ 1201 ∧ i = .int .i64 k ∧ OwnR wr w.heap.size v (caseL l u k) ∧ Below w.heap.size w wr
set_option maxRecDepth 100000 in
set_option maxHeartbeats 4000000 in
theorem rcase_any (v : Value) (l : List Rg) (u : Bool) (w : World) (hv : RsAt w v l) (hR : InR l) (hl : l.length ≤ 590000) :
    Calls Tryd.prog 27 #[v, .bool u] w (DocS (fun c => Has l c ∨ ∃ d, Has l d ∧ c ∈ othersP d u) w) := by
  have HV := Lib.hid hv
  have HIR := Lib.hid hR
  obtain ⟨a, cap, rfl⟩ := rsAt_len hv
  have HL0 := Lib.hid (show ([] : List Rg).length + l.length ≤ 100000000 by simp; omega)
  clear hv hR
  go_enter Tryd.func27, Tryd.ntmps27
  go_wp2_with (at_builtin; refine wpList_append_rs rfl _ _ rfl w.heap.size (.slice none 0 0) [] rfl (ownR_nil _ _) _ l rfl HV.out HL0.out (Nat.le_refl _) ?_; intro va wa hoa hba; have HOa := Lib.hid hoa; have HBa := Lib.hid (hba _ _ (Below.refl _ _) (Nat.le_refl _)); clear hoa hba)
  go_loopw [5, 6] (fun v i wr => CaRel l u w v i wr) (fun _ i _ => 1201 - (intOf i).toNat)
  case atStart => exact ⟨0, Nat.zero_le _, rfl, HOa.out, HBa.out⟩
  case round =>
    obtain ⟨k, hk, rfl, ho, hb⟩ := hrel
    have HO := Lib.hid ho
    have HB := Lib.hid hb
    clear ho hb
    by_cases hlt : k < 1201
    · have hki : (k : Int) ≤ 1200 := by omega
      have HI := Lib.hid (rin_any (.slice a l.length cap) l k wr (rsAt_below HV.out HB.out) (by omega))
      have HS := Lib.hid (caseL_succ l u k)
      have hlen := caseL_len l u k
      cases hp : hasB l k
      · rw [hp] at HI HS
        go_wp2_with fail
        refine HI.out.mono ?_
        rintro e w1 ⟨rfl, rfl⟩
        go_wp2_with fail
        go_roundw
        case rel => exact ⟨k + 1, by omega, by go_num, by rw [HS.out]; exact HO.out, HB.out⟩
        case measure => simp [intOf]; omega
      · rw [hp] at HI HS
        go_wp2_with fail
        refine HI.out.mono ?_
        rintro e wr ⟨rfl, rfl⟩
        go_wp2_with fail
        refine (rothers_any k u wr).mono ?_
        rintro e w2 ⟨vL, rfl, hn, hb2⟩
        have h2 := others_len k u
        have HAd := Lib.hid (radd_any _ vL (caseL l u k) (othersP k u) w.heap.size wr.heap.size w2 (ownR_below HO.out hb2) hn (fun g hg => (World.ownsRow.lt HO.out.1 g hg).2) (Nat.le_trans HB.out.size hb2.size) (by omega))
        have HB2 := Lib.hid (HB.out.trans (hb2.mono HB.out.size))
        clear hn hb2 h2
        go_wp2_with fail
        refine HAd.out.mono ?_
        rintro e w3 ⟨v3, rfl, ho3, hb3⟩
        have HO3 := Lib.hid ho3
        have HB3 := Lib.hid (HB2.out.trans hb3)
        clear ho3 hb3
        go_wp2_with fail
        go_roundw
        case rel => exact ⟨k + 1, by omega, by go_num, by rw [HS.out]; exact HO3.out, HB3.out⟩
        case measure => simp [intOf]; omega
    · obtain rfl : k = 1201 := by omega
      have HI := Lib.hid (rin_any (.slice a l.length cap) l 8490 wr (rsAt_below HV.out HB.out) (by omega))
      have HM := Lib.hid (show caseM l u = if hasB l 8490 = true then caseL l u 1201 ++ dups (othersP 8490 u) else caseL l u 1201 from rfl)
      have hlen := caseL_len l u 1201
      have hml := caseM_len l u
      have HWf := Lib.hid (caseL_wf (u := u) HIR.out)
      cases hp : hasB l 8490
      · rw [hp, if_neg (by simp)] at HM
        rw [hp] at HI
        go_wp2_with fail
        refine HI.out.mono ?_
        rintro e wr ⟨rfl, rfl⟩
        have HN := Lib.hid (fun v (h : OwnR wr w.heap.size v (caseM l u)) => rneww_any v (caseM l u) 1114111 wr (rs_own h HWf.out) (by omega) (by decide) (by decide))
        rw [← HM.out] at HO
        go_wp2_with fail
        refine (HN.out _ HO.out).mono ?_
        rintro e w4 ⟨v4, S, rfl, hS, hh, ho4, hb4⟩
        have HSC := Lib.hid hS
        have HH := Lib.hid hh
        have HO4 := Lib.hid (ownR_mono ho4 HB.out.size)
        have HB4 := Lib.hid (HB.out.trans (hb4.mono HB.out.size))
        clear hS hh ho4 hb4
        go_wp2_with fail
        go_ret
        exact ⟨_, S, rfl, HSC.out, fun c => (HH.out c).trans (caseM_has HIR.out c), HO4.out, HB4.out⟩
      · rw [hp, if_pos rfl] at HM
        rw [hp] at HI
        go_wp2_with fail
        refine HI.out.mono ?_
        rintro e wr ⟨rfl, rfl⟩
        go_wp2_with fail
        refine (rothers_any 8490 u wr).mono ?_
        rintro e w2 ⟨vL, rfl, hn, hb2⟩
        have h2 := others_len 8490 u
        have HAd := Lib.hid (radd_any _ vL (caseL l u 1201) (othersP 8490 u) w.heap.size wr.heap.size w2 (ownR_below HO.out hb2) hn (fun g hg => (World.ownsRow.lt HO.out.1 g hg).2) (Nat.le_trans HB.out.size hb2.size) (by omega))
        rw [← HM.out] at HAd
        have HB2 := Lib.hid (HB.out.trans (hb2.mono HB.out.size))
        clear hn hb2 h2
        go_wp2_with fail
        refine HAd.out.mono ?_
        rintro e w3 ⟨v3, rfl, ho3, hb3⟩
        have HO3 := Lib.hid ho3
        have HB3 := Lib.hid (HB2.out.trans hb3)
        clear ho3 hb3
        go_wp2_with fail
        refine (rneww_any _ (caseM l u) 1114111 w3 (rs_own HO3.out HWf.out) (by omega) (by decide) (by decide)).mono ?_
        rintro e w4 ⟨v4, S, rfl, hS, hh, ho4, hb4⟩
        have HSC := Lib.hid hS
        have HH := Lib.hid hh
        have HO4 := Lib.hid (ownR_mono ho4 HB3.out.size)
        have HB4 := Lib.hid (HB3.out.trans (hb4.mono HB3.out.size))
        clear hS hh ho4 hb4
        go_wp2_with fail
        go_ret
        exact ⟨_, S, rfl, HSC.out, fun c => (HH.out c).trans (caseM_has HIR.out c), HO4.out, HB4.out⟩
end Go.Proofs.YtgdhhpbpbkgmeaaDoor.setw
