/- The contracts of package props' Posix, Escape and Property. -/
import Derived.Test.YtgdhhpbpbkgmeaaDoorPropsW5
namespace Go.Proofs.YtgdhhpbpbkgmeaaDoor.prw
open Go Go.RowKit Go.Proofs.YtgdhhpbpbkgmeaaDoor.bulk Go.Proofs.YtgdhhpbpbkgmeaaDoor.ucdp Go.Proofs.YtgdhhpbpbkgmeaaDoor.ucdw Go.Proofs.YtgdhhpbpbkgmeaaDoor.setp Go.Proofs.YtgdhhpbpbkgmeaaDoor.setw Go.Proofs.YtgdhhpbpbkgmeaaDoor.prp

/-- ranges in new memory, and whether there is such a set -/
def RB2 (R : List Rg) (b : Bool) (w : World) (e : Ending) (w' : World) : Prop := ∃ v, e = .returned (.tuple #[v, .bool b]) ∧ OwnR w' w.heap.size v R ∧ Below w.heap.size w w'
def posixP (n : ByteArray) : List Rg := lookP posix n []
def posixB (n : ByteArray) : Bool := posix.any fun p => decide (p.1 = n)
theorem lookP_canon (n : ByteArray) : ∀ {M : List (ByteArray × List Rg)}, (∀ p ∈ M, Canon p.2) → Canon (lookP M n [])
  | [], _ => canon_nil
  | (k, R) :: M, h => by
    unfold lookP
    split
    · exact h (k, R) (List.mem_cons_self ..)
    · exact lookP_canon n fun p hp => h p (List.mem_cons_of_mem _ hp)
theorem posixP_canon (n : ByteArray) : Canon (posixP n) := lookP_canon n fun _ hp => posix_canon hp
theorem zeroSet (w : World) : (zeroValue 27).run Tryd.prog w = .ok (.agg #[.slice none 0 0]) w := by kernel_rfl
theorem zeroNum (w : World) : (zeroValue 3).run Tryd.prog w = .ok (.int .i64 0) w := by kernel_rfl

set_option maxRecDepth 100000 in
set_option maxHeartbeats 4000000 in
theorem pos_any (n : ByteArray) (w : World) (hn : n.size ≤ maxLen) : Calls Tryd.prog 29 #[.string n] w (RB2 (posixP n) (posixB n) w) := by
  have HP := Lib.hid (posix_any w)
  have HC := Lib.hid (posixP_canon n)
  have HN := Lib.hid hn
  clear hn
  go_enter Tryd.func29, Tryd.ntmps29
  go_wp2_with fail
  refine HP.out.mono ?_
  rintro e w1 ⟨b, m, L, rfl, hm, hb, hl⟩
  obtain ⟨v, hv, hz⟩ := pl_look n hl
  obtain ⟨a, cap, rfl⟩ := zsAt_len hz
  have HV := Lib.hid hv
  have HA := Lib.hid (pl_any n hl)
  have HM := Lib.hid hm
  have HB := Lib.hid hb
  have HZ := Lib.hid hz
  clear hv hm hb hz hl
  go_wp2_with (refine wpList_lookup_ok rfl 66 27 _ _ rfl Tryd.underlying66 (.agg #[.slice none 0 0]) (zeroSet _) b m L rfl HM.out n rfl HN.out ?_; rw [HV.out, HA.out])
  have HX := Lib.hid (below_alloc w1 (Obj.cells #[Value.slice a (lookP posix n []).length cap] 27))
  refine (ranges_any (.slice a (lookP posix n []).length cap) (posixP n) 0 _ HC.out (zsAt_below HZ.out HX.out)).mono ?_
  rintro e w2 ⟨v2, rfl, ho, hb2⟩
  have HO := Lib.hid (ownR_mono ho (Nat.le_trans HB.out.size HX.out.size))
  have HB2 := Lib.hid (below_trans (below_trans HB.out HX.out) hb2)
  clear ho hb2
  go_wp2_with fail
  go_ret2
  exact ⟨v2, rfl, HO.out, HB2.out⟩

def escP (c : Int) : List Rg := if c = 100 then [(48, 57)] else if c = 115 then [(9, 13), (32, 32)] else if c = 119 then [(48, 57), (65, 90), (95, 95), (97, 122)] else if c = 104 then [(9, 9), (32, 32), (160, 160), (8192, 8202)] else if c = 118 then [(10, 13), (133, 133), (8232, 8233)] else []
def escB (c : Int) : Bool := decide (c = 100) || decide (c = 115) || decide (c = 119) || decide (c = 104) || decide (c = 118)
theorem escP_canon (c : Int) : Canon (escP c) := by
  unfold escP
  repeat' split
  all_goals first | exact canon_nil | exact canon_of (by decide +kernel)
theorem pos_digit (w : World) : Calls Tryd.prog 29 #[.string ⟨#[100, 105, 103, 105, 116]⟩] w (RB2 [(48, 57)] true w) := by
  have h := pos_any ⟨#[100, 105, 103, 105, 116]⟩ w (by unfold maxLen; decide)
  rw [show posixP ⟨#[100, 105, 103, 105, 116]⟩ = [(48, 57)] by decide +kernel, show posixB ⟨#[100, 105, 103, 105, 116]⟩ = true by decide +kernel] at h
  exact h
theorem pos_space (w : World) : Calls Tryd.prog 29 #[.string ⟨#[115, 112, 97, 99, 101]⟩] w (RB2 [(9, 13), (32, 32)] true w) := by
  have h := pos_any ⟨#[115, 112, 97, 99, 101]⟩ w (by unfold maxLen; decide)
  rw [show posixP ⟨#[115, 112, 97, 99, 101]⟩ = [(9, 13), (32, 32)] by decide +kernel, show posixB ⟨#[115, 112, 97, 99, 101]⟩ = true by decide +kernel] at h
  exact h
theorem pos_word (w : World) : Calls Tryd.prog 29 #[.string ⟨#[119, 111, 114, 100]⟩] w (RB2 [(48, 57), (65, 90), (95, 95), (97, 122)] true w) := by
  have h := pos_any ⟨#[119, 111, 114, 100]⟩ w (by unfold maxLen; decide)
  rw [show posixP ⟨#[119, 111, 114, 100]⟩ = [(48, 57), (65, 90), (95, 95), (97, 122)] by decide +kernel, show posixB ⟨#[119, 111, 114, 100]⟩ = true by decide +kernel] at h
  exact h
theorem rb2_of {R R' : List Rg} {b b' : Bool} {w : World} {e : Ending} {w' : World} (hR : R = R') (hb : b = b') (h : RB2 R b w e w') : RB2 R' b' w e w' := by
  subst hR
  subst hb
  exact h
set_option maxRecDepth 100000 in
set_option maxHeartbeats 4000000 in
theorem esc_any (c : Int) (w : World) : Calls Tryd.prog 31 #[.int .i64 c] w (RB2 (escP c) (escB c) w) := by
  by_cases h1 : c = 100
  · subst h1
    have HP := Lib.hid (pos_digit w)
    go_enter Tryd.func31, Tryd.ntmps31
    go_wp2_with fail
    refine HP.out.mono ?_
    rintro e w1 ⟨v, rfl, ho, hb⟩
    have HO := Lib.hid ho
    clear ho
    go_wp2_with fail
    go_ret2
    exact ⟨v, rfl, HO.out, hb⟩
  by_cases h2 : c = 115
  · subst h2
    have HP := Lib.hid (pos_space w)
    go_enter Tryd.func31, Tryd.ntmps31
    go_wp2_with fail
    refine HP.out.mono ?_
    rintro e w1 ⟨v, rfl, ho, hb⟩
    have HO := Lib.hid ho
    clear ho
    go_wp2_with fail
    go_ret2
    exact ⟨v, rfl, HO.out, hb⟩
  by_cases h3 : c = 119
  · subst h3
    have HP := Lib.hid (pos_word w)
    go_enter Tryd.func31, Tryd.ntmps31
    go_wp2_with fail
    refine HP.out.mono ?_
    rintro e w1 ⟨v, rfl, ho, hb⟩
    have HO := Lib.hid ho
    clear ho
    go_wp2_with fail
    go_ret2
    exact ⟨v, rfl, HO.out, hb⟩
  by_cases h4 : c = 104
  · subst h4
    have HC := Lib.hid (canon_of (R := [(9, 9), (32, 32), (160, 160), (8192, 8202)]) (by decide +kernel))
    go_enter Tryd.func31, Tryd.ntmps31
    go_wp2_with fail
    refine Calls.mono (of_lit [(9, 9), (32, 32), (160, 160), (8192, 8202)] 8 _ _ w _ (by first | rfl | simp) (by rfl) (by rfl) HC.out (by decide)) ?_
    rintro e w1 ⟨v, rfl, hz, hb⟩
    have HZ := Lib.hid hz
    have HB := Lib.hid ((below_alloc w _).trans (hb.mono (below_alloc w _).size))
    obtain ⟨a, cap, rfl⟩ := zsAt_len hz
    clear hz hb
    go_wp2_with fail
    refine (ranges_any _ [(9, 9), (32, 32), (160, 160), (8192, 8202)] _ _ HC.out HZ.out).mono ?_
    rintro e w2 ⟨v2, rfl, ho, hb2⟩
    have HO := Lib.hid (ownR_mono ho HB.out.size)
    have HB2 := Lib.hid (below_trans HB.out hb2)
    clear ho hb2
    go_wp2_with fail
    go_ret2
    exact ⟨v2, rfl, HO.out, HB2.out⟩
  by_cases h5 : c = 118
  · subst h5
    have HC := Lib.hid (canon_of (R := [(10, 13), (133, 133), (8232, 8233)]) (by decide +kernel))
    go_enter Tryd.func31, Tryd.ntmps31
    go_wp2_with fail
    refine Calls.mono (of_lit [(10, 13), (133, 133), (8232, 8233)] 6 _ _ w _ (by first | rfl | simp) (by rfl) (by rfl) HC.out (by decide)) ?_
    rintro e w1 ⟨v, rfl, hz, hb⟩
    have HZ := Lib.hid hz
    have HB := Lib.hid ((below_alloc w _).trans (hb.mono (below_alloc w _).size))
    obtain ⟨a, cap, rfl⟩ := zsAt_len hz
    clear hz hb
    go_wp2_with fail
    refine (ranges_any _ [(10, 13), (133, 133), (8232, 8233)] _ _ HC.out HZ.out).mono ?_
    rintro e w2 ⟨v2, rfl, ho, hb2⟩
    have HO := Lib.hid (ownR_mono ho HB.out.size)
    have HB2 := Lib.hid (below_trans HB.out hb2)
    clear ho hb2
    go_wp2_with fail
    go_ret2
    exact ⟨v2, rfl, HO.out, HB2.out⟩
  have HP := Lib.hid (show [] = escP c by unfold escP; rw [if_neg h1, if_neg h2, if_neg h3, if_neg h4, if_neg h5])
  have HQ := Lib.hid (show false = escB c by unfold escB; simp [h1, h2, h3, h4, h5])
  go_enter Tryd.func31, Tryd.ntmps31
  go_wp2_with fail
  go_ret2
  exact rb2_of HP.out HQ.out ⟨_, rfl, ownR_nil _ _, Below.refl _ _⟩
end Go.Proofs.YtgdhhpbpbkgmeaaDoor.prw
