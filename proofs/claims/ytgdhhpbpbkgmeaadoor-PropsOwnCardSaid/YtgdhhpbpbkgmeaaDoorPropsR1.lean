/- The contracts of the document's Posix and Escape. (Written by gen/refposix.py.) -/
import Derived.Test.YtgdhhpbpbkgmeaaDoorPropsW6
namespace Go.Proofs.YtgdhhpbpbkgmeaaDoor.prw
open Go Go.RowKit Go.Proofs.YtgdhhpbpbkgmeaaDoor.bulk Go.Proofs.YtgdhhpbpbkgmeaaDoor.ucdp Go.Proofs.YtgdhhpbpbkgmeaaDoor.ucdw Go.Proofs.YtgdhhpbpbkgmeaaDoor.setp Go.Proofs.YtgdhhpbpbkgmeaaDoor.setw Go.Proofs.YtgdhhpbpbkgmeaaDoor.prp

/-- ranges in memory, and whether there is such a set: what the document answers -/
def RD2 (R : List Rg) (b : Bool) (w : World) (e : Ending) (w' : World) : Prop := ∃ v, e = .returned (.tuple #[v, .bool b]) ∧ RsAt w' v R ∧ Below w.heap.size w w'
theorem rs_lit {R : List Rg} {n : Nat} {cs : Array Value} {T : TypeId} {w : World} {B : Nat} (hB : B = w.heap.size) (h : cs.toList = rcs R) (hn : n = R.length) (hR : R ≠ []) (hl : R.length ≤ 1000) (hw : Wf R) : RsAt (w.alloc (.cells cs T)) (.slice (some ⟨B, 0, none⟩) n n) R := by
  subst hB
  subst hn
  exact ⟨hw, Or.inr ⟨hR, _, 0, _, rfl, Nat.le_refl _, by omega, fun i hi => by
    have := lit_cells (w := w) (T := T) h i hi
    rw [Nat.zero_add]
    exact this⟩⟩
theorem eq_lit {n : ByteArray} {a : Array UInt8} (h : n.toList = a.toList) : n = ⟨a⟩ := (eqS _ _).1 (h.trans (Lib.toList_data ⟨a⟩).symm)
def wfB (R : List Rg) : Bool := R.all fun r => decide (0 ≤ r.1) && decide (r.1 ≤ 1114111) && decide (0 ≤ r.2) && decide (r.2 ≤ 1114111)
theorem wf_of {R : List Rg} (h : wfB R = true) : Wf R := fun r hr => by
  have := List.all_eq_true.1 h r hr
  simp only [Bool.and_eq_true, decide_eq_true_eq] at this
  omega
theorem one_any (lo hi : Int) (w : World) (h1 : 0 ≤ lo) (h2 : lo ≤ 1114111) (h3 : 0 ≤ hi) (h4 : hi ≤ 1114111) : Calls Tryd.prog 52 #[.int .i64 lo, .int .i64 hi] w fun e w' => ∃ v, e = .returned v ∧ RsAt w' v [(lo, hi)] ∧ Below w.heap.size w w' := by
  have HR := Lib.hid (fun T => rs_lit (R := [(lo, hi)]) (n := 1) (cs := #[.int .i64 lo, .int .i64 hi]) (T := T) (w := w) rfl rfl rfl (by simp) (by simp) (fun r hr => by obtain rfl := List.mem_singleton.1 hr; simp only; omega))
  go_enter Tryd.func52, Tryd.ntmps52
  go_wp2_with fail
  go_ret
  exact ⟨_, rfl, HR.out _, below_alloc _ _⟩
theorem lookP_none {n : ByteArray} : ∀ {M : List (ByteArray × List Rg)}, (∀ p ∈ M, p.1 ≠ n) → lookP M n [] = []
  | [], _ => rfl
  | (k, R) :: M, h => by
    unfold lookP
    rw [if_neg fun e => h (k, R) (List.mem_cons_self ..) e.symm]
    exact lookP_none fun p hp => h p (List.mem_cons_of_mem _ hp)
theorem rd2_of {R R' : List Rg} {b b' : Bool} {w : World} {e : Ending} {w' : World} (hR : R = R') (hb : b = b') (h : RD2 R b w e w') : RD2 R' b' w e w' := by
  subst hR
  subst hb
  exact h
set_option maxRecDepth 100000 in
set_option maxHeartbeats 8000000 in
theorem rposix_any (n : ByteArray) (w : World) : Calls Tryd.prog 30 #[.string n] w (RD2 (posixP n) (posixB n) w) := by
  by_cases h0 : n.toList = [97, 108, 112, 104, 97]
  · have hn : n = ⟨#[97, 108, 112, 104, 97]⟩ := eq_lit h0
    subst hn
    have HP := Lib.hid (show [(65, 90), (97, 122)] = posixP ⟨#[97, 108, 112, 104, 97]⟩ by decide +kernel)
    have HQ := Lib.hid (show true = posixB ⟨#[97, 108, 112, 104, 97]⟩ by decide +kernel)
    clear h0
    go_enter Tryd.func30, Tryd.ntmps30
    go_wp2_with fail
    go_ret2
    exact rd2_of HP.out HQ.out ⟨_, rfl, rs_lit rfl rfl rfl (by simp) (by simp) (wf_of (by decide +kernel)), below_alloc _ _⟩
  by_cases h1 : n.toList = [100, 105, 103, 105, 116]
  · have hn : n = ⟨#[100, 105, 103, 105, 116]⟩ := eq_lit h1
    subst hn
    have HP := Lib.hid (show [(48, 57)] = posixP ⟨#[100, 105, 103, 105, 116]⟩ by decide +kernel)
    have HQ := Lib.hid (show true = posixB ⟨#[100, 105, 103, 105, 116]⟩ by decide +kernel)
    clear h1
    go_enter Tryd.func30, Tryd.ntmps30
    go_wp2_with fail
    refine (one_any 48 57 w (by decide) (by decide) (by decide) (by decide)).mono ?_
    rintro e w1 ⟨v, rfl, hr, hb⟩
    have HR := Lib.hid hr
    clear hr
    go_wp2_with fail
    go_ret2
    exact rd2_of HP.out HQ.out ⟨v, rfl, HR.out, hb⟩
  by_cases h2 : n.toList = [97, 108, 110, 117, 109]
  · have hn : n = ⟨#[97, 108, 110, 117, 109]⟩ := eq_lit h2
    subst hn
    have HP := Lib.hid (show [(48, 57), (65, 90), (97, 122)] = posixP ⟨#[97, 108, 110, 117, 109]⟩ by decide +kernel)
    have HQ := Lib.hid (show true = posixB ⟨#[97, 108, 110, 117, 109]⟩ by decide +kernel)
    clear h2
    go_enter Tryd.func30, Tryd.ntmps30
    go_wp2_with fail
    go_ret2
    exact rd2_of HP.out HQ.out ⟨_, rfl, rs_lit rfl rfl rfl (by simp) (by simp) (wf_of (by decide +kernel)), below_alloc _ _⟩
  by_cases h3 : n.toList = [117, 112, 112, 101, 114]
  · have hn : n = ⟨#[117, 112, 112, 101, 114]⟩ := eq_lit h3
    subst hn
    have HP := Lib.hid (show [(65, 90)] = posixP ⟨#[117, 112, 112, 101, 114]⟩ by decide +kernel)
    have HQ := Lib.hid (show true = posixB ⟨#[117, 112, 112, 101, 114]⟩ by decide +kernel)
    clear h3
    go_enter Tryd.func30, Tryd.ntmps30
    go_wp2_with fail
    refine (one_any 65 90 w (by decide) (by decide) (by decide) (by decide)).mono ?_
    rintro e w1 ⟨v, rfl, hr, hb⟩
    have HR := Lib.hid hr
    clear hr
    go_wp2_with fail
    go_ret2
    exact rd2_of HP.out HQ.out ⟨v, rfl, HR.out, hb⟩
  by_cases h4 : n.toList = [108, 111, 119, 101, 114]
  · have hn : n = ⟨#[108, 111, 119, 101, 114]⟩ := eq_lit h4
    subst hn
    have HP := Lib.hid (show [(97, 122)] = posixP ⟨#[108, 111, 119, 101, 114]⟩ by decide +kernel)
    have HQ := Lib.hid (show true = posixB ⟨#[108, 111, 119, 101, 114]⟩ by decide +kernel)
    clear h4
    go_enter Tryd.func30, Tryd.ntmps30
    go_wp2_with fail
    refine (one_any 97 122 w (by decide) (by decide) (by decide) (by decide)).mono ?_
    rintro e w1 ⟨v, rfl, hr, hb⟩
    have HR := Lib.hid hr
    clear hr
    go_wp2_with fail
    go_ret2
    exact rd2_of HP.out HQ.out ⟨v, rfl, HR.out, hb⟩
  by_cases h5 : n.toList = [115, 112, 97, 99, 101]
  · have hn : n = ⟨#[115, 112, 97, 99, 101]⟩ := eq_lit h5
    subst hn
    have HP := Lib.hid (show [(9, 13), (32, 32)] = posixP ⟨#[115, 112, 97, 99, 101]⟩ by decide +kernel)
    have HQ := Lib.hid (show true = posixB ⟨#[115, 112, 97, 99, 101]⟩ by decide +kernel)
    clear h5
    go_enter Tryd.func30, Tryd.ntmps30
    go_wp2_with fail
    go_ret2
    exact rd2_of HP.out HQ.out ⟨_, rfl, rs_lit rfl rfl rfl (by simp) (by simp) (wf_of (by decide +kernel)), below_alloc _ _⟩
  by_cases h6 : n.toList = [98, 108, 97, 110, 107]
  · have hn : n = ⟨#[98, 108, 97, 110, 107]⟩ := eq_lit h6
    subst hn
    have HP := Lib.hid (show [(9, 9), (32, 32)] = posixP ⟨#[98, 108, 97, 110, 107]⟩ by decide +kernel)
    have HQ := Lib.hid (show true = posixB ⟨#[98, 108, 97, 110, 107]⟩ by decide +kernel)
    clear h6
    go_enter Tryd.func30, Tryd.ntmps30
    go_wp2_with fail
    go_ret2
    exact rd2_of HP.out HQ.out ⟨_, rfl, rs_lit rfl rfl rfl (by simp) (by simp) (wf_of (by decide +kernel)), below_alloc _ _⟩
  by_cases h7 : n.toList = [112, 117, 110, 99, 116]
  · have hn : n = ⟨#[112, 117, 110, 99, 116]⟩ := eq_lit h7
    subst hn
    have HP := Lib.hid (show [(33, 47), (58, 64), (91, 96), (123, 126)] = posixP ⟨#[112, 117, 110, 99, 116]⟩ by decide +kernel)
    have HQ := Lib.hid (show true = posixB ⟨#[112, 117, 110, 99, 116]⟩ by decide +kernel)
    clear h7
    go_enter Tryd.func30, Tryd.ntmps30
    go_wp2_with fail
    go_ret2
    exact rd2_of HP.out HQ.out ⟨_, rfl, rs_lit rfl rfl rfl (by simp) (by simp) (wf_of (by decide +kernel)), below_alloc _ _⟩
  by_cases h8 : n.toList = [99, 110, 116, 114, 108]
  · have hn : n = ⟨#[99, 110, 116, 114, 108]⟩ := eq_lit h8
    subst hn
    have HP := Lib.hid (show [(0, 31), (127, 127)] = posixP ⟨#[99, 110, 116, 114, 108]⟩ by decide +kernel)
    have HQ := Lib.hid (show true = posixB ⟨#[99, 110, 116, 114, 108]⟩ by decide +kernel)
    clear h8
    go_enter Tryd.func30, Tryd.ntmps30
    go_wp2_with fail
    go_ret2
    exact rd2_of HP.out HQ.out ⟨_, rfl, rs_lit rfl rfl rfl (by simp) (by simp) (wf_of (by decide +kernel)), below_alloc _ _⟩
  by_cases h9 : n.toList = [103, 114, 97, 112, 104]
  · have hn : n = ⟨#[103, 114, 97, 112, 104]⟩ := eq_lit h9
    subst hn
    have HP := Lib.hid (show [(33, 126)] = posixP ⟨#[103, 114, 97, 112, 104]⟩ by decide +kernel)
    have HQ := Lib.hid (show true = posixB ⟨#[103, 114, 97, 112, 104]⟩ by decide +kernel)
    clear h9
    go_enter Tryd.func30, Tryd.ntmps30
    go_wp2_with fail
    refine (one_any 33 126 w (by decide) (by decide) (by decide) (by decide)).mono ?_
    rintro e w1 ⟨v, rfl, hr, hb⟩
    have HR := Lib.hid hr
    clear hr
    go_wp2_with fail
    go_ret2
    exact rd2_of HP.out HQ.out ⟨v, rfl, HR.out, hb⟩
  by_cases h10 : n.toList = [112, 114, 105, 110, 116]
  · have hn : n = ⟨#[112, 114, 105, 110, 116]⟩ := eq_lit h10
    subst hn
    have HP := Lib.hid (show [(32, 126)] = posixP ⟨#[112, 114, 105, 110, 116]⟩ by decide +kernel)
    have HQ := Lib.hid (show true = posixB ⟨#[112, 114, 105, 110, 116]⟩ by decide +kernel)
    clear h10
    go_enter Tryd.func30, Tryd.ntmps30
    go_wp2_with fail
    refine (one_any 32 126 w (by decide) (by decide) (by decide) (by decide)).mono ?_
    rintro e w1 ⟨v, rfl, hr, hb⟩
    have HR := Lib.hid hr
    clear hr
    go_wp2_with fail
    go_ret2
    exact rd2_of HP.out HQ.out ⟨v, rfl, HR.out, hb⟩
  by_cases h11 : n.toList = [120, 100, 105, 103, 105, 116]
  · have hn : n = ⟨#[120, 100, 105, 103, 105, 116]⟩ := eq_lit h11
    subst hn
    have HP := Lib.hid (show [(48, 57), (65, 70), (97, 102)] = posixP ⟨#[120, 100, 105, 103, 105, 116]⟩ by decide +kernel)
    have HQ := Lib.hid (show true = posixB ⟨#[120, 100, 105, 103, 105, 116]⟩ by decide +kernel)
    clear h11
    go_enter Tryd.func30, Tryd.ntmps30
    go_wp2_with fail
    go_ret2
    exact rd2_of HP.out HQ.out ⟨_, rfl, rs_lit rfl rfl rfl (by simp) (by simp) (wf_of (by decide +kernel)), below_alloc _ _⟩
  by_cases h12 : n.toList = [119, 111, 114, 100]
  · have hn : n = ⟨#[119, 111, 114, 100]⟩ := eq_lit h12
    subst hn
    have HP := Lib.hid (show [(48, 57), (65, 90), (95, 95), (97, 122)] = posixP ⟨#[119, 111, 114, 100]⟩ by decide +kernel)
    have HQ := Lib.hid (show true = posixB ⟨#[119, 111, 114, 100]⟩ by decide +kernel)
    clear h12
    go_enter Tryd.func30, Tryd.ntmps30
    go_wp2_with fail
    go_ret2
    exact rd2_of HP.out HQ.out ⟨_, rfl, rs_lit rfl rfl rfl (by simp) (by simp) (wf_of (by decide +kernel)), below_alloc _ _⟩
  by_cases h13 : n.toList = [97, 115, 99, 105, 105]
  · have hn : n = ⟨#[97, 115, 99, 105, 105]⟩ := eq_lit h13
    subst hn
    have HP := Lib.hid (show [(0, 127)] = posixP ⟨#[97, 115, 99, 105, 105]⟩ by decide +kernel)
    have HQ := Lib.hid (show true = posixB ⟨#[97, 115, 99, 105, 105]⟩ by decide +kernel)
    clear h13
    go_enter Tryd.func30, Tryd.ntmps30
    go_wp2_with fail
    refine (one_any 0 127 w (by decide) (by decide) (by decide) (by decide)).mono ?_
    rintro e w1 ⟨v, rfl, hr, hb⟩
    have HR := Lib.hid hr
    clear hr
    go_wp2_with fail
    go_ret2
    exact rd2_of HP.out HQ.out ⟨v, rfl, HR.out, hb⟩
  have hne : ∀ p ∈ posix, p.1 ≠ n := by
    intro p hp e
    subst e
    simp only [posix, List.mem_cons, List.not_mem_nil, or_false] at hp
    rcases hp with rfl | rfl | rfl | rfl | rfl | rfl | rfl | rfl | rfl | rfl | rfl | rfl | rfl | rfl
    all_goals simp [Lib.toList_data] at *
  have HP := Lib.hid (show [] = posixP n from (lookP_none hne).symm)
  have HQ := Lib.hid (show false = posixB n from (by unfold posixB; rw [Eq.comm, List.any_eq_false]; exact fun p hp => by simpa using hne p hp))
  clear hne
  have b0 : (n.toList == [97, 108, 112, 104, 97]) = false := by simp [h0]
  have b1 : (n.toList == [100, 105, 103, 105, 116]) = false := by simp [h1]
  have b2 : (n.toList == [97, 108, 110, 117, 109]) = false := by simp [h2]
  have b3 : (n.toList == [117, 112, 112, 101, 114]) = false := by simp [h3]
  have b4 : (n.toList == [108, 111, 119, 101, 114]) = false := by simp [h4]
  have b5 : (n.toList == [115, 112, 97, 99, 101]) = false := by simp [h5]
  have b6 : (n.toList == [98, 108, 97, 110, 107]) = false := by simp [h6]
  have b7 : (n.toList == [112, 117, 110, 99, 116]) = false := by simp [h7]
  have b8 : (n.toList == [99, 110, 116, 114, 108]) = false := by simp [h8]
  have b9 : (n.toList == [103, 114, 97, 112, 104]) = false := by simp [h9]
  have b10 : (n.toList == [112, 114, 105, 110, 116]) = false := by simp [h10]
  have b11 : (n.toList == [120, 100, 105, 103, 105, 116]) = false := by simp [h11]
  have b12 : (n.toList == [119, 111, 114, 100]) = false := by simp [h12]
  have b13 : (n.toList == [97, 115, 99, 105, 105]) = false := by simp [h13]
  go_enter Tryd.func30, Tryd.ntmps30
  go_wp2_with fail
  go_ret2
  exact rd2_of HP.out HQ.out ⟨_, rfl, ⟨fun r hr => (by cases hr), Or.inl ⟨rfl, none, 0, rfl, by omega⟩⟩, Below.refl _ _⟩
end Go.Proofs.YtgdhhpbpbkgmeaaDoor.prw
