/- The contracts of package utf's inner functions: the width of a code point, and the sequence that begins at an offset. -/
import Derived.Test.YtmphapcogmjgnaaDoorRows
import Derived.Test.YtmphapcogmjgnaaDoorUtfPure
import Derived.WalkKit
import Derived.ProofKit
import Derived.OpenShut
import Derived.Outline
import Derived.Lib.Hide
import Derived.Deep.QuietTactic
import Derived.BigQuiet
import Derived.IntWalk
import Derived.Lib.LaidTab
namespace Go.Proofs.YtmphapcogmjgnaaDoor.utfw
open Go Go.RowKit Go.Proofs.YtmphapcogmjgnaaDoor.utfp

theorem ret_int {k : IntKind} {a b : Int} (h : a = b) : Ending.returned (.int k a) = .returned (.int k b) := by rw [h]

theorem width_any (c : Int) (w : World) : Calls Tryd.prog 25 #[.int .i64 c] w fun e w' => e = .returned (.int .i64 (wid c)) ∧ w = w' := by
  rcases wid_cases c with ⟨hw, h⟩ | ⟨hw, h1, h2⟩ | ⟨hw, h1, h2⟩ | ⟨hw, h1, h2, h3⟩ | ⟨hw, h1, h2⟩
  · rw [hw]
    clear hw
    rcases h with h | h | ⟨h1, h2⟩
    all_goals
      go_enter Tryd.func25, Tryd.ntmps25
      go_wp2
      all_goals (go_ret; exact ⟨rfl, rfl⟩)
  · rw [hw]
    clear hw
    go_enter Tryd.func25, Tryd.ntmps25
    go_wp2
    all_goals (go_ret; exact ⟨rfl, rfl⟩)
  · rw [hw]
    clear hw
    go_enter Tryd.func25, Tryd.ntmps25
    go_wp2
    all_goals (go_ret; exact ⟨rfl, rfl⟩)
  · rw [hw]
    clear hw
    rcases h3 with h3 | h3
    all_goals
      go_enter Tryd.func25, Tryd.ntmps25
      go_wp2
      all_goals (go_ret; exact ⟨rfl, rfl⟩)
  · rw [hw]
    clear hw
    go_enter Tryd.func25, Tryd.ntmps25
    go_wp2
    all_goals (go_ret; exact ⟨rfl, rfl⟩)

/-- the two tables of package utf hold their numbers -/
def Tabs (w : World) : Prop := (∀ x : Int, 0 ≤ x → x ≤ 255 → w.cell? ⟨1, (x / 8).toNat, none⟩ = some (.int .i64 (len0 x))) ∧ (∀ s : Int, 0 ≤ s → s ≤ 4 → w.cell? ⟨0, s.toNat, none⟩ = some (.int .i64 (head0 s)))

/-- the world only drew -/
def Drawn (w w' : World) : Prop := ∃ k, w' = w.drewN k
theorem Drawn.refl (w : World) : Drawn w w := ⟨0, rfl⟩
theorem Drawn.trans {a b c : World} (h : Drawn a b) (h' : Drawn b c) : Drawn a c := by
  obtain ⟨k, rfl⟩ := h
  obtain ⟨m, rfl⟩ := h'
  exact ⟨m + k, by simp [World.drewN, Nat.add_comm, Nat.add_left_comm]⟩
theorem Drawn.drew {a w : World} (h : Drawn a w) : Drawn a w.drew := by
  obtain ⟨k, rfl⟩ := h
  exact ⟨k + 1, rfl⟩
theorem Drawn.drewN {a w : World} (h : Drawn a w) (n : Nat) : Drawn a (w.drewN n) := h.trans ⟨n, rfl⟩
theorem Drawn.cell {w w' : World} (h : Drawn w w') (a : Addr) : w'.cell? a = w.cell? a := by
  obtain ⟨k, rfl⟩ := h
  simp
theorem Drawn.tabs {w w' : World} (h : Drawn w w') (hT : Tabs w) : Tabs w' := ⟨fun x a b => by rw [h.cell]; exact hT.1 x a b, fun x a b => by rw [h.cell]; exact hT.2 x a b⟩
/-- what sequence answers -/
def SeqPost (g : Nat → Int) (n p : Nat) (w : World) (e : Ending) (w' : World) : Prop := e = .returned (.tuple #[.int .i64 (seqAt g n p).1, .int .i64 (seqAt g n p).2]) ∧ Drawn w w'
theorem seqPost {g : Nat → Int} {n p : Nat} {w w' : World} {a s : Int} (h : seqAt g n p = (a, s)) (hw : Drawn w w') : SeqPost g n p w (.returned (.tuple #[.int .i64 a, .int .i64 s])) w' := by
  unfold SeqPost; rw [h]; exact ⟨rfl, hw⟩

set_option maxHeartbeats 1000000 in
theorem seq_any (b off n cap : Nat) (g : Nat → Int) (P : Int) (p : Nat) (hP : P = p) (hp : p < n) (hn : n ≤ 140737488355328) (w : World) (hg : ∀ i, 0 ≤ g i ∧ g i ≤ 255)
    (hc : ∀ i, i < n → w.cell? ⟨b, off + i, none⟩ = some (.int .u8 (g i))) (hT : Tabs w) :
    Calls Tryd.prog 22 #[.slice (some ⟨b, off, none⟩) n cap, .int .i64 P] w (SeqPost g n p w) := by
  subst hP
  have hgp := hg p
  have hc0 := hc p hp
  have ht0 := hT.1 (g p) hgp.1 hgp.2
  obtain ⟨hg1, hg2⟩ := hgp
  by_cases hz : len0 (g p) = 0
  · have hz' : (len0 (g p) == 0) = true := by simpa using hz
    have HR := Lib.hid (seqAt_none (n := n) (Or.inl hz))
    rw [hz] at ht0
    clear hz hz' hT hc
    go_enter Tryd.func22, Tryd.ntmps22
    go_wp2
    go_ret2
    exact seqPost HR.out ⟨0, rfl⟩
  by_cases hl : (n : Int) - p < len0 (g p)
  · have hz' : (len0 (g p) == 0) = false := by simpa using hz
    have HR := Lib.hid (seqAt_none (Or.inr hl))
    clear hz hT hc
    go_enter Tryd.func22, Tryd.ntmps22
    go_wp2
    go_ret2
    exact seqPost HR.out ⟨0, rfl⟩
  have hz' : (len0 (g p) == 0) = false := by simpa using hz
  generalize hs : len0 (g p) = s at *
  obtain ⟨s1, s4, hd1, hd2⟩ := head_bd hg1 hs hz
  have hth := hT.2 s (by omega) s4
  have Hs := Lib.hid hs
  have Hz := Lib.hid hz
  have hl2 : s ≤ (n : Int) - p := by omega
  have hh1 : 0 ≤ head0 s := by unfold head0; repeat' split
                               all_goals omega
  have hh2 : head0 s ≤ 240 := by unfold head0; repeat' split
                                 all_goals omega
  clear hs hz hT hl
  go_enter Tryd.func22, Tryd.ntmps22
  go_wp2
  go_quiet (fail)
  go_wp2
  go_loop [7, 38] (fun c i => ∃ k : Nat, (k : Int) ≤ s - 1 ∧ i = .int .i64 k ∧ c = .int .i64 (acc g p (head0 s) k) ∧ conts g p k = true) (fun _ i => (s - intOf i).toNat)
  case atStart => exact ⟨0, by omega, rfl, rfl, rfl⟩
  case round =>
    obtain ⟨k, hk, rfl, rfl, hcn⟩ := hrel
    have hb := acc_bd hd1 hd2 k hcn
    have hgk := hg (p + 1 + k)
    obtain ⟨hb1, hb2⟩ := hb
    obtain ⟨hgk1, hgk2⟩ := hgk
    have Hcn := Lib.hid hcn
    clear hcn
    by_cases hlt : (k : Int) < s - 1
    · have hcell := hc (p + 1 + k) (by omega)
      have hb3 : acc g p (head0 s) k ≤ 1048576 := by
        have hk3 : k = 0 ∨ k = 1 ∨ k = 2 := by omega
        rcases hk3 with rfl | rfl | rfl <;> omega
      clear hb2 hc
      by_cases h1 : g (p + 1 + k) < 128
      · have HR := Lib.hid (seqAt_cont (n := n) Hs.out hlt (Or.inl h1))
        go_wp2
        go_ret2
        exact seqPost HR.out ⟨_, rfl⟩
      by_cases h2 : 191 < g (p + 1 + k)
      · have HR := Lib.hid (seqAt_cont (n := n) Hs.out hlt (Or.inr h2))
        go_wp2
        go_ret2
        exact seqPost HR.out ⟨_, rfl⟩
      have HC := Lib.hid (conts_succ Hcn.out (by omega) (by omega))
      go_wp2
      go_round
      case rel => exact ⟨k + 1, by omega, by go_num, by simp only [acc], HC.out⟩
      case measure => simp [intOf]; omega
    · have HR := Lib.hid (seqAt_full (n := n) Hs.out Hz.out hl2 (by omega) Hcn.out)
      have hb3 : acc g p (head0 s) k ≤ 67108864 := by
        have hk3 : k = 0 ∨ k = 1 ∨ k = 2 ∨ k = 3 := by omega
        rcases hk3 with rfl | rfl | rfl | rfl <;> omega
      clear hb2 hc
      generalize acc g p (head0 s) k = c at *
      by_cases hw : wid c = s
      · have hwb : (wid c != s) = false := by simp [hw]
        have Hw := Lib.hid hw
        clear hw
        go_wp2_with (go_at_call 25; refine (width_any _ _).mono ?_; rintro e w' ⟨rfl, rfl⟩)
        go_ret2
        exact seqPost (by rw [HR.out, if_pos Hw.out]) ⟨_, rfl⟩
      · have hwb : (wid c != s) = true := by simp [hw]
        have Hw := Lib.hid hw
        clear hw
        go_wp2_with (go_at_call 25; refine (width_any _ _).mono ?_; rintro e w' ⟨rfl, rfl⟩)
        go_ret2
        exact seqPost (by rw [HR.out, if_neg Hw.out]) ⟨_, rfl⟩
end Go.Proofs.YtmphapcogmjgnaaDoor.utfw
