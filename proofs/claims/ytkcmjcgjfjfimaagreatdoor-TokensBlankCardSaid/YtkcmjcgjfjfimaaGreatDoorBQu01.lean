/- Texts that TokensQuoteLaw leans on, merged: what the functions of the program answer. -/
import Derived.BigQuiet
import Derived.Deep.CutBlock
import Derived.Deep.DeepCutAuto
import Derived.Deep.QuietTactic
import Derived.Deep.RegionHeld3
import Derived.Deep.RegionWith
import Derived.IntWalk
import Derived.Laws.AppendOwn
import Derived.Laws.BytesArg
import Derived.Laws.Rows
import Derived.Lib.Hide
import Derived.Lib.LaidTab
import Derived.LoopN
import Derived.OpenShut
import Derived.Outline
import Derived.OwnWalk
import Derived.ProofKit
import Derived.Shelf.Abstract
import Derived.Test.YtkcmjcgjfjfimaaGreatDoorRows
import Derived.WalkKit
namespace Go.Proofs.YtkcmjcgjfjfimaaGreatDoor.bulk
end Go.Proofs.YtkcmjcgjfjfimaaGreatDoor.bulk
namespace Go.Proofs.YtkcmjcgjfjfimaaGreatDoor.flt
end Go.Proofs.YtkcmjcgjfjfimaaGreatDoor.flt
namespace Go.Proofs.YtkcmjcgjfjfimaaGreatDoor.lawTokensQuote
end Go.Proofs.YtkcmjcgjfjfimaaGreatDoor.lawTokensQuote
namespace Go.Proofs.YtkcmjcgjfjfimaaGreatDoor.prp
end Go.Proofs.YtkcmjcgjfjfimaaGreatDoor.prp
namespace Go.Proofs.YtkcmjcgjfjfimaaGreatDoor.prw
end Go.Proofs.YtkcmjcgjfjfimaaGreatDoor.prw
namespace Go.Proofs.YtkcmjcgjfjfimaaGreatDoor.setl
end Go.Proofs.YtkcmjcgjfjfimaaGreatDoor.setl
namespace Go.Proofs.YtkcmjcgjfjfimaaGreatDoor.setp
end Go.Proofs.YtkcmjcgjfjfimaaGreatDoor.setp
namespace Go.Proofs.YtkcmjcgjfjfimaaGreatDoor.setw
end Go.Proofs.YtkcmjcgjfjfimaaGreatDoor.setw
namespace Go.Proofs.YtkcmjcgjfjfimaaGreatDoor.tkp
end Go.Proofs.YtkcmjcgjfjfimaaGreatDoor.tkp
namespace Go.Proofs.YtkcmjcgjfjfimaaGreatDoor.tkr
end Go.Proofs.YtkcmjcgjfjfimaaGreatDoor.tkr
namespace Go.Proofs.YtkcmjcgjfjfimaaGreatDoor.tkw
end Go.Proofs.YtkcmjcgjfjfimaaGreatDoor.tkw
namespace Go.Proofs.YtkcmjcgjfjfimaaGreatDoor.ucdp
end Go.Proofs.YtkcmjcgjfjfimaaGreatDoor.ucdp
namespace Go.Proofs.YtkcmjcgjfjfimaaGreatDoor.ucdw
end Go.Proofs.YtkcmjcgjfjfimaaGreatDoor.ucdw
namespace Go.Proofs.YtkcmjcgjfjfimaaGreatDoor.utfp
end Go.Proofs.YtkcmjcgjfjfimaaGreatDoor.utfp
namespace Go.Proofs.YtkcmjcgjfjfimaaGreatDoor.utfw
end Go.Proofs.YtkcmjcgjfjfimaaGreatDoor.utfw
section
namespace Go.Proofs.YtkcmjcgjfjfimaaGreatDoor.utfp
def wid (c : Int) : Int := if c < 0 ∨ 1114111 < c ∨ (55296 ≤ c ∧ c ≤ 57343) then 0 else if c < 128 then 1 else if c < 2048 then 2 else if c < 65536 then 3 else 4
def len0 (x : Int) : Int := if x < 128 then 1 else if x < 192 then 0 else if x < 224 then 2 else if x < 240 then 3 else if x < 248 then 4 else 0
def head0 (s : Int) : Int := if s = 2 then 192 else if s = 3 then 224 else if s = 4 then 240 else 0
def acc (g : Nat → Int) (p : Nat) (h : Int) : Nat → Int
 | 0 => g p - h
 | k + 1 => acc g p h k * 64 + (g (p + 1 + k) - 128)
def conts (g : Nat → Int) (p : Nat) : Nat → Bool
 | 0 => true
 | k + 1 => conts g p k && (decide (128 ≤ g (p + 1 + k)) && decide (g (p + 1 + k) ≤ 191))
def seqAt (g : Nat → Int) (n p : Nat) : Int × Int :=
 if len0 (g p) = 0 ∨ (n : Int) - p < len0 (g p) then (0, 0)
 else if conts g p (len0 (g p) - 1).toNat = true ∧ wid (acc g p (head0 (len0 (g p))) (len0 (g p) - 1).toNat) = len0 (g p) then (acc g p (head0 (len0 (g p))) (len0 (g p) - 1).toNat, len0 (g p)) else (0, 0)
theorem len0_cases (x : Int) : (len0 x = 0 ∧ (128 ≤ x ∧ x < 192 ∨ 248 ≤ x)) ∨ (len0 x = 1 ∧ x < 128) ∨ (len0 x = 2 ∧ 192 ≤ x ∧ x < 224) ∨ (len0 x = 3 ∧ 224 ≤ x ∧ x < 240) ∨ (len0 x = 4 ∧ 240 ≤ x ∧ x < 248) := by
 unfold len0
 repeat' split
 all_goals omega
theorem wid_cases (c : Int) : (wid c = 0 ∧ (c < 0 ∨ 1114111 < c ∨ (55296 ≤ c ∧ c ≤ 57343))) ∨ (wid c = 1 ∧ 0 ≤ c ∧ c < 128) ∨ (wid c = 2 ∧ 128 ≤ c ∧ c < 2048) ∨ (wid c = 3 ∧ 2048 ≤ c ∧ c < 65536 ∧ (c < 55296 ∨ 57343 < c)) ∨ (wid c = 4 ∧ 65536 ≤ c ∧ c ≤ 1114111) := by
 unfold wid
 repeat' split
 all_goals omega
def enc (c : Int) : List Int :=
 if c < 0 ∨ 1114111 < c ∨ (55296 ≤ c ∧ c ≤ 57343) then [] else if c < 128 then [c] else if c < 2048 then [192 + c / 64, 128 + c % 64]
 else if c < 65536 then [224 + c / 4096, 128 + c / 64 % 64, 128 + c % 64] else [240 + c / 262144, 128 + c / 4096 % 64, 128 + c / 64 % 64, 128 + c % 64]
theorem conts_succ {g : Nat → Int} {p k : Nat} (h : conts g p k = true) (h1 : 128 ≤ g (p + 1 + k)) (h2 : g (p + 1 + k) ≤ 191) : conts g p (k + 1) = true := by
 simp [conts, h, h1, h2]
theorem conts_not {g : Nat → Int} {p k : Nat} (h : g (p + 1 + k) < 128 ∨ 191 < g (p + 1 + k)) : ∀ m, k < m → conts g p m = false := by
 intro m
 induction m with
 | zero => intro h; omega
 | succ m ih =>
   intro hm
   by_cases e : k = m
   · subst e
     simp only [conts, Bool.and_eq_false_iff, decide_eq_false_iff_not]
     omega
   · have := ih (by omega)
     simp [conts, this]
theorem acc_bd {g : Nat → Int} {p : Nat} {h : Int} (h0 : 0 ≤ g p - h) (h1 : g p - h ≤ 127) : ∀ k, conts g p k = true → 0 ≤ acc g p h k ∧ acc g p h k ≤ 128 * 64 ^ k - 1 := by
 intro k
 induction k with
 | zero => intro _; simp only [acc]; omega
 | succ k ih =>
   intro hk
   simp only [conts, Bool.and_eq_true, decide_eq_true_eq] at hk
   obtain ⟨hk, ha, hb⟩ := hk
   obtain ⟨i1, i2⟩ := ih hk
   simp only [acc]
   have : (64 : Int) ^ (k + 1) = 64 ^ k * 64 := Int.pow_succ ..
   omega
theorem head_bd {x s : Int} (hx : 0 ≤ x) (h : len0 x = s) (hs : s ≠ 0) : 1 ≤ s ∧ s ≤ 4 ∧ 0 ≤ x - head0 s ∧ x - head0 s ≤ 127 := by
 rcases len0_cases x with ⟨h', hh⟩ | ⟨h', hh⟩ | ⟨h', hh⟩ | ⟨h', hh⟩ | ⟨h', hh⟩ <;> (rw [h'] at h; subst h; simp [head0] at *; try omega)
theorem seqAt_none {g : Nat → Int} {n p : Nat} (h : len0 (g p) = 0 ∨ (n : Int) - p < len0 (g p)) : seqAt g n p = (0, 0) := by
 simp [seqAt, h]
theorem seqAt_cont {g : Nat → Int} {n p k : Nat} {s : Int} (hs : len0 (g p) = s) (hk : (k : Int) < s - 1) (h : g (p + 1 + k) < 128 ∨ 191 < g (p + 1 + k)) : seqAt g n p = (0, 0) := by
 have := conts_not h (s - 1).toNat (by omega)
 unfold seqAt
 rw [hs]
 rw [this]
 split <;> simp
theorem seqAt_full {g : Nat → Int} {n p k : Nat} {s : Int} (hs : len0 (g p) = s) (_h0 : s ≠ 0) (hn : s ≤ (n : Int) - p) (hk : (k : Int) = s - 1) (hc : conts g p k = true) :
   seqAt g n p = if wid (acc g p (head0 s) k) = s then (acc g p (head0 s) k, s) else (0, 0) := by
 unfold seqAt
 rw [hs, show (s - 1).toNat = k from by omega]
 rw [if_neg (by omega)]
 simp [hc]
theorem seqAt_bd {g : Nat → Int} {n p : Nat} (hg : ∀ i, 0 ≤ g i ∧ g i ≤ 255) : seqAt g n p = (0, 0) ∨
   (1 ≤ (seqAt g n p).2 ∧ (seqAt g n p).2 ≤ 4 ∧ (p : Int) + (seqAt g n p).2 ≤ n ∧ wid (seqAt g n p).1 = (seqAt g n p).2 ∧ (seqAt g n p).2 = len0 (g p) ∧ conts g p ((seqAt g n p).2 - 1).toNat = true ∧ (seqAt g n p).1 = acc g p (head0 (seqAt g n p).2) ((seqAt g n p).2 - 1).toNat) := by
 unfold seqAt
 split
 · exact Or.inl rfl
 · split
   · rename_i h1 h2
     right
     have := head_bd (hg p).1 rfl (show len0 (g p) ≠ 0 by omega)
     exact ⟨this.1, this.2.1, by simp only; omega, h2.2, rfl, h2.1, rfl⟩
   · exact Or.inl rfl
theorem seqAt_num {g : Nat → Int} {n p : Nat} (hg : ∀ i, 0 ≤ g i ∧ g i ≤ 255) : 0 ≤ (seqAt g n p).1 ∧ (seqAt g n p).1 ≤ 1114111 ∧ 0 ≤ (seqAt g n p).2 ∧ (seqAt g n p).2 ≤ 4 ∧ ((p : Int) ≤ n → (p : Int) + (seqAt g n p).2 ≤ n) := by
 rcases seqAt_bd (n := n) (p := p) hg with h | ⟨h1, h2, h3, h4, _⟩
 · rw [h]; refine ⟨by simp, by simp, by simp, by simp, by simp⟩
 · rcases wid_cases (seqAt g n p).1 with ⟨a, _⟩ | ⟨a, _⟩ | ⟨a, _⟩ | ⟨a, _⟩ | ⟨a, _⟩ <;> omega
def stepv (utf : Bool) (g : Nat → Int) (n p : Nat) : Int × Int := if utf = true ∧ 0 < (seqAt g n p).2 then ((seqAt g n p).1, p + (seqAt g n p).2) else (g p, p + 1)
def nextP (utf : Bool) (g : Nat → Int) (n : Nat) (a : Int) : Int × Int := if a < 0 ∨ (n : Int) ≤ a then (-1, a) else stepv utf g n a.toNat
def validF (g : Nat → Int) (n : Nat) : Nat → Nat → Int × Bool
 | 0, p => (p, true)
 | f + 1, p => if p < n then (if (seqAt g n p).2 = 0 then (p, false) else validF g n f (p + (seqAt g n p).2.toNat)) else (p, true)
def validP (g : Nat → Int) (n : Nat) : Int × Bool := validF g n n 0
theorem validF_fuel (g : Nat → Int) (n : Nat) : ∀ f f' p, n - p ≤ f → n - p ≤ f' → (∀ q, 0 ≤ (seqAt g n q).2) → validF g n f p = validF g n f' p := by
 intro f
 induction f with
 | zero =>
   intro f' p h h' _
   cases f' with
   | zero => rfl
   | succ f' => simp only [validF]; rw [if_neg (by omega)]
 | succ f ih =>
   intro f' p h h' hs
   cases f' with
   | zero => simp only [validF]; rw [if_neg (by omega)]
   | succ f' =>
     simp only [validF]
     have := hs p
     split
     · split
       · rfl
       · exact ih _ _ (by omega) (by omega) hs
     · rfl
def stepN (utf : Bool) (g : Nat → Int) (n p : Nat) : Nat := (stepv utf g n p).2.toNat
theorem stepN_bd {utf : Bool} {g : Nat → Int} {n p : Nat} (hg : ∀ i, 0 ≤ g i ∧ g i ≤ 255) (hp : p < n) : p < stepN utf g n p ∧ stepN utf g n p ≤ n ∧ (stepv utf g n p).2 = stepN utf g n p := by
 have := seqAt_num (n := n) (p := p) hg
 unfold stepN stepv
 split <;> simp only <;> omega
theorem conts_get {g : Nat → Int} {p : Nat} : ∀ k, conts g p k = true → ∀ j, j < k → 128 ≤ g (p + 1 + j) ∧ g (p + 1 + j) ≤ 191 := by
 intro k
 induction k with
 | zero => intro _ j h; omega
 | succ k ih =>
   intro h j hj
   simp only [conts, Bool.and_eq_true, decide_eq_true_eq] at h
   by_cases e : j = k
   · subst e; exact h.2
   · exact ih h.1 j (by omega)
theorem inside {g : Nat → Int} {n p q : Nat} (hg : ∀ i, 0 ≤ g i ∧ g i ≤ 255) (h1 : p < q) (h2 : (q : Int) < p + (seqAt g n p).2) : (seqAt g n q) = (0, 0) := by
 rcases seqAt_bd (n := n) (p := p) hg with h | ⟨a, b, c, d, e, f, _⟩
 · rw [h] at h2; simp at h2; omega
 · have := conts_get _ f (q - p - 1) (by omega)
   rw [show p + 1 + (q - p - 1) = q from by omega] at this
   apply seqAt_none
   left
   rcases len0_cases (g q) with ⟨h, _⟩ | ⟨_, _⟩ | ⟨_, _⟩ | ⟨_, _⟩ | ⟨_, _⟩ <;> omega
theorem validP_step {g : Nat → Int} {n p : Nat} (hg : ∀ i, 0 ≤ g i ∧ g i ≤ 255) (hp : p < n) : validF g n n p = if (seqAt g n p).2 = 0 then ((p : Int), false) else validF g n n (p + (seqAt g n p).2.toNat) := by
 obtain ⟨m, rfl⟩ : ∃ m, n = m + 1 := ⟨n - 1, by omega⟩
 rw [validF, if_pos hp]
 have := seqAt_num (n := m + 1) (p := p) hg
 split
 · rfl
 · exact validF_fuel _ _ _ _ _ (by omega) (by omega) (fun q => (seqAt_num hg).2.2.1)
theorem validP_end {g : Nat → Int} {n p : Nat} (hp : n ≤ p) : validF g n n p = ((p : Int), true) := by
 cases n with
 | zero => rfl
 | succ n => rw [validF, if_neg (by omega)]
theorem nextP_step (utf : Bool) (g : Nat → Int) (n p : Nat) (hg : ∀ i, 0 ≤ g i ∧ g i ≤ 255) (hp : p < n) : nextP utf g n (p : Int) = ((stepv utf g n p).1, ((stepN utf g n p : Nat) : Int)) := by
 unfold nextP
 rw [if_neg (by omega), ← (stepN_bd (utf := utf) hg hp).2.2]
 simp
end Go.Proofs.YtkcmjcgjfjfimaaGreatDoor.utfp
end
section
namespace Go.Proofs.YtkcmjcgjfjfimaaGreatDoor.utfw
open Go Go.RowKit utfp
theorem width_any (c : Int) (w : World) : Calls Tryz.prog 33 #[.int .i64 c] w fun e w' => e = .returned (.int .i64 (wid c)) ∧ w = w' := by
 rcases wid_cases c with ⟨hw, h⟩ | ⟨hw, h1, h2⟩ | ⟨hw, h1, h2⟩ | ⟨hw, h1, h2, h3⟩ | ⟨hw, h1, h2⟩
 · rw [hw]
   clear hw
   rcases h with h | h | ⟨h1, h2⟩
   all_goals
     go_enter Tryz.func33, Tryz.ntmps33
     go_wp2
     all_goals (go_ret; exact ⟨rfl, rfl⟩)
 · rw [hw]
   clear hw
   go_enter Tryz.func33, Tryz.ntmps33
   go_wp2
   all_goals (go_ret; exact ⟨rfl, rfl⟩)
 · rw [hw]
   clear hw
   go_enter Tryz.func33, Tryz.ntmps33
   go_wp2
   all_goals (go_ret; exact ⟨rfl, rfl⟩)
 · rw [hw]
   clear hw
   rcases h3 with h3 | h3
   all_goals
     go_enter Tryz.func33, Tryz.ntmps33
     go_wp2
     all_goals (go_ret; exact ⟨rfl, rfl⟩)
 · rw [hw]
   clear hw
   go_enter Tryz.func33, Tryz.ntmps33
   go_wp2
   all_goals (go_ret; exact ⟨rfl, rfl⟩)
def Tabs (w : World) : Prop := (∀ x : Int, 0 ≤ x → x ≤ 255 → w.cell? ⟨0, (x / 8).toNat, none⟩ = some (.int .i64 (len0 x))) ∧ (∀ s : Int, 0 ≤ s → s ≤ 4 → w.cell? ⟨1, s.toNat, none⟩ = some (.int .i64 (head0 s)))
def Drawn (w w' : World) : Prop := ∃ k, w' = w.drewN k
theorem Drawn.refl (w : World) : Drawn w w := ⟨0, rfl⟩
theorem Drawn.trans {a b c : World} (h : Drawn a b) (h' : Drawn b c) : Drawn a c := by
 obtain ⟨k, rfl⟩ := h
 obtain ⟨m, rfl⟩ := h'
 exact ⟨m + k, by simp [World.drewN, Nat.add_comm, Nat.add_left_comm]⟩
theorem Drawn.drew {a w : World} (h : Drawn a w) : Drawn a w.drew := by
 obtain ⟨k, rfl⟩ := h
 exact ⟨k + 1, rfl⟩
theorem Drawn.drewN {a w : World} (h : Drawn a w) (n : Nat) : Drawn a (w.drewN n) := h.trans ⟨n, rfl⟩
theorem Drawn.cell {w w' : World} (h : Drawn w w') (a : Addr) : w'.cell? a = w.cell? a := by
 obtain ⟨k, rfl⟩ := h
 simp
theorem Drawn.tabs {w w' : World} (h : Drawn w w') (hT : Tabs w) : Tabs w' := ⟨fun x a b => by rw [h.cell]; exact hT.1 x a b, fun x a b => by rw [h.cell]; exact hT.2 x a b⟩
def SeqPost (g : Nat → Int) (n p : Nat) (w : World) (e : Ending) (w' : World) : Prop := e = .returned (.tuple #[.int .i64 (seqAt g n p).1, .int .i64 (seqAt g n p).2]) ∧ Drawn w w'
theorem seqPost {g : Nat → Int} {n p : Nat} {w w' : World} {a s : Int} (h : seqAt g n p = (a, s)) (hw : Drawn w w') : SeqPost g n p w (.returned (.tuple #[.int .i64 a, .int .i64 s])) w' := by
 unfold SeqPost; rw [h]; exact ⟨rfl, hw⟩
set_option maxHeartbeats 1000000 in
theorem seq_any (b off n cap : Nat) (g : Nat → Int) (P : Int) (p : Nat) (hP : P = p) (hp : p < n) (hn : n ≤ 140737488355328) (w : World) (hg : ∀ i, 0 ≤ g i ∧ g i ≤ 255)
   (hc : ∀ i, i < n → w.cell? ⟨b, off + i, none⟩ = some (.int .u8 (g i))) (hT : Tabs w) :
   Calls Tryz.prog 17 #[.slice (some ⟨b, off, none⟩) n cap, .int .i64 P] w (SeqPost g n p w) := by
 subst hP
 have hgp := hg p
 have hc0 := hc p hp
 have ht0 := hT.1 (g p) hgp.1 hgp.2
 obtain ⟨hg1, hg2⟩ := hgp
 by_cases hz : len0 (g p) = 0
 · have hz' : (len0 (g p) == 0) = true := by simpa using hz
   have HR := Lib.hid (seqAt_none (n := n) (Or.inl hz))
   rw [hz] at ht0
   clear hz hz' hT hc
   go_enter Tryz.func17, Tryz.ntmps17
   go_wp2
   go_ret2
   exact seqPost HR.out ⟨0, rfl⟩
 by_cases hl : (n : Int) - p < len0 (g p)
 · have hz' : (len0 (g p) == 0) = false := by simpa using hz
   have HR := Lib.hid (seqAt_none (Or.inr hl))
   clear hz hT hc
   go_enter Tryz.func17, Tryz.ntmps17
   go_wp2
   go_ret2
   exact seqPost HR.out ⟨0, rfl⟩
 have hz' : (len0 (g p) == 0) = false := by simpa using hz
 generalize hs : len0 (g p) = s at *
 obtain ⟨s1, s4, hd1, hd2⟩ := head_bd hg1 hs hz
 have hth := hT.2 s (by omega) s4
 have Hs := Lib.hid hs
 have Hz := Lib.hid hz
 have hl2 : s ≤ (n : Int) - p := by omega
 have hh1 : 0 ≤ head0 s := by unfold head0; repeat' split
                              all_goals omega
 have hh2 : head0 s ≤ 240 := by unfold head0; repeat' split
                                all_goals omega
 clear hs hz hT hl
 go_enter Tryz.func17, Tryz.ntmps17
 go_wp2
 go_quiet (fail)
 go_wp2
 go_loop [7, 38] (fun c i => ∃ k : Nat, (k : Int) ≤ s - 1 ∧ i = .int .i64 k ∧ c = .int .i64 (acc g p (head0 s) k) ∧ conts g p k = true) (fun _ i => (s - intOf i).toNat)
 case atStart => exact ⟨0, by omega, rfl, rfl, rfl⟩
 case round =>
   obtain ⟨k, hk, rfl, rfl, hcn⟩ := hrel
   have hb := acc_bd hd1 hd2 k hcn
   have hgk := hg (p + 1 + k)
   obtain ⟨hb1, hb2⟩ := hb
   obtain ⟨hgk1, hgk2⟩ := hgk
   have Hcn := Lib.hid hcn
   clear hcn
   by_cases hlt : (k : Int) < s - 1
   · have hcell := hc (p + 1 + k) (by omega)
     have hb3 : acc g p (head0 s) k ≤ 1048576 := by
       have hk3 : k = 0 ∨ k = 1 ∨ k = 2 := by omega
       rcases hk3 with rfl | rfl | rfl <;> omega
     clear hb2 hc
     by_cases h1 : g (p + 1 + k) < 128
     · have HR := Lib.hid (seqAt_cont (n := n) Hs.out hlt (Or.inl h1))
       go_wp2
       go_ret2
       exact seqPost HR.out ⟨_, rfl⟩
     by_cases h2 : 191 < g (p + 1 + k)
     · have HR := Lib.hid (seqAt_cont (n := n) Hs.out hlt (Or.inr h2))
       go_wp2
       go_ret2
       exact seqPost HR.out ⟨_, rfl⟩
     have HC := Lib.hid (conts_succ Hcn.out (by omega) (by omega))
     go_wp2
     go_round
     case rel => exact ⟨k + 1, by omega, by go_num, by simp only [acc], HC.out⟩
     case measure => simp [intOf]; omega
   · have HR := Lib.hid (seqAt_full (n := n) Hs.out Hz.out hl2 (by omega) Hcn.out)
     have hb3 : acc g p (head0 s) k ≤ 67108864 := by
       have hk3 : k = 0 ∨ k = 1 ∨ k = 2 ∨ k = 3 := by omega
       rcases hk3 with rfl | rfl | rfl | rfl <;> omega
     clear hb2 hc
     generalize acc g p (head0 s) k = c at *
     by_cases hw : wid c = s
     · have hwb : (wid c != s) = false := by simp [hw]
       have Hw := Lib.hid hw
       clear hw
       go_wp2_with (go_at_call 33; refine (width_any _ _).mono ?_; rintro e w' ⟨rfl, rfl⟩)
       go_ret2
       exact seqPost (by rw [HR.out, if_pos Hw.out]) ⟨_, rfl⟩
     · have hwb : (wid c != s) = true := by simp [hw]
       have Hw := Lib.hid hw
       clear hw
       go_wp2_with (go_at_call 33; refine (width_any _ _).mono ?_; rintro e w' ⟨rfl, rfl⟩)
       go_ret2
       exact seqPost (by rw [HR.out, if_neg Hw.out]) ⟨_, rfl⟩
end Go.Proofs.YtkcmjcgjfjfimaaGreatDoor.utfw
end
section
namespace Go.Proofs.YtkcmjcgjfjfimaaGreatDoor.utfw
open Go Go.RowKit utfp
def Sl (w : World) (v : Value) (n : Nat) (g : Nat → Int) : Prop :=
 (∀ i, 0 ≤ g i ∧ g i ≤ 255) ∧ n ≤ 140737488355328 ∧ ((n = 0 ∧ ∃ a cap, v = .slice a 0 cap ∧ cap ≤ 9223372036854775807) ∨ ∃ b off cap, v = .slice (some ⟨b, off, none⟩) n cap ∧ (n ≤ cap ∧ cap ≤ 9223372036854775807) ∧ ∀ i, i < n → w.cell? ⟨b, off + i, none⟩ = some (.int .u8 (g i)))
theorem Drawn.sl {w w' : World} {v : Value} {n : Nat} {g : Nat → Int} (hd : Drawn w w') (h : Sl w v n g) : Sl w' v n g := by
 obtain ⟨h1, h2, h3⟩ := h
 refine ⟨h1, h2, ?_⟩
 rcases h3 with h3 | ⟨b, off, cap, h3, h4, h5⟩
 · exact Or.inl h3
 · exact Or.inr ⟨b, off, cap, h3, h4, fun i hi => by rw [hd.cell]; exact h5 i hi⟩
def TwoPost (r : Int × Int) (w : World) (e : Ending) (w' : World) : Prop := e = .returned (.tuple #[.int .i64 r.1, .int .i64 r.2]) ∧ Drawn w w'
theorem twoPost {r : Int × Int} {w w' : World} {a s : Int} (h : r = (a, s)) (hw : Drawn w w') : TwoPost r w (.returned (.tuple #[.int .i64 a, .int .i64 s])) w' := by
 unfold TwoPost; rw [h]; exact ⟨rfl, hw⟩
set_option maxHeartbeats 1000000 in
theorem next_any (v : Value) (n : Nat) (g : Nat → Int) (a : Int) (u : Bool) (w : World) (hv : Sl w v n g) (hT : Tabs w) :
   Calls Tryz.prog 62 #[v, .int .i64 a, .bool u] w (TwoPost (nextP u g n a) w) := by
 obtain ⟨hg, hn, hv⟩ := hv
 by_cases h0 : a < 0
 · have HR := Lib.hid (show nextP u g n a = (-1, a) by unfold nextP; rw [if_pos (by omega)])
   rcases hv with ⟨rfl, a0, c0, rfl, hc0⟩ | ⟨b, off, cap, rfl, hcap, hc⟩
   all_goals
     clear hT hg
     go_enter Tryz.func62, Tryz.ntmps62
     go_wp2
     go_ret2
     exact twoPost HR.out ⟨0, rfl⟩
 by_cases h1 : (n : Int) ≤ a
 · have HR := Lib.hid (show nextP u g n a = (-1, a) by unfold nextP; rw [if_pos (by omega)])
   rcases hv with ⟨rfl, a0, c0, rfl, hc0⟩ | ⟨b, off, cap, rfl, hcap, hc⟩
   all_goals
     clear hT hg
     go_enter Tryz.func62, Tryz.ntmps62
     go_wp2
     go_ret2
     exact twoPost HR.out ⟨0, rfl⟩
 rcases hv with ⟨rfl, a0, c0, rfl, hc0⟩ | ⟨b, off, cap, rfl, hcap, hc⟩
 · omega
 obtain ⟨p, rfl⟩ := Int.eq_ofNat_of_zero_le (show 0 ≤ a by omega)
 have hp : p < n := by omega
 have hN : nextP u g n (p : Int) = stepv u g n p := by unfold nextP; rw [if_neg (by omega)]; simp
 rw [hN]
 have hcell := hc p hp
 have hgp := hg p
 obtain ⟨hg1, hg2⟩ := hgp
 cases u with
 | false =>
   have HR := Lib.hid (show stepv false g n p = (g p, (p : Int) + 1) by simp [stepv])
   clear hN hT hg hc h0 h1
   go_enter Tryz.func62, Tryz.ntmps62
   go_wp2
   go_ret2
   exact twoPost HR.out ⟨0, rfl⟩
 | true =>
   have C := seq_any b off n cap g p p rfl hp hn w hg hc hT
   have hq := seqAt_num (n := n) (p := p) hg
   unfold stepv SeqPost at *
   generalize seqAt g n p = q at *
   obtain ⟨c, s⟩ := q
   simp only at hq C ⊢
   obtain ⟨q1, q2, q3, q4, q5⟩ := hq
   have q6 := q5 (by omega)
   have HC := Lib.hid C
   by_cases hs : 0 < s
   · rw [if_pos ⟨trivial, hs⟩]
     clear hN hT hg hc h0 h1 C q5 hcell
     go_enter Tryz.func62, Tryz.ntmps62
     go_wp2_with (go_at_call 17; refine HC.out.mono ?_; rintro e w' ⟨rfl, hd⟩)
     go_ret2
     exact twoPost rfl hd
   · rw [if_neg (by simpa using hs)]
     clear hN hT hg hc h0 h1 C q5
     go_enter Tryz.func62, Tryz.ntmps62
     go_wp2_with (go_at_call 17; refine HC.out.mono ?_; rintro e w' ⟨rfl, hd⟩; have hcell2 : w'.cell? ⟨b, off + p, none⟩ = some (.int .u8 (g p)) := by rw [hd.cell]; exact hcell)
     go_ret2
     exact twoPost rfl hd
def NumBoolPost (r : Int × Bool) (w : World) (e : Ending) (w' : World) : Prop := e = .returned (.tuple #[.int .i64 r.1, .bool r.2]) ∧ Drawn w w'
theorem numBoolPost {r : Int × Bool} {w w' : World} {a : Int} {s : Bool} (h : r = (a, s)) (hw : Drawn w w') : NumBoolPost r w (.returned (.tuple #[.int .i64 a, .bool s])) w' := by
 unfold NumBoolPost; rw [h]; exact ⟨rfl, hw⟩
set_option maxHeartbeats 1000000 in
theorem valid_any (v : Value) (n : Nat) (g : Nat → Int) (w : World) (hv : Sl w v n g) (hT : Tabs w) :
   Calls Tryz.prog 10 #[v] w (NumBoolPost (validP g n) w) := by
 obtain ⟨hg, hn, hv⟩ := hv
 rcases hv with ⟨rfl, a0, c0, rfl, hc0⟩ | ⟨b, off, cap, rfl, hcap, hc⟩
 · clear hT hg
   go_enter Tryz.func10, Tryz.ntmps10
   go_wp2
   go_loopw [4] (fun a wr => a = .int .i64 0 ∧ Drawn w wr) (fun a _ => (intOf a).toNat)
   case atStart => exact ⟨rfl, Drawn.refl _⟩
   case round =>
     obtain ⟨rfl, hd⟩ := hrel
     go_wp2
     go_ret2
     exact numBoolPost rfl hd
 have HS := Lib.hid (fun (wr : World) (p : Nat) (hp : p < n) (hd : Drawn w wr) => seq_any b off n cap g p p rfl hp hn wr hg (fun i hi => by rw [hd.cell]; exact hc i hi) (hd.tabs hT))
 have HB := Lib.hid (fun p : Nat => seqAt_num (n := n) (p := p) hg)
 have HV := Lib.hid (fun p h => validP_step (g := g) (n := n) (p := p) hg h)
 have HE := Lib.hid (fun p h => validP_end (g := g) (n := n) (p := p) h)
 have H0 : validP g n = validF g n n 0 := rfl
 generalize validP g n = R at *
 have HR := Lib.hid H0
 clear hT hg hc H0
 go_enter Tryz.func10, Tryz.ntmps10
 go_wp2
 go_loopw [4] (fun a wr => ∃ p : Nat, p ≤ n ∧ a = .int .i64 p ∧ Hid (R = validF g n n p) ∧ Drawn w wr) (fun a _ => n - (intOf a).toNat)
 case atStart => exact ⟨0, Nat.zero_le _, rfl, HR, Drawn.refl _⟩
 case round =>
   obtain ⟨p, hp, rfl, HK, hd⟩ := hrel
   by_cases hpn : p < n
   · have C := HS.out wr p hpn hd
     have hbd := HB.out p
     have hst := HV.out p hpn
     unfold SeqPost at C
     generalize seqAt g n p = r at *
     obtain ⟨c, s⟩ := r
     simp only at hbd C hst
     obtain ⟨q1, q2, q3, q4, q5⟩ := hbd
     have q6 := q5 (by omega)
     have HC := Lib.hid C
     have Hst := Lib.hid hst
     clear C hst q5
     by_cases hs : s = 0
     · have hsb : (s == 0) = true := by simp [hs]
       have Hs := Lib.hid hs
       clear hs
       go_wp2_with (go_at_call 17; refine HC.out.mono ?_; rintro e w' ⟨rfl, hd2⟩)
       go_ret2
       exact numBoolPost (by rw [HK.out, Hst.out, if_pos Hs.out]) (hd.trans hd2)
     · have hsb : (s == 0) = false := by simp [hs]
       have Hs := Lib.hid hs
       have q7 : 1 ≤ s := by omega
       clear hs
       go_wp2_with (go_at_call 17; refine HC.out.mono ?_; rintro e w' ⟨rfl, hd2⟩)
       go_roundw
       case rel => exact ⟨p + s.toNat, by omega, by rw [show ((p + s.toNat : Nat) : Int) = p + s from by omega], Lib.hid (by rw [HK.out, Hst.out, if_neg Hs.out]), hd.trans hd2⟩
       case measure => simp [intOf]; omega
   · have hE := Lib.hid (HE.out p (by omega))
     go_wp2
     go_ret2
     exact numBoolPost (by rw [HK.out, hE.out]) hd
end Go.Proofs.YtkcmjcgjfjfimaaGreatDoor.utfw
end
section
namespace Go.Proofs.YtkcmjcgjfjfimaaGreatDoor.utfw
open Go Go.RowKit utfp
theorem cell_lt {w : World} {a : Addr} {v : Value} (h : w.cell? a = some v) : a.block < w.heap.size := by
 apply Classical.byContradiction
 intro hn
 have : w.heap[a.block]? = none := by simp; omega
 unfold World.cell? at h
 rw [this] at h
 simp at h
theorem below_cell {w w' : World} (h : Below w.heap.size w w') {a : Addr} {v : Value} (hc : w.cell? a = some v) : w'.cell? a = some v := by
 rw [h.cell (cell_lt hc)]; exact hc
theorem below_sl {w w' : World} (h : Below w.heap.size w w') {v : Value} {n : Nat} {g : Nat → Int} (hs : Sl w v n g) : Sl w' v n g := by
 obtain ⟨h1, h2, h3⟩ := hs
 refine ⟨h1, h2, ?_⟩
 rcases h3 with h3 | ⟨b, off, cap, h3, h4, h5⟩
 · exact Or.inl h3
 · exact Or.inr ⟨b, off, cap, h3, h4, fun i hi => below_cell h (h5 i hi)⟩
theorem below_tabs {w w' : World} (h : Below w.heap.size w w') (hT : Tabs w) : Tabs w' := ⟨fun x a b => below_cell h (hT.1 x a b), fun x a b => below_cell h (hT.2 x a b)⟩
theorem drawn_below {w w' : World} (h : Drawn w w') : Below w.heap.size w w' := by
 obtain ⟨k, rfl⟩ := h
 exact ⟨rfl, rfl, rfl, Nat.le_refl _, fun _ _ => rfl⟩
theorem below_trans {a b c : World} (h : Below a.heap.size a b) (k : Below b.heap.size b c) : Below a.heap.size a c := h.trans (k.mono h.size)
def at_ (l : List Int) : Nat → Int := fun i => l.getD i 0
def strOf (n : Nat) (g : Nat → Int) : ByteArray := strOfNums ((List.range n).map g)
theorem conv_zero (w : World) (a : Option Addr) (c : Nat) (g : Nat → Int) : (convert 22 9 (.slice a 0 c)).run Tryz.prog w = .ok (.string (strOf 0 g)) w := by
 rw [show strOf 0 g = ByteArray.empty from rfl, run_convert_bytes_string w 22 9 5 _ 0 c Tryz.underlying22 Tryz.underlying5 Tryz.underlying9]
 cases a <;> simp [Conv.bytesToString, loadCells, loadCellsFrom]
theorem conv_sl {w : World} {v : Value} {n : Nat} {g : Nat → Int} (h : Sl w v n g) :
   (convert 22 9 v).run Tryz.prog w = .ok (.string (strOf n g)) w := by
 obtain ⟨_, _, h3⟩ := h
 rcases h3 with ⟨rfl, a0, c0, rfl, _⟩ | ⟨b, off, cap, rfl, _, hc⟩
 · exact conv_zero w a0 c0 g
 · refine run_convert_bytes_arg w 22 5 Tryz.underlying22 Tryz.underlying5 b off n cap ((List.range n).map g) (by simp) (fun i hi => ?_) 9 Tryz.underlying9
   rw [hc i hi]
   simp [List.getD, hi]
theorem strOfNums_inj {l l' : List Int} (h : ∀ x ∈ l, 0 ≤ x ∧ x ≤ 255) (h' : ∀ x ∈ l', 0 ≤ x ∧ x ≤ 255) (e : strOfNums l = strOfNums l') : l = l' := by
 have e2 : (l.map fun n => UInt8.ofNat n.toNat) = l'.map fun n => UInt8.ofNat n.toNat := by
   have := congrArg (fun s : ByteArray => s.data.toList) e
   simpa [strOfNums] using this
 clear e
 induction l generalizing l' with
 | nil => cases l' with
   | nil => rfl
   | cons y l' => simp at e2
 | cons x l ih =>
   cases l' with
   | nil => simp at e2
   | cons y l' =>
     simp only [List.map_cons, List.cons.injEq] at e2
     obtain ⟨e1, e2⟩ := e2
     have hx := h x (by simp)
     have hy := h' y (by simp)
     have e3 := congrArg UInt8.toNat e1
     simp only [UInt8.toNat_ofNat'] at e3
     have : x = y := by omega
     subst this
     rw [ih (fun z hz => h z (by simp [hz])) (fun z hz => h' z (by simp [hz])) e2]
theorem toList_inj {s s' : ByteArray} (h : s.toList = s'.toList) : s = s' := by
 rw [ByteArray.toList_eq, ByteArray.toList_eq] at h
 cases s
 cases s'
 congr
 exact Array.toList_inj.1 h
end Go.Proofs.YtkcmjcgjfjfimaaGreatDoor.utfw
end
section
namespace Go.Proofs.YtkcmjcgjfjfimaaGreatDoor.bulk
open Go Go.RowKit
def acts (P : Program) (w : World) : List Oper → Act → Act
 | [], a => a
 | o :: r, a => match (execOp a.eval o).run P w with
   | .ok (.value v) _ => acts P w r (a.put o.dst v)
   | _ => a
def bulk (P : Program) : List Oper → Act → World → Option (Act × World)
 | [], a, w => some (a, w)
 | o :: r, a, w => match o.guard with
   | some _ => none
   | none => match (execOp a.eval o).run P w with
     | .ok (.value v) w' => bulk P r (a.put o.dst v) w'
     | _ => none
theorem wpList_value {P : Program} {ops : Array Oper} {Q : Exit → Act → World → Prop} {rest : List Oper} {o : Oper} {a : Act} {w w' : World} {v : Value} (hg : o.guard = none)
   (h : (execOp a.eval o).run P w = .ok (.value v) w') (hr : wpList P ops Q rest (a.put o.dst v) w') : wpList P ops Q (o :: rest) a w :=
 wpList_plain hg fun K hK => by
   unfold Oper.wp
   rw [h]
   exact hK _ _ hr
theorem wpList_bulk {P : Program} {ops : Array Oper} {Q : Exit → Act → World → Prop} (l : List Oper) {rest : List Oper} {a' : Act} {w' : World} (hr : wpList P ops Q rest a' w') :
   ∀ (a : Act) (w : World), bulk P l a w = some (a', w') → wpList P ops Q (l ++ rest) a w := by
 induction l with
 | nil =>
   intro a w h
   simp only [bulk, Option.some.injEq, Prod.mk.injEq] at h
   obtain ⟨rfl, rfl⟩ := h
   exact hr
 | cons o r ih =>
   intro a w h
   unfold bulk at h
   split at h
   · cases h
   · rename_i hg
     split at h
     · rename_i v w1 hv
       exact wpList_value hg hv (ih _ _ h)
     · cases h
theorem wpList_bulk_n {P : Program} {ops : Array Oper} {Q : Exit → Act → World → Prop} {l : List Oper} (n : Nat) {a a' : Act} {w w' : World} (h : bulk P (l.take n) a w = some (a', w')) (hr : wpList P ops Q (l.drop n) a' w') :
   wpList P ops Q l a w := by
 have := wpList_bulk (l.take n) hr a w h
 rwa [List.take_append_drop] at this
theorem wpList_bulk_w {P : Program} {ops : Array Oper} {Q : Exit → Act → World → Prop} {l : List Oper} (n : Nat) {a : Act} {w : World} (h : bulk P (l.take n) a w = some (acts P w (l.take n) a, w))
   (hr : wpList P ops Q (l.drop n) (acts P w (l.take n) a) w) : wpList P ops Q l a w := wpList_bulk_n n h hr
theorem eval_put_same {a : Act} {d : Nat} {v : Value} (h : d < a.tmps.size) : (a.put (some d) v).eval (.tmp d) = v := by
 simp [Act.put, Act.eval, Array.getD, h]
theorem eval_put_other {a : Act} {d t : Nat} {v : Value} (h : d ≠ t) : (a.put (some d) v).eval (.tmp t) = a.eval (.tmp t) := by
 unfold Act.put Act.eval
 simp only [Array.getD_eq_getD_getElem?, Array.getElem?_setIfInBounds_ne h]
theorem tmps_of {a : Act} {t n : Nat} {v : Value} (hz : a.tmps.size = n) (ht : t < n) (h : a.eval (.tmp t) = v) : a.tmps[t]'(by omega) = v := by
 unfold Act.eval at h
 simpa [Array.getD, hz, ht] using h
theorem size_put {a : Act} {d : Option Nat} {v : Value} : (a.put d v).tmps.size = a.tmps.size := by
 cases d <;> simp [Act.put]
theorem run_move {P : Program} {w : World} {ρ : Operand → Value} {o : Oper} {x : Operand} {v : Value} (ho : o.op = .move x) (hv : ρ x = v) : (execOp ρ o).run P w = .ok (.value v) w := by
 unfold execOp; rw [ho]; subst hv; rfl
theorem run_index {P : Program} {w : World} {ρ : Operand → Value} {o : Oper} {T : TypeId} {x i : Operand} {vx vi v : Value} (ho : o.op = .index T x i) (hx : ρ x = vx) (hi : ρ i = vi) (hr : (Instr.index T vx vi).run P w = .ok v w) :
   (execOp ρ o).run P w = .ok (.value v) w := by
 unfold execOp; rw [ho]; subst hx; subst hi
 simp only
 show ((Instr.index T (ρ x) (ρ i)) >>= fun s => pure (Next.value s)).run P w = _
 simp [hr]
end Go.Proofs.YtkcmjcgjfjfimaaGreatDoor.bulk
end
section
namespace Go.Proofs.YtkcmjcgjfjfimaaGreatDoor.ucdp
def catB (k : Nat) : ByteArray := match k with
 | 1 => ⟨#[67, 99]⟩
 | 2 => ⟨#[90, 115]⟩
 | 3 => ⟨#[80, 111]⟩
 | 4 => ⟨#[83, 99]⟩
 | 5 => ⟨#[80, 115]⟩
 | 6 => ⟨#[80, 101]⟩
 | 7 => ⟨#[83, 109]⟩
 | 8 => ⟨#[80, 100]⟩
 | 9 => ⟨#[78, 100]⟩
 | 10 => ⟨#[76, 117]⟩
 | 11 => ⟨#[83, 107]⟩
 | 12 => ⟨#[80, 99]⟩
 | 13 => ⟨#[76, 108]⟩
 | 14 => ⟨#[83, 111]⟩
 | 15 => ⟨#[76, 111]⟩
 | 16 => ⟨#[80, 105]⟩
 | 17 => ⟨#[67, 102]⟩
 | 18 => ⟨#[78, 111]⟩
 | 19 => ⟨#[80, 102]⟩
 | 20 => ⟨#[67, 110]⟩
 | 21 => ⟨#[77, 110]⟩
 | 22 => ⟨#[90, 108]⟩
 | 23 => ⟨#[90, 112]⟩
 | _ => ⟨#[]⟩
def scrB (k : Nat) : ByteArray := match k with
 | 1 => ⟨#[67, 111, 109, 109, 111, 110]⟩
 | 2 => ⟨#[76, 97, 116, 105, 110]⟩
 | 3 => ⟨#[85, 110, 107, 110, 111, 119, 110]⟩
 | 4 => ⟨#[73, 110, 104, 101, 114, 105, 116, 101, 100]⟩
 | 5 => ⟨#[71, 114, 101, 101, 107]⟩
 | 6 => ⟨#[67, 121, 114, 105, 108, 108, 105, 99]⟩
 | 7 => ⟨#[72, 101, 98, 114, 101, 119]⟩
 | 8 => ⟨#[65, 114, 97, 98, 105, 99]⟩
 | 9 => ⟨#[72, 105, 114, 97, 103, 97, 110, 97]⟩
 | 10 => ⟨#[72, 97, 110]⟩
 | _ => ⟨#[]⟩
def tab : List (List (Int × Nat × Nat × Int)) := [
 [(-1, 0, 0, 0), (31, 1, 1, 0), (32, 2, 1, 0), (35, 3, 1, 0), (36, 4, 1, 0), (39, 3, 1, 0), (40, 5, 1, 0), (41, 6, 1, 0), (42, 3, 1, 0), (43, 7, 1, 0), (44, 3, 1, 0)],
 [(45, 8, 1, 0), (47, 3, 1, 0), (57, 9, 1, 0), (59, 3, 1, 0), (62, 7, 1, 0), (64, 3, 1, 0), (90, 10, 2, 32), (91, 5, 1, 0), (92, 3, 1, 0), (93, 6, 1, 0), (94, 11, 1, 0)],
 [(95, 12, 1, 0), (96, 11, 1, 0), (122, 13, 2, -32), (123, 5, 1, 0), (124, 7, 1, 0), (125, 6, 1, 0), (126, 7, 1, 0), (159, 1, 1, 0), (160, 2, 1, 0), (161, 3, 1, 0), (165, 4, 1, 0)],
 [(166, 14, 1, 0), (167, 3, 1, 0), (168, 11, 1, 0), (169, 14, 1, 0), (170, 15, 2, 0), (171, 16, 1, 0), (172, 7, 1, 0), (173, 17, 1, 0), (174, 14, 1, 0), (175, 11, 1, 0), (176, 14, 1, 0)],
 [(177, 7, 1, 0), (179, 18, 1, 0), (180, 11, 1, 0), (181, 13, 1, 0), (183, 3, 1, 0), (184, 11, 1, 0), (185, 18, 1, 0), (186, 15, 2, 0), (187, 19, 1, 0), (190, 18, 1, 0), (191, 3, 1, 0)],
 [(214, 10, 2, 32), (215, 7, 1, 0), (222, 10, 2, 32), (223, 13, 2, 0), (246, 13, 2, -32), (247, 7, 1, 0), (254, 13, 2, -32), (255, 13, 2, 0), (382, 20, 3, 0), (383, 13, 2, 0), (767, 20, 3, 0)],
 [(879, 21, 4, 0), (912, 20, 3, 0), (929, 10, 5, 32), (930, 20, 3, 0), (939, 10, 5, 32), (944, 20, 3, 0), (961, 13, 5, -32), (962, 13, 5, 0), (971, 13, 5, -32), (1039, 20, 3, 0), (1071, 10, 6, 32)],
 [(1103, 13, 6, -32), (1487, 20, 3, 0), (1514, 15, 7, 0), (1631, 20, 3, 0), (1641, 9, 8, 0), (8191, 20, 3, 0), (8202, 2, 1, 0), (8231, 20, 3, 0), (8232, 22, 1, 0), (8233, 23, 1, 0), (8363, 20, 3, 0)],
 [(8364, 4, 1, 0), (8489, 20, 3, 0), (8490, 10, 2, 0), (12352, 20, 3, 0), (12438, 15, 9, 0), (19967, 20, 3, 0), (40959, 15, 10, 0), (127743, 20, 3, 0), (128511, 14, 1, 0), (1114111, 20, 3, 0), (9223372036854775807, 0, 0, 0)]]
def low : List (Int × Int × Nat × Nat × Int) := [(0, 31, 1, 1, 0), (32, 32, 2, 1, 0), (33, 35, 3, 1, 0), (36, 36, 4, 1, 0), (37, 39, 3, 1, 0), (40, 40, 5, 1, 0),
 (41, 41, 6, 1, 0), (42, 42, 3, 1, 0), (43, 43, 7, 1, 0), (44, 44, 3, 1, 0), (45, 45, 8, 1, 0), (46, 47, 3, 1, 0),
 (48, 57, 9, 1, 0), (58, 59, 3, 1, 0), (60, 62, 7, 1, 0), (63, 64, 3, 1, 0), (65, 90, 10, 2, 32), (91, 91, 5, 1, 0),
 (92, 92, 3, 1, 0), (93, 93, 6, 1, 0), (94, 94, 11, 1, 0), (95, 95, 12, 1, 0), (96, 96, 11, 1, 0), (97, 122, 13, 2, -32),
 (123, 123, 5, 1, 0), (124, 124, 7, 1, 0), (125, 125, 6, 1, 0), (126, 126, 7, 1, 0), (127, 159, 1, 1, 0)]
def high : List (Int × Int × Nat × Nat × Int) := [(160, 160, 2, 1, 0), (161, 161, 3, 1, 0), (162, 165, 4, 1, 0), (166, 166, 14, 1, 0), (167, 167, 3, 1, 0), (168, 168, 11, 1, 0),
 (169, 169, 14, 1, 0), (170, 170, 15, 2, 0), (171, 171, 16, 1, 0), (172, 172, 7, 1, 0), (173, 173, 17, 1, 0), (174, 174, 14, 1, 0),
 (175, 175, 11, 1, 0), (176, 176, 14, 1, 0), (177, 177, 7, 1, 0), (178, 179, 18, 1, 0), (180, 180, 11, 1, 0), (181, 181, 13, 1, 0),
 (182, 183, 3, 1, 0), (184, 184, 11, 1, 0), (185, 185, 18, 1, 0), (186, 186, 15, 2, 0), (187, 187, 19, 1, 0), (188, 190, 18, 1, 0),
 (191, 191, 3, 1, 0), (192, 214, 10, 2, 32), (215, 215, 7, 1, 0), (216, 222, 10, 2, 32), (223, 223, 13, 2, 0), (224, 246, 13, 2, -32),
 (247, 247, 7, 1, 0), (248, 254, 13, 2, -32), (255, 255, 13, 2, 0), (383, 383, 13, 2, 0), (768, 879, 21, 4, 0), (913, 929, 10, 5, 32),
 (931, 939, 10, 5, 32), (945, 961, 13, 5, -32), (962, 962, 13, 5, 0), (963, 971, 13, 5, -32), (1040, 1071, 10, 6, 32), (1072, 1103, 13, 6, -32),
 (1488, 1514, 15, 7, 0), (1632, 1641, 9, 8, 0), (8192, 8202, 2, 1, 0), (8232, 8232, 22, 1, 0), (8233, 8233, 23, 1, 0), (8364, 8364, 4, 1, 0),
 (8490, 8490, 10, 2, 0), (12353, 12438, 15, 9, 0), (19968, 40959, 15, 10, 0), (127744, 128511, 14, 1, 0)]
def rows : List (Int × Int × Nat × Nat × Int) := low ++ high
def tabAt (b p : Nat) : Int × Nat × Nat × Int := (tab.getD b []).getD p (0, 0, 0, 0)
def hi (b p : Nat) : Int := (tabAt b p).1
def lo (b p : Nat) : Int := if p = 0 then (if b = 0 then -9223372036854775809 else hi (b - 1) 10) else hi b (p - 1)
def inRow (c : Int) (r : Int × Int × Nat × Nat × Int) : Bool := decide (r.1 ≤ c) && decide (c ≤ r.2.1)
def cls (c : Int) : Nat × Nat × Int := if c < 0 ∨ 1114111 < c then (0, 0, 0) else match rows.find? (inRow c) with
 | some r => r.2.2
 | none => (20, 3, 0)
def thr : List Int := (-1) :: 1114111 :: rows.flatMap fun r => [r.1 - 1, r.2.1]
theorem find_congr {α : Type} {p q : α → Bool} {l : List α} (h : ∀ x ∈ l, p x = q x) : l.find? p = l.find? q := by
 induction l with
 | nil => rfl
 | cons x l ih =>
   simp only [List.find?_cons, h x (by simp)]
   rw [ih fun y hy => h y (by simp [hy])]
theorem cls_congr {c d : Int} (h : ∀ t ∈ thr, (c ≤ t ↔ d ≤ t)) : cls c = cls d := by
 have h1 := h (-1) (by simp [thr])
 have h2 := h 1114111 (by simp [thr])
 have hr : rows.find? (inRow c) = rows.find? (inRow d) := find_congr fun r hr => by
   have e1 := h (r.1 - 1) (by simp only [thr, List.mem_cons, List.mem_flatMap]; exact Or.inr (Or.inr ⟨r, hr, by simp⟩))
   have e2 := h r.2.1 (by simp only [thr, List.mem_cons, List.mem_flatMap]; exact Or.inr (Or.inr ⟨r, hr, by simp⟩))
   unfold inRow
   rw [decide_eq_decide.2 e2, decide_eq_decide.2 (show r.1 ≤ c ↔ r.1 ≤ d by omega)]
 unfold cls
 rw [hr]
 by_cases a : c < 0 ∨ 1114111 < c
 · rw [if_pos a, if_pos (by omega)]
 · rw [if_neg a, if_neg (by omega)]
def check (b p : Nat) : Bool := thr.all (fun t => decide (t ≤ lo b p) || decide (hi b p ≤ t)) && (cls (hi b p) == (tabAt b p).2)
theorem check_all : ((List.range 9).all fun b => (List.range 11).all fun p => check b p) = true := by decide +kernel
theorem cls_at {b p : Nat} {c : Int} (hb : b < 9) (hp : p < 11) (h1 : lo b p < c) (h2 : c ≤ hi b p) : cls c = (tabAt b p).2 := by
 have h := List.all_eq_true.1 (List.all_eq_true.1 check_all b (by simpa using hb)) p (by simpa using hp)
 unfold check at h
 rw [Bool.and_eq_true, List.all_eq_true] at h
 obtain ⟨ht, he⟩ := h
 rw [← eq_of_beq he]
 refine cls_congr fun t hm => ?_
 have := ht t hm
 simp only [Bool.or_eq_true, decide_eq_true_eq] at this
 omega
theorem hi_last : hi 8 10 = 9223372036854775807 := rfl
end Go.Proofs.YtkcmjcgjfjfimaaGreatDoor.ucdp
end
section
namespace Go.Proofs.YtkcmjcgjfjfimaaGreatDoor.ucdw
open Go Go.RowKit bulk ucdp
def rowC (r : Int × Nat × Nat × Int) : List Value := [.int .i64 r.1, .string (catB r.2.1), .string (scrB r.2.2.1), .int .i64 r.2.2.2]
def rowV (r : Int × Nat × Nat × Int) : Value := .agg #[.int .i64 r.1, .string (catB r.2.1), .string (scrB r.2.2.1), .int .i64 r.2.2.2]
def blkV (l : List (Int × Nat × Nat × Int)) : Value := .agg (l.flatMap rowC).toArray
def tabV : Value := .agg (tab.flatMap fun l => l.flatMap rowC).toArray
theorem idx_blk (b : Nat) (hb : b < 9) (w : World) : (Instr.index 203 tabV (.int .i64 b)).run Tryz.prog w = .ok (blkV (tab.getD b [])) w := by
 have h : b = 0 ∨ b = 1 ∨ b = 2 ∨ b = 3 ∨ b = 4 ∨ b = 5 ∨ b = 6 ∨ b = 7 ∨ b = 8 := by omega
 rcases h with rfl | rfl | rfl | rfl | rfl | rfl | rfl | rfl | rfl <;> (show _ = _; kernel_rfl)
theorem idx_row (b p : Nat) (hb : b < 9) (hp : p < 11) (w : World) : (Instr.index 202 (blkV (tab.getD b [])) (.int .i64 p)).run Tryz.prog w = .ok (rowV (tabAt b p)) w := by
 have h : b = 0 ∨ b = 1 ∨ b = 2 ∨ b = 3 ∨ b = 4 ∨ b = 5 ∨ b = 6 ∨ b = 7 ∨ b = 8 := by omega
 have k : p = 0 ∨ p = 1 ∨ p = 2 ∨ p = 3 ∨ p = 4 ∨ p = 5 ∨ p = 6 ∨ p = 7 ∨ p = 8 ∨ p = 9 ∨ p = 10 := by omega
 rcases h with rfl | rfl | rfl | rfl | rfl | rfl | rfl | rfl | rfl <;>
 rcases k with rfl | rfl | rfl | rfl | rfl | rfl | rfl | rfl | rfl | rfl | rfl <;> (show _ = _; kernel_rfl)
def RowPost (r : Int × Nat × Nat × Int) (w : World) (e : Ending) (w' : World) : Prop := e = .returned (rowV r) ∧ Below w.heap.size w w'
set_option maxRecDepth 100000 in
set_option maxHeartbeats 4000000 in
theorem at_any (b p : Nat) (hb : b < 9) (hp : p < 11) (w : World) : Calls Tryz.prog 179 #[.int .i64 b, .int .i64 p] w (RowPost (tabAt b p) w) := by
 go_enter Tryz.func179, Tryz.ntmps179
 go_upto_region 1 with (fail)
 refine wp_region_list ?_
 refine wpList_bulk_w 109 (by kernel_rfl) ?_
 generalize hA : acts _ _ _ _ = A
 have e0 : A.eval (.tmp 0) = .int .i64 b := by rw [← hA]; kernel_rfl
 have e1 : A.eval (.tmp 1) = .int .i64 p := by rw [← hA]; kernel_rfl
 have e4 : A.eval (.tmp 4) = .pointer (some ⟨w.heap.size, 0, none⟩) := by rw [← hA]; kernel_rfl
 have e113 : A.eval (.tmp 113) = tabV := by rw [← hA]; kernel_rfl
 have ez : A.tmps.size = 118 := by rw [← hA]; kernel_rfl
 have ed : A.defers = [] := by rw [← hA]; kernel_rfl
 clear hA
 show wpList _ _ _ [_, _, _, _, _] _ _
 refine wpList_value rfl (run_move rfl e0) ?_
 refine wpList_value rfl (run_index rfl ((eval_put_other (by decide)).trans e113) (eval_put_same (by omega)) (idx_blk b hb _)) ?_
 refine wpList_value rfl (run_move rfl ((eval_put_other (by decide)).trans ((eval_put_other (by decide)).trans e1))) ?_
 refine wpList_value rfl (run_index rfl ((eval_put_other (by decide)).trans (eval_put_same (by simp only [size_put]; omega))) (eval_put_same (by simp only [size_put]; omega)) (idx_row b p hb hp _)) ?_
 have a4 := (eval_put_other (a := ((A.put (some 114) (.int .i64 b)).put (some 115) (blkV (tab.getD b []))).put (some 116) (.int .i64 p)) (d := 117) (v := rowV (tabAt b p)) (t := 4) (by decide)).trans ((eval_put_other (by decide)).trans ((eval_put_other (by decide)).trans ((eval_put_other (by decide)).trans e4)))
 have a117 := eval_put_same (a := ((A.put (some 114) (.int .i64 b)).put (some 115) (blkV (tab.getD b []))).put (some 116) (.int .i64 p)) (d := 117) (v := rowV (tabAt b p)) (by simp only [size_put]; omega)
 have az : ((((A.put (some 114) (.int .i64 b)).put (some 115) (blkV (tab.getD b []))).put (some 116) (.int .i64 p)).put (some 117) (rowV (tabAt b p))).tmps.size = 118 := by simp only [size_put]; exact ez
 have ad : ((((A.put (some 114) (.int .i64 b)).put (some 115) (blkV (tab.getD b []))).put (some 116) (.int .i64 p)).put (some 117) (rowV (tabAt b p))).defers = [] := ed
 show wpList _ _ _ _ ((((A.put (some 114) (.int .i64 b)).put (some 115) (blkV (tab.getD b []))).put (some 116) (.int .i64 p)).put (some 117) (rowV (tabAt b p))) _
 generalize (((A.put (some 114) (.int .i64 b)).put (some 115) (blkV (tab.getD b []))).put (some 116) (.int .i64 p)).put (some 117) (rowV (tabAt b p)) = B at *
 clear e0 e1 e4 e113 ez ed
 generalize tabAt b p = r at *
 unfold rowV at a117
 have c4 := tmps_of az (by decide) a4
 have c117 := tmps_of az (by decide) a117
 clear a4 a117
 go_step
 go_step
 go_step
 go_step
 go_step
 go_step
 go_step
 refine bodyPost_ret (v := rowV r) (by simp [results, Tryz.results179, go_sem, c4, az, rowV]) ad ⟨rfl, (Below.refl _ _).alloc (Nat.le_refl _) _⟩
end Go.Proofs.YtkcmjcgjfjfimaaGreatDoor.ucdw
end
section
namespace Go.Proofs.YtkcmjcgjfjfimaaGreatDoor.ucdw
open Go Go.RowKit bulk ucdp
theorem cell_lt {w : World} {a : Addr} {v : Value} (h : w.cell? a = some v) : a.block < w.heap.size := by
 apply Classical.byContradiction
 intro hn
 have : w.heap[a.block]? = none := by simp; omega
 unfold World.cell? at h
 rw [this] at h
 simp at h
theorem below_cell {w w' : World} (h : Below w.heap.size w w') {a : Addr} {v : Value} (hc : w.cell? a = some v) : w'.cell? a = some v := by
 rw [h.cell (cell_lt hc)]; exact hc
theorem below_trans {a b c : World} (h : Below a.heap.size a b) (k : Below b.heap.size b c) : Below a.heap.size a c := h.trans (k.mono h.size)
theorem below_drew (w : World) : Below w.heap.size w w.drew := ⟨rfl, rfl, rfl, Nat.le_refl _, fun _ _ => rfl⟩
def BoolB (r : Bool) (w : World) (e : Ending) (w' : World) : Prop := e = .returned (.bool r) ∧ Below w.heap.size w w'
def StrB (r : ByteArray) (w : World) (e : Ending) (w' : World) : Prop := e = .returned (.string r) ∧ Below w.heap.size w w'
theorem at_vals {b p : Nat} {t : Int} {k s : Nat} {o : Int} (h : tabAt b p = (t, k, s, o)) (hb : b < 9) (hp : p < 11) (w : World) :
   Calls Tryz.prog 179 #[.int .i64 b, .int .i64 p] w fun e w' => e = .returned (.agg #[.int .i64 t, .string (catB k), .string (scrB s), .int .i64 o]) ∧ Below w.heap.size w w' := by
 have := at_any b p hb hp w
 rw [h] at this
 exact this
theorem field0 (a b c d : Value) (w : World) : (Instr.field 170 (.agg #[a, b, c, d]) 0).run Tryz.prog w = .ok a w := by kernel_rfl
theorem field1 (a b c d : Value) (w : World) : (Instr.field 170 (.agg #[a, b, c, d]) 1).run Tryz.prog w = .ok b w := by kernel_rfl
theorem field2 (a b c d : Value) (w : World) : (Instr.field 170 (.agg #[a, b, c, d]) 2).run Tryz.prog w = .ok c w := by kernel_rfl
set_option maxHeartbeats 400000 in
theorem clo1_any (c : Int) (i B : Nat) (hi9 : i < 9) (w : World) (hc : w.cell? ⟨B, 0, none⟩ = some (.int .i64 c)) :
   Calls Tryz.prog 178 #[.int .i64 i, .pointer (some ⟨B, 0, none⟩)] w (BoolB (decide (c ≤ hi i 10)) w) := by
 obtain ⟨⟨t, k, s, o⟩, hr⟩ : ∃ r, tabAt i 10 = r := ⟨_, rfl⟩
 rw [show hi i 10 = t by unfold hi; rw [hr]]
 have HAt := Lib.hid (fun w1 => at_vals hr hi9 (by decide) w1)
 have hf0 := field0
 clear hr
 go_enter Tryz.func178, Tryz.ntmps178
 go_wp2_with fail
 go_region_held3 (fun w' => w'.cell? ⟨B, 0, none⟩ = some (.int .i64 c) ∧ Below w.heap.size w w') (first | exact ⟨by simpa using hc, below_drew _⟩ | (go_split_ands; exact ⟨below_cell hb1 (by assumption), below_trans (by assumption) hb1⟩))
   (first | (go_at_call 179; refine (HAt.out _).mono ?_; rintro e w1 ⟨rfl, hb1⟩))
 go_wp2_with fail
 go_ret
 go_split_ands
 exact ⟨rfl, by assumption⟩
set_option maxHeartbeats 400000 in
theorem clo2_any (c : Int) (b p B C : Nat) (hb9 : b < 9) (hp11 : p < 11) (w : World) (hc : w.cell? ⟨B, 0, none⟩ = some (.int .i64 c)) (hd : w.cell? ⟨C, 0, none⟩ = some (.int .i64 b)) :
   Calls Tryz.prog 180 #[.int .i64 p, .pointer (some ⟨B, 0, none⟩), .pointer (some ⟨C, 0, none⟩)] w (BoolB (decide (c ≤ hi b p)) w) := by
 obtain ⟨⟨t, k, s, o⟩, hr⟩ : ∃ r, tabAt b p = r := ⟨_, rfl⟩
 rw [show hi b p = t by unfold hi; rw [hr]]
 have HAt := Lib.hid (fun w1 => at_vals hr hb9 hp11 w1)
 have hf0 := field0
 clear hr
 go_enter Tryz.func180, Tryz.ntmps180
 go_wp2_with fail
 go_region_held3 (fun w' => w'.cell? ⟨B, 0, none⟩ = some (.int .i64 c) ∧ w'.cell? ⟨C, 0, none⟩ = some (.int .i64 b) ∧ Below w.heap.size w w') (first | exact ⟨by simpa using hc, by simpa using hd, below_drew _⟩ | (go_split_ands; exact ⟨below_cell hb1 (by assumption), below_cell hb1 (by assumption), below_trans (by assumption) hb1⟩))
   (first | (go_at_call 179; refine (HAt.out _).mono ?_; rintro e w1 ⟨rfl, hb1⟩))
 go_wp2_with fail
 go_ret
 go_split_ands
 exact ⟨rfl, by assumption⟩
def FirstPost (h : Nat → Bool) (n : Nat) (w : World) (e : Ending) (w' : World) : Prop := ∃ i : Nat, i < n ∧ h i = true ∧ (i = 0 ∨ h (i - 1) = false) ∧ e = .returned (.int .i64 i) ∧ Below w.heap.size w w'
set_option maxHeartbeats 1000000 in
theorem first_any (g : Nat) (lb : Array Value) (h : Nat → Bool) (n : Nat) (w : World) (h1 : 1 ≤ n) (h2 : n ≤ 1000) (hl : h (n - 1) = true)
   (eg : ∀ args w, (callFunc g args).run Tryz.prog w = .ok (.enter g args) w)
   (hC : ∀ i, i < n → ∀ w1, Below w.heap.size w w1 → Calls Tryz.prog g (#[.int .i64 i] ++ lb) w1 (BoolB (h i) w1)) :
   Calls Tryz.prog 177 #[.int .i64 n, .func (.func g) #[] lb] w (FirstPost h n w) := by
 have Hl := Lib.hid hl
 have HC := Lib.hid hC
 clear hl hC
 go_enter Tryz.func177, Tryz.ntmps177
 go_wp2_with fail
 go_loopw [5, 6] (fun lv uv wr => ∃ l u : Nat, l ≤ u ∧ u < n ∧ lv = .int .i64 l ∧ uv = .int .i64 u ∧ Hid (h u = true) ∧ Hid (l = 0 ∨ h (l - 1) = false) ∧ Below w.heap.size w wr) (fun lv uv _ => (intOf uv - intOf lv).toNat)
 case atStart => exact ⟨0, n - 1, Nat.zero_le _, by omega, rfl, by rw [Int.natCast_sub h1]; rfl, Hl, Lib.hid (Or.inl rfl), Below.refl _ _⟩
 case round =>
   obtain ⟨l, u, hlu, hun, rfl, rfl, HU, HL, hb⟩ := hrel
   by_cases hlt : l < u
   · obtain ⟨m, hm⟩ : ∃ m : Nat, ((l : Int) + u) / 2 = m := ⟨(l + u) / 2, by omega⟩
     have hm1 : l ≤ m := by omega
     have hm2 : m < u := by omega
     have hcm := HC.out m (by omega) _ hb
     cases hv : h m with
     | true =>
       rw [hv] at hcm
       have Hv := Lib.hid hv
       have Hcm := Lib.hid hcm
       clear hv hcm
       go_wp2_with fail
       refine Hcm.out.mono ?_
       rintro e w2 ⟨rfl, hb2⟩
       go_wp2_with fail
       go_roundw
       case rel => exact ⟨l, m, by omega, by omega, rfl, rfl, Hv, HL, below_trans hb hb2⟩
       case measure => simp [intOf]; omega
     | false =>
       rw [hv] at hcm
       have Hv := Lib.hid (show m + 1 = 0 ∨ h (m + 1 - 1) = false from Or.inr hv)
       have Hcm := Lib.hid hcm
       clear hv hcm
       go_wp2_with fail
       refine Hcm.out.mono ?_
       rintro e w2 ⟨rfl, hb2⟩
       go_wp2_with fail
       go_roundw
       case rel => exact ⟨m + 1, u, by omega, by omega, by go_num, rfl, HU, Hv, below_trans hb hb2⟩
       case measure => simp [intOf]; omega
   · have hle : u ≤ l := by omega
     go_wp2_with fail
     go_ret
     obtain rfl : l = u := by omega
     exact ⟨l, hun, HU.out, HL.out, rfl, hb⟩
end Go.Proofs.YtkcmjcgjfjfimaaGreatDoor.ucdw
end
section
namespace Go.Proofs.YtkcmjcgjfjfimaaGreatDoor.ucdw
open Go Go.RowKit bulk ucdp
theorem below_alloc (w : World) (o : Obj) : Below w.heap.size w (w.alloc o) := (Below.refl _ _).alloc (Nat.le_refl _) _
def RowP (k : Nat × Nat × Int) (w : World) (e : Ending) (w' : World) : Prop := ∃ t : Int, e = .returned (.agg #[.int .i64 t, .string (catB k.1), .string (scrB k.2.1), .int .i64 k.2.2]) ∧ Below w.heap.size w w'
def Found1 (c : Int) (B : Nat) (w : World) (e : Ending) (w' : World) : Prop := ∃ i : Nat, i < 9 ∧ c ≤ hi i 10 ∧ (i = 0 ∨ hi (i - 1) 10 < c) ∧ e = .returned (.int .i64 i) ∧ Below w.heap.size w w' ∧ w'.cell? ⟨B, 0, none⟩ = some (.int .i64 c)
def Found2 (c : Int) (b C : Nat) (w : World) (e : Ending) (w' : World) : Prop := ∃ i : Nat, i < 11 ∧ c ≤ hi b i ∧ (i = 0 ∨ hi b (i - 1) < c) ∧ e = .returned (.int .i64 i) ∧ Below w.heap.size w w' ∧ w'.cell? ⟨C, 0, none⟩ = some (.int .i64 b)
theorem first1 (c : Int) (B : Nat) (w : World) (h2 : c ≤ 9223372036854775807) (hc : w.cell? ⟨B, 0, none⟩ = some (.int .i64 c)) :
   Calls Tryz.prog 177 #[.int .i64 (9 : Int), .func (.func 178) #[] #[.pointer (some ⟨B, 0, none⟩)]] w (Found1 c B w) := by
 refine (first_any 178 #[.pointer (some ⟨B, 0, none⟩)] (fun i => decide (c ≤ hi i 10)) 9 w (by decide) (by decide) (by rw [hi_last]; simpa using h2) (enters_of Tryz.func178 (by kernel_rfl) rfl)
   (fun i hi w1 hb => clo1_any c i B hi w1 (below_cell hb hc))).mono fun e w' ⟨i, h3, h4, h5, h6, h7⟩ => ⟨i, h3, by simpa using h4, ?_, h6, h7, below_cell h7 hc⟩
 rcases h5 with h5 | h5
 · exact Or.inl h5
 · exact Or.inr (by simpa using h5)
theorem first2 (c : Int) (b B C : Nat) (w : World) (hb9 : b < 9) (h2 : c ≤ hi b 10) (hc : w.cell? ⟨B, 0, none⟩ = some (.int .i64 c)) (hd : w.cell? ⟨C, 0, none⟩ = some (.int .i64 b)) :
   Calls Tryz.prog 177 #[.int .i64 (11 : Int), .func (.func 180) #[] #[.pointer (some ⟨B, 0, none⟩), .pointer (some ⟨C, 0, none⟩)]] w (Found2 c b C w) := by
 refine (first_any 180 #[.pointer (some ⟨B, 0, none⟩), .pointer (some ⟨C, 0, none⟩)] (fun i => decide (c ≤ hi b i)) 11 w (by decide) (by decide) (by simpa using h2) (enters_of Tryz.func180 (by kernel_rfl) rfl)
   (fun i hi w1 hb => clo2_any c b i B C hb9 hi w1 (below_cell hb hc) (below_cell hb hd))).mono fun e w' ⟨i, h3, h4, h5, h6, h7⟩ => ⟨i, h3, by simpa using h4, ?_, h6, h7, below_cell h7 hd⟩
 rcases h5 with h5 | h5
 · exact Or.inl h5
 · exact Or.inr (by simpa using h5)
theorem row_found {c : Int} {b p : Nat} {t : Int} {k s : Nat} {o : Int} (h1 : -9223372036854775808 ≤ c) (hb : b < 9) (hp : p < 11) (hb0 : b = 0 ∨ hi (b - 1) 10 < c) (hp0 : p = 0 ∨ hi b (p - 1) < c) (hc : c ≤ hi b p) (ht : tabAt b p = (t, k, s, o)) :
   cls c = (k, s, o) := by
 rw [cls_at hb hp ?_ hc, ht]
 unfold lo
 split
 · split
   · omega
   · rcases hb0 with h | h
     · contradiction
     · exact h
 · rcases hp0 with h | h
   · contradiction
   · exact h
set_option maxHeartbeats 1000000 in
theorem find_any (c : Int) (w : World) (h1 : -9223372036854775808 ≤ c) (h2 : c ≤ 9223372036854775807) : Calls Tryz.prog 163 #[.int .i64 c] w (RowP (cls c) w) := by
 have HF := Lib.hid (fun B w1 hc => first1 c B w1 h2 hc)
 have HG := Lib.hid (fun b B C w1 hb9 hh hc hd => first2 c b B C w1 hb9 hh hc hd)
 have HA := Lib.hid (fun b p t k s o (ht : tabAt b p = (t, k, s, o)) hb hp w1 => at_vals (t := t) (k := k) (s := s) (o := o) ht hb hp w1)
 have H1 := Lib.hid h1
 clear h1 h2
 go_enter Tryz.func163, Tryz.ntmps163
 go_wp2_with fail
 refine (HF.out w.heap.size _ (by simp)).mono ?_
 rintro e w1 ⟨b, hb9, hbt, hbf, rfl, hb1, hc1⟩
 have Hbt := Lib.hid hbt
 have Hbf := Lib.hid hbf
 clear hbt hbf
 go_wp2_with fail
 refine (HG.out b w.heap.size w1.heap.size _ hb9 Hbt.out (below_cell ((Below.refl _ _).alloc (Nat.le_refl _) _) hc1) (by simp)).mono ?_
 rintro e w2 ⟨p, hp11, hpt, hpf, rfl, hb2, hd2⟩
 have hw2 := below_trans hb1 (below_trans (below_alloc w1 _) hb2)
 obtain ⟨⟨t, k, s, o⟩, hr⟩ : ∃ r, tabAt b p = r := ⟨_, rfl⟩
 have Hk := Lib.hid (row_found H1.out hb9 hp11 Hbf.out hpf hpt hr)
 have Hat := Lib.hid (HA.out b p t k s o hr hb9 hp11)
 clear hpt hpf hr hb1 hb2
 go_wp2_with fail
 refine (Hat.out _).mono ?_
 rintro e w3 ⟨rfl, hb3⟩
 have hw3 := below_trans hw2 hb3
 have c0 := (hw3.cell (p := ⟨w.heap.size + 1, 0, none⟩) (by simp)).trans (show _ = some (.int .i64 0) by simp)
 have c1 := (hw3.cell (p := ⟨w.heap.size + 1, 1, none⟩) (by simp)).trans (show _ = some (.string ⟨#[]⟩) by simp)
 have c2 := (hw3.cell (p := ⟨w.heap.size + 1, 2, none⟩) (by simp)).trans (show _ = some (.string ⟨#[]⟩) by simp)
 have c3 := (hw3.cell (p := ⟨w.heap.size + 1, 3, none⟩) (by simp)).trans (show _ = some (.int .i64 0) by simp)
 have f0 := (hw3.frozen (p := ⟨w.heap.size + 1, 0, none⟩) (by simp)).trans (show _ = false by simp)
 have f1 := (hw3.frozen (p := ⟨w.heap.size + 1, 1, none⟩) (by simp)).trans (show _ = false by simp)
 have f2 := (hw3.frozen (p := ⟨w.heap.size + 1, 2, none⟩) (by simp)).trans (show _ = false by simp)
 have f3 := (hw3.frozen (p := ⟨w.heap.size + 1, 3, none⟩) (by simp)).trans (show _ = false by simp)
 have hB := below_trans (below_trans (below_alloc w _) (below_alloc _ _)) hw3
 clear hw2 hw3 hb3 hd2 hc1
 go_wp2_with fail
 refine bodyPost_ret (v := .agg #[.int .i64 t, .string (catB k), .string (scrB s), .int .i64 o]) (by simp [results, Tryz.results163, go_sem, c0, c1, c2, c3]) rfl ⟨t, by rw [Hk.out], ?_⟩
 exact (((hB.setCell (by simp) _).setCell (by simp) _).setCell (by simp) _).setCell (by simp) _
end Go.Proofs.YtkcmjcgjfjfimaaGreatDoor.ucdw
end
section
namespace Go.Proofs.YtkcmjcgjfjfimaaGreatDoor.ucdw
open Go Go.RowKit bulk ucdp
theorem infoInt : (Tryz.prog.info? 3).map (fun i => (i.zero, i.size, i.bytes)) = some (some (.int .i64 0), 1, 8) := by kernel_rfl
def ic (l : List Int) : List Value := l.map (Value.int .i64)
def OwnI (w : World) (base : Nat) (v : Value) (D : List Int) : Prop := w.ownsRow base 3 1 v D.length (ic D)
theorem ownI_nil (w : World) (base : Nat) : OwnI w base (.slice none 0 0) [] := World.ownsRow_nil w base _ 1
def IntsAt (base : Nat) (w : World) (v : Value) (l : List Int) : Prop :=
 (l = [] ∧ v = .slice none 0 0) ∨ (l ≠ [] ∧ ∃ b cap : Nat, v = .slice (some ⟨b, 0, none⟩) l.length cap ∧ base ≤ b ∧ b < w.heap.size ∧ l.length ≤ cap ∧ cap ≤ 9223372036854775807 ∧ ∀ i, i < l.length → w.cell? ⟨b, i, none⟩ = some (.int .i64 (l.getD i 0)))
theorem intsAt_own {w : World} {base : Nat} {v : Value} {D : List Int} (h : OwnI w base v D) (hD : D ≠ []) : IntsAt base w v D := by
 have h' := h
 obtain ⟨_, h2⟩ := h
 rcases h2 with ⟨_, hn⟩ | ⟨g, cap, cur, hv, hg, hh, hnc, hcm, _⟩
 · exact absurd (List.eq_nil_of_length_eq_zero hn) hD
 · unfold maxLen at hcm
   have hlt : g < w.heap.size := by
     rcases Nat.lt_or_ge g w.heap.size with h | h
     · exact h
     · rw [Array.getElem?_eq_none h] at hh; cases hh
   refine Or.inr ⟨hD, g, cap, hv, hg, hlt, hnc, by omega, fun k hk => ?_⟩
   unfold OwnI at h'
   rw [hv] at h'
   rw [h'.cellAt k (by omega)]
   simp [ic, List.getD, hk]
end Go.Proofs.YtkcmjcgjfjfimaaGreatDoor.ucdw
end
section
namespace Go.Proofs.YtkcmjcgjfjfimaaGreatDoor.ucdw
open Go Go.RowKit bulk ucdp
theorem intsAt_mono {b b' : Nat} {w : World} {v : Value} {l : List Int} (h : b ≤ b') (hv : IntsAt b' w v l) : IntsAt b w v l := by
 rcases hv with hv | ⟨hl, g, cap, e, hg, r⟩
 · exact Or.inl hv
 · exact Or.inr ⟨hl, g, cap, e, Nat.le_trans h hg, r⟩
end Go.Proofs.YtkcmjcgjfjfimaaGreatDoor.ucdw
end
