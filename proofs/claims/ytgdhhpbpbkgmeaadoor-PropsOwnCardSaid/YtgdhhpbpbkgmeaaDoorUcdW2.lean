/- The contracts of package ucd's closures of 'find', of 'first', 'find', Category, Script. -/
import Derived.Test.YtgdhhpbpbkgmeaaDoorUcdW1
import Derived.Deep.RegionHeld3
import Derived.Deep.RegionWith
import Derived.IntWalk
namespace Go.Proofs.YtgdhhpbpbkgmeaaDoor.ucdw
open Go Go.RowKit Go.Proofs.YtgdhhpbpbkgmeaaDoor.bulk Go.Proofs.YtgdhhpbpbkgmeaaDoor.ucdp

theorem cell_lt {w : World} {a : Addr} {v : Value} (h : w.cell? a = some v) : a.block < w.heap.size := by
  apply Classical.byContradiction
  intro hn
  have : w.heap[a.block]? = none := by simp; omega
  unfold World.cell? at h
  rw [this] at h
  simp at h
theorem below_cell {w w' : World} (h : Below w.heap.size w w') {a : Addr} {v : Value} (hc : w.cell? a = some v) : w'.cell? a = some v := by
  rw [h.cell (cell_lt hc)]; exact hc
theorem below_trans {a b c : World} (h : Below a.heap.size a b) (k : Below b.heap.size b c) : Below a.heap.size a c := h.trans (k.mono h.size)
theorem below_drew (w : World) : Below w.heap.size w w.drew := ⟨rfl, rfl, rfl, Nat.le_refl _, fun _ _ => rfl⟩

/-- a truth value, and a world in which nothing of what was there has turned -/
def BoolB (r : Bool) (w : World) (e : Ending) (w' : World) : Prop := e = .returned (.bool r) ∧ Below w.heap.size w w'
/-- a number, likewise -/
def IntB (r : Int) (w : World) (e : Ending) (w' : World) : Prop := e = .returned (.int .i64 r) ∧ Below w.heap.size w w'
/-- a text, likewise -/
def StrB (r : ByteArray) (w : World) (e : Ending) (w' : World) : Prop := e = .returned (.string r) ∧ Below w.heap.size w w'

theorem at_vals {b p : Nat} {t : Int} {k s : Nat} {o : Int} (h : tabAt b p = (t, k, s, o)) (hb : b < 9) (hp : p < 11) (w : World) :
    Calls Tryd.prog 83 #[.int .i64 b, .int .i64 p] w fun e w' => e = .returned (.agg #[.int .i64 t, .string (catB k), .string (scrB s), .int .i64 o]) ∧ Below w.heap.size w w' := by
  have := at_any b p hb hp w
  rw [h] at this
  exact this

theorem field0 (a b c d : Value) (w : World) : (Instr.field 92 (.agg #[a, b, c, d]) 0).run Tryd.prog w = .ok a w := by kernel_rfl
theorem field1 (a b c d : Value) (w : World) : (Instr.field 92 (.agg #[a, b, c, d]) 1).run Tryd.prog w = .ok b w := by kernel_rfl
theorem field2 (a b c d : Value) (w : World) : (Instr.field 92 (.agg #[a, b, c, d]) 2).run Tryd.prog w = .ok c w := by kernel_rfl
theorem field3 (a b c d : Value) (w : World) : (Instr.field 92 (.agg #[a, b, c, d]) 3).run Tryd.prog w = .ok d w := by kernel_rfl

set_option maxHeartbeats 400000 in
theorem clo1_any (c : Int) (i B : Nat) (hi9 : i < 9) (w : World) (hc : w.cell? ⟨B, 0, none⟩ = some (.int .i64 c)) :
    Calls Tryd.prog 82 #[.int .i64 i, .pointer (some ⟨B, 0, none⟩)] w (BoolB (decide (c ≤ hi i 10)) w) := by
  obtain ⟨⟨t, k, s, o⟩, hr⟩ : ∃ r, tabAt i 10 = r := ⟨_, rfl⟩
  rw [show hi i 10 = t by unfold hi; rw [hr]]
  have HAt := Lib.hid (fun w1 => at_vals hr hi9 (by decide) w1)
  have hf0 := field0
  clear hr
  go_enter Tryd.func82, Tryd.ntmps82
  go_wp2_with fail
  go_region_held3 (fun w' => w'.cell? ⟨B, 0, none⟩ = some (.int .i64 c) ∧ Below w.heap.size w w') (first | exact ⟨by simpa using hc, below_drew _⟩ | (go_split_ands; exact ⟨below_cell hb1 (by assumption), below_trans (by assumption) hb1⟩))
    (first | (go_at_call 83; refine (HAt.out _).mono ?_; rintro e w1 ⟨rfl, hb1⟩))
  go_wp2_with fail
  go_ret
  go_split_ands
  exact ⟨rfl, by assumption⟩

set_option maxHeartbeats 400000 in
theorem clo2_any (c : Int) (b p B C : Nat) (hb9 : b < 9) (hp11 : p < 11) (w : World) (hc : w.cell? ⟨B, 0, none⟩ = some (.int .i64 c)) (hd : w.cell? ⟨C, 0, none⟩ = some (.int .i64 b)) :
    Calls Tryd.prog 84 #[.int .i64 p, .pointer (some ⟨B, 0, none⟩), .pointer (some ⟨C, 0, none⟩)] w (BoolB (decide (c ≤ hi b p)) w) := by
  obtain ⟨⟨t, k, s, o⟩, hr⟩ : ∃ r, tabAt b p = r := ⟨_, rfl⟩
  rw [show hi b p = t by unfold hi; rw [hr]]
  have HAt := Lib.hid (fun w1 => at_vals hr hb9 hp11 w1)
  have hf0 := field0
  clear hr
  go_enter Tryd.func84, Tryd.ntmps84
  go_wp2_with fail
  go_region_held3 (fun w' => w'.cell? ⟨B, 0, none⟩ = some (.int .i64 c) ∧ w'.cell? ⟨C, 0, none⟩ = some (.int .i64 b) ∧ Below w.heap.size w w') (first | exact ⟨by simpa using hc, by simpa using hd, below_drew _⟩ | (go_split_ands; exact ⟨below_cell hb1 (by assumption), below_cell hb1 (by assumption), below_trans (by assumption) hb1⟩))
    (first | (go_at_call 83; refine (HAt.out _).mono ?_; rintro e w1 ⟨rfl, hb1⟩))
  go_wp2_with fail
  go_ret
  go_split_ands
  exact ⟨rfl, by assumption⟩

/-- the first number for which something holds -/
def FirstPost (h : Nat → Bool) (n : Nat) (w : World) (e : Ending) (w' : World) : Prop := ∃ i : Nat, i < n ∧ h i = true ∧ (i = 0 ∨ h (i - 1) = false) ∧ e = .returned (.int .i64 i) ∧ Below w.heap.size w w'

set_option maxHeartbeats 1000000 in
theorem first_any (g : Nat) (lb : Array Value) (h : Nat → Bool) (n : Nat) (w : World) (h1 : 1 ≤ n) (h2 : n ≤ 1000) (hl : h (n - 1) = true)
    (eg : ∀ args w, (callFunc g args).run Tryd.prog w = .ok (.enter g args) w)
    (hC : ∀ i, i < n → ∀ w1, Below w.heap.size w w1 → Calls Tryd.prog g (#[.int .i64 i] ++ lb) w1 (BoolB (h i) w1)) :
    Calls Tryd.prog 81 #[.int .i64 n, .func (.func g) #[] lb] w (FirstPost h n w) := by
  have Hl := Lib.hid hl
  have HC := Lib.hid hC
  clear hl hC
  go_enter Tryd.func81, Tryd.ntmps81
  go_wp2_with fail
  go_loopw [5, 6] (fun lv uv wr => ∃ l u : Nat, l ≤ u ∧ u < n ∧ lv = .int .i64 l ∧ uv = .int .i64 u ∧ Hid (h u = true) ∧ Hid (l = 0 ∨ h (l - 1) = false) ∧ Below w.heap.size w wr) (fun lv uv _ => (intOf uv - intOf lv).toNat)
  case atStart => exact ⟨0, n - 1, Nat.zero_le _, by omega, rfl, by rw [Int.natCast_sub h1]; rfl, Hl, Lib.hid (Or.inl rfl), Below.refl _ _⟩
  case round =>
    obtain ⟨l, u, hlu, hun, rfl, rfl, HU, HL, hb⟩ := hrel
    by_cases hlt : l < u
    · obtain ⟨m, hm⟩ : ∃ m : Nat, ((l : Int) + u) / 2 = m := ⟨(l + u) / 2, by omega⟩
      have hm1 : l ≤ m := by omega
      have hm2 : m < u := by omega
      have hcm := HC.out m (by omega) _ hb
      cases hv : h m with
      | true =>
        rw [hv] at hcm
        have Hv := Lib.hid hv
        have Hcm := Lib.hid hcm
        clear hv hcm
        go_wp2_with fail
        refine Hcm.out.mono ?_
        rintro e w2 ⟨rfl, hb2⟩
        go_wp2_with fail
        go_roundw
        case rel => exact ⟨l, m, by omega, by omega, rfl, rfl, Hv, HL, below_trans hb hb2⟩
        case measure => simp [intOf]; omega
      | false =>
        rw [hv] at hcm
        have Hv := Lib.hid (show m + 1 = 0 ∨ h (m + 1 - 1) = false from Or.inr hv)
        have Hcm := Lib.hid hcm
        clear hv hcm
        go_wp2_with fail
        refine Hcm.out.mono ?_
        rintro e w2 ⟨rfl, hb2⟩
        go_wp2_with fail
        go_roundw
        case rel => exact ⟨m + 1, u, by omega, by omega, by go_num, rfl, HU, Hv, below_trans hb hb2⟩
        case measure => simp [intOf]; omega
    · have hle : u ≤ l := by omega
      go_wp2_with fail
      go_ret
      obtain rfl : l = u := by omega
      exact ⟨l, hun, HU.out, HL.out, rfl, hb⟩
end Go.Proofs.YtgdhhpbpbkgmeaaDoor.ucdw
