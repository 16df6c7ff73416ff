/- The contract of package ucd's find: what the document's table says. -/
import Derived.Test.YtgdhhpbpbkgmeaaDoorUcdW2
import Derived.Shelf.Abstract
namespace Go.Proofs.YtgdhhpbpbkgmeaaDoor.ucdw
open Go Go.RowKit Go.Proofs.YtgdhhpbpbkgmeaaDoor.bulk Go.Proofs.YtgdhhpbpbkgmeaaDoor.ucdp

theorem below_alloc (w : World) (o : Obj) : Below w.heap.size w (w.alloc o) := (Below.refl _ _).alloc (Nat.le_refl _) _

/-- a row whose category, script and shift are these -/
def RowP (k : Nat × Nat × Int) (w : World) (e : Ending) (w' : World) : Prop := ∃ t : Int, e = .returned (.agg #[.int .i64 t, .string (catB k.1), .string (scrB k.2.1), .int .i64 k.2.2]) ∧ Below w.heap.size w w'

/-- what is found by two closures: the place, and the captured cells as they were -/
def Found1 (c : Int) (B : Nat) (w : World) (e : Ending) (w' : World) : Prop := ∃ i : Nat, i < 9 ∧ c ≤ hi i 10 ∧ (i = 0 ∨ hi (i - 1) 10 < c) ∧ e = .returned (.int .i64 i) ∧ Below w.heap.size w w' ∧ w'.cell? ⟨B, 0, none⟩ = some (.int .i64 c)
def Found2 (c : Int) (b C : Nat) (w : World) (e : Ending) (w' : World) : Prop := ∃ i : Nat, i < 11 ∧ c ≤ hi b i ∧ (i = 0 ∨ hi b (i - 1) < c) ∧ e = .returned (.int .i64 i) ∧ Below w.heap.size w w' ∧ w'.cell? ⟨C, 0, none⟩ = some (.int .i64 b)
theorem first1 (c : Int) (B : Nat) (w : World) (h2 : c ≤ 9223372036854775807) (hc : w.cell? ⟨B, 0, none⟩ = some (.int .i64 c)) :
    Calls Tryd.prog 81 #[.int .i64 (9 : Int), .func (.func 82) #[] #[.pointer (some ⟨B, 0, none⟩)]] w (Found1 c B w) := by
  refine (first_any 82 #[.pointer (some ⟨B, 0, none⟩)] (fun i => decide (c ≤ hi i 10)) 9 w (by decide) (by decide) (by rw [hi_last]; simpa using h2) (enters_of Tryd.func82 (by kernel_rfl) rfl)
    (fun i hi w1 hb => clo1_any c i B hi w1 (below_cell hb hc))).mono fun e w' ⟨i, h3, h4, h5, h6, h7⟩ => ⟨i, h3, by simpa using h4, ?_, h6, h7, below_cell h7 hc⟩
  rcases h5 with h5 | h5
  · exact Or.inl h5
  · exact Or.inr (by simpa using h5)
theorem first2 (c : Int) (b B C : Nat) (w : World) (hb9 : b < 9) (h2 : c ≤ hi b 10) (hc : w.cell? ⟨B, 0, none⟩ = some (.int .i64 c)) (hd : w.cell? ⟨C, 0, none⟩ = some (.int .i64 b)) :
    Calls Tryd.prog 81 #[.int .i64 (11 : Int), .func (.func 84) #[] #[.pointer (some ⟨B, 0, none⟩), .pointer (some ⟨C, 0, none⟩)]] w (Found2 c b C w) := by
  refine (first_any 84 #[.pointer (some ⟨B, 0, none⟩), .pointer (some ⟨C, 0, none⟩)] (fun i => decide (c ≤ hi b i)) 11 w (by decide) (by decide) (by simpa using h2) (enters_of Tryd.func84 (by kernel_rfl) rfl)
    (fun i hi w1 hb => clo2_any c b i B C hb9 hi w1 (below_cell hb hc) (below_cell hb hd))).mono fun e w' ⟨i, h3, h4, h5, h6, h7⟩ => ⟨i, h3, by simpa using h4, ?_, h6, h7, below_cell h7 hd⟩
  rcases h5 with h5 | h5
  · exact Or.inl h5
  · exact Or.inr (by simpa using h5)
/-- the row at the places that are found -/
theorem row_found {c : Int} {b p : Nat} {t : Int} {k s : Nat} {o : Int} (h1 : -9223372036854775808 ≤ c) (hb : b < 9) (hp : p < 11) (hb0 : b = 0 ∨ hi (b - 1) 10 < c) (hp0 : p = 0 ∨ hi b (p - 1) < c) (hc : c ≤ hi b p) (ht : tabAt b p = (t, k, s, o)) :
    cls c = (k, s, o) := by
  rw [cls_at hb hp ?_ hc, ht]
  unfold lo
  split
  · split
    · omega
    · rcases hb0 with h | h
      · contradiction
      · exact h
  · rcases hp0 with h | h
    · contradiction
    · exact h

set_option maxHeartbeats 1000000 in
theorem find_any (c : Int) (w : World) (h1 : -9223372036854775808 ≤ c) (h2 : c ≤ 9223372036854775807) : Calls Tryd.prog 73 #[.int .i64 c] w (RowP (cls c) w) := by
  have HF := Lib.hid (fun B w1 hc => first1 c B w1 h2 hc)
  have HG := Lib.hid (fun b B C w1 hb9 hh hc hd => first2 c b B C w1 hb9 hh hc hd)
  have HA := Lib.hid (fun b p t k s o (ht : tabAt b p = (t, k, s, o)) hb hp w1 => at_vals (t := t) (k := k) (s := s) (o := o) ht hb hp w1)
  have H1 := Lib.hid h1
  clear h1 h2
  go_enter Tryd.func73, Tryd.ntmps73
  go_wp2_with fail
  refine (HF.out w.heap.size _ (by simp)).mono ?_
  rintro e w1 ⟨b, hb9, hbt, hbf, rfl, hb1, hc1⟩
  have Hbt := Lib.hid hbt
  have Hbf := Lib.hid hbf
  clear hbt hbf
  go_wp2_with fail
  refine (HG.out b w.heap.size w1.heap.size _ hb9 Hbt.out (below_cell ((Below.refl _ _).alloc (Nat.le_refl _) _) hc1) (by simp)).mono ?_
  rintro e w2 ⟨p, hp11, hpt, hpf, rfl, hb2, hd2⟩
  have hw2 := below_trans hb1 (below_trans (below_alloc w1 _) hb2)
  obtain ⟨⟨t, k, s, o⟩, hr⟩ : ∃ r, tabAt b p = r := ⟨_, rfl⟩
  have Hk := Lib.hid (row_found H1.out hb9 hp11 Hbf.out hpf hpt hr)
  have Hat := Lib.hid (HA.out b p t k s o hr hb9 hp11)
  clear hpt hpf hr hb1 hb2
  go_wp2_with fail
  refine (Hat.out _).mono ?_
  rintro e w3 ⟨rfl, hb3⟩
  have hw3 := below_trans hw2 hb3
  have c0 := (hw3.cell (p := ⟨w.heap.size + 1, 0, none⟩) (by simp)).trans (show _ = some (.int .i64 0) by simp)
  have c1 := (hw3.cell (p := ⟨w.heap.size + 1, 1, none⟩) (by simp)).trans (show _ = some (.string ⟨#[]⟩) by simp)
  have c2 := (hw3.cell (p := ⟨w.heap.size + 1, 2, none⟩) (by simp)).trans (show _ = some (.string ⟨#[]⟩) by simp)
  have c3 := (hw3.cell (p := ⟨w.heap.size + 1, 3, none⟩) (by simp)).trans (show _ = some (.int .i64 0) by simp)
  have f0 := (hw3.frozen (p := ⟨w.heap.size + 1, 0, none⟩) (by simp)).trans (show _ = false by simp)
  have f1 := (hw3.frozen (p := ⟨w.heap.size + 1, 1, none⟩) (by simp)).trans (show _ = false by simp)
  have f2 := (hw3.frozen (p := ⟨w.heap.size + 1, 2, none⟩) (by simp)).trans (show _ = false by simp)
  have f3 := (hw3.frozen (p := ⟨w.heap.size + 1, 3, none⟩) (by simp)).trans (show _ = false by simp)
  have hB := below_trans (below_trans (below_alloc w _) (below_alloc _ _)) hw3
  clear hw2 hw3 hb3 hd2 hc1
  go_wp2_with fail
  refine bodyPost_ret (v := .agg #[.int .i64 t, .string (catB k), .string (scrB s), .int .i64 o]) (by simp [results, Tryd.results73, go_sem, c0, c1, c2, c3]) rfl ⟨t, by rw [Hk.out], ?_⟩
  exact (((hB.setCell (by simp) _).setCell (by simp) _).setCell (by simp) _).setCell (by simp) _
end Go.Proofs.YtgdhhpbpbkgmeaaDoor.ucdw
