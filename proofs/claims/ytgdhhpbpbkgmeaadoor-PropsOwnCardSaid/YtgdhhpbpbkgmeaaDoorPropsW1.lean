/- The contracts of strings.HasPrefix, of package props' isCased and of the closures that Property hands on. -/
import Derived.Test.YtgdhhpbpbkgmeaaDoorPropsPure
import Derived.Test.YtgdhhpbpbkgmeaaDoorUcdC
import Derived.Deep.QuietTactic
import Derived.BigQuiet
import Derived.Deep.RegionHeld3
import Derived.Sort.Walk0
namespace Go.Proofs.YtgdhhpbpbkgmeaaDoor.prw
open Go Go.RowKit Go.Proofs.YtgdhhpbpbkgmeaaDoor.bulk Go.Proofs.YtgdhhpbpbkgmeaaDoor.ucdp Go.Proofs.YtgdhhpbpbkgmeaaDoor.ucdw Go.Proofs.YtgdhhpbpbkgmeaaDoor.setp Go.Proofs.YtgdhhpbpbkgmeaaDoor.prp

/-- a truth, in a world in which nothing of what was there has turned -/
def BolB (r : Bool) (w : World) (e : Ending) (w' : World) : Prop := e = .returned (.bool r) ∧ Below w.heap.size w w'
/-- a truth; the world is as it was but for draws -/
def BolQ (r : Bool) (w : World) (e : Ending) (w' : World) : Prop := e = .returned (.bool r) ∧ ∃ q, w' = w.drewN q
theorem bolQ_of {r s : Bool} {w : World} {q : Nat} (h : s = r) : BolQ r w (.returned (.bool s)) (w.drewN q) := by
  subst h
  exact ⟨rfl, q, rfl⟩

theorem below_dn {B : Nat} {w w' : World} (h : Below B w w') (n : Nat) : Below B w (w'.drewN n) := ⟨h.os, h.tape, h.output, h.size, h.block⟩
theorem beqS (a b : ByteArray) : (a.toList == b.toList) = decide (a = b) := by
  rw [Lib.toList_data, Lib.toList_data]
  by_cases h : a = b
  · subst h; simp
  · rw [decide_eq_false h, beq_eq_false_iff_ne]
    intro e
    exact h (by
      obtain ⟨x⟩ := a
      obtain ⟨y⟩ := b
      congr 1
      exact Array.toList_inj.1 e)
theorem prefix_lite (s t : ByteArray) (w : World) : Calls Tryd.prog 75 #[.string s, .string t] w (BolQ (pre s t) w) := by
  have HP := Lib.hid (show (decide (t.size ≤ s.size) && decide (s.extract 0 t.size = t)) = pre s t from rfl)
  by_cases h : t.size ≤ s.size
  · have hi : (t.size : Int) ≤ (s.size : Int) := by omega
    go_enter Tryd.func75, Tryd.ntmps75
    go_wp2_with fail
    go_ret
    exact bolQ_of (q := 0) (by rw [beqS, ← HP.out]; simp [h])
  · have hi : ¬ (t.size : Int) ≤ (s.size : Int) := by omega
    go_enter Tryd.func75, Tryd.ntmps75
    go_wp2_with fail
    go_ret
    exact bolQ_of (q := 0) (by rw [← HP.out]; simp [h])
theorem prefix_any (s t : ByteArray) (w : World) : Calls Tryd.prog 58 #[.string s, .string t] w (BolQ (pre s t) w) := by
  have HL := Lib.hid (prefix_lite s t w)
  go_enter Tryd.func58, Tryd.ntmps58
  go_wp2_with fail
  refine HL.out.mono ?_
  rintro e w1 ⟨rfl, q, rfl⟩
  go_wp2_with fail
  go_ret
  exact bolQ_of rfl
theorem eqS (a b : ByteArray) : a.toList = b.toList ↔ a = b := by
  rw [← beq_iff_eq, beqS, decide_eq_true_iff]
theorem cased_any (s : ByteArray) (w : World) : Calls Tryd.prog 61 #[.string s] w (BolQ (cased s) w) := by
  have HP := Lib.hid (show (decide (s = ⟨#[76, 117]⟩) || decide (s = ⟨#[76, 108]⟩)) = cased s from rfl)
  have f1 : s.toList = [76, 117] ↔ s = ⟨#[76, 117]⟩ := by rw [← eqS, show (⟨#[76, 117]⟩ : ByteArray).toList = [76, 117] from Lib.toList_data _]
  have f2 : s.toList = [76, 108] ↔ s = ⟨#[76, 108]⟩ := by rw [← eqS, show (⟨#[76, 108]⟩ : ByteArray).toList = [76, 108] from Lib.toList_data _]
  have F1 := Lib.hid f1
  have F2 := Lib.hid f2
  clear f1 f2
  by_cases h1 : s.toList = [76, 117]
  · have HR := Lib.hid (show true = cased s by rw [← HP.out, decide_eq_true (F1.out.1 h1)]; rfl)
    go_enter Tryd.func61, Tryd.ntmps61
    go_wp2_with fail
    go_ret
    exact bolQ_of (q := 0) HR.out
  · by_cases h2 : s.toList = [76, 108]
    · have HR := Lib.hid (show true = cased s by rw [← HP.out, decide_eq_true (F2.out.1 h2), Bool.or_true])
      go_enter Tryd.func61, Tryd.ntmps61
      go_wp2_with fail
      go_ret
      exact bolQ_of (q := 0) HR.out
    · have HR := Lib.hid (show false = cased s by rw [← HP.out, decide_eq_false (fun h => h1 (F1.out.2 h)), decide_eq_false (fun h => h2 (F2.out.2 h))]; rfl)
      have b1 : (s.toList == [76, 117]) = false := by simp [h1]
      have b2 : (s.toList == [76, 108]) = false := by simp [h2]
      go_enter Tryd.func61, Tryd.ntmps61
      go_wp2_with fail
      go_ret
      exact bolQ_of (q := 0) HR.out

/-- the closures that Property hands on -/
theorem clo1_any (c : Int) (w : World) : Calls Tryd.prog 56 #[.int .i64 c] w (BolB true w) := by
  go_enter Tryd.func56, Tryd.ntmps56
  go_wp2_with fail
  go_ret
  exact ⟨rfl, Below.refl _ _⟩
theorem clo3_any (c : Int) (w : World) (h1 : -9223372036854775808 ≤ c) (h2 : c ≤ 9223372036854775807) : Calls Tryd.prog 60 #[.int .i64 c] w (BolB (cased (catB (cls c).1)) w) := by
  have HC := Lib.hid (category_any c w h1 h2)
  have HI := Lib.hid (fun w => cased_any (catB (cls c).1) w)
  generalize catB (cls c).1 = s at *
  generalize cased s = r at *
  clear h1 h2
  go_enter Tryd.func60, Tryd.ntmps60
  go_wp2_with fail
  refine HC.out.mono ?_
  rintro e w1 ⟨rfl, hb⟩
  go_wp2_with fail
  refine (HI.out _).mono ?_
  rintro e w2 ⟨rfl, q, rfl⟩
  go_wp2_with fail
  go_ret
  exact ⟨rfl, below_dn hb _⟩
theorem clo2_any (c : Int) (n : ByteArray) (b : Nat) (w : World) (hc : w.cell? ⟨b, 0, none⟩ = some (.string n)) (h1 : -9223372036854775808 ≤ c) (h2 : c ≤ 9223372036854775807) :
    Calls Tryd.prog 57 #[.int .i64 c, .pointer (some ⟨b, 0, none⟩)] w (BolB (pre (catB (cls c).1) n) w) := by
  have HC := Lib.hid (fun w => category_any c w h1 h2)
  have HI := Lib.hid (fun w => prefix_any (catB (cls c).1) n w)
  generalize catB (cls c).1 = s at *
  generalize pre s n = r at *
  clear h1 h2
  go_enter Tryd.func57, Tryd.ntmps57
  go_wp2_with fail
  go_region_held3 (fun w' => w'.cell? ⟨b, 0, none⟩ = some (.string n) ∧ Below w.heap.size w w') (first | exact ⟨by simpa using hc, below_drew _⟩ | (go_split_ands; exact ⟨below_cell hb1 (by assumption), below_trans (by assumption) hb1⟩) | (go_split_ands; exact ⟨by assumption, below_dn (by assumption) _⟩))
    (first | (go_at_call 59; refine (HC.out _).mono ?_; rintro e w1 ⟨rfl, hb1⟩) | (go_at_call 58; refine (HI.out _).mono ?_; rintro e w1 ⟨rfl, q1, rfl⟩))
  go_wp2_with fail
  go_ret
  go_split_ands
  exact ⟨rfl, by assumption⟩
theorem clo4_any (c : Int) (n : ByteArray) (b : Nat) (w : World) (hc : w.cell? ⟨b, 0, none⟩ = some (.string n)) (h1 : -9223372036854775808 ≤ c) (h2 : c ≤ 9223372036854775807) :
    Calls Tryd.prog 62 #[.int .i64 c, .pointer (some ⟨b, 0, none⟩)] w (BolB (decide (scrB (cls c).2.1 = n)) w) := by
  have HC := Lib.hid (fun w => script_any c w h1 h2)
  generalize scrB (cls c).2.1 = s at *
  have HB := Lib.hid (beqS s n)
  clear h1 h2
  go_enter Tryd.func62, Tryd.ntmps62
  go_wp2_with fail
  go_region_held3 (fun w' => w'.cell? ⟨b, 0, none⟩ = some (.string n) ∧ Below w.heap.size w w') (first | exact ⟨by simpa using hc, below_drew _⟩ | (go_split_ands; exact ⟨below_cell hb1 (by assumption), below_trans (by assumption) hb1⟩))
    (first | (go_at_call 63; refine (HC.out _).mono ?_; rintro e w1 ⟨rfl, hb1⟩))
  go_wp2_with fail
  go_ret
  go_split_ands
  exact ⟨by first | rfl | (simp; exact HB.out), by assumption⟩
end Go.Proofs.YtgdhhpbpbkgmeaaDoor.prw
