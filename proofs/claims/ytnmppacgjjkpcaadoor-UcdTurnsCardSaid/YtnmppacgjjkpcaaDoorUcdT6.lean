/- The walk of the law UcdTurns, put together. -/
import Derived.Test.YtnmppacgjjkpcaaDoorUcdT1
import Derived.Test.YtnmppacgjjkpcaaDoorUcdT2
import Derived.Test.YtnmppacgjjkpcaaDoorUcdT3
import Derived.Test.YtnmppacgjjkpcaaDoorUcdT4
import Derived.Test.YtnmppacgjjkpcaaDoorUcdT5
namespace Go.Proofs.YtnmppacgjjkpcaaDoor.ucdw
open Go Go.RowKit Go.Proofs.YtnmppacgjjkpcaaDoor.bulk Go.Proofs.YtnmppacgjjkpcaaDoor.ucdp

/-- with one other case: that one's is the number itself -/
def turnB (c : Int) (u : Bool) : Bool := (u && (c == 75 || c == 107 || c == 8490 || c == 83 || c == 115 || c == 383 || c == 181 || c == 924 || c == 956 || c == 931 || c == 962 || c == 963)) || (match othersP c u with
  | [] => true
  | [x] => othersP x u == [c] && !(x == c)
  | _ => false)
theorem turn_all : ((List.range 1104).all fun i => turnB (i : Int) true && turnB (i : Int) false) = true := by decide +kernel
theorem turns_law (c : Int) (u : Bool) (w : World) (h1 : -9223372036854775808 ≤ c) (h2 : c ≤ 9223372036854775807) (hT : Tab3 w) : Calls Tryd.prog 5 #[.int .i64 c, .bool u] w (BoolB true w) := by
  obtain ⟨l, hl⟩ : ∃ l, othersP c u = l := ⟨_, rfl⟩
  cases l with
  | nil => exact turns_none c u w h1 h2 hl hT
  | cons x l =>
    have hx := others_head hl
    have := others_all (P := turnB) turn_all (by decide +kernel) (by decide +kernel) (c := c) (u := u) (by rw [hl]; simp)
    unfold turnB at this
    rw [hl, Bool.or_eq_true, Bool.and_eq_true] at this
    rcases this with ⟨rfl, h⟩ | h
    · simp only [Bool.or_eq_true, beq_iff_eq] at h
      rcases h with ((((((((((rfl | rfl) | rfl) | rfl) | rfl) | rfl) | rfl) | rfl) | rfl) | rfl) | rfl) | rfl
      · exact turns_75 w hT
      · exact turns_107 w hT
      · exact turns_8490 w hT
      · exact turns_83 w hT
      · exact turns_115 w hT
      · exact turns_383 w hT
      · exact turns_181 w hT
      · exact turns_924 w hT
      · exact turns_956 w hT
      · exact turns_931 w hT
      · exact turns_962 w hT
      · exact turns_963 w hT
    · cases l with
      | nil =>
        simp only [Bool.and_eq_true, beq_iff_eq, Bool.not_eq_true'] at h
        exact turns_one c x u w h1 h2 hx.1 hx.2 hl h.1 h.2 hT
      | cons y l => cases h
end Go.Proofs.YtnmppacgjjkpcaaDoor.ucdw
