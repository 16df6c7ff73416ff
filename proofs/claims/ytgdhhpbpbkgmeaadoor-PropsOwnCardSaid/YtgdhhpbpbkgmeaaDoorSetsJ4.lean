/- The contract of the document's New; sets that are the document's joins, plainly. -/
import Derived.Test.YtgdhhpbpbkgmeaaDoorSetsJ30
namespace Go.Proofs.YtgdhhpbpbkgmeaaDoor.setw
open Go Go.RowKit Go.Proofs.YtgdhhpbpbkgmeaaDoor.bulk Go.Proofs.YtgdhhpbpbkgmeaaDoor.ucdp Go.Proofs.YtgdhhpbpbkgmeaaDoor.ucdw Go.Proofs.YtgdhhpbpbkgmeaaDoor.setp

theorem qB_union (a b : List Rg) (c : Int) : qB 0 a b c = true ↔ Has a c ∨ Has b c := by
  unfold qB inP
  simp [hasB_iff]
theorem qB_meet (a b : List Rg) (c : Int) : qB 1 a b c = true ↔ Has a c ∧ Has b c := by
  unfold qB inP
  simp [hasB_iff]
theorem qB_not (a b : List Rg) (c : Int) : qB 2 a b c = true ↔ ¬ Has a c := by
  unfold qB inP
  rw [← hasB_iff]
  simp
theorem rs_nil (w : World) : RsAt w (.slice none 0 0) [] := ⟨fun r hr => (by cases hr), Or.inl ⟨rfl, none, 0, rfl, by omega⟩⟩
/-- a set in the document's words: the ranges, in new memory -/
def DocS (q : Int → Prop) (w : World) (e : Ending) (w' : World) : Prop := ∃ v S, e = .returned v ∧ Canon S ∧ (∀ c, Has S c ↔ q c) ∧ OwnR w' w.heap.size v S ∧ Below w.heap.size w w'
theorem rnew_any (v : Value) (l : List Rg) (most : Int) (w : World) (hv : RsAt w v l) (hl : l.length ≤ 100000) (h1 : -9223372036854775808 ≤ most) (h2 : most ≤ 9223372036854775807) :
    Calls Tryd.prog 14 #[v, .int .i64 most] w (DocS (fun c => Has l c ∧ 0 ≤ c ∧ c ≤ min most 1114111) w) := by
  have HJ := Lib.hid (join0_any v (.slice none 0 0) l [] most w hv (rs_nil w) hl (by simp) h1 h2)
  clear hv
  go_enter Tryd.func14, Tryd.ntmps14
  go_wp2_with fail
  refine HJ.out.mono ?_
  rintro e w1 ⟨v1, S, rfl, hS, hh, ho, hb⟩
  have HS := Lib.hid hS
  have HH := Lib.hid hh
  have HO := Lib.hid ho
  clear hS hh ho
  go_wp2_with fail
  go_ret
  refine ⟨_, S, rfl, HS.out, fun c => ?_, HO.out, hb⟩
  rw [HH.out, qB_union]
  constructor
  · rintro ⟨a, b, c | c⟩
    · exact ⟨c, a, b⟩
    · exact absurd c (has_nil _)
  · rintro ⟨a, b, c⟩
    exact ⟨b, c, Or.inl a⟩
theorem j_union {S T U W l1 l2 : List Rg} (hU : Canon U) (hW : Canon W) (hs : ∀ c, Has S c ↔ Has l1 c ∧ 0 ≤ c ∧ c ≤ min 1114111 1114111) (ht : ∀ c, Has T c ↔ Has l2 c ∧ 0 ≤ c ∧ c ≤ min 1114111 1114111) (hu : ∀ c, Has U c ↔ Has S c ∨ Has T c) (hw : ∀ c, Has W c ↔ 0 ≤ c ∧ c ≤ min 1114111 1114111 ∧ qB 0 l1 l2 c = true) : U = W :=
  canon_ext hU hW fun c => by
    rw [hu, hw, qB_union, hs, ht]
    by_cases a : Has l1 c <;> by_cases b : Has l2 c <;> simp [a, b]
theorem j_meet {S T U W l1 l2 : List Rg} (hU : Canon U) (hW : Canon W) (hs : ∀ c, Has S c ↔ Has l1 c ∧ 0 ≤ c ∧ c ≤ min 1114111 1114111) (ht : ∀ c, Has T c ↔ Has l2 c ∧ 0 ≤ c ∧ c ≤ min 1114111 1114111) (hu : ∀ c, Has U c ↔ Has S c ∧ Has T c) (hw : ∀ c, Has W c ↔ 0 ≤ c ∧ c ≤ min 1114111 1114111 ∧ qB 1 l1 l2 c = true) : U = W :=
  canon_ext hU hW fun c => by
    rw [hu, hw, qB_meet, hs, ht]
    by_cases a : Has l1 c <;> by_cases b : Has l2 c <;> simp [a, b]
theorem j_not {S U W l1 : List Rg} {most : Int} (hU : Canon U) (hW : Canon W) (hs : ∀ c, Has S c ↔ Has l1 c ∧ 0 ≤ c ∧ c ≤ min 1114111 1114111) (hu : ∀ c, Has U c ↔ 0 ≤ c ∧ c ≤ min most 1114111 ∧ ¬ Has S c) (hw : ∀ c, Has W c ↔ 0 ≤ c ∧ c ≤ min most 1114111 ∧ qB 2 l1 [] c = true) : U = W :=
  canon_ext hU hW fun c => by
    rw [hu, hw, qB_not, hs]
    constructor
    · rintro ⟨a, b, d⟩
      exact ⟨a, b, fun e => d ⟨e, a, by omega⟩⟩
    · rintro ⟨a, b, d⟩
      exact ⟨a, b, fun e => d e.1⟩
end Go.Proofs.YtgdhhpbpbkgmeaaDoor.setw
