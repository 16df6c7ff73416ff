/- The other cases of other cases are other cases: looked up one by one. -/
import Derived.Test.YtemdleocdllmfaaDoorSetsP2
namespace Go.Proofs.YtemdleocdllmfaaDoor.setp
open Go.Proofs.YtemdleocdllmfaaDoor.ucdp

/-- other cases of other cases of c are c, or other cases of it -/
def closedB (c : Int) (u : Bool) : Bool := (othersP c u).all fun d => (othersP d u).all fun e => e == c || (othersP c u).contains e
theorem closed_all : ((List.range 1104).all fun i => closedB (i : Int) true && closedB (i : Int) false) = true := by decide +kernel
theorem others_closed {c d e : Int} {u : Bool} (h1 : d ∈ othersP c u) (h2 : e ∈ othersP d u) : e = c ∨ e ∈ othersP c u := by
  have h := others_all (P := closedB) closed_all (by decide +kernel) (by decide +kernel) (c := c) (u := u) (List.ne_nil_of_mem h1)
  have := List.all_eq_true.1 (List.all_eq_true.1 h d h1) e h2
  simpa using this
end Go.Proofs.YtemdleocdllmfaaDoor.setp
