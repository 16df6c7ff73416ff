/- A row of operations whose values the kernel works out at once: where none of them is guarded, turns the world, or calls. -/
import Derived.Test.YtgdhhpbpbkgmeaaDoorRows
import Derived.WalkKit
import Derived.ProofKit
import Derived.OpenShut
import Derived.Outline
import Derived.Lib.Hide
namespace Go.Proofs.YtgdhhpbpbkgmeaaDoor.bulk
open Go Go.RowKit

/-- the frame behind operations, each of which hands back a value; as it stood where one doesn't -/
def acts (P : Program) (w : World) : List Oper → Act → Act
  | [], a => a
  | o :: r, a => match (execOp a.eval o).run P w with
    | .ok (.value v) _ => acts P w r (a.put o.dst v)
    | _ => a
/-- the operations, one behind the other: none guarded, each hands back a value -/
def bulk (P : Program) : List Oper → Act → World → Option (Act × World)
  | [], a, w => some (a, w)
  | o :: r, a, w => match o.guard with
    | some _ => none
    | none => match (execOp a.eval o).run P w with
      | .ok (.value v) w' => bulk P r (a.put o.dst v) w'
      | _ => none
theorem wpList_value {P : Program} {ops : Array Oper} {Q : Exit → Act → World → Prop} {rest : List Oper} {o : Oper} {a : Act} {w w' : World} {v : Value} (hg : o.guard = none)
    (h : (execOp a.eval o).run P w = .ok (.value v) w') (hr : wpList P ops Q rest (a.put o.dst v) w') : wpList P ops Q (o :: rest) a w :=
  wpList_plain hg fun K hK => by
    unfold Oper.wp
    rw [h]
    exact hK _ _ hr
theorem wpList_bulk {P : Program} {ops : Array Oper} {Q : Exit → Act → World → Prop} (l : List Oper) {rest : List Oper} {a' : Act} {w' : World} (hr : wpList P ops Q rest a' w') :
    ∀ (a : Act) (w : World), bulk P l a w = some (a', w') → wpList P ops Q (l ++ rest) a w := by
  induction l with
  | nil =>
    intro a w h
    simp only [bulk, Option.some.injEq, Prod.mk.injEq] at h
    obtain ⟨rfl, rfl⟩ := h
    exact hr
  | cons o r ih =>
    intro a w h
    unfold bulk at h
    split at h
    · cases h
    · rename_i hg
      split at h
      · rename_i v w1 hv
        exact wpList_value hg hv (ih _ _ h)
      · cases h
theorem wpList_bulk_n {P : Program} {ops : Array Oper} {Q : Exit → Act → World → Prop} {l : List Oper} (n : Nat) {a a' : Act} {w w' : World} (h : bulk P (l.take n) a w = some (a', w')) (hr : wpList P ops Q (l.drop n) a' w') :
    wpList P ops Q l a w := by
  have := wpList_bulk (l.take n) hr a w h
  rwa [List.take_append_drop] at this
theorem wpList_bulk_w {P : Program} {ops : Array Oper} {Q : Exit → Act → World → Prop} {l : List Oper} (n : Nat) {a : Act} {w : World} (h : bulk P (l.take n) a w = some (acts P w (l.take n) a, w))
    (hr : wpList P ops Q (l.drop n) (acts P w (l.take n) a) w) : wpList P ops Q l a w := wpList_bulk_n n h hr
theorem wpList_bulk_x {P : Program} {ops : Array Oper} {Q : Exit → Act → World → Prop} {l : List Oper} (n : Nat) {a : Act} {w : World} (w' : World) (h : bulk P (l.take n) a w = some (acts P w (l.take n) a, w'))
    (hr : wpList P ops Q (l.drop n) (acts P w (l.take n) a) w') : wpList P ops Q l a w := wpList_bulk_n n h hr
theorem eval_put_same {a : Act} {d : Nat} {v : Value} (h : d < a.tmps.size) : (a.put (some d) v).eval (.tmp d) = v := by
  simp [Act.put, Act.eval, Array.getD, h]
theorem eval_put_other {a : Act} {d t : Nat} {v : Value} (h : d ≠ t) : (a.put (some d) v).eval (.tmp t) = a.eval (.tmp t) := by
  unfold Act.put Act.eval
  simp only [Array.getD_eq_getD_getElem?, Array.getElem?_setIfInBounds_ne h]
theorem tmps_of {a : Act} {t n : Nat} {v : Value} (hz : a.tmps.size = n) (ht : t < n) (h : a.eval (.tmp t) = v) : a.tmps[t]'(by omega) = v := by
  unfold Act.eval at h
  simpa [Array.getD, hz, ht] using h
theorem size_put {a : Act} {d : Option Nat} {v : Value} : (a.put d v).tmps.size = a.tmps.size := by
  cases d <;> simp [Act.put]
theorem run_move {P : Program} {w : World} {ρ : Operand → Value} {o : Oper} {x : Operand} {v : Value} (ho : o.op = .move x) (hv : ρ x = v) : (execOp ρ o).run P w = .ok (.value v) w := by
  unfold execOp; rw [ho]; subst hv; rfl
theorem run_index {P : Program} {w : World} {ρ : Operand → Value} {o : Oper} {T : TypeId} {x i : Operand} {vx vi v : Value} (ho : o.op = .index T x i) (hx : ρ x = vx) (hi : ρ i = vi) (hr : (Instr.index T vx vi).run P w = .ok v w) :
    (execOp ρ o).run P w = .ok (.value v) w := by
  unfold execOp; rw [ho]; subst hx; subst hi
  simp only
  show ((Instr.index T (ρ x) (ρ i)) >>= fun s => pure (Next.value s)).run P w = _
  simp [hr]
theorem run_assign {P : Program} {w : World} {ρ : Operand → Value} {o : Oper} {x : Operand} {v : Value} (ho : o.op = .assign x) (hv : ρ x = v) : (execOp ρ o).run P w = .ok (.value v) w := by
  unfold execOp; rw [ho]; subst hv; rfl
theorem getD_of_eval {a : Act} {t : Nat} {v : Value} (h : a.eval (.tmp t) = v) : a.tmps.getD t undef = v := h
end Go.Proofs.YtgdhhpbpbkgmeaaDoor.bulk
