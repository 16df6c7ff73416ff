/- T -/
import Derived.Deep.RegionHeld
import Derived.Lib.Hide
namespace Go.Proofs.Ytdgfclbajjjcgaa
namespace bulk
end bulk
namespace flt
end flt
namespace gpp
end gpp
namespace gpr
end gpr
namespace gpw
end gpw
namespace gqw
end gqw
namespace lawWidthsBounds
end lawWidthsBounds
namespace prd
end prd
namespace prp
end prp
namespace prw
end prw
namespace rdw
end rdw
namespace rfl10
end rfl10
namespace rfp
end rfp
namespace rfw
end rfw
namespace rpp
end rpp
namespace rpw
end rpw
namespace rsp
end rsp
namespace rsw
end rsw
namespace rtp
end rtp
namespace rtw
end rtw
namespace rwl11
end rwl11
namespace setl
end setl
namespace setp
end setp
namespace setw
end setw
namespace sq
end sq
namespace tkp
end tkp
namespace tkw
end tkw
namespace trp
end trp
namespace trw
end trw
namespace ucdp
end ucdp
namespace ucdw
end ucdw
namespace utfp
end utfp
namespace utfw
end utfw
namespace wdf
end wdf
namespace wdl
end wdl
namespace wdp
end wdp
namespace wdw
end wdw
set_option maxHeartbeats 16000000
set_option maxRecDepth 1000000
section
namespace sq
open Go Go.RowKit
def QuietJ (J : Exit → Act → World → Prop) : Prop := ∀ c a d v w, J (.panic c) (Act.put a d v) w → J (.panic c) a w
theorem quiet_then {K : Act → World → Prop} {J : Exit → Act → World → Prop} (h : QuietJ J) (d : Option Tmp) (v : Value) : ∀ c a w, Exit.then K J (.panic c) (Act.put a d v) w → Exit.then K J (.panic c) a w := fun c a w k => h c a d v w k
theorem tk {P : Program} {ops : Array Oper} {Q : Exit → Act → World → Prop} {md : Region.Mode} {S : World → Prop} {fuel : Nat} {listed : Array Bool} {a : Act} {w : World} (i : Nat) {oi : Oper} (hi : ops[i]? = some oi) (v : Value)
 (hy : ∀ w, S w → (execOp a.eval oi).run P w = .ok (.value v) w) (h : wpAnyH P md ops Q S fuel (listed.setIfInBounds i true) (a.put oi.dst v) w)
 (hs : Region.noSelect ops = true := by as_aux_lemma => kernel_rfl) (hf : Region.free md ops listed i = true := by as_aux_lemma => kernel_rfl) (hr : (Region.ready md ops listed).contains i = true := by as_aux_lemma => kernel_rfl)
 (hQ : ∀ c a w, Q (.panic c) (a.put oi.dst v) w → Q (.panic c) a w := by first | exact fun _ _ _ h => h | exact quiet_then (by assumption) _ _) (hw : Region.wanted oi (yielded ops a.tmps) = true := by rfl) (hS : S w := by assumption) : wpAnyH P md ops Q S (fuel + 1) listed a w :=
 wpAnyH_take hi hs hf hr hQ (Or.inl ⟨hw, hy⟩) hS h
theorem sA : (∀ (a : Act) (d : Option Tmp) (v : Value), a.put d v = match d with | some t => { a with tmps := a.tmps.setIfInBounds t v } | none => a) ∧ (∀ (l : List Value) (i : Nat) (v : Value), l.toArray.setIfInBounds i v = (l.set i v).toArray) ∧
 (∀ (l : List Value) (a b : Value), (a :: l).set 0 b = b :: l) ∧ (∀ (l : List Value) (a b : Value) (n : Nat), (a :: l).set (n + 1) b = a :: l.set n b) ∧ (∀ (l : List Oper) (i : Nat) (h : i < l.toArray.size), l.toArray[i] = l[i]'(by simpa using h)) ∧
 (∀ (l : List Oper) (a : Oper) (n : Nat) (h : n + 1 < (a :: l).length), (a :: l)[n + 1] = l[n]'(by simpa using h)) ∧ (∀ (l : List Oper) (a : Oper) (h : 0 < (a :: l).length), (a :: l)[0] = a) :=
 ⟨fun _ _ _ => rfl, fun _ _ _ => by simp, fun _ _ _ => rfl, fun _ _ _ _ => rfl, fun _ _ _ => rfl, fun _ _ _ _ => rfl, fun _ _ _ => rfl⟩
theorem xT {P : Program} {ops : Array Oper} {Q : Exit → Act → World → Prop} {md : Region.Mode} {S : World → Prop} {fuel : Nat} {listed : Array Bool} {a : Act} {w : World} (i : Nat) {oi : Oper} (hi : ops[i]? = some oi) (v : Value)
 (hy : ∀ w, S w → (execOp a.eval oi).run P w = .ok (.value v) w) (h : wpAnyH P md ops Q S fuel (listed.setIfInBounds i true) (a.put oi.dst v) w)
 (hs : Region.noSelect ops = true := by as_aux_lemma => kernel_rfl) (hf : Region.free md ops listed i = true := by as_aux_lemma => kernel_rfl) (hr : (Region.ready md ops listed).contains i = true := by as_aux_lemma => kernel_rfl)
 (hQ : ∀ c a w, Q (.panic c) (a.put oi.dst v) w → Q (.panic c) a w := by first | exact fun _ _ _ h => h | exact quiet_then (by assumption) _ _) (hw : Region.wanted oi (yielded ops a.tmps) = true := by rfl) (hS : S w := by assumption) : wpAnyH P md ops Q S (fuel + 1) listed a w :=
 wpAnyH_take hi hs hf hr hQ (Or.inl ⟨hw, hy⟩) hS h
theorem xS : (∀ (a : Act) (d : Option Tmp) (v : Value), a.put d v = match d with | some t => { a with tmps := a.tmps.setIfInBounds t v } | none => a) ∧ (∀ (l : List Value) (i : Nat) (v : Value), l.toArray.setIfInBounds i v = (l.set i v).toArray) ∧
 (∀ (l : List Value) (a b : Value), (a :: l).set 0 b = b :: l) ∧ (∀ (l : List Value) (a b : Value) (n : Nat), (a :: l).set (n + 1) b = a :: l.set n b) ∧ (∀ (l : List Oper) (i : Nat) (h : i < l.toArray.size), l.toArray[i] = l[i]'(by simpa using h)) ∧
 (∀ (l : List Oper) (a : Oper) (n : Nat) (h : n + 1 < (a :: l).length), (a :: l)[n + 1] = l[n]'(by simpa using h)) ∧ (∀ (l : List Oper) (a : Oper) (h : 0 < (a :: l).length), (a :: l)[0] = a) :=
 ⟨fun _ _ _ => rfl, fun _ _ _ => by simp, fun _ _ _ => rfl, fun _ _ _ _ => rfl, fun _ _ _ => rfl, fun _ _ _ _ => rfl, fun _ _ _ => rfl⟩
theorem xD {P : Program} {ops : Array Oper} {Q : Exit → Act → World → Prop} {md : Region.Mode} {S : World → Prop} {fuel : Nat} {listed : Array Bool} {a : Act} {w : World} (i : Nat) {o : Oper} (ho : ops[i]? = some o)
 (h : ∀ K' : Act → World → Prop, Shut (∀ a w, S w → (S w → wpAnyH P md ops Q S fuel (listed.setIfInBounds i true) a w) → K' a w) → if Region.wanted o (yielded ops a.tmps) = true then Oper.wp P o a w K' Q else K' (a.put o.dst undef) w)
 (hr : Region.ready md ops listed = [i] := by as_aux_lemma => kernel_rfl) : wpAnyH P md ops Q S (fuel + 1) listed a w := wpAnyH_ready hr (by simp) (AllReadyH.cons ho h AllReadyH.nil)
theorem xH {p : Prop} (h : p) : Hid p := Lib.hid h
theorem xL (n : Nat) : n ≤ n := Nat.le_refl n
abbrev xM := @Calls.mono
abbrev xB := @bodyPost_ret
abbrev dA := @List.length_nil
abbrev dB := @List.length_cons
abbrev dC := @Classical.byContradiction
abbrev dD := @decide_eq_false_iff_not
abbrev dE := @Bool.or_eq_false_iff
abbrev dF := @decide_eq_true_eq
abbrev dG := @Option.some.injEq
abbrev dH := @Array.getElem?_eq_none
abbrev dI := @List.getElem_mem
abbrev dJ := @List.mem_cons_self
abbrev dK := @Bool.and_eq_true
abbrev dL := @Prod.mk.injEq
abbrev dM := @List.not_mem_nil
end sq
end
end Go.Proofs.Ytdgfclbajjjcgaa
