/- A region of many operations whose order is free may be walked in the order of the text: the test, reckoned over a table of numbers. -/
import Derived.Still
namespace Go.Proofs.YtemdleocdllmfaaDoor.lex
open Go

/-- the slot that an operation writes (0: none; else one more), the slots that it looks at, the operations that must be ahead of it -/
abbrev Row := Nat × List Nat × List Nat
def dstOf : Option Tmp → Nat
  | some d => d + 1
  | none => 0
def row (ops : Array Oper) (o : Oper) : Row := (dstOf o.dst, o.looksAt ops, (o.after.toList.filter (fun e => Region.binds .any e)).map (·.on))
def inL : Nat → List Nat → Bool
  | _, [] => false
  | x, y :: l => cond (Nat.beq x y) true (inL x l)
theorem inL_iff {x : Nat} : ∀ {l : List Nat}, inL x l = true ↔ x ∈ l
  | [] => by simp [inL]
  | y :: l => by
    unfold inL
    by_cases h : x = y
    · subst h; simp
    · have h2 : Nat.beq x y = false := Bool.eq_false_iff.2 fun e => h (Nat.eq_of_beq_eq_true e)
      rw [h2]
      simp [h, inL_iff (l := l)]
/-- the slot that is written here (one more) is looked at there -/
def seen : Nat → List Nat → Bool
  | 0, _ => false
  | d + 1, l => inL d l
def pairOk (k : Nat) (x y : Row) : Bool := cond (inL k y.2.2) true (cond (seen x.1 y.2.1) false (cond (seen y.1 x.2.1) false (cond (Nat.beq x.1 0) true (cond (Nat.beq x.1 y.1) false true))))
def aheadOk (k : Nat) : List Nat → Bool
  | [] => true
  | e :: l => cond (Nat.ble (e + 1) k) (aheadOk k l) false
def restOk (k : Nat) (x : Row) : List Row → Bool
  | [] => true
  | y :: l => cond (pairOk k x y) (restOk k x l) false
def chk : Nat → List Row → Bool
  | _, [] => true
  | k, x :: l => cond (aheadOk k x.2.2) (cond (restOk k x l) (chk (k + 1) l) false) false

theorem aheadOk_spec {k : Nat} : ∀ {l : List Nat}, aheadOk k l = true → ∀ e ∈ l, e < k
  | [], _, e, he => by cases he
  | e0 :: l, h, e, he => by
    unfold aheadOk at h
    cases hb : Nat.ble (e0 + 1) k
    · rw [hb] at h; cases h
    · rw [hb] at h
      rcases List.mem_cons.1 he with rfl | he
      · exact Nat.le_of_ble_eq_true hb
      · exact aheadOk_spec h e he
theorem restOk_spec {k : Nat} {x : Row} : ∀ {l : List Row}, restOk k x l = true → ∀ y ∈ l, pairOk k x y = true
  | [], _, y, hy => by cases hy
  | y0 :: l, h, y, hy => by
    unfold restOk at h
    cases hb : pairOk k x y0
    · rw [hb] at h; cases h
    · rw [hb] at h
      rcases List.mem_cons.1 hy with rfl | hy
      · exact hb
      · exact restOk_spec h y hy
theorem chk_spec : ∀ {l : List Row} {n : Nat}, chk n l = true → ∀ k x, l[k]? = some x → (∀ e ∈ x.2.2, e < n + k) ∧ ∀ j y, k < j → l[j]? = some y → pairOk (n + k) x y = true
  | [], _, _, k, x, hx => by simp at hx
  | x0 :: l, n, h, k, x, hx => by
    unfold chk at h
    cases h1 : aheadOk n x0.2.2
    · rw [h1] at h; cases h
    cases h2 : restOk n x0 l
    · rw [h1, h2] at h; cases h
    rw [h1, h2] at h
    cases k with
    | zero =>
      simp only [List.getElem?_cons_zero, Option.some.injEq] at hx
      subst hx
      refine ⟨aheadOk_spec h1, fun j y hj hy => ?_⟩
      obtain ⟨i, rfl⟩ : ∃ i, j = i + 1 := ⟨j - 1, by omega⟩
      rw [List.getElem?_cons_succ] at hy
      exact restOk_spec h2 y (List.mem_of_getElem? hy)
    | succ k =>
      rw [List.getElem?_cons_succ] at hx
      have h3 := chk_spec (l := l) (n := n + 1) h k x hx
      have e : n + 1 + k = n + (k + 1) := by omega
      rw [e] at h3
      refine ⟨h3.1, fun j y hj hy => ?_⟩
      obtain ⟨i, rfl⟩ : ∃ i, j = i + 1 := ⟨j - 1, by omega⟩
      rw [List.getElem?_cons_succ] at hy
      exact h3.2 i y (by omega) hy

theorem apart_of {ops : Array Oper} {k : Nat} {x y : Oper} (h : pairOk k (row ops x) (row ops y) = true) : (∃ e ∈ y.after, Region.binds .any e = true ∧ e.on = k) ∨ x.apart ops y = true := by
  unfold pairOk at h
  cases h1 : inL k (row ops y).2.2
  · right
    rw [h1] at h
    cases h2 : seen (row ops x).1 (row ops y).2.1
    · cases h3 : seen (row ops y).1 (row ops x).2.1
      · rw [h2, h3] at h
        have g1 : ∀ d, x.dst = some d → (y.looksAt ops).contains d = false := by
          intro d hd
          rw [Bool.eq_false_iff]
          intro hc
          have h2' : seen (dstOf x.dst) (y.looksAt ops) = false := h2
          rw [hd] at h2'
          have : inL d (y.looksAt ops) = true := inL_iff.2 (by simpa using hc)
          exact absurd h2' (by simp [dstOf, seen, this])
        have g2 : ∀ d, y.dst = some d → (x.looksAt ops).contains d = false := by
          intro d hd
          rw [Bool.eq_false_iff]
          intro hc
          have h3' : seen (dstOf y.dst) (x.looksAt ops) = false := h3
          rw [hd] at h3'
          have : inL d (x.looksAt ops) = true := inL_iff.2 (by simpa using hc)
          exact absurd h3' (by simp [dstOf, seen, this])
        have g3 : ∀ d, x.dst = some d → y.dst ≠ some d := by
          intro d hd hy
          have h' : cond false true (cond false false (cond false false (cond (Nat.beq (dstOf x.dst) 0) true (cond (Nat.beq (dstOf x.dst) (dstOf y.dst)) false true)))) = true := h
          rw [hd, hy] at h'
          simp [dstOf] at h'
        unfold Oper.apart
        cases hx : x.dst with
        | none => cases hy : y.dst with
          | none => rfl
          | some d => simpa using g2 d hy
        | some d =>
          have a1 := g1 d hx
          have a3 := g3 d hx
          cases hy : y.dst with
          | none => simpa using a1
          | some d2 =>
            have a2 := g2 d2 hy
            rw [hy] at a3
            simp only [a1, a2, Bool.not_false, Bool.true_and, Bool.and_true]
            simpa using a3
      · rw [h2, h3] at h; cases h
    · rw [h2] at h; cases h
  · left
    have := inL_iff.1 h1
    simp only [row, List.mem_map, List.mem_filter, Array.mem_toList_iff] at this
    obtain ⟨e, ⟨he, hb⟩, hk⟩ := this
    exact ⟨e, he, hb, hk⟩

theorem lexFrom_of {ops : Array Oper} (h : chk 0 (ops.toList.map (row ops)) = true) : ∀ (fuel k : Nat) (listed : Array Bool), k + fuel = ops.size → listed.size = ops.size → (∀ j, j < ops.size → listed[j]? = some (decide (j < k))) → Region.lexFrom .any ops fuel k listed = true := by
  intro fuel
  induction fuel with
  | zero =>
    intro k listed hk hs hl
    unfold Region.lexFrom
    rw [List.isEmpty_iff]
    refine List.eq_nil_iff_forall_not_mem.2 fun j hj => ?_
    obtain ⟨h1, o, ho, _⟩ := mem_ready.1 hj
    have hj2 : j < ops.size := (Array.getElem?_eq_some_iff.1 ho).1
    rw [Array.getD_eq_getD_getElem?, hl j hj2] at h1
    simp at h1
    omega
  | succ fuel ih =>
    intro k listed hk hs hl
    have hk2 : k < ops.size := by omega
    have ho : ops[k]? = some ops[k] := Array.getElem?_eq_getElem hk2
    have hT : (ops.toList.map (row ops))[k]? = some (row ops ops[k]) := by simp [hk2]
    obtain ⟨h1, h2⟩ := chk_spec h k _ hT
    unfold Region.lexFrom
    simp only [Bool.and_eq_true]
    refine ⟨⟨?_, ?_⟩, ih (k + 1) _ (by omega) (by simpa using hs) ?_⟩
    · rw [List.contains_iff_mem]
      refine mem_ready.2 ⟨?_, _, ho, fun e he hb => ?_⟩
      · rw [Array.getD_eq_getD_getElem?, hl k hk2]; simp
      · have := h1 e.on (by
          simp only [row, List.mem_map, List.mem_filter, Array.mem_toList_iff]
          exact ⟨e, ⟨he, hb⟩, rfl⟩)
        rw [Array.getD_eq_getD_getElem?, hl e.on (by omega)]
        simp; omega
    · unfold Region.free
      rw [ho]
      simp only [List.all_eq_true, List.mem_range]
      intro j hj
      have hoj : ops[j]? = some ops[j] := Array.getElem?_eq_getElem hj
      rw [Array.getD_eq_getD_getElem?, hl j hj, hoj]
      rcases Nat.lt_trichotomy j k with hjk | hjk | hjk
      · simp [hjk]
      · simp [hjk]
      · have hTj : (ops.toList.map (row ops))[j]? = some (row ops ops[j]) := by simp [hj]
        have h3 := apart_of (h2 j _ hjk hTj)
        simp only [Bool.or_eq_true]
        right
        rcases h3 with ⟨e, he, hb, hke⟩ | h3
        · left
          rw [Array.any_eq_true']
          exact ⟨e, he, by simp [hb, hke]⟩
        · exact Or.inr h3
    · intro j hj
      rw [Array.getElem?_setIfInBounds]
      by_cases hjk : k = j
      · subst hjk; simp [hs, hk2]
      · rw [if_neg hjk, hl j hj]
        congr 1
        rw [decide_eq_decide]
        omega
/-- the test of the order of the text, by a table -/
theorem lexB_of {ops : Array Oper} {T : List Row} (hT : ops.toList.map (row ops) = T) (h : chk 0 T = true) (hs : Region.noSelect ops = true) : Region.lexB .any ops = true := by
  subst hT
  unfold Region.lexB
  rw [hs, Bool.true_and]
  refine lexFrom_of h _ _ _ (by omega) (by simp) fun j hj => ?_
  simp [hj]
end Go.Proofs.YtemdleocdllmfaaDoor.lex
