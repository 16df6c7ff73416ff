/- Slices of ranges as package api has them: those that came in, and those that a call has laid. -/
import Derived.Test.YtgdhhpbpbkgmeaaDoorUcdW5
import Derived.Test.YtgdhhpbpbkgmeaaDoorSetsPure
import Derived.Lib.Hide
namespace Go.Proofs.YtgdhhpbpbkgmeaaDoor.setw
open Go Go.RowKit Go.Proofs.YtgdhhpbpbkgmeaaDoor.bulk Go.Proofs.YtgdhhpbpbkgmeaaDoor.ucdp Go.Proofs.YtgdhhpbpbkgmeaaDoor.ucdw Go.Proofs.YtgdhhpbpbkgmeaaDoor.setp

/-- numbers of 64 bits -/
def Wf (l : List Rg) : Prop := ∀ r ∈ l, (-9223372036854775808 ≤ r.1 ∧ r.1 ≤ 9223372036854775807) ∧ (-9223372036854775808 ≤ r.2 ∧ r.2 ≤ 9223372036854775807)
/-- a slice of ranges as package api has them -/
def RsAt (w : World) (v : Value) (l : List Rg) : Prop :=
  Wf l ∧ ((l = [] ∧ ∃ a cap, v = .slice a 0 cap ∧ cap ≤ 9223372036854775807) ∨ (l ≠ [] ∧ ∃ b off cap, v = .slice (some ⟨b, off, none⟩) l.length cap ∧ l.length ≤ cap ∧ cap ≤ 9223372036854775807 ∧
    ∀ i (hi : i < l.length), w.cell? ⟨b, off + i * 2, none⟩ = some (.int .i64 l[i].1) ∧ w.cell? ⟨b, off + i * 2 + 1, none⟩ = some (.int .i64 l[i].2)))
theorem rsAt_below {w w' : World} {v : Value} {l : List Rg} (h : RsAt w v l) (hb : Below w.heap.size w w') : RsAt w' v l := by
  obtain ⟨hw, h | ⟨hS, b, off, cap, hv, h1, h2, hc⟩⟩ := h
  · exact ⟨hw, Or.inl h⟩
  · exact ⟨hw, Or.inr ⟨hS, b, off, cap, hv, h1, h2, fun i hi => ⟨below_cell hb (hc i hi).1, below_cell hb (hc i hi).2⟩⟩⟩
theorem rsAt_len {w : World} {v : Value} {l : List Rg} (h : RsAt w v l) : ∃ a cap, v = .slice a l.length cap := by
  obtain ⟨_, ⟨h, a, cap, hv, _⟩ | ⟨_, b, off, cap, hv, _⟩⟩ := h
  · subst h; exact ⟨_, _, hv⟩
  · exact ⟨_, _, hv⟩
theorem infoRange : (Tryd.prog.info? 52).map (fun i => (i.zero, i.size, i.bytes)) = some (some (.agg #[.int .i64 0, .int .i64 0]), 2, 16) := by kernel_rfl
/-- ranges as package api has them, as cells -/
def rcs (l : List Rg) : List Value := l.flatMap fun r => [.int .i64 r.1, .int .i64 r.2]
/-- a slice of ranges that the call itself has laid; nil where there are none -/
def OwnR (w : World) (base : Nat) (v : Value) (D : List Rg) : Prop := w.ownsRow base 52 2 v D.length (rcs D) ∧ (D = [] → v = .slice none 0 0)
theorem ownR_nil (w : World) (base : Nat) : OwnR w base (.slice none 0 0) [] := ⟨World.ownsRow_nil w base _ 2, fun _ => rfl⟩
theorem wpList_append_r {ops : Array Oper} {rest : List Oper} {o : Oper} {a : Act} {w : World} {Q : Exit → Act → World → Prop} (hgd : o.guard = none) (s x : Operand)
    (ho : o.op = .call { callee := .builtin .append, args := #[s, x], argTypes := #[22, 22] }) (base : Nat) (v : Value) (D : List Rg) (hs : a.eval s = v) (hown : OwnR w base v D)
    (q1 q2 : Int) (B : Nat) (hx : a.eval x = .slice (some ⟨B, 0, none⟩) 1 1) (hB : B = w.heap.size) (hlen : D.length ≤ 100000000) (hbase : base ≤ w.heap.size)
    (h : ∀ v' w', OwnR w' base v' (D ++ [(q1, q2)]) → (∀ B w1, Below B w1 w → B ≤ base → Below B w1 w') → wpList Tryd.prog ops Q rest (a.put o.dst v') w') :
    wpList Tryd.prog ops Q (o :: rest) a (w.alloc (.cells #[.int .i64 q1, .int .i64 q2] 52)) := by
  subst hB
  obtain ⟨i0, hi, hz0, hz1, hz2⟩ := info_parts infoRange
  refine wpList_append_own _ hgd s x _ ho base 52 i0 (.agg #[.int .i64 0, .int .i64 0]) 2 16 Tryd.underlying22 hi hz0 hz1 hz2 rfl (by decide) v _ _ hs (World.ownsRow.alloc hown.1 _) ⟨w.heap.size, 0, none⟩ 1 1 [.int .i64 q1, .int .i64 q2] hx rfl ?_ ?_ (by unfold maxLen; omega) (by omega) (by rw [World.size_alloc]; omega) ?_
  · intro j u hj
    have hplain : (⟨w.heap.size, 0, none⟩ : Addr).add j = ⟨w.heap.size, j, none⟩ := by unfold Addr.add; split <;> simp_all
    rw [hplain, World.cell?_alloc_new]
    rcases j with _ | _ | j
    · simpa using hj
    · simpa using hj
    · simp at hj
  · intro u hu
    simp only [List.mem_cons, List.not_mem_nil, or_false] at hu
    rcases hu with rfl | rfl <;> rfl
  · intro v' w' hown' hgr _
    refine h v' w' ?_ (fun B w1 hb hB => (hb.alloc (by have := hb.size; omega) _).grown hgr (by rw [World.size_alloc]; omega) (fun k hk => ?_))
    · have e : rcs (D ++ [(q1, q2)]) = rcs D ++ [.int .i64 q1, .int .i64 q2] := by simp [rcs]
      unfold OwnR
      rw [e]
      exact ⟨by simpa using hown', fun h => absurd h (by simp)⟩
    · have := (World.ownsRow.lt hown.1) k hk
      omega

def tot : List Rg → Int
  | [] => 0
  | r :: l => (r.2 - r.1 + 1) + tot l
theorem tot_snoc (l : List Rg) (r : Rg) : tot (l ++ [r]) = tot l + (r.2 - r.1 + 1) := by
  induction l with
  | nil => simp [tot]
  | cons x l ih => simp only [List.cons_append, tot, ih]; omega
theorem tot_bd : ∀ {S : List Rg} {lo : Int}, Canon S → (∀ r ∈ S, lo ≤ r.1) → 0 ≤ lo → lo ≤ 1114112 → 0 ≤ tot S ∧ lo + tot S ≤ 1114112
  | [], lo, _, _, _, h => by simp [tot]; omega
  | r :: S, lo, h, hl, h0, _ => by
    have hr := h.2 r (List.mem_cons_self ..)
    have h1 := hl r (List.mem_cons_self ..)
    have := tot_bd (lo := r.2 + 1) (canon_tail h) (fun x hx => by have := (List.pairwise_cons.1 h.1).1 x hx; omega) (by omega) (by omega)
    simp only [tot]
    omega
theorem canon_take {S : List Rg} (h : Canon S) (k : Nat) : Canon (S.take k) := ⟨h.1.sublist (List.take_sublist k S), fun r hr => h.2 r (List.mem_of_mem_take hr)⟩
theorem tot_canon {S : List Rg} (h : Canon S) : 0 ≤ tot S ∧ tot S ≤ 1114112 := by
  have := tot_bd (lo := 0) h (fun r hr => (h.2 r hr).1) (by omega) (by omega)
  omega
/-- is a number in one of the ranges? -/
def hasB (S : List Rg) (c : Int) : Bool := S.any fun r => decide (r.1 ≤ c) && decide (c ≤ r.2)
theorem hasB_iff {S : List Rg} {c : Int} : hasB S c = true ↔ Has S c := by
  simp [hasB, Has]
/-- ranges in memory, as package api has them: where they lie -/
theorem ownR_slice {w : World} {base : Nat} {v : Value} {S : List Rg} (h : OwnR w base v S) (hS : S ≠ []) : ∃ g cap : Nat, v = .slice (some ⟨g, 0, none⟩) S.length cap ∧ base ≤ g ∧ S.length ≤ cap ∧ cap ≤ 9223372036854775807 ∧
    ∀ i (hi : i < S.length), w.cell? ⟨g, i * 2, none⟩ = some (.int .i64 S[i].1) ∧ w.cell? ⟨g, i * 2 + 1, none⟩ = some (.int .i64 S[i].2) := by
  have h1 := h.1
  obtain ⟨_, h2⟩ := h.1
  rcases h2 with ⟨_, hn⟩ | ⟨g, cap, cur, hv, hg, hh, hnc, hcm, _⟩
  · exact absurd (List.eq_nil_of_length_eq_zero hn) hS
  · unfold maxLen at hcm
    rw [hv] at h1
    refine ⟨g, cap, hv, hg, hnc, by omega, fun i hi => ?_⟩
    have hr : ∀ (l : List Rg) (i : Nat) (hi : i < l.length), (rcs l)[i * 2]? = some (.int .i64 l[i].1) ∧ (rcs l)[i * 2 + 1]? = some (.int .i64 l[i].2) := by
      intro l
      induction l with
      | nil => intro i hi; cases hi
      | cons r l ih =>
        intro i hi
        cases i with
        | zero => exact ⟨rfl, rfl⟩
        | succ i =>
          have := ih i (by simpa using hi)
          have e1 : rcs (r :: l) = [.int .i64 r.1, .int .i64 r.2] ++ rcs l := rfl
          rw [e1, show (i + 1) * 2 = i * 2 + 2 by omega]
          constructor
          · rw [List.getElem?_append_right (by simp)]; simpa using this.1
          · rw [List.getElem?_append_right (by simp)]; simpa using this.2
    have := hr S i hi
    constructor
    · rw [h1.cellAt _ (by omega)]; exact this.1
    · rw [h1.cellAt _ (by omega)]; exact this.2
theorem ownR_len {w : World} {base : Nat} {v : Value} {S : List Rg} (h : OwnR w base v S) : ∃ a cap, v = .slice a S.length cap := by
  by_cases hS : S = []
  · subst hS; exact ⟨_, _, h.2 rfl⟩
  · obtain ⟨g, cap, hv, _⟩ := ownR_slice h hS
    exact ⟨_, _, hv⟩
theorem hasB_take {S : List Rg} {k : Nat} (hk : k < S.length) (c : Int) : hasB (S.take (k + 1)) c = (hasB (S.take k) c || (decide (S[k].1 ≤ c) && decide (c ≤ S[k].2))) := by
  unfold hasB
  rw [take_snoc hk, List.any_append]
  simp

theorem wf_canon {S : List Rg} (h : InR S) : Wf S := fun r hr => by
  have := h r hr
  omega
theorem rs_own {w : World} {base : Nat} {v : Value} {S : List Rg} (h : OwnR w base v S) (hw : Wf S) : RsAt w v S := by
  refine ⟨hw, ?_⟩
  by_cases hS : S = []
  · subst hS
    exact Or.inl ⟨rfl, _, _, h.2 rfl, by omega⟩
  · obtain ⟨g, cap, hv, _, h1, h2, hc⟩ := ownR_slice h hS
    exact Or.inr ⟨hS, g, 0, cap, hv, h1, h2, fun i hi => by simpa using hc i hi⟩
end Go.Proofs.YtgdhhpbpbkgmeaaDoor.setw
