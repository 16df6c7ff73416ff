/- The plain mathematics of texts one behind the other. No conditions. -/
import Derived.Test.YtmphapcogmjgnaaDoorUtfPure
namespace Go.Proofs.YtmphapcogmjgnaaDoor.utfp

theorem conts_congr {g g' : Nat → Int} {p p' : Nat} : ∀ k, (∀ j, j < k → g (p + 1 + j) = g' (p' + 1 + j)) → conts g p k = conts g' p' k := by
  intro k
  induction k with
  | zero => intro _; rfl
  | succ k ih =>
    intro h
    simp only [conts]
    rw [ih (fun j hj => h j (by omega)), h k (by omega)]
theorem acc_congr {g g' : Nat → Int} {p p' : Nat} {hd : Int} (h0 : g p = g' p') : ∀ k, (∀ j, j < k → g (p + 1 + j) = g' (p' + 1 + j)) → acc g p hd k = acc g' p' hd k := by
  intro k
  induction k with
  | zero => intro _; simp only [acc]; rw [h0]
  | succ k ih =>
    intro h
    simp only [acc]
    rw [ih (fun j hj => h j (by omega)), h k (by omega)]
theorem len0_le (x : Int) : 0 ≤ len0 x ∧ len0 x ≤ 4 := by
  rcases len0_cases x with ⟨h, _⟩ | ⟨h, _⟩ | ⟨h, _⟩ | ⟨h, _⟩ | ⟨h, _⟩ <;> omega
theorem seqAt_shift {g g' : Nat → Int} {n n' p p' : Nat} (h : ∀ j, p + j < n → g (p + j) = g' (p' + j)) (hn : (n : Int) - p = n' - p') (hp : p < n) : seqAt g n p = seqAt g' n' p' := by
  have h0 : g p = g' p' := by simpa using h 0 (by omega)
  have hl := len0_le (g' p')
  unfold seqAt
  rw [h0, hn]
  split
  · rfl
  · rename_i hs
    have e : ∀ j, j < (len0 (g' p') - 1).toNat → g (p + 1 + j) = g' (p' + 1 + j) := by
      intro j hj
      have := h (1 + j) (by omega)
      rw [← Nat.add_assoc, ← Nat.add_assoc] at this
      exact this
    rw [conts_congr _ e, acc_congr h0 _ e]
theorem seqAt_ext {g g1 : Nat → Int} {N n p : Nat} (h : ∀ j, j < n → g j = g1 j) (hN : n ≤ N) (hp : p < n) (hs : (seqAt g1 n p).2 ≠ 0) : seqAt g N p = seqAt g1 n p := by
  have h0 : g p = g1 p := h p hp
  have hl := len0_le (g1 p)
  have hs2 : ¬ (len0 (g1 p) = 0 ∨ (n : Int) - p < len0 (g1 p)) := by
    intro hc
    rw [seqAt_none hc] at hs
    exact hs rfl
  unfold seqAt
  rw [h0, if_neg (by omega), if_neg hs2]
  have e : ∀ j, j < (len0 (g1 p) - 1).toNat → g (p + 1 + j) = g1 (p + 1 + j) := fun j hj => h _ (by omega)
  rw [conts_congr _ e, acc_congr h0 _ e]

/-- going through a valid text that another one follows -/
theorem through {g g1 : Nat → Int} {N n : Nat} (hg : ∀ i, 0 ≤ g i ∧ g i ≤ 255) (hg1 : ∀ i, 0 ≤ g1 i ∧ g1 i ≤ 255) (h : ∀ j, j < n → g j = g1 j) (hN : n ≤ N) :
    ∀ k p, n - p ≤ k → p ≤ n → (validF g1 n n p).2 = true → validF g N N p = validF g N N n ∧ (validF g1 n n p).1 = n ∧
      (edgesF true g N N p).length = (edgesF true g1 n n p).length + (edgesF true g N N n).length ∧ n ∈ p :: edgesF true g N N p := by
  intro k
  induction k with
  | zero =>
    intro p hk hp _
    obtain rfl : p = n := by omega
    rw [validP_end (g := g1) (Nat.le_refl _), edges_end (g := g1) (Nat.le_refl _)]
    simp
  | succ k ih =>
    intro p hk hp hv
    by_cases e : p = n
    · subst e
      rw [validP_end (g := g1) (Nat.le_refl _), edges_end (g := g1) (Nat.le_refl _)]
      simp
    have hpn : p < n := by omega
    rw [validP_step hg1 hpn] at hv
    by_cases hs : (seqAt g1 n p).2 = 0
    · rw [if_pos hs] at hv; cases hv
    rw [if_neg hs] at hv
    have hb := seqAt_num (n := n) (p := p) hg1
    have hx := seqAt_ext h hN hpn hs
    have hstep : stepN true g N p = p + (seqAt g1 n p).2.toNat := by
      unfold stepN stepv
      rw [hx, if_pos ⟨rfl, by omega⟩]
      simp only
      omega
    have hstep1 : stepN true g1 n p = p + (seqAt g1 n p).2.toNat := by
      unfold stepN stepv
      rw [if_pos ⟨rfl, by omega⟩]
      simp only
      omega
    obtain ⟨i1, i2, i3, i4⟩ := ih (p + (seqAt g1 n p).2.toNat) (by omega) (by omega) hv
    refine ⟨?_, ?_, ?_, ?_⟩
    · rw [validP_step hg (by omega), hx, if_neg hs, i1]
    · rw [validP_step hg1 hpn, if_neg hs, i2]
    · rw [edges_step hg (by omega : p < N), edges_step hg1 hpn, hstep, hstep1, List.length_cons, List.length_cons, i3]
      omega
    · rw [edges_step hg (by omega : p < N), hstep]
      exact List.mem_cons_of_mem _ i4
/-- going through the text that follows -/
theorem behind {g g2 : Nat → Int} {N n m : Nat} (hg : ∀ i, 0 ≤ g i ∧ g i ≤ 255) (hg2 : ∀ i, 0 ≤ g2 i ∧ g2 i ≤ 255) (h : ∀ j, j < m → g (n + j) = g2 j) (hN : N = n + m) :
    ∀ k q, m - q ≤ k → q ≤ m → validF g N N (n + q) = ((validF g2 m m q).1 + n, (validF g2 m m q).2) ∧ (edgesF true g N N (n + q)).length = (edgesF true g2 m m q).length := by
  intro k
  induction k with
  | zero =>
    intro q hk hq
    obtain rfl : q = m := by omega
    rw [validP_end (g := g) (by omega), validP_end (g := g2) (Nat.le_refl _), edges_end (g := g) (by omega), edges_end (g := g2) (Nat.le_refl _)]
    simp
    omega
  | succ k ih =>
    intro q hk hq
    by_cases e : q = m
    · subst e
      rw [validP_end (g := g) (by omega), validP_end (g := g2) (Nat.le_refl _), edges_end (g := g) (by omega), edges_end (g := g2) (Nat.le_refl _)]
      simp
      omega
    have hqm : q < m := by omega
    have hx : seqAt g N (n + q) = seqAt g2 m q := seqAt_shift (fun j hj => by rw [Nat.add_assoc]; exact h (q + j) (by omega)) (by omega) (by omega)
    have hb := seqAt_num (n := m) (p := q) hg2
    have hstep : stepN true g N (n + q) = n + stepN true g2 m q := by
      unfold stepN stepv
      rw [hx]
      split <;> simp only <;> omega
    have hs2 := stepN_bd (utf := true) hg2 hqm
    obtain ⟨_, j2⟩ := ih (stepN true g2 m q) (by omega) hs2.2.1
    constructor
    · rw [validP_step hg (by omega), validP_step hg2 hqm, hx]
      by_cases hs : (seqAt g2 m q).2 = 0
      · rw [if_pos hs, if_pos hs]
        simp
        omega
      · rw [if_neg hs, if_neg hs, Nat.add_assoc]
        exact (ih (q + (seqAt g2 m q).2.toNat) (by omega) (by omega)).1
    · rw [edges_step hg (by omega : n + q < N), edges_step hg2 hqm, hstep, List.length_cons, List.length_cons, j2]
/-- two valid texts, one behind the other -/
theorem adds {g g1 g2 : Nat → Int} {N n m : Nat} (hg : ∀ i, 0 ≤ g i ∧ g i ≤ 255) (hg1 : ∀ i, 0 ≤ g1 i ∧ g1 i ≤ 255) (hg2 : ∀ i, 0 ≤ g2 i ∧ g2 i ≤ 255)
    (h1 : ∀ j, j < n → g j = g1 j) (h2 : ∀ j, j < m → g (n + j) = g2 j) (hN : N = n + m) (v1 : (validP g1 n).2 = true) (v2 : (validP g2 m).2 = true) :
    validP g N = ((N : Int), true) ∧ countP true g N = countP true g1 n + countP true g2 m ∧ edgeP true g N n = true := by
  obtain ⟨a1, a2, a3, a4⟩ := through hg hg1 h1 (by omega : n ≤ N) n 0 (by omega) (by omega) v1
  obtain ⟨b1, b2⟩ := behind hg hg2 h2 hN m 0 (by omega) (by omega)
  obtain ⟨_, c2, _, _⟩ := through (g := g2) (N := m) hg2 hg2 (fun _ _ => rfl) (Nat.le_refl _) m 0 (by omega) (by omega) v2
  rw [Nat.add_zero] at b1 b2
  refine ⟨?_, ?_, ?_⟩
  · unfold validP
    rw [a1, b1, c2]
    unfold validP at v2
    rw [v2, hN]
    simp
    omega
  · unfold countP
    rw [a3, b2]
  · unfold edgeP
    rw [if_neg (by omega), if_pos rfl, goodB_iff]
    have := (edges_good hg N 0 (by omega) (by omega) (good_zero g N) n (by omega) (by omega)).1 a4
    simpa using this
end Go.Proofs.YtmphapcogmjgnaaDoor.utfp
