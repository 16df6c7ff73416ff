/- The plain mathematics of the edges: they rise, and Edge knows them. No conditions. -/
import Derived.Test.YtmphapcogmjgnaaDoorUtfPure
namespace Go.Proofs.YtmphapcogmjgnaaDoor.utfp

/-- all edges -/
def edgesL (u : Bool) (g : Nat → Int) (n : Nat) : List Nat := 0 :: edgesF u g n n 0
theorem edges_gt {u : Bool} {g : Nat → Int} {n : Nat} (hg : ∀ i, 0 ≤ g i ∧ g i ≤ 255) : ∀ f p, ∀ x ∈ edgesF u g n f p, p < x ∧ x ≤ n := by
  intro f
  induction f with
  | zero => intro p x hx; simp [edgesF] at hx
  | succ f ih =>
    intro p x hx
    simp only [edgesF] at hx
    split at hx
    · rename_i hp
      have hs := stepN_bd (utf := u) hg hp
      rcases List.mem_cons.1 hx with rfl | hx
      · exact ⟨hs.1, hs.2.1⟩
      · have := ih _ x hx
        exact ⟨by omega, this.2⟩
    · simp at hx
theorem edges_rise {u : Bool} {g : Nat → Int} {n : Nat} (hg : ∀ i, 0 ≤ g i ∧ g i ≤ 255) : ∀ f p, List.Pairwise (· < ·) (p :: edgesF u g n f p) := by
  intro f
  induction f with
  | zero => intro p; simp [edgesF]
  | succ f ih =>
    intro p
    refine List.pairwise_cons.2 ⟨fun x hx => (edges_gt hg _ _ x hx).1, ?_⟩
    simp only [edgesF]
    split
    · exact ih _
    · exact List.Pairwise.nil
theorem edges_all (g : Nat → Int) (n : Nat) : ∀ f p, n - p ≤ f → ∀ a, p < a → a ≤ n → a ∈ edgesF false g n f p := by
  intro f
  induction f with
  | zero => intro p h a h1 h2; omega
  | succ f ih =>
    intro p h a h1 h2
    simp only [edgesF]
    rw [if_pos (by omega)]
    have e : stepN false g n p = p + 1 := by simp [stepN, stepv]
    rw [e]
    by_cases ha : a = p + 1
    · subst ha; exact List.mem_cons_self
    · exact List.mem_cons_of_mem _ (ih _ (by omega) a (by omega) h2)
theorem edge_mem {u : Bool} {g : Nat → Int} {n p : Nat} (hg : ∀ i, 0 ≤ g i ∧ g i ≤ 255) (hp : p ≤ n) : edgeP u g n (p : Int) = decide (p ∈ edgesL u g n) := by
  unfold edgeP edgesL
  rw [if_neg (by omega)]
  cases u with
  | false =>
    rw [if_neg (by simp)]
    symm
    rw [decide_eq_true_eq]
    by_cases h0 : p = 0
    · subst h0; exact List.mem_cons_self
    · exact List.mem_cons_of_mem _ (edges_all g n n 0 (by omega) p (by omega) hp)
  | true =>
    rw [if_pos rfl, show ((p : Int)).toNat = p from by simp]
    rw [Bool.eq_iff_iff, goodB_iff, decide_eq_true_eq]
    exact (edges_good hg n 0 (by omega) (by omega) (good_zero g n) p (by omega) hp).symm
/-- the k-th edge -/
def edgeN (u : Bool) (g : Nat → Int) (n : Nat) (k : Nat) : Nat := (edgesL u g n).getD k 0
theorem edgeN_mem {u : Bool} {g : Nat → Int} {n k : Nat} (h : k < (edgesL u g n).length) : edgeN u g n k ∈ edgesL u g n := by
  unfold edgeN
  simp only [List.getD, List.getElem?_eq_getElem h, Option.getD_some]
  exact List.getElem_mem h
theorem edgeN_lt {u : Bool} {g : Nat → Int} {n i j : Nat} (hg : ∀ i, 0 ≤ g i ∧ g i ≤ 255) (h : i < j) (hj : j < (edgesL u g n).length) : edgeN u g n i < edgeN u g n j := by
  have := List.pairwise_iff_getElem.1 (edges_rise (u := u) (n := n) hg n 0) i j (by unfold edgesL at hj; omega) (by unfold edgesL at hj; omega) h
  unfold edgeN edgesL
  simp only [List.getD]
  rw [List.getElem?_eq_getElem (by unfold edgesL at hj; omega), List.getElem?_eq_getElem (by unfold edgesL at hj; omega)]
  simpa using this
theorem edgeN_le {u : Bool} {g : Nat → Int} {n k : Nat} (hg : ∀ i, 0 ≤ g i ∧ g i ≤ 255) (h : k < (edgesL u g n).length) : edgeN u g n k ≤ n := by
  have := edgeN_mem h
  unfold edgesL at this
  rcases List.mem_cons.1 this with h | h
  · omega
  · exact (edges_gt hg _ _ _ h).2
theorem mem_edgeN {u : Bool} {g : Nat → Int} {n p : Nat} (h : p ∈ edgesL u g n) : ∃ j, j < (edgesL u g n).length ∧ edgeN u g n j = p := by
  obtain ⟨j, hj, he⟩ := List.getElem_of_mem h
  refine ⟨j, hj, ?_⟩
  unfold edgeN
  simp [List.getD, List.getElem?_eq_getElem hj, he]
/-- Edge at an offset, by the edges that lie ahead of it and those that don't -/
theorem edge_at {u : Bool} {g : Nat → Int} {n p k : Nat} (hg : ∀ i, 0 ≤ g i ∧ g i ≤ 255) (hp : p ≤ n) (h1 : ∀ j, j < k → edgeN u g n j < p) (h2 : k < (edgesL u g n).length → p ≤ edgeN u g n k) :
    edgeP u g n (p : Int) = decide (k < (edgesL u g n).length ∧ edgeN u g n k = p) := by
  rw [edge_mem hg hp]
  rw [decide_eq_decide]
  constructor
  · intro h
    obtain ⟨j, hj, he⟩ := mem_edgeN h
    have hk : k ≤ j := by
      rcases Nat.lt_or_ge j k with h3 | h3
      · have := h1 j h3; omega
      · exact h3
    have hkl : k < (edgesL u g n).length := by omega
    refine ⟨hkl, ?_⟩
    have := h2 hkl
    rcases Nat.lt_or_ge k j with h3 | h3
    · have := edgeN_lt (u := u) hg h3 hj; omega
    · obtain rfl : j = k := by omega
      exact he
  · rintro ⟨hk, he⟩
    rw [← he]
    exact edgeN_mem hk
end Go.Proofs.YtmphapcogmjgnaaDoor.utfp
