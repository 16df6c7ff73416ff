/- Sets of numbers as rising ranges with a gap between each two: plain mathematics, no program. -/
namespace Go.Proofs.YtgdhhpbpbkgmeaaDoor.setp

/-- a range: its first and its last number -/
abbrev Rg := Int × Int
/-- a number is in one of the ranges -/
def Has (S : List Rg) (c : Int) : Prop := ∃ r ∈ S, r.1 ≤ c ∧ c ≤ r.2
/-- each range is one of code points, and not empty -/
def InR (S : List Rg) : Prop := ∀ r ∈ S, 0 ≤ r.1 ∧ r.1 ≤ r.2 ∧ r.2 ≤ 1114111
/-- rising, with a gap between each two -/
def Canon (S : List Rg) : Prop := S.Pairwise (fun a b => a.2 + 1 < b.1) ∧ InR S

theorem has_nil (c : Int) : ¬ Has [] c := by rintro ⟨_, h, _⟩; cases h
theorem has_cons {r : Rg} {S : List Rg} {c : Int} : Has (r :: S) c ↔ (r.1 ≤ c ∧ c ≤ r.2) ∨ Has S c := by simp [Has]
theorem has_append {S T : List Rg} {c : Int} : Has (S ++ T) c ↔ Has S c ∨ Has T c := by
  simp only [Has, List.mem_append]
  constructor
  · rintro ⟨r, h | h, h2⟩
    · exact Or.inl ⟨r, h, h2⟩
    · exact Or.inr ⟨r, h, h2⟩
  · rintro (⟨r, h, h2⟩ | ⟨r, h, h2⟩)
    · exact ⟨r, Or.inl h, h2⟩
    · exact ⟨r, Or.inr h, h2⟩
theorem has_one {r : Rg} {c : Int} : Has [r] c ↔ r.1 ≤ c ∧ c ≤ r.2 := by simp [Has]
theorem has_perm {S T : List Rg} (h : S.Perm T) (c : Int) : Has S c ↔ Has T c := by
  unfold Has
  constructor
  · rintro ⟨r, hr, h2⟩
    exact ⟨r, h.mem_iff.1 hr, h2⟩
  · rintro ⟨r, hr, h2⟩
    exact ⟨r, h.mem_iff.2 hr, h2⟩
theorem inR_nil : InR [] := fun _ h => by cases h
theorem inR_append {S T : List Rg} (h1 : InR S) (h2 : InR T) : InR (S ++ T) := fun r hr => (List.mem_append.1 hr).elim (h1 r) (h2 r)
theorem inR_one {a b : Int} (h1 : 0 ≤ a) (h2 : a ≤ b) (h3 : b ≤ 1114111) : InR [(a, b)] := by
  intro r hr
  obtain rfl := List.mem_singleton.1 hr
  exact ⟨h1, h2, h3⟩
theorem canon_nil : Canon [] := ⟨List.Pairwise.nil, inR_nil⟩
theorem canon_tail {r : Rg} {S : List Rg} (h : Canon (r :: S)) : Canon S := ⟨(List.pairwise_cons.1 h.1).2, fun x hx => h.2 x (List.mem_cons_of_mem _ hx)⟩
theorem canon_head {r : Rg} {S : List Rg} (h : Canon (r :: S)) {c : Int} (hc : Has S c) : r.2 + 1 < c := by
  obtain ⟨x, hx, h2⟩ := hc
  have := (List.pairwise_cons.1 h.1).1 x hx
  omega
theorem has_bd {S : List Rg} (h : InR S) {c : Int} (hc : Has S c) : 0 ≤ c ∧ c ≤ 1114111 := by
  obtain ⟨r, hr, h2⟩ := hc
  have := h r hr
  omega

/-- sets with the same elements are the same rows -/
theorem canon_ext : ∀ {S T : List Rg}, Canon S → Canon T → (∀ c, Has S c ↔ Has T c) → S = T
  | [], [], _, _, _ => rfl
  | [], t :: T, _, hT, h => by
    have ht := hT.2 t (List.mem_cons_self ..)
    exact absurd ((h t.1).2 (has_cons.2 (Or.inl (by omega)))) (has_nil _)
  | r :: S, [], hS, _, h => by
    have ht := hS.2 r (List.mem_cons_self ..)
    exact absurd ((h r.1).1 (has_cons.2 (Or.inl (by omega)))) (has_nil _)
  | r :: S, t :: T, hS, hT, h => by
    have hr := hS.2 r (List.mem_cons_self ..)
    have ht := hT.2 t (List.mem_cons_self ..)
    have a1 : t.1 ≤ r.1 := by
      rcases has_cons.1 ((h r.1).1 (has_cons.2 (Or.inl (by omega)))) with x | x
      · omega
      · have := canon_head hT x; omega
    have a2 : r.1 ≤ t.1 := by
      rcases has_cons.1 ((h t.1).2 (has_cons.2 (Or.inl (by omega)))) with x | x
      · omega
      · have := canon_head hS x; omega
    have b1 : ¬ r.2 < t.2 := by
      intro hlt
      rcases has_cons.1 ((h (r.2 + 1)).2 (has_cons.2 (Or.inl (by omega)))) with x | x
      · omega
      · have := canon_head hS x; omega
    have b2 : ¬ t.2 < r.2 := by
      intro hlt
      rcases has_cons.1 ((h (t.2 + 1)).1 (has_cons.2 (Or.inl (by omega)))) with x | x
      · omega
      · have := canon_head hT x; omega
    have e : r = t := Prod.ext (by omega) (by omega)
    subst e
    have e2 := canon_ext (canon_tail hS) (canon_tail hT) (fun c => by
      constructor
      · intro hc
        have h1 := canon_head hS hc
        rcases has_cons.1 ((h c).1 (has_cons.2 (Or.inr hc))) with x | x
        · omega
        · exact x
      · intro hc
        have h1 := canon_head hT hc
        rcases has_cons.1 ((h c).2 (has_cons.2 (Or.inr hc))) with x | x
        · omega
        · exact x)
    rw [e2]

/-- how many ranges a set may have -/
theorem canon_len_from : ∀ {S : List Rg} {lo : Int}, Canon S → (∀ r ∈ S, lo ≤ r.1) → 0 ≤ lo → lo ≤ 1114112 → lo + S.length ≤ 1114112
  | [], lo, _, _, _, h => by simpa using h
  | r :: S, lo, h, hl, h0, _ => by
    have hr := h.2 r (List.mem_cons_self ..)
    have h1 := hl r (List.mem_cons_self ..)
    have := canon_len_from (lo := r.2 + 1) (canon_tail h) (fun x hx => by have := (List.pairwise_cons.1 h.1).1 x hx; omega) (by omega) (by omega)
    simp only [List.length_cons]
    omega
theorem canon_len {S : List Rg} (h : Canon S) : S.length ≤ 1114112 := by
  have := canon_len_from (lo := 0) h (fun r hr => (h.2 r hr).1) (by omega) (by omega)
  omega

theorem take_snoc {S : List Rg} {i : Nat} (h : i < S.length) : S.take (i + 1) = S.take i ++ [S[i]] := by
  rw [List.take_succ_eq_append_getElem h]
theorem drop_cons {S : List Rg} {i : Nat} (h : i < S.length) : S.drop i = S[i] :: S.drop (i + 1) := List.drop_eq_getElem_cons h
theorem mem_drop {S : List Rg} {i : Nat} (h : i < S.length) : S[i] ∈ S.drop i := by
  have h2 := drop_cons h
  exact h2 ▸ List.mem_cons_self ..
theorem has_take {S : List Rg} {i : Nat} (h : i < S.length) (c : Int) : Has (S.take (i + 1)) c ↔ Has (S.take i) c ∨ (S[i].1 ≤ c ∧ c ≤ S[i].2) := by
  rw [take_snoc h, has_append, has_one]
theorem has_split {S : List Rg} (i : Nat) (c : Int) : Has S c ↔ Has (S.take i) c ∨ Has (S.drop i) c := by
  rw [← has_append, List.take_append_drop]
/-- behind the i-th range all is behind its end -/
theorem canon_behind {S : List Rg} (h : Canon S) {i : Nat} (hi : i < S.length) {r : Rg} (hr : r ∈ S.drop (i + 1)) : S[i].2 + 1 < r.1 := by
  have h1 := h.1.sublist (List.drop_sublist i S)
  rw [drop_cons hi] at h1
  exact (List.pairwise_cons.1 h1).1 r hr
theorem canon_snoc {S : List Rg} (h : Canon S) {a b : Int} (h1 : ∀ r ∈ S, r.2 + 1 < a) (h0 : 0 ≤ a) (h2 : a ≤ b) (h3 : b ≤ 1114111) : Canon (S ++ [(a, b)]) := by
  refine ⟨List.pairwise_append.2 ⟨h.1, List.pairwise_singleton _ _, fun r hr x hx => ?_⟩, inR_append h.2 (inR_one h0 h2 h3)⟩
  obtain rfl := List.mem_singleton.1 hx
  exact h1 r hr

/-- a range put behind, unless it is empty -/
def addP (D : List Rg) (a b : Int) : List Rg := if b < a then D else D ++ [(a, b)]
theorem addP_has {D : List Rg} {a b c : Int} : Has (addP D a b) c ↔ Has D c ∨ (a ≤ c ∧ c ≤ b) := by
  unfold addP
  split
  · constructor
    · exact Or.inl
    · rintro (h | h)
      · exact h
      · omega
  · rw [has_append, has_one]
theorem addP_inR {D : List Rg} {a b : Int} (h : InR D) (h0 : 0 ≤ a) (h3 : b ≤ 1114111) : InR (addP D a b) := by
  unfold addP
  split
  · exact h
  · exact inR_append h (inR_one h0 (by omega) h3)
theorem addP_len (D : List Rg) (a b : Int) : (addP D a b).length ≤ D.length + 1 := by
  unfold addP
  split <;> simp
theorem addP_canon {D : List Rg} {a b : Int} (h : Canon D) (h1 : ∀ r ∈ D, r.2 + 1 < a) (h0 : 0 ≤ a) (h3 : b ≤ 1114111) : Canon (addP D a b) := by
  unfold addP
  split
  · exact h
  · exact canon_snoc h h1 h0 (by omega) h3
theorem addP_mem {D : List Rg} {a b : Int} {r : Rg} (h : r ∈ addP D a b) : r ∈ D ∨ (r = (a, b) ∧ a ≤ b) := by
  unfold addP at h
  split at h
  · exact Or.inl h
  · rcases List.mem_append.1 h with h | h
    · exact Or.inl h
    · exact Or.inr ⟨List.mem_singleton.1 h, by omega⟩

/-- what 'joined' has done with the first k of its ranges -/
def JInv (D : List Rg) (k : Nat) (W : List Rg) : Prop := Canon W ∧ (∀ c, Has W c ↔ Has (D.take k) c) ∧ (∀ e ∈ W, ∀ r ∈ D.drop k, e.1 ≤ r.1) ∧ W.length ≤ k
/-- rising beginnings -/
def Rises (D : List Rg) : Prop := D.Pairwise fun a b => a.1 ≤ b.1
theorem rises_behind {S : List Rg} (h : Rises S) {i : Nat} (hi : i < S.length) {r : Rg} (hr : r ∈ S.drop (i + 1)) : S[i].1 ≤ r.1 := by
  have h1 := h.sublist (List.drop_sublist i S)
  rw [drop_cons hi] at h1
  exact (List.pairwise_cons.1 h1).1 r hr
theorem jinv_start (D : List Rg) : JInv D 0 [] := ⟨canon_nil, fun c => (by simp [Has]), fun e he => (by cases he), by simp⟩
theorem jinv_first {D : List Rg} (hD : InR D) (hs : Rises D) {k : Nat} (hk : k < D.length) (h : JInv D k []) : JInv D (k + 1) [D[k]] := by
  obtain ⟨h1, h2, h3, h4⟩ := h
  have hr := hD D[k] (List.getElem_mem hk)
  refine ⟨⟨List.pairwise_singleton _ _, fun x hx => ?_⟩, fun c => ?_, fun e he r hr2 => ?_, by simp⟩
  · obtain rfl := List.mem_singleton.1 hx
    exact hr
  · rw [has_take hk, ← h2, has_one]
    constructor
    · exact Or.inr
    · rintro (h | h)
      · exact absurd h (has_nil _)
      · exact h
  · obtain rfl := List.mem_singleton.1 he
    exact rises_behind hs hk hr2
theorem jinv_apart {D : List Rg} (hD : InR D) (hs : Rises D) {k : Nat} (hk : k < D.length) {W : List Rg} {e : Rg} (h : JInv D k (W ++ [e])) (hg : e.2 + 1 < D[k].1) : JInv D (k + 1) (W ++ [e] ++ [D[k]]) := by
  obtain ⟨h1, h2, h3, h4⟩ := h
  have hr := hD D[k] (List.getElem_mem hk)
  have hlast : ∀ r ∈ W ++ [e], r.2 + 1 < D[k].1 := by
    intro r hr
    rcases List.mem_append.1 hr with hr | hr
    · have := (List.pairwise_append.1 h1.1).2.2 r hr e (by simp)
      have he := h1.2 e (by simp)
      omega
    · obtain rfl := List.mem_singleton.1 hr
      exact hg
  refine ⟨canon_snoc h1 hlast hr.1 hr.2.1 hr.2.2, fun c => ?_, fun x hx r hr2 => ?_, by simp at h4 ⊢; omega⟩
  · rw [has_take hk, has_append, h2, has_one]
  · rcases List.mem_append.1 hx with hx | hx
    · exact h3 x hx r (List.mem_of_mem_drop (i := 1) (by simpa [List.drop_drop] using hr2))
    · obtain rfl := List.mem_singleton.1 hx
      exact rises_behind hs hk hr2
theorem jinv_join {D : List Rg} (hD : InR D) {k : Nat} (hk : k < D.length) {W : List Rg} {e : Rg} (h : JInv D k (W ++ [e])) (hg : D[k].1 ≤ e.2 + 1) : JInv D (k + 1) (W ++ [(e.1, max e.2 D[k].2)]) := by
  obtain ⟨h1, h2, h3, h4⟩ := h
  have hr := hD D[k] (List.getElem_mem hk)
  have he := h1.2 e (by simp)
  have hle : e.1 ≤ D[k].1 := h3 e (by simp) _ (mem_drop hk)
  obtain ⟨p1, p2, p3⟩ := List.pairwise_append.1 h1.1
  refine ⟨canon_snoc ⟨p1, fun r hr => h1.2 r (by simp [hr])⟩ (fun r hr => p3 r hr e (by simp)) he.1 (by omega) (by omega), fun c => ?_, fun x hx r hr2 => ?_, by simp at h4 ⊢; omega⟩
  · have := h2 c
    rw [has_append, has_one] at this
    rw [has_take hk, ← h2, has_append, has_append, has_one, has_one]
    constructor
    · rintro (h | h)
      · exact Or.inl (Or.inl h)
      · by_cases hc : c ≤ e.2
        · exact Or.inl (Or.inr ⟨h.1, hc⟩)
        · exact Or.inr ⟨by omega, by have := h.2; simp only at this; omega⟩
    · rintro ((h | h) | h)
      · exact Or.inl h
      · exact Or.inr ⟨h.1, by simp only; omega⟩
      · exact Or.inr ⟨by simp only; omega, by simp only; omega⟩
  · rcases List.mem_append.1 hx with hx | hx
    · exact h3 x (by simp [hx]) r (List.mem_of_mem_drop (i := 1) (by simpa [List.drop_drop] using hr2))
    · obtain rfl := List.mem_singleton.1 hx
      exact h3 e (by simp) r (List.mem_of_mem_drop (i := 1) (by simpa [List.drop_drop] using hr2))
/-- what 'joined' answers -/
theorem jinv_end {D W : List Rg} (h : JInv D D.length W) : Canon W ∧ ∀ c, Has W c ↔ Has D c := by
  obtain ⟨h1, h2, _⟩ := h
  rw [List.take_length] at h2
  exact ⟨h1, h2⟩

/-- what 'New' has put together of the first k ranges -/
def AInv (l : List Rg) (m : Int) (k : Nat) (D : List Rg) : Prop := InR D ∧ (∀ c, Has D c ↔ Has (l.take k) c ∧ 0 ≤ c ∧ c ≤ m) ∧ D.length ≤ k
theorem ainv_start (l : List Rg) (m : Int) : AInv l m 0 [] := ⟨inR_nil, fun c => by simp [Has], by simp⟩
theorem ainv_step {l : List Rg} {m : Int} (hm : m ≤ 1114111) {k : Nat} (hk : k < l.length) {D : List Rg} (h : AInv l m k D) : AInv l m (k + 1) (addP D (max l[k].1 0) (min l[k].2 m)) := by
  obtain ⟨h1, h2, h3⟩ := h
  refine ⟨addP_inR h1 (by omega) (by omega), fun c => ?_, by have := addP_len D (max l[k].1 0) (min l[k].2 m); omega⟩
  rw [addP_has, h2, has_take hk]
  constructor
  · rintro (⟨h, h4⟩ | h)
    · exact ⟨Or.inl h, h4⟩
    · exact ⟨Or.inr ⟨by omega, by omega⟩, by omega, by omega⟩
  · rintro ⟨h | h, h4, h5⟩
    · exact Or.inl ⟨h, h4, h5⟩
    · exact Or.inr ⟨by omega, by omega⟩

/-- how far 'Meet' has come -/
def MInv (S T : List Rg) (i k : Nat) (D : List Rg) : Prop :=
  Canon D ∧ (∀ c, Has D c ↔ Has S c ∧ Has T c ∧ (Has (S.take i) c ∨ Has (T.take k) c)) ∧ (∀ (hi : i < S.length) (hk : k < T.length), ∀ r ∈ D, r.2 + 1 < max S[i].1 T[k].1) ∧ D.length ≤ i + k
theorem minv_start (S T : List Rg) : MInv S T 0 0 [] := ⟨canon_nil, fun c => by simp [Has], fun _ _ r hr => (by cases hr), by simp⟩
theorem has_at {S : List Rg} {i : Nat} (hi : i < S.length) {c : Int} (h1 : S[i].1 ≤ c) (h2 : c ≤ S[i].2) : Has S c := ⟨S[i], List.getElem_mem hi, h1, h2⟩
theorem has_of_take {S : List Rg} {i : Nat} {c : Int} (h : Has (S.take i) c) : Has S c := by
  obtain ⟨r, hr, h2⟩ := h
  exact ⟨r, List.mem_of_mem_take hr, h2⟩
theorem canon_next {S : List Rg} (h : Canon S) {i : Nat} (hi : i + 1 < S.length) : S[i].2 + 1 < S[i + 1].1 :=
  canon_behind h (by omega) (mem_drop hi)
theorem minv_left {S T : List Rg} (hS : Canon S) (hT : Canon T) {i k : Nat} (hi : i < S.length) (hk : k < T.length) {D : List Rg} (h : MInv S T i k D) (hlt : S[i].2 < T[k].2) : MInv S T (i + 1) k (addP D (max S[i].1 T[k].1) (min S[i].2 T[k].2)) := by
  obtain ⟨h1, h2, h3, h4⟩ := h
  have ha := hS.2 _ (List.getElem_mem hi)
  have hb := hT.2 _ (List.getElem_mem hk)
  refine ⟨addP_canon h1 (h3 hi hk) (by omega) (by omega), fun c => ?_, fun hi2 hk2 r hr => ?_, by have := addP_len D (max S[i].1 T[k].1) (min S[i].2 T[k].2); omega⟩
  · rw [addP_has, h2, has_take hi]
    constructor
    · rintro (⟨a, b, c1 | c1⟩ | a)
      · exact ⟨a, b, Or.inl (Or.inl c1)⟩
      · exact ⟨a, b, Or.inr c1⟩
      · exact ⟨has_at hi (by omega) (by omega), has_at hk (by omega) (by omega), Or.inl (Or.inr ⟨by omega, by omega⟩)⟩
    · rintro ⟨a, b, (c1 | c1) | c1⟩
      · exact Or.inl ⟨a, b, Or.inl c1⟩
      · rcases (has_split k c).1 b with b1 | b1
        · exact Or.inl ⟨a, b, Or.inr b1⟩
        · obtain ⟨x, hx, h5⟩ := b1
          rw [drop_cons hk] at hx
          rcases List.mem_cons.1 hx with rfl | hx
          · exact Or.inr ⟨by omega, by omega⟩
          · have := canon_behind hT hk hx
            omega
      · exact Or.inl ⟨a, b, Or.inr c1⟩
  · have hn := canon_next hS hi2
    rcases addP_mem hr with hr | ⟨rfl, hle⟩
    · have := h3 hi hk r hr
      omega
    · simp only
      omega
theorem minv_right {S T : List Rg} (hS : Canon S) (hT : Canon T) {i k : Nat} (hi : i < S.length) (hk : k < T.length) {D : List Rg} (h : MInv S T i k D) (hlt : ¬ S[i].2 < T[k].2) : MInv S T i (k + 1) (addP D (max S[i].1 T[k].1) (min S[i].2 T[k].2)) := by
  obtain ⟨h1, h2, h3, h4⟩ := h
  have ha := hS.2 _ (List.getElem_mem hi)
  have hb := hT.2 _ (List.getElem_mem hk)
  refine ⟨addP_canon h1 (h3 hi hk) (by omega) (by omega), fun c => ?_, fun hi2 hk2 r hr => ?_, by have := addP_len D (max S[i].1 T[k].1) (min S[i].2 T[k].2); omega⟩
  · rw [addP_has, h2, has_take hk]
    constructor
    · rintro (⟨a, b, c1 | c1⟩ | a)
      · exact ⟨a, b, Or.inl c1⟩
      · exact ⟨a, b, Or.inr (Or.inl c1)⟩
      · exact ⟨has_at hi (by omega) (by omega), has_at hk (by omega) (by omega), Or.inr (Or.inr ⟨by omega, by omega⟩)⟩
    · rintro ⟨a, b, c1 | c1 | c1⟩
      · exact Or.inl ⟨a, b, Or.inl c1⟩
      · exact Or.inl ⟨a, b, Or.inr c1⟩
      · rcases (has_split i c).1 a with b1 | b1
        · exact Or.inl ⟨a, b, Or.inl b1⟩
        · obtain ⟨x, hx, h5⟩ := b1
          rw [drop_cons hi] at hx
          rcases List.mem_cons.1 hx with rfl | hx
          · exact Or.inr ⟨by omega, by omega⟩
          · have := canon_behind hS hi hx
            omega
  · have hn := canon_next hT hk2
    rcases addP_mem hr with hr | ⟨rfl, hle⟩
    · have := h3 hi hk r hr
      omega
    · simp only
      omega
theorem minv_end {S T D : List Rg} {i k : Nat} (h : MInv S T i k D) (he : S.length ≤ i ∨ T.length ≤ k) : Canon D ∧ ∀ c, Has D c ↔ Has S c ∧ Has T c := by
  obtain ⟨h1, h2, _⟩ := h
  refine ⟨h1, fun c => ?_⟩
  rw [h2]
  constructor
  · exact fun ⟨a, b, _⟩ => ⟨a, b⟩
  · intro ⟨a, b⟩
    rcases he with he | he
    · exact ⟨a, b, Or.inl (by rw [List.take_of_length_le he]; exact a)⟩
    · exact ⟨a, b, Or.inr (by rw [List.take_of_length_le he]; exact b)⟩

/-- how far 'Not' has come -/
def NInv (S : List Rg) (m : Int) (i : Nat) (fr : Int) (D : List Rg) : Prop :=
  Canon D ∧ (∀ c, Has D c ↔ 0 ≤ c ∧ c ≤ m ∧ c < fr ∧ ¬ Has S c) ∧ (∀ r ∈ D, r.2 + 1 < fr) ∧ (∀ r ∈ S.take i, r.2 < fr) ∧ (∀ r ∈ S.drop i, fr ≤ r.1) ∧ 0 ≤ fr ∧ fr ≤ 1114112 ∧ D.length ≤ i
theorem ninv_start {S : List Rg} (h : Canon S) (m : Int) : NInv S m 0 0 [] :=
  ⟨canon_nil, fun c => ⟨fun h => absurd h (has_nil _), fun h => by omega⟩, fun r hr => (by cases hr), fun r hr => by simp at hr, fun r hr => by have := h.2 r (by simpa using hr); omega, by omega, by omega, by simp⟩
theorem ninv_step {S : List Rg} (hS : Canon S) {m : Int} (hm : m ≤ 1114111) {i : Nat} (hi : i < S.length) {fr : Int} {D : List Rg} (h : NInv S m i fr D) : NInv S m (i + 1) (S[i].2 + 1) (addP D fr (min (S[i].1 - 1) m)) := by
  obtain ⟨h1, h2, h3, h4, h5, h6, h7, h8⟩ := h
  have ha := hS.2 _ (List.getElem_mem hi)
  have hf := h5 S[i] (mem_drop hi)
  refine ⟨addP_canon h1 h3 h6 (by omega), fun c => ?_, fun r hr => ?_, fun r hr => ?_, fun r hr => ?_, by omega, by omega, by have := addP_len D fr (min (S[i].1 - 1) m); omega⟩
  · rw [addP_has, h2]
    constructor
    · rintro (⟨a, b, c1, d⟩ | a)
      · exact ⟨a, b, by omega, d⟩
      · refine ⟨by omega, by omega, by omega, ?_⟩
        intro hc
        rcases (has_split i c).1 hc with ⟨x, hx, h9⟩ | ⟨x, hx, h9⟩
        · have := h4 x hx
          omega
        · rw [drop_cons hi] at hx
          rcases List.mem_cons.1 hx with rfl | hx
          · omega
          · have := canon_behind hS hi hx
            omega
    · rintro ⟨a, b, c1, d⟩
      by_cases hc : c < fr
      · exact Or.inl ⟨a, b, hc, d⟩
      · refine Or.inr ⟨by omega, ?_⟩
        have : c < S[i].1 := by
          apply Classical.byContradiction
          intro hge
          exact d (has_at hi (by omega) (by omega))
        omega
  · rcases addP_mem hr with hr | ⟨rfl, hle⟩
    · have := h3 r hr
      omega
    · simp only
      omega
  · rw [take_snoc hi] at hr
    rcases List.mem_append.1 hr with hr | hr
    · have := h4 r hr
      omega
    · obtain rfl := List.mem_singleton.1 hr
      omega
  · have := canon_behind hS hi hr
    omega
theorem ninv_end {S : List Rg} {m : Int} (hm : m ≤ 1114111) {fr : Int} {D : List Rg} (h : NInv S m S.length fr D) : Canon (addP D fr m) ∧ ∀ c, Has (addP D fr m) c ↔ 0 ≤ c ∧ c ≤ m ∧ ¬ Has S c := by
  obtain ⟨h1, h2, h3, h4, _, h6, h7, _⟩ := h
  rw [List.take_length] at h4
  refine ⟨addP_canon h1 h3 h6 hm, fun c => ?_⟩
  rw [addP_has, h2]
  constructor
  · rintro (⟨a, b, _, d⟩ | a)
    · exact ⟨a, b, d⟩
    · refine ⟨by omega, by omega, ?_⟩
      rintro ⟨x, hx, h9⟩
      have := h4 x hx
      omega
  · rintro ⟨a, b, d⟩
    by_cases hc : c < fr
    · exact Or.inl ⟨a, b, hc, d⟩
    · exact Or.inr ⟨by omega, by omega⟩
end Go.Proofs.YtgdhhpbpbkgmeaaDoor.setp
