/- The plain mathematics of characters of byte strings: widths, sequences, decoding, over numbers alone. No conditions. -/
namespace Go.Proofs.YtmphapcogmjgnaaDoor.utfp

/-- how many bytes the sequence of a code point takes; 0: it has none -/
def wid (c : Int) : Int := if c < 0 ∨ 1114111 < c ∨ (55296 ≤ c ∧ c ≤ 57343) then 0 else if c < 128 then 1 else if c < 2048 then 2 else if c < 65536 then 3 else 4
/-- how many bytes a sequence takes that begins with this byte, by its upper five bits -/
def len0 (x : Int) : Int := if x < 128 then 1 else if x < 192 then 0 else if x < 224 then 2 else if x < 240 then 3 else if x < 248 then 4 else 0
/-- what the first byte bears beside bits of the code point -/
def head0 (s : Int) : Int := if s = 2 then 192 else if s = 3 then 224 else if s = 4 then 240 else 0
/-- the number that k bytes behind the first one make -/
def acc (g : Nat → Int) (p : Nat) (h : Int) : Nat → Int
  | 0 => g p - h
  | k + 1 => acc g p h k * 64 + (g (p + 1 + k) - 128)
/-- the first k bytes behind the first one are continuations -/
def conts (g : Nat → Int) (p : Nat) : Nat → Bool
  | 0 => true
  | k + 1 => conts g p k && (decide (128 ≤ g (p + 1 + k)) && decide (g (p + 1 + k) ≤ 191))
/-- the sequence that begins at an offset: its code point and its length; 0, 0: none -/
def seqAt (g : Nat → Int) (n p : Nat) : Int × Int :=
  if len0 (g p) = 0 ∨ (n : Int) - p < len0 (g p) then (0, 0)
  else if conts g p (len0 (g p) - 1).toNat = true ∧ wid (acc g p (head0 (len0 (g p))) (len0 (g p) - 1).toNat) = len0 (g p) then (acc g p (head0 (len0 (g p))) (len0 (g p) - 1).toNat, len0 (g p)) else (0, 0)

theorem len0_cases (x : Int) : (len0 x = 0 ∧ (128 ≤ x ∧ x < 192 ∨ 248 ≤ x)) ∨ (len0 x = 1 ∧ x < 128) ∨ (len0 x = 2 ∧ 192 ≤ x ∧ x < 224) ∨ (len0 x = 3 ∧ 224 ≤ x ∧ x < 240) ∨ (len0 x = 4 ∧ 240 ≤ x ∧ x < 248) := by
  unfold len0
  repeat' split
  all_goals omega

theorem wid_cases (c : Int) : (wid c = 0 ∧ (c < 0 ∨ 1114111 < c ∨ (55296 ≤ c ∧ c ≤ 57343))) ∨ (wid c = 1 ∧ 0 ≤ c ∧ c < 128) ∨ (wid c = 2 ∧ 128 ≤ c ∧ c < 2048) ∨ (wid c = 3 ∧ 2048 ≤ c ∧ c < 65536 ∧ (c < 55296 ∨ 57343 < c)) ∨ (wid c = 4 ∧ 65536 ≤ c ∧ c ≤ 1114111) := by
  unfold wid
  repeat' split
  all_goals omega

/-- the bytes of a code point, by the document -/
def enc (c : Int) : List Int :=
  if c < 0 ∨ 1114111 < c ∨ (55296 ≤ c ∧ c ≤ 57343) then [] else if c < 128 then [c] else if c < 2048 then [192 + c / 64, 128 + c % 64]
  else if c < 65536 then [224 + c / 4096, 128 + c / 64 % 64, 128 + c % 64] else [240 + c / 262144, 128 + c / 4096 % 64, 128 + c / 64 % 64, 128 + c % 64]

theorem enc_bytes (c : Int) : ∀ x ∈ enc c, 0 ≤ x ∧ x ≤ 255 := by
  unfold enc
  repeat' split
  all_goals (simp only [List.mem_cons, List.not_mem_nil, or_false]; intro x hx)
  · exact absurd hx (by simp)
  · omega
  · omega
  · omega
  · omega

theorem conts_succ {g : Nat → Int} {p k : Nat} (h : conts g p k = true) (h1 : 128 ≤ g (p + 1 + k)) (h2 : g (p + 1 + k) ≤ 191) : conts g p (k + 1) = true := by
  simp [conts, h, h1, h2]
theorem conts_not {g : Nat → Int} {p k : Nat} (h : g (p + 1 + k) < 128 ∨ 191 < g (p + 1 + k)) : ∀ m, k < m → conts g p m = false := by
  intro m
  induction m with
  | zero => intro h; omega
  | succ m ih =>
    intro hm
    by_cases e : k = m
    · subst e
      simp only [conts, Bool.and_eq_false_iff, decide_eq_false_iff_not]
      omega
    · have := ih (by omega)
      simp [conts, this]
theorem acc_bd {g : Nat → Int} {p : Nat} {h : Int} (h0 : 0 ≤ g p - h) (h1 : g p - h ≤ 127) : ∀ k, conts g p k = true → 0 ≤ acc g p h k ∧ acc g p h k ≤ 128 * 64 ^ k - 1 := by
  intro k
  induction k with
  | zero => intro _; simp only [acc]; omega
  | succ k ih =>
    intro hk
    simp only [conts, Bool.and_eq_true, decide_eq_true_eq] at hk
    obtain ⟨hk, ha, hb⟩ := hk
    obtain ⟨i1, i2⟩ := ih hk
    simp only [acc]
    have : (64 : Int) ^ (k + 1) = 64 ^ k * 64 := Int.pow_succ ..
    omega
/-- of a byte that begins a sequence of s bytes -/
theorem head_bd {x s : Int} (hx : 0 ≤ x) (h : len0 x = s) (hs : s ≠ 0) : 1 ≤ s ∧ s ≤ 4 ∧ 0 ≤ x - head0 s ∧ x - head0 s ≤ 127 := by
  rcases len0_cases x with ⟨h', hh⟩ | ⟨h', hh⟩ | ⟨h', hh⟩ | ⟨h', hh⟩ | ⟨h', hh⟩ <;> (rw [h'] at h; subst h; simp [head0] at *; try omega)
theorem seqAt_none {g : Nat → Int} {n p : Nat} (h : len0 (g p) = 0 ∨ (n : Int) - p < len0 (g p)) : seqAt g n p = (0, 0) := by
  simp [seqAt, h]
theorem seqAt_cont {g : Nat → Int} {n p k : Nat} {s : Int} (hs : len0 (g p) = s) (hk : (k : Int) < s - 1) (h : g (p + 1 + k) < 128 ∨ 191 < g (p + 1 + k)) : seqAt g n p = (0, 0) := by
  have := conts_not h (s - 1).toNat (by omega)
  unfold seqAt
  rw [hs]
  rw [this]
  split <;> simp
theorem seqAt_full {g : Nat → Int} {n p k : Nat} {s : Int} (hs : len0 (g p) = s) (_h0 : s ≠ 0) (hn : s ≤ (n : Int) - p) (hk : (k : Int) = s - 1) (hc : conts g p k = true) :
    seqAt g n p = if wid (acc g p (head0 s) k) = s then (acc g p (head0 s) k, s) else (0, 0) := by
  unfold seqAt
  rw [hs, show (s - 1).toNat = k from by omega]
  rw [if_neg (by omega)]
  simp [hc]

theorem seqAt_bd {g : Nat → Int} {n p : Nat} (hg : ∀ i, 0 ≤ g i ∧ g i ≤ 255) : seqAt g n p = (0, 0) ∨
    (1 ≤ (seqAt g n p).2 ∧ (seqAt g n p).2 ≤ 4 ∧ (p : Int) + (seqAt g n p).2 ≤ n ∧ wid (seqAt g n p).1 = (seqAt g n p).2 ∧ (seqAt g n p).2 = len0 (g p) ∧ conts g p ((seqAt g n p).2 - 1).toNat = true ∧ (seqAt g n p).1 = acc g p (head0 (seqAt g n p).2) ((seqAt g n p).2 - 1).toNat) := by
  unfold seqAt
  split
  · exact Or.inl rfl
  · split
    · rename_i h1 h2
      right
      have := head_bd (hg p).1 rfl (show len0 (g p) ≠ 0 by omega)
      exact ⟨this.1, this.2.1, by simp only; omega, h2.2, rfl, h2.1, rfl⟩
    · exact Or.inl rfl
theorem seqAt_num {g : Nat → Int} {n p : Nat} (hg : ∀ i, 0 ≤ g i ∧ g i ≤ 255) : 0 ≤ (seqAt g n p).1 ∧ (seqAt g n p).1 ≤ 1114111 ∧ 0 ≤ (seqAt g n p).2 ∧ (seqAt g n p).2 ≤ 4 ∧ ((p : Int) ≤ n → (p : Int) + (seqAt g n p).2 ≤ n) := by
  rcases seqAt_bd (n := n) (p := p) hg with h | ⟨h1, h2, h3, h4, _⟩
  · rw [h]; refine ⟨by simp, by simp, by simp, by simp, by simp⟩
  · rcases wid_cases (seqAt g n p).1 with ⟨a, _⟩ | ⟨a, _⟩ | ⟨a, _⟩ | ⟨a, _⟩ | ⟨a, _⟩ <;> omega

/-- the character at an offset below the length, and the offset behind it -/
def stepv (utf : Bool) (g : Nat → Int) (n p : Nat) : Int × Int := if utf = true ∧ 0 < (seqAt g n p).2 then ((seqAt g n p).1, p + (seqAt g n p).2) else (g p, p + 1)
/-- Next -/
def nextP (utf : Bool) (g : Nat → Int) (n : Nat) (a : Int) : Int × Int := if a < 0 ∨ (n : Int) ≤ a then (-1, a) else stepv utf g n a.toNat
/-- the longest of at most k bytes that are a sequence and end at p; k = 0: none -/
def lastSeq (g : Nat → Int) (n p : Nat) : Nat → Int × Int
  | 0 => (g (p - 1), p - 1)
  | k + 1 => if (seqAt g n (p - (k + 1))).2 = k + 1 then ((seqAt g n (p - (k + 1))).1, p - (k + 1)) else lastSeq g n p k
/-- Prev -/
def prevP (utf : Bool) (g : Nat → Int) (n : Nat) (a : Int) : Int × Int :=
  if a < 1 ∨ (n : Int) < a then (-1, a) else if utf = true then lastSeq g n a.toNat (min 4 a.toNat) else (g (a.toNat - 1), a - 1)
/-- Valid, from an offset on, so many sequences at the most -/
def validF (g : Nat → Int) (n : Nat) : Nat → Nat → Int × Bool
  | 0, p => (p, true)
  | f + 1, p => if p < n then (if (seqAt g n p).2 = 0 then (p, false) else validF g n f (p + (seqAt g n p).2.toNat)) else (p, true)
def validP (g : Nat → Int) (n : Nat) : Int × Bool := validF g n n 0
theorem validF_fuel (g : Nat → Int) (n : Nat) : ∀ f f' p, n - p ≤ f → n - p ≤ f' → (∀ q, 0 ≤ (seqAt g n q).2) → validF g n f p = validF g n f' p := by
  intro f
  induction f with
  | zero =>
    intro f' p h h' _
    cases f' with
    | zero => rfl
    | succ f' => simp only [validF]; rw [if_neg (by omega)]
  | succ f ih =>
    intro f' p h h' hs
    cases f' with
    | zero => simp only [validF]; rw [if_neg (by omega)]
    | succ f' =>
      simp only [validF]
      have := hs p
      split
      · split
        · rfl
        · exact ih _ _ (by omega) (by omega) hs
      · rfl
/-- where Next goes from an offset below the length -/
def stepN (utf : Bool) (g : Nat → Int) (n p : Nat) : Nat := (stepv utf g n p).2.toNat
theorem stepN_bd {utf : Bool} {g : Nat → Int} {n p : Nat} (hg : ∀ i, 0 ≤ g i ∧ g i ≤ 255) (hp : p < n) : p < stepN utf g n p ∧ stepN utf g n p ≤ n ∧ (stepv utf g n p).2 = stepN utf g n p := by
  have := seqAt_num (n := n) (p := p) hg
  unfold stepN stepv
  split <;> simp only <;> omega
/-- the edges behind an offset, so many at the most -/
def edgesF (utf : Bool) (g : Nat → Int) (n : Nat) : Nat → Nat → List Nat
  | 0, _ => []
  | f + 1, p => if p < n then stepN utf g n p :: edgesF utf g n f (stepN utf g n p) else []
theorem edgesF_fuel {utf : Bool} {g : Nat → Int} {n : Nat} (hg : ∀ i, 0 ≤ g i ∧ g i ≤ 255) : ∀ f f' p, n - p ≤ f → n - p ≤ f' → edgesF utf g n f p = edgesF utf g n f' p := by
  intro f
  induction f with
  | zero =>
    intro f' p h h'
    cases f' with
    | zero => rfl
    | succ f' => simp only [edgesF]; rw [if_neg (by omega)]
  | succ f ih =>
    intro f' p h h'
    cases f' with
    | zero => simp only [edgesF]; rw [if_neg (by omega)]
    | succ f' =>
      simp only [edgesF]
      split
      · rename_i hp
        have := stepN_bd (utf := utf) hg hp
        rw [ih f' _ (by omega) (by omega)]
      · rfl
/-- how many characters -/
def countP (utf : Bool) (g : Nat → Int) (n : Nat) : Nat := (edgesF utf g n n 0).length
/-- no sequence covers an offset -/
def good (g : Nat → Int) (n p : Nat) : Prop := ∀ q, q < p → (q : Int) + (seqAt g n q).2 ≤ p
theorem conts_get {g : Nat → Int} {p : Nat} : ∀ k, conts g p k = true → ∀ j, j < k → 128 ≤ g (p + 1 + j) ∧ g (p + 1 + j) ≤ 191 := by
  intro k
  induction k with
  | zero => intro _ j h; omega
  | succ k ih =>
    intro h j hj
    simp only [conts, Bool.and_eq_true, decide_eq_true_eq] at h
    by_cases e : j = k
    · subst e; exact h.2
    · exact ih h.1 j (by omega)
/-- within a sequence no other one begins -/
theorem inside {g : Nat → Int} {n p q : Nat} (hg : ∀ i, 0 ≤ g i ∧ g i ≤ 255) (h1 : p < q) (h2 : (q : Int) < p + (seqAt g n p).2) : (seqAt g n q) = (0, 0) := by
  rcases seqAt_bd (n := n) (p := p) hg with h | ⟨a, b, c, d, e, f, _⟩
  · rw [h] at h2; simp at h2; omega
  · have := conts_get _ f (q - p - 1) (by omega)
    rw [show p + 1 + (q - p - 1) = q from by omega] at this
    apply seqAt_none
    left
    rcases len0_cases (g q) with ⟨h, _⟩ | ⟨_, _⟩ | ⟨_, _⟩ | ⟨_, _⟩ | ⟨_, _⟩ <;> omega
theorem good_step {g : Nat → Int} {n p : Nat} (hg : ∀ i, 0 ≤ g i ∧ g i ≤ 255) (h : good g n p) : good g n (stepN true g n p) := by
  have hb := seqAt_num (n := n) (p := p) hg
  intro q hq
  unfold stepN stepv at *
  by_cases hs : 0 < (seqAt g n p).2
  · rw [if_pos ⟨rfl, hs⟩] at *
    simp only at *
    by_cases h1 : q < p
    · have := h q h1; omega
    by_cases h2 : q = p
    · subst h2; omega
    · rw [inside (p := p) hg (by omega) (by omega)]; simp only; omega
  · rw [if_neg (by omega)] at *
    simp only at *
    by_cases h1 : q < p
    · have := h q h1; omega
    · obtain rfl : q = p := by omega
      omega
theorem edges_good {g : Nat → Int} {n : Nat} (hg : ∀ i, 0 ≤ g i ∧ g i ≤ 255) : ∀ f p, n - p ≤ f → p ≤ n → good g n p → ∀ a, p ≤ a → a ≤ n → (a ∈ p :: edgesF true g n f p ↔ good g n a) := by
  intro f
  induction f with
  | zero =>
    intro p h hp hgood a h1 h2
    obtain rfl : a = p := by omega
    simp [hgood]
  | succ f ih =>
    intro p h hp hgood a h1 h2
    by_cases e : a = p
    · subst e; simp [hgood]
    have hpn : p < n := by omega
    have hs := stepN_bd (utf := true) hg hpn
    simp only [edgesF, if_pos hpn]
    by_cases h3 : a < stepN true g n p
    · constructor
      · intro hm
        exfalso
        have all : ∀ f p, n - p ≤ f → ∀ x ∈ edgesF true g n f p, p < x := by
          intro f
          induction f with
          | zero => intro p _ x hx; simp [edgesF] at hx
          | succ f ih2 =>
            intro p hf x hx
            simp only [edgesF] at hx
            split at hx
            · rename_i hp2
              have hs2 := stepN_bd (utf := true) hg hp2
              rcases List.mem_cons.1 hx with rfl | hx
              · exact hs2.1
              · have := ih2 _ (by omega) x hx; omega
            · simp at hx
        rcases List.mem_cons.1 hm with rfl | hm
        · exact e rfl
        rcases List.mem_cons.1 hm with rfl | hm
        · omega
        · have := all f _ (by omega) a hm; omega
      · intro hga
        exfalso
        have := hga p (by omega)
        unfold stepN stepv at h3
        split at h3 <;> simp only at h3 <;> omega
    · rw [List.mem_cons]
      rw [ih _ (by omega) hs.2.1 (good_step hg hgood) a (by omega) h2]
      exact or_iff_right e
theorem good_zero (g : Nat → Int) (n : Nat) : good g n 0 := fun q h => by omega

theorem validP_step {g : Nat → Int} {n p : Nat} (hg : ∀ i, 0 ≤ g i ∧ g i ≤ 255) (hp : p < n) : validF g n n p = if (seqAt g n p).2 = 0 then ((p : Int), false) else validF g n n (p + (seqAt g n p).2.toNat) := by
  obtain ⟨m, rfl⟩ : ∃ m, n = m + 1 := ⟨n - 1, by omega⟩
  rw [validF, if_pos hp]
  have := seqAt_num (n := m + 1) (p := p) hg
  split
  · rfl
  · exact validF_fuel _ _ _ _ _ (by omega) (by omega) (fun q => (seqAt_num hg).2.2.1)
theorem validP_end {g : Nat → Int} {n p : Nat} (hp : n ≤ p) : validF g n n p = ((p : Int), true) := by
  cases n with
  | zero => rfl
  | succ n => rw [validF, if_neg (by omega)]
theorem edges_step {utf : Bool} {g : Nat → Int} {n p : Nat} (hg : ∀ i, 0 ≤ g i ∧ g i ≤ 255) (hp : p < n) : edgesF utf g n n p = stepN utf g n p :: edgesF utf g n n (stepN utf g n p) := by
  obtain ⟨m, rfl⟩ : ∃ m, n = m + 1 := ⟨n - 1, by omega⟩
  rw [edgesF, if_pos hp]
  have := stepN_bd (utf := utf) hg hp
  rw [edgesF_fuel hg m (m + 1) _ (by omega) (by omega)]
theorem edges_end {utf : Bool} {g : Nat → Int} {n p : Nat} (hp : n ≤ p) : edgesF utf g n n p = [] := by
  cases n with
  | zero => rfl
  | succ n => rw [edgesF, if_neg (by omega)]
theorem edges_len {utf : Bool} {g : Nat → Int} {n : Nat} (hg : ∀ i, 0 ≤ g i ∧ g i ≤ 255) : ∀ f p, (edgesF utf g n f p).length ≤ n - p := by
  intro f
  induction f with
  | zero => intro p; simp [edgesF]
  | succ f ih =>
    intro p
    simp only [edgesF]
    split
    · rename_i hp
      have := stepN_bd (utf := utf) hg hp
      have := ih (stepN utf g n p)
      simp only [List.length_cons]
      omega
    · simp
theorem edges_false (g : Nat → Int) (n : Nat) : ∀ f p, n - p ≤ f → (edgesF false g n f p).length = n - p := by
  intro f
  induction f with
  | zero => intro p h; simp [edgesF]; omega
  | succ f ih =>
    intro p h
    simp only [edgesF]
    split
    · rename_i hp
      have e : stepN false g n p = p + 1 := by simp [stepN, stepv]
      rw [e, List.length_cons, ih _ (by omega)]
      omega
    · simp; omega
theorem countP_false (g : Nat → Int) (n : Nat) : countP false g n = n := by
  unfold countP; rw [edges_false g n n 0 (by omega)]; omega
theorem nextP_step (utf : Bool) (g : Nat → Int) (n p : Nat) (hg : ∀ i, 0 ≤ g i ∧ g i ≤ 255) (hp : p < n) : nextP utf g n (p : Int) = ((stepv utf g n p).1, ((stepN utf g n p : Nat) : Int)) := by
  unfold nextP
  rw [if_neg (by omega), ← (stepN_bd (utf := utf) hg hp).2.2]
  simp
/-- no sequence covers an offset -/
def goodB (g : Nat → Int) (n p : Nat) : Bool := (List.range p).all fun q => decide ((q : Int) + (seqAt g n q).2 ≤ p)
theorem goodB_iff {g : Nat → Int} {n p : Nat} : goodB g n p = true ↔ good g n p := by
  unfold goodB good
  simp [List.all_eq_true]
theorem goodB_yes {g : Nat → Int} {n p : Nat} (h : ∀ q, q < p → (q : Int) + (seqAt g n q).2 ≤ p) : goodB g n p = true := goodB_iff.2 h
theorem goodB_not {g : Nat → Int} {n p q : Nat} (h : q < p) (h2 : (p : Int) < q + (seqAt g n q).2) : goodB g n p = false := by
  rw [Bool.eq_false_iff]
  intro h3
  have := goodB_iff.1 h3 q h
  omega
/-- Edge -/
def edgeP (utf : Bool) (g : Nat → Int) (n : Nat) (a : Int) : Bool := if a < 0 ∨ (n : Int) < a then false else if utf = true then goodB g n a.toNat else true
end Go.Proofs.YtmphapcogmjgnaaDoor.utfp
