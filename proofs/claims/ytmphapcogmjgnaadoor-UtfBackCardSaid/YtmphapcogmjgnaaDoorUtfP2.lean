/- The plain mathematics that joins the document's Of with the sequences that package utf reads. No conditions. -/
import Derived.Test.YtmphapcogmjgnaaDoorUtfW3
namespace Go.Proofs.YtmphapcogmjgnaaDoor.utfw
open Go Go.RowKit Go.Proofs.YtmphapcogmjgnaaDoor.utfp

/-- the bytes from an offset on -/
def sh (g : Nat → Int) (p : Nat) : Nat → Int := fun i => g (p + i)
theorem ofP_neg {n : Nat} {g : Nat → Int} (h : enc (combo n g) ≠ (List.range n).map g) : ofP n g = -1 := by unfold ofP; rw [if_neg h]
theorem enc_nonneg {c : Int} (h : enc c ≠ []) : 0 ≤ c ∧ c ≤ 1114111 ∧ ¬ (55296 ≤ c ∧ c ≤ 57343) := by
  refine ⟨?_, ?_, ?_⟩
  all_goals
    by_cases hn : c < 0 ∨ 1114111 < c ∨ (55296 ≤ c ∧ c ≤ 57343)
    · exact absurd (enc0 hn) h
    · omega
theorem len0_1 {x : Int} (h : x < 128) : len0 x = 1 := by unfold len0; rw [if_pos h]
theorem len0_2 {x : Int} (h1 : 192 ≤ x) (h2 : x < 224) : len0 x = 2 := by unfold len0; rw [if_neg (by omega), if_neg (by omega), if_pos h2]
theorem len0_3 {x : Int} (h1 : 224 ≤ x) (h2 : x < 240) : len0 x = 3 := by unfold len0; rw [if_neg (by omega), if_neg (by omega), if_neg (by omega), if_pos h2]
theorem len0_4 {x : Int} (h1 : 240 ≤ x) (h2 : x < 248) : len0 x = 4 := by unfold len0; rw [if_neg (by omega), if_neg (by omega), if_neg (by omega), if_neg (by omega), if_pos h2]
theorem wid_1 {c : Int} (h1 : 0 ≤ c) (h2 : c < 128) : wid c = 1 := by unfold wid; rw [if_neg (by omega), if_pos h2]
theorem wid_2 {c : Int} (h1 : 128 ≤ c) (h2 : c < 2048) : wid c = 2 := by unfold wid; rw [if_neg (by omega), if_neg (by omega), if_pos h2]
theorem wid_3 {c : Int} (h1 : 2048 ≤ c) (h2 : c < 65536) (h3 : ¬ (55296 ≤ c ∧ c ≤ 57343)) : wid c = 3 := by unfold wid; rw [if_neg (by omega), if_neg (by omega), if_neg (by omega), if_pos h2]
theorem wid_4 {c : Int} (h1 : 65536 ≤ c) (h2 : c ≤ 1114111) : wid c = 4 := by unfold wid; rw [if_neg (by omega), if_neg (by omega), if_neg (by omega), if_neg (by omega)]

/-- a code point that is read off bytes that are its sequence -/
theorem seq_make {g : Nat → Int} {n p k : Nat} {c : Int} (hk : p + k ≤ n) (he : enc c = (List.range k).map (sh g p)) (hk1 : 1 ≤ k) : seqAt g n p = (c, (k : Int)) := by
  have hne : enc c ≠ [] := by
    rw [he]
    cases k with
    | zero => omega
    | succ k => simp [List.range_succ]
  obtain ⟨c0, c1, c2⟩ := enc_nonneg hne
  by_cases h1 : c < 128
  · rw [enc1 c0 h1] at he
    have hl := congrArg List.length he
    simp at hl
    subst hl
    simp [List.range_succ, sh] at he
    unfold seqAt
    rw [len0_1 (by omega), if_neg (by omega)]
    simp [conts, acc, head0, ← he, wid_1 c0 h1]
  by_cases h2 : c < 2048
  · rw [enc2 (by omega) h2] at he
    have hl := congrArg List.length he
    simp at hl
    subst hl
    simp [List.range_succ, sh] at he
    obtain ⟨e0, e1⟩ := he
    unfold seqAt
    rw [len0_2 (by omega) (by omega), if_neg (by omega)]
    have ha : acc g p (head0 2) (2 - 1 : Int).toNat = c := by simp [acc, head0]; omega
    rw [ha, wid_2 (by omega) h2]
    rw [if_pos ⟨by simp [conts]; omega, rfl⟩]
    rfl
  by_cases h3 : c < 65536
  · rw [enc3 (by omega) h3 (by omega)] at he
    have hl := congrArg List.length he
    simp at hl
    subst hl
    simp [List.range_succ, sh] at he
    obtain ⟨e0, e1, e2⟩ := he
    unfold seqAt
    rw [len0_3 (by omega) (by omega), if_neg (by omega)]
    have ha : acc g p (head0 3) (3 - 1 : Int).toNat = c := by simp [acc, head0, Nat.add_assoc]; omega
    rw [ha, wid_3 (by omega) h3 c2]
    rw [if_pos ⟨by simp [conts, Nat.add_assoc]; omega, rfl⟩]
    rfl
  · rw [enc4 (by omega) c1] at he
    have hl := congrArg List.length he
    simp at hl
    subst hl
    simp [List.range_succ, sh] at he
    obtain ⟨e0, e1, e2, e3⟩ := he
    unfold seqAt
    rw [len0_4 (by omega) (by omega), if_neg (by omega)]
    have ha : acc g p (head0 4) (4 - 1 : Int).toNat = c := by simp [acc, head0, Nat.add_assoc]; omega
    rw [ha, wid_4 (by omega) c1]
    rw [if_pos ⟨by simp [conts, Nat.add_assoc]; omega, rfl⟩]
    rfl
/-- the bytes of a sequence that is read are its code point's -/
theorem seq_bytes {g : Nat → Int} {n p : Nat} (hg : ∀ i, 0 ≤ g i ∧ g i ≤ 255) (h : (seqAt g n p).2 ≠ 0) :
    enc (seqAt g n p).1 = (List.range (seqAt g n p).2.toNat).map (sh g p) ∧ combo (seqAt g n p).2.toNat (sh g p) = (seqAt g n p).1 := by
  rcases seqAt_bd (n := n) (p := p) hg with h0 | ⟨h1, h2, h3, h4, h5, h6, h7⟩
  · rw [h0] at h; exact absurd rfl h
  generalize seqAt g n p = r at *
  obtain ⟨c, s⟩ := r
  simp only at *
  have hl := len0_cases (g p)
  have hs : s = 1 ∨ s = 2 ∨ s = 3 ∨ s = 4 := by omega
  have hw := wid_cases c
  rcases hs with rfl | rfl | rfl | rfl
  · simp [acc, head0] at h7
    simp [List.range_succ, sh, combo]
    refine ⟨?_, by omega⟩
    rw [enc1 (by omega) (by omega)]
    simp [h7]
  · simp [conts] at h6
    simp [acc, head0] at h7
    simp [List.range_succ, sh, combo]
    refine ⟨?_, by omega⟩
    rw [enc2 (by omega) (by omega)]
    simp
    omega
  · simp [conts, Nat.add_assoc] at h6
    simp [acc, head0, Nat.add_assoc] at h7
    simp [List.range_succ, sh, combo]
    refine ⟨?_, by omega⟩
    rw [enc3 (by omega) (by omega) (by omega)]
    simp
    omega
  · simp [conts, Nat.add_assoc] at h6
    simp [acc, head0, Nat.add_assoc] at h7
    simp [List.range_succ, sh, combo]
    refine ⟨?_, by omega⟩
    rw [enc4 (by omega) (by omega)]
    simp
    omega
theorem seq_of_of {g : Nat → Int} {n p k : Nat} (hk1 : 1 ≤ k) (hk : p + k ≤ n) (h : 0 ≤ ofP k (sh g p)) : seqAt g n p = (ofP k (sh g p), (k : Int)) := by
  unfold ofP at h ⊢
  by_cases he : enc (combo k (sh g p)) = (List.range k).map (sh g p)
  · rw [if_pos he]
    exact seq_make hk he hk1
  · rw [if_neg he] at h; omega
theorem of_of_seq {g : Nat → Int} {n p k : Nat} (hg : ∀ i, 0 ≤ g i ∧ g i ≤ 255) (hk1 : 1 ≤ k) (h : (seqAt g n p).2 = k) : ofP k (sh g p) = (seqAt g n p).1 := by
  have := seq_bytes (n := n) (p := p) hg (by omega)
  rw [h] at this
  simp only [Int.toNat_natCast] at this
  unfold ofP
  rw [this.2, if_pos this.1]
end Go.Proofs.YtmphapcogmjgnaaDoor.utfw
