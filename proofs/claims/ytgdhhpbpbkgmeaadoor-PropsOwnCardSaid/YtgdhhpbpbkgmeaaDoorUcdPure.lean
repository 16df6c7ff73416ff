/- Layer 2, plain: the table, as the program has it (blocks of rows, each with its last number) and as the document has it (rows with both ends); other cases. -/
import Derived.Test.YtgdhhpbpbkgmeaaDoorRows
namespace Go.Proofs.YtgdhhpbpbkgmeaaDoor.ucdp

/-- the texts of the categories, by numbers of ours -/
def catB (k : Nat) : ByteArray := match k with
  | 1 => ⟨#[67, 99]⟩
  | 2 => ⟨#[90, 115]⟩
  | 3 => ⟨#[80, 111]⟩
  | 4 => ⟨#[83, 99]⟩
  | 5 => ⟨#[80, 115]⟩
  | 6 => ⟨#[80, 101]⟩
  | 7 => ⟨#[83, 109]⟩
  | 8 => ⟨#[80, 100]⟩
  | 9 => ⟨#[78, 100]⟩
  | 10 => ⟨#[76, 117]⟩
  | 11 => ⟨#[83, 107]⟩
  | 12 => ⟨#[80, 99]⟩
  | 13 => ⟨#[76, 108]⟩
  | 14 => ⟨#[83, 111]⟩
  | 15 => ⟨#[76, 111]⟩
  | 16 => ⟨#[80, 105]⟩
  | 17 => ⟨#[67, 102]⟩
  | 18 => ⟨#[78, 111]⟩
  | 19 => ⟨#[80, 102]⟩
  | 20 => ⟨#[67, 110]⟩
  | 21 => ⟨#[77, 110]⟩
  | 22 => ⟨#[90, 108]⟩
  | 23 => ⟨#[90, 112]⟩
  | _ => ⟨#[]⟩
/-- the texts of the scripts, by numbers of ours -/
def scrB (k : Nat) : ByteArray := match k with
  | 1 => ⟨#[67, 111, 109, 109, 111, 110]⟩
  | 2 => ⟨#[76, 97, 116, 105, 110]⟩
  | 3 => ⟨#[85, 110, 107, 110, 111, 119, 110]⟩
  | 4 => ⟨#[73, 110, 104, 101, 114, 105, 116, 101, 100]⟩
  | 5 => ⟨#[71, 114, 101, 101, 107]⟩
  | 6 => ⟨#[67, 121, 114, 105, 108, 108, 105, 99]⟩
  | 7 => ⟨#[72, 101, 98, 114, 101, 119]⟩
  | 8 => ⟨#[65, 114, 97, 98, 105, 99]⟩
  | 9 => ⟨#[72, 105, 114, 97, 103, 97, 110, 97]⟩
  | 10 => ⟨#[72, 97, 110]⟩
  | _ => ⟨#[]⟩
/-- the program's blocks of rows: the last number, category, script, shift -/
def tab : List (List (Int × Nat × Nat × Int)) := [
  [(-1, 0, 0, 0), (31, 1, 1, 0), (32, 2, 1, 0), (35, 3, 1, 0), (36, 4, 1, 0), (39, 3, 1, 0), (40, 5, 1, 0), (41, 6, 1, 0), (42, 3, 1, 0), (43, 7, 1, 0), (44, 3, 1, 0)],
  [(45, 8, 1, 0), (47, 3, 1, 0), (57, 9, 1, 0), (59, 3, 1, 0), (62, 7, 1, 0), (64, 3, 1, 0), (90, 10, 2, 32), (91, 5, 1, 0), (92, 3, 1, 0), (93, 6, 1, 0), (94, 11, 1, 0)],
  [(95, 12, 1, 0), (96, 11, 1, 0), (122, 13, 2, -32), (123, 5, 1, 0), (124, 7, 1, 0), (125, 6, 1, 0), (126, 7, 1, 0), (159, 1, 1, 0), (160, 2, 1, 0), (161, 3, 1, 0), (165, 4, 1, 0)],
  [(166, 14, 1, 0), (167, 3, 1, 0), (168, 11, 1, 0), (169, 14, 1, 0), (170, 15, 2, 0), (171, 16, 1, 0), (172, 7, 1, 0), (173, 17, 1, 0), (174, 14, 1, 0), (175, 11, 1, 0), (176, 14, 1, 0)],
  [(177, 7, 1, 0), (179, 18, 1, 0), (180, 11, 1, 0), (181, 13, 1, 0), (183, 3, 1, 0), (184, 11, 1, 0), (185, 18, 1, 0), (186, 15, 2, 0), (187, 19, 1, 0), (190, 18, 1, 0), (191, 3, 1, 0)],
  [(214, 10, 2, 32), (215, 7, 1, 0), (222, 10, 2, 32), (223, 13, 2, 0), (246, 13, 2, -32), (247, 7, 1, 0), (254, 13, 2, -32), (255, 13, 2, 0), (382, 20, 3, 0), (383, 13, 2, 0), (767, 20, 3, 0)],
  [(879, 21, 4, 0), (912, 20, 3, 0), (929, 10, 5, 32), (930, 20, 3, 0), (939, 10, 5, 32), (944, 20, 3, 0), (961, 13, 5, -32), (962, 13, 5, 0), (971, 13, 5, -32), (1039, 20, 3, 0), (1071, 10, 6, 32)],
  [(1103, 13, 6, -32), (1487, 20, 3, 0), (1514, 15, 7, 0), (1631, 20, 3, 0), (1641, 9, 8, 0), (8191, 20, 3, 0), (8202, 2, 1, 0), (8231, 20, 3, 0), (8232, 22, 1, 0), (8233, 23, 1, 0), (8363, 20, 3, 0)],
  [(8364, 4, 1, 0), (8489, 20, 3, 0), (8490, 10, 2, 0), (12352, 20, 3, 0), (12438, 15, 9, 0), (19967, 20, 3, 0), (40959, 15, 10, 0), (127743, 20, 3, 0), (128511, 14, 1, 0), (1114111, 20, 3, 0), (9223372036854775807, 0, 0, 0)]]
/-- the document's rows up to 159: from, to, category, script, shift -/
def low : List (Int × Int × Nat × Nat × Int) := [(0, 31, 1, 1, 0), (32, 32, 2, 1, 0), (33, 35, 3, 1, 0), (36, 36, 4, 1, 0), (37, 39, 3, 1, 0), (40, 40, 5, 1, 0),
  (41, 41, 6, 1, 0), (42, 42, 3, 1, 0), (43, 43, 7, 1, 0), (44, 44, 3, 1, 0), (45, 45, 8, 1, 0), (46, 47, 3, 1, 0),
  (48, 57, 9, 1, 0), (58, 59, 3, 1, 0), (60, 62, 7, 1, 0), (63, 64, 3, 1, 0), (65, 90, 10, 2, 32), (91, 91, 5, 1, 0),
  (92, 92, 3, 1, 0), (93, 93, 6, 1, 0), (94, 94, 11, 1, 0), (95, 95, 12, 1, 0), (96, 96, 11, 1, 0), (97, 122, 13, 2, -32),
  (123, 123, 5, 1, 0), (124, 124, 7, 1, 0), (125, 125, 6, 1, 0), (126, 126, 7, 1, 0), (127, 159, 1, 1, 0)]
/-- the document's rows from 160 on -/
def high : List (Int × Int × Nat × Nat × Int) := [(160, 160, 2, 1, 0), (161, 161, 3, 1, 0), (162, 165, 4, 1, 0), (166, 166, 14, 1, 0), (167, 167, 3, 1, 0), (168, 168, 11, 1, 0),
  (169, 169, 14, 1, 0), (170, 170, 15, 2, 0), (171, 171, 16, 1, 0), (172, 172, 7, 1, 0), (173, 173, 17, 1, 0), (174, 174, 14, 1, 0),
  (175, 175, 11, 1, 0), (176, 176, 14, 1, 0), (177, 177, 7, 1, 0), (178, 179, 18, 1, 0), (180, 180, 11, 1, 0), (181, 181, 13, 1, 0),
  (182, 183, 3, 1, 0), (184, 184, 11, 1, 0), (185, 185, 18, 1, 0), (186, 186, 15, 2, 0), (187, 187, 19, 1, 0), (188, 190, 18, 1, 0),
  (191, 191, 3, 1, 0), (192, 214, 10, 2, 32), (215, 215, 7, 1, 0), (216, 222, 10, 2, 32), (223, 223, 13, 2, 0), (224, 246, 13, 2, -32),
  (247, 247, 7, 1, 0), (248, 254, 13, 2, -32), (255, 255, 13, 2, 0), (383, 383, 13, 2, 0), (768, 879, 21, 4, 0), (913, 929, 10, 5, 32),
  (931, 939, 10, 5, 32), (945, 961, 13, 5, -32), (962, 962, 13, 5, 0), (963, 971, 13, 5, -32), (1040, 1071, 10, 6, 32), (1072, 1103, 13, 6, -32),
  (1488, 1514, 15, 7, 0), (1632, 1641, 9, 8, 0), (8192, 8202, 2, 1, 0), (8232, 8232, 22, 1, 0), (8233, 8233, 23, 1, 0), (8364, 8364, 4, 1, 0),
  (8490, 8490, 10, 2, 0), (12353, 12438, 15, 9, 0), (19968, 40959, 15, 10, 0), (127744, 128511, 14, 1, 0)]
def rows : List (Int × Int × Nat × Nat × Int) := low ++ high
def tabAt (b p : Nat) : Int × Nat × Nat × Int := (tab.getD b []).getD p (0, 0, 0, 0)
def hi (b p : Nat) : Int := (tabAt b p).1
def lo (b p : Nat) : Int := if p = 0 then (if b = 0 then -9223372036854775809 else hi (b - 1) 10) else hi b (p - 1)
def inRow (c : Int) (r : Int × Int × Nat × Nat × Int) : Bool := decide (r.1 ≤ c) && decide (c ≤ r.2.1)
/-- what the document's table says of a number: category, script, shift -/
def cls (c : Int) : Nat × Nat × Int := if c < 0 ∨ 1114111 < c then (0, 0, 0) else match rows.find? (inRow c) with
  | some r => r.2.2
  | none => (20, 3, 0)
/-- where something changes -/
def thr : List Int := (-1) :: 1114111 :: rows.flatMap fun r => [r.1 - 1, r.2.1]

theorem find_congr {α : Type} {p q : α → Bool} {l : List α} (h : ∀ x ∈ l, p x = q x) : l.find? p = l.find? q := by
  induction l with
  | nil => rfl
  | cons x l ih =>
    simp only [List.find?_cons, h x (by simp)]
    rw [ih fun y hy => h y (by simp [hy])]
theorem cls_congr {c d : Int} (h : ∀ t ∈ thr, (c ≤ t ↔ d ≤ t)) : cls c = cls d := by
  have h1 := h (-1) (by simp [thr])
  have h2 := h 1114111 (by simp [thr])
  have hr : rows.find? (inRow c) = rows.find? (inRow d) := find_congr fun r hr => by
    have e1 := h (r.1 - 1) (by simp only [thr, List.mem_cons, List.mem_flatMap]; exact Or.inr (Or.inr ⟨r, hr, by simp⟩))
    have e2 := h r.2.1 (by simp only [thr, List.mem_cons, List.mem_flatMap]; exact Or.inr (Or.inr ⟨r, hr, by simp⟩))
    unfold inRow
    rw [decide_eq_decide.2 e2, decide_eq_decide.2 (show r.1 ≤ c ↔ r.1 ≤ d by omega)]
  unfold cls
  rw [hr]
  by_cases a : c < 0 ∨ 1114111 < c
  · rw [if_pos a, if_pos (by omega)]
  · rw [if_neg a, if_neg (by omega)]
/-- a row of the program's table is the document's -/
def check (b p : Nat) : Bool := thr.all (fun t => decide (t ≤ lo b p) || decide (hi b p ≤ t)) && (cls (hi b p) == (tabAt b p).2)
theorem check_all : ((List.range 9).all fun b => (List.range 11).all fun p => check b p) = true := by decide +kernel
theorem cls_at {b p : Nat} {c : Int} (hb : b < 9) (hp : p < 11) (h1 : lo b p < c) (h2 : c ≤ hi b p) : cls c = (tabAt b p).2 := by
  have h := List.all_eq_true.1 (List.all_eq_true.1 check_all b (by simpa using hb)) p (by simpa using hp)
  unfold check at h
  rw [Bool.and_eq_true, List.all_eq_true] at h
  obtain ⟨ht, he⟩ := h
  rw [← eq_of_beq he]
  refine cls_congr fun t hm => ?_
  have := ht t hm
  simp only [Bool.or_eq_true, decide_eq_true_eq] at this
  omega
theorem hi_last : hi 8 10 = 9223372036854775807 := rfl

/-- the other cases of a number -/
def othersP (c : Int) (u : Bool) : List Int :=
  if u = false then (if 65 ≤ c ∧ c ≤ 90 then [c + 32] else if 97 ≤ c ∧ c ≤ 122 then [c - 32] else [])
  else if c = 75 then [107, 8490] else if c = 107 then [75, 8490] else if c = 8490 then [75, 107]
  else if c = 83 then [115, 383] else if c = 115 then [83, 383] else if c = 383 then [83, 115]
  else if c = 181 then [924, 956] else if c = 924 then [181, 956] else if c = 956 then [181, 924]
  else if c = 931 then [962, 963] else if c = 962 then [931, 963] else if c = 963 then [931, 962]
  else if (cls c).2.2 = 0 then [] else [c + (cls c).2.2]
/-- the number is in none of the sets of three -/
def Single (c : Int) : Prop := c ≠ 75 ∧ c ≠ 107 ∧ c ≠ 8490 ∧ c ≠ 83 ∧ c ≠ 115 ∧ c ≠ 383 ∧ c ≠ 181 ∧ c ≠ 924 ∧ c ≠ 956 ∧ c ≠ 931 ∧ c ≠ 962 ∧ c ≠ 963
theorem others_single {c : Int} (h : Single c) : othersP c true = if (cls c).2.2 = 0 then [] else [c + (cls c).2.2] := by
  obtain ⟨h1, h2, h3, h4, h5, h6, h7, h8, h9, h10, h11, h12⟩ := h
  unfold othersP
  rw [if_neg (by simp), if_neg h1, if_neg h2, if_neg h3, if_neg h4, if_neg h5, if_neg h6, if_neg h7, if_neg h8, if_neg h9, if_neg h10, if_neg h11, if_neg h12]
theorem cls_row (c : Int) : cls c = (0, 0, 0) ∧ (c < 0 ∨ 1114111 < c) ∨ (0 ≤ c ∧ c ≤ 1114111 ∧ (cls c = (20, 3, 0) ∨ ∃ r ∈ rows, r.1 ≤ c ∧ c ≤ r.2.1 ∧ cls c = r.2.2)) := by
  unfold cls
  by_cases a : c < 0 ∨ 1114111 < c
  · rw [if_pos a]; exact Or.inl ⟨rfl, a⟩
  · rw [if_neg a]
    refine Or.inr ⟨by omega, by omega, ?_⟩
    cases h : rows.find? (inRow c) with
    | none => exact Or.inl rfl
    | some r =>
      have h1 := List.mem_of_find?_eq_some h
      have h2 := List.find?_some h
      simp only [inRow, Bool.and_eq_true, decide_eq_true_eq] at h2
      exact Or.inr ⟨r, h1, h2.1, h2.2, rfl⟩
theorem shift_small {c : Int} (h : (cls c).2.2 ≠ 0) : 0 ≤ c ∧ c < 1104 := by
  have all : (rows.all fun r => r.2.2.2.2 == 0 || (decide (0 ≤ r.1) && decide (r.2.1 < 1104))) = true := by decide +kernel
  rcases cls_row c with ⟨e, _⟩ | ⟨_, _, e | ⟨r, hr, h1, h2, e⟩⟩
  · rw [e] at h; exact absurd rfl h
  · rw [e] at h; exact absurd rfl h
  · have := List.all_eq_true.1 all r hr
    rw [e] at h
    simp only [Bool.or_eq_true, Bool.and_eq_true, decide_eq_true_eq, beq_iff_eq] at this
    rcases this with h3 | ⟨h3, h4⟩
    · exact absurd h3 h
    · omega
theorem shift_bd (c : Int) : -32 ≤ (cls c).2.2 ∧ (cls c).2.2 ≤ 32 := by
  have all : (rows.all fun r => decide (-32 ≤ r.2.2.2.2) && decide (r.2.2.2.2 ≤ 32)) = true := by decide +kernel
  rcases cls_row c with ⟨e, _⟩ | ⟨_, _, e | ⟨r, hr, h1, h2, e⟩⟩
  · rw [e]; decide
  · rw [e]; decide
  · have := List.all_eq_true.1 all r hr
    simp only [Bool.and_eq_true, decide_eq_true_eq] at this
    rw [e]
    exact this
end Go.Proofs.YtgdhhpbpbkgmeaaDoor.ucdp
