/- What the document's rows say of a property's name, plainly: it is what category and script say. -/
import Derived.Test.YtgdhhpbpbkgmeaaDoorPropsW7
namespace Go.Proofs.YtgdhhpbpbkgmeaaDoor.prd
open Go.Proofs.YtgdhhpbpbkgmeaaDoor.ucdp Go.Proofs.YtgdhhpbpbkgmeaaDoor.setp Go.Proofs.YtgdhhpbpbkgmeaaDoor.prp Go.Proofs.YtgdhhpbpbkgmeaaDoor.prw

def cLu : ByteArray := ⟨#[76, 117]⟩
def cLl : ByteArray := ⟨#[76, 108]⟩
def cLL : ByteArray := ⟨#[76, 38]⟩
def cAny : ByteArray := ⟨#[65, 110, 121]⟩
/-- does a row of such a category belong to the name? -/
def mc (n : ByteArray) (k : Nat) : Bool := decide (catB k = n) || (decide (n.size = 1) && decide ((catB k).extract 0 1 = n)) || (decide (n = cLL) && (decide (catB k = cLu) || decide (catB k = cLl)))
/-- does a row of such a category and such a script belong to the name? -/
def mB (n : ByteArray) (k s : Nat) : Bool := (decide (catB k = n) || decide (scrB s = n)) || (decide (n.size = 1) && decide ((catB k).extract 0 1 = n)) || (decide (n = cLL) && (decide (catB k = cLu) || decide (catB k = cLl)))
theorem mB_mc (n : ByteArray) (k s : Nat) : mB n k s = (mc n k || decide (scrB s = n)) := by
  unfold mB mc
  cases decide (catB k = n) <;> cases decide (scrB s = n) <;> simp
def cnB (n : ByteArray) : Bool := (decide (n = ⟨#[67, 110]⟩) || decide (n = ⟨#[67]⟩)) || decide (n = ⟨#[85, 110, 107, 110, 111, 119, 110]⟩)
def hk (p : ByteArray × Int) (k : Nat) : Bool := if p.2 = 2 then pre (catB k) p.1 else if p.2 = 3 then cased (catB k) else false
theorem kinds_chk : (kinds.all fun p => p.2 == 1 || (((List.range 24).all fun k => k == 0 || mc p.1 k == hk p k) && ((List.range 11).all fun s => s == 0 || decide (scrB s = p.1) == (p.2 == 4 && decide (scrB s = p.1))))) = true := by decide +kernel
theorem kinds_any : (kinds.all fun p => !(p.2 == 1) || decide (p.1 = cAny)) = true := by decide +kernel
theorem kinds_val : (kinds.all fun p => p.2 == 1 || p.2 == 2 || p.2 == 3 || p.2 == 4) = true := by decide +kernel
theorem kinds_row : (kinds.all fun p => p.2 == 1 || (rows.any fun r => mB p.1 r.2.2.1 r.2.2.2.1) || cnB p.1) = true := by decide +kernel
theorem cat_kind : ((List.range 24).all fun k => k == 0 || (kind (catB k) == 2 && kind ((catB k).extract 0 1) == 2)) = true := by decide +kernel
theorem scr_kind : ((List.range 11).all fun s => s == 0 || kind (scrB s) == 4) = true := by decide +kernel
theorem ll_kind : kind cLL = 3 := by decide +kernel
theorem any_kind : kind cAny = 1 := by decide +kernel
theorem lookP_mem (n : ByteArray) : ∀ {l : List (ByteArray × Int)}, lookP l n 0 ≠ 0 → (n, lookP l n 0) ∈ l
  | [], h => absurd rfl h
  | (k, v) :: l, h => by
    unfold lookP at h ⊢
    by_cases e : n = k
    · subst e
      rw [if_pos rfl]
      exact List.mem_cons_self ..
    · rw [if_neg e] at h ⊢
      exact List.mem_cons_of_mem _ (lookP_mem n h)
theorem kind_any {n : ByteArray} (h : kind n = 1) : n = cAny := by
  have hm : (n, kind n) ∈ kinds := lookP_mem n (by show kind n ≠ 0; omega)
  have := List.all_eq_true.1 kinds_any _ hm
  simpa [h] using this
theorem kind_in (n : ByteArray) : kind n = 0 ∨ kind n = 1 ∨ kind n = 2 ∨ kind n = 3 ∨ kind n = 4 := by
  by_cases h : kind n = 0
  · exact Or.inl h
  · have hm : (n, kind n) ∈ kinds := lookP_mem n h
    have := List.all_eq_true.1 kinds_val _ hm
    simp only [Bool.or_eq_true, beq_iff_eq] at this
    omega
theorem isP_iff (n : ByteArray) : isP n = true ↔ kind n ≠ 0 := by
  unfold isP
  simp only [Bool.or_eq_true, decide_eq_true_eq]
  have := kind_in n
  omega
theorem mB_kind {n : ByteArray} {k s : Nat} (hk : 1 ≤ k ∧ k ≤ 23) (hs : 1 ≤ s ∧ s ≤ 10) (h : mB n k s = true) : kind n ≠ 0 := by
  have h1 := List.all_eq_true.1 cat_kind k (by simp; omega)
  have h2 := List.all_eq_true.1 scr_kind s (by simp; omega)
  simp only [Bool.or_eq_true, Bool.and_eq_true, beq_iff_eq] at h1 h2
  unfold mB at h
  simp only [Bool.or_eq_true, Bool.and_eq_true, decide_eq_true_eq] at h
  rcases h with ((h | h) | h) | h
  · rw [← h]; omega
  · rw [← h]; omega
  · rw [← h.2]; omega
  · rw [h.1, ll_kind]; omega
theorem mB_hp {n : ByteArray} (hn : n ≠ cAny) {k s : Nat} (h1 : 1 ≤ k ∧ k ≤ 23) (h2 : 1 ≤ s ∧ s ≤ 10) : mB n k s = hp n k s := by
  have hk1 : kind n ≠ 1 := fun e => hn (kind_any e)
  by_cases h0 : kind n = 0
  · have : mB n k s = false := Bool.eq_false_iff.2 fun e => mB_kind h1 h2 e h0
    rw [this]
    unfold hp
    rw [h0]
    rfl
  · have hm : (n, kind n) ∈ kinds := lookP_mem n h0
    have hc := List.all_eq_true.1 kinds_chk _ hm
    simp only [Bool.or_eq_true, Bool.and_eq_true, beq_iff_eq, List.all_eq_true, List.mem_range] at hc
    rcases hc with hc | ⟨hc1, hc2⟩
    · exact absurd hc hk1
    · have e1 := hc1 k (by omega)
      have e2 := hc2 s (by omega)
      have e1' : mc n k = hk (n, kind n) k := by
        rcases e1 with e | e
        · omega
        · exact e
      have e2' : decide (scrB s = n) = (kind n == 4 && decide (scrB s = n)) := by
        rcases e2 with e | e
        · omega
        · exact e
      rw [mB_mc, e1', e2']
      unfold hk hp
      rcases kind_in n with e | e | e | e | e
      · exact absurd e h0
      · exact absurd e hk1
      · rw [e]; simp
      · rw [e]; simp
      · rw [e]; simp
theorem mB_none (n : ByteArray) : mB n 20 3 = cnB n := by
  have a1 : (catB 20).extract 0 1 = ⟨#[67]⟩ := by decide +kernel
  have a2 : catB 20 = ⟨#[67, 110]⟩ := rfl
  have a3 : scrB 3 = ⟨#[85, 110, 107, 110, 111, 119, 110]⟩ := rfl
  have a4 : decide (catB 20 = cLu) = false := by decide +kernel
  have a5 : decide (catB 20 = cLl) = false := by decide +kernel
  unfold mB cnB
  rw [a4, a5, a1, a2, a3]
  have e1 : (decide (n.size = 1) && decide ((⟨#[67]⟩ : ByteArray) = n)) = decide (n = ⟨#[67]⟩) := by
    rw [Bool.eq_iff_iff]
    simp only [Bool.and_eq_true, decide_eq_true_eq]
    exact ⟨fun h => h.2.symm, fun h => by subst h; exact ⟨rfl, rfl⟩⟩
  rw [e1]
  rw [show decide ((⟨#[67, 110]⟩ : ByteArray) = n) = decide (n = ⟨#[67, 110]⟩) from decide_eq_decide.2 eq_comm, show decide ((⟨#[85, 110, 107, 110, 111, 119, 110]⟩ : ByteArray) = n) = decide (n = ⟨#[85, 110, 107, 110, 111, 119, 110]⟩) from decide_eq_decide.2 eq_comm]
  cases decide (n = ⟨#[67, 110]⟩) <;> cases decide (n = ⟨#[67]⟩) <;> cases decide (n = ⟨#[85, 110, 107, 110, 111, 119, 110]⟩) <;> simp

def rw5 (i : Nat) : Int × Int × Nat × Nat × Int := rows.getD i (0, 0, 0, 0, 0)
/-- the rows that belong to the name, of the first k -/
def dl (n : ByteArray) : Nat → List Rg
  | 0 => []
  | k + 1 => if mB n (rw5 k).2.2.1 (rw5 k).2.2.2.1 = true then dl n k ++ [((rw5 k).1, (rw5 k).2.1)] else dl n k
def da : Nat → List Rg
  | 0 => []
  | k + 1 => da k ++ [((rw5 k).1, (rw5 k).2.1)]
theorem dl_succ (n : ByteArray) (k : Nat) : dl n (k + 1) = if mB n (rw5 k).2.2.1 (rw5 k).2.2.2.1 = true then dl n k ++ [((rw5 k).1, (rw5 k).2.1)] else dl n k := rfl
theorem dl_len (n : ByteArray) : ∀ k, (dl n k).length ≤ k
  | 0 => Nat.le_refl _
  | k + 1 => by
    have := dl_len n k
    rw [dl_succ]
    split
    · simp; omega
    · omega
theorem da_len : ∀ k, (da k).length = k
  | 0 => rfl
  | k + 1 => by simp [da, da_len k]
theorem dl_has (n : ByteArray) (c : Int) : ∀ k, Has (dl n k) c ↔ ∃ i, i < k ∧ mB n (rw5 i).2.2.1 (rw5 i).2.2.2.1 = true ∧ (rw5 i).1 ≤ c ∧ c ≤ (rw5 i).2.1
  | 0 => by simp [dl, Has]
  | k + 1 => by
    have ih := dl_has n c k
    rw [dl_succ]
    by_cases hk : mB n (rw5 k).2.2.1 (rw5 k).2.2.2.1 = true
    · rw [if_pos hk, has_append, has_one, ih]
      constructor
      · rintro (⟨i, hi, a⟩ | a)
        · exact ⟨i, by omega, a⟩
        · exact ⟨k, by omega, hk, a⟩
      · rintro ⟨i, hi, a⟩
        by_cases e : i = k
        · subst e; exact Or.inr a.2
        · exact Or.inl ⟨i, by omega, a⟩
    · rw [if_neg hk, ih]
      constructor
      · rintro ⟨i, hi, a⟩
        exact ⟨i, by omega, a⟩
      · rintro ⟨i, hi, a⟩
        by_cases e : i = k
        · subst e; exact absurd a.1 hk
        · exact ⟨i, by omega, a⟩
theorem da_has (c : Int) : ∀ k, Has (da k) c ↔ ∃ i, i < k ∧ (rw5 i).1 ≤ c ∧ c ≤ (rw5 i).2.1
  | 0 => by simp [da, Has]
  | k + 1 => by
    have ih := da_has c k
    rw [da, has_append, has_one, ih]
    constructor
    · rintro (⟨i, hi, a⟩ | a)
      · exact ⟨i, by omega, a⟩
      · exact ⟨k, by omega, a⟩
    · rintro ⟨i, hi, a⟩
      by_cases e : i = k
      · subst e; exact Or.inr a
      · exact Or.inl ⟨i, by omega, a⟩
theorem rows_apart : rows.Pairwise (fun a b => a.2.1 < b.1) := by decide +kernel
theorem row_cls {c : Int} (h0 : 0 ≤ c) (h1 : c ≤ 1114111) {r : Int × Int × Nat × Nat × Int} (hr : r ∈ rows) (ha : r.1 ≤ c) (hb : c ≤ r.2.1) : cls c = r.2.2 := by
  unfold cls
  rw [if_neg (by omega)]
  cases h : rows.find? (inRow c) with
  | none =>
    have := List.find?_eq_none.1 h r hr
    simp [inRow, ha, hb] at this
  | some q =>
    have m1 := List.mem_of_find?_eq_some h
    have m2 := List.find?_some h
    simp only [inRow, Bool.and_eq_true, decide_eq_true_eq] at m2
    have : q = r := by
      obtain ⟨i, hi, rfl⟩ := List.getElem_of_mem m1
      obtain ⟨j, hj, rfl⟩ := List.getElem_of_mem hr
      have hp := List.pairwise_iff_getElem.1 rows_apart
      rcases Nat.lt_trichotomy i j with h3 | h3 | h3
      · have := hp i j hi hj h3; omega
      · subst h3; rfl
      · have := hp j i hj hi h3; omega
    rw [this]
theorem rw5_mem {i : Nat} (h : i < 81) : rw5 i ∈ rows := by
  have hl : rows.length = 81 := rfl
  unfold rw5
  rw [List.getD, List.getElem?_eq_getElem (by omega)]
  exact List.getElem_mem _
theorem mem_rw5 {r : Int × Int × Nat × Nat × Int} (h : r ∈ rows) : ∃ i, i < 81 ∧ rw5 i = r := by
  obtain ⟨i, hi, e⟩ := List.getElem_of_mem h
  have hl : rows.length = 81 := rfl
  exact ⟨i, by omega, by unfold rw5; rw [List.getD, List.getElem?_eq_getElem hi, Option.getD_some, e]⟩
theorem row_in : (rows.all fun r => (decide (1 ≤ r.2.2.1) && decide (r.2.2.1 ≤ 23)) && (decide (1 ≤ r.2.2.2.1) && decide (r.2.2.2.1 ≤ 10)) && (decide (0 ≤ r.1) && decide (r.1 ≤ r.2.1) && decide (r.2.1 ≤ 1114111))) = true := by decide +kernel
theorem rw5_in {i : Nat} (h : i < 81) : ((1 ≤ (rw5 i).2.2.1 ∧ (rw5 i).2.2.1 ≤ 23) ∧ 1 ≤ (rw5 i).2.2.2.1 ∧ (rw5 i).2.2.2.1 ≤ 10) ∧ 0 ≤ (rw5 i).1 ∧ (rw5 i).1 ≤ (rw5 i).2.1 ∧ (rw5 i).2.1 ≤ 1114111 := by
  have := List.all_eq_true.1 row_in _ (rw5_mem h)
  simp only [Bool.and_eq_true, decide_eq_true_eq] at this
  exact ⟨this.1, this.2.1.1, this.2.1.2, this.2.2⟩
/-- what the document collects is what has the property -/
theorem doc_has {n : ByteArray} (hn : n ≠ cAny) {J F : List Rg} (hJ : ∀ c, Has J c ↔ 0 ≤ c ∧ c ≤ 1114111 ∧ ¬ Has (da 81) c) (hF : F = if cnB n = true then dl n 81 ++ J else dl n 81) (c : Int) : (Has F c ∧ 0 ≤ c ∧ c ≤ 1114111) ↔ 0 ≤ c ∧ c ≤ 1114111 ∧ propP n c = true := by
  have key : 0 ≤ c → c ≤ 1114111 → (Has F c ↔ propP n c = true) := by
    intro h0 h1
    have hFc : Has F c ↔ Has (dl n 81) c ∨ (cnB n = true ∧ Has J c) := by
      rw [hF]
      split
      · rename_i h
        rw [has_append]
        simp [h]
      · rename_i h
        simp [h]
    rw [hFc, hJ, dl_has, da_has]
    by_cases hr : ∃ i, i < 81 ∧ (rw5 i).1 ≤ c ∧ c ≤ (rw5 i).2.1
    · obtain ⟨i, hi, a, b⟩ := hr
      have hc := row_cls h0 h1 (rw5_mem hi) a b
      have hin := rw5_in hi
      have e : propP n c = mB n (rw5 i).2.2.1 (rw5 i).2.2.2.1 := by
        unfold propP
        rw [hc, mB_hp hn hin.1.1 hin.1.2]
      rw [e]
      constructor
      · rintro (⟨j, hj, m, a2, b2⟩ | ⟨_, _, _, h⟩)
        · have hc2 := row_cls h0 h1 (rw5_mem hj) a2 b2
          rw [← hc, hc2]
          exact m
        · exact absurd ⟨i, hi, a, b⟩ h
      · exact fun h => Or.inl ⟨i, hi, h, a, b⟩
    · have hc : cls c = (20, 3, 0) := by
        rcases cls_row c with ⟨_, h⟩ | ⟨_, _, h | ⟨r, hr2, a, b, _⟩⟩
        · omega
        · exact h
        · obtain ⟨i, hi, rfl⟩ := mem_rw5 hr2
          exact absurd ⟨i, hi, a, b⟩ hr
      have e : propP n c = cnB n := by
        unfold propP
        rw [hc, ← mB_none, mB_hp hn (by decide) (by decide)]
      rw [e]
      constructor
      · rintro (⟨j, hj, _, a2, b2⟩ | h)
        · exact absurd ⟨j, hj, a2, b2⟩ hr
        · exact h.1
      · exact fun h => Or.inr ⟨h, h0, h1, hr⟩
  constructor
  · exact fun ⟨h, h0, h1⟩ => ⟨h0, h1, (key h0 h1).1 h⟩
  · exact fun ⟨h0, h1, h⟩ => ⟨(key h0 h1).2 h, h0, h1⟩
/-- .. and it is nothing just where there is no such property -/
theorem doc_none {n : ByteArray} (hn : n ≠ cAny) {J F : List Rg} (hJn : J ≠ []) (hF : F = if cnB n = true then dl n 81 ++ J else dl n 81) : F = [] ↔ isP n = false := by
  constructor
  · intro h
    rw [Bool.eq_false_iff]
    intro e
    have hk := (isP_iff n).1 e
    have hm : (n, kind n) ∈ kinds := lookP_mem n hk
    have := List.all_eq_true.1 kinds_row _ hm
    simp only [Bool.or_eq_true, beq_iff_eq, List.any_eq_true] at this
    rw [h] at hF
    rcases this with (h1 | ⟨r, hr, h2⟩) | h3
    · exact hn (kind_any h1)
    · obtain ⟨i, hi, rfl⟩ := mem_rw5 hr
      have hin := rw5_in hi
      have : Has (dl n 81) (rw5 i).1 := (dl_has n _ 81).2 ⟨i, hi, h2, Int.le_refl _, hin.2.2.1⟩
      split at hF
      · have h5 := (List.append_eq_nil_iff.1 hF.symm).1
        rw [h5] at this
        exact has_nil _ this
      · rw [← hF] at this
        exact has_nil _ this
    · rw [if_pos h3] at hF
      exact hJn (List.append_eq_nil_iff.1 hF.symm).2
  · intro e
    have hk : kind n = 0 := by
      apply Classical.byContradiction
      intro h
      rw [(isP_iff n).2 h] at e
      cases e
    have hd : ∀ k, k ≤ 81 → dl n k = [] := by
      intro k
      induction k with
      | zero => intro _; rfl
      | succ k ih =>
        intro h
        have hin := rw5_in (i := k) (by omega)
        rw [dl_succ, if_neg (fun h2 => mB_kind hin.1.1 hin.1.2 h2 hk), ih (by omega)]
    rw [hF, if_neg (fun h => mB_kind (n := n) (k := 20) (s := 3) (by decide) (by decide) (by rw [mB_none]; exact h) hk), hd 81 (Nat.le_refl _)]
end Go.Proofs.YtgdhhpbpbkgmeaaDoor.prd
