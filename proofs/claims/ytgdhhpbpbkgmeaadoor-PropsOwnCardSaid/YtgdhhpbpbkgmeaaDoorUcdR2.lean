/- The contracts of the document's Table and Of: the rows one behind the other; the row in which a number lies. -/
import Derived.Test.YtgdhhpbpbkgmeaaDoorUcdR1
namespace Go.Proofs.YtgdhhpbpbkgmeaaDoor.ucdw
open Go Go.RowKit Go.Proofs.YtgdhhpbpbkgmeaaDoor.bulk Go.Proofs.YtgdhhpbpbkgmeaaDoor.ucdp

theorem infoRow : (Tryd.prog.info? 78).map (fun i => (i.zero, i.size, i.bytes)) = some (some (.agg #[.int .i64 0, .int .i64 0, .string ⟨#[]⟩, .string ⟨#[]⟩, .int .i64 0]), 5, 56) := by kernel_rfl
theorem refCs_len (l : List (Int × Int × Nat × Nat × Int)) : (refCs l).length = l.length * 5 := by
  induction l with
  | nil => rfl
  | cons r l ih =>
    unfold refCs at ih ⊢
    rw [List.flatMap_cons, List.length_append, ih]
    simp [refC]; omega
theorem refCs_one {l : List (Int × Int × Nat × Nat × Int)} {u : Value} (h : u ∈ refCs l) : u.oneCell' = true := by
  unfold refCs at h
  obtain ⟨r, _, hr⟩ := List.mem_flatMap.1 h
  simp only [refC, List.mem_cons, List.not_mem_nil, or_false] at hr
  rcases hr with rfl | rfl | rfl | rfl | rfl <;> rfl
/-- rows of the call's own -/
def OwnR (w : World) (base : Nat) (v : Value) (D : List (Int × Int × Nat × Nat × Int)) : Prop := w.ownsRow base 78 5 v D.length (refCs D)
theorem ownR_nil (w : World) (base : Nat) : OwnR w base (.slice none 0 0) [] := World.ownsRow_nil w base _ 5
theorem refCs_app (l l' : List (Int × Int × Nat × Nat × Int)) : refCs (l ++ l') = refCs l ++ refCs l' := by simp [refCs]
theorem wpList_append_r {ops : Array Oper} {rest : List Oper} {o : Oper} {a : Act} {w : World} {Q : Exit → Act → World → Prop} (hgd : o.guard = none) (s x : Operand)
    (ho : o.op = .call { callee := .builtin .append, args := #[s, x], argTypes := #[75, 75] }) (base : Nat) (v : Value) (D N : List (Int × Int × Nat × Nat × Int)) (hs : a.eval s = v) (hown : OwnR w base v D)
    (B n : Nat) (hn : n = N.length) (hx : a.eval x = .slice (some ⟨B, 0, none⟩) n n) (hB : B = w.heap.size) (hlen : D.length ≤ 4000) (hlen2 : N.length ≤ 4000) (hbase : base ≤ w.heap.size)
    (h : ∀ v' w', OwnR w' base v' (D ++ N) → (∀ B w1, Below B w1 w → B ≤ base → Below B w1 w') → wpList Tryd.prog ops Q rest (a.put o.dst v') w') :
    wpList Tryd.prog ops Q (o :: rest) a (w.alloc (.cells (refCs N).toArray 78)) := by
  subst hB
  subst hn
  obtain ⟨i0, hi, hz0, hz1, hz2⟩ := info_parts infoRow
  refine wpList_append_own _ hgd s x _ ho base 78 i0 (.agg #[.int .i64 0, .int .i64 0, .string ⟨#[]⟩, .string ⟨#[]⟩, .int .i64 0]) 5 56 Tryd.underlying75 hi hz0 hz1 hz2 rfl (by decide) v _ _ hs (World.ownsRow.alloc hown _) ⟨w.heap.size, 0, none⟩ N.length N.length (refCs N) hx (refCs_len N) ?_ (fun u hu => refCs_one hu) (by unfold maxLen; omega) (by omega) (by rw [World.size_alloc]; omega) ?_
  · intro j u hj
    have hplain : (⟨w.heap.size, 0, none⟩ : Addr).add j = ⟨w.heap.size, 0 + j, none⟩ := by unfold Addr.add; split <;> simp_all
    rw [hplain, World.cell?_alloc_new]
    simpa using hj
  · intro v' w' hown' hgr _
    refine h v' w' ?_ (fun B w1 hb hB => (hb.alloc (by have := hb.size; omega) _).grown hgr (by rw [World.size_alloc]; omega) (fun k hk => ?_))
    · unfold OwnR
      rw [refCs_app]
      simpa using hown'
    · have := (World.ownsRow.lt hown) k hk
      omega
theorem ownR_alloc {w : World} {base : Nat} {v : Value} {D : List (Int × Int × Nat × Nat × Int)} (h : OwnR w base v D) (o : Obj) : OwnR (w.alloc o) base v D := World.ownsRow.alloc h o
/-- new rows, one behind the other -/
def TabB (w : World) (e : Ending) (w' : World) : Prop := ∃ v, e = .returned v ∧ OwnR w' w.heap.size v rows ∧ Below w.heap.size w w'

set_option maxHeartbeats 1000000 in
theorem table_any (w : World) : Calls Tryd.prog 64 #[] w (TabB w) := by
  have HL := Lib.hid low_any
  have HH := Lib.hid high_any
  have n1 := Lib.hid (show 29 = low.length from rfl)
  have n2 := Lib.hid (show 52 = high.length from rfl)
  have n3 := Lib.hid (show low.length ≤ 4000 by decide)
  have n4 := Lib.hid (show high.length ≤ 4000 by decide)
  go_enter Tryd.func64, Tryd.ntmps64
  go_wp2_with fail
  refine (HL.out _).mono ?_
  rintro e w1 ⟨rfl, rfl⟩
  go_wp2_with (at_builtin; refine wpList_append_r rfl _ _ rfl w.heap.size (.slice none 0 0) [] low rfl (ownR_nil _ _) _ _ rfl rfl rfl (by simp) n3.out (Nat.le_refl _) ?_; intro va wa hoa hba; have HOa := Lib.hid hoa; have hwa := hba _ _ (Below.refl w.heap.size w) (Nat.le_refl _); clear hoa hba)
  refine (HH.out _).mono ?_
  rintro e w1 ⟨rfl, rfl⟩
  go_wp2_with (at_builtin; refine wpList_append_r rfl _ _ rfl w.heap.size va ([] ++ low) high rfl HOa.out _ _ rfl rfl rfl n3.out n4.out hwa.size ?_; intro vb wb hob hbb; have HOb := Lib.hid hob; have hwb := hbb _ _ hwa (Nat.le_refl _); clear hob hbb)
  go_ret
  exact ⟨_, rfl, HOb.out, hwb⟩

/-- the document's row of a number -/
def ofP (c : Int) : Int × Int × Nat × Nat × Int := if c < 0 ∨ 1114111 < c then (0, 0, 0, 0, 0) else match rows.find? (inRow c) with
  | some r => r
  | none => (c, c, 20, 3, 0)
theorem of_cls (c : Int) : (ofP c).2.2 = cls c := by
  unfold ofP cls
  split
  · rfl
  · cases rows.find? (inRow c) <;> rfl
/-- a row as a value -/
def refV (r : Int × Int × Nat × Nat × Int) : Value := .agg #[.int .i64 r.1, .int .i64 r.2.1, .string (catB r.2.2.1), .string (scrB r.2.2.2.1), .int .i64 r.2.2.2.2]
def RefB (r : Int × Int × Nat × Nat × Int) (w : World) (e : Ending) (w' : World) : Prop := e = .returned (refV r) ∧ Below w.heap.size w w'
/-- the row k -/
def rk (k : Nat) : Int × Int × Nat × Nat × Int := rows.getD k (0, 0, 0, 0, 0)
theorem refCs_at {l : List (Int × Int × Nat × Nat × Int)} {k f : Nat} (hk : k < l.length) (hf : f < 5) : (refCs l)[k * 5 + f]? = (refC (l.getD k (0, 0, 0, 0, 0)))[f]? := by
  induction l generalizing k with
  | nil => simp at hk
  | cons r l ih =>
    have hlen : (refC r).length = 5 := rfl
    unfold refCs
    rw [List.flatMap_cons]
    cases k with
    | zero =>
      rw [List.getElem?_append_left (by omega)]
      simp
    | succ k =>
      rw [List.getElem?_append_right (by omega), hlen, show (k + 1) * 5 + f - 5 = k * 5 + f by omega]
      exact ih (by simpa using hk)
theorem ownR_open {w : World} {base : Nat} {v : Value} (h : OwnR w base v rows) : ∃ g cap : Nat, v = .slice (some ⟨g, 0, none⟩) 81 cap ∧ base ≤ g ∧ g < w.heap.size ∧ 81 ≤ cap ∧ cap ≤ 9223372036854775807 ∧ ∀ k f, k < 81 → f < 5 → w.cell? ⟨g, k * 5 + f, none⟩ = (refC (rk k))[f]? := by
  have h' := h
  obtain ⟨_, h2⟩ := h
  rcases h2 with ⟨_, hn⟩ | ⟨g, cap, cur, hv, hg, hh, hnc, hcm, hcs, ht⟩
  · exact absurd hn (by decide)
  · unfold maxLen at hcm
    have hlt : g < w.heap.size := by
      rcases Nat.lt_or_ge g w.heap.size with h | h
      · exact h
      · rw [Array.getElem?_eq_none h] at hh; cases hh
    refine ⟨g, cap, hv, hg, hlt, hnc, by omega, fun k f hk hf => ?_⟩
    unfold OwnR at h'
    rw [hv] at h'
    have hL : (refCs rows).length = 405 := by rw [refCs_len]; rfl
    rw [h'.cellAt (k * 5 + f) (by omega)]
    exact refCs_at (l := rows) (k := k) (f := f) hk hf
theorem of_out {c : Int} (h : c < 0 ∨ 1114111 < c) : ofP c = (0, 0, 0, 0, 0) := by unfold ofP; rw [if_pos h]
theorem of_in {c : Int} {k : Nat} (h1 : 0 ≤ c) (h2 : c ≤ 1114111) (hk : k < 81) (hb : ∀ j, j < k → inRow c (rk j) = false) (hi : inRow c (rk k) = true) : ofP c = rk k := by
  unfold ofP
  rw [if_neg (by omega)]
  have : rows.find? (inRow c) = some (rk k) := by
    have hl : rows.length = 81 := rfl
    rw [List.find?_eq_some_iff_getElem]
    refine ⟨hi, k, by omega, ?_, fun j hj => ?_⟩
    · unfold rk; simp [List.getD, hl, hk]
    · have := hb j hj
      unfold rk at this
      have hj2 : j < rows.length := by omega
      simp only [List.getD, List.getElem?_eq_getElem hj2, Option.getD_some] at this
      simp [this]
  rw [this]
theorem of_none {c : Int} (h1 : 0 ≤ c) (h2 : c ≤ 1114111) (hb : ∀ j, j < 81 → inRow c (rk j) = false) : ofP c = (c, c, 20, 3, 0) := by
  unfold ofP
  rw [if_neg (by omega)]
  have : rows.find? (inRow c) = none := by
    rw [List.find?_eq_none]
    intro r hr
    obtain ⟨j, hj, e⟩ := List.mem_iff_getElem.1 hr
    have := hb j hj
    unfold rk at this
    simp only [List.getD, List.getElem?_eq_getElem hj, Option.getD_some] at this
    rw [← e]
    simp [this]
  rw [this]
end Go.Proofs.YtgdhhpbpbkgmeaaDoor.ucdw
