/- The contracts of package ucd's 'without' and Others: the other cases, in new memory. -/
import Derived.Test.YtgdhhpbpbkgmeaaDoorUcdW3
import Derived.OwnWalk
import Derived.LoopN
import Derived.Laws.AppendOwn
import Derived.Laws.Rows
namespace Go.Proofs.YtgdhhpbpbkgmeaaDoor.ucdw
open Go Go.RowKit Go.Proofs.YtgdhhpbpbkgmeaaDoor.bulk Go.Proofs.YtgdhhpbpbkgmeaaDoor.ucdp

theorem infoInt : (Tryd.prog.info? 3).map (fun i => (i.zero, i.size, i.bytes)) = some (some (.int .i64 0), 1, 8) := by kernel_rfl
/-- numbers as cells -/
def ic (l : List Int) : List Value := l.map (Value.int .i64)
/-- a slice of numbers of the call's own -/
def OwnI (w : World) (base : Nat) (v : Value) (D : List Int) : Prop := w.ownsRow base 3 1 v D.length (ic D)
theorem wpList_append_i {ops : Array Oper} {rest : List Oper} {o : Oper} {a : Act} {w : World} {Q : Exit → Act → World → Prop} (hgd : o.guard = none) (s x : Operand)
    (ho : o.op = .call { callee := .builtin .append, args := #[s, x], argTypes := #[23, 23] }) (base : Nat) (v : Value) (D : List Int) (hs : a.eval s = v) (hown : OwnI w base v D)
    (q : Int) (B : Nat) (hx : a.eval x = .slice (some ⟨B, 0, none⟩) 1 1) (hB : B = w.heap.size) (hlen : D.length ≤ 4000) (hbase : base ≤ w.heap.size)
    (h : ∀ v' w', OwnI w' base v' (D ++ [q]) → (∀ B w1, Below B w1 w → B ≤ base → Below B w1 w') → wpList Tryd.prog ops Q rest (a.put o.dst v') w') :
    wpList Tryd.prog ops Q (o :: rest) a (w.alloc (.cells #[.int .i64 q] 3)) := by
  subst hB
  obtain ⟨i0, hi, hz0, hz1, hz2⟩ := info_parts infoInt
  refine wpList_append_own _ hgd s x _ ho base 3 i0 (.int .i64 0) 1 8 Tryd.underlying23 hi hz0 hz1 hz2 rfl (by decide) v _ _ hs (World.ownsRow.alloc hown _) ⟨w.heap.size, 0, none⟩ 1 1 [.int .i64 q] hx rfl ?_ ?_ (by unfold maxLen; omega) (by omega) (by rw [World.size_alloc]; omega) ?_
  · intro j u hj
    have hj0 : j = 0 := by
      cases j with
      | zero => rfl
      | succ j => simp at hj
    subst hj0
    simp only [List.getElem?_cons_zero, Option.some.injEq] at hj
    subst hj
    have hplain : (⟨w.heap.size, 0, none⟩ : Addr).add 0 = ⟨w.heap.size, 0, none⟩ := by unfold Addr.add; split <;> simp_all
    rw [hplain, World.cell?_alloc_new]
    rfl
  · intro u hu
    simp only [List.mem_cons, List.not_mem_nil, or_false] at hu
    subst hu
    rfl
  · intro v' w' hown' hgr _
    refine h v' w' ?_ (fun B w1 hb hB => (hb.alloc (by have := hb.size; omega) _).grown hgr (by rw [World.size_alloc]; omega) (fun k hk => ?_))
    · have e : ic (D ++ [q]) = ic D ++ [.int .i64 q] := by simp [ic]
      unfold OwnI
      rw [e]
      simpa using hown'
    · have := (World.ownsRow.lt hown) k hk
      omega
theorem ownI_nil (w : World) (base : Nat) : OwnI w base (.slice none 0 0) [] := World.ownsRow_nil w base _ 1
/-- numbers in memory from a block on: nil where there are none -/
def IntsAt (base : Nat) (w : World) (v : Value) (l : List Int) : Prop :=
  (l = [] ∧ v = .slice none 0 0) ∨ (l ≠ [] ∧ ∃ b cap : Nat, v = .slice (some ⟨b, 0, none⟩) l.length cap ∧ base ≤ b ∧ b < w.heap.size ∧ l.length ≤ cap ∧ cap ≤ 9223372036854775807 ∧ ∀ i, i < l.length → w.cell? ⟨b, i, none⟩ = some (.int .i64 (l.getD i 0)))
/-- numbers in new memory -/
def IntsB (l : List Int) (w : World) (e : Ending) (w' : World) : Prop := ∃ v, e = .returned v ∧ IntsAt w.heap.size w' v l ∧ Below w.heap.size w w'
theorem intsAt_own {w : World} {base : Nat} {v : Value} {D : List Int} (h : OwnI w base v D) (hD : D ≠ []) : IntsAt base w v D := by
  have h' := h
  obtain ⟨_, h2⟩ := h
  rcases h2 with ⟨_, hn⟩ | ⟨g, cap, cur, hv, hg, hh, hnc, hcm, _⟩
  · exact absurd (List.eq_nil_of_length_eq_zero hn) hD
  · unfold maxLen at hcm
    have hlt : g < w.heap.size := by
      rcases Nat.lt_or_ge g w.heap.size with h | h
      · exact h
      · rw [Array.getElem?_eq_none h] at hh; cases hh
    refine Or.inr ⟨hD, g, cap, hv, hg, hlt, hnc, by omega, fun k hk => ?_⟩
    unfold OwnI at h'
    rw [hv] at h'
    rw [h'.cellAt k (by omega)]
    simp [ic, List.getD, hk]

set_option maxHeartbeats 1000000 in
theorem without_1 (x y z : Int) (w : World) (hy : (y != x) = true) (hz : (z != x) = true) : Calls Tryd.prog 72 #[.agg #[.int .i64 x, .int .i64 y, .int .i64 z], .int .i64 x] w (IntsB [y, z] w) := by
  have i0 : ∀ w, (Instr.index 88 (.agg #[.int .i64 x, .int .i64 y, .int .i64 z]) (.int .i64 0)).run Tryd.prog w = .ok (.int .i64 x) w := fun _ => by kernel_rfl
  have i1 : ∀ w, (Instr.index 88 (.agg #[.int .i64 x, .int .i64 y, .int .i64 z]) (.int .i64 1)).run Tryd.prog w = .ok (.int .i64 y) w := fun _ => by kernel_rfl
  have i2 : ∀ w, (Instr.index 88 (.agg #[.int .i64 x, .int .i64 y, .int .i64 z]) (.int .i64 2)).run Tryd.prog w = .ok (.int .i64 z) w := fun _ => by kernel_rfl
  go_enter Tryd.func72, Tryd.ntmps72
  go_wp2_with fail
  refine wp_loop_rounds 4 ?_
  rw [rounds_succ]
  go_wp2_with fail
  rw [rounds_succ]
  go_wp2_with (at_builtin; refine wpList_append_i rfl _ _ rfl w.heap.size (.slice none 0 0) [] rfl (ownI_nil _ _) y _ rfl (by simp) (by simp) (by simp only [World.size_alloc]; omega) ?_; intro va wa hoa hba; have HOa := Lib.hid hoa; have hwa := hba _ _ (below_alloc w _) (Nat.le_refl _); clear hoa hba)
  rw [rounds_succ]
  go_wp2_with (at_builtin; refine wpList_append_i rfl _ _ rfl w.heap.size va ([] ++ [y]) rfl HOa.out z _ rfl (by simp) (by simp) hwa.size ?_; intro vb wb hob hbb; have HOb := Lib.hid hob; have hwb := hbb _ _ hwa (Nat.le_refl _); clear hob hbb)
  rw [rounds_succ]
  go_wp2_with fail
  go_ret
  exact ⟨_, rfl, intsAt_own HOb.out (by simp), hwb⟩

set_option maxHeartbeats 1000000 in
theorem without_2 (x y z : Int) (w : World) (hx : (x != y) = true) (hz : (z != y) = true) : Calls Tryd.prog 72 #[.agg #[.int .i64 x, .int .i64 y, .int .i64 z], .int .i64 y] w (IntsB [x, z] w) := by
  have i0 : ∀ w, (Instr.index 88 (.agg #[.int .i64 x, .int .i64 y, .int .i64 z]) (.int .i64 0)).run Tryd.prog w = .ok (.int .i64 x) w := fun _ => by kernel_rfl
  have i1 : ∀ w, (Instr.index 88 (.agg #[.int .i64 x, .int .i64 y, .int .i64 z]) (.int .i64 1)).run Tryd.prog w = .ok (.int .i64 y) w := fun _ => by kernel_rfl
  have i2 : ∀ w, (Instr.index 88 (.agg #[.int .i64 x, .int .i64 y, .int .i64 z]) (.int .i64 2)).run Tryd.prog w = .ok (.int .i64 z) w := fun _ => by kernel_rfl
  go_enter Tryd.func72, Tryd.ntmps72
  go_wp2_with fail
  refine wp_loop_rounds 4 ?_
  rw [rounds_succ]
  go_wp2_with (at_builtin; refine wpList_append_i rfl _ _ rfl w.heap.size (.slice none 0 0) [] rfl (ownI_nil _ _) x _ rfl (by simp) (by simp) (by simp only [World.size_alloc]; omega) ?_; intro va wa hoa hba; have HOa := Lib.hid hoa; have hwa := hba _ _ (below_alloc w _) (Nat.le_refl _); clear hoa hba)
  rw [rounds_succ]
  go_wp2_with fail
  rw [rounds_succ]
  go_wp2_with (at_builtin; refine wpList_append_i rfl _ _ rfl w.heap.size va ([] ++ [x]) rfl HOa.out z _ rfl (by simp) (by simp) hwa.size ?_; intro vb wb hob hbb; have HOb := Lib.hid hob; have hwb := hbb _ _ hwa (Nat.le_refl _); clear hob hbb)
  rw [rounds_succ]
  go_wp2_with fail
  go_ret
  exact ⟨_, rfl, intsAt_own HOb.out (by simp), hwb⟩

set_option maxHeartbeats 1000000 in
theorem without_3 (x y z : Int) (w : World) (hx : (x != z) = true) (hy : (y != z) = true) : Calls Tryd.prog 72 #[.agg #[.int .i64 x, .int .i64 y, .int .i64 z], .int .i64 z] w (IntsB [x, y] w) := by
  have i0 : ∀ w, (Instr.index 88 (.agg #[.int .i64 x, .int .i64 y, .int .i64 z]) (.int .i64 0)).run Tryd.prog w = .ok (.int .i64 x) w := fun _ => by kernel_rfl
  have i1 : ∀ w, (Instr.index 88 (.agg #[.int .i64 x, .int .i64 y, .int .i64 z]) (.int .i64 1)).run Tryd.prog w = .ok (.int .i64 y) w := fun _ => by kernel_rfl
  have i2 : ∀ w, (Instr.index 88 (.agg #[.int .i64 x, .int .i64 y, .int .i64 z]) (.int .i64 2)).run Tryd.prog w = .ok (.int .i64 z) w := fun _ => by kernel_rfl
  go_enter Tryd.func72, Tryd.ntmps72
  go_wp2_with fail
  refine wp_loop_rounds 4 ?_
  rw [rounds_succ]
  go_wp2_with (at_builtin; refine wpList_append_i rfl _ _ rfl w.heap.size (.slice none 0 0) [] rfl (ownI_nil _ _) x _ rfl (by simp) (by simp) (by simp only [World.size_alloc]; omega) ?_; intro va wa hoa hba; have HOa := Lib.hid hoa; have hwa := hba _ _ (below_alloc w _) (Nat.le_refl _); clear hoa hba)
  rw [rounds_succ]
  go_wp2_with (at_builtin; refine wpList_append_i rfl _ _ rfl w.heap.size va ([] ++ [x]) rfl HOa.out y _ rfl (by simp) (by simp) hwa.size ?_; intro vb wb hob hbb; have HOb := Lib.hid hob; have hwb := hbb _ _ hwa (Nat.le_refl _); clear hob hbb)
  rw [rounds_succ]
  go_wp2_with fail
  rw [rounds_succ]
  go_wp2_with fail
  go_ret
  exact ⟨_, rfl, intsAt_own HOb.out (by simp), hwb⟩
end Go.Proofs.YtgdhhpbpbkgmeaaDoor.ucdw
