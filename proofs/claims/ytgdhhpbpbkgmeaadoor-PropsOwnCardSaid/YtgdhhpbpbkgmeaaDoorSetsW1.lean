/- The contracts of package sets' smallest functions: first, last, spanOf, add. -/
import Derived.Test.YtgdhhpbpbkgmeaaDoorSetsFl
import Derived.Test.YtgdhhpbpbkgmeaaDoorSetsPure
import Derived.Test.YtgdhhpbpbkgmeaaDoorUcdW4
import Derived.Laws.Cover2
import Derived.Laws.Cover3
import Derived.Laws.FloatArith
import Derived.WalkLawsBesides
namespace Go.Proofs.YtgdhhpbpbkgmeaaDoor.setw
open Go Go.RowKit Go.Proofs.YtgdhhpbpbkgmeaaDoor.bulk Go.Proofs.YtgdhhpbpbkgmeaaDoor.ucdp Go.Proofs.YtgdhhpbpbkgmeaaDoor.ucdw Go.Proofs.YtgdhhpbpbkgmeaaDoor.setp Go.Proofs.YtgdhhpbpbkgmeaaDoor.flt

/-- a range as a value -/
def zc (r : Rg) : Value := .complex .f64 (fw r.1) (fw r.2)
theorem fw_val (x : Int) : floatToIntVal .f64 (fw x) .i64 = some (cl x) := by
  unfold floatToIntVal
  rw [fw_int]
  have := cl_bd x
  have h : IntKind.i64.min ≤ cl x ∧ cl x ≤ IntKind.i64.max := by
    rw [show IntKind.i64.min = -9223372036854775808 by decide, show IntKind.i64.max = 9223372036854775807 by decide]
    omega
  simp only [if_pos h]
theorem conv_int (x : Int) (w : World) : (convert 83 3 (.float .f64 (fw x))).run Tryd.prog w = .ok (.int .i64 (cl x)) w :=
  run_convert_float_int w _ _ .f64 .i64 _ _ (by kernel_rfl) Tryd.underlying3 (fw_val x)

theorem first_any (a b : Int) (w : World) : Calls Tryd.prog 40 #[.complex .f64 (fw a) (fw b)] w fun e w' => e = .returned (.int .i64 (cl a)) ∧ w = w' := by
  have hc := conv_int a
  go_enter Tryd.func40, Tryd.ntmps40
  go_wp2
  go_ret
  exact ⟨rfl, rfl⟩
theorem last_any (a b : Int) (w : World) : Calls Tryd.prog 41 #[.complex .f64 (fw a) (fw b)] w fun e w' => e = .returned (.int .i64 (cl b)) ∧ w = w' := by
  have hc := conv_int b
  go_enter Tryd.func41, Tryd.ntmps41
  go_wp2
  go_ret
  exact ⟨rfl, rfl⟩
theorem first_in {a b : Int} (w : World) (h : cl a = a) : Calls Tryd.prog 40 #[.complex .f64 (fw a) (fw b)] w fun e w' => e = .returned (.int .i64 a) ∧ w = w' := by
  have := first_any a b w
  rwa [h] at this
theorem last_in {a b : Int} (w : World) (h : cl b = b) : Calls Tryd.prog 41 #[.complex .f64 (fw a) (fw b)] w fun e w' => e = .returned (.int .i64 b) ∧ w = w' := by
  have := last_any a b w
  rwa [h] at this
theorem first_q {a b : Int} (w : World) (h : cl a = a) : Calls Tryd.prog 40 #[.complex .f64 (fw a) (fw b)] w fun e w' => e = .returned (.int .i64 a) ∧ w' = w := (first_in w h).mono fun _ _ ⟨h, k⟩ => ⟨h, k.symm⟩
theorem last_q {a b : Int} (w : World) (h : cl b = b) : Calls Tryd.prog 41 #[.complex .f64 (fw a) (fw b)] w fun e w' => e = .returned (.int .i64 b) ∧ w' = w := (last_in w h).mono fun _ _ ⟨h, k⟩ => ⟨h, k.symm⟩
theorem span_any (a b : Int) (w : World) (ha : 0 ≤ a) (ha2 : a ≤ 1114111) (hb : 0 ≤ b) (hb2 : b ≤ 1114111) : Calls Tryd.prog 65 #[.int .i64 a, .int .i64 b] w fun e w' => e = .returned (.complex .f64 (fw a) (fw b)) ∧ w = w' := by
  have h1 : floatOfInt .f64 a = fw a := fw_near ha ha2
  have h2 : floatOfInt .f64 b = fw b := fw_near hb hb2
  have c1 : ∀ w, (convert 3 83 (.int .i64 a)).run Tryd.prog w = .ok (.float .f64 (fw a)) w := fun w => by rw [← h1]; exact run_convert_int_float w _ _ _ _ _ (by kernel_rfl) Tryd.underlying83
  have c2 : ∀ w, (convert 3 83 (.int .i64 b)).run Tryd.prog w = .ok (.float .f64 (fw b)) w := fun w => by rw [← h2]; exact run_convert_int_float w _ _ _ _ _ (by kernel_rfl) Tryd.underlying83
  clear h1 h2
  go_enter Tryd.func65, Tryd.ntmps65
  go_wp2
  go_ret
  exact ⟨rfl, rfl⟩
theorem span_q (a b : Int) (w : World) (ha : 0 ≤ a) (ha2 : a ≤ 1114111) (hb : 0 ≤ b) (hb2 : b ≤ 1114111) : Calls Tryd.prog 65 #[.int .i64 a, .int .i64 b] w fun e w' => e = .returned (.complex .f64 (fw a) (fw b)) ∧ w' = w := (span_any a b w ha ha2 hb hb2).mono fun _ _ ⟨h, k⟩ => ⟨h, k.symm⟩

theorem infoSpan : (Tryd.prog.info? 57).map (fun i => (i.zero, i.size, i.bytes)) = some (some (.complex .f64 0 0), 1, 16) := by kernel_rfl
/-- ranges as cells -/
def zcs (l : List Rg) : List Value := l.map zc
/-- ranges that the call itself has laid; nil where there are none -/
def OwnZ (w : World) (base : Nat) (v : Value) (D : List Rg) : Prop := w.ownsRow base 57 1 v D.length (zcs D) ∧ (D = [] → v = .slice none 0 0)
theorem ownZ_nil (w : World) (base : Nat) : OwnZ w base (.slice none 0 0) [] := ⟨World.ownsRow_nil w base _ 1, fun _ => rfl⟩
theorem ownZ_below {w w' : World} {base : Nat} {v : Value} {D : List Rg} (h : OwnZ w base v D) (hb : Below w.heap.size w w') : OwnZ w' base v D := by
  obtain ⟨⟨h1, h2⟩, hn⟩ := h
  refine ⟨⟨h1, ?_⟩, hn⟩
  rcases h2 with h2 | ⟨g, cap, cur, hv, hg, hh, r⟩
  · exact Or.inl h2
  · refine Or.inr ⟨g, cap, cur, hv, hg, ?_, r⟩
    have hlt : g < w.heap.size := by
      rcases Nat.lt_or_ge g w.heap.size with h | h
      · exact h
      · rw [Array.getElem?_eq_none h] at hh; cases hh
    rw [hb.block g hlt]
    exact hh
theorem ownZ_mono {w : World} {base base' : Nat} {v : Value} {D : List Rg} (h : OwnZ w base v D) (hb : base' ≤ base) : OwnZ w base' v D := by
  obtain ⟨⟨h1, h2⟩, hn⟩ := h
  refine ⟨⟨h1, ?_⟩, hn⟩
  rcases h2 with h2 | ⟨g, cap, cur, hv, hg, r⟩
  · exact Or.inl h2
  · exact Or.inr ⟨g, cap, cur, hv, Nat.le_trans hb hg, r⟩
theorem wpList_append_z {ops : Array Oper} {rest : List Oper} {o : Oper} {a : Act} {w : World} {Q : Exit → Act → World → Prop} (hgd : o.guard = none) (s x : Operand)
    (ho : o.op = .call { callee := .builtin .append, args := #[s, x], argTypes := #[25, 25] }) (base : Nat) (v : Value) (D : List Rg) (hs : a.eval s = v) (hown : OwnZ w base v D)
    (q1 q2 : Int) (B : Nat) (hx : a.eval x = .slice (some ⟨B, 0, none⟩) 1 1) (hB : B = w.heap.size) (hlen : D.length ≤ 100000000) (hbase : base ≤ w.heap.size)
    (h : ∀ v' w', OwnZ w' base v' (D ++ [(q1, q2)]) → (∀ B w1, Below B w1 w → B ≤ base → Below B w1 w') → wpList Tryd.prog ops Q rest (a.put o.dst v') w') :
    wpList Tryd.prog ops Q (o :: rest) a (w.alloc (.cells #[.complex .f64 (fw q1) (fw q2)] 57)) := by
  subst hB
  obtain ⟨i0, hi, hz0, hz1, hz2⟩ := info_parts infoSpan
  refine wpList_append_own _ hgd s x _ ho base 57 i0 (.complex .f64 0 0) 1 16 Tryd.underlying25 hi hz0 hz1 hz2 rfl (by decide) v _ _ hs (World.ownsRow.alloc hown.1 _) ⟨w.heap.size, 0, none⟩ 1 1 [.complex .f64 (fw q1) (fw q2)] hx rfl ?_ ?_ (by unfold maxLen; omega) (by omega) (by rw [World.size_alloc]; omega) ?_
  · intro j u hj
    have hj0 : j = 0 := by
      cases j with
      | zero => rfl
      | succ j => simp at hj
    subst hj0
    simp only [List.getElem?_cons_zero, Option.some.injEq] at hj
    subst hj
    have hplain : (⟨w.heap.size, 0, none⟩ : Addr).add 0 = ⟨w.heap.size, 0, none⟩ := by unfold Addr.add; split <;> simp_all
    rw [hplain, World.cell?_alloc_new]
    rfl
  · intro u hu
    simp only [List.mem_cons, List.not_mem_nil, or_false] at hu
    subst hu
    rfl
  · intro v' w' hown' hgr _
    refine h v' w' ?_ (fun B w1 hb hB => (hb.alloc (by have := hb.size; omega) _).grown hgr (by rw [World.size_alloc]; omega) (fun k hk => ?_))
    · have e : zcs (D ++ [(q1, q2)]) = zcs D ++ [.complex .f64 (fw q1) (fw q2)] := by simp [zcs, zc]
      unfold OwnZ
      rw [e]
      exact ⟨by simpa using hown', fun h => absurd h (by simp)⟩
    · have := (World.ownsRow.lt hown.1) k hk
      omega

/-- ranges that the call itself has laid, in a world in which nothing below the base has turned -/
def OwnB (base : Nat) (D : List Rg) (w : World) (e : Ending) (w' : World) : Prop := ∃ v, e = .returned v ∧ OwnZ w' base v D ∧ Below base w w'
theorem ownB_of {base : Nat} {D D' : List Rg} {w w' : World} {v : Value} (h : D' = D) (ho : OwnZ w' base v D') (hb : Below base w w') : OwnB base D w (.returned v) w' := by
  subst h
  exact ⟨v, rfl, ho, hb⟩
set_option maxHeartbeats 1000000 in
theorem add_any (v : Value) (D : List Rg) (a b : Int) (base : Nat) (w : World) (hown : OwnZ w base v D) (h0 : 0 ≤ a) (h1 : b ≤ 1114111) (hlen : D.length ≤ 100000000) (hbase : base ≤ w.heap.size)
    (ha : a ≤ 9223372036854775807) (hb : -9223372036854775808 ≤ b) : Calls Tryd.prog 38 #[v, .int .i64 a, .int .i64 b] w (OwnB base (addP D a b) w) := by
  have HO := Lib.hid hown
  clear hown
  by_cases hab : b < a
  · have HE := Lib.hid (show D = addP D a b by unfold addP; rw [if_pos hab])
    go_enter Tryd.func38, Tryd.ntmps38
    go_wp2_with fail
    go_ret
    exact ownB_of HE.out HO.out (Below.refl _ _)
  · have HE := Lib.hid (show D ++ [(a, b)] = addP D a b by unfold addP; rw [if_neg hab])
    have hS := Lib.hid (fun w => span_any a b w h0 (by omega) (by omega) h1)
    have HL := Lib.hid hlen
    clear hlen
    go_enter Tryd.func38, Tryd.ntmps38
    go_wp2_with fail
    refine (hS.out _).mono ?_
    rintro e w' ⟨rfl, rfl⟩
    go_wp2_with (at_builtin; refine wpList_append_z rfl _ _ rfl base v D rfl HO.out a b _ rfl rfl HL.out hbase ?_; intro va wa hoa hba; have HOa := Lib.hid hoa; have hwa := hba _ _ (Below.refl base w) (Nat.le_refl _); clear hoa hba)
    go_ret
    exact ownB_of HE.out HOa.out hwa
end Go.Proofs.YtgdhhpbpbkgmeaaDoor.setw
