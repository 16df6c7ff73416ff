/- The contracts of the document's add and Caseless. (Written by gen/cases.py.) -/
import Derived.Test.YtgdhhpbpbkgmeaaDoorSetsJ4
import Derived.Test.YtgdhhpbpbkgmeaaDoorSetsJ35
import Derived.Test.YtgdhhpbpbkgmeaaDoorUcdR4
import Derived.Test.YtgdhhpbpbkgmeaaDoorUcdP2
import Derived.Maps.AppendAt
namespace Go.Proofs.YtgdhhpbpbkgmeaaDoor.setw
open Go Go.RowKit Go.Proofs.YtgdhhpbpbkgmeaaDoor.bulk Go.Proofs.YtgdhhpbpbkgmeaaDoor.ucdp Go.Proofs.YtgdhhpbpbkgmeaaDoor.ucdw Go.Proofs.YtgdhhpbpbkgmeaaDoor.setp

/-- a new range, put behind those of the call's own, where an operation of a region that draws is carried out; and where the slice lies then -/
theorem held_append_at {o : Oper} {a : Act} {w W : World} {K : Act → World → Prop} {Q : Exit → Act → World → Prop} {ys : Nat → Option Bool} (hgd : o.guard = none) (s x : Operand)
    (ho : o.op = .call { callee := .builtin .append, args := #[s, x], argTypes := #[22, 22] }) (base : Nat) (v : Value) (D : List Rg) (hs : a.eval s = v) (hown : OwnR w base v D)
    (q1 q2 : Int) (B : Nat) (hW : W = w.alloc (.cells #[.int .i64 q1, .int .i64 q2] 52)) (hx : a.eval x = .slice (some ⟨B, 0, none⟩) 1 1) (hB : B = w.heap.size) (hlen : D.length ≤ 100000000) (hbase : base ≤ w.heap.size)
    (h : ∀ v' w', OwnR w' base v' (D ++ [(q1, q2)]) → (∀ B w1, Below B w1 w → B ≤ base → Below B w1 w') → W.grownBy w' v.ownBlock → (v'.ownBlock = v.ownBlock ∨ v'.ownBlock = some W.heap.size) → K (a.put o.dst v') w') :
    if Region.wanted o ys = true then Oper.wp Tryd.prog o a W K Q else K (a.put o.dst undef) W := by
  subst hW
  rw [if_pos (by unfold Region.wanted; rw [hgd])]
  subst hB
  obtain ⟨i0, hi, hz0, hz1, hz2⟩ := info_parts infoRange
  obtain ⟨v', w', hr, hown', hgr, hnil, hat⟩ := run_append_own_at (P := Tryd.prog) (w.alloc (.cells #[.int .i64 q1, .int .i64 q2] 52)) base 22 o.type 52 i0 (.agg #[.int .i64 0, .int .i64 0]) 2 16 Tryd.underlying22 hi hz0 hz1 hz2 rfl (by decide) v _ _ (World.ownsRow.alloc hown.1 _) ⟨w.heap.size, 0, none⟩ 1 1 [.int .i64 q1, .int .i64 q2] rfl (by
    intro j u hj
    have hplain : (⟨w.heap.size, 0, none⟩ : Addr).add j = ⟨w.heap.size, j, none⟩ := by unfold Addr.add; split <;> simp_all
    rw [hplain, World.cell?_alloc_new]
    rcases j with _ | _ | j
    · simpa using hj
    · simpa using hj
    · simp at hj) (by
    intro u hu
    simp only [List.mem_cons, List.not_mem_nil, or_false] at hu
    rcases hu with rfl | rfl <;> rfl) (by unfold maxLen; omega) (by omega) (by rw [World.size_alloc]; omega)
  unfold Oper.wp execOp
  simp only [ho, resolve, invoke, builtin, Sem.run_bind, Sem.run_pure, Result.andThen_ok, List.map_toArray, List.map_cons, List.map_nil, hs, hx, hr]
  refine h v' w' ?_ (fun B w1 hb hB => (hb.alloc (by have := hb.size; omega) _).grown hgr (by rw [World.size_alloc]; omega) (fun k hk => ?_)) hgr hat
  · have e : rcs (D ++ [(q1, q2)]) = rcs D ++ [.int .i64 q1, .int .i64 q2] := by simp [rcs]
    unfold OwnR
    rw [e]
    exact ⟨by simpa using hown', fun h => absurd h (by simp)⟩
  · have := (World.ownsRow.lt hown.1) k hk
    omega
/-- each number as a range -/
def dups (l : List Int) : List Rg := l.map fun x => (x, x)
/-- how far add has come -/
def RARel (D : List Rg) (L : List Int) (base b : Nat) (w : World) (v i : Value) (wr : World) : Prop :=
  ∃ k : Nat, k ≤ L.length ∧ i = .int .i64 k ∧ OwnR wr base v (D ++ dups (L.take k)) ∧ Below base w wr ∧ (∀ j, j < L.length → wr.cell? ⟨b, j, none⟩ = some (.int .i64 (L.getD j 0))) ∧ v.ownBlock ≠ some b ∧ b < wr.heap.size
def RAB (D : List Rg) (base : Nat) (w : World) (e : Ending) (w' : World) : Prop := ∃ v, e = .returned v ∧ OwnR w' base v D ∧ Below base w w'
theorem rab_of {D D' : List Rg} {base : Nat} {w w' : World} {v : Value} (h : D' = D) (ho : OwnR w' base v D') (hb : Below base w w') : RAB D base w (.returned v) w' := by
  subst h
  exact ⟨v, rfl, ho, hb⟩
set_option maxRecDepth 100000 in
set_option maxHeartbeats 4000000 in
theorem radd_any (v vL : Value) (D : List Rg) (L : List Int) (base B : Nat) (w : World) (hown : OwnR w base v D) (hn : IntsAt B w vL L) (hne : ∀ g, v.ownBlock = some g → g < B) (hbase : base ≤ w.heap.size) (hl : D.length + L.length ≤ 10000000) :
    Calls Tryd.prog 49 #[v, vL] w (RAB (D ++ dups L) base w) := by
  have HO := Lib.hid hown
  rcases hn with ⟨rfl, rfl⟩ | ⟨hLn, b, cap, rfl, hb1, hb2, hc1, hc2, hc⟩
  · go_enter Tryd.func49, Tryd.ntmps49
    go_wp2_with fail
    refine wp_loop_rounds 1 ?_
    rw [rounds_succ]
    go_wp2_with fail
    go_ret
    exact rab_of (by simp [dups]) HO.out (Below.refl _ _)
  · have HC := Lib.hid hc
    have hnb : v.ownBlock ≠ some b := fun e => by have := hne b e; omega
    have HNB := Lib.hid hnb
    clear hown hc hne hnb hLn
    go_enter Tryd.func49, Tryd.ntmps49
    go_wp2_with fail
    go_loopw [0, 5] (fun v i wr => RARel D L base b w v i wr) (fun _ i _ => L.length - (intOf i).toNat)
    case atStart => exact ⟨0, Nat.zero_le _, rfl, by simpa [dups] using HO.out, Below.refl _ _, HC.out, HNB.out, hb2⟩
    case round =>
      obtain ⟨k, hk, rfl, ho, hb, hcr, hnr, hbr⟩ := hrel
      have HOr := Lib.hid ho
      have HBr := Lib.hid hb
      have HCr := Lib.hid hcr
      have HNr := Lib.hid hnr
      clear ho hb hcr hnr
      by_cases hlt : k < L.length
      · have hx := HCr.out k hlt
        have HX := Lib.hid hx
        have HT := Lib.hid (show dups (L.take (k + 1)) = dups (L.take k) ++ [(L.getD k 0, L.getD k 0)] by
          have hg : L.getD k 0 = L[k] := by simp [List.getD, hlt]
          unfold dups
          rw [List.take_succ_eq_append_getElem hlt, List.map_append, hg]
          rfl)
        have HLn := Lib.hid (show (D ++ dups (L.take k)).length ≤ 100000000 by simp only [List.length_append, dups, List.length_map, List.length_take]; omega)
        have hki : (k : Int) < (L.length : Int) := by omega
        generalize L.getD k 0 = x at *
        clear hx
        go_wp2_with fail
        have h0 : World.cell? (World.drew _) ⟨b, k, none⟩ = some (.int .i64 x) := HX.out
        refine wp_region_held_drew (S := fun w' => w'.cell? ⟨b, k, none⟩ = some (.int .i64 x)) (by kernel_rfl) h0 (fun hHeld => ?_)
        refine wpAnyH_take (i := 0) (v := ?_) rfl (by kernel_rfl) (by kernel_rfl) (by kernel_rfl) (fun _ _ _ h => h) (Or.inl ⟨by rfl, ?_⟩) (by assumption) ?_
        rotate_left
        · intro w' hSw
          go_simp
          try rfl
        simp only [Act.put, List.setIfInBounds_toArray, List.set_cons_zero, List.set_cons_succ, List.getElem_toArray, List.getElem_cons_zero]
        refine wpAnyH_take (i := 1) (v := ?_) rfl (by kernel_rfl) (by kernel_rfl) (by kernel_rfl) (fun _ _ _ h => h) (Or.inl ⟨by rfl, ?_⟩) (by assumption) ?_
        rotate_left
        · intro w' hSw
          go_simp
          try rfl
        simp only [Act.put, List.setIfInBounds_toArray, List.set_cons_zero, List.set_cons_succ, List.getElem_toArray, List.getElem_cons_succ, List.getElem_cons_zero]
        refine wpAnyH_take (i := 2) (v := ?_) rfl (by kernel_rfl) (by kernel_rfl) (by kernel_rfl) (fun _ _ _ h => h) (Or.inl ⟨by rfl, ?_⟩) (by assumption) ?_
        rotate_left
        · intro w' hSw
          go_simp
          try rfl
        simp only [Act.put, List.setIfInBounds_toArray, List.set_cons_zero, List.set_cons_succ, List.getElem_toArray, List.getElem_cons_succ, List.getElem_cons_zero]
        refine wpAnyH_take (i := 3) (v := ?_) rfl (by kernel_rfl) (by kernel_rfl) (by kernel_rfl) (fun _ _ _ h => h) (Or.inl ⟨by rfl, ?_⟩) (by assumption) ?_
        rotate_left
        · intro w' hSw
          go_simp
          try rfl
        simp only [Act.put, List.setIfInBounds_toArray, List.set_cons_zero, List.set_cons_succ, List.getElem_toArray, List.getElem_cons_succ, List.getElem_cons_zero]
        refine wpAnyH_take (i := 4) (v := ?_) rfl (by kernel_rfl) (by kernel_rfl) (by kernel_rfl) (fun _ _ _ h => h) (Or.inl ⟨by rfl, ?_⟩) (by assumption) ?_
        rotate_left
        · intro w' hSw
          go_simp
          try rfl
        simp only [Act.put, List.setIfInBounds_toArray, List.set_cons_zero, List.set_cons_succ, List.getElem_toArray, List.getElem_cons_succ, List.getElem_cons_zero]
        refine wpAnyH_take (i := 5) (v := ?_) rfl (by kernel_rfl) (by kernel_rfl) (by kernel_rfl) (fun _ _ _ h => h) (Or.inl ⟨by rfl, ?_⟩) (by assumption) ?_
        rotate_left
        · intro w' hSw
          go_simp
          try rfl
        simp only [Act.put, List.setIfInBounds_toArray, List.set_cons_zero, List.set_cons_succ, List.getElem_toArray, List.getElem_cons_succ, List.getElem_cons_zero]
        refine wpAnyH_take (i := 6) (v := ?_) rfl (by kernel_rfl) (by kernel_rfl) (by kernel_rfl) (fun _ _ _ h => h) (Or.inl ⟨by rfl, ?_⟩) (by assumption) ?_
        rotate_left
        · intro w' hSw
          go_simp
          try rfl
        simp only [Act.put, List.setIfInBounds_toArray, List.set_cons_zero, List.set_cons_succ, List.getElem_toArray, List.getElem_cons_succ, List.getElem_cons_zero]
        refine wpAnyH_take (i := 7) (v := ?_) rfl (by kernel_rfl) (by kernel_rfl) (by kernel_rfl) (fun _ _ _ h => h) (Or.inl ⟨by rfl, ?_⟩) (by assumption) ?_
        rotate_left
        · intro w' hSw
          go_simp
          try rfl
        simp only [Act.put, List.setIfInBounds_toArray, List.set_cons_zero, List.set_cons_succ, List.getElem_toArray, List.getElem_cons_succ, List.getElem_cons_zero]
        refine wpAnyH_take (i := 8) (v := ?_) rfl (by kernel_rfl) (by kernel_rfl) (by kernel_rfl) (fun _ _ _ h => h) (Or.inl ⟨by rfl, ?_⟩) (by assumption) ?_
        rotate_left
        · intro w' hSw
          go_simp
          try rfl
        simp only [Act.put, List.setIfInBounds_toArray, List.set_cons_zero, List.set_cons_succ, List.getElem_toArray, List.getElem_cons_succ, List.getElem_cons_zero]
        refine wpAnyH_take (i := 9) (v := ?_) rfl (by kernel_rfl) (by kernel_rfl) (by kernel_rfl) (fun _ _ _ h => h) (Or.inl ⟨by rfl, ?_⟩) (by assumption) ?_
        rotate_left
        · intro w' hSw
          go_simp
          try rfl
        simp only [Act.put, List.setIfInBounds_toArray, List.set_cons_zero, List.set_cons_succ, List.getElem_toArray, List.getElem_cons_succ, List.getElem_cons_zero]
        refine wpAnyH_ready (rs := [10]) (by kernel_rfl) (by simp) ?_
        refine AllReadyH.cons rfl (fun K hK => ?_) AllReadyH.nil
        go_simp
        have hA := below_cell (below_alloc _ (Obj.cells #[Value.int IntKind.i64 x, Value.int IntKind.i64 x] 52)) h0
        refine hK.out _ _ hA (fun hHeld => ?_)
        clear hK K
        try simp only [Act.put, List.setIfInBounds_toArray, List.set_cons_zero, List.set_cons_succ, List.getElem_toArray, List.getElem_cons_succ, List.getElem_cons_zero]
        refine wpAnyH_ready (rs := [11]) (by kernel_rfl) (by simp) ?_
        refine AllReadyH.cons rfl (fun K hK => ?_) AllReadyH.nil
        refine held_append_at (w := World.drew _) rfl _ _ rfl base u0 (D ++ dups (L.take k)) rfl HOr.out x x _ rfl rfl rfl HLn.out (Nat.le_trans hbase HBr.out.size) ?_
        intro va2 wa2 hoa hba hgr hat
        have HOA := Lib.hid hoa
        have HBA := Lib.hid (hba _ _ HBr.out.drew (Nat.le_refl _))
        have hS2 : wa2.cell? ⟨b, k, none⟩ = some (.int .i64 x) := hgr.cell hA (Ne.symm HNr.out)
        have HCA := Lib.hid (fun j (hj : j < L.length) => hgr.cell (below_cell (below_alloc _ _) (show World.cell? (World.drew _) ⟨b, j, none⟩ = _ from HCr.out j hj)) (Ne.symm HNr.out))
        have HNA := Lib.hid (show va2.ownBlock ≠ some b from by
          rcases hat with h | h
          · rw [h]; exact HNr.out
          · rw [h]
            intro e
            have h3 : (World.alloc _ _).heap.size = b := Option.some.inj e
            rw [World.size_alloc] at h3
            have h4 : _ < b := Nat.lt_of_lt_of_eq (Nat.lt_succ_self _) h3
            exact absurd hbr (Nat.not_lt.2 (Nat.le_of_lt h4)))
        have hsz : b < wa2.heap.size := Nat.lt_of_lt_of_le (Nat.lt_of_lt_of_le hbr (below_alloc (World.drew _) _).size) hgr.size
        clear hoa hba hgr hat hA
        refine hK.out _ _ hS2 (fun hHeld => ?_)
        clear hK K
        try simp only [Act.put, List.setIfInBounds_toArray, List.set_cons_zero, List.set_cons_succ, List.getElem_toArray, List.getElem_cons_succ, List.getElem_cons_zero]
        refine wpAnyH_take (i := 12) (v := ?_) rfl (by kernel_rfl) (by kernel_rfl) (by kernel_rfl) (fun _ _ _ h => h) (Or.inl ⟨by rfl, ?_⟩) (by assumption) ?_
        rotate_left
        · intro w' hSw
          go_simp
          try rfl
        simp only [Act.put, List.setIfInBounds_toArray, List.set_cons_zero, List.getElem_toArray, List.getElem_cons_succ, List.getElem_cons_zero]
        refine wpAnyH_done (by kernel_rfl) ?_ _
        go_wp2_with fail
        go_roundw
        case rel => exact ⟨k + 1, by omega, by go_num, by rw [HT.out, ← List.append_assoc]; exact HOA.out, HBA.out, HCA.out, HNA.out, hsz⟩
        case measure => simp [intOf]; omega
      · obtain rfl : k = L.length := by omega
        go_wp2_with fail
        go_ret
        exact rab_of (by rw [List.take_length]) HOr.out HBr.out
end Go.Proofs.YtgdhhpbpbkgmeaaDoor.setw
