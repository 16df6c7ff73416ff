/- The contract of the document's Property. (Written by gen/dprop.py.) -/
import Derived.Test.YtgdhhpbpbkgmeaaDoorPropsD1
import Derived.Test.YtgdhhpbpbkgmeaaDoorPropsR1
import Derived.Test.YtgdhhpbpbkgmeaaDoorUcdR2
import Derived.Test.YtgdhhpbpbkgmeaaDoorSetsJ4
import Derived.Test.YtgdhhpbpbkgmeaaDoorSetsJ32
import Derived.Test.YtgdhhpbpbkgmeaaDoorSetsJ6
import Derived.Maps.AppendAt
namespace Go.Proofs.YtgdhhpbpbkgmeaaDoor.prd
open Go Go.RowKit Go.Proofs.YtgdhhpbpbkgmeaaDoor.bulk Go.Proofs.YtgdhhpbpbkgmeaaDoor.ucdp Go.Proofs.YtgdhhpbpbkgmeaaDoor.setp Go.Proofs.YtgdhhpbpbkgmeaaDoor.setw Go.Proofs.YtgdhhpbpbkgmeaaDoor.prp Go.Proofs.YtgdhhpbpbkgmeaaDoor.prw
open Go.Proofs.YtgdhhpbpbkgmeaaDoor.ucdw (below_cell below_trans below_alloc below_drew refC)

/-- ranges of the call's own stay where another row of its own is written -/
theorem ownR_apart {w w' : World} {base : Nat} {v v2 : Value} {D : List Rg} (h : OwnR w base v D) (hg : w.grownBy w' v2.ownBlock) (hne : ∀ b, v.ownBlock = some b → v2.ownBlock ≠ some b) : OwnR w' base v D := by
  refine ⟨World.ownsRow.kept h.1 hg ?_, h.2⟩
  cases hv : v.ownBlock with
  | none => exact Or.inl rfl
  | some b => exact Or.inr (fun e => hne b hv e.symm)
/-- a new range, put behind those of the call's own; where the slice lies then -/
theorem wpList_append_rg {ops : Array Oper} {rest : List Oper} {o : Oper} {a : Act} {w : World} {Q : Exit → Act → World → Prop} (hgd : o.guard = none) (s x : Operand)
    (ho : o.op = .call { callee := .builtin .append, args := #[s, x], argTypes := #[22, 22] }) (base : Nat) (v : Value) (D : List Rg) (hs : a.eval s = v) (hown : OwnR w base v D)
    (q1 q2 : Int) (B : Nat) (hx : a.eval x = .slice (some ⟨B, 0, none⟩) 1 1) (hB : B = w.heap.size) (hlen : D.length ≤ 100000000) (hbase : base ≤ w.heap.size)
    (h : ∀ v' w', OwnR w' base v' (D ++ [(q1, q2)]) → (∀ B w1, Below B w1 w → B ≤ base → Below B w1 w') → w.grownBy w' v.ownBlock → (v'.ownBlock = v.ownBlock ∨ ∃ g, v'.ownBlock = some g ∧ w.heap.size ≤ g) → wpList Tryd.prog ops Q rest (a.put o.dst v') w') :
    wpList Tryd.prog ops Q (o :: rest) a (w.alloc (.cells #[.int .i64 q1, .int .i64 q2] 52)) := by
  subst hB
  obtain ⟨i0, hi, hz0, hz1, hz2⟩ := info_parts infoRange
  refine wpList_append_own_at _ hgd s x _ ho base 52 i0 (.agg #[.int .i64 0, .int .i64 0]) 2 16 Tryd.underlying22 hi hz0 hz1 hz2 rfl (by decide) v _ _ hs (World.ownsRow.alloc hown.1 _) ⟨w.heap.size, 0, none⟩ 1 1 [.int .i64 q1, .int .i64 q2] hx rfl ?_ ?_ (by unfold maxLen; omega) (by omega) (by rw [World.size_alloc]; omega) ?_
  · intro j u hj
    have hplain : (⟨w.heap.size, 0, none⟩ : Addr).add j = ⟨w.heap.size, j, none⟩ := by unfold Addr.add; split <;> simp_all
    rw [hplain, World.cell?_alloc_new]
    rcases j with _ | _ | j
    · simpa using hj
    · simpa using hj
    · simp at hj
  · intro u hu
    simp only [List.mem_cons, List.not_mem_nil, or_false] at hu
    rcases hu with rfl | rfl <;> rfl
  · intro v' w' hown' hgr _ hat
    refine h v' w' ?_ (fun B w1 hb hB => (hb.alloc (by have := hb.size; omega) _).grown hgr (by rw [World.size_alloc]; omega) (fun k hk => ?_)) ((World.grownBy_alloc w _ _).trans hgr) ?_
    · have e : rcs (D ++ [(q1, q2)]) = rcs D ++ [.int .i64 q1, .int .i64 q2] := by simp [rcs]
      unfold OwnR
      rw [e]
      exact ⟨by simpa using hown', fun h => absurd h (by simp)⟩
    · have := (World.ownsRow.lt hown.1) k hk
      omega
    · rcases hat with h | h
      · exact Or.inl h
      · exact Or.inr ⟨_, h, by rw [World.size_alloc]; omega⟩
theorem cat_two {k : Nat} (h : 1 ≤ k ∧ k ≤ 23) : (catB k).size = 2 := by
  have all : ((List.range 24).all fun k => k == 0 || (catB k).size == 2) = true := by decide +kernel
  have := List.all_eq_true.1 all k (by simp; omega)
  simp only [Bool.or_eq_true, beq_iff_eq] at this
  omega
theorem mB_walk {n cb sb : ByteArray} {k s : Nat} (hcb : catB k = cb) (hsb : scrB s = sb) : mB n k s = (((cb.toList == n.toList) || (sb.toList == n.toList)) || (decide (n.size = 1) && ((cb.extract 0 1).toList == n.toList)) || ((n.toList == [76, 38]) && ((cb.toList == [76, 117]) || (cb.toList == [76, 108])))) := by
  have l1 : ([76, 38] : List UInt8) = cLL.toList := (Lib.toList_data cLL).symm
  have l2 : ([76, 117] : List UInt8) = cLu.toList := (Lib.toList_data cLu).symm
  have l3 : ([76, 108] : List UInt8) = cLl.toList := (Lib.toList_data cLl).symm
  rw [l1, l2, l3, beqS, beqS, beqS, beqS, beqS, beqS]
  unfold mB
  rw [hcb, hsb]
/-- how far Property has come -/
def DRel (n : ByteArray) (w2 : World) (v4 v5 i : Value) (wr : World) : Prop :=
  ∃ k : Nat, k ≤ 81 ∧ i = .int .i64 k ∧ OwnR wr w2.heap.size v4 (dl n k) ∧ OwnR wr w2.heap.size v5 (da k) ∧ Below w2.heap.size w2 wr ∧ ∀ b, v4.ownBlock = some b → v5.ownBlock ≠ some b
/-- what the document's Property answers -/
def DPB (n : ByteArray) (w : World) (e : Ending) (w' : World) : Prop := ∃ v S, e = .returned (.tuple #[v, .bool (isP n)]) ∧ Canon S ∧ (∀ c, Has S c ↔ 0 ≤ c ∧ c ≤ 1114111 ∧ propP n c = true) ∧ RsAt w' v S ∧ Below w.heap.size w w'
theorem dpb_none {n : ByteArray} {w w' : World} (hi : isP n = false) (hF : ∀ c, (Has [] c ∧ 0 ≤ c ∧ c ≤ 1114111) ↔ 0 ≤ c ∧ c ≤ 1114111 ∧ propP n c = true) (hb : Below w.heap.size w w') : DPB n w (.returned (.tuple #[.slice none 0 0, .bool false])) w' :=
  ⟨_, [], by rw [hi], canon_nil, fun c => ⟨fun h => absurd h (has_nil _), fun h => ((hF c).2 h).1⟩, rs_nil _, hb⟩
theorem dpb_some {n : ByteArray} {w w' : World} {v : Value} {S : List Rg} (hi : isP n = true) (hS : Canon S) (hh : ∀ c, Has S c ↔ 0 ≤ c ∧ c ≤ 1114111 ∧ propP n c = true) (hr : RsAt w' v S) (hb : Below w.heap.size w w') : DPB n w (.returned (.tuple #[v, .bool true])) w' :=
  ⟨v, S, by rw [hi], hS, hh, hr, hb⟩
theorem cn_walk (n : ByteArray) : cnB n = (((n.toList == [67, 110]) || (n.toList == [67])) || (n.toList == [85, 110, 107, 110, 111, 119, 110])) := by
  rw [show ([67, 110] : List UInt8) = (⟨#[67, 110]⟩ : ByteArray).toList from (Lib.toList_data (⟨#[67, 110]⟩ : ByteArray)).symm, show ([67] : List UInt8) = (⟨#[67]⟩ : ByteArray).toList from (Lib.toList_data (⟨#[67]⟩ : ByteArray)).symm, show ([85, 110, 107, 110, 111, 119, 110] : List UInt8) = (⟨#[85, 110, 107, 110, 111, 119, 110]⟩ : ByteArray).toList from (Lib.toList_data (⟨#[85, 110, 107, 110, 111, 119, 110]⟩ : ByteArray)).symm, beqS, beqS, beqS]
  rfl
/-- the code points of which a row has none, one by one (it is never reckoned) -/
def comp (A : List Rg) : List Rg := ((List.range 1114112).map fun (i : Nat) => ((i : Int), (i : Int))).filter fun r => !hasB A r.1
theorem comp_has (A : List Rg) (c : Int) : Has (comp A) c ↔ 0 ≤ c ∧ c ≤ 1114111 ∧ ¬ Has A c := by
  unfold comp Has
  constructor
  · rintro ⟨r, hr, a, b⟩
    obtain ⟨h1, h2⟩ := List.mem_filter.1 hr
    obtain ⟨i, hi, rfl⟩ := List.mem_map.1 h1
    have h3 := List.mem_range.1 hi
    simp only at a b h2
    obtain rfl : c = i := by omega
    refine ⟨by omega, by omega, fun h => ?_⟩
    rw [hasB_iff.2 h] at h2
    cases h2
  · rintro ⟨h0, h1, h2⟩
    refine ⟨(c, c), List.mem_filter.2 ⟨List.mem_map.2 ⟨c.toNat, List.mem_range.2 (by omega), by rw [show ((c.toNat : Nat) : Int) = c by omega]⟩, ?_⟩, Int.le_refl _, Int.le_refl _⟩
    simp only
    rw [Bool.eq_false_iff.2 fun e => h2 (hasB_iff.1 e)]
    rfl
theorem no256 : ¬ Has (da 81) 256 := by
  rw [da_has]
  rintro ⟨i, hi, a, b⟩
  have all : (rows.all fun r => !(decide (r.1 ≤ 256) && decide (256 ≤ r.2.1))) = true := by decide +kernel
  have := List.all_eq_true.1 all _ (rw5_mem hi)
  rw [decide_eq_true a, decide_eq_true b] at this
  cases this
theorem comp_ne : comp (da 81) ≠ [] := fun e => by
  have h := (comp_has (da 81) 256).2 ⟨by decide, by decide, no256⟩
  rw [e] at h
  exact has_nil _ h
theorem dl_wf (n : ByteArray) : ∀ k, k ≤ 81 → Wf (dl n k)
  | 0, _ => fun r hr => by cases hr
  | k + 1, h => by
    have ih := dl_wf n k (by omega)
    have hin := rw5_in (i := k) (by omega)
    rw [dl_succ]
    split
    · intro r hr
      rcases List.mem_append.1 hr with hr | hr
      · exact ih r hr
      · obtain rfl := List.mem_singleton.1 hr
        simp only
        omega
    · exact ih
theorem da_wf : ∀ k, k ≤ 81 → Wf (da k)
  | 0, _ => fun r hr => by cases hr
  | k + 1, h => by
    have ih := da_wf k (by omega)
    have hin := rw5_in (i := k) (by omega)
    intro r hr
    rcases List.mem_append.1 hr with hr | hr
    · exact ih r hr
    · obtain rfl := List.mem_singleton.1 hr
      simp only
      omega
theorem wf_app {A B : List Rg} (h1 : Wf A) (h2 : Wf B) : Wf (A ++ B) := fun r hr => (List.mem_append.1 hr).elim (h1 r) (h2 r)
theorem canon_len4_from : ∀ {S : List Rg} {lo : Int}, Canon S → (∀ r ∈ S, lo ≤ r.1) → lo ≤ 1114113 → lo + 2 * S.length ≤ 1114113
  | [], lo, _, _, h => by simpa using h
  | r :: S, lo, h, hl, _ => by
    have hr := h.2 r (List.mem_cons_self ..)
    have h1 := hl r (List.mem_cons_self ..)
    have := canon_len4_from (lo := r.2 + 2) (canon_tail h) (fun x hx => by have := (List.pairwise_cons.1 h.1).1 x hx; omega) (by omega)
    simp only [List.length_cons]
    omega
theorem canon_len4 {S : List Rg} (h : Canon S) : S.length ≤ 590000 := by
  have := canon_len4_from (lo := 0) h (fun r hr => (h.2 r hr).1) (by omega)
  omega
set_option maxRecDepth 100000 in
set_option maxHeartbeats 8000000 in
theorem dprop_any (n : ByteArray) (w : World) : Calls Tryd.prog 34 #[.string n] w (DPB n w) := by
  by_cases hA : n.toList = [65, 110, 121]
  · have hn : n = cAny := eq_lit hA
    subst hn
    have HI := Lib.hid (show true = isP cAny by decide +kernel)
    have HP := Lib.hid (show ∀ c, propP cAny c = true from fun c => by unfold propP hp; rw [any_kind]; rfl)
    clear hA
    unfold cAny
    go_enter Tryd.func34, Tryd.ntmps34
    go_wp2_with fail
    refine (one_any 0 1114111 w (by decide) (by decide) (by decide) (by decide)).mono ?_
    rintro e w1 ⟨v, rfl, hr, hb⟩
    have HR := Lib.hid hr
    clear hr
    go_wp2_with fail
    go_ret2
    refine ⟨v, [(0, 1114111)], by rw [show isP ⟨#[65, 110, 121]⟩ = true from HI.out.symm]; rfl, canon_of (by decide +kernel), fun c => ?_, HR.out, hb⟩
    rw [has_one, show propP ⟨#[65, 110, 121]⟩ c = true from HP.out c]
    simp
  have hn : n ≠ cAny := fun e => hA (by rw [e]; exact Lib.toList_data _)
  have HNE := Lib.hid hn
  have bA : (n.toList == [65, 110, 121]) = false := by simp [hA]
  clear hn
  go_enter Tryd.func34, Tryd.ntmps34
  go_wp2_with fail
  refine (Go.Proofs.YtgdhhpbpbkgmeaaDoor.ucdw.table_any w).mono ?_
  rintro e w2 ⟨vt, rfl, ht, hb2⟩
  obtain ⟨g, cap, rfl, _, hg2, hc1, hc2, hcell⟩ := Go.Proofs.YtgdhhpbpbkgmeaaDoor.ucdw.ownR_open ht
  have HG := Lib.hid hcell
  have HB2 := Lib.hid hb2
  clear ht hb2 hcell
  go_wp2_with fail
  go_loopw [4, 5, 7] (fun v4 v5 i wr => DRel n w2 v4 v5 i wr) (fun _ _ i _ => 81 - (intOf i).toNat)
  case atStart => exact ⟨0, Nat.zero_le _, rfl, ownR_nil _ _, ownR_nil _ _, Below.refl _ _, fun b h => by cases h⟩
  case round =>
    obtain ⟨k, hk, rfl, ho4, ho5, hb, hne⟩ := hrel
    have HO4 := Lib.hid ho4
    have HO5 := Lib.hid ho5
    have HB := Lib.hid hb
    have HNe := Lib.hid hne
    clear ho4 ho5 hb hne
    by_cases hlt : k < 81
    · have f0 := HG.out k 0 hlt (by decide)
      have f1 := HG.out k 1 hlt (by decide)
      have f2 := HG.out k 2 hlt (by decide)
      have f3 := HG.out k 3 hlt (by decide)
      have hds := dl_succ n k
      have hda : da (k + 1) = da k ++ [((rw5 k).1, (rw5 k).2.1)] := rfl
      have hin := rw5_in hlt
      obtain ⟨lo, hi, kk, ss, sh, hr5⟩ : ∃ lo hi kk ss sh, rw5 k = (lo, hi, kk, ss, sh) := ⟨_, _, _, _, _, rfl⟩
      have hr5' : Go.Proofs.YtgdhhpbpbkgmeaaDoor.ucdw.rk k = (lo, hi, kk, ss, sh) := hr5
      rw [hr5] at hds hda hin
      simp only [hr5', refC] at f0 f1 f2 f3
      simp only [List.getElem?_cons_zero, List.getElem?_cons_succ, Nat.add_zero] at f0 f1 f2 f3
      have hki : (k : Int) < 81 := by omega
      have hin2 := hin.1.1
      clear hin hr5 hr5'
      have F0 := Lib.hid f0
      have F1 := Lib.hid f1
      have F2 := Lib.hid f2
      have F3 := Lib.hid f3
      clear f0 f1 f2 f3
      go_wp2_with fail
      have h0 : Below w2.heap.size w2 wr.drew := HB.out.drew
      refine wp_region_held_drew (S := fun w' => Below w2.heap.size w2 w') (by kernel_rfl) h0 (fun hHeld => ?_)
      refine wpAnyH_take (i := 0) (v := ?_) rfl (by kernel_rfl) (by kernel_rfl) (by kernel_rfl) (fun _ _ _ h => h) (Or.inl ⟨by rfl, ?_⟩) (by assumption) ?_
      rotate_left
      · intro w' hSw
        have d0 := below_cell hSw F0.out
        have d1 := below_cell hSw F1.out
        go_simp
        try rfl
      simp only [Act.put, List.setIfInBounds_toArray, List.set_cons_zero, List.set_cons_succ, List.getElem_toArray, List.getElem_cons_zero]
      refine wpAnyH_take (i := 1) (v := ?_) rfl (by kernel_rfl) (by kernel_rfl) (by kernel_rfl) (fun _ _ _ h => h) (Or.inl ⟨by rfl, ?_⟩) (by assumption) ?_
      rotate_left
      · intro w' hSw
        have d0 := below_cell hSw F0.out
        have d1 := below_cell hSw F1.out
        go_simp
        try rfl
      simp only [Act.put, List.setIfInBounds_toArray, List.set_cons_zero, List.set_cons_succ, List.getElem_toArray, List.getElem_cons_succ, List.getElem_cons_zero]
      refine wpAnyH_take (i := 2) (v := ?_) rfl (by kernel_rfl) (by kernel_rfl) (by kernel_rfl) (fun _ _ _ h => h) (Or.inl ⟨by rfl, ?_⟩) (by assumption) ?_
      rotate_left
      · intro w' hSw
        have d0 := below_cell hSw F0.out
        have d1 := below_cell hSw F1.out
        go_simp
        try rfl
      simp only [Act.put, List.setIfInBounds_toArray, List.set_cons_zero, List.set_cons_succ, List.getElem_toArray, List.getElem_cons_succ, List.getElem_cons_zero]
      refine wpAnyH_take (i := 3) (v := ?_) rfl (by kernel_rfl) (by kernel_rfl) (by kernel_rfl) (fun _ _ _ h => h) (Or.inl ⟨by rfl, ?_⟩) (by assumption) ?_
      rotate_left
      · intro w' hSw
        have d0 := below_cell hSw F0.out
        have d1 := below_cell hSw F1.out
        go_simp
        try rfl
      simp only [Act.put, List.setIfInBounds_toArray, List.set_cons_zero, List.set_cons_succ, List.getElem_toArray, List.getElem_cons_succ, List.getElem_cons_zero]
      refine wpAnyH_take (i := 4) (v := ?_) rfl (by kernel_rfl) (by kernel_rfl) (by kernel_rfl) (fun _ _ _ h => h) (Or.inl ⟨by rfl, ?_⟩) (by assumption) ?_
      rotate_left
      · intro w' hSw
        have d0 := below_cell hSw F0.out
        have d1 := below_cell hSw F1.out
        go_simp
        try rfl
      simp only [Act.put, List.setIfInBounds_toArray, List.set_cons_zero, List.set_cons_succ, List.getElem_toArray, List.getElem_cons_succ, List.getElem_cons_zero]
      refine wpAnyH_take (i := 5) (v := ?_) rfl (by kernel_rfl) (by kernel_rfl) (by kernel_rfl) (fun _ _ _ h => h) (Or.inl ⟨by rfl, ?_⟩) (by assumption) ?_
      rotate_left
      · intro w' hSw
        have d0 := below_cell hSw F0.out
        have d1 := below_cell hSw F1.out
        go_simp
        try rfl
      simp only [Act.put, List.setIfInBounds_toArray, List.set_cons_zero, List.set_cons_succ, List.getElem_toArray, List.getElem_cons_succ, List.getElem_cons_zero]
      refine wpAnyH_take (i := 6) (v := ?_) rfl (by kernel_rfl) (by kernel_rfl) (by kernel_rfl) (fun _ _ _ h => h) (Or.inl ⟨by rfl, ?_⟩) (by assumption) ?_
      rotate_left
      · intro w' hSw
        have d0 := below_cell hSw F0.out
        have d1 := below_cell hSw F1.out
        go_simp
        try rfl
      simp only [Act.put, List.setIfInBounds_toArray, List.set_cons_zero, List.set_cons_succ, List.getElem_toArray, List.getElem_cons_succ, List.getElem_cons_zero]
      refine wpAnyH_take (i := 7) (v := ?_) rfl (by kernel_rfl) (by kernel_rfl) (by kernel_rfl) (fun _ _ _ h => h) (Or.inl ⟨by rfl, ?_⟩) (by assumption) ?_
      rotate_left
      · intro w' hSw
        have d0 := below_cell hSw F0.out
        have d1 := below_cell hSw F1.out
        go_simp
        try rfl
      simp only [Act.put, List.setIfInBounds_toArray, List.set_cons_zero, List.set_cons_succ, List.getElem_toArray, List.getElem_cons_succ, List.getElem_cons_zero]
      refine wpAnyH_take (i := 8) (v := ?_) rfl (by kernel_rfl) (by kernel_rfl) (by kernel_rfl) (fun _ _ _ h => h) (Or.inl ⟨by rfl, ?_⟩) (by assumption) ?_
      rotate_left
      · intro w' hSw
        have d0 := below_cell hSw F0.out
        have d1 := below_cell hSw F1.out
        go_simp
        try rfl
      simp only [Act.put, List.setIfInBounds_toArray, List.set_cons_zero, List.set_cons_succ, List.getElem_toArray, List.getElem_cons_succ, List.getElem_cons_zero]
      refine wpAnyH_take (i := 9) (v := ?_) rfl (by kernel_rfl) (by kernel_rfl) (by kernel_rfl) (fun _ _ _ h => h) (Or.inl ⟨by rfl, ?_⟩) (by assumption) ?_
      rotate_left
      · intro w' hSw
        have d0 := below_cell hSw F0.out
        have d1 := below_cell hSw F1.out
        go_simp
        try rfl
      simp only [Act.put, List.setIfInBounds_toArray, List.set_cons_zero, List.set_cons_succ, List.getElem_toArray, List.getElem_cons_succ, List.getElem_cons_zero]
      refine wpAnyH_take (i := 10) (v := ?_) rfl (by kernel_rfl) (by kernel_rfl) (by kernel_rfl) (fun _ _ _ h => h) (Or.inl ⟨by rfl, ?_⟩) (by assumption) ?_
      rotate_left
      · intro w' hSw
        have d0 := below_cell hSw F0.out
        have d1 := below_cell hSw F1.out
        go_simp
        try rfl
      simp only [Act.put, List.setIfInBounds_toArray, List.set_cons_zero, List.set_cons_succ, List.getElem_toArray, List.getElem_cons_succ, List.getElem_cons_zero]
      refine wpAnyH_ready (rs := [11]) (by kernel_rfl) (by simp) ?_
      refine AllReadyH.cons rfl (fun K hK => ?_) AllReadyH.nil
      go_simp
      refine hK.out _ _ (h0.alloc h0.size _) (fun hHeld => ?_)
      clear hK K
      try simp only [Act.put, List.setIfInBounds_toArray, List.set_cons_zero, List.set_cons_succ, List.getElem_toArray, List.getElem_cons_succ, List.getElem_cons_zero]
      refine wpAnyH_ready (rs := [12]) (by kernel_rfl) (by simp) ?_
      refine AllReadyH.cons rfl (fun K hK => ?_) AllReadyH.nil
      go_simp
      refine hK.out _ _ (h0.alloc h0.size _) (fun hHeld => ?_)
      clear hK K
      try simp only [Act.put, List.setIfInBounds_toArray, List.set_cons_zero, List.set_cons_succ, List.getElem_toArray, List.getElem_cons_succ, List.getElem_cons_zero]
      refine wpAnyH_done (by kernel_rfl) ?_ _
      obtain ⟨c0, c1, hbx, ho4x, ho5x, h4b, h5b, hBx⟩ : World.cell? (World.drew (wr.alloc (Obj.cells #[Value.int IntKind.i64 lo, Value.int IntKind.i64 hi] 52))) ⟨wr.heap.size, 0, none⟩ = some (.int .i64 lo) ∧ World.cell? (World.drew (wr.alloc (Obj.cells #[Value.int IntKind.i64 lo, Value.int IntKind.i64 hi] 52))) ⟨wr.heap.size, 1, none⟩ = some (.int .i64 hi) ∧ Below w2.heap.size w2 (World.drew (wr.alloc (Obj.cells #[Value.int IntKind.i64 lo, Value.int IntKind.i64 hi] 52))) ∧ OwnR (World.drew (wr.alloc (Obj.cells #[Value.int IntKind.i64 lo, Value.int IntKind.i64 hi] 52))) w2.heap.size u4 (dl n k) ∧ OwnR (World.drew (wr.alloc (Obj.cells #[Value.int IntKind.i64 lo, Value.int IntKind.i64 hi] 52))) w2.heap.size u5 (da k) ∧ (∀ b, u4.ownBlock = some b → b < wr.heap.size) ∧ (∀ b, u5.ownBlock = some b → b < wr.heap.size) ∧ wr.heap.size < (World.drew (wr.alloc (Obj.cells #[Value.int IntKind.i64 lo, Value.int IntKind.i64 hi] 52))).heap.size := by
        refine ⟨?_, ?_, h0.alloc h0.size _, ownR_below HO4.out (show Below wr.heap.size wr (World.drew (wr.alloc _)) from (below_alloc wr _).drew), ownR_below HO5.out (show Below wr.heap.size wr (World.drew (wr.alloc _)) from (below_alloc wr _).drew), fun b hb => (World.ownsRow.lt HO4.out.1 b hb).2, fun b hb => (World.ownsRow.lt HO5.out.1 b hb).2, ?_⟩
        · show World.cell? (wr.alloc _) ⟨wr.heap.size, 0, none⟩ = _
          rw [World.cell?_alloc_new]; rfl
        · show World.cell? (wr.alloc _) ⟨wr.heap.size, 1, none⟩ = _
          rw [World.cell?_alloc_new]; rfl
        · show wr.heap.size < (wr.alloc _).heap.size
          rw [World.size_alloc]; omega
      generalize World.drew (wr.alloc (Obj.cells #[Value.int IntKind.i64 lo, Value.int IntKind.i64 hi] 52)) = wx at *
      have C0 := Lib.hid c0
      have C1 := Lib.hid c1
      have HBx := Lib.hid hbx
      have HO4x := Lib.hid ho4x
      have HO5x := Lib.hid ho5x
      have H4b := Lib.hid h4b
      have H5b := Lib.hid h5b
      have HdaL := Lib.hid (show (da k).length ≤ 100000000 by rw [da_len]; omega)
      have HdlL := Lib.hid (show (dl n k).length ≤ 100000000 by have := dl_len n k; omega)
      clear h0 hHeld hbx ho4x ho5x h4b h5b HO4 HO5 HB
      generalize wr.heap.size = B0 at *
      go_upto_region 11 with (at_builtin; refine wpList_append_rg rfl _ _ rfl w2.heap.size u5 (da k) rfl HO5x.out lo hi _ rfl rfl HdaL.out HBx.out.size ?_; intro v5 w3 ho5 hb5 hg5 hat5)
      have HO5 := Lib.hid (show OwnR w3 w2.heap.size v5 (da (k + 1)) from by rw [hda]; exact ho5)
      have HO4 := Lib.hid (ownR_apart HO4x.out hg5 HNe.out)
      have HB3 := Lib.hid (hb5 _ _ HBx.out (Nat.le_refl _))
      have D0 := Lib.hid (hg5.cell C0.out (fun e => absurd (H5b.out B0 e.symm) (Nat.lt_irrefl _)))
      have D1 := Lib.hid (hg5.cell C1.out (fun e => absurd (H5b.out B0 e.symm) (Nat.lt_irrefl _)))
      have HN5 := Lib.hid (show ∀ b, u4.ownBlock = some b → v5.ownBlock ≠ some b from fun b hb e => by
        rcases hat5 with h | ⟨q, h, hq⟩
        · exact HNe.out b hb (h ▸ e)
        · rw [h] at e
          have e2 : q = b := Option.some.inj e
          have := H4b.out b hb
          omega)
      have H4c := Lib.hid (show ∀ b, u4.ownBlock = some b → b < w3.heap.size from fun b hb => (World.ownsRow.lt HO4.out.1 b hb).2)
      have HB0 := Lib.hid (Nat.lt_of_lt_of_le hBx hg5.size)
      clear ho5 hb5 hg5 hat5 c0 c1 C0 C1 HBx HO4x HO5x HNe H4b H5b hda hBx
      have d2 := below_cell HB3.out F2.out
      have d3 := below_cell HB3.out F3.out
      obtain ⟨cb, hcb⟩ : ∃ cb, catB kk = cb := ⟨_, rfl⟩
      obtain ⟨sb, hsb⟩ : ∃ sb, scrB ss = sb := ⟨_, rfl⟩
      have hsz : cb.size = 2 := by rw [← hcb]; exact cat_two hin2
      have hsz2 : (1 : Int) ≤ (cb.size : Int) := by omega
      have HMB := Lib.hid (show mB n kk ss = (((cb.toList == n.toList) || (sb.toList == n.toList)) || (decide (n.size = 1) && ((cb.extract 0 1).toList == n.toList)) || ((n.toList == [76, 38]) && ((cb.toList == [76, 117]) || (cb.toList == [76, 108])))) from mB_walk hcb hsb)
      rw [hcb] at d2
      rw [hsb] at d3
      clear F0 F1 F2 F3 hcb hsb
      go_upto_region 12 with (fail)
      go_cut [74] from 14 to 78 (fun v w' => v = .bool (mB n kk ss) ∧ w' = w3)
      case first =>
        by_cases h1 : cb.toList = n.toList
        · have b1 : (cb.toList == n.toList) = true := by simp [h1]
          go_wp2_with fail
          go_meet
          exact ⟨by rw [HMB.out]; simp [*], rfl⟩
        have b1 : (cb.toList == n.toList) = false := by simp [h1]
        by_cases h2 : sb.toList = n.toList
        · have b2 : (sb.toList == n.toList) = true := by simp [h2]
          go_wp2_with fail
          go_meet
          exact ⟨by rw [HMB.out]; simp [*], rfl⟩
        have b2 : (sb.toList == n.toList) = false := by simp [h2]
        by_cases h3 : n.size = 1
        · have b3 : decide (n.size = 1) = true := decide_eq_true h3
          have b3i : ((n.size : Int) == 1) = true := by simp [h3]
          by_cases h4 : (cb.extract 0 1).toList = n.toList
          · have b4 : ((cb.extract 0 1).toList == n.toList) = true := by simp [h4]
            go_wp2_with fail
            go_meet
            exact ⟨by rw [HMB.out]; simp [*], rfl⟩
          have b4 : ((cb.extract 0 1).toList == n.toList) = false := by simp [h4]
          have h5 : ¬ n.toList = [76, 38] := fun e => by
            have e2 := eq_lit (a := #[76, 38]) e
            rw [e2] at h3
            exact absurd h3 (by decide)
          have b5 : (n.toList == [76, 38]) = false := by simp [h5]
          go_wp2_with fail
          go_meet
          exact ⟨by rw [HMB.out]; simp [*], rfl⟩
        have b3 : decide (n.size = 1) = false := decide_eq_false h3
        have b3i : ((n.size : Int) == 1) = false := by simp; omega
        by_cases h5 : n.toList = [76, 38]
        · have b5 : (n.toList == [76, 38]) = true := by simp [h5]
          clear h5
          by_cases h6 : cb.toList = [76, 117]
          · have b6 : (cb.toList == [76, 117]) = true := by simp [h6]
            clear h6
            go_wp2_with fail
            go_meet
            exact ⟨by rw [HMB.out]; simp [*], rfl⟩
          have b6 : (cb.toList == [76, 117]) = false := by simp [h6]
          by_cases h7 : cb.toList = [76, 108]
          · have b7 : (cb.toList == [76, 108]) = true := by simp [h7]
            clear h7
            go_wp2_with fail
            go_meet
            exact ⟨by rw [HMB.out]; simp [*], rfl⟩
          have b7 : (cb.toList == [76, 108]) = false := by simp [h7]
          go_wp2_with fail
          go_meet
          exact ⟨by rw [HMB.out]; simp [*], rfl⟩
        have b5 : (n.toList == [76, 38]) = false := by simp [h5]
        go_wp2_with fail
        go_meet
        exact ⟨by rw [HMB.out]; simp [*], rfl⟩
      case rest =>
        obtain ⟨rfl, rfl⟩ := hcut
        clear HMB d2 d3
        have d0 := D0.out
        have d1 := D1.out
        cases hm : mB n kk ss
        · rw [hm, if_neg (by simp)] at hds
          have HDS := Lib.hid hds
          clear hds
          go_wp2_with fail
          go_roundw
          case rel => exact ⟨k + 1, by omega, by go_num, by rw [HDS.out]; exact HO4.out, HO5.out, HB3.out, HN5.out⟩
          case measure => simp [intOf]; omega
        · rw [hm, if_pos rfl] at hds
          have HDS := Lib.hid hds
          clear hds
          go_wp2_with (at_builtin; refine wpList_append_rg rfl _ _ rfl w2.heap.size u4 (dl n k) rfl HO4.out lo hi _ rfl rfl HdlL.out HB3.out.size ?_; intro v4 w4 ho4 hb4 hg4 hat4; have HO4n := Lib.hid ho4; have HB4 := Lib.hid (hb4 _ _ HB3.out (Nat.le_refl _)); have HG4 := Lib.hid hg4; have HAt := Lib.hid hat4; clear ho4 hb4 hg4 hat4)
          go_roundw
          case rel => exact ⟨k + 1, by omega, by go_num, by rw [HDS.out]; exact HO4n.out, ownR_apart HO5.out HG4.out (fun b hb e => HN5.out b e hb), HB4.out, fun b hb e => by
            rcases HAt.out with h | ⟨q, h, hq⟩
            · exact HN5.out b (h ▸ hb) e
            · rw [h] at hb
              have e2 : q = b := Option.some.inj hb
              have := (World.ownsRow.lt HO5.out.1 b e).2
              omega⟩
          case measure => simp [intOf]; omega
    · obtain rfl : k = 81 := by omega
      clear HG
      have HCN := Lib.hid (show cnB n = (((n.toList == [67, 110]) || (n.toList == [67])) || (n.toList == [85, 110, 107, 110, 111, 119, 110])) from cn_walk n)
      go_upto_region 14 with (fail)
      go_cut [88] (fun v w' => v = .bool (cnB n) ∧ w' = wr)
      case first =>
        by_cases h1 : n.toList = [67, 110]
        · have b1 : (n.toList == [67, 110]) = true := by simp [h1]
          go_wp2_with fail
          go_meet
          exact ⟨by rw [HCN.out]; simp [*], rfl⟩
        have b1 : (n.toList == [67, 110]) = false := by simp [h1]
        by_cases h2 : n.toList = [67]
        · have b2 : (n.toList == [67]) = true := by simp [h2]
          go_wp2_with fail
          go_meet
          exact ⟨by rw [HCN.out]; simp [*], rfl⟩
        have b2 : (n.toList == [67]) = false := by simp [h2]
        by_cases h3 : n.toList = [85, 110, 107, 110, 111, 119, 110]
        · have b3 : (n.toList == [85, 110, 107, 110, 111, 119, 110]) = true := by simp [h3]
          go_wp2_with fail
          go_meet
          exact ⟨by rw [HCN.out]; simp [*], rfl⟩
        have b3 : (n.toList == [85, 110, 107, 110, 111, 119, 110]) = false := by simp [h3]
        go_wp2_with fail
        go_meet
        exact ⟨by rw [HCN.out]; simp [*], rfl⟩
      case rest =>
        obtain ⟨rfl, rfl⟩ := hcut
        clear HCN
        have HBw := Lib.hid (HB2.out.trans (HB.out.mono HB2.out.size))
        cases hc : cnB n
        · have hF := doc_has HNE.out (comp_has (da 81)) (F := dl n 81) (by rw [hc, if_neg (by simp)])
          have hN := doc_none HNE.out comp_ne (F := dl n 81) (by rw [hc, if_neg (by simp)])
          have HF := Lib.hid hF
          have HWf := Lib.hid (dl_wf n 81 (Nat.le_refl _))
          have hlen := dl_len n 81
          by_cases h0 : dl n 81 = []
          · have HI := Lib.hid (hN.1 h0)
            rw [h0] at HO4 HF
            obtain rfl := HO4.out.2 rfl
            clear hF hN HWf
            go_wp2_with fail
            go_ret2
            exact dpb_none HI.out HF.out HBw.out
          · have HI := Lib.hid (show isP n = true by
              cases h : isP n
              · exact absurd (hN.2 h) h0
              · rfl)
            obtain ⟨av, qv, rfl⟩ := ownR_len HO4.out
            have hpos : ¬ (((dl n 81).length : Int) = 0) := by
              intro e
              exact h0 (List.eq_nil_of_length_eq_zero (by omega))
            have HNew := Lib.hid (fun v (h : OwnR wc w2.heap.size v (dl n 81)) => rneww_any v (dl n 81) 1114111 wc (rs_own h HWf.out) (by omega) (by decide) (by decide))
            generalize dl n 81 = F at *
            clear hF hN
            go_wp2_with fail
            refine (HNew.out _ HO4.out).mono ?_
            rintro e w5 ⟨v5, S, rfl, hS, hh, ho, hb5⟩
            have HD := Lib.hid (dpb_some HI.out hS (fun c => (hh c).trans (HF.out c)) (rs_own ho (wf_canon hS.2)) (HBw.out.trans (hb5.mono HBw.out.size)))
            clear hS hh ho hb5
            go_wp2_with fail
            go_ret2
            exact HD.out
        · go_wp2_with fail
          refine (join2_any u5 (.slice none 0 0) (da 81) [] 1114111 wc (rs_own HO5.out (da_wf 81 (Nat.le_refl _))) (rs_nil _) (by rw [da_len]; omega) (by simp) (by decide) (by decide)).mono ?_
          rintro e w4 ⟨vj, J, rfl, hJ, hhJ, hoJ, hb4⟩
          have HJ := Lib.hid (show ∀ c, Has J c ↔ 0 ≤ c ∧ c ≤ 1114111 ∧ ¬ Has (da 81) c from fun c => by rw [hhJ c, qB_not]; rw [show min (1114111 : Int) 1114111 = 1114111 by decide])
          have hF := doc_has HNE.out HJ.out (F := dl n 81 ++ J) (by rw [hc, if_pos rfl])
          have h256 : Has J 256 := (HJ.out 256).2 ⟨by decide, by decide, no256⟩
          have hJn : J ≠ [] := fun e => by rw [e] at h256; exact has_nil _ h256
          have hN := doc_none HNE.out hJn (F := dl n 81 ++ J) (by rw [hc, if_pos rfl])
          have hjl := canon_len4 hJ
          have hlen := dl_len n 81
          have HF := Lib.hid hF
          have HWf := Lib.hid (wf_app (dl_wf n 81 (Nat.le_refl _)) (wf_canon hJ.2))
          have HI := Lib.hid (show isP n = true by
            cases h : isP n
            · exact absurd (List.append_eq_nil_iff.1 (hN.2 h)).2 hJn
            · rfl)
          have HO4b := Lib.hid (ownR_below HO4.out hb4)
          have HRJ := Lib.hid (rs_own hoJ (wf_canon hJ.2))
          have HB4 := Lib.hid (HB.out.trans (hb4.mono HB.out.size))
          have HLs := Lib.hid (show (dl n 81).length + J.length ≤ 100000000 by omega)
          have hJp : 0 < J.length := by
            rcases Nat.eq_zero_or_pos J.length with h | h
            · exact absurd (List.eq_nil_of_length_eq_zero h) hJn
            · exact h
          have hFl : (dl n 81 ++ J).length ≤ 600000 := by rw [List.length_append]; omega
          have hpos : ¬ (((dl n 81 ++ J).length : Int) = 0) := by rw [List.length_append]; omega
          clear hJ hhJ hoJ hb4 hF hN h256 hJn HJ
          go_upto_region 16 with (at_builtin; refine wpList_append_rs rfl _ _ rfl w2.heap.size u4 (dl n 81) rfl HO4b.out _ J rfl HRJ.out HLs.out HB4.out.size ?_; intro va wa hoa hba; have HOa := Lib.hid hoa; have HBa := Lib.hid (hba _ _ HB4.out (Nat.le_refl _)); clear hoa hba)
          have HBw2 := Lib.hid (HB2.out.trans (HBa.out.mono HB2.out.size))
          obtain ⟨av, qv, rfl⟩ := ownR_len HOa.out
          have HNew := Lib.hid (fun v (h : OwnR wa w2.heap.size v (dl n 81 ++ J)) => rneww_any v (dl n 81 ++ J) 1114111 wa (rs_own h HWf.out) hFl (by decide) (by decide))
          generalize dl n 81 ++ J = F at *
          go_wp2_with fail
          refine (HNew.out _ HOa.out).mono ?_
          rintro e w5 ⟨v5, S, rfl, hS, hh, ho, hb5⟩
          have HD := Lib.hid (dpb_some HI.out hS (fun c => (hh c).trans (HF.out c)) (rs_own ho (wf_canon hS.2)) (HBw2.out.trans (hb5.mono HBw2.out.size)))
          clear hS hh ho hb5
          go_wp2_with fail
          go_ret2
          exact HD.out
end Go.Proofs.YtgdhhpbpbkgmeaaDoor.prd
