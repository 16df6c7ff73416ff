/- Texts that TreeCountsLaw leans on, merged: what the functions of the program answer. -/
import Derived.ChangeSame
import Derived.Deep.Cut
import Derived.Deep.SlicePairs
import Derived.Lib.SmallJoins
import Derived.SizedLaws
import Derived.Test.YtpjaahojoabgjaaBTr06
section
namespace Go.Proofs.Ytpjaahojoabgjaa.trw
open Go Go.RowKit trp
theorem cells0 {w : World} {B : Nat} {x : Lab} {t : TypeId} (h : w.heap[B]? = some (.cells (ndC x).toArray t)) : ∀ (j : Nat) v, (ndC x)[j]? = some v → w.cell? ⟨B, 0 + j, none⟩ = some v := fun j v hj => by
 rw [Nat.zero_add]
 exact cells12 h j v hj
set_option maxRecDepth 100000 in
set_option maxHeartbeats 4000000 in
theorem counts_law (x : Lab) (k : F) (w : World) (hn : NdAt w (x, k)) : Calls Try.prog 3 #[ndV x] w (BoolB true w) := by
 by_cases h4 : k.size + 1 ≤ 4000
 · go_enter Try.func3, Try.ntmps3
   go_upto_region 1 with (refine wpList_box_nd rfl _ rfl x rfl ?_)
   generalize hg : w.alloc _ = W
   have HB : Hid (Below w.heap.size w W) := Lib.hid (by rw [← hg]; exact below_alloc _ _)
   have hr : W.heap[w.heap.size]? = some (.cells (ndC x).toArray 25) := by rw [← hg]; exact heap_alloc_new _ _
   have hlt := (Array.getElem?_eq_some_iff.1 hr).1
   have R0 := Lib.hid (fun w1 (hb : Below W.heap.size W w1) => cells0 ((hb.block _ hlt).trans hr))
   have HN := Lib.hid (fun w1 (hb : Below W.heap.size W w1) => below_nd hb (below_nd HB.out hn))
   clear hg hr hlt hn
   obtain ⟨B0, hB0⟩ : ∃ B0, w.heap.size = B0 := ⟨_, rfl⟩
   rw [hB0] at R0 ⊢
   go_wp2_with fail
   refine (awake_any W).mono ?_
   rintro e w1 ⟨rfl, hb⟩
   have H1 := Lib.hid hb
   clear hb
   obtain ⟨s, hs⟩ : ∃ s, min 4001 (k.size + 1) = s := ⟨_, rfl⟩
   have HZ : Hid (∀ w1, Below W.heap.size W w1 → Calls Try.prog 10 #[ndV x] w1 (IntB (s : Nat) w1)) := Lib.hid (fun w1 hb => by have := psize_any x k w1 (HN.out w1 hb); rw [hs] at this; exact this)
   have HY : Hid (∀ w1, Below W.heap.size W w1 → Calls Try.prog 11 #[ndV x] w1 (IntB (s : Nat) w1)) := Lib.hid (fun w1 hb => by have := rsize_any x k w1 (HN.out w1 hb); rw [hs] at this; exact this)
   have HS : Hid (∀ w1, Below W.heap.size W w1 → Calls Try.prog 12 #[ndV x] w1 (BoolB true w1)) := Lib.hid (fun w1 hb => by have := small_any x k w1 (HN.out w1 hb); rw [decide_eq_true h4] at this; exact this)
   obtain ⟨d, hd⟩ : ∃ d, min 301 (k.deep + 1) = d := ⟨_, rfl⟩
   have HD : Hid (∀ w1, Below W.heap.size W w1 → Calls Try.prog 13 #[ndV x] w1 (IntB (d : Nat) w1)) := Lib.hid (fun w1 hb => by have := pdepth_any x k w1 (HN.out w1 hb) h4; rw [hd] at this; exact this)
   have HE : Hid (∀ w1, Below W.heap.size W w1 → Calls Try.prog 14 #[ndV x] w1 (IntB (d : Nat) w1)) := Lib.hid (fun w1 hb => by have := rdepth_any x k w1 (HN.out w1 hb); rw [hd] at this; exact this)
   clear hd
   clear hs HN h4
   go_wp2_with fail
   refine wp_region_held_drew (S := fun w' => Below W.heap.size W w') (by kernel_rfl) H1.out.drew (fun hHeld => ?_)
   first
     | (refine wpAnyH_take (i := 0) (v := ?_) rfl (by kernel_rfl) (by kernel_rfl) (by kernel_rfl) (fun _ _ _ h => h) (Or.inl ⟨by rfl, ?_⟩) (by assumption) ?_; rotate_left; · (intro w' hSw; refine exec_load_nd (x := .tmp 1) (b := B0) (off := 0) (l := x) ?_ ?_ (R0.out w' hSw) <;> rfl))
     | (refine wpAnyH_take (i := 0) rfl (by kernel_rfl) (by kernel_rfl) (by kernel_rfl) (fun _ _ _ h => h) (Or.inr ⟨by rfl, rfl⟩) (by assumption) ?_)
   simp only [Act.put, List.setIfInBounds_toArray, List.set_cons_zero, List.set_cons_succ, List.getElem_toArray, List.getElem_cons_zero]
   first
     | (refine wpAnyH_take (i := 2) (v := ?_) rfl (by kernel_rfl) (by kernel_rfl) (by kernel_rfl) (fun _ _ _ h => h) (Or.inl ⟨by rfl, ?_⟩) (by assumption) ?_; rotate_left; · (intro w' hSw; refine exec_load_nd (x := .tmp 1) (b := B0) (off := 0) (l := x) ?_ ?_ (R0.out w' hSw) <;> rfl))
     | (refine wpAnyH_take (i := 2) rfl (by kernel_rfl) (by kernel_rfl) (by kernel_rfl) (fun _ _ _ h => h) (Or.inr ⟨by rfl, rfl⟩) (by assumption) ?_)
   simp only [Act.put, List.setIfInBounds_toArray, List.set_cons_zero, List.set_cons_succ, List.getElem_toArray, List.getElem_cons_succ, List.getElem_cons_zero]
   refine wpAnyH_ready (rs := [1]) (by kernel_rfl) (by simp) ?_
   refine AllReadyH.cons rfl (fun K hK => ?_) AllReadyH.nil
   go_simp
   refine (HZ.out _ hHeld).mono ?_
   rintro e w2 ⟨rfl, hb⟩
   have hHeld : Below W.heap.size W w2 := hHeld.trans (hb.mono hHeld.size)
   refine hK.out _ _ hHeld (fun hHeld => ?_)
   clear hK K hb
   try simp only [Act.put, List.setIfInBounds_toArray, List.set_cons_zero, List.set_cons_succ, List.getElem_toArray, List.getElem_cons_succ, List.getElem_cons_zero]
   refine wpAnyH_ready (rs := [3]) (by kernel_rfl) (by simp) ?_
   refine AllReadyH.cons rfl (fun K hK => ?_) AllReadyH.nil
   go_simp
   refine (HY.out _ hHeld).mono ?_
   rintro e w3 ⟨rfl, hb⟩
   have hHeld : Below W.heap.size W w3 := hHeld.trans (hb.mono hHeld.size)
   refine hK.out _ _ hHeld (fun hHeld => ?_)
   clear hK K hb
   try simp only [Act.put, List.setIfInBounds_toArray, List.set_cons_zero, List.set_cons_succ, List.getElem_toArray, List.getElem_cons_succ, List.getElem_cons_zero]
   first
     | (refine wpAnyH_take (i := 4) (v := ?_) rfl (by kernel_rfl) (by kernel_rfl) (by kernel_rfl) (fun _ _ _ h => h) (Or.inl ⟨by rfl, ?_⟩) (by assumption) ?_; rotate_left; · (intro w' hSw; go_simp; try rfl))
     | (refine wpAnyH_take (i := 4) rfl (by kernel_rfl) (by kernel_rfl) (by kernel_rfl) (fun _ _ _ h => h) (Or.inr ⟨by rfl, rfl⟩) (by assumption) ?_)
   simp only [Act.put, List.setIfInBounds_toArray, List.set_cons_zero, List.set_cons_succ, List.getElem_toArray, List.getElem_cons_succ, List.getElem_cons_zero]
   refine wpAnyH_done (by kernel_rfl) ?_ _
   have H3 := Lib.hid hHeld
   go_wp2_with (first | (refine wpList_load_nd rfl _ rfl B0 0 rfl x (R0.out w3 H3.out) ?_))
   refine (HS.out w3 H3.out).mono ?_
   rintro e w4 ⟨rfl, hb⟩
   have H4 := Lib.hid (H3.out.trans (hb.mono H3.out.size))
   clear hb
   go_wp2_with fail
   refine wp_region_held_drew (S := fun w' => Below W.heap.size W w') (by kernel_rfl) H4.out.drew (fun hHeld => ?_)
   first
     | (refine wpAnyH_take (i := 0) (v := ?_) rfl (by kernel_rfl) (by kernel_rfl) (by kernel_rfl) (fun _ _ _ h => h) (Or.inl ⟨by rfl, ?_⟩) (by assumption) ?_; rotate_left; · (intro w' hSw; go_simp; try rfl))
     | (refine wpAnyH_take (i := 0) rfl (by kernel_rfl) (by kernel_rfl) (by kernel_rfl) (fun _ _ _ h => h) (Or.inr ⟨by rfl, rfl⟩) (by assumption) ?_)
   simp only [Act.put, List.setIfInBounds_toArray, List.set_cons_zero, List.set_cons_succ, List.getElem_toArray, List.getElem_cons_zero]
   first
     | (refine wpAnyH_take (i := 1) (v := ?_) rfl (by kernel_rfl) (by kernel_rfl) (by kernel_rfl) (fun _ _ _ h => h) (Or.inl ⟨by rfl, ?_⟩) (by assumption) ?_; rotate_left; · (intro w' hSw; go_simp; try rfl))
     | (refine wpAnyH_take (i := 1) rfl (by kernel_rfl) (by kernel_rfl) (by kernel_rfl) (fun _ _ _ h => h) (Or.inr ⟨by rfl, rfl⟩) (by assumption) ?_)
   simp only [Act.put, List.setIfInBounds_toArray, List.set_cons_zero, List.set_cons_succ, List.getElem_toArray, List.getElem_cons_succ, List.getElem_cons_zero]
   first
     | (refine wpAnyH_take (i := 2) (v := ?_) rfl (by kernel_rfl) (by kernel_rfl) (by kernel_rfl) (fun _ _ _ h => h) (Or.inl ⟨by rfl, ?_⟩) (by assumption) ?_; rotate_left; · (intro w' hSw; go_simp; try rfl))
     | (refine wpAnyH_take (i := 2) rfl (by kernel_rfl) (by kernel_rfl) (by kernel_rfl) (fun _ _ _ h => h) (Or.inr ⟨by rfl, rfl⟩) (by assumption) ?_)
   simp only [Act.put, List.setIfInBounds_toArray, List.set_cons_zero, List.set_cons_succ, List.getElem_toArray, List.getElem_cons_succ, List.getElem_cons_zero]
   first
     | (refine wpAnyH_take (i := 3) (v := ?_) rfl (by kernel_rfl) (by kernel_rfl) (by kernel_rfl) (fun _ _ _ h => h) (Or.inl ⟨by rfl, ?_⟩) (by assumption) ?_; rotate_left; · (intro w' hSw; refine exec_load_nd (x := .tmp 1) (b := B0) (off := 0) (l := x) ?_ ?_ (R0.out w' hSw) <;> rfl))
     | (refine wpAnyH_take (i := 3) rfl (by kernel_rfl) (by kernel_rfl) (by kernel_rfl) (fun _ _ _ h => h) (Or.inr ⟨by rfl, rfl⟩) (by assumption) ?_)
   simp only [Act.put, List.setIfInBounds_toArray, List.set_cons_zero, List.set_cons_succ, List.getElem_toArray, List.getElem_cons_succ, List.getElem_cons_zero]
   first
     | (refine wpAnyH_take (i := 5) (v := ?_) rfl (by kernel_rfl) (by kernel_rfl) (by kernel_rfl) (fun _ _ _ h => h) (Or.inl ⟨by rfl, ?_⟩) (by assumption) ?_; rotate_left; · (intro w' hSw; refine exec_load_nd (x := .tmp 1) (b := B0) (off := 0) (l := x) ?_ ?_ (R0.out w' hSw) <;> rfl))
     | (refine wpAnyH_take (i := 5) rfl (by kernel_rfl) (by kernel_rfl) (by kernel_rfl) (fun _ _ _ h => h) (Or.inr ⟨by rfl, rfl⟩) (by assumption) ?_)
   simp only [Act.put, List.setIfInBounds_toArray, List.set_cons_zero, List.set_cons_succ, List.getElem_toArray, List.getElem_cons_succ, List.getElem_cons_zero]
   refine wpAnyH_ready (rs := [4]) (by kernel_rfl) (by simp) ?_
   refine AllReadyH.cons rfl (fun K hK => ?_) AllReadyH.nil
   go_simp
   refine (HD.out _ hHeld).mono ?_
   rintro e w5 ⟨rfl, hb⟩
   have hHeld : Below W.heap.size W w5 := hHeld.trans (hb.mono hHeld.size)
   refine hK.out _ _ hHeld (fun hHeld => ?_)
   clear hK K hb
   try simp only [Act.put, List.setIfInBounds_toArray, List.set_cons_zero, List.set_cons_succ, List.getElem_toArray, List.getElem_cons_succ, List.getElem_cons_zero]
   refine wpAnyH_ready (rs := [6]) (by kernel_rfl) (by simp) ?_
   refine AllReadyH.cons rfl (fun K hK => ?_) AllReadyH.nil
   go_simp
   refine (HE.out _ hHeld).mono ?_
   rintro e w6 ⟨rfl, hb⟩
   have hHeld : Below W.heap.size W w6 := hHeld.trans (hb.mono hHeld.size)
   refine hK.out _ _ hHeld (fun hHeld => ?_)
   clear hK K hb
   try simp only [Act.put, List.setIfInBounds_toArray, List.set_cons_zero, List.set_cons_succ, List.getElem_toArray, List.getElem_cons_succ, List.getElem_cons_zero]
   first
     | (refine wpAnyH_take (i := 7) (v := ?_) rfl (by kernel_rfl) (by kernel_rfl) (by kernel_rfl) (fun _ _ _ h => h) (Or.inl ⟨by rfl, ?_⟩) (by assumption) ?_; rotate_left; · (intro w' hSw; go_simp; try rfl))
     | (refine wpAnyH_take (i := 7) rfl (by kernel_rfl) (by kernel_rfl) (by kernel_rfl) (fun _ _ _ h => h) (Or.inr ⟨by rfl, rfl⟩) (by assumption) ?_)
   simp only [Act.put, List.setIfInBounds_toArray, List.set_cons_zero, List.set_cons_succ, List.getElem_toArray, List.getElem_cons_succ, List.getElem_cons_zero]
   first
     | (refine wpAnyH_take (i := 8) (v := ?_) rfl (by kernel_rfl) (by kernel_rfl) (by kernel_rfl) (fun _ _ _ h => h) (Or.inl ⟨by rfl, ?_⟩) (by assumption) ?_; rotate_left; · (intro w' hSw; go_simp; try rfl))
     | (refine wpAnyH_take (i := 8) rfl (by kernel_rfl) (by kernel_rfl) (by kernel_rfl) (fun _ _ _ h => h) (Or.inr ⟨by rfl, rfl⟩) (by assumption) ?_)
   simp only [Act.put, List.setIfInBounds_toArray, List.set_cons_zero, List.set_cons_succ, List.getElem_toArray, List.getElem_cons_succ, List.getElem_cons_zero]
   first
     | (refine wpAnyH_take (i := 9) (v := ?_) rfl (by kernel_rfl) (by kernel_rfl) (by kernel_rfl) (fun _ _ _ h => h) (Or.inl ⟨by rfl, ?_⟩) (by assumption) ?_; rotate_left; · (intro w' hSw; go_simp; try rfl))
     | (refine wpAnyH_take (i := 9) rfl (by kernel_rfl) (by kernel_rfl) (by kernel_rfl) (fun _ _ _ h => h) (Or.inr ⟨by rfl, rfl⟩) (by assumption) ?_)
   simp only [Act.put, List.setIfInBounds_toArray, List.set_cons_zero, List.set_cons_succ, List.getElem_toArray, List.getElem_cons_succ, List.getElem_cons_zero]
   refine wpAnyH_done (by kernel_rfl) ?_ _
   go_wp2_with fail
   go_ret
   exact ⟨by simp, HB.out.trans (hHeld.mono HB.out.size)⟩
 · go_enter Try.func3, Try.ntmps3
   go_upto_region 1 with (refine wpList_box_nd rfl _ rfl x rfl ?_)
   generalize hg : w.alloc _ = W
   have HB : Hid (Below w.heap.size w W) := Lib.hid (by rw [← hg]; exact below_alloc _ _)
   have hr : W.heap[w.heap.size]? = some (.cells (ndC x).toArray 25) := by rw [← hg]; exact heap_alloc_new _ _
   have hlt := (Array.getElem?_eq_some_iff.1 hr).1
   have R0 := Lib.hid (fun w1 (hb : Below W.heap.size W w1) => cells0 ((hb.block _ hlt).trans hr))
   have HN := Lib.hid (fun w1 (hb : Below W.heap.size W w1) => below_nd hb (below_nd HB.out hn))
   clear hg hr hlt hn
   obtain ⟨B0, hB0⟩ : ∃ B0, w.heap.size = B0 := ⟨_, rfl⟩
   rw [hB0] at R0 ⊢
   go_wp2_with fail
   refine (awake_any W).mono ?_
   rintro e w1 ⟨rfl, hb⟩
   have H1 := Lib.hid hb
   clear hb
   obtain ⟨s, hs⟩ : ∃ s, min 4001 (k.size + 1) = s := ⟨_, rfl⟩
   have HZ : Hid (∀ w1, Below W.heap.size W w1 → Calls Try.prog 10 #[ndV x] w1 (IntB (s : Nat) w1)) := Lib.hid (fun w1 hb => by have := psize_any x k w1 (HN.out w1 hb); rw [hs] at this; exact this)
   have HY : Hid (∀ w1, Below W.heap.size W w1 → Calls Try.prog 11 #[ndV x] w1 (IntB (s : Nat) w1)) := Lib.hid (fun w1 hb => by have := rsize_any x k w1 (HN.out w1 hb); rw [hs] at this; exact this)
   have HS : Hid (∀ w1, Below W.heap.size W w1 → Calls Try.prog 12 #[ndV x] w1 (BoolB false w1)) := Lib.hid (fun w1 hb => by have := small_any x k w1 (HN.out w1 hb); rw [decide_eq_false h4] at this; exact this)
   clear hs HN h4
   go_wp2_with fail
   refine wp_region_held_drew (S := fun w' => Below W.heap.size W w') (by kernel_rfl) H1.out.drew (fun hHeld => ?_)
   first
     | (refine wpAnyH_take (i := 0) (v := ?_) rfl (by kernel_rfl) (by kernel_rfl) (by kernel_rfl) (fun _ _ _ h => h) (Or.inl ⟨by rfl, ?_⟩) (by assumption) ?_; rotate_left; · (intro w' hSw; refine exec_load_nd (x := .tmp 1) (b := B0) (off := 0) (l := x) ?_ ?_ (R0.out w' hSw) <;> rfl))
     | (refine wpAnyH_take (i := 0) rfl (by kernel_rfl) (by kernel_rfl) (by kernel_rfl) (fun _ _ _ h => h) (Or.inr ⟨by rfl, rfl⟩) (by assumption) ?_)
   simp only [Act.put, List.setIfInBounds_toArray, List.set_cons_zero, List.set_cons_succ, List.getElem_toArray, List.getElem_cons_zero]
   first
     | (refine wpAnyH_take (i := 2) (v := ?_) rfl (by kernel_rfl) (by kernel_rfl) (by kernel_rfl) (fun _ _ _ h => h) (Or.inl ⟨by rfl, ?_⟩) (by assumption) ?_; rotate_left; · (intro w' hSw; refine exec_load_nd (x := .tmp 1) (b := B0) (off := 0) (l := x) ?_ ?_ (R0.out w' hSw) <;> rfl))
     | (refine wpAnyH_take (i := 2) rfl (by kernel_rfl) (by kernel_rfl) (by kernel_rfl) (fun _ _ _ h => h) (Or.inr ⟨by rfl, rfl⟩) (by assumption) ?_)
   simp only [Act.put, List.setIfInBounds_toArray, List.set_cons_zero, List.set_cons_succ, List.getElem_toArray, List.getElem_cons_succ, List.getElem_cons_zero]
   refine wpAnyH_ready (rs := [1]) (by kernel_rfl) (by simp) ?_
   refine AllReadyH.cons rfl (fun K hK => ?_) AllReadyH.nil
   go_simp
   refine (HZ.out _ hHeld).mono ?_
   rintro e w2 ⟨rfl, hb⟩
   have hHeld : Below W.heap.size W w2 := hHeld.trans (hb.mono hHeld.size)
   refine hK.out _ _ hHeld (fun hHeld => ?_)
   clear hK K hb
   try simp only [Act.put, List.setIfInBounds_toArray, List.set_cons_zero, List.set_cons_succ, List.getElem_toArray, List.getElem_cons_succ, List.getElem_cons_zero]
   refine wpAnyH_ready (rs := [3]) (by kernel_rfl) (by simp) ?_
   refine AllReadyH.cons rfl (fun K hK => ?_) AllReadyH.nil
   go_simp
   refine (HY.out _ hHeld).mono ?_
   rintro e w3 ⟨rfl, hb⟩
   have hHeld : Below W.heap.size W w3 := hHeld.trans (hb.mono hHeld.size)
   refine hK.out _ _ hHeld (fun hHeld => ?_)
   clear hK K hb
   try simp only [Act.put, List.setIfInBounds_toArray, List.set_cons_zero, List.set_cons_succ, List.getElem_toArray, List.getElem_cons_succ, List.getElem_cons_zero]
   first
     | (refine wpAnyH_take (i := 4) (v := ?_) rfl (by kernel_rfl) (by kernel_rfl) (by kernel_rfl) (fun _ _ _ h => h) (Or.inl ⟨by rfl, ?_⟩) (by assumption) ?_; rotate_left; · (intro w' hSw; go_simp; try rfl))
     | (refine wpAnyH_take (i := 4) rfl (by kernel_rfl) (by kernel_rfl) (by kernel_rfl) (fun _ _ _ h => h) (Or.inr ⟨by rfl, rfl⟩) (by assumption) ?_)
   simp only [Act.put, List.setIfInBounds_toArray, List.set_cons_zero, List.set_cons_succ, List.getElem_toArray, List.getElem_cons_succ, List.getElem_cons_zero]
   refine wpAnyH_done (by kernel_rfl) ?_ _
   have H3 := Lib.hid hHeld
   go_wp2_with (first | (refine wpList_load_nd rfl _ rfl B0 0 rfl x (R0.out w3 H3.out) ?_))
   refine (HS.out w3 H3.out).mono ?_
   rintro e w4 ⟨rfl, hb⟩
   have H4 := Lib.hid (H3.out.trans (hb.mono H3.out.size))
   clear hb
   go_wp2_with fail
   refine wp_region_held_drew (S := fun w' => Below W.heap.size W w') (by kernel_rfl) H4.out.drew (fun hHeld => ?_)
   first
     | (refine wpAnyH_take (i := 0) (v := ?_) rfl (by kernel_rfl) (by kernel_rfl) (by kernel_rfl) (fun _ _ _ h => h) (Or.inl ⟨by rfl, ?_⟩) (by assumption) ?_; rotate_left; · (intro w' hSw; go_simp; try rfl))
     | (refine wpAnyH_take (i := 0) rfl (by kernel_rfl) (by kernel_rfl) (by kernel_rfl) (fun _ _ _ h => h) (Or.inr ⟨by rfl, rfl⟩) (by assumption) ?_)
   simp only [Act.put, List.setIfInBounds_toArray, List.set_cons_zero, List.set_cons_succ, List.getElem_toArray, List.getElem_cons_zero]
   first
     | (refine wpAnyH_take (i := 1) (v := ?_) rfl (by kernel_rfl) (by kernel_rfl) (by kernel_rfl) (fun _ _ _ h => h) (Or.inl ⟨by rfl, ?_⟩) (by assumption) ?_; rotate_left; · (intro w' hSw; go_simp; try rfl))
     | (refine wpAnyH_take (i := 1) rfl (by kernel_rfl) (by kernel_rfl) (by kernel_rfl) (fun _ _ _ h => h) (Or.inr ⟨by rfl, rfl⟩) (by assumption) ?_)
   simp only [Act.put, List.setIfInBounds_toArray, List.set_cons_zero, List.set_cons_succ, List.getElem_toArray, List.getElem_cons_succ, List.getElem_cons_zero]
   first
     | (refine wpAnyH_take (i := 2) (v := ?_) rfl (by kernel_rfl) (by kernel_rfl) (by kernel_rfl) (fun _ _ _ h => h) (Or.inl ⟨by rfl, ?_⟩) (by assumption) ?_; rotate_left; · (intro w' hSw; go_simp; try rfl))
     | (refine wpAnyH_take (i := 2) rfl (by kernel_rfl) (by kernel_rfl) (by kernel_rfl) (fun _ _ _ h => h) (Or.inr ⟨by rfl, rfl⟩) (by assumption) ?_)
   simp only [Act.put, List.setIfInBounds_toArray, List.set_cons_zero, List.set_cons_succ, List.getElem_toArray, List.getElem_cons_succ, List.getElem_cons_zero]
   first
     | (refine wpAnyH_take (i := 3) (v := ?_) rfl (by kernel_rfl) (by kernel_rfl) (by kernel_rfl) (fun _ _ _ h => h) (Or.inl ⟨by rfl, ?_⟩) (by assumption) ?_; rotate_left; · (intro w' hSw; refine exec_load_nd (x := .tmp 1) (b := B0) (off := 0) (l := x) ?_ ?_ (R0.out w' hSw) <;> rfl))
     | (refine wpAnyH_take (i := 3) rfl (by kernel_rfl) (by kernel_rfl) (by kernel_rfl) (fun _ _ _ h => h) (Or.inr ⟨by rfl, rfl⟩) (by assumption) ?_)
   simp only [Act.put, List.setIfInBounds_toArray, List.set_cons_zero, List.set_cons_succ, List.getElem_toArray, List.getElem_cons_succ, List.getElem_cons_zero]
   first
     | (refine wpAnyH_take (i := 4) (v := ?_) rfl (by kernel_rfl) (by kernel_rfl) (by kernel_rfl) (fun _ _ _ h => h) (Or.inl ⟨by rfl, ?_⟩) (by assumption) ?_; rotate_left; · (intro w' hSw; go_simp; try rfl))
     | (refine wpAnyH_take (i := 4) rfl (by kernel_rfl) (by kernel_rfl) (by kernel_rfl) (fun _ _ _ h => h) (Or.inr ⟨by rfl, rfl⟩) (by assumption) ?_)
   simp only [Act.put, List.setIfInBounds_toArray, List.set_cons_zero, List.set_cons_succ, List.getElem_toArray, List.getElem_cons_succ, List.getElem_cons_zero]
   first
     | (refine wpAnyH_take (i := 5) (v := ?_) rfl (by kernel_rfl) (by kernel_rfl) (by kernel_rfl) (fun _ _ _ h => h) (Or.inl ⟨by rfl, ?_⟩) (by assumption) ?_; rotate_left; · (intro w' hSw; go_simp; try rfl))
     | (refine wpAnyH_take (i := 5) rfl (by kernel_rfl) (by kernel_rfl) (by kernel_rfl) (fun _ _ _ h => h) (Or.inr ⟨by rfl, rfl⟩) (by assumption) ?_)
   simp only [Act.put, List.setIfInBounds_toArray, List.set_cons_zero, List.set_cons_succ, List.getElem_toArray, List.getElem_cons_succ, List.getElem_cons_zero]
   first
     | (refine wpAnyH_take (i := 6) (v := ?_) rfl (by kernel_rfl) (by kernel_rfl) (by kernel_rfl) (fun _ _ _ h => h) (Or.inl ⟨by rfl, ?_⟩) (by assumption) ?_; rotate_left; · (intro w' hSw; go_simp; try rfl))
     | (refine wpAnyH_take (i := 6) rfl (by kernel_rfl) (by kernel_rfl) (by kernel_rfl) (fun _ _ _ h => h) (Or.inr ⟨by rfl, rfl⟩) (by assumption) ?_)
   simp only [Act.put, List.setIfInBounds_toArray, List.set_cons_zero, List.set_cons_succ, List.getElem_toArray, List.getElem_cons_succ, List.getElem_cons_zero]
   first
     | (refine wpAnyH_take (i := 7) (v := ?_) rfl (by kernel_rfl) (by kernel_rfl) (by kernel_rfl) (fun _ _ _ h => h) (Or.inl ⟨by rfl, ?_⟩) (by assumption) ?_; rotate_left; · (intro w' hSw; go_simp; try rfl))
     | (refine wpAnyH_take (i := 7) rfl (by kernel_rfl) (by kernel_rfl) (by kernel_rfl) (fun _ _ _ h => h) (Or.inr ⟨by rfl, rfl⟩) (by assumption) ?_)
   simp only [Act.put, List.setIfInBounds_toArray, List.set_cons_zero, List.set_cons_succ, List.getElem_toArray, List.getElem_cons_succ, List.getElem_cons_zero]
   first
     | (refine wpAnyH_take (i := 8) (v := ?_) rfl (by kernel_rfl) (by kernel_rfl) (by kernel_rfl) (fun _ _ _ h => h) (Or.inl ⟨by rfl, ?_⟩) (by assumption) ?_; rotate_left; · (intro w' hSw; go_simp; try rfl))
     | (refine wpAnyH_take (i := 8) rfl (by kernel_rfl) (by kernel_rfl) (by kernel_rfl) (fun _ _ _ h => h) (Or.inr ⟨by rfl, rfl⟩) (by assumption) ?_)
   simp only [Act.put, List.setIfInBounds_toArray, List.set_cons_zero, List.set_cons_succ, List.getElem_toArray, List.getElem_cons_succ, List.getElem_cons_zero]
   first
     | (refine wpAnyH_take (i := 9) (v := ?_) rfl (by kernel_rfl) (by kernel_rfl) (by kernel_rfl) (fun _ _ _ h => h) (Or.inl ⟨by rfl, ?_⟩) (by assumption) ?_; rotate_left; · (intro w' hSw; go_simp; try rfl))
     | (refine wpAnyH_take (i := 9) rfl (by kernel_rfl) (by kernel_rfl) (by kernel_rfl) (fun _ _ _ h => h) (Or.inr ⟨by rfl, rfl⟩) (by assumption) ?_)
   simp only [Act.put, List.setIfInBounds_toArray, List.set_cons_zero, List.set_cons_succ, List.getElem_toArray, List.getElem_cons_succ, List.getElem_cons_zero]
   refine wpAnyH_done (by kernel_rfl) ?_ _
   go_wp2_with fail
   go_ret
   exact ⟨rfl, HB.out.trans (hHeld.mono HB.out.size)⟩
end Go.Proofs.Ytpjaahojoabgjaa.trw
end
section
namespace Go.Proofs.Ytpjaahojoabgjaa.trw
open Go Go.RowKit Go.ChangeShapes Go.WideShapes trp
theorem wf_int {n : Int} (h : (Lit.int .i64 n).wf = true) : I64 n := by
 have h2 : IntKind.i64.min ≤ n ∧ n ≤ IntKind.i64.max := by simpa [Lit.wf] using h
 rw [show IntKind.i64.min = -9223372036854775808 by decide, show IntKind.i64.max = 9223372036854775807 by decide] at h2
 exact h2
theorem cellsNode : Try.prog.cellsOf 25 = 12 := by kernel_rfl
theorem cellsRange : Try.prog.cellsOf 43 = 2 := by kernel_rfl
theorem cellsInt : Try.prog.cellsOf 3 = 1 := by kernel_rfl
theorem cellsBool : Try.prog.cellsOf 4 = 1 := by kernel_rfl
theorem cellsStr : Try.prog.cellsOf 9 = 1 := by kernel_rfl
theorem cellsRs : Try.prog.cellsOf 22 = 1 := by kernel_rfl
theorem cellsNs : Try.prog.cellsOf 23 = 1 := by kernel_rfl
theorem bytesNode : 1 ≤ Try.prog.bytesOf 25 := of_decide_eq_true (by kernel_rfl)
theorem bytesRange : 1 ≤ Try.prog.bytesOf 43 := of_decide_eq_true (by kernel_rfl)
theorem own : ownKnob Try.prog.godebug = none := by kernel_rfl
theorem laidOut : laidOutB Try.prog = true := by kernel_rfl
theorem recNode : Try.prog.readableRec 25 = true := by kernel_rfl
theorem rowNode : (25 : TypeId) < Try.prog.types.size := of_decide_eq_true (by kernel_rfl)
instance : Inhabited Lab := ⟨⟨0, 0, 0, .bool false, [], false, 0, 0, 0, ⟨#[]⟩, 0, 0, .bool false⟩⟩
instance : Inhabited F := ⟨.nil⟩
def mkF : List Nd → F
 | [] => .nil
 | t :: l => .cons t.1 t.2 (mkF l)
theorem mkF_len : ∀ l : List Nd, (mkF l).len = l.length
 | [] => rfl
 | t :: l => by simp [mkF, F.len, mkF_len l]
theorem fAt_mk {W : World} {b : Nat} : ∀ (l : List Nd) (o : Nat), (∀ i t, l[i]? = some t → (∀ j v, (ndC t.1)[j]? = some v → W.cell? ⟨b, o + i * 12 + j, none⟩ = some v) ∧ NdAt W t) → FAt W b o (mkF l)
 | [], _, _ => trivial
 | t :: l, o, h => by
   have h0 := h 0 t rfl
   refine ⟨fun j v hj => ?_, ⟨h0.2.1, h0.2.2.1⟩, h0.2.2.2, fAt_mk l (o + 12) fun i s hi => ?_⟩
   · have := h0.1 j v hj
     rwa [Nat.zero_mul, Nat.add_zero] at this
   · have := h (i + 1) s hi
     rw [show o + 12 + i * 12 = o + (i + 1) * 12 by omega]
     exact this
theorem plain_cell {w : World} {a : Addr} {v : Value} (h : w.cell? (a.add 0) = some v) : a.spot = none := by
 obtain ⟨b, off, spot⟩ := a
 cases spot with
 | none => rfl
 | some s =>
   exfalso
   have : ((⟨b, off, some s⟩ : Addr).add 0).spot.isSome = true := by unfold Addr.add; split <;> simp_all
   unfold World.cell? at h
   split at h
   · simp [this] at h
   · simp at h
theorem wAll_mem {H : Type} {P : Program} {e : TypeId} : ∀ {l : List (DataW H)} {d : DataW H}, d ∈ l → ∀ n ∈ d.weights P e, n ∈ DataW.weightsAll P e l
 | x :: l, d, hd, n, hn => by
   simp only [DataW.weightsAll, List.mem_append]
   rcases List.mem_cons.1 hd with rfl | hd
   · exact Or.inl hn
   · exact Or.inr (wAll_mem hd n hn)
theorem cap_le {len rest cap B : Nat} (h : (len + rest) * B ≤ reachBytes) (hr : rest = cap - len) (hl : len ≤ cap) (hB : 1 ≤ B) : cap ≤ 140737488355328 := by
 have h1 : len + rest ≤ (len + rest) * B := Nat.le_mul_of_pos_right _ hB
 have h2 := reachBytes_lt
 omega
section
variable {H : Type} {enc : TypeId × Value → H} {W : World}
theorem open_rg {fuel : Nat} {cs : List Value} {x : DataW H × List MemPlace} (h : DataW.trod enc Try.prog W 0 (fun _ => true) true fuel 22 cs = some x)
   (hw : (x.1.weights Try.prog 22).all (· ≤ reachBytes) = true) : ∃ v l, cs = [v] ∧ RgAt W v l := by
 rcases Go.Deep.open_slice_pairs Try.underlying22 Try.underlying43 cellsRange rfl rfl cellsInt cellsInt h with ⟨rfl, _⟩ | ⟨a, len, cap, m, n, V0, V1, D0, D1, P0, P1, rfl, _, hl, hm, hmm, rfl, hcell⟩
 · exact ⟨_, [], rfl, none, 0, rfl, Nat.le_refl _, by omega, Or.inl rfl⟩
 · simp only [if_true] at hmm
   subst hmm
   simp only [DataW.weights, Try.underlying22, List.all_cons, Bool.and_eq_true, decide_eq_true_eq, List.length_map, List.length_range] at hw
   have hc := cap_le hw.1 rfl hl bytesRange
   by_cases h0 : len = 0
   · subst h0
     exact ⟨_, [], rfl, some a, m, rfl, Nat.zero_le _, hc, Or.inl rfl⟩
   · have hp := plain_cell (by simpa using (hcell 0 (by omega)).1)
     obtain ⟨b, off, spot⟩ := a
     simp only at hp
     subst hp
     have each : ∀ i, i < len → ∃ r : Int × Int, W.cell? ⟨b, off + i * 2, none⟩ = some (.int .i64 r.1) ∧ W.cell? ⟨b, off + i * 2 + 1, none⟩ = some (.int .i64 r.2) ∧ I64 r.1 ∧ I64 r.2 := by
       intro i hi
       obtain ⟨c1, c2, t1, t2⟩ := hcell i (by omega)
       obtain ⟨p, hx1, _, hw1⟩ := DataW.trod_int Try.underlying3 t1
       obtain ⟨q, hy1, _, hw2⟩ := DataW.trod_int Try.underlying3 t2
       rw [add_plain] at c1 c2
       have v1 : V0 i = .int .i64 p := by simpa using hx1
       have v2 : V1 i = .int .i64 q := by simpa using hy1
       exact ⟨(p, q), by rw [c1, v1], by rw [Nat.add_assoc, c2, v2], wf_int hw1, wf_int hw2⟩
     obtain ⟨q, hq⟩ := Go.Deep.choose_lt each
     refine ⟨_, (List.range len).map q, rfl, some ⟨b, off, none⟩, m, by simp, by simpa using hl, hc, Or.inr ⟨b, off, rfl, fun i r hi => ?_⟩⟩
     obtain ⟨hi1, hi2⟩ := List.getElem?_eq_some_iff.1 hi
     simp only [List.length_map, List.length_range] at hi1
     simp only [List.getElem_map, List.getElem_range] at hi2
     subst hi2
     exact hq i hi1
set_option maxRecDepth 100000 in
theorem open_nd : ∀ (fuel : Nat) (cs : List Value) (x : DataW H × List MemPlace), DataW.trod enc Try.prog W 0 (fun _ => true) true fuel 25 cs = some x →
   (x.1.weights Try.prog 25).all (· ≤ reachBytes) = true → ∃ t : Nd, cs = ndC t.1 ∧ NdAt W t := by
 intro fuel
 induction fuel using Nat.strongRecOn with
 | ind fuel ih =>
   intro cs x h hw
   obtain ⟨xs, n, hfu, rfl, hl, hxl, hf⟩ := DataW.trod_struct Try.underlying25 h
   rw [cellsNode] at hl
   match xs, hxl, cs, hl, hf, hw with
   | [y0, y1, y2, y3, y4, y5, y6, y7, y8, y9, y10, y11], _, [c0, c1, c2, c3, c4, c5, c6, c7, c8, c9, c10, c11], _, hf, hw =>
     have g0 : DataW.trod enc Try.prog W 0 (fun _ => true) true n 3 [c0] = some y0 := by simpa [cellsInt] using hf 0 _ rfl
     have g1 : DataW.trod enc Try.prog W 0 (fun _ => true) true n 3 [c1] = some y1 := by simpa [cellsInt] using hf 1 _ rfl
     have g2 : DataW.trod enc Try.prog W 0 (fun _ => true) true n 3 [c2] = some y2 := by simpa [cellsInt] using hf 2 _ rfl
     have g3 : DataW.trod enc Try.prog W 0 (fun _ => true) true n 22 [c3] = some y3 := by simpa [cellsRs] using hf 3 _ rfl
     have g4 : DataW.trod enc Try.prog W 0 (fun _ => true) true n 4 [c4] = some y4 := by simpa [cellsBool] using hf 4 _ rfl
     have g5 : DataW.trod enc Try.prog W 0 (fun _ => true) true n 3 [c5] = some y5 := by simpa [cellsInt] using hf 5 _ rfl
     have g6 : DataW.trod enc Try.prog W 0 (fun _ => true) true n 3 [c6] = some y6 := by simpa [cellsInt] using hf 6 _ rfl
     have g7 : DataW.trod enc Try.prog W 0 (fun _ => true) true n 3 [c7] = some y7 := by simpa [cellsInt] using hf 7 _ rfl
     have g8 : DataW.trod enc Try.prog W 0 (fun _ => true) true n 9 [c8] = some y8 := by simpa [cellsStr] using hf 8 _ rfl
     have g9 : DataW.trod enc Try.prog W 0 (fun _ => true) true n 3 [c9] = some y9 := by simpa [cellsInt] using hf 9 _ rfl
     have g10 : DataW.trod enc Try.prog W 0 (fun _ => true) true n 3 [c10] = some y10 := by simpa [cellsInt] using hf 10 _ rfl
     have g11 : DataW.trod enc Try.prog W 0 (fun _ => true) true n 23 [c11] = some y11 := by simpa [cellsNs] using hf 11 _ rfl
     clear hf
     obtain ⟨k0, e0, _, w0⟩ := DataW.trod_int Try.underlying3 g0
     obtain rfl : c0 = .int .i64 k0 := by simpa using e0
     obtain ⟨k1, e1, _, w1⟩ := DataW.trod_int Try.underlying3 g1
     obtain rfl : c1 = .int .i64 k1 := by simpa using e1
     obtain ⟨k2, e2, _, w2⟩ := DataW.trod_int Try.underlying3 g2
     obtain rfl : c2 = .int .i64 k2 := by simpa using e2
     obtain ⟨k5, e5, _, w5⟩ := DataW.trod_int Try.underlying3 g5
     obtain rfl : c5 = .int .i64 k5 := by simpa using e5
     obtain ⟨k6, e6, _, w6⟩ := DataW.trod_int Try.underlying3 g6
     obtain rfl : c6 = .int .i64 k6 := by simpa using e6
     obtain ⟨k7, e7, _, w7⟩ := DataW.trod_int Try.underlying3 g7
     obtain rfl : c7 = .int .i64 k7 := by simpa using e7
     obtain ⟨k9, e9, _, w9⟩ := DataW.trod_int Try.underlying3 g9
     obtain rfl : c9 = .int .i64 k9 := by simpa using e9
     obtain ⟨k10, e10, _, w10⟩ := DataW.trod_int Try.underlying3 g10
     obtain rfl : c10 = .int .i64 k10 := by simpa using e10
     obtain ⟨k4, e4, _⟩ := DataW.trod_bool Try.underlying4 g4
     obtain rfl : c4 = .bool k4 := by simpa using e4
     obtain ⟨k8, e8, _, _⟩ := DataW.trod_string Try.underlying9 g8
     obtain rfl : c8 = .string k8 := by simpa using e8
     simp only [DataW.weights, Try.underlying25] at hw
     have hm := fun (j : Nat) t d ht hd => List.all_eq_true.2 fun n hn => List.all_eq_true.1 hw n (DataW.weights_mem_each (j := j) (t := t) (d := d) ht hd n hn)
     obtain ⟨v3, l3, e3, r3⟩ := open_rg g3 (hm 3 _ _ rfl rfl)
     obtain rfl : c3 = v3 := by simpa using e3
     have kid : ∃ k, KidsAt W c11 k := by
       have hw11 := hm 11 23 y11.1 rfl rfl
       rcases DataW.trod_slice Try.underlying23 g11 with ⟨hc, _⟩ | ⟨a, len, cap, elems, rest, n', hn', hc, rfl, _, hlc, _, hel, helem, hsp, _⟩
       · obtain rfl : c11 = .slice none 0 0 := by simpa using hc
         exact ⟨.nil, none, 0, rfl, Nat.le_refl _, by omega, Or.inl rfl⟩
       · obtain rfl : c11 = .slice (some a) len cap := by simpa using hc
         simp only [DataW.weights, Try.underlying23, List.all_cons, List.all_append, Bool.and_eq_true, decide_eq_true_eq, List.length_map] at hw11
         rw [hel] at hw11
         have hcap := cap_le hw11.1 (hsp rfl).1 hlc bytesNode
         by_cases h0 : len = 0
         · subst h0
           exact ⟨.nil, some a, cap, rfl, Nat.zero_le _, hcap, Or.inl rfl⟩
         have each : ∀ i, i < len → ∃ t : Nd, (∀ j v, (ndC t.1)[j]? = some v → W.cell? (a.add (i * 12 + j)) = some v) ∧ NdAt W t := by
           intro i hi
           have h1 := helem i hi
           rw [cellsNode, List.getElem?_eq_getElem (by omega)] at h1
           obtain ⟨cs', h2, h3⟩ := Option.bind_eq_some_iff.1 h1
           obtain ⟨t, rfl, ht⟩ := ih n' (by omega) cs' _ h3 (List.all_eq_true.2 fun n hn => List.all_eq_true.1 hw11.2.1 n (wAll_mem (List.mem_map.2 ⟨_, List.getElem_mem (by omega), rfl⟩) n hn))
           obtain ⟨_, _, h4⟩ := World.cells?_some h2
           refine ⟨t, fun j v hj => ?_, ht⟩
           have hj2 : j < 12 := (List.getElem?_eq_some_iff.1 hj).1
           rw [← Go.Deep.add_add, h4 j hj2, hj]
         obtain ⟨q, hq⟩ := Go.Deep.choose_lt each
         have hp := plain_cell (by have := (hq 0 (by omega)).1 0 _ rfl; simpa using this)
         obtain ⟨b, off, spot⟩ := a
         simp only at hp
         subst hp
         refine ⟨mkF ((List.range len).map q), some ⟨b, off, none⟩, cap, by simp [mkF_len], by simpa [mkF_len] using hlc, hcap, Or.inr ⟨b, off, rfl, fAt_mk _ off fun i t hi => ?_⟩⟩
         obtain ⟨hi1, hi2⟩ := List.getElem?_eq_some_iff.1 hi
         simp only [List.length_map, List.length_range] at hi1
         simp only [List.getElem_map, List.getElem_range] at hi2
         subst hi2
         refine ⟨fun j v hj => ?_, (hq i hi1).2⟩
         have := (hq i hi1).1 j v hj
         rwa [add_plain, ← Nat.add_assoc] at this
     obtain ⟨k, hk⟩ := kid
     exact ⟨(⟨k0, k1, k2, c3, l3, k4, k5, k6, k7, k8, k9, k10, c11⟩, k), rfl, ⟨wf_int w0, wf_int w1, wf_int w2, wf_int w5, wf_int w6, wf_int w7, wf_int w9, wf_int w10⟩, r3, hk⟩
theorem open_arg {base : Nat} {v : Value} {d : DataW H} {ps : List MemPlace} (hval : Value.okWide Try.prog W .any base 25 v) (h : DataW.Trod enc Try.prog W 0 (fun _ => true) true 25 v d ps)
   (hw : (d.weights Try.prog 25).all (· ≤ reachBytes) = true) : ∃ t : Nd, v = ndV t.1 ∧ NdAt W t := by
 obtain ⟨cs, rfl, _⟩ := okWide_struct Try.underlying25 hval
 obtain ⟨fuel, hf⟩ := h
 obtain ⟨t, ht, hn⟩ := open_nd fuel _ _ hf hw
 refine ⟨t, ?_, hn⟩
 have : cs.toList = ndC t.1 := by simpa [Value.cells] using ht
 unfold ndV
 congr 1
 apply Array.ext'
 exact this
end
end Go.Proofs.Ytpjaahojoabgjaa.trw
end
