/- Texts that TreeTurnsLaw leans on, merged: what the functions of the program answer. -/
import Derived.BigQuiet
import Derived.Deep.Cut
import Derived.Deep.RegionHeld3
import Derived.Laws.CopyRow
import Derived.Laws.OwnMore
import Derived.Laws.Rows
import Derived.Lib.Hide
import Derived.Lib.QuietBelow
import Derived.Maps.AppendAt
import Derived.OwnWalk
import Derived.Shelf.Abstract
import Derived.Test.YtpjaahojoabgjaaRows
import Derived.WalkKit
import Derived.WalkMore
import Derived.Test.YtpjaahojoabgjaaBTu01
section
namespace Go.Proofs.Ytpjaahojoabgjaa.trw
open Go Go.RowKit trp
theorem sameT_size {a b : Nd} (h : sameT a b = true) : a.2.size = b.2.size ∧ a.2.deep = b.2.deep ∧ capsT a = capsT b := by
 simp only [sameT, Bool.and_eq_true, decide_eq_true_eq] at h
 obtain ⟨⟨h1, _⟩, h2⟩ := h
 obtain ⟨a1, a2, a3⟩ := same_size h2
 have hk : a.1.kind = b.1.kind := by
   unfold labEq at h1
   simp only [Bool.and_eq_true, decide_eq_true_eq] at h1
   exact h1.1.1.1.1.1.1.1.1.1
 exact ⟨a1, a2, by unfold capsT; rw [hk, a3]⟩
set_option maxRecDepth 100000 in
set_option maxHeartbeats 4000000 in
theorem turns_law (x : Lab) (k : F) (y : Lab) (k2 : F) (w : World) (hn : NdAt w (x, k)) (hm : NdAt w (y, k2)) : Calls Try.prog 8 #[ndV x, ndV y] w (BoolB true w) := by
 by_cases h4 : k.size + 1 ≤ 4000
 rotate_left
 · by_cases h5 : k2.size + 1 ≤ 4000
   · go_enter Try.func8, Try.ntmps8
     go_upto_region 1 with (first | refine wpList_box_nd rfl _ rfl x rfl ?_ | refine wpList_box_nd rfl _ rfl y rfl ?_)
     generalize hg : (w.alloc _).alloc _ = W
     have HB : Hid (Below w.heap.size w W) := Lib.hid (by rw [← hg]; exact (below_alloc w _).alloc (by simp) _)
     have hr : W.heap[w.heap.size]? = some (.cells (ndC x).toArray 25) := by rw [← hg, heap_alloc_old _ _ (by simp)]; exact heap_alloc_new _ _
     have hs : W.heap[w.heap.size + 1]? = some (.cells (ndC y).toArray 25) := by
       rw [← hg]
       have := heap_alloc_new (w.alloc (.cells (ndC x).toArray 25)) (.cells (ndC y).toArray 25)
       simpa using this
     have hlt := (Array.getElem?_eq_some_iff.1 hr).1
     have hlt2 := (Array.getElem?_eq_some_iff.1 hs).1
     have R0 := Lib.hid (fun w1 (hb : Below W.heap.size W w1) => cells0 ((hb.block _ hlt).trans hr))
     have R1 := Lib.hid (fun w1 (hb : Below W.heap.size W w1) => cells0 ((hb.block _ hlt2).trans hs))
     have HN := Lib.hid (fun w1 (hb : Below W.heap.size W w1) => below_nd hb (below_nd HB.out hn))
     have HM := Lib.hid (fun w1 (hb : Below W.heap.size W w1) => below_nd hb (below_nd HB.out hm))
     clear hg hr hs hlt hlt2 hn hm
     obtain ⟨B1, hB1⟩ : ∃ B1, w.heap.size + 1 = B1 := ⟨_, rfl⟩
     obtain ⟨B0, hB0⟩ : ∃ B0, w.heap.size = B0 := ⟨_, rfl⟩
     rw [hB1] at R1 ⊢
     rw [hB0] at R0 ⊢
     go_wp2_with fail
     refine (awake_any W).mono ?_
     rintro e w1 ⟨rfl, hb⟩
     have H1 := Lib.hid hb
     clear hb
     have HS : Hid (∀ w1, Below W.heap.size W w1 → Calls Try.prog 12 #[ndV x] w1 (BoolB false w1)) := Lib.hid (fun w1 hb => by have := small_any x k w1 (HN.out w1 hb); rw [decide_eq_false h4] at this; exact this)
     have HT : Hid (∀ w1, Below W.heap.size W w1 → Calls Try.prog 12 #[ndV y] w1 (BoolB true w1)) := Lib.hid (fun w1 hb => by have := small_any y k2 w1 (HM.out w1 hb); rw [decide_eq_true h5] at this; exact this)
     clear HN HM h4 h5
     go_wp2_with (first | (refine wpList_load_nd rfl _ rfl B0 0 rfl x (R0.out w1 H1.out) ?_) | (refine wpList_load_nd rfl _ rfl B1 0 rfl y (R1.out w1 H1.out) ?_))
     refine (HS.out w1 H1.out).mono ?_
     rintro e w2 ⟨rfl, hb⟩
     have H2 := Lib.hid (H1.out.trans (hb.mono H1.out.size))
     clear hb
     go_wp2_with (first | (refine wpList_load_nd rfl _ rfl B0 0 rfl x (R0.out w2 H2.out) ?_) | (refine wpList_load_nd rfl _ rfl B1 0 rfl y (R1.out w2 H2.out) ?_))
     refine (HT.out w2 H2.out).mono ?_
     rintro e w3 ⟨rfl, hb⟩
     have H3 := Lib.hid (H2.out.trans (hb.mono H2.out.size))
     clear hb
     go_wp2_with fail
     go_ret
     exact ⟨rfl, HB.out.trans (H3.out.mono HB.out.size)⟩
   · go_enter Try.func8, Try.ntmps8
     go_upto_region 1 with (first | refine wpList_box_nd rfl _ rfl x rfl ?_ | refine wpList_box_nd rfl _ rfl y rfl ?_)
     generalize hg : (w.alloc _).alloc _ = W
     have HB : Hid (Below w.heap.size w W) := Lib.hid (by rw [← hg]; exact (below_alloc w _).alloc (by simp) _)
     have hr : W.heap[w.heap.size]? = some (.cells (ndC x).toArray 25) := by rw [← hg, heap_alloc_old _ _ (by simp)]; exact heap_alloc_new _ _
     have hs : W.heap[w.heap.size + 1]? = some (.cells (ndC y).toArray 25) := by
       rw [← hg]
       have := heap_alloc_new (w.alloc (.cells (ndC x).toArray 25)) (.cells (ndC y).toArray 25)
       simpa using this
     have hlt := (Array.getElem?_eq_some_iff.1 hr).1
     have hlt2 := (Array.getElem?_eq_some_iff.1 hs).1
     have R0 := Lib.hid (fun w1 (hb : Below W.heap.size W w1) => cells0 ((hb.block _ hlt).trans hr))
     have R1 := Lib.hid (fun w1 (hb : Below W.heap.size W w1) => cells0 ((hb.block _ hlt2).trans hs))
     have HN := Lib.hid (fun w1 (hb : Below W.heap.size W w1) => below_nd hb (below_nd HB.out hn))
     have HM := Lib.hid (fun w1 (hb : Below W.heap.size W w1) => below_nd hb (below_nd HB.out hm))
     clear hg hr hs hlt hlt2 hn hm
     obtain ⟨B1, hB1⟩ : ∃ B1, w.heap.size + 1 = B1 := ⟨_, rfl⟩
     obtain ⟨B0, hB0⟩ : ∃ B0, w.heap.size = B0 := ⟨_, rfl⟩
     rw [hB1] at R1 ⊢
     rw [hB0] at R0 ⊢
     go_wp2_with fail
     refine (awake_any W).mono ?_
     rintro e w1 ⟨rfl, hb⟩
     have H1 := Lib.hid hb
     clear hb
     have HS : Hid (∀ w1, Below W.heap.size W w1 → Calls Try.prog 12 #[ndV x] w1 (BoolB false w1)) := Lib.hid (fun w1 hb => by have := small_any x k w1 (HN.out w1 hb); rw [decide_eq_false h4] at this; exact this)
     have HT : Hid (∀ w1, Below W.heap.size W w1 → Calls Try.prog 12 #[ndV y] w1 (BoolB false w1)) := Lib.hid (fun w1 hb => by have := small_any y k2 w1 (HM.out w1 hb); rw [decide_eq_false h5] at this; exact this)
     clear HN HM h4 h5
     go_wp2_with (first | (refine wpList_load_nd rfl _ rfl B0 0 rfl x (R0.out w1 H1.out) ?_) | (refine wpList_load_nd rfl _ rfl B1 0 rfl y (R1.out w1 H1.out) ?_))
     refine (HS.out w1 H1.out).mono ?_
     rintro e w2 ⟨rfl, hb⟩
     have H2 := Lib.hid (H1.out.trans (hb.mono H1.out.size))
     clear hb
     go_wp2_with (first | (refine wpList_load_nd rfl _ rfl B0 0 rfl x (R0.out w2 H2.out) ?_) | (refine wpList_load_nd rfl _ rfl B1 0 rfl y (R1.out w2 H2.out) ?_))
     refine (HT.out w2 H2.out).mono ?_
     rintro e w3 ⟨rfl, hb⟩
     have H3 := Lib.hid (H2.out.trans (hb.mono H2.out.size))
     clear hb
     go_wp2_with fail
     go_ret
     exact ⟨rfl, HB.out.trans (H3.out.mono HB.out.size)⟩
 by_cases h5 : k2.size + 1 ≤ 4000
 rotate_left
 · go_enter Try.func8, Try.ntmps8
   go_upto_region 1 with (first | refine wpList_box_nd rfl _ rfl x rfl ?_ | refine wpList_box_nd rfl _ rfl y rfl ?_)
   generalize hg : (w.alloc _).alloc _ = W
   have HB : Hid (Below w.heap.size w W) := Lib.hid (by rw [← hg]; exact (below_alloc w _).alloc (by simp) _)
   have hr : W.heap[w.heap.size]? = some (.cells (ndC x).toArray 25) := by rw [← hg, heap_alloc_old _ _ (by simp)]; exact heap_alloc_new _ _
   have hs : W.heap[w.heap.size + 1]? = some (.cells (ndC y).toArray 25) := by
     rw [← hg]
     have := heap_alloc_new (w.alloc (.cells (ndC x).toArray 25)) (.cells (ndC y).toArray 25)
     simpa using this
   have hlt := (Array.getElem?_eq_some_iff.1 hr).1
   have hlt2 := (Array.getElem?_eq_some_iff.1 hs).1
   have R0 := Lib.hid (fun w1 (hb : Below W.heap.size W w1) => cells0 ((hb.block _ hlt).trans hr))
   have R1 := Lib.hid (fun w1 (hb : Below W.heap.size W w1) => cells0 ((hb.block _ hlt2).trans hs))
   have HN := Lib.hid (fun w1 (hb : Below W.heap.size W w1) => below_nd hb (below_nd HB.out hn))
   have HM := Lib.hid (fun w1 (hb : Below W.heap.size W w1) => below_nd hb (below_nd HB.out hm))
   clear hg hr hs hlt hlt2 hn hm
   obtain ⟨B1, hB1⟩ : ∃ B1, w.heap.size + 1 = B1 := ⟨_, rfl⟩
   obtain ⟨B0, hB0⟩ : ∃ B0, w.heap.size = B0 := ⟨_, rfl⟩
   rw [hB1] at R1 ⊢
   rw [hB0] at R0 ⊢
   go_wp2_with fail
   refine (awake_any W).mono ?_
   rintro e w1 ⟨rfl, hb⟩
   have H1 := Lib.hid hb
   clear hb
   have HS : Hid (∀ w1, Below W.heap.size W w1 → Calls Try.prog 12 #[ndV x] w1 (BoolB true w1)) := Lib.hid (fun w1 hb => by have := small_any x k w1 (HN.out w1 hb); rw [decide_eq_true h4] at this; exact this)
   have HT : Hid (∀ w1, Below W.heap.size W w1 → Calls Try.prog 12 #[ndV y] w1 (BoolB false w1)) := Lib.hid (fun w1 hb => by have := small_any y k2 w1 (HM.out w1 hb); rw [decide_eq_false h5] at this; exact this)
   clear HN HM h4 h5
   go_wp2_with (first | (refine wpList_load_nd rfl _ rfl B0 0 rfl x (R0.out w1 H1.out) ?_) | (refine wpList_load_nd rfl _ rfl B1 0 rfl y (R1.out w1 H1.out) ?_))
   refine (HS.out w1 H1.out).mono ?_
   rintro e w2 ⟨rfl, hb⟩
   have H2 := Lib.hid (H1.out.trans (hb.mono H1.out.size))
   clear hb
   go_wp2_with (first | (refine wpList_load_nd rfl _ rfl B0 0 rfl x (R0.out w2 H2.out) ?_) | (refine wpList_load_nd rfl _ rfl B1 0 rfl y (R1.out w2 H2.out) ?_))
   refine (HT.out w2 H2.out).mono ?_
   rintro e w3 ⟨rfl, hb⟩
   have H3 := Lib.hid (H2.out.trans (hb.mono H2.out.size))
   clear hb
   go_wp2_with fail
   go_ret
   exact ⟨rfl, HB.out.trans (H3.out.mono HB.out.size)⟩
 cases hr : sameT (x, k) (y, k2) with
 | false =>
   go_enter Try.func8, Try.ntmps8
   go_upto_region 1 with (first | refine wpList_box_nd rfl _ rfl x rfl ?_ | refine wpList_box_nd rfl _ rfl y rfl ?_)
   generalize hg : (w.alloc _).alloc _ = W
   have HB : Hid (Below w.heap.size w W) := Lib.hid (by rw [← hg]; exact (below_alloc w _).alloc (by simp) _)
   have hr : W.heap[w.heap.size]? = some (.cells (ndC x).toArray 25) := by rw [← hg, heap_alloc_old _ _ (by simp)]; exact heap_alloc_new _ _
   have hs : W.heap[w.heap.size + 1]? = some (.cells (ndC y).toArray 25) := by
     rw [← hg]
     have := heap_alloc_new (w.alloc (.cells (ndC x).toArray 25)) (.cells (ndC y).toArray 25)
     simpa using this
   have hlt := (Array.getElem?_eq_some_iff.1 hr).1
   have hlt2 := (Array.getElem?_eq_some_iff.1 hs).1
   have R0 := Lib.hid (fun w1 (hb : Below W.heap.size W w1) => cells0 ((hb.block _ hlt).trans hr))
   have R1 := Lib.hid (fun w1 (hb : Below W.heap.size W w1) => cells0 ((hb.block _ hlt2).trans hs))
   have HN := Lib.hid (fun w1 (hb : Below W.heap.size W w1) => below_nd hb (below_nd HB.out hn))
   have HM := Lib.hid (fun w1 (hb : Below W.heap.size W w1) => below_nd hb (below_nd HB.out hm))
   clear hg hr hs hlt hlt2 hn hm
   obtain ⟨B1, hB1⟩ : ∃ B1, w.heap.size + 1 = B1 := ⟨_, rfl⟩
   obtain ⟨B0, hB0⟩ : ∃ B0, w.heap.size = B0 := ⟨_, rfl⟩
   rw [hB1] at R1 ⊢
   rw [hB0] at R0 ⊢
   go_wp2_with fail
   refine (awake_any W).mono ?_
   rintro e w1 ⟨rfl, hb⟩
   have H1 := Lib.hid hb
   clear hb
   have HS : Hid (∀ w1, Below W.heap.size W w1 → Calls Try.prog 12 #[ndV x] w1 (BoolB true w1)) := Lib.hid (fun w1 hb => by have := small_any x k w1 (HN.out w1 hb); rw [decide_eq_true h4] at this; exact this)
   have HT : Hid (∀ w1, Below W.heap.size W w1 → Calls Try.prog 12 #[ndV y] w1 (BoolB true w1)) := Lib.hid (fun w1 hb => by have := small_any y k2 w1 (HM.out w1 hb); rw [decide_eq_true h5] at this; exact this)
   have HA : Hid (∀ w1, Below W.heap.size W w1 → Calls Try.prog 15 #[ndV x, ndV y] w1 (BoolB false w1)) := Lib.hid (fun w1 hb => by have := psame_any (x, k) (y, k2) w1 (HN.out w1 hb) (HM.out w1 hb) h4 h5; rw [hr] at this; exact this)
   have HB2 : Hid (∀ w1, Below W.heap.size W w1 → Calls Try.prog 15 #[ndV y, ndV x] w1 (BoolB false w1)) := Lib.hid (fun w1 hb => by have := psame_any (y, k2) (x, k) w1 (HM.out w1 hb) (HN.out w1 hb) h5 h4; rw [sameT_comm, hr] at this; exact this)
   clear hr HN HM h4 h5
   go_wp2_with (first | (refine wpList_load_nd rfl _ rfl B0 0 rfl x (R0.out w1 H1.out) ?_) | (refine wpList_load_nd rfl _ rfl B1 0 rfl y (R1.out w1 H1.out) ?_))
   refine (HS.out w1 H1.out).mono ?_
   rintro e w2 ⟨rfl, hb⟩
   have H2 := Lib.hid (H1.out.trans (hb.mono H1.out.size))
   clear hb
   go_wp2_with (first | (refine wpList_load_nd rfl _ rfl B0 0 rfl x (R0.out w2 H2.out) ?_) | (refine wpList_load_nd rfl _ rfl B1 0 rfl y (R1.out w2 H2.out) ?_))
   refine (HT.out w2 H2.out).mono ?_
   rintro e w3 ⟨rfl, hb⟩
   have H3 := Lib.hid (H2.out.trans (hb.mono H2.out.size))
   clear hb
   go_wp2_with (first | (refine wpList_load_nd rfl _ rfl B0 0 rfl x (R0.out w3 H3.out) ?_) | (refine wpList_load_nd rfl _ rfl B1 0 rfl y (R1.out w3 H3.out) ?_))
   refine (HA.out w3 H3.out).mono ?_
   rintro e w4 ⟨rfl, hb⟩
   have H4 := Lib.hid (H3.out.trans (hb.mono H3.out.size))
   clear hb
   go_wp2_with (first | (refine wpList_load_nd rfl _ rfl B0 0 rfl x (R0.out w4 H4.out) ?_) | (refine wpList_load_nd rfl _ rfl B1 0 rfl y (R1.out w4 H4.out) ?_))
   refine (HB2.out w4 H4.out).mono ?_
   rintro e w5 ⟨rfl, hb⟩
   have H5 := Lib.hid (H4.out.trans (hb.mono H4.out.size))
   clear hb
   go_wp2_with fail
   refine wp_region_held_drew (S := fun w' => Below W.heap.size W w') (by kernel_rfl) H5.out.drew (fun hHeld => ?_)
   first
     | (refine wpAnyH_take (i := 0) (v := ?_) rfl (by kernel_rfl) (by kernel_rfl) (by kernel_rfl) (fun _ _ _ h => h) (Or.inl ⟨by rfl, ?_⟩) (by assumption) ?_; rotate_left; · (intro w' hSw; go_simp; try rfl))
     | (refine wpAnyH_take (i := 0) rfl (by kernel_rfl) (by kernel_rfl) (by kernel_rfl) (fun _ _ _ h => h) (Or.inr ⟨by rfl, rfl⟩) (by assumption) ?_)
   simp only [Act.put, List.setIfInBounds_toArray, List.set_cons_zero, List.set_cons_succ, List.getElem_toArray, List.getElem_cons_zero]
   first
     | (refine wpAnyH_take (i := 1) (v := ?_) rfl (by kernel_rfl) (by kernel_rfl) (by kernel_rfl) (fun _ _ _ h => h) (Or.inl ⟨by rfl, ?_⟩) (by assumption) ?_; rotate_left; · (intro w' hSw; go_simp; try rfl))
     | (refine wpAnyH_take (i := 1) rfl (by kernel_rfl) (by kernel_rfl) (by kernel_rfl) (fun _ _ _ h => h) (Or.inr ⟨by rfl, rfl⟩) (by assumption) ?_)
   simp only [Act.put, List.setIfInBounds_toArray, List.set_cons_zero, List.set_cons_succ, List.getElem_toArray, List.getElem_cons_succ, List.getElem_cons_zero]
   first
     | (refine wpAnyH_take (i := 2) (v := ?_) rfl (by kernel_rfl) (by kernel_rfl) (by kernel_rfl) (fun _ _ _ h => h) (Or.inl ⟨by rfl, ?_⟩) (by assumption) ?_; rotate_left; · (intro w' hSw; go_simp; try rfl))
     | (refine wpAnyH_take (i := 2) rfl (by kernel_rfl) (by kernel_rfl) (by kernel_rfl) (fun _ _ _ h => h) (Or.inr ⟨by rfl, rfl⟩) (by assumption) ?_)
   simp only [Act.put, List.setIfInBounds_toArray, List.set_cons_zero, List.set_cons_succ, List.getElem_toArray, List.getElem_cons_succ, List.getElem_cons_zero]
   first
     | (refine wpAnyH_take (i := 3) (v := ?_) rfl (by kernel_rfl) (by kernel_rfl) (by kernel_rfl) (fun _ _ _ h => h) (Or.inl ⟨by rfl, ?_⟩) (by assumption) ?_; rotate_left; · (intro w' hSw; refine exec_load_nd (x := .tmp 2) (b := B0) (off := 0) (l := x) ?_ ?_ (R0.out w' hSw) <;> rfl))
     | (refine wpAnyH_take (i := 3) rfl (by kernel_rfl) (by kernel_rfl) (by kernel_rfl) (fun _ _ _ h => h) (Or.inr ⟨by rfl, rfl⟩) (by assumption) ?_)
   simp only [Act.put, List.setIfInBounds_toArray, List.set_cons_zero, List.set_cons_succ, List.getElem_toArray, List.getElem_cons_succ, List.getElem_cons_zero]
   first
     | (refine wpAnyH_take (i := 4) (v := ?_) rfl (by kernel_rfl) (by kernel_rfl) (by kernel_rfl) (fun _ _ _ h => h) (Or.inl ⟨by rfl, ?_⟩) (by assumption) ?_; rotate_left; · (intro w' hSw; go_simp; try rfl))
     | (refine wpAnyH_take (i := 4) rfl (by kernel_rfl) (by kernel_rfl) (by kernel_rfl) (fun _ _ _ h => h) (Or.inr ⟨by rfl, rfl⟩) (by assumption) ?_)
   simp only [Act.put, List.setIfInBounds_toArray, List.set_cons_zero, List.set_cons_succ, List.getElem_toArray, List.getElem_cons_succ, List.getElem_cons_zero]
   first
     | (refine wpAnyH_take (i := 5) (v := ?_) rfl (by kernel_rfl) (by kernel_rfl) (by kernel_rfl) (fun _ _ _ h => h) (Or.inl ⟨by rfl, ?_⟩) (by assumption) ?_; rotate_left; · (intro w' hSw; refine exec_load_nd (x := .tmp 3) (b := B1) (off := 0) (l := y) ?_ ?_ (R1.out w' hSw) <;> rfl))
     | (refine wpAnyH_take (i := 5) rfl (by kernel_rfl) (by kernel_rfl) (by kernel_rfl) (fun _ _ _ h => h) (Or.inr ⟨by rfl, rfl⟩) (by assumption) ?_)
   simp only [Act.put, List.setIfInBounds_toArray, List.set_cons_zero, List.set_cons_succ, List.getElem_toArray, List.getElem_cons_succ, List.getElem_cons_zero]
   first
     | (refine wpAnyH_take (i := 6) (v := ?_) rfl (by kernel_rfl) (by kernel_rfl) (by kernel_rfl) (fun _ _ _ h => h) (Or.inl ⟨by rfl, ?_⟩) (by assumption) ?_; rotate_left; · (intro w' hSw; go_simp; try rfl))
     | (refine wpAnyH_take (i := 6) rfl (by kernel_rfl) (by kernel_rfl) (by kernel_rfl) (fun _ _ _ h => h) (Or.inr ⟨by rfl, rfl⟩) (by assumption) ?_)
   simp only [Act.put, List.setIfInBounds_toArray, List.set_cons_zero, List.set_cons_succ, List.getElem_toArray, List.getElem_cons_succ, List.getElem_cons_zero]
   first
     | (refine wpAnyH_take (i := 7) (v := ?_) rfl (by kernel_rfl) (by kernel_rfl) (by kernel_rfl) (fun _ _ _ h => h) (Or.inl ⟨by rfl, ?_⟩) (by assumption) ?_; rotate_left; · (intro w' hSw; go_simp; try rfl))
     | (refine wpAnyH_take (i := 7) rfl (by kernel_rfl) (by kernel_rfl) (by kernel_rfl) (fun _ _ _ h => h) (Or.inr ⟨by rfl, rfl⟩) (by assumption) ?_)
   simp only [Act.put, List.setIfInBounds_toArray, List.set_cons_zero, List.set_cons_succ, List.getElem_toArray, List.getElem_cons_succ, List.getElem_cons_zero]
   first
     | (refine wpAnyH_take (i := 8) (v := ?_) rfl (by kernel_rfl) (by kernel_rfl) (by kernel_rfl) (fun _ _ _ h => h) (Or.inl ⟨by rfl, ?_⟩) (by assumption) ?_; rotate_left; · (intro w' hSw; go_simp; try rfl))
     | (refine wpAnyH_take (i := 8) rfl (by kernel_rfl) (by kernel_rfl) (by kernel_rfl) (fun _ _ _ h => h) (Or.inr ⟨by rfl, rfl⟩) (by assumption) ?_)
   simp only [Act.put, List.setIfInBounds_toArray, List.set_cons_zero, List.set_cons_succ, List.getElem_toArray, List.getElem_cons_succ, List.getElem_cons_zero]
   first
     | (refine wpAnyH_take (i := 9) (v := ?_) rfl (by kernel_rfl) (by kernel_rfl) (by kernel_rfl) (fun _ _ _ h => h) (Or.inl ⟨by rfl, ?_⟩) (by assumption) ?_; rotate_left; · (intro w' hSw; refine exec_load_nd (x := .tmp 2) (b := B0) (off := 0) (l := x) ?_ ?_ (R0.out w' hSw) <;> rfl))
     | (refine wpAnyH_take (i := 9) rfl (by kernel_rfl) (by kernel_rfl) (by kernel_rfl) (fun _ _ _ h => h) (Or.inr ⟨by rfl, rfl⟩) (by assumption) ?_)
   simp only [Act.put, List.setIfInBounds_toArray, List.set_cons_zero, List.set_cons_succ, List.getElem_toArray, List.getElem_cons_succ, List.getElem_cons_zero]
   first
     | (refine wpAnyH_take (i := 10) (v := ?_) rfl (by kernel_rfl) (by kernel_rfl) (by kernel_rfl) (fun _ _ _ h => h) (Or.inl ⟨by rfl, ?_⟩) (by assumption) ?_; rotate_left; · (intro w' hSw; go_simp; try rfl))
     | (refine wpAnyH_take (i := 10) rfl (by kernel_rfl) (by kernel_rfl) (by kernel_rfl) (fun _ _ _ h => h) (Or.inr ⟨by rfl, rfl⟩) (by assumption) ?_)
   simp only [Act.put, List.setIfInBounds_toArray, List.set_cons_zero, List.set_cons_succ, List.getElem_toArray, List.getElem_cons_succ, List.getElem_cons_zero]
   first
     | (refine wpAnyH_take (i := 11) (v := ?_) rfl (by kernel_rfl) (by kernel_rfl) (by kernel_rfl) (fun _ _ _ h => h) (Or.inl ⟨by rfl, ?_⟩) (by assumption) ?_; rotate_left; · (intro w' hSw; refine exec_load_nd (x := .tmp 3) (b := B1) (off := 0) (l := y) ?_ ?_ (R1.out w' hSw) <;> rfl))
     | (refine wpAnyH_take (i := 11) rfl (by kernel_rfl) (by kernel_rfl) (by kernel_rfl) (fun _ _ _ h => h) (Or.inr ⟨by rfl, rfl⟩) (by assumption) ?_)
   simp only [Act.put, List.setIfInBounds_toArray, List.set_cons_zero, List.set_cons_succ, List.getElem_toArray, List.getElem_cons_succ, List.getElem_cons_zero]
   first
     | (refine wpAnyH_take (i := 12) (v := ?_) rfl (by kernel_rfl) (by kernel_rfl) (by kernel_rfl) (fun _ _ _ h => h) (Or.inl ⟨by rfl, ?_⟩) (by assumption) ?_; rotate_left; · (intro w' hSw; go_simp; try rfl))
     | (refine wpAnyH_take (i := 12) rfl (by kernel_rfl) (by kernel_rfl) (by kernel_rfl) (fun _ _ _ h => h) (Or.inr ⟨by rfl, rfl⟩) (by assumption) ?_)
   simp only [Act.put, List.setIfInBounds_toArray, List.set_cons_zero, List.set_cons_succ, List.getElem_toArray, List.getElem_cons_succ, List.getElem_cons_zero]
   first
     | (refine wpAnyH_take (i := 13) (v := ?_) rfl (by kernel_rfl) (by kernel_rfl) (by kernel_rfl) (fun _ _ _ h => h) (Or.inl ⟨by rfl, ?_⟩) (by assumption) ?_; rotate_left; · (intro w' hSw; go_simp; try rfl))
     | (refine wpAnyH_take (i := 13) rfl (by kernel_rfl) (by kernel_rfl) (by kernel_rfl) (fun _ _ _ h => h) (Or.inr ⟨by rfl, rfl⟩) (by assumption) ?_)
   simp only [Act.put, List.setIfInBounds_toArray, List.set_cons_zero, List.set_cons_succ, List.getElem_toArray, List.getElem_cons_succ, List.getElem_cons_zero]
   first
     | (refine wpAnyH_take (i := 14) (v := ?_) rfl (by kernel_rfl) (by kernel_rfl) (by kernel_rfl) (fun _ _ _ h => h) (Or.inl ⟨by rfl, ?_⟩) (by assumption) ?_; rotate_left; · (intro w' hSw; go_simp; try rfl))
     | (refine wpAnyH_take (i := 14) rfl (by kernel_rfl) (by kernel_rfl) (by kernel_rfl) (fun _ _ _ h => h) (Or.inr ⟨by rfl, rfl⟩) (by assumption) ?_)
   simp only [Act.put, List.setIfInBounds_toArray, List.set_cons_zero, List.set_cons_succ, List.getElem_toArray, List.getElem_cons_succ, List.getElem_cons_zero]
   first
     | (refine wpAnyH_take (i := 15) (v := ?_) rfl (by kernel_rfl) (by kernel_rfl) (by kernel_rfl) (fun _ _ _ h => h) (Or.inl ⟨by rfl, ?_⟩) (by assumption) ?_; rotate_left; · (intro w' hSw; go_simp; try rfl))
     | (refine wpAnyH_take (i := 15) rfl (by kernel_rfl) (by kernel_rfl) (by kernel_rfl) (fun _ _ _ h => h) (Or.inr ⟨by rfl, rfl⟩) (by assumption) ?_)
   simp only [Act.put, List.setIfInBounds_toArray, List.set_cons_zero, List.set_cons_succ, List.getElem_toArray, List.getElem_cons_succ, List.getElem_cons_zero]
   first
     | (refine wpAnyH_take (i := 16) (v := ?_) rfl (by kernel_rfl) (by kernel_rfl) (by kernel_rfl) (fun _ _ _ h => h) (Or.inl ⟨by rfl, ?_⟩) (by assumption) ?_; rotate_left; · (intro w' hSw; refine exec_load_nd (x := .tmp 2) (b := B0) (off := 0) (l := x) ?_ ?_ (R0.out w' hSw) <;> rfl))
     | (refine wpAnyH_take (i := 16) rfl (by kernel_rfl) (by kernel_rfl) (by kernel_rfl) (fun _ _ _ h => h) (Or.inr ⟨by rfl, rfl⟩) (by assumption) ?_)
   simp only [Act.put, List.setIfInBounds_toArray, List.set_cons_zero, List.set_cons_succ, List.getElem_toArray, List.getElem_cons_succ, List.getElem_cons_zero]
   first
     | (refine wpAnyH_take (i := 17) (v := ?_) rfl (by kernel_rfl) (by kernel_rfl) (by kernel_rfl) (fun _ _ _ h => h) (Or.inl ⟨by rfl, ?_⟩) (by assumption) ?_; rotate_left; · (intro w' hSw; go_simp; try rfl))
     | (refine wpAnyH_take (i := 17) rfl (by kernel_rfl) (by kernel_rfl) (by kernel_rfl) (fun _ _ _ h => h) (Or.inr ⟨by rfl, rfl⟩) (by assumption) ?_)
   simp only [Act.put, List.setIfInBounds_toArray, List.set_cons_zero, List.set_cons_succ, List.getElem_toArray, List.getElem_cons_succ, List.getElem_cons_zero]
   first
     | (refine wpAnyH_take (i := 18) (v := ?_) rfl (by kernel_rfl) (by kernel_rfl) (by kernel_rfl) (fun _ _ _ h => h) (Or.inl ⟨by rfl, ?_⟩) (by assumption) ?_; rotate_left; · (intro w' hSw; go_simp; try rfl))
     | (refine wpAnyH_take (i := 18) rfl (by kernel_rfl) (by kernel_rfl) (by kernel_rfl) (fun _ _ _ h => h) (Or.inr ⟨by rfl, rfl⟩) (by assumption) ?_)
   simp only [Act.put, List.setIfInBounds_toArray, List.set_cons_zero, List.set_cons_succ, List.getElem_toArray, List.getElem_cons_succ, List.getElem_cons_zero]
   first
     | (refine wpAnyH_take (i := 19) (v := ?_) rfl (by kernel_rfl) (by kernel_rfl) (by kernel_rfl) (fun _ _ _ h => h) (Or.inl ⟨by rfl, ?_⟩) (by assumption) ?_; rotate_left; · (intro w' hSw; go_simp; try rfl))
     | (refine wpAnyH_take (i := 19) rfl (by kernel_rfl) (by kernel_rfl) (by kernel_rfl) (fun _ _ _ h => h) (Or.inr ⟨by rfl, rfl⟩) (by assumption) ?_)
   simp only [Act.put, List.setIfInBounds_toArray, List.set_cons_zero, List.set_cons_succ, List.getElem_toArray, List.getElem_cons_succ, List.getElem_cons_zero]
   first
     | (refine wpAnyH_take (i := 20) (v := ?_) rfl (by kernel_rfl) (by kernel_rfl) (by kernel_rfl) (fun _ _ _ h => h) (Or.inl ⟨by rfl, ?_⟩) (by assumption) ?_; rotate_left; · (intro w' hSw; refine exec_load_nd (x := .tmp 2) (b := B0) (off := 0) (l := x) ?_ ?_ (R0.out w' hSw) <;> rfl))
     | (refine wpAnyH_take (i := 20) rfl (by kernel_rfl) (by kernel_rfl) (by kernel_rfl) (fun _ _ _ h => h) (Or.inr ⟨by rfl, rfl⟩) (by assumption) ?_)
   simp only [Act.put, List.setIfInBounds_toArray, List.set_cons_zero, List.set_cons_succ, List.getElem_toArray, List.getElem_cons_succ, List.getElem_cons_zero]
   first
     | (refine wpAnyH_take (i := 21) (v := ?_) rfl (by kernel_rfl) (by kernel_rfl) (by kernel_rfl) (fun _ _ _ h => h) (Or.inl ⟨by rfl, ?_⟩) (by assumption) ?_; rotate_left; · (intro w' hSw; go_simp; try rfl))
     | (refine wpAnyH_take (i := 21) rfl (by kernel_rfl) (by kernel_rfl) (by kernel_rfl) (fun _ _ _ h => h) (Or.inr ⟨by rfl, rfl⟩) (by assumption) ?_)
   simp only [Act.put, List.setIfInBounds_toArray, List.set_cons_zero, List.set_cons_succ, List.getElem_toArray, List.getElem_cons_succ, List.getElem_cons_zero]
   first
     | (refine wpAnyH_take (i := 22) (v := ?_) rfl (by kernel_rfl) (by kernel_rfl) (by kernel_rfl) (fun _ _ _ h => h) (Or.inl ⟨by rfl, ?_⟩) (by assumption) ?_; rotate_left; · (intro w' hSw; refine exec_load_nd (x := .tmp 3) (b := B1) (off := 0) (l := y) ?_ ?_ (R1.out w' hSw) <;> rfl))
     | (refine wpAnyH_take (i := 22) rfl (by kernel_rfl) (by kernel_rfl) (by kernel_rfl) (fun _ _ _ h => h) (Or.inr ⟨by rfl, rfl⟩) (by assumption) ?_)
   simp only [Act.put, List.setIfInBounds_toArray, List.set_cons_zero, List.set_cons_succ, List.getElem_toArray, List.getElem_cons_succ, List.getElem_cons_zero]
   first
     | (refine wpAnyH_take (i := 23) (v := ?_) rfl (by kernel_rfl) (by kernel_rfl) (by kernel_rfl) (fun _ _ _ h => h) (Or.inl ⟨by rfl, ?_⟩) (by assumption) ?_; rotate_left; · (intro w' hSw; go_simp; try rfl))
     | (refine wpAnyH_take (i := 23) rfl (by kernel_rfl) (by kernel_rfl) (by kernel_rfl) (fun _ _ _ h => h) (Or.inr ⟨by rfl, rfl⟩) (by assumption) ?_)
   simp only [Act.put, List.setIfInBounds_toArray, List.set_cons_zero, List.set_cons_succ, List.getElem_toArray, List.getElem_cons_succ, List.getElem_cons_zero]
   first
     | (refine wpAnyH_take (i := 24) (v := ?_) rfl (by kernel_rfl) (by kernel_rfl) (by kernel_rfl) (fun _ _ _ h => h) (Or.inl ⟨by rfl, ?_⟩) (by assumption) ?_; rotate_left; · (intro w' hSw; go_simp; try rfl))
     | (refine wpAnyH_take (i := 24) rfl (by kernel_rfl) (by kernel_rfl) (by kernel_rfl) (fun _ _ _ h => h) (Or.inr ⟨by rfl, rfl⟩) (by assumption) ?_)
   simp only [Act.put, List.setIfInBounds_toArray, List.set_cons_zero, List.set_cons_succ, List.getElem_toArray, List.getElem_cons_succ, List.getElem_cons_zero]
   first
     | (refine wpAnyH_take (i := 25) (v := ?_) rfl (by kernel_rfl) (by kernel_rfl) (by kernel_rfl) (fun _ _ _ h => h) (Or.inl ⟨by rfl, ?_⟩) (by assumption) ?_; rotate_left; · (intro w' hSw; go_simp; try rfl))
     | (refine wpAnyH_take (i := 25) rfl (by kernel_rfl) (by kernel_rfl) (by kernel_rfl) (fun _ _ _ h => h) (Or.inr ⟨by rfl, rfl⟩) (by assumption) ?_)
   simp only [Act.put, List.setIfInBounds_toArray, List.set_cons_zero, List.set_cons_succ, List.getElem_toArray, List.getElem_cons_succ, List.getElem_cons_zero]
   first
     | (refine wpAnyH_take (i := 26) (v := ?_) rfl (by kernel_rfl) (by kernel_rfl) (by kernel_rfl) (fun _ _ _ h => h) (Or.inl ⟨by rfl, ?_⟩) (by assumption) ?_; rotate_left; · (intro w' hSw; go_simp; try rfl))
     | (refine wpAnyH_take (i := 26) rfl (by kernel_rfl) (by kernel_rfl) (by kernel_rfl) (fun _ _ _ h => h) (Or.inr ⟨by rfl, rfl⟩) (by assumption) ?_)
   simp only [Act.put, List.setIfInBounds_toArray, List.set_cons_zero, List.set_cons_succ, List.getElem_toArray, List.getElem_cons_succ, List.getElem_cons_zero]
   first
     | (refine wpAnyH_take (i := 27) (v := ?_) rfl (by kernel_rfl) (by kernel_rfl) (by kernel_rfl) (fun _ _ _ h => h) (Or.inl ⟨by rfl, ?_⟩) (by assumption) ?_; rotate_left; · (intro w' hSw; go_simp; try rfl))
     | (refine wpAnyH_take (i := 27) rfl (by kernel_rfl) (by kernel_rfl) (by kernel_rfl) (fun _ _ _ h => h) (Or.inr ⟨by rfl, rfl⟩) (by assumption) ?_)
   simp only [Act.put, List.setIfInBounds_toArray, List.set_cons_zero, List.set_cons_succ, List.getElem_toArray, List.getElem_cons_succ, List.getElem_cons_zero]
   first
     | (refine wpAnyH_take (i := 28) (v := ?_) rfl (by kernel_rfl) (by kernel_rfl) (by kernel_rfl) (fun _ _ _ h => h) (Or.inl ⟨by rfl, ?_⟩) (by assumption) ?_; rotate_left; · (intro w' hSw; go_simp; try rfl))
     | (refine wpAnyH_take (i := 28) rfl (by kernel_rfl) (by kernel_rfl) (by kernel_rfl) (fun _ _ _ h => h) (Or.inr ⟨by rfl, rfl⟩) (by assumption) ?_)
   simp only [Act.put, List.setIfInBounds_toArray, List.set_cons_zero, List.set_cons_succ, List.getElem_toArray, List.getElem_cons_succ, List.getElem_cons_zero]
   refine wpAnyH_done (by kernel_rfl) ?_ _
   go_wp2_with fail
   go_ret
   exact ⟨rfl, HB.out.trans (hHeld.mono HB.out.size)⟩
 | true =>
   cases hc : checkP (x, k) with
   | true =>
     go_enter Try.func8, Try.ntmps8
     go_upto_region 1 with (first | refine wpList_box_nd rfl _ rfl x rfl ?_ | refine wpList_box_nd rfl _ rfl y rfl ?_)
     generalize hg : (w.alloc _).alloc _ = W
     have HB : Hid (Below w.heap.size w W) := Lib.hid (by rw [← hg]; exact (below_alloc w _).alloc (by simp) _)
     have hr : W.heap[w.heap.size]? = some (.cells (ndC x).toArray 25) := by rw [← hg, heap_alloc_old _ _ (by simp)]; exact heap_alloc_new _ _
     have hs : W.heap[w.heap.size + 1]? = some (.cells (ndC y).toArray 25) := by
       rw [← hg]
       have := heap_alloc_new (w.alloc (.cells (ndC x).toArray 25)) (.cells (ndC y).toArray 25)
       simpa using this
     have hlt := (Array.getElem?_eq_some_iff.1 hr).1
     have hlt2 := (Array.getElem?_eq_some_iff.1 hs).1
     have R0 := Lib.hid (fun w1 (hb : Below W.heap.size W w1) => cells0 ((hb.block _ hlt).trans hr))
     have R1 := Lib.hid (fun w1 (hb : Below W.heap.size W w1) => cells0 ((hb.block _ hlt2).trans hs))
     have HN := Lib.hid (fun w1 (hb : Below W.heap.size W w1) => below_nd hb (below_nd HB.out hn))
     have HM := Lib.hid (fun w1 (hb : Below W.heap.size W w1) => below_nd hb (below_nd HB.out hm))
     clear hg hr hs hlt hlt2 hn hm
     obtain ⟨B1, hB1⟩ : ∃ B1, w.heap.size + 1 = B1 := ⟨_, rfl⟩
     obtain ⟨B0, hB0⟩ : ∃ B0, w.heap.size = B0 := ⟨_, rfl⟩
     rw [hB1] at R1 ⊢
     rw [hB0] at R0 ⊢
     go_wp2_with fail
     refine (awake_any W).mono ?_
     rintro e w1 ⟨rfl, hb⟩
     have H1 := Lib.hid hb
     clear hb
     have HS : Hid (∀ w1, Below W.heap.size W w1 → Calls Try.prog 12 #[ndV x] w1 (BoolB true w1)) := Lib.hid (fun w1 hb => by have := small_any x k w1 (HN.out w1 hb); rw [decide_eq_true h4] at this; exact this)
     have HT : Hid (∀ w1, Below W.heap.size W w1 → Calls Try.prog 12 #[ndV y] w1 (BoolB true w1)) := Lib.hid (fun w1 hb => by have := small_any y k2 w1 (HM.out w1 hb); rw [decide_eq_true h5] at this; exact this)
     have HA : Hid (∀ w1, Below W.heap.size W w1 → Calls Try.prog 15 #[ndV x, ndV y] w1 (BoolB true w1)) := Lib.hid (fun w1 hb => by have := psame_any (x, k) (y, k2) w1 (HN.out w1 hb) (HM.out w1 hb) h4 h5; rw [hr] at this; exact this)
     have HB2 : Hid (∀ w1, Below W.heap.size W w1 → Calls Try.prog 15 #[ndV y, ndV x] w1 (BoolB true w1)) := Lib.hid (fun w1 hb => by have := psame_any (y, k2) (x, k) w1 (HM.out w1 hb) (HN.out w1 hb) h5 h4; rw [sameT_comm, hr] at this; exact this)
     obtain ⟨e1, e2, e3⟩ := sameT_size hr
     simp only at e1 e2
     obtain ⟨s, hs⟩ : ∃ s, min 4001 (k.size + 1) = s := ⟨_, rfl⟩
     obtain ⟨d, hd⟩ : ∃ d, min 301 (k.deep + 1) = d := ⟨_, rfl⟩
     obtain ⟨q, hq⟩ : ∃ q, capsT (x, k) = q := ⟨_, rfl⟩
     have HZ : Hid (∀ w1, Below W.heap.size W w1 → Calls Try.prog 10 #[ndV x] w1 (IntB (s : Nat) w1)) := Lib.hid (fun w1 hb => by have := psize_any x k w1 (HN.out w1 hb); rw [hs] at this; exact this)
     have HZ2 : Hid (∀ w1, Below W.heap.size W w1 → Calls Try.prog 10 #[ndV y] w1 (IntB (s : Nat) w1)) := Lib.hid (fun w1 hb => by have := psize_any y k2 w1 (HM.out w1 hb); rw [← e1, hs] at this; exact this)
     have HD : Hid (∀ w1, Below W.heap.size W w1 → Calls Try.prog 13 #[ndV x] w1 (IntB (d : Nat) w1)) := Lib.hid (fun w1 hb => by have := pdepth_any x k w1 (HN.out w1 hb) h4; rw [hd] at this; exact this)
     have HD2 : Hid (∀ w1, Below W.heap.size W w1 → Calls Try.prog 13 #[ndV y] w1 (IntB (d : Nat) w1)) := Lib.hid (fun w1 hb => by have := pdepth_any y k2 w1 (HM.out w1 hb) h5; rw [← e2, hd] at this; exact this)
     have HC : Hid (∀ w1, Below W.heap.size W w1 → Calls Try.prog 23 #[ndV x] w1 (BoolB true w1)) := Lib.hid (fun w1 hb => by have := pcheck_any x k w1 (HN.out w1 hb); rw [hc] at this; exact this)
     have HQ : Hid (∀ w1, Below W.heap.size W w1 → Calls Try.prog 20 #[ndV x] w1 (IntB (q : Nat) w1)) := Lib.hid (fun w1 hb => by have := pcaps_any x k w1 (HN.out w1 hb) h4; rw [hq] at this; exact this)
     have HQ2 : Hid (∀ w1, Below W.heap.size W w1 → Calls Try.prog 20 #[ndV y] w1 (IntB (q : Nat) w1)) := Lib.hid (fun w1 hb => by have := pcaps_any y k2 w1 (HM.out w1 hb) h5; rw [← e3, hq] at this; exact this)
     clear e1 e2 e3 hs hd hq hc
     have es : ((s : Int) == (s : Int)) = true := by simp
     have ed : ((d : Int) == (d : Int)) = true := by simp
     have eq : ((q : Int) == (q : Int)) = true := by simp
     clear hr HN HM h4 h5
     go_wp2_with (first | (refine wpList_load_nd rfl _ rfl B0 0 rfl x (R0.out w1 H1.out) ?_) | (refine wpList_load_nd rfl _ rfl B1 0 rfl y (R1.out w1 H1.out) ?_))
     refine (HS.out w1 H1.out).mono ?_
     rintro e w2 ⟨rfl, hb⟩
     have H2 := Lib.hid (H1.out.trans (hb.mono H1.out.size))
     clear hb
     go_wp2_with (first | (refine wpList_load_nd rfl _ rfl B0 0 rfl x (R0.out w2 H2.out) ?_) | (refine wpList_load_nd rfl _ rfl B1 0 rfl y (R1.out w2 H2.out) ?_))
     refine (HT.out w2 H2.out).mono ?_
     rintro e w3 ⟨rfl, hb⟩
     have H3 := Lib.hid (H2.out.trans (hb.mono H2.out.size))
     clear hb
     go_wp2_with (first | (refine wpList_load_nd rfl _ rfl B0 0 rfl x (R0.out w3 H3.out) ?_) | (refine wpList_load_nd rfl _ rfl B1 0 rfl y (R1.out w3 H3.out) ?_))
     refine (HA.out w3 H3.out).mono ?_
     rintro e w4 ⟨rfl, hb⟩
     have H4 := Lib.hid (H3.out.trans (hb.mono H3.out.size))
     clear hb
     go_wp2_with (first | (refine wpList_load_nd rfl _ rfl B0 0 rfl x (R0.out w4 H4.out) ?_) | (refine wpList_load_nd rfl _ rfl B1 0 rfl y (R1.out w4 H4.out) ?_))
     refine (HB2.out w4 H4.out).mono ?_
     rintro e w5 ⟨rfl, hb⟩
     have H5 := Lib.hid (H4.out.trans (hb.mono H4.out.size))
     clear hb
     go_wp2_with fail
     refine wp_region_held_drew (S := fun w' => Below W.heap.size W w') (by kernel_rfl) H5.out.drew (fun hHeld => ?_)
     first
       | (refine wpAnyH_take (i := 0) (v := ?_) rfl (by kernel_rfl) (by kernel_rfl) (by kernel_rfl) (fun _ _ _ h => h) (Or.inl ⟨by rfl, ?_⟩) (by assumption) ?_; rotate_left; · (intro w' hSw; go_simp; try rfl))
       | (refine wpAnyH_take (i := 0) rfl (by kernel_rfl) (by kernel_rfl) (by kernel_rfl) (fun _ _ _ h => h) (Or.inr ⟨by rfl, rfl⟩) (by assumption) ?_)
     simp only [Act.put, List.setIfInBounds_toArray, List.set_cons_zero, List.set_cons_succ, List.getElem_toArray, List.getElem_cons_zero]
     first
       | (refine wpAnyH_take (i := 1) (v := ?_) rfl (by kernel_rfl) (by kernel_rfl) (by kernel_rfl) (fun _ _ _ h => h) (Or.inl ⟨by rfl, ?_⟩) (by assumption) ?_; rotate_left; · (intro w' hSw; go_simp; try rfl))
       | (refine wpAnyH_take (i := 1) rfl (by kernel_rfl) (by kernel_rfl) (by kernel_rfl) (fun _ _ _ h => h) (Or.inr ⟨by rfl, rfl⟩) (by assumption) ?_)
     simp only [Act.put, List.setIfInBounds_toArray, List.set_cons_zero, List.set_cons_succ, List.getElem_toArray, List.getElem_cons_succ, List.getElem_cons_zero]
     first
       | (refine wpAnyH_take (i := 2) (v := ?_) rfl (by kernel_rfl) (by kernel_rfl) (by kernel_rfl) (fun _ _ _ h => h) (Or.inl ⟨by rfl, ?_⟩) (by assumption) ?_; rotate_left; · (intro w' hSw; go_simp; try rfl))
       | (refine wpAnyH_take (i := 2) rfl (by kernel_rfl) (by kernel_rfl) (by kernel_rfl) (fun _ _ _ h => h) (Or.inr ⟨by rfl, rfl⟩) (by assumption) ?_)
     simp only [Act.put, List.setIfInBounds_toArray, List.set_cons_zero, List.set_cons_succ, List.getElem_toArray, List.getElem_cons_succ, List.getElem_cons_zero]
     first
       | (refine wpAnyH_take (i := 3) (v := ?_) rfl (by kernel_rfl) (by kernel_rfl) (by kernel_rfl) (fun _ _ _ h => h) (Or.inl ⟨by rfl, ?_⟩) (by assumption) ?_; rotate_left; · (intro w' hSw; refine exec_load_nd (x := .tmp 2) (b := B0) (off := 0) (l := x) ?_ ?_ (R0.out w' hSw) <;> rfl))
       | (refine wpAnyH_take (i := 3) rfl (by kernel_rfl) (by kernel_rfl) (by kernel_rfl) (fun _ _ _ h => h) (Or.inr ⟨by rfl, rfl⟩) (by assumption) ?_)
     simp only [Act.put, List.setIfInBounds_toArray, List.set_cons_zero, List.set_cons_succ, List.getElem_toArray, List.getElem_cons_succ, List.getElem_cons_zero]
     first
       | (refine wpAnyH_take (i := 5) (v := ?_) rfl (by kernel_rfl) (by kernel_rfl) (by kernel_rfl) (fun _ _ _ h => h) (Or.inl ⟨by rfl, ?_⟩) (by assumption) ?_; rotate_left; · (intro w' hSw; refine exec_load_nd (x := .tmp 3) (b := B1) (off := 0) (l := y) ?_ ?_ (R1.out w' hSw) <;> rfl))
       | (refine wpAnyH_take (i := 5) rfl (by kernel_rfl) (by kernel_rfl) (by kernel_rfl) (fun _ _ _ h => h) (Or.inr ⟨by rfl, rfl⟩) (by assumption) ?_)
     simp only [Act.put, List.setIfInBounds_toArray, List.set_cons_zero, List.set_cons_succ, List.getElem_toArray, List.getElem_cons_succ, List.getElem_cons_zero]
     refine wpAnyH_ready (rs := [4]) (by kernel_rfl) (by simp) ?_
     refine AllReadyH.cons rfl (fun K hK => ?_) AllReadyH.nil
     go_simp
     refine (HZ.out _ hHeld).mono ?_
     rintro e w6 ⟨rfl, hb⟩
     have hHeld : Below W.heap.size W w6 := hHeld.trans (hb.mono hHeld.size)
     refine hK.out _ _ hHeld (fun hHeld => ?_)
     clear hK K hb
     try simp only [Act.put, List.setIfInBounds_toArray, List.set_cons_zero, List.set_cons_succ, List.getElem_toArray, List.getElem_cons_succ, List.getElem_cons_zero]
     refine wpAnyH_ready (rs := [6]) (by kernel_rfl) (by simp) ?_
     refine AllReadyH.cons rfl (fun K hK => ?_) AllReadyH.nil
     go_simp
     refine (HZ2.out _ hHeld).mono ?_
     rintro e w7 ⟨rfl, hb⟩
     have hHeld : Below W.heap.size W w7 := hHeld.trans (hb.mono hHeld.size)
     refine hK.out _ _ hHeld (fun hHeld => ?_)
     clear hK K hb
     try simp only [Act.put, List.setIfInBounds_toArray, List.set_cons_zero, List.set_cons_succ, List.getElem_toArray, List.getElem_cons_succ, List.getElem_cons_zero]
     first
       | (refine wpAnyH_take (i := 7) (v := ?_) rfl (by kernel_rfl) (by kernel_rfl) (by kernel_rfl) (fun _ _ _ h => h) (Or.inl ⟨by rfl, ?_⟩) (by assumption) ?_; rotate_left; · (intro w' hSw; go_simp; try rfl))
       | (refine wpAnyH_take (i := 7) rfl (by kernel_rfl) (by kernel_rfl) (by kernel_rfl) (fun _ _ _ h => h) (Or.inr ⟨by rfl, rfl⟩) (by assumption) ?_)
     simp only [Act.put, List.setIfInBounds_toArray, List.set_cons_zero, List.set_cons_succ, List.getElem_toArray, List.getElem_cons_succ, List.getElem_cons_zero]
     first
       | (refine wpAnyH_take (i := 8) (v := ?_) rfl (by kernel_rfl) (by kernel_rfl) (by kernel_rfl) (fun _ _ _ h => h) (Or.inl ⟨by rfl, ?_⟩) (by assumption) ?_; rotate_left; · (intro w' hSw; go_simp; try rfl))
       | (refine wpAnyH_take (i := 8) rfl (by kernel_rfl) (by kernel_rfl) (by kernel_rfl) (fun _ _ _ h => h) (Or.inr ⟨by rfl, rfl⟩) (by assumption) ?_)
     simp only [Act.put, List.setIfInBounds_toArray, List.set_cons_zero, List.set_cons_succ, List.getElem_toArray, List.getElem_cons_succ, List.getElem_cons_zero]
     first
       | (refine wpAnyH_take (i := 9) (v := ?_) rfl (by kernel_rfl) (by kernel_rfl) (by kernel_rfl) (fun _ _ _ h => h) (Or.inl ⟨by rfl, ?_⟩) (by assumption) ?_; rotate_left; · (intro w' hSw; refine exec_load_nd (x := .tmp 2) (b := B0) (off := 0) (l := x) ?_ ?_ (R0.out w' hSw) <;> rfl))
       | (refine wpAnyH_take (i := 9) rfl (by kernel_rfl) (by kernel_rfl) (by kernel_rfl) (fun _ _ _ h => h) (Or.inr ⟨by rfl, rfl⟩) (by assumption) ?_)
     simp only [Act.put, List.setIfInBounds_toArray, List.set_cons_zero, List.set_cons_succ, List.getElem_toArray, List.getElem_cons_succ, List.getElem_cons_zero]
     first
       | (refine wpAnyH_take (i := 11) (v := ?_) rfl (by kernel_rfl) (by kernel_rfl) (by kernel_rfl) (fun _ _ _ h => h) (Or.inl ⟨by rfl, ?_⟩) (by assumption) ?_; rotate_left; · (intro w' hSw; refine exec_load_nd (x := .tmp 3) (b := B1) (off := 0) (l := y) ?_ ?_ (R1.out w' hSw) <;> rfl))
       | (refine wpAnyH_take (i := 11) rfl (by kernel_rfl) (by kernel_rfl) (by kernel_rfl) (fun _ _ _ h => h) (Or.inr ⟨by rfl, rfl⟩) (by assumption) ?_)
     simp only [Act.put, List.setIfInBounds_toArray, List.set_cons_zero, List.set_cons_succ, List.getElem_toArray, List.getElem_cons_succ, List.getElem_cons_zero]
     refine wpAnyH_ready (rs := [10]) (by kernel_rfl) (by simp) ?_
     refine AllReadyH.cons rfl (fun K hK => ?_) AllReadyH.nil
     go_simp
     refine (HD.out _ hHeld).mono ?_
     rintro e w8 ⟨rfl, hb⟩
     have hHeld : Below W.heap.size W w8 := hHeld.trans (hb.mono hHeld.size)
     refine hK.out _ _ hHeld (fun hHeld => ?_)
     clear hK K hb
     try simp only [Act.put, List.setIfInBounds_toArray, List.set_cons_zero, List.set_cons_succ, List.getElem_toArray, List.getElem_cons_succ, List.getElem_cons_zero]
     refine wpAnyH_ready (rs := [12]) (by kernel_rfl) (by simp) ?_
     refine AllReadyH.cons rfl (fun K hK => ?_) AllReadyH.nil
     go_simp
     refine (HD2.out _ hHeld).mono ?_
     rintro e w9 ⟨rfl, hb⟩
     have hHeld : Below W.heap.size W w9 := hHeld.trans (hb.mono hHeld.size)
     refine hK.out _ _ hHeld (fun hHeld => ?_)
     clear hK K hb
     try simp only [Act.put, List.setIfInBounds_toArray, List.set_cons_zero, List.set_cons_succ, List.getElem_toArray, List.getElem_cons_succ, List.getElem_cons_zero]
     first
       | (refine wpAnyH_take (i := 13) (v := ?_) rfl (by kernel_rfl) (by kernel_rfl) (by kernel_rfl) (fun _ _ _ h => h) (Or.inl ⟨by rfl, ?_⟩) (by assumption) ?_; rotate_left; · (intro w' hSw; go_simp; try rfl))
       | (refine wpAnyH_take (i := 13) rfl (by kernel_rfl) (by kernel_rfl) (by kernel_rfl) (fun _ _ _ h => h) (Or.inr ⟨by rfl, rfl⟩) (by assumption) ?_)
     simp only [Act.put, List.setIfInBounds_toArray, List.set_cons_zero, List.set_cons_succ, List.getElem_toArray, List.getElem_cons_succ, List.getElem_cons_zero]
     first
       | (refine wpAnyH_take (i := 14) (v := ?_) rfl (by kernel_rfl) (by kernel_rfl) (by kernel_rfl) (fun _ _ _ h => h) (Or.inl ⟨by rfl, ?_⟩) (by assumption) ?_; rotate_left; · (intro w' hSw; go_simp; try rfl))
       | (refine wpAnyH_take (i := 14) rfl (by kernel_rfl) (by kernel_rfl) (by kernel_rfl) (fun _ _ _ h => h) (Or.inr ⟨by rfl, rfl⟩) (by assumption) ?_)
     simp only [Act.put, List.setIfInBounds_toArray, List.set_cons_zero, List.set_cons_succ, List.getElem_toArray, List.getElem_cons_succ, List.getElem_cons_zero]
     first
       | (refine wpAnyH_take (i := 15) (v := ?_) rfl (by kernel_rfl) (by kernel_rfl) (by kernel_rfl) (fun _ _ _ h => h) (Or.inl ⟨by rfl, ?_⟩) (by assumption) ?_; rotate_left; · (intro w' hSw; go_simp; try rfl))
       | (refine wpAnyH_take (i := 15) rfl (by kernel_rfl) (by kernel_rfl) (by kernel_rfl) (fun _ _ _ h => h) (Or.inr ⟨by rfl, rfl⟩) (by assumption) ?_)
     simp only [Act.put, List.setIfInBounds_toArray, List.set_cons_zero, List.set_cons_succ, List.getElem_toArray, List.getElem_cons_succ, List.getElem_cons_zero]
     first
       | (refine wpAnyH_take (i := 16) (v := ?_) rfl (by kernel_rfl) (by kernel_rfl) (by kernel_rfl) (fun _ _ _ h => h) (Or.inl ⟨by rfl, ?_⟩) (by assumption) ?_; rotate_left; · (intro w' hSw; refine exec_load_nd (x := .tmp 2) (b := B0) (off := 0) (l := x) ?_ ?_ (R0.out w' hSw) <;> rfl))
       | (refine wpAnyH_take (i := 16) rfl (by kernel_rfl) (by kernel_rfl) (by kernel_rfl) (fun _ _ _ h => h) (Or.inr ⟨by rfl, rfl⟩) (by assumption) ?_)
     simp only [Act.put, List.setIfInBounds_toArray, List.set_cons_zero, List.set_cons_succ, List.getElem_toArray, List.getElem_cons_succ, List.getElem_cons_zero]
     refine wpAnyH_ready (rs := [17]) (by kernel_rfl) (by simp) ?_
     refine AllReadyH.cons rfl (fun K hK => ?_) AllReadyH.nil
     go_simp
     refine (HC.out _ hHeld).mono ?_
     rintro e w10 ⟨rfl, hb⟩
     have hHeld : Below W.heap.size W w10 := hHeld.trans (hb.mono hHeld.size)
     refine hK.out _ _ hHeld (fun hHeld => ?_)
     clear hK K hb
     try simp only [Act.put, List.setIfInBounds_toArray, List.set_cons_zero, List.set_cons_succ, List.getElem_toArray, List.getElem_cons_succ, List.getElem_cons_zero]
     first
       | (refine wpAnyH_take (i := 18) (v := ?_) rfl (by kernel_rfl) (by kernel_rfl) (by kernel_rfl) (fun _ _ _ h => h) (Or.inl ⟨by rfl, ?_⟩) (by assumption) ?_; rotate_left; · (intro w' hSw; go_simp; try rfl))
       | (refine wpAnyH_take (i := 18) rfl (by kernel_rfl) (by kernel_rfl) (by kernel_rfl) (fun _ _ _ h => h) (Or.inr ⟨by rfl, rfl⟩) (by assumption) ?_)
     simp only [Act.put, List.setIfInBounds_toArray, List.set_cons_zero, List.set_cons_succ, List.getElem_toArray, List.getElem_cons_succ, List.getElem_cons_zero]
     first
       | (refine wpAnyH_take (i := 19) (v := ?_) rfl (by kernel_rfl) (by kernel_rfl) (by kernel_rfl) (fun _ _ _ h => h) (Or.inl ⟨by rfl, ?_⟩) (by assumption) ?_; rotate_left; · (intro w' hSw; go_simp; try rfl))
       | (refine wpAnyH_take (i := 19) rfl (by kernel_rfl) (by kernel_rfl) (by kernel_rfl) (fun _ _ _ h => h) (Or.inr ⟨by rfl, rfl⟩) (by assumption) ?_)
     simp only [Act.put, List.setIfInBounds_toArray, List.set_cons_zero, List.set_cons_succ, List.getElem_toArray, List.getElem_cons_succ, List.getElem_cons_zero]
     first
       | (refine wpAnyH_take (i := 20) (v := ?_) rfl (by kernel_rfl) (by kernel_rfl) (by kernel_rfl) (fun _ _ _ h => h) (Or.inl ⟨by rfl, ?_⟩) (by assumption) ?_; rotate_left; · (intro w' hSw; refine exec_load_nd (x := .tmp 2) (b := B0) (off := 0) (l := x) ?_ ?_ (R0.out w' hSw) <;> rfl))
       | (refine wpAnyH_take (i := 20) rfl (by kernel_rfl) (by kernel_rfl) (by kernel_rfl) (fun _ _ _ h => h) (Or.inr ⟨by rfl, rfl⟩) (by assumption) ?_)
     simp only [Act.put, List.setIfInBounds_toArray, List.set_cons_zero, List.set_cons_succ, List.getElem_toArray, List.getElem_cons_succ, List.getElem_cons_zero]
     first
       | (refine wpAnyH_take (i := 22) (v := ?_) rfl (by kernel_rfl) (by kernel_rfl) (by kernel_rfl) (fun _ _ _ h => h) (Or.inl ⟨by rfl, ?_⟩) (by assumption) ?_; rotate_left; · (intro w' hSw; refine exec_load_nd (x := .tmp 3) (b := B1) (off := 0) (l := y) ?_ ?_ (R1.out w' hSw) <;> rfl))
       | (refine wpAnyH_take (i := 22) rfl (by kernel_rfl) (by kernel_rfl) (by kernel_rfl) (fun _ _ _ h => h) (Or.inr ⟨by rfl, rfl⟩) (by assumption) ?_)
     simp only [Act.put, List.setIfInBounds_toArray, List.set_cons_zero, List.set_cons_succ, List.getElem_toArray, List.getElem_cons_succ, List.getElem_cons_zero]
     refine wpAnyH_ready (rs := [21]) (by kernel_rfl) (by simp) ?_
     refine AllReadyH.cons rfl (fun K hK => ?_) AllReadyH.nil
     go_simp
     refine (HQ.out _ hHeld).mono ?_
     rintro e w11 ⟨rfl, hb⟩
     have hHeld : Below W.heap.size W w11 := hHeld.trans (hb.mono hHeld.size)
     refine hK.out _ _ hHeld (fun hHeld => ?_)
     clear hK K hb
     try simp only [Act.put, List.setIfInBounds_toArray, List.set_cons_zero, List.set_cons_succ, List.getElem_toArray, List.getElem_cons_succ, List.getElem_cons_zero]
     refine wpAnyH_ready (rs := [23]) (by kernel_rfl) (by simp) ?_
     refine AllReadyH.cons rfl (fun K hK => ?_) AllReadyH.nil
     go_simp
     refine (HQ2.out _ hHeld).mono ?_
     rintro e w12 ⟨rfl, hb⟩
     have hHeld : Below W.heap.size W w12 := hHeld.trans (hb.mono hHeld.size)
     refine hK.out _ _ hHeld (fun hHeld => ?_)
     clear hK K hb
     try simp only [Act.put, List.setIfInBounds_toArray, List.set_cons_zero, List.set_cons_succ, List.getElem_toArray, List.getElem_cons_succ, List.getElem_cons_zero]
     first
       | (refine wpAnyH_take (i := 24) (v := ?_) rfl (by kernel_rfl) (by kernel_rfl) (by kernel_rfl) (fun _ _ _ h => h) (Or.inl ⟨by rfl, ?_⟩) (by assumption) ?_; rotate_left; · (intro w' hSw; go_simp; try rfl))
       | (refine wpAnyH_take (i := 24) rfl (by kernel_rfl) (by kernel_rfl) (by kernel_rfl) (fun _ _ _ h => h) (Or.inr ⟨by rfl, rfl⟩) (by assumption) ?_)
     simp only [Act.put, List.setIfInBounds_toArray, List.set_cons_zero, List.set_cons_succ, List.getElem_toArray, List.getElem_cons_succ, List.getElem_cons_zero]
     first
       | (refine wpAnyH_take (i := 25) (v := ?_) rfl (by kernel_rfl) (by kernel_rfl) (by kernel_rfl) (fun _ _ _ h => h) (Or.inl ⟨by rfl, ?_⟩) (by assumption) ?_; rotate_left; · (intro w' hSw; go_simp; try rfl))
       | (refine wpAnyH_take (i := 25) rfl (by kernel_rfl) (by kernel_rfl) (by kernel_rfl) (fun _ _ _ h => h) (Or.inr ⟨by rfl, rfl⟩) (by assumption) ?_)
     simp only [Act.put, List.setIfInBounds_toArray, List.set_cons_zero, List.set_cons_succ, List.getElem_toArray, List.getElem_cons_succ, List.getElem_cons_zero]
     first
       | (refine wpAnyH_take (i := 26) (v := ?_) rfl (by kernel_rfl) (by kernel_rfl) (by kernel_rfl) (fun _ _ _ h => h) (Or.inl ⟨by rfl, ?_⟩) (by assumption) ?_; rotate_left; · (intro w' hSw; go_simp; try rfl))
       | (refine wpAnyH_take (i := 26) rfl (by kernel_rfl) (by kernel_rfl) (by kernel_rfl) (fun _ _ _ h => h) (Or.inr ⟨by rfl, rfl⟩) (by assumption) ?_)
     simp only [Act.put, List.setIfInBounds_toArray, List.set_cons_zero, List.set_cons_succ, List.getElem_toArray, List.getElem_cons_succ, List.getElem_cons_zero]
     first
       | (refine wpAnyH_take (i := 27) (v := ?_) rfl (by kernel_rfl) (by kernel_rfl) (by kernel_rfl) (fun _ _ _ h => h) (Or.inl ⟨by rfl, ?_⟩) (by assumption) ?_; rotate_left; · (intro w' hSw; go_simp; try rfl))
       | (refine wpAnyH_take (i := 27) rfl (by kernel_rfl) (by kernel_rfl) (by kernel_rfl) (fun _ _ _ h => h) (Or.inr ⟨by rfl, rfl⟩) (by assumption) ?_)
     simp only [Act.put, List.setIfInBounds_toArray, List.set_cons_zero, List.set_cons_succ, List.getElem_toArray, List.getElem_cons_succ, List.getElem_cons_zero]
     first
       | (refine wpAnyH_take (i := 28) (v := ?_) rfl (by kernel_rfl) (by kernel_rfl) (by kernel_rfl) (fun _ _ _ h => h) (Or.inl ⟨by rfl, ?_⟩) (by assumption) ?_; rotate_left; · (intro w' hSw; go_simp; try rfl))
       | (refine wpAnyH_take (i := 28) rfl (by kernel_rfl) (by kernel_rfl) (by kernel_rfl) (fun _ _ _ h => h) (Or.inr ⟨by rfl, rfl⟩) (by assumption) ?_)
     simp only [Act.put, List.setIfInBounds_toArray, List.set_cons_zero, List.set_cons_succ, List.getElem_toArray, List.getElem_cons_succ, List.getElem_cons_zero]
     refine wpAnyH_done (by kernel_rfl) ?_ _
     go_wp2_with fail
     go_ret
     exact ⟨rfl, HB.out.trans (hHeld.mono HB.out.size)⟩
   | false =>
     go_enter Try.func8, Try.ntmps8
     go_upto_region 1 with (first | refine wpList_box_nd rfl _ rfl x rfl ?_ | refine wpList_box_nd rfl _ rfl y rfl ?_)
     generalize hg : (w.alloc _).alloc _ = W
     have HB : Hid (Below w.heap.size w W) := Lib.hid (by rw [← hg]; exact (below_alloc w _).alloc (by simp) _)
     have hr : W.heap[w.heap.size]? = some (.cells (ndC x).toArray 25) := by rw [← hg, heap_alloc_old _ _ (by simp)]; exact heap_alloc_new _ _
     have hs : W.heap[w.heap.size + 1]? = some (.cells (ndC y).toArray 25) := by
       rw [← hg]
       have := heap_alloc_new (w.alloc (.cells (ndC x).toArray 25)) (.cells (ndC y).toArray 25)
       simpa using this
     have hlt := (Array.getElem?_eq_some_iff.1 hr).1
     have hlt2 := (Array.getElem?_eq_some_iff.1 hs).1
     have R0 := Lib.hid (fun w1 (hb : Below W.heap.size W w1) => cells0 ((hb.block _ hlt).trans hr))
     have R1 := Lib.hid (fun w1 (hb : Below W.heap.size W w1) => cells0 ((hb.block _ hlt2).trans hs))
     have HN := Lib.hid (fun w1 (hb : Below W.heap.size W w1) => below_nd hb (below_nd HB.out hn))
     have HM := Lib.hid (fun w1 (hb : Below W.heap.size W w1) => below_nd hb (below_nd HB.out hm))
     clear hg hr hs hlt hlt2 hn hm
     obtain ⟨B1, hB1⟩ : ∃ B1, w.heap.size + 1 = B1 := ⟨_, rfl⟩
     obtain ⟨B0, hB0⟩ : ∃ B0, w.heap.size = B0 := ⟨_, rfl⟩
     rw [hB1] at R1 ⊢
     rw [hB0] at R0 ⊢
     go_wp2_with fail
     refine (awake_any W).mono ?_
     rintro e w1 ⟨rfl, hb⟩
     have H1 := Lib.hid hb
     clear hb
     have HS : Hid (∀ w1, Below W.heap.size W w1 → Calls Try.prog 12 #[ndV x] w1 (BoolB true w1)) := Lib.hid (fun w1 hb => by have := small_any x k w1 (HN.out w1 hb); rw [decide_eq_true h4] at this; exact this)
     have HT : Hid (∀ w1, Below W.heap.size W w1 → Calls Try.prog 12 #[ndV y] w1 (BoolB true w1)) := Lib.hid (fun w1 hb => by have := small_any y k2 w1 (HM.out w1 hb); rw [decide_eq_true h5] at this; exact this)
     have HA : Hid (∀ w1, Below W.heap.size W w1 → Calls Try.prog 15 #[ndV x, ndV y] w1 (BoolB true w1)) := Lib.hid (fun w1 hb => by have := psame_any (x, k) (y, k2) w1 (HN.out w1 hb) (HM.out w1 hb) h4 h5; rw [hr] at this; exact this)
     have HB2 : Hid (∀ w1, Below W.heap.size W w1 → Calls Try.prog 15 #[ndV y, ndV x] w1 (BoolB true w1)) := Lib.hid (fun w1 hb => by have := psame_any (y, k2) (x, k) w1 (HM.out w1 hb) (HN.out w1 hb) h5 h4; rw [sameT_comm, hr] at this; exact this)
     obtain ⟨e1, e2, e3⟩ := sameT_size hr
     simp only at e1 e2
     obtain ⟨s, hs⟩ : ∃ s, min 4001 (k.size + 1) = s := ⟨_, rfl⟩
     obtain ⟨d, hd⟩ : ∃ d, min 301 (k.deep + 1) = d := ⟨_, rfl⟩
     obtain ⟨q, hq⟩ : ∃ q, capsT (x, k) = q := ⟨_, rfl⟩
     have HZ : Hid (∀ w1, Below W.heap.size W w1 → Calls Try.prog 10 #[ndV x] w1 (IntB (s : Nat) w1)) := Lib.hid (fun w1 hb => by have := psize_any x k w1 (HN.out w1 hb); rw [hs] at this; exact this)
     have HZ2 : Hid (∀ w1, Below W.heap.size W w1 → Calls Try.prog 10 #[ndV y] w1 (IntB (s : Nat) w1)) := Lib.hid (fun w1 hb => by have := psize_any y k2 w1 (HM.out w1 hb); rw [← e1, hs] at this; exact this)
     have HD : Hid (∀ w1, Below W.heap.size W w1 → Calls Try.prog 13 #[ndV x] w1 (IntB (d : Nat) w1)) := Lib.hid (fun w1 hb => by have := pdepth_any x k w1 (HN.out w1 hb) h4; rw [hd] at this; exact this)
     have HD2 : Hid (∀ w1, Below W.heap.size W w1 → Calls Try.prog 13 #[ndV y] w1 (IntB (d : Nat) w1)) := Lib.hid (fun w1 hb => by have := pdepth_any y k2 w1 (HM.out w1 hb) h5; rw [← e2, hd] at this; exact this)
     have HC : Hid (∀ w1, Below W.heap.size W w1 → Calls Try.prog 23 #[ndV x] w1 (BoolB false w1)) := Lib.hid (fun w1 hb => by have := pcheck_any x k w1 (HN.out w1 hb); rw [hc] at this; exact this)
     have HQ : Hid (∀ w1, Below W.heap.size W w1 → Calls Try.prog 20 #[ndV x] w1 (IntB (q : Nat) w1)) := Lib.hid (fun w1 hb => by have := pcaps_any x k w1 (HN.out w1 hb) h4; rw [hq] at this; exact this)
     have HQ2 : Hid (∀ w1, Below W.heap.size W w1 → Calls Try.prog 20 #[ndV y] w1 (IntB (q : Nat) w1)) := Lib.hid (fun w1 hb => by have := pcaps_any y k2 w1 (HM.out w1 hb) h5; rw [← e3, hq] at this; exact this)
     clear e1 e2 e3 hs hd hq hc
     have es : ((s : Int) == (s : Int)) = true := by simp
     have ed : ((d : Int) == (d : Int)) = true := by simp
     have eq : ((q : Int) == (q : Int)) = true := by simp
     clear hr HN HM h4 h5
     go_wp2_with (first | (refine wpList_load_nd rfl _ rfl B0 0 rfl x (R0.out w1 H1.out) ?_) | (refine wpList_load_nd rfl _ rfl B1 0 rfl y (R1.out w1 H1.out) ?_))
     refine (HS.out w1 H1.out).mono ?_
     rintro e w2 ⟨rfl, hb⟩
     have H2 := Lib.hid (H1.out.trans (hb.mono H1.out.size))
     clear hb
     go_wp2_with (first | (refine wpList_load_nd rfl _ rfl B0 0 rfl x (R0.out w2 H2.out) ?_) | (refine wpList_load_nd rfl _ rfl B1 0 rfl y (R1.out w2 H2.out) ?_))
     refine (HT.out w2 H2.out).mono ?_
     rintro e w3 ⟨rfl, hb⟩
     have H3 := Lib.hid (H2.out.trans (hb.mono H2.out.size))
     clear hb
     go_wp2_with (first | (refine wpList_load_nd rfl _ rfl B0 0 rfl x (R0.out w3 H3.out) ?_) | (refine wpList_load_nd rfl _ rfl B1 0 rfl y (R1.out w3 H3.out) ?_))
     refine (HA.out w3 H3.out).mono ?_
     rintro e w4 ⟨rfl, hb⟩
     have H4 := Lib.hid (H3.out.trans (hb.mono H3.out.size))
     clear hb
     go_wp2_with (first | (refine wpList_load_nd rfl _ rfl B0 0 rfl x (R0.out w4 H4.out) ?_) | (refine wpList_load_nd rfl _ rfl B1 0 rfl y (R1.out w4 H4.out) ?_))
     refine (HB2.out w4 H4.out).mono ?_
     rintro e w5 ⟨rfl, hb⟩
     have H5 := Lib.hid (H4.out.trans (hb.mono H4.out.size))
     clear hb
     go_wp2_with fail
     refine wp_region_held_drew (S := fun w' => Below W.heap.size W w') (by kernel_rfl) H5.out.drew (fun hHeld => ?_)
     first
       | (refine wpAnyH_take (i := 0) (v := ?_) rfl (by kernel_rfl) (by kernel_rfl) (by kernel_rfl) (fun _ _ _ h => h) (Or.inl ⟨by rfl, ?_⟩) (by assumption) ?_; rotate_left; · (intro w' hSw; go_simp; try rfl))
       | (refine wpAnyH_take (i := 0) rfl (by kernel_rfl) (by kernel_rfl) (by kernel_rfl) (fun _ _ _ h => h) (Or.inr ⟨by rfl, rfl⟩) (by assumption) ?_)
     simp only [Act.put, List.setIfInBounds_toArray, List.set_cons_zero, List.set_cons_succ, List.getElem_toArray, List.getElem_cons_zero]
     first
       | (refine wpAnyH_take (i := 1) (v := ?_) rfl (by kernel_rfl) (by kernel_rfl) (by kernel_rfl) (fun _ _ _ h => h) (Or.inl ⟨by rfl, ?_⟩) (by assumption) ?_; rotate_left; · (intro w' hSw; go_simp; try rfl))
       | (refine wpAnyH_take (i := 1) rfl (by kernel_rfl) (by kernel_rfl) (by kernel_rfl) (fun _ _ _ h => h) (Or.inr ⟨by rfl, rfl⟩) (by assumption) ?_)
     simp only [Act.put, List.setIfInBounds_toArray, List.set_cons_zero, List.set_cons_succ, List.getElem_toArray, List.getElem_cons_succ, List.getElem_cons_zero]
     first
       | (refine wpAnyH_take (i := 2) (v := ?_) rfl (by kernel_rfl) (by kernel_rfl) (by kernel_rfl) (fun _ _ _ h => h) (Or.inl ⟨by rfl, ?_⟩) (by assumption) ?_; rotate_left; · (intro w' hSw; go_simp; try rfl))
       | (refine wpAnyH_take (i := 2) rfl (by kernel_rfl) (by kernel_rfl) (by kernel_rfl) (fun _ _ _ h => h) (Or.inr ⟨by rfl, rfl⟩) (by assumption) ?_)
     simp only [Act.put, List.setIfInBounds_toArray, List.set_cons_zero, List.set_cons_succ, List.getElem_toArray, List.getElem_cons_succ, List.getElem_cons_zero]
     first
       | (refine wpAnyH_take (i := 3) (v := ?_) rfl (by kernel_rfl) (by kernel_rfl) (by kernel_rfl) (fun _ _ _ h => h) (Or.inl ⟨by rfl, ?_⟩) (by assumption) ?_; rotate_left; · (intro w' hSw; refine exec_load_nd (x := .tmp 2) (b := B0) (off := 0) (l := x) ?_ ?_ (R0.out w' hSw) <;> rfl))
       | (refine wpAnyH_take (i := 3) rfl (by kernel_rfl) (by kernel_rfl) (by kernel_rfl) (fun _ _ _ h => h) (Or.inr ⟨by rfl, rfl⟩) (by assumption) ?_)
     simp only [Act.put, List.setIfInBounds_toArray, List.set_cons_zero, List.set_cons_succ, List.getElem_toArray, List.getElem_cons_succ, List.getElem_cons_zero]
     first
       | (refine wpAnyH_take (i := 5) (v := ?_) rfl (by kernel_rfl) (by kernel_rfl) (by kernel_rfl) (fun _ _ _ h => h) (Or.inl ⟨by rfl, ?_⟩) (by assumption) ?_; rotate_left; · (intro w' hSw; refine exec_load_nd (x := .tmp 3) (b := B1) (off := 0) (l := y) ?_ ?_ (R1.out w' hSw) <;> rfl))
       | (refine wpAnyH_take (i := 5) rfl (by kernel_rfl) (by kernel_rfl) (by kernel_rfl) (fun _ _ _ h => h) (Or.inr ⟨by rfl, rfl⟩) (by assumption) ?_)
     simp only [Act.put, List.setIfInBounds_toArray, List.set_cons_zero, List.set_cons_succ, List.getElem_toArray, List.getElem_cons_succ, List.getElem_cons_zero]
     refine wpAnyH_ready (rs := [4]) (by kernel_rfl) (by simp) ?_
     refine AllReadyH.cons rfl (fun K hK => ?_) AllReadyH.nil
     go_simp
     refine (HZ.out _ hHeld).mono ?_
     rintro e w6 ⟨rfl, hb⟩
     have hHeld : Below W.heap.size W w6 := hHeld.trans (hb.mono hHeld.size)
     refine hK.out _ _ hHeld (fun hHeld => ?_)
     clear hK K hb
     try simp only [Act.put, List.setIfInBounds_toArray, List.set_cons_zero, List.set_cons_succ, List.getElem_toArray, List.getElem_cons_succ, List.getElem_cons_zero]
     refine wpAnyH_ready (rs := [6]) (by kernel_rfl) (by simp) ?_
     refine AllReadyH.cons rfl (fun K hK => ?_) AllReadyH.nil
     go_simp
     refine (HZ2.out _ hHeld).mono ?_
     rintro e w7 ⟨rfl, hb⟩
     have hHeld : Below W.heap.size W w7 := hHeld.trans (hb.mono hHeld.size)
     refine hK.out _ _ hHeld (fun hHeld => ?_)
     clear hK K hb
     try simp only [Act.put, List.setIfInBounds_toArray, List.set_cons_zero, List.set_cons_succ, List.getElem_toArray, List.getElem_cons_succ, List.getElem_cons_zero]
     first
       | (refine wpAnyH_take (i := 7) (v := ?_) rfl (by kernel_rfl) (by kernel_rfl) (by kernel_rfl) (fun _ _ _ h => h) (Or.inl ⟨by rfl, ?_⟩) (by assumption) ?_; rotate_left; · (intro w' hSw; go_simp; try rfl))
       | (refine wpAnyH_take (i := 7) rfl (by kernel_rfl) (by kernel_rfl) (by kernel_rfl) (fun _ _ _ h => h) (Or.inr ⟨by rfl, rfl⟩) (by assumption) ?_)
     simp only [Act.put, List.setIfInBounds_toArray, List.set_cons_zero, List.set_cons_succ, List.getElem_toArray, List.getElem_cons_succ, List.getElem_cons_zero]
     first
       | (refine wpAnyH_take (i := 8) (v := ?_) rfl (by kernel_rfl) (by kernel_rfl) (by kernel_rfl) (fun _ _ _ h => h) (Or.inl ⟨by rfl, ?_⟩) (by assumption) ?_; rotate_left; · (intro w' hSw; go_simp; try rfl))
       | (refine wpAnyH_take (i := 8) rfl (by kernel_rfl) (by kernel_rfl) (by kernel_rfl) (fun _ _ _ h => h) (Or.inr ⟨by rfl, rfl⟩) (by assumption) ?_)
     simp only [Act.put, List.setIfInBounds_toArray, List.set_cons_zero, List.set_cons_succ, List.getElem_toArray, List.getElem_cons_succ, List.getElem_cons_zero]
     first
       | (refine wpAnyH_take (i := 9) (v := ?_) rfl (by kernel_rfl) (by kernel_rfl) (by kernel_rfl) (fun _ _ _ h => h) (Or.inl ⟨by rfl, ?_⟩) (by assumption) ?_; rotate_left; · (intro w' hSw; refine exec_load_nd (x := .tmp 2) (b := B0) (off := 0) (l := x) ?_ ?_ (R0.out w' hSw) <;> rfl))
       | (refine wpAnyH_take (i := 9) rfl (by kernel_rfl) (by kernel_rfl) (by kernel_rfl) (fun _ _ _ h => h) (Or.inr ⟨by rfl, rfl⟩) (by assumption) ?_)
     simp only [Act.put, List.setIfInBounds_toArray, List.set_cons_zero, List.set_cons_succ, List.getElem_toArray, List.getElem_cons_succ, List.getElem_cons_zero]
     first
       | (refine wpAnyH_take (i := 11) (v := ?_) rfl (by kernel_rfl) (by kernel_rfl) (by kernel_rfl) (fun _ _ _ h => h) (Or.inl ⟨by rfl, ?_⟩) (by assumption) ?_; rotate_left; · (intro w' hSw; refine exec_load_nd (x := .tmp 3) (b := B1) (off := 0) (l := y) ?_ ?_ (R1.out w' hSw) <;> rfl))
       | (refine wpAnyH_take (i := 11) rfl (by kernel_rfl) (by kernel_rfl) (by kernel_rfl) (fun _ _ _ h => h) (Or.inr ⟨by rfl, rfl⟩) (by assumption) ?_)
     simp only [Act.put, List.setIfInBounds_toArray, List.set_cons_zero, List.set_cons_succ, List.getElem_toArray, List.getElem_cons_succ, List.getElem_cons_zero]
     refine wpAnyH_ready (rs := [10]) (by kernel_rfl) (by simp) ?_
     refine AllReadyH.cons rfl (fun K hK => ?_) AllReadyH.nil
     go_simp
     refine (HD.out _ hHeld).mono ?_
     rintro e w8 ⟨rfl, hb⟩
     have hHeld : Below W.heap.size W w8 := hHeld.trans (hb.mono hHeld.size)
     refine hK.out _ _ hHeld (fun hHeld => ?_)
     clear hK K hb
     try simp only [Act.put, List.setIfInBounds_toArray, List.set_cons_zero, List.set_cons_succ, List.getElem_toArray, List.getElem_cons_succ, List.getElem_cons_zero]
     refine wpAnyH_ready (rs := [12]) (by kernel_rfl) (by simp) ?_
     refine AllReadyH.cons rfl (fun K hK => ?_) AllReadyH.nil
     go_simp
     refine (HD2.out _ hHeld).mono ?_
     rintro e w9 ⟨rfl, hb⟩
     have hHeld : Below W.heap.size W w9 := hHeld.trans (hb.mono hHeld.size)
     refine hK.out _ _ hHeld (fun hHeld => ?_)
     clear hK K hb
     try simp only [Act.put, List.setIfInBounds_toArray, List.set_cons_zero, List.set_cons_succ, List.getElem_toArray, List.getElem_cons_succ, List.getElem_cons_zero]
     first
       | (refine wpAnyH_take (i := 13) (v := ?_) rfl (by kernel_rfl) (by kernel_rfl) (by kernel_rfl) (fun _ _ _ h => h) (Or.inl ⟨by rfl, ?_⟩) (by assumption) ?_; rotate_left; · (intro w' hSw; go_simp; try rfl))
       | (refine wpAnyH_take (i := 13) rfl (by kernel_rfl) (by kernel_rfl) (by kernel_rfl) (fun _ _ _ h => h) (Or.inr ⟨by rfl, rfl⟩) (by assumption) ?_)
     simp only [Act.put, List.setIfInBounds_toArray, List.set_cons_zero, List.set_cons_succ, List.getElem_toArray, List.getElem_cons_succ, List.getElem_cons_zero]
     first
       | (refine wpAnyH_take (i := 14) (v := ?_) rfl (by kernel_rfl) (by kernel_rfl) (by kernel_rfl) (fun _ _ _ h => h) (Or.inl ⟨by rfl, ?_⟩) (by assumption) ?_; rotate_left; · (intro w' hSw; go_simp; try rfl))
       | (refine wpAnyH_take (i := 14) rfl (by kernel_rfl) (by kernel_rfl) (by kernel_rfl) (fun _ _ _ h => h) (Or.inr ⟨by rfl, rfl⟩) (by assumption) ?_)
     simp only [Act.put, List.setIfInBounds_toArray, List.set_cons_zero, List.set_cons_succ, List.getElem_toArray, List.getElem_cons_succ, List.getElem_cons_zero]
     first
       | (refine wpAnyH_take (i := 15) (v := ?_) rfl (by kernel_rfl) (by kernel_rfl) (by kernel_rfl) (fun _ _ _ h => h) (Or.inl ⟨by rfl, ?_⟩) (by assumption) ?_; rotate_left; · (intro w' hSw; go_simp; try rfl))
       | (refine wpAnyH_take (i := 15) rfl (by kernel_rfl) (by kernel_rfl) (by kernel_rfl) (fun _ _ _ h => h) (Or.inr ⟨by rfl, rfl⟩) (by assumption) ?_)
     simp only [Act.put, List.setIfInBounds_toArray, List.set_cons_zero, List.set_cons_succ, List.getElem_toArray, List.getElem_cons_succ, List.getElem_cons_zero]
     first
       | (refine wpAnyH_take (i := 16) (v := ?_) rfl (by kernel_rfl) (by kernel_rfl) (by kernel_rfl) (fun _ _ _ h => h) (Or.inl ⟨by rfl, ?_⟩) (by assumption) ?_; rotate_left; · (intro w' hSw; refine exec_load_nd (x := .tmp 2) (b := B0) (off := 0) (l := x) ?_ ?_ (R0.out w' hSw) <;> rfl))
       | (refine wpAnyH_take (i := 16) rfl (by kernel_rfl) (by kernel_rfl) (by kernel_rfl) (fun _ _ _ h => h) (Or.inr ⟨by rfl, rfl⟩) (by assumption) ?_)
     simp only [Act.put, List.setIfInBounds_toArray, List.set_cons_zero, List.set_cons_succ, List.getElem_toArray, List.getElem_cons_succ, List.getElem_cons_zero]
     refine wpAnyH_ready (rs := [17]) (by kernel_rfl) (by simp) ?_
     refine AllReadyH.cons rfl (fun K hK => ?_) AllReadyH.nil
     go_simp
     refine (HC.out _ hHeld).mono ?_
     rintro e w10 ⟨rfl, hb⟩
     have hHeld : Below W.heap.size W w10 := hHeld.trans (hb.mono hHeld.size)
     refine hK.out _ _ hHeld (fun hHeld => ?_)
     clear hK K hb
     try simp only [Act.put, List.setIfInBounds_toArray, List.set_cons_zero, List.set_cons_succ, List.getElem_toArray, List.getElem_cons_succ, List.getElem_cons_zero]
     first
       | (refine wpAnyH_take (i := 18) (v := ?_) rfl (by kernel_rfl) (by kernel_rfl) (by kernel_rfl) (fun _ _ _ h => h) (Or.inl ⟨by rfl, ?_⟩) (by assumption) ?_; rotate_left; · (intro w' hSw; go_simp; try rfl))
       | (refine wpAnyH_take (i := 18) rfl (by kernel_rfl) (by kernel_rfl) (by kernel_rfl) (fun _ _ _ h => h) (Or.inr ⟨by rfl, rfl⟩) (by assumption) ?_)
     simp only [Act.put, List.setIfInBounds_toArray, List.set_cons_zero, List.set_cons_succ, List.getElem_toArray, List.getElem_cons_succ, List.getElem_cons_zero]
     first
       | (refine wpAnyH_take (i := 19) (v := ?_) rfl (by kernel_rfl) (by kernel_rfl) (by kernel_rfl) (fun _ _ _ h => h) (Or.inl ⟨by rfl, ?_⟩) (by assumption) ?_; rotate_left; · (intro w' hSw; go_simp; try rfl))
       | (refine wpAnyH_take (i := 19) rfl (by kernel_rfl) (by kernel_rfl) (by kernel_rfl) (fun _ _ _ h => h) (Or.inr ⟨by rfl, rfl⟩) (by assumption) ?_)
     simp only [Act.put, List.setIfInBounds_toArray, List.set_cons_zero, List.set_cons_succ, List.getElem_toArray, List.getElem_cons_succ, List.getElem_cons_zero]
     first
       | (refine wpAnyH_take (i := 20) (v := ?_) rfl (by kernel_rfl) (by kernel_rfl) (by kernel_rfl) (fun _ _ _ h => h) (Or.inl ⟨by rfl, ?_⟩) (by assumption) ?_; rotate_left; · (intro w' hSw; refine exec_load_nd (x := .tmp 2) (b := B0) (off := 0) (l := x) ?_ ?_ (R0.out w' hSw) <;> rfl))
       | (refine wpAnyH_take (i := 20) rfl (by kernel_rfl) (by kernel_rfl) (by kernel_rfl) (fun _ _ _ h => h) (Or.inr ⟨by rfl, rfl⟩) (by assumption) ?_)
     simp only [Act.put, List.setIfInBounds_toArray, List.set_cons_zero, List.set_cons_succ, List.getElem_toArray, List.getElem_cons_succ, List.getElem_cons_zero]
     first
       | (refine wpAnyH_take (i := 21) (v := ?_) rfl (by kernel_rfl) (by kernel_rfl) (by kernel_rfl) (fun _ _ _ h => h) (Or.inl ⟨by rfl, ?_⟩) (by assumption) ?_; rotate_left; · (intro w' hSw; go_simp; try rfl))
       | (refine wpAnyH_take (i := 21) rfl (by kernel_rfl) (by kernel_rfl) (by kernel_rfl) (fun _ _ _ h => h) (Or.inr ⟨by rfl, rfl⟩) (by assumption) ?_)
     simp only [Act.put, List.setIfInBounds_toArray, List.set_cons_zero, List.set_cons_succ, List.getElem_toArray, List.getElem_cons_succ, List.getElem_cons_zero]
     first
       | (refine wpAnyH_take (i := 22) (v := ?_) rfl (by kernel_rfl) (by kernel_rfl) (by kernel_rfl) (fun _ _ _ h => h) (Or.inl ⟨by rfl, ?_⟩) (by assumption) ?_; rotate_left; · (intro w' hSw; refine exec_load_nd (x := .tmp 3) (b := B1) (off := 0) (l := y) ?_ ?_ (R1.out w' hSw) <;> rfl))
       | (refine wpAnyH_take (i := 22) rfl (by kernel_rfl) (by kernel_rfl) (by kernel_rfl) (fun _ _ _ h => h) (Or.inr ⟨by rfl, rfl⟩) (by assumption) ?_)
     simp only [Act.put, List.setIfInBounds_toArray, List.set_cons_zero, List.set_cons_succ, List.getElem_toArray, List.getElem_cons_succ, List.getElem_cons_zero]
     first
       | (refine wpAnyH_take (i := 23) (v := ?_) rfl (by kernel_rfl) (by kernel_rfl) (by kernel_rfl) (fun _ _ _ h => h) (Or.inl ⟨by rfl, ?_⟩) (by assumption) ?_; rotate_left; · (intro w' hSw; go_simp; try rfl))
       | (refine wpAnyH_take (i := 23) rfl (by kernel_rfl) (by kernel_rfl) (by kernel_rfl) (fun _ _ _ h => h) (Or.inr ⟨by rfl, rfl⟩) (by assumption) ?_)
     simp only [Act.put, List.setIfInBounds_toArray, List.set_cons_zero, List.set_cons_succ, List.getElem_toArray, List.getElem_cons_succ, List.getElem_cons_zero]
     first
       | (refine wpAnyH_take (i := 24) (v := ?_) rfl (by kernel_rfl) (by kernel_rfl) (by kernel_rfl) (fun _ _ _ h => h) (Or.inl ⟨by rfl, ?_⟩) (by assumption) ?_; rotate_left; · (intro w' hSw; go_simp; try rfl))
       | (refine wpAnyH_take (i := 24) rfl (by kernel_rfl) (by kernel_rfl) (by kernel_rfl) (fun _ _ _ h => h) (Or.inr ⟨by rfl, rfl⟩) (by assumption) ?_)
     simp only [Act.put, List.setIfInBounds_toArray, List.set_cons_zero, List.set_cons_succ, List.getElem_toArray, List.getElem_cons_succ, List.getElem_cons_zero]
     first
       | (refine wpAnyH_take (i := 25) (v := ?_) rfl (by kernel_rfl) (by kernel_rfl) (by kernel_rfl) (fun _ _ _ h => h) (Or.inl ⟨by rfl, ?_⟩) (by assumption) ?_; rotate_left; · (intro w' hSw; go_simp; try rfl))
       | (refine wpAnyH_take (i := 25) rfl (by kernel_rfl) (by kernel_rfl) (by kernel_rfl) (fun _ _ _ h => h) (Or.inr ⟨by rfl, rfl⟩) (by assumption) ?_)
     simp only [Act.put, List.setIfInBounds_toArray, List.set_cons_zero, List.set_cons_succ, List.getElem_toArray, List.getElem_cons_succ, List.getElem_cons_zero]
     first
       | (refine wpAnyH_take (i := 26) (v := ?_) rfl (by kernel_rfl) (by kernel_rfl) (by kernel_rfl) (fun _ _ _ h => h) (Or.inl ⟨by rfl, ?_⟩) (by assumption) ?_; rotate_left; · (intro w' hSw; go_simp; try rfl))
       | (refine wpAnyH_take (i := 26) rfl (by kernel_rfl) (by kernel_rfl) (by kernel_rfl) (fun _ _ _ h => h) (Or.inr ⟨by rfl, rfl⟩) (by assumption) ?_)
     simp only [Act.put, List.setIfInBounds_toArray, List.set_cons_zero, List.set_cons_succ, List.getElem_toArray, List.getElem_cons_succ, List.getElem_cons_zero]
     first
       | (refine wpAnyH_take (i := 27) (v := ?_) rfl (by kernel_rfl) (by kernel_rfl) (by kernel_rfl) (fun _ _ _ h => h) (Or.inl ⟨by rfl, ?_⟩) (by assumption) ?_; rotate_left; · (intro w' hSw; go_simp; try rfl))
       | (refine wpAnyH_take (i := 27) rfl (by kernel_rfl) (by kernel_rfl) (by kernel_rfl) (fun _ _ _ h => h) (Or.inr ⟨by rfl, rfl⟩) (by assumption) ?_)
     simp only [Act.put, List.setIfInBounds_toArray, List.set_cons_zero, List.set_cons_succ, List.getElem_toArray, List.getElem_cons_succ, List.getElem_cons_zero]
     first
       | (refine wpAnyH_take (i := 28) (v := ?_) rfl (by kernel_rfl) (by kernel_rfl) (by kernel_rfl) (fun _ _ _ h => h) (Or.inl ⟨by rfl, ?_⟩) (by assumption) ?_; rotate_left; · (intro w' hSw; go_simp; try rfl))
       | (refine wpAnyH_take (i := 28) rfl (by kernel_rfl) (by kernel_rfl) (by kernel_rfl) (fun _ _ _ h => h) (Or.inr ⟨by rfl, rfl⟩) (by assumption) ?_)
     simp only [Act.put, List.setIfInBounds_toArray, List.set_cons_zero, List.set_cons_succ, List.getElem_toArray, List.getElem_cons_succ, List.getElem_cons_zero]
     refine wpAnyH_done (by kernel_rfl) ?_ _
     go_wp2_with fail
     go_ret
     exact ⟨rfl, HB.out.trans (hHeld.mono HB.out.size)⟩
end Go.Proofs.Ytpjaahojoabgjaa.trw
end
