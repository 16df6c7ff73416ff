/- Texts that TreeCountsLaw leans on, merged: what the functions of the program answer. -/
import Derived.BigQuiet
import Derived.ChangeSame
import Derived.Deep.Cut
import Derived.Deep.RegionHeld3
import Derived.Deep.SlicePairs
import Derived.Laws.BytesArg
import Derived.Laws.CopyRow
import Derived.Laws.OwnMore
import Derived.Laws.Rows
import Derived.Lib.Hide
import Derived.Lib.QuietBelow
import Derived.Lib.SmallJoins
import Derived.Maps.AppendAt
import Derived.OwnWalk
import Derived.Shelf.Abstract
import Derived.SizedLaws
import Derived.Test.YtlbdfcglpegabaaRows
import Derived.WalkKit
import Derived.WalkMore
import Derived.Test.YtlbdfcglpegabaaBTr01
import Derived.Test.YtlbdfcglpegabaaBTr02
import Derived.Test.YtlbdfcglpegabaaBTr03
import Derived.Test.YtlbdfcglpegabaaBTr04
import Derived.Test.YtlbdfcglpegabaaBTr05
import Derived.Test.YtlbdfcglpegabaaBTr06
import Derived.Test.YtlbdfcglpegabaaBTr07
import Derived.Test.YtlbdfcglpegabaaBTr08
namespace Go.Proofs.Ytlbdfcglpegabaa.lawTreeCounts
end Go.Proofs.Ytlbdfcglpegabaa.lawTreeCounts
namespace Go.Proofs.Ytlbdfcglpegabaa.trp
end Go.Proofs.Ytlbdfcglpegabaa.trp
namespace Go.Proofs.Ytlbdfcglpegabaa.trw
end Go.Proofs.Ytlbdfcglpegabaa.trw
section
namespace Go.Proofs.Ytlbdfcglpegabaa.trw
open Go Go.RowKit trp
set_option maxHeartbeats 400000 in
theorem rsize_any (x : Lab) (k : F) (w : World) (hd : NdAt w (x, k)) : Calls Try.prog 15 #[ndV x] w (IntB (min 4001 (k.size + 1) : Nat) w) := by
 have hbl := below_alloc w (.cells (ndC x).toArray 25)
 have HC := Lib.hid (count_any (k.size + 1) x k 4000 (w.alloc (.cells (ndC x).toArray 25)) (Nat.lt_succ_self _) (below_nd hbl hd) (by omega) (by omega))
 have HB := Lib.hid hbl
 have hq : 4000 - cnt k (4000 - 1) = ((min 4001 (k.size + 1) : Nat) : Int) ∧ -1 ≤ cnt k (4000 - 1) ∧ cnt k (4000 - 1) ≤ 4000 := by
   rw [cnt_eq' k 4000 (by omega)]
   omega
 obtain ⟨hq, hq1, hq2⟩ := hq
 have HQ := Lib.hid hq
 clear hbl hd hq
 generalize cnt k (4000 - 1) = c at *
 unfold ndC at HC HB
 unfold ndV at *
 go_enter Try.func15, Try.ntmps15
 go_wp2_with fail
 refine HC.out.mono ?_
 rintro e w2 ⟨rfl, hb2⟩
 go_wp2_with fail
 go_ret
 exact ⟨by rw [← HQ.out]; rfl, below_trans HB.out hb2⟩
end Go.Proofs.Ytlbdfcglpegabaa.trw
end
section
namespace Go.Proofs.Ytlbdfcglpegabaa.trw
open Go Go.RowKit trp
set_option maxRecDepth 100000 in
set_option maxHeartbeats 4000000 in
theorem counts_law (x : Lab) (k : F) (w : World) (hn : NdAt w (x, k)) : Calls Try.prog 4 #[ndV x] w (BoolB true w) := by
 by_cases h4 : k.size + 1 ≤ 4000
 · go_enter Try.func4, Try.ntmps4
   go_upto_region 1 with (refine wpList_box_nd rfl _ rfl x rfl ?_)
   generalize hg : w.alloc _ = W
   have HB : Hid (Below w.heap.size w W) := Lib.hid (by rw [← hg]; exact below_alloc _ _)
   have hr : W.heap[w.heap.size]? = some (.cells (ndC x).toArray 25) := by rw [← hg]; exact heap_alloc_new _ _
   have hlt := (Array.getElem?_eq_some_iff.1 hr).1
   have R0 := Lib.hid (fun w1 (hb : Below W.heap.size W w1) => cells0 ((hb.block _ hlt).trans hr))
   have HN := Lib.hid (fun w1 (hb : Below W.heap.size W w1) => below_nd hb (below_nd HB.out hn))
   clear hg hr hlt hn
   obtain ⟨B0, hB0⟩ : ∃ B0, w.heap.size = B0 := ⟨_, rfl⟩
   rw [hB0] at R0 ⊢
   go_wp2_with fail
   refine (awake_any W).mono ?_
   rintro e w1 ⟨rfl, hb⟩
   have H1 := Lib.hid hb
   clear hb
   obtain ⟨s, hs⟩ : ∃ s, min 4001 (k.size + 1) = s := ⟨_, rfl⟩
   have HZ : Hid (∀ w1, Below W.heap.size W w1 → Calls Try.prog 14 #[ndV x] w1 (IntB (s : Nat) w1)) := Lib.hid (fun w1 hb => by have := psize_any x k w1 (HN.out w1 hb); rw [hs] at this; exact this)
   have HY : Hid (∀ w1, Below W.heap.size W w1 → Calls Try.prog 15 #[ndV x] w1 (IntB (s : Nat) w1)) := Lib.hid (fun w1 hb => by have := rsize_any x k w1 (HN.out w1 hb); rw [hs] at this; exact this)
   have HS : Hid (∀ w1, Below W.heap.size W w1 → Calls Try.prog 11 #[ndV x] w1 (BoolB true w1)) := Lib.hid (fun w1 hb => by have := small_any x k w1 (HN.out w1 hb); rw [decide_eq_true h4] at this; exact this)
   obtain ⟨d, hd⟩ : ∃ d, min 301 (k.deep + 1) = d := ⟨_, rfl⟩
   have HD : Hid (∀ w1, Below W.heap.size W w1 → Calls Try.prog 16 #[ndV x] w1 (IntB (d : Nat) w1)) := Lib.hid (fun w1 hb => by have := pdepth_any x k w1 (HN.out w1 hb) h4; rw [hd] at this; exact this)
   have HE : Hid (∀ w1, Below W.heap.size W w1 → Calls Try.prog 17 #[ndV x] w1 (IntB (d : Nat) w1)) := Lib.hid (fun w1 hb => by have := rdepth_any x k w1 (HN.out w1 hb); rw [hd] at this; exact this)
   clear hd
   clear hs HN h4
   go_wp2_with fail
   refine wp_region_held_drew (S := fun w' => Below W.heap.size W w') (by kernel_rfl) H1.out.drew (fun hHeld => ?_)
   first
     | (refine wpAnyH_take (i := 0) (v := ?_) rfl (by kernel_rfl) (by kernel_rfl) (by kernel_rfl) (fun _ _ _ h => h) (Or.inl ⟨by rfl, ?_⟩) (by assumption) ?_; rotate_left; · (intro w' hSw; refine exec_load_nd (x := .tmp 1) (b := B0) (off := 0) (l := x) ?_ ?_ (R0.out w' hSw) <;> rfl))
     | (refine wpAnyH_take (i := 0) rfl (by kernel_rfl) (by kernel_rfl) (by kernel_rfl) (fun _ _ _ h => h) (Or.inr ⟨by rfl, rfl⟩) (by assumption) ?_)
   simp only [Act.put, List.setIfInBounds_toArray, List.set_cons_zero, List.set_cons_succ, List.getElem_toArray, List.getElem_cons_zero]
   first
     | (refine wpAnyH_take (i := 2) (v := ?_) rfl (by kernel_rfl) (by kernel_rfl) (by kernel_rfl) (fun _ _ _ h => h) (Or.inl ⟨by rfl, ?_⟩) (by assumption) ?_; rotate_left; · (intro w' hSw; refine exec_load_nd (x := .tmp 1) (b := B0) (off := 0) (l := x) ?_ ?_ (R0.out w' hSw) <;> rfl))
     | (refine wpAnyH_take (i := 2) rfl (by kernel_rfl) (by kernel_rfl) (by kernel_rfl) (fun _ _ _ h => h) (Or.inr ⟨by rfl, rfl⟩) (by assumption) ?_)
   simp only [Act.put, List.setIfInBounds_toArray, List.set_cons_zero, List.set_cons_succ, List.getElem_toArray, List.getElem_cons_succ, List.getElem_cons_zero]
   refine wpAnyH_ready (rs := [1]) (by kernel_rfl) (by simp) ?_
   refine AllReadyH.cons rfl (fun K hK => ?_) AllReadyH.nil
   go_simp
   refine (HZ.out _ hHeld).mono ?_
   rintro e w2 ⟨rfl, hb⟩
   have hHeld : Below W.heap.size W w2 := hHeld.trans (hb.mono hHeld.size)
   refine hK.out _ _ hHeld (fun hHeld => ?_)
   clear hK K hb
   try simp only [Act.put, List.setIfInBounds_toArray, List.set_cons_zero, List.set_cons_succ, List.getElem_toArray, List.getElem_cons_succ, List.getElem_cons_zero]
   refine wpAnyH_ready (rs := [3]) (by kernel_rfl) (by simp) ?_
   refine AllReadyH.cons rfl (fun K hK => ?_) AllReadyH.nil
   go_simp
   refine (HY.out _ hHeld).mono ?_
   rintro e w3 ⟨rfl, hb⟩
   have hHeld : Below W.heap.size W w3 := hHeld.trans (hb.mono hHeld.size)
   refine hK.out _ _ hHeld (fun hHeld => ?_)
   clear hK K hb
   try simp only [Act.put, List.setIfInBounds_toArray, List.set_cons_zero, List.set_cons_succ, List.getElem_toArray, List.getElem_cons_succ, List.getElem_cons_zero]
   first
     | (refine wpAnyH_take (i := 4) (v := ?_) rfl (by kernel_rfl) (by kernel_rfl) (by kernel_rfl) (fun _ _ _ h => h) (Or.inl ⟨by rfl, ?_⟩) (by assumption) ?_; rotate_left; · (intro w' hSw; go_simp; try rfl))
     | (refine wpAnyH_take (i := 4) rfl (by kernel_rfl) (by kernel_rfl) (by kernel_rfl) (fun _ _ _ h => h) (Or.inr ⟨by rfl, rfl⟩) (by assumption) ?_)
   simp only [Act.put, List.setIfInBounds_toArray, List.set_cons_zero, List.set_cons_succ, List.getElem_toArray, List.getElem_cons_succ, List.getElem_cons_zero]
   refine wpAnyH_done (by kernel_rfl) ?_ _
   have H3 := Lib.hid hHeld
   go_wp2_with (first | (refine wpList_load_nd rfl _ rfl B0 0 rfl x (R0.out w3 H3.out) ?_))
   refine (HS.out w3 H3.out).mono ?_
   rintro e w4 ⟨rfl, hb⟩
   have H4 := Lib.hid (H3.out.trans (hb.mono H3.out.size))
   clear hb
   go_wp2_with fail
   refine wp_region_held_drew (S := fun w' => Below W.heap.size W w') (by kernel_rfl) H4.out.drew (fun hHeld => ?_)
   first
     | (refine wpAnyH_take (i := 0) (v := ?_) rfl (by kernel_rfl) (by kernel_rfl) (by kernel_rfl) (fun _ _ _ h => h) (Or.inl ⟨by rfl, ?_⟩) (by assumption) ?_; rotate_left; · (intro w' hSw; go_simp; try rfl))
     | (refine wpAnyH_take (i := 0) rfl (by kernel_rfl) (by kernel_rfl) (by kernel_rfl) (fun _ _ _ h => h) (Or.inr ⟨by rfl, rfl⟩) (by assumption) ?_)
   simp only [Act.put, List.setIfInBounds_toArray, List.set_cons_zero, List.set_cons_succ, List.getElem_toArray, List.getElem_cons_zero]
   first
     | (refine wpAnyH_take (i := 1) (v := ?_) rfl (by kernel_rfl) (by kernel_rfl) (by kernel_rfl) (fun _ _ _ h => h) (Or.inl ⟨by rfl, ?_⟩) (by assumption) ?_; rotate_left; · (intro w' hSw; go_simp; try rfl))
     | (refine wpAnyH_take (i := 1) rfl (by kernel_rfl) (by kernel_rfl) (by kernel_rfl) (fun _ _ _ h => h) (Or.inr ⟨by rfl, rfl⟩) (by assumption) ?_)
   simp only [Act.put, List.setIfInBounds_toArray, List.set_cons_zero, List.set_cons_succ, List.getElem_toArray, List.getElem_cons_succ, List.getElem_cons_zero]
   first
     | (refine wpAnyH_take (i := 2) (v := ?_) rfl (by kernel_rfl) (by kernel_rfl) (by kernel_rfl) (fun _ _ _ h => h) (Or.inl ⟨by rfl, ?_⟩) (by assumption) ?_; rotate_left; · (intro w' hSw; go_simp; try rfl))
     | (refine wpAnyH_take (i := 2) rfl (by kernel_rfl) (by kernel_rfl) (by kernel_rfl) (fun _ _ _ h => h) (Or.inr ⟨by rfl, rfl⟩) (by assumption) ?_)
   simp only [Act.put, List.setIfInBounds_toArray, List.set_cons_zero, List.set_cons_succ, List.getElem_toArray, List.getElem_cons_succ, List.getElem_cons_zero]
   first
     | (refine wpAnyH_take (i := 3) (v := ?_) rfl (by kernel_rfl) (by kernel_rfl) (by kernel_rfl) (fun _ _ _ h => h) (Or.inl ⟨by rfl, ?_⟩) (by assumption) ?_; rotate_left; · (intro w' hSw; refine exec_load_nd (x := .tmp 1) (b := B0) (off := 0) (l := x) ?_ ?_ (R0.out w' hSw) <;> rfl))
     | (refine wpAnyH_take (i := 3) rfl (by kernel_rfl) (by kernel_rfl) (by kernel_rfl) (fun _ _ _ h => h) (Or.inr ⟨by rfl, rfl⟩) (by assumption) ?_)
   simp only [Act.put, List.setIfInBounds_toArray, List.set_cons_zero, List.set_cons_succ, List.getElem_toArray, List.getElem_cons_succ, List.getElem_cons_zero]
   first
     | (refine wpAnyH_take (i := 5) (v := ?_) rfl (by kernel_rfl) (by kernel_rfl) (by kernel_rfl) (fun _ _ _ h => h) (Or.inl ⟨by rfl, ?_⟩) (by assumption) ?_; rotate_left; · (intro w' hSw; refine exec_load_nd (x := .tmp 1) (b := B0) (off := 0) (l := x) ?_ ?_ (R0.out w' hSw) <;> rfl))
     | (refine wpAnyH_take (i := 5) rfl (by kernel_rfl) (by kernel_rfl) (by kernel_rfl) (fun _ _ _ h => h) (Or.inr ⟨by rfl, rfl⟩) (by assumption) ?_)
   simp only [Act.put, List.setIfInBounds_toArray, List.set_cons_zero, List.set_cons_succ, List.getElem_toArray, List.getElem_cons_succ, List.getElem_cons_zero]
   refine wpAnyH_ready (rs := [4]) (by kernel_rfl) (by simp) ?_
   refine AllReadyH.cons rfl (fun K hK => ?_) AllReadyH.nil
   go_simp
   refine (HD.out _ hHeld).mono ?_
   rintro e w5 ⟨rfl, hb⟩
   have hHeld : Below W.heap.size W w5 := hHeld.trans (hb.mono hHeld.size)
   refine hK.out _ _ hHeld (fun hHeld => ?_)
   clear hK K hb
   try simp only [Act.put, List.setIfInBounds_toArray, List.set_cons_zero, List.set_cons_succ, List.getElem_toArray, List.getElem_cons_succ, List.getElem_cons_zero]
   refine wpAnyH_ready (rs := [6]) (by kernel_rfl) (by simp) ?_
   refine AllReadyH.cons rfl (fun K hK => ?_) AllReadyH.nil
   go_simp
   refine (HE.out _ hHeld).mono ?_
   rintro e w6 ⟨rfl, hb⟩
   have hHeld : Below W.heap.size W w6 := hHeld.trans (hb.mono hHeld.size)
   refine hK.out _ _ hHeld (fun hHeld => ?_)
   clear hK K hb
   try simp only [Act.put, List.setIfInBounds_toArray, List.set_cons_zero, List.set_cons_succ, List.getElem_toArray, List.getElem_cons_succ, List.getElem_cons_zero]
   first
     | (refine wpAnyH_take (i := 7) (v := ?_) rfl (by kernel_rfl) (by kernel_rfl) (by kernel_rfl) (fun _ _ _ h => h) (Or.inl ⟨by rfl, ?_⟩) (by assumption) ?_; rotate_left; · (intro w' hSw; go_simp; try rfl))
     | (refine wpAnyH_take (i := 7) rfl (by kernel_rfl) (by kernel_rfl) (by kernel_rfl) (fun _ _ _ h => h) (Or.inr ⟨by rfl, rfl⟩) (by assumption) ?_)
   simp only [Act.put, List.setIfInBounds_toArray, List.set_cons_zero, List.set_cons_succ, List.getElem_toArray, List.getElem_cons_succ, List.getElem_cons_zero]
   first
     | (refine wpAnyH_take (i := 8) (v := ?_) rfl (by kernel_rfl) (by kernel_rfl) (by kernel_rfl) (fun _ _ _ h => h) (Or.inl ⟨by rfl, ?_⟩) (by assumption) ?_; rotate_left; · (intro w' hSw; go_simp; try rfl))
     | (refine wpAnyH_take (i := 8) rfl (by kernel_rfl) (by kernel_rfl) (by kernel_rfl) (fun _ _ _ h => h) (Or.inr ⟨by rfl, rfl⟩) (by assumption) ?_)
   simp only [Act.put, List.setIfInBounds_toArray, List.set_cons_zero, List.set_cons_succ, List.getElem_toArray, List.getElem_cons_succ, List.getElem_cons_zero]
   first
     | (refine wpAnyH_take (i := 9) (v := ?_) rfl (by kernel_rfl) (by kernel_rfl) (by kernel_rfl) (fun _ _ _ h => h) (Or.inl ⟨by rfl, ?_⟩) (by assumption) ?_; rotate_left; · (intro w' hSw; go_simp; try rfl))
     | (refine wpAnyH_take (i := 9) rfl (by kernel_rfl) (by kernel_rfl) (by kernel_rfl) (fun _ _ _ h => h) (Or.inr ⟨by rfl, rfl⟩) (by assumption) ?_)
   simp only [Act.put, List.setIfInBounds_toArray, List.set_cons_zero, List.set_cons_succ, List.getElem_toArray, List.getElem_cons_succ, List.getElem_cons_zero]
   refine wpAnyH_done (by kernel_rfl) ?_ _
   go_wp2_with fail
   go_ret
   exact ⟨by simp, HB.out.trans (hHeld.mono HB.out.size)⟩
 · go_enter Try.func4, Try.ntmps4
   go_upto_region 1 with (refine wpList_box_nd rfl _ rfl x rfl ?_)
   generalize hg : w.alloc _ = W
   have HB : Hid (Below w.heap.size w W) := Lib.hid (by rw [← hg]; exact below_alloc _ _)
   have hr : W.heap[w.heap.size]? = some (.cells (ndC x).toArray 25) := by rw [← hg]; exact heap_alloc_new _ _
   have hlt := (Array.getElem?_eq_some_iff.1 hr).1
   have R0 := Lib.hid (fun w1 (hb : Below W.heap.size W w1) => cells0 ((hb.block _ hlt).trans hr))
   have HN := Lib.hid (fun w1 (hb : Below W.heap.size W w1) => below_nd hb (below_nd HB.out hn))
   clear hg hr hlt hn
   obtain ⟨B0, hB0⟩ : ∃ B0, w.heap.size = B0 := ⟨_, rfl⟩
   rw [hB0] at R0 ⊢
   go_wp2_with fail
   refine (awake_any W).mono ?_
   rintro e w1 ⟨rfl, hb⟩
   have H1 := Lib.hid hb
   clear hb
   obtain ⟨s, hs⟩ : ∃ s, min 4001 (k.size + 1) = s := ⟨_, rfl⟩
   have HZ : Hid (∀ w1, Below W.heap.size W w1 → Calls Try.prog 14 #[ndV x] w1 (IntB (s : Nat) w1)) := Lib.hid (fun w1 hb => by have := psize_any x k w1 (HN.out w1 hb); rw [hs] at this; exact this)
   have HY : Hid (∀ w1, Below W.heap.size W w1 → Calls Try.prog 15 #[ndV x] w1 (IntB (s : Nat) w1)) := Lib.hid (fun w1 hb => by have := rsize_any x k w1 (HN.out w1 hb); rw [hs] at this; exact this)
   have HS : Hid (∀ w1, Below W.heap.size W w1 → Calls Try.prog 11 #[ndV x] w1 (BoolB false w1)) := Lib.hid (fun w1 hb => by have := small_any x k w1 (HN.out w1 hb); rw [decide_eq_false h4] at this; exact this)
   clear hs HN h4
   go_wp2_with fail
   refine wp_region_held_drew (S := fun w' => Below W.heap.size W w') (by kernel_rfl) H1.out.drew (fun hHeld => ?_)
   first
     | (refine wpAnyH_take (i := 0) (v := ?_) rfl (by kernel_rfl) (by kernel_rfl) (by kernel_rfl) (fun _ _ _ h => h) (Or.inl ⟨by rfl, ?_⟩) (by assumption) ?_; rotate_left; · (intro w' hSw; refine exec_load_nd (x := .tmp 1) (b := B0) (off := 0) (l := x) ?_ ?_ (R0.out w' hSw) <;> rfl))
     | (refine wpAnyH_take (i := 0) rfl (by kernel_rfl) (by kernel_rfl) (by kernel_rfl) (fun _ _ _ h => h) (Or.inr ⟨by rfl, rfl⟩) (by assumption) ?_)
   simp only [Act.put, List.setIfInBounds_toArray, List.set_cons_zero, List.set_cons_succ, List.getElem_toArray, List.getElem_cons_zero]
   first
     | (refine wpAnyH_take (i := 2) (v := ?_) rfl (by kernel_rfl) (by kernel_rfl) (by kernel_rfl) (fun _ _ _ h => h) (Or.inl ⟨by rfl, ?_⟩) (by assumption) ?_; rotate_left; · (intro w' hSw; refine exec_load_nd (x := .tmp 1) (b := B0) (off := 0) (l := x) ?_ ?_ (R0.out w' hSw) <;> rfl))
     | (refine wpAnyH_take (i := 2) rfl (by kernel_rfl) (by kernel_rfl) (by kernel_rfl) (fun _ _ _ h => h) (Or.inr ⟨by rfl, rfl⟩) (by assumption) ?_)
   simp only [Act.put, List.setIfInBounds_toArray, List.set_cons_zero, List.set_cons_succ, List.getElem_toArray, List.getElem_cons_succ, List.getElem_cons_zero]
   refine wpAnyH_ready (rs := [1]) (by kernel_rfl) (by simp) ?_
   refine AllReadyH.cons rfl (fun K hK => ?_) AllReadyH.nil
   go_simp
   refine (HZ.out _ hHeld).mono ?_
   rintro e w2 ⟨rfl, hb⟩
   have hHeld : Below W.heap.size W w2 := hHeld.trans (hb.mono hHeld.size)
   refine hK.out _ _ hHeld (fun hHeld => ?_)
   clear hK K hb
   try simp only [Act.put, List.setIfInBounds_toArray, List.set_cons_zero, List.set_cons_succ, List.getElem_toArray, List.getElem_cons_succ, List.getElem_cons_zero]
   refine wpAnyH_ready (rs := [3]) (by kernel_rfl) (by simp) ?_
   refine AllReadyH.cons rfl (fun K hK => ?_) AllReadyH.nil
   go_simp
   refine (HY.out _ hHeld).mono ?_
   rintro e w3 ⟨rfl, hb⟩
   have hHeld : Below W.heap.size W w3 := hHeld.trans (hb.mono hHeld.size)
   refine hK.out _ _ hHeld (fun hHeld => ?_)
   clear hK K hb
   try simp only [Act.put, List.setIfInBounds_toArray, List.set_cons_zero, List.set_cons_succ, List.getElem_toArray, List.getElem_cons_succ, List.getElem_cons_zero]
   first
     | (refine wpAnyH_take (i := 4) (v := ?_) rfl (by kernel_rfl) (by kernel_rfl) (by kernel_rfl) (fun _ _ _ h => h) (Or.inl ⟨by rfl, ?_⟩) (by assumption) ?_; rotate_left; · (intro w' hSw; go_simp; try rfl))
     | (refine wpAnyH_take (i := 4) rfl (by kernel_rfl) (by kernel_rfl) (by kernel_rfl) (fun _ _ _ h => h) (Or.inr ⟨by rfl, rfl⟩) (by assumption) ?_)
   simp only [Act.put, List.setIfInBounds_toArray, List.set_cons_zero, List.set_cons_succ, List.getElem_toArray, List.getElem_cons_succ, List.getElem_cons_zero]
   refine wpAnyH_done (by kernel_rfl) ?_ _
   have H3 := Lib.hid hHeld
   go_wp2_with (first | (refine wpList_load_nd rfl _ rfl B0 0 rfl x (R0.out w3 H3.out) ?_))
   refine (HS.out w3 H3.out).mono ?_
   rintro e w4 ⟨rfl, hb⟩
   have H4 := Lib.hid (H3.out.trans (hb.mono H3.out.size))
   clear hb
   go_wp2_with fail
   refine wp_region_held_drew (S := fun w' => Below W.heap.size W w') (by kernel_rfl) H4.out.drew (fun hHeld => ?_)
   first
     | (refine wpAnyH_take (i := 0) (v := ?_) rfl (by kernel_rfl) (by kernel_rfl) (by kernel_rfl) (fun _ _ _ h => h) (Or.inl ⟨by rfl, ?_⟩) (by assumption) ?_; rotate_left; · (intro w' hSw; go_simp; try rfl))
     | (refine wpAnyH_take (i := 0) rfl (by kernel_rfl) (by kernel_rfl) (by kernel_rfl) (fun _ _ _ h => h) (Or.inr ⟨by rfl, rfl⟩) (by assumption) ?_)
   simp only [Act.put, List.setIfInBounds_toArray, List.set_cons_zero, List.set_cons_succ, List.getElem_toArray, List.getElem_cons_zero]
   first
     | (refine wpAnyH_take (i := 1) (v := ?_) rfl (by kernel_rfl) (by kernel_rfl) (by kernel_rfl) (fun _ _ _ h => h) (Or.inl ⟨by rfl, ?_⟩) (by assumption) ?_; rotate_left; · (intro w' hSw; go_simp; try rfl))
     | (refine wpAnyH_take (i := 1) rfl (by kernel_rfl) (by kernel_rfl) (by kernel_rfl) (fun _ _ _ h => h) (Or.inr ⟨by rfl, rfl⟩) (by assumption) ?_)
   simp only [Act.put, List.setIfInBounds_toArray, List.set_cons_zero, List.set_cons_succ, List.getElem_toArray, List.getElem_cons_succ, List.getElem_cons_zero]
   first
     | (refine wpAnyH_take (i := 2) (v := ?_) rfl (by kernel_rfl) (by kernel_rfl) (by kernel_rfl) (fun _ _ _ h => h) (Or.inl ⟨by rfl, ?_⟩) (by assumption) ?_; rotate_left; · (intro w' hSw; go_simp; try rfl))
     | (refine wpAnyH_take (i := 2) rfl (by kernel_rfl) (by kernel_rfl) (by kernel_rfl) (fun _ _ _ h => h) (Or.inr ⟨by rfl, rfl⟩) (by assumption) ?_)
   simp only [Act.put, List.setIfInBounds_toArray, List.set_cons_zero, List.set_cons_succ, List.getElem_toArray, List.getElem_cons_succ, List.getElem_cons_zero]
   first
     | (refine wpAnyH_take (i := 3) (v := ?_) rfl (by kernel_rfl) (by kernel_rfl) (by kernel_rfl) (fun _ _ _ h => h) (Or.inl ⟨by rfl, ?_⟩) (by assumption) ?_; rotate_left; · (intro w' hSw; refine exec_load_nd (x := .tmp 1) (b := B0) (off := 0) (l := x) ?_ ?_ (R0.out w' hSw) <;> rfl))
     | (refine wpAnyH_take (i := 3) rfl (by kernel_rfl) (by kernel_rfl) (by kernel_rfl) (fun _ _ _ h => h) (Or.inr ⟨by rfl, rfl⟩) (by assumption) ?_)
   simp only [Act.put, List.setIfInBounds_toArray, List.set_cons_zero, List.set_cons_succ, List.getElem_toArray, List.getElem_cons_succ, List.getElem_cons_zero]
   first
     | (refine wpAnyH_take (i := 4) (v := ?_) rfl (by kernel_rfl) (by kernel_rfl) (by kernel_rfl) (fun _ _ _ h => h) (Or.inl ⟨by rfl, ?_⟩) (by assumption) ?_; rotate_left; · (intro w' hSw; go_simp; try rfl))
     | (refine wpAnyH_take (i := 4) rfl (by kernel_rfl) (by kernel_rfl) (by kernel_rfl) (fun _ _ _ h => h) (Or.inr ⟨by rfl, rfl⟩) (by assumption) ?_)
   simp only [Act.put, List.setIfInBounds_toArray, List.set_cons_zero, List.set_cons_succ, List.getElem_toArray, List.getElem_cons_succ, List.getElem_cons_zero]
   first
     | (refine wpAnyH_take (i := 5) (v := ?_) rfl (by kernel_rfl) (by kernel_rfl) (by kernel_rfl) (fun _ _ _ h => h) (Or.inl ⟨by rfl, ?_⟩) (by assumption) ?_; rotate_left; · (intro w' hSw; go_simp; try rfl))
     | (refine wpAnyH_take (i := 5) rfl (by kernel_rfl) (by kernel_rfl) (by kernel_rfl) (fun _ _ _ h => h) (Or.inr ⟨by rfl, rfl⟩) (by assumption) ?_)
   simp only [Act.put, List.setIfInBounds_toArray, List.set_cons_zero, List.set_cons_succ, List.getElem_toArray, List.getElem_cons_succ, List.getElem_cons_zero]
   first
     | (refine wpAnyH_take (i := 6) (v := ?_) rfl (by kernel_rfl) (by kernel_rfl) (by kernel_rfl) (fun _ _ _ h => h) (Or.inl ⟨by rfl, ?_⟩) (by assumption) ?_; rotate_left; · (intro w' hSw; go_simp; try rfl))
     | (refine wpAnyH_take (i := 6) rfl (by kernel_rfl) (by kernel_rfl) (by kernel_rfl) (fun _ _ _ h => h) (Or.inr ⟨by rfl, rfl⟩) (by assumption) ?_)
   simp only [Act.put, List.setIfInBounds_toArray, List.set_cons_zero, List.set_cons_succ, List.getElem_toArray, List.getElem_cons_succ, List.getElem_cons_zero]
   first
     | (refine wpAnyH_take (i := 7) (v := ?_) rfl (by kernel_rfl) (by kernel_rfl) (by kernel_rfl) (fun _ _ _ h => h) (Or.inl ⟨by rfl, ?_⟩) (by assumption) ?_; rotate_left; · (intro w' hSw; go_simp; try rfl))
     | (refine wpAnyH_take (i := 7) rfl (by kernel_rfl) (by kernel_rfl) (by kernel_rfl) (fun _ _ _ h => h) (Or.inr ⟨by rfl, rfl⟩) (by assumption) ?_)
   simp only [Act.put, List.setIfInBounds_toArray, List.set_cons_zero, List.set_cons_succ, List.getElem_toArray, List.getElem_cons_succ, List.getElem_cons_zero]
   first
     | (refine wpAnyH_take (i := 8) (v := ?_) rfl (by kernel_rfl) (by kernel_rfl) (by kernel_rfl) (fun _ _ _ h => h) (Or.inl ⟨by rfl, ?_⟩) (by assumption) ?_; rotate_left; · (intro w' hSw; go_simp; try rfl))
     | (refine wpAnyH_take (i := 8) rfl (by kernel_rfl) (by kernel_rfl) (by kernel_rfl) (fun _ _ _ h => h) (Or.inr ⟨by rfl, rfl⟩) (by assumption) ?_)
   simp only [Act.put, List.setIfInBounds_toArray, List.set_cons_zero, List.set_cons_succ, List.getElem_toArray, List.getElem_cons_succ, List.getElem_cons_zero]
   first
     | (refine wpAnyH_take (i := 9) (v := ?_) rfl (by kernel_rfl) (by kernel_rfl) (by kernel_rfl) (fun _ _ _ h => h) (Or.inl ⟨by rfl, ?_⟩) (by assumption) ?_; rotate_left; · (intro w' hSw; go_simp; try rfl))
     | (refine wpAnyH_take (i := 9) rfl (by kernel_rfl) (by kernel_rfl) (by kernel_rfl) (fun _ _ _ h => h) (Or.inr ⟨by rfl, rfl⟩) (by assumption) ?_)
   simp only [Act.put, List.setIfInBounds_toArray, List.set_cons_zero, List.set_cons_succ, List.getElem_toArray, List.getElem_cons_succ, List.getElem_cons_zero]
   refine wpAnyH_done (by kernel_rfl) ?_ _
   go_wp2_with fail
   go_ret
   exact ⟨rfl, HB.out.trans (hHeld.mono HB.out.size)⟩
end Go.Proofs.Ytlbdfcglpegabaa.trw
end
section
namespace Go.Proofs.Ytlbdfcglpegabaa.trw
open Go Go.RowKit Go.ChangeShapes Go.WideShapes trp
instance : Inhabited Lab := ⟨⟨0, 0, 0, .bool false, [], false, 0, 0, 0, ⟨#[]⟩, 0, 0, .bool false⟩⟩
instance : Inhabited F := ⟨.nil⟩
section
variable {H : Type} {enc : TypeId × Value → H} {W : World}
end
end Go.Proofs.Ytlbdfcglpegabaa.trw
end
