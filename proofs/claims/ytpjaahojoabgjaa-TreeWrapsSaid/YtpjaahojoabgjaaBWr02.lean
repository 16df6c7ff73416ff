/- Texts that TreeWrapsLaw leans on, merged: what the functions of the program answer. -/
import Derived.ChangeSame
import Derived.Deep.Cut
import Derived.Deep.SlicePairs
import Derived.IntWalk
import Derived.Laws.BytesArg
import Derived.Laws.CopyRow
import Derived.Laws.Rows
import Derived.Lib.Hide
import Derived.Lib.SmallJoins
import Derived.OwnWalk
import Derived.SizedLaws
import Derived.Test.YtpjaahojoabgjaaRows
import Derived.WalkKit
import Derived.Test.YtpjaahojoabgjaaBWr01
section
namespace Go.Proofs.Ytpjaahojoabgjaa.trw
open Go Go.RowKit trp
set_option maxRecDepth 100000 in
set_option maxHeartbeats 4000000 in
theorem wraps_law (x : Lab) (k : F) (kd : Int) (w : World) (hn : NdAt w (x, k)) (hk0 : I64 kd) : Calls Try.prog 6 #[ndV x, .int .i64 kd] w (BoolB true w) := by
 by_cases h4 : k.size + 1 ≤ 4000
 rotate_left
 · go_enter Try.func6, Try.ntmps6
   go_upto_region 1 with (refine wpList_box_nd rfl _ rfl x rfl ?_)
   generalize hg : w.alloc _ = W
   have HB : Hid (Below w.heap.size w W) := Lib.hid (by rw [← hg]; exact below_alloc _ _)
   have hr : W.heap[w.heap.size]? = some (.cells (ndC x).toArray 25) := by rw [← hg]; exact heap_alloc_new _ _
   have hlt := (Array.getElem?_eq_some_iff.1 hr).1
   have R0 := Lib.hid (fun w1 (hb : Below W.heap.size W w1) => cells0 ((hb.block _ hlt).trans hr))
   have HN := Lib.hid (fun w1 (hb : Below W.heap.size W w1) => below_nd hb (below_nd HB.out hn))
   clear hg hr hlt hn
   obtain ⟨B0, hB0⟩ : ∃ B0, w.heap.size = B0 := ⟨_, rfl⟩
   rw [hB0] at R0 ⊢
   go_wp2_with fail
   refine (awake_any W).mono ?_
   rintro e w1 ⟨rfl, hb⟩
   have H1 := Lib.hid hb
   clear hb
   have HS : Hid (∀ w1, Below W.heap.size W w1 → Calls Try.prog 12 #[ndV x] w1 (BoolB false w1)) := Lib.hid (fun w1 hb => by have := small_any x k w1 (HN.out w1 hb); rw [decide_eq_false h4] at this; exact this)
   clear HN h4
   go_wp2_with (first | (refine wpList_load_nd rfl _ rfl B0 0 rfl x (R0.out w1 H1.out) ?_))
   refine (HS.out w1 H1.out).mono ?_
   rintro e w2 ⟨rfl, hb⟩
   have H2 := Lib.hid (H1.out.trans (hb.mono H1.out.size))
   clear hb
   go_wp2_with fail
   go_ret
   exact ⟨rfl, HB.out.trans (H2.out.mono HB.out.size)⟩
 cases hc : checkP (x, k) with
 | false =>
   go_enter Try.func6, Try.ntmps6
   go_upto_region 1 with (refine wpList_box_nd rfl _ rfl x rfl ?_)
   generalize hg : w.alloc _ = W
   have HB : Hid (Below w.heap.size w W) := Lib.hid (by rw [← hg]; exact below_alloc _ _)
   have hr : W.heap[w.heap.size]? = some (.cells (ndC x).toArray 25) := by rw [← hg]; exact heap_alloc_new _ _
   have hlt := (Array.getElem?_eq_some_iff.1 hr).1
   have R0 := Lib.hid (fun w1 (hb : Below W.heap.size W w1) => cells0 ((hb.block _ hlt).trans hr))
   have HN := Lib.hid (fun w1 (hb : Below W.heap.size W w1) => below_nd hb (below_nd HB.out hn))
   clear hg hr hlt hn
   obtain ⟨B0, hB0⟩ : ∃ B0, w.heap.size = B0 := ⟨_, rfl⟩
   rw [hB0] at R0 ⊢
   go_wp2_with fail
   refine (awake_any W).mono ?_
   rintro e w1 ⟨rfl, hb⟩
   have H1 := Lib.hid hb
   clear hb
   have HS : Hid (∀ w1, Below W.heap.size W w1 → Calls Try.prog 12 #[ndV x] w1 (BoolB true w1)) := Lib.hid (fun w1 hb => by have := small_any x k w1 (HN.out w1 hb); rw [decide_eq_true h4] at this; exact this)
   have HC : Hid (∀ w1, Below W.heap.size W w1 → Calls Try.prog 23 #[ndV x] w1 (BoolB false w1)) := Lib.hid (fun w1 hb => by have := pcheck_any x k w1 (HN.out w1 hb); rw [hc] at this; exact this)
   clear HN h4 hc
   go_wp2_with (first | (refine wpList_load_nd rfl _ rfl B0 0 rfl x (R0.out w1 H1.out) ?_))
   refine (HS.out w1 H1.out).mono ?_
   rintro e w2 ⟨rfl, hb⟩
   have H2 := Lib.hid (H1.out.trans (hb.mono H1.out.size))
   clear hb
   have f0 : w2.cell? ⟨B0, 0, none⟩ = some (.int .i64 x.kind) := by have := R0.out w2 H2.out 0 _ rfl; rwa [Nat.zero_add] at this
   have f1 : w2.cell? ⟨B0, 1, none⟩ = some (.int .i64 x.at_) := by have := R0.out w2 H2.out 1 _ rfl; rwa [Nat.zero_add] at this
   have f2 : w2.cell? ⟨B0, 2, none⟩ = some (.int .i64 x.c) := by have := R0.out w2 H2.out 2 _ rfl; rwa [Nat.zero_add] at this
   have f3 : w2.cell? ⟨B0, 3, none⟩ = some (x.sv) := by have := R0.out w2 H2.out 3 _ rfl; rwa [Nat.zero_add] at this
   have f4 : w2.cell? ⟨B0, 4, none⟩ = some (.bool x.neg) := by have := R0.out w2 H2.out 4 _ rfl; rwa [Nat.zero_add] at this
   have f5 : w2.cell? ⟨B0, 5, none⟩ = some (.int .i64 x.n) := by have := R0.out w2 H2.out 5 _ rfl; rwa [Nat.zero_add] at this
   have f6 : w2.cell? ⟨B0, 6, none⟩ = some (.int .i64 x.m) := by have := R0.out w2 H2.out 6 _ rfl; rwa [Nat.zero_add] at this
   have f7 : w2.cell? ⟨B0, 7, none⟩ = some (.int .i64 x.mode) := by have := R0.out w2 H2.out 7 _ rfl; rwa [Nat.zero_add] at this
   have f8 : w2.cell? ⟨B0, 8, none⟩ = some (.string x.name) := by have := R0.out w2 H2.out 8 _ rfl; rwa [Nat.zero_add] at this
   have f9 : w2.cell? ⟨B0, 9, none⟩ = some (.int .i64 x.on) := by have := R0.out w2 H2.out 9 _ rfl; rwa [Nat.zero_add] at this
   have f10 : w2.cell? ⟨B0, 10, none⟩ = some (.int .i64 x.off) := by have := R0.out w2 H2.out 10 _ rfl; rwa [Nat.zero_add] at this
   have f11 : w2.cell? ⟨B0, 11, none⟩ = some (x.kv) := by have := R0.out w2 H2.out 11 _ rfl; rwa [Nat.zero_add] at this
   go_wp2_with fail
   refine (HC.out w2 H2.out).mono ?_
   rintro e w3 ⟨rfl, hb⟩
   have H3 := Lib.hid (H2.out.trans (hb.mono H2.out.size))
   clear hb
   clear f0 f1 f2 f3 f4 f5 f6 f7 f8 f9 f10 f11
   go_wp2_with fail
   go_ret
   exact ⟨rfl, HB.out.trans (H3.out.mono HB.out.size)⟩
 | true =>
   go_enter Try.func6, Try.ntmps6
   go_upto_region 1 with (refine wpList_box_nd rfl _ rfl x rfl ?_)
   generalize hg : w.alloc _ = W
   have HB : Hid (Below w.heap.size w W) := Lib.hid (by rw [← hg]; exact below_alloc _ _)
   have hr : W.heap[w.heap.size]? = some (.cells (ndC x).toArray 25) := by rw [← hg]; exact heap_alloc_new _ _
   have hlt := (Array.getElem?_eq_some_iff.1 hr).1
   have R0 := Lib.hid (fun w1 (hb : Below W.heap.size W w1) => cells0 ((hb.block _ hlt).trans hr))
   have HN := Lib.hid (fun w1 (hb : Below W.heap.size W w1) => below_nd hb (below_nd HB.out hn))
   clear hg hr hlt hn
   obtain ⟨B0, hB0⟩ : ∃ B0, w.heap.size = B0 := ⟨_, rfl⟩
   rw [hB0] at R0 ⊢
   go_wp2_with fail
   refine (awake_any W).mono ?_
   rintro e w1 ⟨rfl, hb⟩
   have H1 := Lib.hid hb
   clear hb
   have HS : Hid (∀ w1, Below W.heap.size W w1 → Calls Try.prog 12 #[ndV x] w1 (BoolB true w1)) := Lib.hid (fun w1 hb => by have := small_any x k w1 (HN.out w1 hb); rw [decide_eq_true h4] at this; exact this)
   have HC : Hid (∀ w1, Below W.heap.size W w1 → Calls Try.prog 23 #[ndV x] w1 (BoolB true w1)) := Lib.hid (fun w1 hb => by have := pcheck_any x k w1 (HN.out w1 hb); rw [hc] at this; exact this)
   have HZ : Hid (∀ w1, Below W.heap.size W w1 → Calls Try.prog 10 #[ndV x] w1 (IntB (k.size + 1 : Nat) w1)) := Lib.hid (fun w1 hb => by have := psize_any x k w1 (HN.out w1 hb); rw [show min 4001 (k.size + 1) = k.size + 1 by omega] at this; exact this)
   have HD : Hid (∀ w1, Below W.heap.size W w1 → Calls Try.prog 13 #[ndV x] w1 (IntB (k.deep + 1 : Nat) w1)) := Lib.hid (fun w1 hb => by have := pdepth_any x k w1 (HN.out w1 hb) h4; rw [show min 301 (k.deep + 1) = k.deep + 1 by have := wr_deep hc; omega] at this; exact this)
   obtain ⟨s, hs⟩ : ∃ s, k.size + 1 = s := ⟨_, rfl⟩
   obtain ⟨d, hd⟩ : ∃ d, k.deep + 1 = d := ⟨_, rfl⟩
   rw [hs] at HZ
   rw [hd] at HD
   have HSs := Lib.hid hs
   have HDd := Lib.hid hd
   clear hs hd
   have H4x := Lib.hid h4
   have HCx := Lib.hid hc
   clear h4 hc
   go_wp2_with (first | (refine wpList_load_nd rfl _ rfl B0 0 rfl x (R0.out w1 H1.out) ?_))
   refine (HS.out w1 H1.out).mono ?_
   rintro e w2 ⟨rfl, hb⟩
   have H2 := Lib.hid (H1.out.trans (hb.mono H1.out.size))
   clear hb
   have f0 : w2.cell? ⟨B0, 0, none⟩ = some (.int .i64 x.kind) := by have := R0.out w2 H2.out 0 _ rfl; rwa [Nat.zero_add] at this
   have f1 : w2.cell? ⟨B0, 1, none⟩ = some (.int .i64 x.at_) := by have := R0.out w2 H2.out 1 _ rfl; rwa [Nat.zero_add] at this
   have f2 : w2.cell? ⟨B0, 2, none⟩ = some (.int .i64 x.c) := by have := R0.out w2 H2.out 2 _ rfl; rwa [Nat.zero_add] at this
   have f3 : w2.cell? ⟨B0, 3, none⟩ = some (x.sv) := by have := R0.out w2 H2.out 3 _ rfl; rwa [Nat.zero_add] at this
   have f4 : w2.cell? ⟨B0, 4, none⟩ = some (.bool x.neg) := by have := R0.out w2 H2.out 4 _ rfl; rwa [Nat.zero_add] at this
   have f5 : w2.cell? ⟨B0, 5, none⟩ = some (.int .i64 x.n) := by have := R0.out w2 H2.out 5 _ rfl; rwa [Nat.zero_add] at this
   have f6 : w2.cell? ⟨B0, 6, none⟩ = some (.int .i64 x.m) := by have := R0.out w2 H2.out 6 _ rfl; rwa [Nat.zero_add] at this
   have f7 : w2.cell? ⟨B0, 7, none⟩ = some (.int .i64 x.mode) := by have := R0.out w2 H2.out 7 _ rfl; rwa [Nat.zero_add] at this
   have f8 : w2.cell? ⟨B0, 8, none⟩ = some (.string x.name) := by have := R0.out w2 H2.out 8 _ rfl; rwa [Nat.zero_add] at this
   have f9 : w2.cell? ⟨B0, 9, none⟩ = some (.int .i64 x.on) := by have := R0.out w2 H2.out 9 _ rfl; rwa [Nat.zero_add] at this
   have f10 : w2.cell? ⟨B0, 10, none⟩ = some (.int .i64 x.off) := by have := R0.out w2 H2.out 10 _ rfl; rwa [Nat.zero_add] at this
   have f11 : w2.cell? ⟨B0, 11, none⟩ = some (x.kv) := by have := R0.out w2 H2.out 11 _ rfl; rwa [Nat.zero_add] at this
   go_wp2_with fail
   refine (HC.out w2 H2.out).mono ?_
   rintro e w3 ⟨rfl, hb⟩
   have H3 := Lib.hid (H2.out.trans (hb.mono H2.out.size))
   clear hb
   clear f0 f1 f2 f3 f4 f5 f6 f7 f8 f9 f10 f11
   have f0 : w3.cell? ⟨B0, 0, none⟩ = some (.int .i64 x.kind) := by have := R0.out w3 H3.out 0 _ rfl; rwa [Nat.zero_add] at this
   have f1 : w3.cell? ⟨B0, 1, none⟩ = some (.int .i64 x.at_) := by have := R0.out w3 H3.out 1 _ rfl; rwa [Nat.zero_add] at this
   have f2 : w3.cell? ⟨B0, 2, none⟩ = some (.int .i64 x.c) := by have := R0.out w3 H3.out 2 _ rfl; rwa [Nat.zero_add] at this
   have f3 : w3.cell? ⟨B0, 3, none⟩ = some (x.sv) := by have := R0.out w3 H3.out 3 _ rfl; rwa [Nat.zero_add] at this
   have f4 : w3.cell? ⟨B0, 4, none⟩ = some (.bool x.neg) := by have := R0.out w3 H3.out 4 _ rfl; rwa [Nat.zero_add] at this
   have f5 : w3.cell? ⟨B0, 5, none⟩ = some (.int .i64 x.n) := by have := R0.out w3 H3.out 5 _ rfl; rwa [Nat.zero_add] at this
   have f6 : w3.cell? ⟨B0, 6, none⟩ = some (.int .i64 x.m) := by have := R0.out w3 H3.out 6 _ rfl; rwa [Nat.zero_add] at this
   have f7 : w3.cell? ⟨B0, 7, none⟩ = some (.int .i64 x.mode) := by have := R0.out w3 H3.out 7 _ rfl; rwa [Nat.zero_add] at this
   have f8 : w3.cell? ⟨B0, 8, none⟩ = some (.string x.name) := by have := R0.out w3 H3.out 8 _ rfl; rwa [Nat.zero_add] at this
   have f9 : w3.cell? ⟨B0, 9, none⟩ = some (.int .i64 x.on) := by have := R0.out w3 H3.out 9 _ rfl; rwa [Nat.zero_add] at this
   have f10 : w3.cell? ⟨B0, 10, none⟩ = some (.int .i64 x.off) := by have := R0.out w3 H3.out 10 _ rfl; rwa [Nat.zero_add] at this
   have f11 : w3.cell? ⟨B0, 11, none⟩ = some (x.kv) := by have := R0.out w3 H3.out 11 _ rfl; rwa [Nat.zero_add] at this
   go_wp2_with fail
   refine (HZ.out w3 H3.out).mono ?_
   rintro e w4 ⟨rfl, hb⟩
   have H4 := Lib.hid (H3.out.trans (hb.mono H3.out.size))
   clear hb
   clear f0 f1 f2 f3 f4 f5 f6 f7 f8 f9 f10 f11
   by_cases hz : 3990 < s
   · go_wp2_with fail
     go_ret
     exact ⟨rfl, HB.out.trans (H4.out.mono HB.out.size)⟩
   have f0 : w4.cell? ⟨B0, 0, none⟩ = some (.int .i64 x.kind) := by have := R0.out w4 H4.out 0 _ rfl; rwa [Nat.zero_add] at this
   have f1 : w4.cell? ⟨B0, 1, none⟩ = some (.int .i64 x.at_) := by have := R0.out w4 H4.out 1 _ rfl; rwa [Nat.zero_add] at this
   have f2 : w4.cell? ⟨B0, 2, none⟩ = some (.int .i64 x.c) := by have := R0.out w4 H4.out 2 _ rfl; rwa [Nat.zero_add] at this
   have f3 : w4.cell? ⟨B0, 3, none⟩ = some (x.sv) := by have := R0.out w4 H4.out 3 _ rfl; rwa [Nat.zero_add] at this
   have f4 : w4.cell? ⟨B0, 4, none⟩ = some (.bool x.neg) := by have := R0.out w4 H4.out 4 _ rfl; rwa [Nat.zero_add] at this
   have f5 : w4.cell? ⟨B0, 5, none⟩ = some (.int .i64 x.n) := by have := R0.out w4 H4.out 5 _ rfl; rwa [Nat.zero_add] at this
   have f6 : w4.cell? ⟨B0, 6, none⟩ = some (.int .i64 x.m) := by have := R0.out w4 H4.out 6 _ rfl; rwa [Nat.zero_add] at this
   have f7 : w4.cell? ⟨B0, 7, none⟩ = some (.int .i64 x.mode) := by have := R0.out w4 H4.out 7 _ rfl; rwa [Nat.zero_add] at this
   have f8 : w4.cell? ⟨B0, 8, none⟩ = some (.string x.name) := by have := R0.out w4 H4.out 8 _ rfl; rwa [Nat.zero_add] at this
   have f9 : w4.cell? ⟨B0, 9, none⟩ = some (.int .i64 x.on) := by have := R0.out w4 H4.out 9 _ rfl; rwa [Nat.zero_add] at this
   have f10 : w4.cell? ⟨B0, 10, none⟩ = some (.int .i64 x.off) := by have := R0.out w4 H4.out 10 _ rfl; rwa [Nat.zero_add] at this
   have f11 : w4.cell? ⟨B0, 11, none⟩ = some (x.kv) := by have := R0.out w4 H4.out 11 _ rfl; rwa [Nat.zero_add] at this
   go_wp2_with fail
   refine (HD.out w4 H4.out).mono ?_
   rintro e w5 ⟨rfl, hb⟩
   have H5 := Lib.hid (H4.out.trans (hb.mono H4.out.size))
   clear hb
   clear f0 f1 f2 f3 f4 f5 f6 f7 f8 f9 f10 f11
   by_cases hz2 : 290 < d
   · go_wp2_with fail
     go_ret
     exact ⟨rfl, HB.out.trans (H5.out.mono HB.out.size)⟩
   go_upto_if 34 with (fail)
   go_cut [1] from 35 (fun v w' => ∃ K : Int, v = .int .i64 K ∧ 0 ≤ K ∧ I64 K ∧ w' = w5)
   case first =>
     unfold I64 at hk0
     by_cases hk : kd < 0
     · go_wp2_with fail
       go_meet
       case rel => exact ⟨-(kd + 1), by go_num, by omega, by unfold I64; omega, rfl⟩
     · go_wp2_with fail
       go_meet
       case rel => exact ⟨kd, rfl, by omega, by unfold I64; omega, rfl⟩
   case rest =>
     obtain ⟨K, rfl, hK0, hK1, rfl⟩ := hcut
     go_upto_region 9 with (fail)
     go_cut [7] from 38 (fun v w' => ∃ B C : Nat, v = .pointer (some ⟨C, 0, none⟩) ∧ w'.heap[B]? = some (.cells (ndC x).toArray 25) ∧ w'.heap[C]? = some (.cells (ndC (nW (wrK (K.tmod 4)) B)).toArray 25) ∧ Below W.heap.size W w')
     case first =>
       have h0 : K.tmod 4 = 0 ∨ K.tmod 4 = 1 ∨ K.tmod 4 = 2 ∨ K.tmod 4 = 3 := by rw [Int.tmod_eq_emod_of_nonneg hK0]; omega
       have f0 : wc.cell? ⟨B0, 0, none⟩ = some (.int .i64 x.kind) := by have := R0.out wc H5.out 0 _ rfl; rwa [Nat.zero_add] at this
       have f1 : wc.cell? ⟨B0, 1, none⟩ = some (.int .i64 x.at_) := by have := R0.out wc H5.out 1 _ rfl; rwa [Nat.zero_add] at this
       have f2 : wc.cell? ⟨B0, 2, none⟩ = some (.int .i64 x.c) := by have := R0.out wc H5.out 2 _ rfl; rwa [Nat.zero_add] at this
       have f3 : wc.cell? ⟨B0, 3, none⟩ = some (x.sv) := by have := R0.out wc H5.out 3 _ rfl; rwa [Nat.zero_add] at this
       have f4 : wc.cell? ⟨B0, 4, none⟩ = some (.bool x.neg) := by have := R0.out wc H5.out 4 _ rfl; rwa [Nat.zero_add] at this
       have f5 : wc.cell? ⟨B0, 5, none⟩ = some (.int .i64 x.n) := by have := R0.out wc H5.out 5 _ rfl; rwa [Nat.zero_add] at this
       have f6 : wc.cell? ⟨B0, 6, none⟩ = some (.int .i64 x.m) := by have := R0.out wc H5.out 6 _ rfl; rwa [Nat.zero_add] at this
       have f7 : wc.cell? ⟨B0, 7, none⟩ = some (.int .i64 x.mode) := by have := R0.out wc H5.out 7 _ rfl; rwa [Nat.zero_add] at this
       have f8 : wc.cell? ⟨B0, 8, none⟩ = some (.string x.name) := by have := R0.out wc H5.out 8 _ rfl; rwa [Nat.zero_add] at this
       have f9 : wc.cell? ⟨B0, 9, none⟩ = some (.int .i64 x.on) := by have := R0.out wc H5.out 9 _ rfl; rwa [Nat.zero_add] at this
       have f10 : wc.cell? ⟨B0, 10, none⟩ = some (.int .i64 x.off) := by have := R0.out wc H5.out 10 _ rfl; rwa [Nat.zero_add] at this
       have f11 : wc.cell? ⟨B0, 11, none⟩ = some (x.kv) := by have := R0.out wc H5.out 11 _ rfl; rwa [Nat.zero_add] at this
       have g0 : ∀ A, (wc.alloc A).cell? ⟨B0, 0, none⟩ = some (.int .i64 x.kind) := fun A => below_cell (below_alloc wc A) f0
       have p0 : ∀ A C, ((wc.alloc A).alloc C).cell? ⟨B0, 0, none⟩ = some (.int .i64 x.kind) := fun A C => below_cell (below_alloc (wc.alloc A) C) (g0 A)
       have g1 : ∀ A, (wc.alloc A).cell? ⟨B0, 1, none⟩ = some (.int .i64 x.at_) := fun A => below_cell (below_alloc wc A) f1
       have p1 : ∀ A C, ((wc.alloc A).alloc C).cell? ⟨B0, 1, none⟩ = some (.int .i64 x.at_) := fun A C => below_cell (below_alloc (wc.alloc A) C) (g1 A)
       have g2 : ∀ A, (wc.alloc A).cell? ⟨B0, 2, none⟩ = some (.int .i64 x.c) := fun A => below_cell (below_alloc wc A) f2
       have p2 : ∀ A C, ((wc.alloc A).alloc C).cell? ⟨B0, 2, none⟩ = some (.int .i64 x.c) := fun A C => below_cell (below_alloc (wc.alloc A) C) (g2 A)
       have g3 : ∀ A, (wc.alloc A).cell? ⟨B0, 3, none⟩ = some (x.sv) := fun A => below_cell (below_alloc wc A) f3
       have p3 : ∀ A C, ((wc.alloc A).alloc C).cell? ⟨B0, 3, none⟩ = some (x.sv) := fun A C => below_cell (below_alloc (wc.alloc A) C) (g3 A)
       have g4 : ∀ A, (wc.alloc A).cell? ⟨B0, 4, none⟩ = some (.bool x.neg) := fun A => below_cell (below_alloc wc A) f4
       have p4 : ∀ A C, ((wc.alloc A).alloc C).cell? ⟨B0, 4, none⟩ = some (.bool x.neg) := fun A C => below_cell (below_alloc (wc.alloc A) C) (g4 A)
       have g5 : ∀ A, (wc.alloc A).cell? ⟨B0, 5, none⟩ = some (.int .i64 x.n) := fun A => below_cell (below_alloc wc A) f5
       have p5 : ∀ A C, ((wc.alloc A).alloc C).cell? ⟨B0, 5, none⟩ = some (.int .i64 x.n) := fun A C => below_cell (below_alloc (wc.alloc A) C) (g5 A)
       have g6 : ∀ A, (wc.alloc A).cell? ⟨B0, 6, none⟩ = some (.int .i64 x.m) := fun A => below_cell (below_alloc wc A) f6
       have p6 : ∀ A C, ((wc.alloc A).alloc C).cell? ⟨B0, 6, none⟩ = some (.int .i64 x.m) := fun A C => below_cell (below_alloc (wc.alloc A) C) (g6 A)
       have g7 : ∀ A, (wc.alloc A).cell? ⟨B0, 7, none⟩ = some (.int .i64 x.mode) := fun A => below_cell (below_alloc wc A) f7
       have p7 : ∀ A C, ((wc.alloc A).alloc C).cell? ⟨B0, 7, none⟩ = some (.int .i64 x.mode) := fun A C => below_cell (below_alloc (wc.alloc A) C) (g7 A)
       have g8 : ∀ A, (wc.alloc A).cell? ⟨B0, 8, none⟩ = some (.string x.name) := fun A => below_cell (below_alloc wc A) f8
       have p8 : ∀ A C, ((wc.alloc A).alloc C).cell? ⟨B0, 8, none⟩ = some (.string x.name) := fun A C => below_cell (below_alloc (wc.alloc A) C) (g8 A)
       have g9 : ∀ A, (wc.alloc A).cell? ⟨B0, 9, none⟩ = some (.int .i64 x.on) := fun A => below_cell (below_alloc wc A) f9
       have p9 : ∀ A C, ((wc.alloc A).alloc C).cell? ⟨B0, 9, none⟩ = some (.int .i64 x.on) := fun A C => below_cell (below_alloc (wc.alloc A) C) (g9 A)
       have g10 : ∀ A, (wc.alloc A).cell? ⟨B0, 10, none⟩ = some (.int .i64 x.off) := fun A => below_cell (below_alloc wc A) f10
       have p10 : ∀ A C, ((wc.alloc A).alloc C).cell? ⟨B0, 10, none⟩ = some (.int .i64 x.off) := fun A C => below_cell (below_alloc (wc.alloc A) C) (g10 A)
       have g11 : ∀ A, (wc.alloc A).cell? ⟨B0, 11, none⟩ = some (x.kv) := fun A => below_cell (below_alloc wc A) f11
       have p11 : ∀ A C, ((wc.alloc A).alloc C).cell? ⟨B0, 11, none⟩ = some (x.kv) := fun A C => below_cell (below_alloc (wc.alloc A) C) (g11 A)
       rcases h0 with hr | hr | hr | hr
       all_goals
         go_region
         all_goals
           go_wp2_with fail
           go_meet
           rw [hr]
           first
             | (exact ⟨_, _, rfl, (al3 wc _ _ _).2.1, (al3 wc _ _ _).2.2.1, (H5.out.trans ((al3 wc _ _ _).1.mono H5.out.size)).drew⟩)
             | (exact ⟨_, _, rfl, (al3 wc _ _ _).2.1, (al3 wc _ _ _).2.2.2, (H5.out.trans ((al3 wc _ _ _).1.mono H5.out.size)).drew⟩)
             | (exact ⟨_, _, rfl, (al3 wc _ _ _).2.2.1, (al3 wc _ _ _).2.1, (H5.out.trans ((al3 wc _ _ _).1.mono H5.out.size)).drew⟩)
             | (exact ⟨_, _, rfl, (al3 wc _ _ _).2.2.1, (al3 wc _ _ _).2.2.2, (H5.out.trans ((al3 wc _ _ _).1.mono H5.out.size)).drew⟩)
             | (exact ⟨_, _, rfl, (al3 wc _ _ _).2.2.2, (al3 wc _ _ _).2.1, (H5.out.trans ((al3 wc _ _ _).1.mono H5.out.size)).drew⟩)
             | (exact ⟨_, _, rfl, (al3 wc _ _ _).2.2.2, (al3 wc _ _ _).2.2.1, (H5.out.trans ((al3 wc _ _ _).1.mono H5.out.size)).drew⟩)
     case rest =>
       obtain ⟨B, C, rfl, hB, hC, hbC⟩ := hcut
       obtain ⟨w8, rfl⟩ : ∃ w8, w8 = wc := ⟨_, rfl⟩
       have hn1 := HN.out w8 hbC
       clear HS HC HZ HD H1 H2 H3 H4 H5 HN
       obtain ⟨q, hq⟩ : ∃ q, wrK (K.tmod 4) = q := ⟨_, rfl⟩
       have HQ := Lib.hid (show q = 14 ∨ q = 15 ∨ q = 16 ∨ q = 17 by rw [← hq]; exact wrK_of _)
       have HCP := Lib.hid (show ((capsT (nW q B, .cons x k .nil) : Nat) : Int) = ((capsT (x, k) : Nat) : Int) + (if K.tmod 4 = 0 then 1 else 0) by rw [← hq]; exact wr_capsK _ _)
       rw [hq] at hC
       clear hq
       have HK := Lib.hid hB
       have HL := Lib.hid hC
       have HBC := Lib.hid hbC
       have RB := Lib.hid (R0.out w8 hbC)
       have RC := Lib.hid (cells0 hC)
       have HNx := Lib.hid hn1
       clear hB hC hbC hn1
       have f0 : w8.cell? ⟨B0, 0, none⟩ = some (.int .i64 x.kind) := by have := RB.out 0 _ rfl; rwa [Nat.zero_add] at this
       have f1 : w8.cell? ⟨B0, 1, none⟩ = some (.int .i64 x.at_) := by have := RB.out 1 _ rfl; rwa [Nat.zero_add] at this
       have f2 : w8.cell? ⟨B0, 2, none⟩ = some (.int .i64 x.c) := by have := RB.out 2 _ rfl; rwa [Nat.zero_add] at this
       have f3 : w8.cell? ⟨B0, 3, none⟩ = some (x.sv) := by have := RB.out 3 _ rfl; rwa [Nat.zero_add] at this
       have f4 : w8.cell? ⟨B0, 4, none⟩ = some (.bool x.neg) := by have := RB.out 4 _ rfl; rwa [Nat.zero_add] at this
       have f5 : w8.cell? ⟨B0, 5, none⟩ = some (.int .i64 x.n) := by have := RB.out 5 _ rfl; rwa [Nat.zero_add] at this
       have f6 : w8.cell? ⟨B0, 6, none⟩ = some (.int .i64 x.m) := by have := RB.out 6 _ rfl; rwa [Nat.zero_add] at this
       have f7 : w8.cell? ⟨B0, 7, none⟩ = some (.int .i64 x.mode) := by have := RB.out 7 _ rfl; rwa [Nat.zero_add] at this
       have f8 : w8.cell? ⟨B0, 8, none⟩ = some (.string x.name) := by have := RB.out 8 _ rfl; rwa [Nat.zero_add] at this
       have f9 : w8.cell? ⟨B0, 9, none⟩ = some (.int .i64 x.on) := by have := RB.out 9 _ rfl; rwa [Nat.zero_add] at this
       have f10 : w8.cell? ⟨B0, 10, none⟩ = some (.int .i64 x.off) := by have := RB.out 10 _ rfl; rwa [Nat.zero_add] at this
       have f11 : w8.cell? ⟨B0, 11, none⟩ = some (x.kv) := by have := RB.out 11 _ rfl; rwa [Nat.zero_add] at this
       go_upto_region 11 with (fail)
       clear f0 f1 f2 f3 f4 f5 f6 f7 f8 f9 f10 f11
       generalize hg : (w8.alloc _).alloc _ = w10
       have ha := al2 w8 (.cells (ndC x).toArray 25) (.cells (ndC (nW 12 w8.heap.size)).toArray 25)
       rw [show (w8.alloc (.cells (ndC x).toArray 25)).alloc (.cells (ndC (nW 12 w8.heap.size)).toArray 25) = w10 from hg] at ha
       obtain ⟨hb10, s0, s1⟩ := ha
       have HB10 := Lib.hid hb10
       have HS0 := Lib.hid s0
       have HS1 := Lib.hid s1
       have RC10 := Lib.hid (fun j v hv => below_cell hb10 (RC.out j v hv))
       clear hg hb10 s0 s1
       obtain ⟨N, hN⟩ : ∃ N, w8.heap.size = N := ⟨_, rfl⟩
       rw [hN] at HB10 HS0 HS1 ⊢
       have f0 : w10.cell? ⟨C, 0, none⟩ = some (.int .i64 q) := by have := RC10.out 0 _ rfl; rwa [Nat.zero_add] at this
       have f1 : w10.cell? ⟨C, 1, none⟩ = some (.int .i64 0) := by have := RC10.out 1 _ rfl; rwa [Nat.zero_add] at this
       have f2 : w10.cell? ⟨C, 2, none⟩ = some (.int .i64 0) := by have := RC10.out 2 _ rfl; rwa [Nat.zero_add] at this
       have f3 : w10.cell? ⟨C, 3, none⟩ = some (.slice none 0 0) := by have := RC10.out 3 _ rfl; rwa [Nat.zero_add] at this
       have f4 : w10.cell? ⟨C, 4, none⟩ = some (.bool false) := by have := RC10.out 4 _ rfl; rwa [Nat.zero_add] at this
       have f5 : w10.cell? ⟨C, 5, none⟩ = some (.int .i64 0) := by have := RC10.out 5 _ rfl; rwa [Nat.zero_add] at this
       have f6 : w10.cell? ⟨C, 6, none⟩ = some (.int .i64 0) := by have := RC10.out 6 _ rfl; rwa [Nat.zero_add] at this
       have f7 : w10.cell? ⟨C, 7, none⟩ = some (.int .i64 0) := by have := RC10.out 7 _ rfl; rwa [Nat.zero_add] at this
       have f8 : w10.cell? ⟨C, 8, none⟩ = some (.string ⟨#[]⟩) := by have := RC10.out 8 _ rfl; rwa [Nat.zero_add] at this
       have f9 : w10.cell? ⟨C, 9, none⟩ = some (.int .i64 0) := by have := RC10.out 9 _ rfl; rwa [Nat.zero_add] at this
       have f10 : w10.cell? ⟨C, 10, none⟩ = some (.int .i64 0) := by have := RC10.out 10 _ rfl; rwa [Nat.zero_add] at this
       have f11 : w10.cell? ⟨C, 11, none⟩ = some (.slice (some ⟨B, 0, none⟩) 1 1) := by have := RC10.out 11 _ rfl; rwa [Nat.zero_add] at this
       go_upto_if 55 with (fail)
       clear f0 f1 f2 f3 f4 f5 f6 f7 f8 f9 f10 f11
       generalize hg : (w10.alloc _).alloc _ = w11
       have ha := al2 w10 (.cells (ndC (nW q B) ++ ndC nA).toArray 25) (.cells (ndC (nT w10.heap.size)).toArray 25)
       rw [show (w10.alloc (.cells (ndC (nW q B) ++ ndC nA).toArray 25)).alloc (.cells (ndC (nT w10.heap.size)).toArray 25) = w11 from hg] at ha
       obtain ⟨hb11, t0, t1⟩ := ha
       clear hg
       obtain ⟨P, hP⟩ : ∃ P, w10.heap.size = P := ⟨_, rfl⟩
       have hb8 : Below w8.heap.size w8 w11 := by
         have hb10 := HB10.out
         rw [← hN] at hb10
         exact hb10.trans (hb11.mono hb10.size)
       have hs0 := HS0.out
       have hs1 := HS1.out
       have r0 := (hb11.block _ (Array.getElem?_eq_some_iff.1 hs0).1).trans hs0
       have r1 := (hb11.block _ (Array.getElem?_eq_some_iff.1 hs1).1).trans hs1
       have rB := (hb8.block _ (Array.getElem?_eq_some_iff.1 HK.out).1).trans HK.out
       have rC := (hb8.block _ (Array.getElem?_eq_some_iff.1 HL.out).1).trans HL.out
       rw [hP] at t0 t1 ⊢
       have hbW : Below W.heap.size W w11 := HBC.out.trans (hb8.mono HBC.out.size)
       have hq := HQ.out
       have nX : NdAt w11 (x, k) := below_nd hb8 HNx.out
       have nWw : NdAt w11 (nW q B, .cons x k .nil) := nd_mk (kids_lit1 (x := x) rB nX) (hk := by unfold I64; omega)
       have nS : NdAt w11 (nW 12 N, .cons x k .nil) := nd_mk (kids_lit1 (x := x) r0 nX)
       have nTt : NdAt w11 (nT P, fT q B x k) := nd_mk (kids_lit2 (x := nW q B) (y := nA) t0 nWw (nd_mk (kids_nil _)))
       have hsz : s ≤ 3990 := by omega
       have hdp : d ≤ 290 := by omega
       have hs' := HSs.out
       have hd' := HDd.out
       have hcx := HCx.out
       have hsk : k.size + 1 ≤ 3990 := by omega
       have hdk : k.deep + 1 ≤ 290 := by omega
       obtain ⟨c, hc⟩ : ∃ c, capsT (x, k) = c := ⟨_, rfl⟩
       have hcl := capsT_le x k
       rw [hc, hs'] at hcl
       obtain ⟨M, hM⟩ : ∃ M : Int, (if K.tmod 4 = 0 then 1 else 0) = M := ⟨_, rfl⟩
       have hM2 : 0 ≤ M ∧ M ≤ 1 := by rw [← hM]; split <;> omega
       have hcw := HCP.out
       rw [hc, hM] at hcw
       have Kw : Hid (∀ w1, Below w11.heap.size w11 w1 → Calls Try.prog 23 #[ndV (nW q B)] w1 (BoolB true w1)) := Lib.hid (fun w1 hb => by
         have := pcheck_any (nW q B) (.cons x k .nil) w1 (below_nd hb nWw)
         rw [wr_check q B hq hcx hsk hdk] at this
         exact this)
       have Ks : Hid (∀ w1, Below w11.heap.size w11 w1 → Calls Try.prog 23 #[ndV (nW 12 N)] w1 (BoolB false w1)) := Lib.hid (fun w1 hb => by
         have := pcheck_any (nW 12 N) (.cons x k .nil) w1 (below_nd hb nS)
         rw [wr_seq] at this
         exact this)
       have Kt : Hid (∀ w1, Below w11.heap.size w11 w1 → Calls Try.prog 23 #[ndV (nT P)] w1 (BoolB true w1)) := Lib.hid (fun w1 hb => by
         have := pcheck_any (nT P) (fT q B x k) w1 (below_nd hb nTt)
         rw [wr_two q B P hq hcx hsk hdk] at this
         exact this)
       have Zx : Hid (∀ w1, Below w11.heap.size w11 w1 → Calls Try.prog 10 #[ndV x] w1 (IntB ((s : Int)) w1)) := Lib.hid (fun w1 hb => by
         have := psize_any x k w1 (below_nd hb nX)
         rw [show ((min 4001 (k.size + 1) : Nat) : Int) = (s : Int) by first | omega | (simp only [fT, F.size, F.deep]; omega)] at this
         exact this)
       have Zw : Hid (∀ w1, Below w11.heap.size w11 w1 → Calls Try.prog 10 #[ndV (nW q B)] w1 (IntB ((s : Int) + 1) w1)) := Lib.hid (fun w1 hb => by
         have := psize_any (nW q B) (.cons x k .nil) w1 (below_nd hb nWw)
         rw [show ((min 4001 ((F.cons x k .nil).size + 1) : Nat) : Int) = (s : Int) + 1 by first | omega | (simp only [fT, F.size, F.deep]; omega)] at this
         exact this)
       have Zt : Hid (∀ w1, Below w11.heap.size w11 w1 → Calls Try.prog 10 #[ndV (nT P)] w1 (IntB ((s : Int) + 3) w1)) := Lib.hid (fun w1 hb => by
         have := psize_any (nT P) (fT q B x k) w1 (below_nd hb nTt)
         rw [show ((min 4001 ((fT q B x k).size + 1) : Nat) : Int) = (s : Int) + 3 by first | omega | (simp only [fT, F.size, F.deep]; omega)] at this
         exact this)
       have Dx : Hid (∀ w1, Below w11.heap.size w11 w1 → Calls Try.prog 13 #[ndV x] w1 (IntB ((d : Int)) w1)) := Lib.hid (fun w1 hb => by
         have := pdepth_any x k w1 (below_nd hb nX) (by omega)
         rw [show ((min 301 (k.deep + 1) : Nat) : Int) = (d : Int) by first | omega | (simp only [fT, F.size, F.deep]; omega)] at this
         exact this)
       have Dw : Hid (∀ w1, Below w11.heap.size w11 w1 → Calls Try.prog 13 #[ndV (nW q B)] w1 (IntB ((d : Int) + 1) w1)) := Lib.hid (fun w1 hb => by
         have := pdepth_any (nW q B) (.cons x k .nil) w1 (below_nd hb nWw) (by simp only [F.size]; omega)
         rw [show ((min 301 ((F.cons x k .nil).deep + 1) : Nat) : Int) = (d : Int) + 1 by first | omega | (simp only [fT, F.size, F.deep]; omega)] at this
         exact this)
       have Qx : Hid (∀ w1, Below w11.heap.size w11 w1 → Calls Try.prog 20 #[ndV x] w1 (IntB (c : Int) w1)) := Lib.hid (fun w1 hb => by
         have := pcaps_any x k w1 (below_nd hb nX) (by omega)
         rw [hc] at this
         exact this)
       have Qw : Hid (∀ w1, Below w11.heap.size w11 w1 → Calls Try.prog 20 #[ndV (nW q B)] w1 (IntB ((c : Int) + M) w1)) := Lib.hid (fun w1 hb => by
         have := pcaps_any (nW q B) (.cons x k .nil) w1 (below_nd hb nWw) (by simp only [F.size]; omega)
         rw [hcw] at this
         exact this)
       have R2 := Lib.hid (fun w1 (hb : Below w11.heap.size w11 w1) => R0.out w1 (hbW.trans (hb.mono hbW.size)))
       have R7 := Lib.hid (fun w1 (hb : Below w11.heap.size w11 w1) => cells0 ((hb.block _ (Array.getElem?_eq_some_iff.1 rC).1).trans rC))
       have R8 := Lib.hid (fun w1 (hb : Below w11.heap.size w11 w1) => cells0 ((hb.block _ (Array.getElem?_eq_some_iff.1 r1).1).trans r1))
       have R9 := Lib.hid (fun w1 (hb : Below w11.heap.size w11 w1) => cells0 ((hb.block _ (Array.getElem?_eq_some_iff.1 t1).1).trans t1))
       have HW := Lib.hid hbW
       have e1 : IntKind.i64.wrap ((s : Int) + 1) = (s : Int) + 1 := IntWalk.i64_in _ (by omega)
       have e2 : IntKind.i64.wrap ((s : Int) + 3) = (s : Int) + 3 := IntWalk.i64_in _ (by omega)
       have e3 : IntKind.i64.wrap ((d : Int) + 1) = (d : Int) + 1 := IntWalk.i64_in _ (by omega)
       have e4 : IntKind.i64.wrap ((c : Int) + M) = (c : Int) + M := IntWalk.i64_in _ (by omega)
       have E1 := Lib.hid e1
       have E2 := Lib.hid e2
       have E3 := Lib.hid e3
       have E4 := Lib.hid e4
       have HMM := Lib.hid hM
       clear hM
       clear e1 e2 e3 e4 hM2 hcw hcl hc hs' hd' hcx hsk hdk hsz hdp nX nWw nS nTt hq hbW r0 r1 rB rC t0 t1 hs0 hs1 hb8 hb11 hP hN hz hz2
       go_cut [10] from 56 (fun v w' => v = .int .i64 M ∧ w' = w11)
       case first =>
         have hM := HMM.out
         clear HMM
         have hem := Int.tmod_eq_emod_of_nonneg hK0 (b := 4)
         rw [hem] at hM
         clear hem
         by_cases hr : K % 4 = 0
         · rw [if_pos hr] at hM
           have HM := Lib.hid hM
           have hbq : (K % 4 == 0) = true := by simp [hr]
           clear hM hr
           go_wp2_with fail
           go_meet
           have hM := HM.out
           exact ⟨by rw [← hM], rfl⟩
         · rw [if_neg hr] at hM
           have HM := Lib.hid hM
           have hbq : (K % 4 == 0) = false := by simp [hr]
           clear hM hr
           go_wp2_with fail
           go_meet
           have hM := HM.out
           exact ⟨by rw [← hM], rfl⟩
       case rest =>
         obtain ⟨rfl, rfl⟩ := hcut
         obtain ⟨w11, rfl⟩ : ∃ w11, w11 = wc := ⟨_, rfl⟩
         have e1 := E1.out
         have e2 := E2.out
         have e3 := E3.out
         have e4 := E4.out
         clear E1 E2 E3 E4 HMM
         go_wp2_with fail
         refine wp_region_held_drew (S := fun w' => Below w11.heap.size w11 w') (by kernel_rfl) (Below.refl _ w11).drew (fun hHeld => ?_)
         first
           | (refine wpAnyH_take (i := 0) (v := ?_) rfl (by kernel_rfl) (by kernel_rfl) (by kernel_rfl) (fun _ _ _ h => h) (Or.inl ⟨by rfl, ?_⟩) (by assumption) ?_; rotate_left; · (intro w' hSw; refine exec_load_nd (x := .tmp 7) (b := C) (off := 0) (l := (nW q B)) ?_ ?_ (R7.out w' hSw) <;> rfl))
           | (refine wpAnyH_take (i := 0) rfl (by kernel_rfl) (by kernel_rfl) (by kernel_rfl) (fun _ _ _ h => h) (Or.inr ⟨by rfl, rfl⟩) (by assumption) ?_)
         simp only [Act.put, List.setIfInBounds_toArray, List.set_cons_zero, List.set_cons_succ, List.getElem_toArray, List.getElem_cons_zero]
         refine wpAnyH_ready (rs := [1]) (by kernel_rfl) (by simp) ?_
         refine AllReadyH.cons rfl (fun K hK => ?_) AllReadyH.nil
         go_simp
         refine (Kw.out _ hHeld).mono ?_
         rintro e v1 ⟨rfl, hb⟩
         have hHeld : Below w11.heap.size w11 v1 := hHeld.trans (hb.mono hHeld.size)
         refine hK.out _ _ hHeld (fun hHeld => ?_)
         clear hK K hb
         try simp only [Act.put, List.setIfInBounds_toArray, List.set_cons_zero, List.set_cons_succ, List.getElem_toArray, List.getElem_cons_succ, List.getElem_cons_zero]
         first
           | (refine wpAnyH_take (i := 2) (v := ?_) rfl (by kernel_rfl) (by kernel_rfl) (by kernel_rfl) (fun _ _ _ h => h) (Or.inl ⟨by rfl, ?_⟩) (by assumption) ?_; rotate_left; · (intro w' hSw; go_simp; try rfl))
           | (refine wpAnyH_take (i := 2) rfl (by kernel_rfl) (by kernel_rfl) (by kernel_rfl) (fun _ _ _ h => h) (Or.inr ⟨by rfl, rfl⟩) (by assumption) ?_)
         simp only [Act.put, List.setIfInBounds_toArray, List.set_cons_zero, List.set_cons_succ, List.getElem_toArray, List.getElem_cons_succ, List.getElem_cons_zero]
         first
           | (refine wpAnyH_take (i := 3) (v := ?_) rfl (by kernel_rfl) (by kernel_rfl) (by kernel_rfl) (fun _ _ _ h => h) (Or.inl ⟨by rfl, ?_⟩) (by assumption) ?_; rotate_left; · (intro w' hSw; refine exec_load_nd (x := .tmp 8) (b := (N + 1)) (off := 0) (l := (nW 12 N)) ?_ ?_ (R8.out w' hSw) <;> rfl))
           | (refine wpAnyH_take (i := 3) rfl (by kernel_rfl) (by kernel_rfl) (by kernel_rfl) (fun _ _ _ h => h) (Or.inr ⟨by rfl, rfl⟩) (by assumption) ?_)
         simp only [Act.put, List.setIfInBounds_toArray, List.set_cons_zero, List.set_cons_succ, List.getElem_toArray, List.getElem_cons_succ, List.getElem_cons_zero]
         refine wpAnyH_ready (rs := [4]) (by kernel_rfl) (by simp) ?_
         refine AllReadyH.cons rfl (fun K hK => ?_) AllReadyH.nil
         go_simp
         refine (Ks.out _ hHeld).mono ?_
         rintro e v2 ⟨rfl, hb⟩
         have hHeld : Below w11.heap.size w11 v2 := hHeld.trans (hb.mono hHeld.size)
         refine hK.out _ _ hHeld (fun hHeld => ?_)
         clear hK K hb
         try simp only [Act.put, List.setIfInBounds_toArray, List.set_cons_zero, List.set_cons_succ, List.getElem_toArray, List.getElem_cons_succ, List.getElem_cons_zero]
         first
           | (refine wpAnyH_take (i := 5) (v := ?_) rfl (by kernel_rfl) (by kernel_rfl) (by kernel_rfl) (fun _ _ _ h => h) (Or.inl ⟨by rfl, ?_⟩) (by assumption) ?_; rotate_left; · (intro w' hSw; go_simp; try rfl))
           | (refine wpAnyH_take (i := 5) rfl (by kernel_rfl) (by kernel_rfl) (by kernel_rfl) (fun _ _ _ h => h) (Or.inr ⟨by rfl, rfl⟩) (by assumption) ?_)
         simp only [Act.put, List.setIfInBounds_toArray, List.set_cons_zero, List.set_cons_succ, List.getElem_toArray, List.getElem_cons_succ, List.getElem_cons_zero]
         first
           | (refine wpAnyH_take (i := 6) (v := ?_) rfl (by kernel_rfl) (by kernel_rfl) (by kernel_rfl) (fun _ _ _ h => h) (Or.inl ⟨by rfl, ?_⟩) (by assumption) ?_; rotate_left; · (intro w' hSw; go_simp; try rfl))
           | (refine wpAnyH_take (i := 6) rfl (by kernel_rfl) (by kernel_rfl) (by kernel_rfl) (fun _ _ _ h => h) (Or.inr ⟨by rfl, rfl⟩) (by assumption) ?_)
         simp only [Act.put, List.setIfInBounds_toArray, List.set_cons_zero, List.set_cons_succ, List.getElem_toArray, List.getElem_cons_succ, List.getElem_cons_zero]
         first
           | (refine wpAnyH_take (i := 7) (v := ?_) rfl (by kernel_rfl) (by kernel_rfl) (by kernel_rfl) (fun _ _ _ h => h) (Or.inl ⟨by rfl, ?_⟩) (by assumption) ?_; rotate_left; · (intro w' hSw; go_simp; try rfl))
           | (refine wpAnyH_take (i := 7) rfl (by kernel_rfl) (by kernel_rfl) (by kernel_rfl) (fun _ _ _ h => h) (Or.inr ⟨by rfl, rfl⟩) (by assumption) ?_)
         simp only [Act.put, List.setIfInBounds_toArray, List.set_cons_zero, List.set_cons_succ, List.getElem_toArray, List.getElem_cons_succ, List.getElem_cons_zero]
         first
           | (refine wpAnyH_take (i := 8) (v := ?_) rfl (by kernel_rfl) (by kernel_rfl) (by kernel_rfl) (fun _ _ _ h => h) (Or.inl ⟨by rfl, ?_⟩) (by assumption) ?_; rotate_left; · (intro w' hSw; refine exec_load_nd (x := .tmp 9) (b := (P + 1)) (off := 0) (l := (nT P)) ?_ ?_ (R9.out w' hSw) <;> rfl))
           | (refine wpAnyH_take (i := 8) rfl (by kernel_rfl) (by kernel_rfl) (by kernel_rfl) (fun _ _ _ h => h) (Or.inr ⟨by rfl, rfl⟩) (by assumption) ?_)
         simp only [Act.put, List.setIfInBounds_toArray, List.set_cons_zero, List.set_cons_succ, List.getElem_toArray, List.getElem_cons_succ, List.getElem_cons_zero]
         refine wpAnyH_ready (rs := [9]) (by kernel_rfl) (by simp) ?_
         refine AllReadyH.cons rfl (fun K hK => ?_) AllReadyH.nil
         go_simp
         refine (Kt.out _ hHeld).mono ?_
         rintro e v3 ⟨rfl, hb⟩
         have hHeld : Below w11.heap.size w11 v3 := hHeld.trans (hb.mono hHeld.size)
         refine hK.out _ _ hHeld (fun hHeld => ?_)
         clear hK K hb
         try simp only [Act.put, List.setIfInBounds_toArray, List.set_cons_zero, List.set_cons_succ, List.getElem_toArray, List.getElem_cons_succ, List.getElem_cons_zero]
         first
           | (refine wpAnyH_take (i := 10) (v := ?_) rfl (by kernel_rfl) (by kernel_rfl) (by kernel_rfl) (fun _ _ _ h => h) (Or.inl ⟨by rfl, ?_⟩) (by assumption) ?_; rotate_left; · (intro w' hSw; go_simp; try rfl))
           | (refine wpAnyH_take (i := 10) rfl (by kernel_rfl) (by kernel_rfl) (by kernel_rfl) (fun _ _ _ h => h) (Or.inr ⟨by rfl, rfl⟩) (by assumption) ?_)
         simp only [Act.put, List.setIfInBounds_toArray, List.set_cons_zero, List.set_cons_succ, List.getElem_toArray, List.getElem_cons_succ, List.getElem_cons_zero]
         first
           | (refine wpAnyH_take (i := 11) (v := ?_) rfl (by kernel_rfl) (by kernel_rfl) (by kernel_rfl) (fun _ _ _ h => h) (Or.inl ⟨by rfl, ?_⟩) (by assumption) ?_; rotate_left; · (intro w' hSw; go_simp; try rfl))
           | (refine wpAnyH_take (i := 11) rfl (by kernel_rfl) (by kernel_rfl) (by kernel_rfl) (fun _ _ _ h => h) (Or.inr ⟨by rfl, rfl⟩) (by assumption) ?_)
         simp only [Act.put, List.setIfInBounds_toArray, List.set_cons_zero, List.set_cons_succ, List.getElem_toArray, List.getElem_cons_succ, List.getElem_cons_zero]
         first
           | (refine wpAnyH_take (i := 12) (v := ?_) rfl (by kernel_rfl) (by kernel_rfl) (by kernel_rfl) (fun _ _ _ h => h) (Or.inl ⟨by rfl, ?_⟩) (by assumption) ?_; rotate_left; · (intro w' hSw; refine exec_load_nd (x := .tmp 7) (b := C) (off := 0) (l := (nW q B)) ?_ ?_ (R7.out w' hSw) <;> rfl))
           | (refine wpAnyH_take (i := 12) rfl (by kernel_rfl) (by kernel_rfl) (by kernel_rfl) (fun _ _ _ h => h) (Or.inr ⟨by rfl, rfl⟩) (by assumption) ?_)
         simp only [Act.put, List.setIfInBounds_toArray, List.set_cons_zero, List.set_cons_succ, List.getElem_toArray, List.getElem_cons_succ, List.getElem_cons_zero]
         first
           | (refine wpAnyH_take (i := 14) (v := ?_) rfl (by kernel_rfl) (by kernel_rfl) (by kernel_rfl) (fun _ _ _ h => h) (Or.inl ⟨by rfl, ?_⟩) (by assumption) ?_; rotate_left; · (intro w' hSw; refine exec_load_nd (x := .tmp 2) (b := B0) (off := 0) (l := x) ?_ ?_ (R2.out w' hSw) <;> rfl))
           | (refine wpAnyH_take (i := 14) rfl (by kernel_rfl) (by kernel_rfl) (by kernel_rfl) (fun _ _ _ h => h) (Or.inr ⟨by rfl, rfl⟩) (by assumption) ?_)
         simp only [Act.put, List.setIfInBounds_toArray, List.set_cons_zero, List.set_cons_succ, List.getElem_toArray, List.getElem_cons_succ, List.getElem_cons_zero]
         refine wpAnyH_ready (rs := [13]) (by kernel_rfl) (by simp) ?_
         refine AllReadyH.cons rfl (fun K hK => ?_) AllReadyH.nil
         go_simp
         refine (Zw.out _ hHeld).mono ?_
         rintro e v4 ⟨rfl, hb⟩
         have hHeld : Below w11.heap.size w11 v4 := hHeld.trans (hb.mono hHeld.size)
         refine hK.out _ _ hHeld (fun hHeld => ?_)
         clear hK K hb
         try simp only [Act.put, List.setIfInBounds_toArray, List.set_cons_zero, List.set_cons_succ, List.getElem_toArray, List.getElem_cons_succ, List.getElem_cons_zero]
         refine wpAnyH_ready (rs := [15]) (by kernel_rfl) (by simp) ?_
         refine AllReadyH.cons rfl (fun K hK => ?_) AllReadyH.nil
         go_simp
         refine (Zx.out _ hHeld).mono ?_
         rintro e v5 ⟨rfl, hb⟩
         have hHeld : Below w11.heap.size w11 v5 := hHeld.trans (hb.mono hHeld.size)
         refine hK.out _ _ hHeld (fun hHeld => ?_)
         clear hK K hb
         try simp only [Act.put, List.setIfInBounds_toArray, List.set_cons_zero, List.set_cons_succ, List.getElem_toArray, List.getElem_cons_succ, List.getElem_cons_zero]
         first
           | (refine wpAnyH_take (i := 16) (v := ?_) rfl (by kernel_rfl) (by kernel_rfl) (by kernel_rfl) (fun _ _ _ h => h) (Or.inl ⟨by rfl, ?_⟩) (by assumption) ?_; rotate_left; · (intro w' hSw; go_simp; try rfl))
           | (refine wpAnyH_take (i := 16) rfl (by kernel_rfl) (by kernel_rfl) (by kernel_rfl) (fun _ _ _ h => h) (Or.inr ⟨by rfl, rfl⟩) (by assumption) ?_)
         simp only [Act.put, List.setIfInBounds_toArray, List.set_cons_zero, List.set_cons_succ, List.getElem_toArray, List.getElem_cons_succ, List.getElem_cons_zero]
         first
           | (refine wpAnyH_take (i := 17) (v := ?_) rfl (by kernel_rfl) (by kernel_rfl) (by kernel_rfl) (fun _ _ _ h => h) (Or.inl ⟨by rfl, ?_⟩) (by assumption) ?_; rotate_left; · (intro w' hSw; go_simp; try rfl))
           | (refine wpAnyH_take (i := 17) rfl (by kernel_rfl) (by kernel_rfl) (by kernel_rfl) (fun _ _ _ h => h) (Or.inr ⟨by rfl, rfl⟩) (by assumption) ?_)
         simp only [Act.put, List.setIfInBounds_toArray, List.set_cons_zero, List.set_cons_succ, List.getElem_toArray, List.getElem_cons_succ, List.getElem_cons_zero]
         first
           | (refine wpAnyH_take (i := 18) (v := ?_) rfl (by kernel_rfl) (by kernel_rfl) (by kernel_rfl) (fun _ _ _ h => h) (Or.inl ⟨by rfl, ?_⟩) (by assumption) ?_; rotate_left; · (intro w' hSw; go_simp; try rfl))
           | (refine wpAnyH_take (i := 18) rfl (by kernel_rfl) (by kernel_rfl) (by kernel_rfl) (fun _ _ _ h => h) (Or.inr ⟨by rfl, rfl⟩) (by assumption) ?_)
         simp only [Act.put, List.setIfInBounds_toArray, List.set_cons_zero, List.set_cons_succ, List.getElem_toArray, List.getElem_cons_succ, List.getElem_cons_zero]
         first
           | (refine wpAnyH_take (i := 19) (v := ?_) rfl (by kernel_rfl) (by kernel_rfl) (by kernel_rfl) (fun _ _ _ h => h) (Or.inl ⟨by rfl, ?_⟩) (by assumption) ?_; rotate_left; · (intro w' hSw; go_simp; try rfl))
           | (refine wpAnyH_take (i := 19) rfl (by kernel_rfl) (by kernel_rfl) (by kernel_rfl) (fun _ _ _ h => h) (Or.inr ⟨by rfl, rfl⟩) (by assumption) ?_)
         simp only [Act.put, List.setIfInBounds_toArray, List.set_cons_zero, List.set_cons_succ, List.getElem_toArray, List.getElem_cons_succ, List.getElem_cons_zero]
         first
           | (refine wpAnyH_take (i := 20) (v := ?_) rfl (by kernel_rfl) (by kernel_rfl) (by kernel_rfl) (fun _ _ _ h => h) (Or.inl ⟨by rfl, ?_⟩) (by assumption) ?_; rotate_left; · (intro w' hSw; refine exec_load_nd (x := .tmp 7) (b := C) (off := 0) (l := (nW q B)) ?_ ?_ (R7.out w' hSw) <;> rfl))
           | (refine wpAnyH_take (i := 20) rfl (by kernel_rfl) (by kernel_rfl) (by kernel_rfl) (fun _ _ _ h => h) (Or.inr ⟨by rfl, rfl⟩) (by assumption) ?_)
         simp only [Act.put, List.setIfInBounds_toArray, List.set_cons_zero, List.set_cons_succ, List.getElem_toArray, List.getElem_cons_succ, List.getElem_cons_zero]
         first
           | (refine wpAnyH_take (i := 22) (v := ?_) rfl (by kernel_rfl) (by kernel_rfl) (by kernel_rfl) (fun _ _ _ h => h) (Or.inl ⟨by rfl, ?_⟩) (by assumption) ?_; rotate_left; · (intro w' hSw; refine exec_load_nd (x := .tmp 2) (b := B0) (off := 0) (l := x) ?_ ?_ (R2.out w' hSw) <;> rfl))
           | (refine wpAnyH_take (i := 22) rfl (by kernel_rfl) (by kernel_rfl) (by kernel_rfl) (fun _ _ _ h => h) (Or.inr ⟨by rfl, rfl⟩) (by assumption) ?_)
         simp only [Act.put, List.setIfInBounds_toArray, List.set_cons_zero, List.set_cons_succ, List.getElem_toArray, List.getElem_cons_succ, List.getElem_cons_zero]
         refine wpAnyH_ready (rs := [21]) (by kernel_rfl) (by simp) ?_
         refine AllReadyH.cons rfl (fun K hK => ?_) AllReadyH.nil
         go_simp
         refine (Dw.out _ hHeld).mono ?_
         rintro e v6 ⟨rfl, hb⟩
         have hHeld : Below w11.heap.size w11 v6 := hHeld.trans (hb.mono hHeld.size)
         refine hK.out _ _ hHeld (fun hHeld => ?_)
         clear hK K hb
         try simp only [Act.put, List.setIfInBounds_toArray, List.set_cons_zero, List.set_cons_succ, List.getElem_toArray, List.getElem_cons_succ, List.getElem_cons_zero]
         refine wpAnyH_ready (rs := [23]) (by kernel_rfl) (by simp) ?_
         refine AllReadyH.cons rfl (fun K hK => ?_) AllReadyH.nil
         go_simp
         refine (Dx.out _ hHeld).mono ?_
         rintro e v7 ⟨rfl, hb⟩
         have hHeld : Below w11.heap.size w11 v7 := hHeld.trans (hb.mono hHeld.size)
         refine hK.out _ _ hHeld (fun hHeld => ?_)
         clear hK K hb
         try simp only [Act.put, List.setIfInBounds_toArray, List.set_cons_zero, List.set_cons_succ, List.getElem_toArray, List.getElem_cons_succ, List.getElem_cons_zero]
         first
           | (refine wpAnyH_take (i := 24) (v := ?_) rfl (by kernel_rfl) (by kernel_rfl) (by kernel_rfl) (fun _ _ _ h => h) (Or.inl ⟨by rfl, ?_⟩) (by assumption) ?_; rotate_left; · (intro w' hSw; go_simp; try rfl))
           | (refine wpAnyH_take (i := 24) rfl (by kernel_rfl) (by kernel_rfl) (by kernel_rfl) (fun _ _ _ h => h) (Or.inr ⟨by rfl, rfl⟩) (by assumption) ?_)
         simp only [Act.put, List.setIfInBounds_toArray, List.set_cons_zero, List.set_cons_succ, List.getElem_toArray, List.getElem_cons_succ, List.getElem_cons_zero]
         first
           | (refine wpAnyH_take (i := 25) (v := ?_) rfl (by kernel_rfl) (by kernel_rfl) (by kernel_rfl) (fun _ _ _ h => h) (Or.inl ⟨by rfl, ?_⟩) (by assumption) ?_; rotate_left; · (intro w' hSw; go_simp; try rfl))
           | (refine wpAnyH_take (i := 25) rfl (by kernel_rfl) (by kernel_rfl) (by kernel_rfl) (fun _ _ _ h => h) (Or.inr ⟨by rfl, rfl⟩) (by assumption) ?_)
         simp only [Act.put, List.setIfInBounds_toArray, List.set_cons_zero, List.set_cons_succ, List.getElem_toArray, List.getElem_cons_succ, List.getElem_cons_zero]
         first
           | (refine wpAnyH_take (i := 26) (v := ?_) rfl (by kernel_rfl) (by kernel_rfl) (by kernel_rfl) (fun _ _ _ h => h) (Or.inl ⟨by rfl, ?_⟩) (by assumption) ?_; rotate_left; · (intro w' hSw; go_simp; try rfl))
           | (refine wpAnyH_take (i := 26) rfl (by kernel_rfl) (by kernel_rfl) (by kernel_rfl) (fun _ _ _ h => h) (Or.inr ⟨by rfl, rfl⟩) (by assumption) ?_)
         simp only [Act.put, List.setIfInBounds_toArray, List.set_cons_zero, List.set_cons_succ, List.getElem_toArray, List.getElem_cons_succ, List.getElem_cons_zero]
         first
           | (refine wpAnyH_take (i := 27) (v := ?_) rfl (by kernel_rfl) (by kernel_rfl) (by kernel_rfl) (fun _ _ _ h => h) (Or.inl ⟨by rfl, ?_⟩) (by assumption) ?_; rotate_left; · (intro w' hSw; go_simp; try rfl))
           | (refine wpAnyH_take (i := 27) rfl (by kernel_rfl) (by kernel_rfl) (by kernel_rfl) (fun _ _ _ h => h) (Or.inr ⟨by rfl, rfl⟩) (by assumption) ?_)
         simp only [Act.put, List.setIfInBounds_toArray, List.set_cons_zero, List.set_cons_succ, List.getElem_toArray, List.getElem_cons_succ, List.getElem_cons_zero]
         first
           | (refine wpAnyH_take (i := 28) (v := ?_) rfl (by kernel_rfl) (by kernel_rfl) (by kernel_rfl) (fun _ _ _ h => h) (Or.inl ⟨by rfl, ?_⟩) (by assumption) ?_; rotate_left; · (intro w' hSw; refine exec_load_nd (x := .tmp 9) (b := (P + 1)) (off := 0) (l := (nT P)) ?_ ?_ (R9.out w' hSw) <;> rfl))
           | (refine wpAnyH_take (i := 28) rfl (by kernel_rfl) (by kernel_rfl) (by kernel_rfl) (fun _ _ _ h => h) (Or.inr ⟨by rfl, rfl⟩) (by assumption) ?_)
         simp only [Act.put, List.setIfInBounds_toArray, List.set_cons_zero, List.set_cons_succ, List.getElem_toArray, List.getElem_cons_succ, List.getElem_cons_zero]
         first
           | (refine wpAnyH_take (i := 30) (v := ?_) rfl (by kernel_rfl) (by kernel_rfl) (by kernel_rfl) (fun _ _ _ h => h) (Or.inl ⟨by rfl, ?_⟩) (by assumption) ?_; rotate_left; · (intro w' hSw; refine exec_load_nd (x := .tmp 2) (b := B0) (off := 0) (l := x) ?_ ?_ (R2.out w' hSw) <;> rfl))
           | (refine wpAnyH_take (i := 30) rfl (by kernel_rfl) (by kernel_rfl) (by kernel_rfl) (fun _ _ _ h => h) (Or.inr ⟨by rfl, rfl⟩) (by assumption) ?_)
         simp only [Act.put, List.setIfInBounds_toArray, List.set_cons_zero, List.set_cons_succ, List.getElem_toArray, List.getElem_cons_succ, List.getElem_cons_zero]
         refine wpAnyH_ready (rs := [29]) (by kernel_rfl) (by simp) ?_
         refine AllReadyH.cons rfl (fun K hK => ?_) AllReadyH.nil
         go_simp
         refine (Zt.out _ hHeld).mono ?_
         rintro e v8 ⟨rfl, hb⟩
         have hHeld : Below w11.heap.size w11 v8 := hHeld.trans (hb.mono hHeld.size)
         refine hK.out _ _ hHeld (fun hHeld => ?_)
         clear hK K hb
         try simp only [Act.put, List.setIfInBounds_toArray, List.set_cons_zero, List.set_cons_succ, List.getElem_toArray, List.getElem_cons_succ, List.getElem_cons_zero]
         refine wpAnyH_ready (rs := [31]) (by kernel_rfl) (by simp) ?_
         refine AllReadyH.cons rfl (fun K hK => ?_) AllReadyH.nil
         go_simp
         refine (Zx.out _ hHeld).mono ?_
         rintro e v9 ⟨rfl, hb⟩
         have hHeld : Below w11.heap.size w11 v9 := hHeld.trans (hb.mono hHeld.size)
         refine hK.out _ _ hHeld (fun hHeld => ?_)
         clear hK K hb
         try simp only [Act.put, List.setIfInBounds_toArray, List.set_cons_zero, List.set_cons_succ, List.getElem_toArray, List.getElem_cons_succ, List.getElem_cons_zero]
         first
           | (refine wpAnyH_take (i := 32) (v := ?_) rfl (by kernel_rfl) (by kernel_rfl) (by kernel_rfl) (fun _ _ _ h => h) (Or.inl ⟨by rfl, ?_⟩) (by assumption) ?_; rotate_left; · (intro w' hSw; go_simp; try rfl))
           | (refine wpAnyH_take (i := 32) rfl (by kernel_rfl) (by kernel_rfl) (by kernel_rfl) (fun _ _ _ h => h) (Or.inr ⟨by rfl, rfl⟩) (by assumption) ?_)
         simp only [Act.put, List.setIfInBounds_toArray, List.set_cons_zero, List.set_cons_succ, List.getElem_toArray, List.getElem_cons_succ, List.getElem_cons_zero]
         first
           | (refine wpAnyH_take (i := 33) (v := ?_) rfl (by kernel_rfl) (by kernel_rfl) (by kernel_rfl) (fun _ _ _ h => h) (Or.inl ⟨by rfl, ?_⟩) (by assumption) ?_; rotate_left; · (intro w' hSw; go_simp; try rfl))
           | (refine wpAnyH_take (i := 33) rfl (by kernel_rfl) (by kernel_rfl) (by kernel_rfl) (fun _ _ _ h => h) (Or.inr ⟨by rfl, rfl⟩) (by assumption) ?_)
         simp only [Act.put, List.setIfInBounds_toArray, List.set_cons_zero, List.set_cons_succ, List.getElem_toArray, List.getElem_cons_succ, List.getElem_cons_zero]
         first
           | (refine wpAnyH_take (i := 34) (v := ?_) rfl (by kernel_rfl) (by kernel_rfl) (by kernel_rfl) (fun _ _ _ h => h) (Or.inl ⟨by rfl, ?_⟩) (by assumption) ?_; rotate_left; · (intro w' hSw; go_simp; try rfl))
           | (refine wpAnyH_take (i := 34) rfl (by kernel_rfl) (by kernel_rfl) (by kernel_rfl) (fun _ _ _ h => h) (Or.inr ⟨by rfl, rfl⟩) (by assumption) ?_)
         simp only [Act.put, List.setIfInBounds_toArray, List.set_cons_zero, List.set_cons_succ, List.getElem_toArray, List.getElem_cons_succ, List.getElem_cons_zero]
         first
           | (refine wpAnyH_take (i := 35) (v := ?_) rfl (by kernel_rfl) (by kernel_rfl) (by kernel_rfl) (fun _ _ _ h => h) (Or.inl ⟨by rfl, ?_⟩) (by assumption) ?_; rotate_left; · (intro w' hSw; go_simp; try rfl))
           | (refine wpAnyH_take (i := 35) rfl (by kernel_rfl) (by kernel_rfl) (by kernel_rfl) (fun _ _ _ h => h) (Or.inr ⟨by rfl, rfl⟩) (by assumption) ?_)
         simp only [Act.put, List.setIfInBounds_toArray, List.set_cons_zero, List.set_cons_succ, List.getElem_toArray, List.getElem_cons_succ, List.getElem_cons_zero]
         first
           | (refine wpAnyH_take (i := 36) (v := ?_) rfl (by kernel_rfl) (by kernel_rfl) (by kernel_rfl) (fun _ _ _ h => h) (Or.inl ⟨by rfl, ?_⟩) (by assumption) ?_; rotate_left; · (intro w' hSw; refine exec_load_nd (x := .tmp 7) (b := C) (off := 0) (l := (nW q B)) ?_ ?_ (R7.out w' hSw) <;> rfl))
           | (refine wpAnyH_take (i := 36) rfl (by kernel_rfl) (by kernel_rfl) (by kernel_rfl) (fun _ _ _ h => h) (Or.inr ⟨by rfl, rfl⟩) (by assumption) ?_)
         simp only [Act.put, List.setIfInBounds_toArray, List.set_cons_zero, List.set_cons_succ, List.getElem_toArray, List.getElem_cons_succ, List.getElem_cons_zero]
         first
           | (refine wpAnyH_take (i := 38) (v := ?_) rfl (by kernel_rfl) (by kernel_rfl) (by kernel_rfl) (fun _ _ _ h => h) (Or.inl ⟨by rfl, ?_⟩) (by assumption) ?_; rotate_left; · (intro w' hSw; refine exec_load_nd (x := .tmp 2) (b := B0) (off := 0) (l := x) ?_ ?_ (R2.out w' hSw) <;> rfl))
           | (refine wpAnyH_take (i := 38) rfl (by kernel_rfl) (by kernel_rfl) (by kernel_rfl) (fun _ _ _ h => h) (Or.inr ⟨by rfl, rfl⟩) (by assumption) ?_)
         simp only [Act.put, List.setIfInBounds_toArray, List.set_cons_zero, List.set_cons_succ, List.getElem_toArray, List.getElem_cons_succ, List.getElem_cons_zero]
         first
           | (refine wpAnyH_take (i := 40) (v := ?_) rfl (by kernel_rfl) (by kernel_rfl) (by kernel_rfl) (fun _ _ _ h => h) (Or.inl ⟨by rfl, ?_⟩) (by assumption) ?_; rotate_left; · (intro w' hSw; go_simp; try rfl))
           | (refine wpAnyH_take (i := 40) rfl (by kernel_rfl) (by kernel_rfl) (by kernel_rfl) (fun _ _ _ h => h) (Or.inr ⟨by rfl, rfl⟩) (by assumption) ?_)
         simp only [Act.put, List.setIfInBounds_toArray, List.set_cons_zero, List.set_cons_succ, List.getElem_toArray, List.getElem_cons_succ, List.getElem_cons_zero]
         refine wpAnyH_ready (rs := [37]) (by kernel_rfl) (by simp) ?_
         refine AllReadyH.cons rfl (fun K hK => ?_) AllReadyH.nil
         go_simp
         refine (Qw.out _ hHeld).mono ?_
         rintro e v10 ⟨rfl, hb⟩
         have hHeld : Below w11.heap.size w11 v10 := hHeld.trans (hb.mono hHeld.size)
         refine hK.out _ _ hHeld (fun hHeld => ?_)
         clear hK K hb
         try simp only [Act.put, List.setIfInBounds_toArray, List.set_cons_zero, List.set_cons_succ, List.getElem_toArray, List.getElem_cons_succ, List.getElem_cons_zero]
         refine wpAnyH_ready (rs := [39]) (by kernel_rfl) (by simp) ?_
         refine AllReadyH.cons rfl (fun K hK => ?_) AllReadyH.nil
         go_simp
         refine (Qx.out _ hHeld).mono ?_
         rintro e v11 ⟨rfl, hb⟩
         have hHeld : Below w11.heap.size w11 v11 := hHeld.trans (hb.mono hHeld.size)
         refine hK.out _ _ hHeld (fun hHeld => ?_)
         clear hK K hb
         try simp only [Act.put, List.setIfInBounds_toArray, List.set_cons_zero, List.set_cons_succ, List.getElem_toArray, List.getElem_cons_succ, List.getElem_cons_zero]
         first
           | (refine wpAnyH_take (i := 41) (v := ?_) rfl (by kernel_rfl) (by kernel_rfl) (by kernel_rfl) (fun _ _ _ h => h) (Or.inl ⟨by rfl, ?_⟩) (by assumption) ?_; rotate_left; · (intro w' hSw; go_simp; try rfl))
           | (refine wpAnyH_take (i := 41) rfl (by kernel_rfl) (by kernel_rfl) (by kernel_rfl) (fun _ _ _ h => h) (Or.inr ⟨by rfl, rfl⟩) (by assumption) ?_)
         simp only [Act.put, List.setIfInBounds_toArray, List.set_cons_zero, List.set_cons_succ, List.getElem_toArray, List.getElem_cons_succ, List.getElem_cons_zero]
         first
           | (refine wpAnyH_take (i := 42) (v := ?_) rfl (by kernel_rfl) (by kernel_rfl) (by kernel_rfl) (fun _ _ _ h => h) (Or.inl ⟨by rfl, ?_⟩) (by assumption) ?_; rotate_left; · (intro w' hSw; go_simp; try rfl))
           | (refine wpAnyH_take (i := 42) rfl (by kernel_rfl) (by kernel_rfl) (by kernel_rfl) (fun _ _ _ h => h) (Or.inr ⟨by rfl, rfl⟩) (by assumption) ?_)
         simp only [Act.put, List.setIfInBounds_toArray, List.set_cons_zero, List.set_cons_succ, List.getElem_toArray, List.getElem_cons_succ, List.getElem_cons_zero]
         first
           | (refine wpAnyH_take (i := 43) (v := ?_) rfl (by kernel_rfl) (by kernel_rfl) (by kernel_rfl) (fun _ _ _ h => h) (Or.inl ⟨by rfl, ?_⟩) (by assumption) ?_; rotate_left; · (intro w' hSw; go_simp; try rfl))
           | (refine wpAnyH_take (i := 43) rfl (by kernel_rfl) (by kernel_rfl) (by kernel_rfl) (fun _ _ _ h => h) (Or.inr ⟨by rfl, rfl⟩) (by assumption) ?_)
         simp only [Act.put, List.setIfInBounds_toArray, List.set_cons_zero, List.set_cons_succ, List.getElem_toArray, List.getElem_cons_succ, List.getElem_cons_zero]
         first
           | (refine wpAnyH_take (i := 44) (v := ?_) rfl (by kernel_rfl) (by kernel_rfl) (by kernel_rfl) (fun _ _ _ h => h) (Or.inl ⟨by rfl, ?_⟩) (by assumption) ?_; rotate_left; · (intro w' hSw; go_simp; try rfl))
           | (refine wpAnyH_take (i := 44) rfl (by kernel_rfl) (by kernel_rfl) (by kernel_rfl) (fun _ _ _ h => h) (Or.inr ⟨by rfl, rfl⟩) (by assumption) ?_)
         simp only [Act.put, List.setIfInBounds_toArray, List.set_cons_zero, List.set_cons_succ, List.getElem_toArray, List.getElem_cons_succ, List.getElem_cons_zero]
         refine wpAnyH_done (by kernel_rfl) ?_ _
         go_wp2_with fail
         go_ret
         exact ⟨by simp, HB.out.trans ((HW.out.trans (hHeld.mono HW.out.size)).mono HB.out.size)⟩
end Go.Proofs.Ytpjaahojoabgjaa.trw
end
section
namespace Go.Proofs.Ytpjaahojoabgjaa.trw
open Go Go.RowKit Go.ChangeShapes Go.WideShapes trp
instance : Inhabited Lab := ⟨⟨0, 0, 0, .bool false, [], false, 0, 0, 0, ⟨#[]⟩, 0, 0, .bool false⟩⟩
instance : Inhabited F := ⟨.nil⟩
section
variable {H : Type} {enc : TypeId × Value → H} {W : World}
end
end Go.Proofs.Ytpjaahojoabgjaa.trw
end
