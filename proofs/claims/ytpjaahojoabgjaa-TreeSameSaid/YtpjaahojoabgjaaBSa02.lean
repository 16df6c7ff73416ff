/- Texts that TreeSameLaw leans on, merged: what the functions of the program answer. -/
import Derived.BigQuiet
import Derived.ChangeSame
import Derived.Deep.Cut
import Derived.Deep.RegionHeld3
import Derived.Deep.SlicePairs
import Derived.Laws.BytesArg
import Derived.Laws.CopyRow
import Derived.Laws.OwnMore
import Derived.Laws.Rows
import Derived.Lib.Hide
import Derived.Lib.QuietBelow
import Derived.Lib.SmallJoins
import Derived.Maps.AppendAt
import Derived.OwnWalk
import Derived.Shelf.Abstract
import Derived.SizedLaws
import Derived.Test.YtpjaahojoabgjaaRows
import Derived.WalkKit
import Derived.WalkMore
import Derived.Test.YtpjaahojoabgjaaBSa01
section
namespace Go.Proofs.Ytpjaahojoabgjaa.trw
open Go Go.RowKit trp
theorem wpList_store_new {ops : Array Oper} {rest : List Oper} {o : Oper} {a : Act} {W : World} {Q : Exit → Act → World → Prop} (hgd : o.guard = none) (hd : o.dst = none) (x y : Operand) (ho : o.op = .store 25 x y) {w : World} {old : Array Value}
   (hW : W = w.alloc (.cells old 25)) (hs : old.size = 12) (hx : a.eval x = .pointer (some ⟨w.heap.size, 0, none⟩)) (l : Lab) (h1 : ∀ u ∈ ndC l, u.oneCell' = true) (hy : a.eval y = ndV l)
   (h : ∀ W2, Below w.heap.size w W2 → W2.heap[w.heap.size]? = some (.cells (ndC l).toArray 25) → wpList Try.prog ops Q rest a W2) : wpList Try.prog ops Q (o :: rest) a W :=
 wpList_plain hgd fun K hK => by
   subst hW
   have hn := heap_alloc_new w (.cells old 25)
   have hr := run_store_nd (w.alloc (.cells old 25)) w.heap.size old (ndC l).toArray hn hs rfl (by simpa using h1)
   have hy' : a.eval y = .agg (ndC l).toArray := hy
   unfold Oper.wp execOp
   simp only [ho, hx, hy', Instr.storeAt, Instr.sureAddr, Sem.run_bind, Sem.run_pure, Result.andThen_ok, hr]
   have hb := below_alloc w (.cells old 25)
   have := hK _ _ (h ((w.alloc (.cells old 25)).setRow w.heap.size (ndC l).toArray) ⟨rfl, rfl, rfl, by simp [World.setRow], fun k hk => (setRow_other _ _ _ _ (by omega)).trans (hb.block k hk)⟩ (setRow_heap _ _ _ _ _ _ hn))
   simpa [Oper.upon, hd, Act.put] using this
def moved (x : Lab) (p : Int) : Lab := { x with at_ := p }
theorem sameT_moved (x : Lab) (k : F) (p : Int) : sameT (x, k) (moved x p, k) = true := by simp [sameT, labEq, moved, sameF_refl]
theorem nd_moved {w : World} {x : Lab} {k : F} {p : Int} (h : NdAt w (x, k)) (hp : I64 p) : NdAt w (moved x p, k) := ⟨⟨h.1.1, hp, h.1.2.2⟩, h.2.1, h.2.2⟩
theorem row_moved {w : World} {B : Nat} {x : Lab} {p : Int} {t : TypeId} (h : w.heap[B]? = some (.cells (ndC x).toArray t)) : (w.setCell ⟨B, 1, none⟩ (.int .i64 p)).heap[B]? = some (.cells (ndC (moved x p)).toArray t) := by
 rw [heap_set h]
 rfl
set_option maxRecDepth 100000 in
set_option maxHeartbeats 4000000 in
theorem same_law (x : Lab) (k : F) (y : Lab) (k2 : F) (p : Int) (w : World) (hn : NdAt w (x, k)) (hm : NdAt w (y, k2)) (hp : I64 p) : Calls Try.prog 4 #[ndV x, ndV y, .int .i64 p] w (BoolB true w) := by
 by_cases h4 : k.size + 1 ≤ 4000
 rotate_left
 · by_cases h5 : k2.size + 1 ≤ 4000
   · go_enter Try.func4, Try.ntmps4
     go_upto_region 1 with (first | refine wpList_box_nd rfl _ rfl x rfl ?_ | refine wpList_box_nd rfl _ rfl y rfl ?_)
     generalize hg : (w.alloc _).alloc _ = W
     have HB : Hid (Below w.heap.size w W) := Lib.hid (by rw [← hg]; exact (below_alloc w _).alloc (by simp) _)
     have hr : W.heap[w.heap.size]? = some (.cells (ndC x).toArray 25) := by rw [← hg, heap_alloc_old _ _ (by simp)]; exact heap_alloc_new _ _
     have hs : W.heap[w.heap.size + 1]? = some (.cells (ndC y).toArray 25) := by
       rw [← hg]
       have := heap_alloc_new (w.alloc (.cells (ndC x).toArray 25)) (.cells (ndC y).toArray 25)
       simpa using this
     have hlt := (Array.getElem?_eq_some_iff.1 hr).1
     have hlt2 := (Array.getElem?_eq_some_iff.1 hs).1
     have R0 := Lib.hid (fun w1 (hb : Below W.heap.size W w1) => cells0 ((hb.block _ hlt).trans hr))
     have R1 := Lib.hid (fun w1 (hb : Below W.heap.size W w1) => cells0 ((hb.block _ hlt2).trans hs))
     have HN := Lib.hid (fun w1 (hb : Below W.heap.size W w1) => below_nd hb (below_nd HB.out hn))
     have HM := Lib.hid (fun w1 (hb : Below W.heap.size W w1) => below_nd hb (below_nd HB.out hm))
     clear hg hr hs hlt hlt2 hn hm
     obtain ⟨B1, hB1⟩ : ∃ B1, w.heap.size + 1 = B1 := ⟨_, rfl⟩
     obtain ⟨B0, hB0⟩ : ∃ B0, w.heap.size = B0 := ⟨_, rfl⟩
     rw [hB1] at R1 ⊢
     rw [hB0] at R0 ⊢
     go_wp2_with fail
     refine (awake_any W).mono ?_
     rintro e w1 ⟨rfl, hb⟩
     have H1 := Lib.hid hb
     clear hb
     have HS : Hid (∀ w1, Below W.heap.size W w1 → Calls Try.prog 12 #[ndV x] w1 (BoolB false w1)) := Lib.hid (fun w1 hb => by have := small_any x k w1 (HN.out w1 hb); rw [decide_eq_false h4] at this; exact this)
     have HT : Hid (∀ w1, Below W.heap.size W w1 → Calls Try.prog 12 #[ndV y] w1 (BoolB true w1)) := Lib.hid (fun w1 hb => by have := small_any y k2 w1 (HM.out w1 hb); rw [decide_eq_true h5] at this; exact this)
     clear HN HM h4 h5
     go_wp2_with (first | (refine wpList_load_nd rfl _ rfl B0 0 rfl x (R0.out w1 H1.out) ?_) | (refine wpList_load_nd rfl _ rfl B1 0 rfl y (R1.out w1 H1.out) ?_))
     refine (HS.out w1 H1.out).mono ?_
     rintro e w2 ⟨rfl, hb⟩
     have H2 := Lib.hid (H1.out.trans (hb.mono H1.out.size))
     clear hb
     go_wp2_with (first | (refine wpList_load_nd rfl _ rfl B0 0 rfl x (R0.out w2 H2.out) ?_) | (refine wpList_load_nd rfl _ rfl B1 0 rfl y (R1.out w2 H2.out) ?_))
     refine (HT.out w2 H2.out).mono ?_
     rintro e w3 ⟨rfl, hb⟩
     have H3 := Lib.hid (H2.out.trans (hb.mono H2.out.size))
     clear hb
     go_wp2_with fail
     go_ret
     exact ⟨rfl, HB.out.trans (H3.out.mono HB.out.size)⟩
   · go_enter Try.func4, Try.ntmps4
     go_upto_region 1 with (first | refine wpList_box_nd rfl _ rfl x rfl ?_ | refine wpList_box_nd rfl _ rfl y rfl ?_)
     generalize hg : (w.alloc _).alloc _ = W
     have HB : Hid (Below w.heap.size w W) := Lib.hid (by rw [← hg]; exact (below_alloc w _).alloc (by simp) _)
     have hr : W.heap[w.heap.size]? = some (.cells (ndC x).toArray 25) := by rw [← hg, heap_alloc_old _ _ (by simp)]; exact heap_alloc_new _ _
     have hs : W.heap[w.heap.size + 1]? = some (.cells (ndC y).toArray 25) := by
       rw [← hg]
       have := heap_alloc_new (w.alloc (.cells (ndC x).toArray 25)) (.cells (ndC y).toArray 25)
       simpa using this
     have hlt := (Array.getElem?_eq_some_iff.1 hr).1
     have hlt2 := (Array.getElem?_eq_some_iff.1 hs).1
     have R0 := Lib.hid (fun w1 (hb : Below W.heap.size W w1) => cells0 ((hb.block _ hlt).trans hr))
     have R1 := Lib.hid (fun w1 (hb : Below W.heap.size W w1) => cells0 ((hb.block _ hlt2).trans hs))
     have HN := Lib.hid (fun w1 (hb : Below W.heap.size W w1) => below_nd hb (below_nd HB.out hn))
     have HM := Lib.hid (fun w1 (hb : Below W.heap.size W w1) => below_nd hb (below_nd HB.out hm))
     clear hg hr hs hlt hlt2 hn hm
     obtain ⟨B1, hB1⟩ : ∃ B1, w.heap.size + 1 = B1 := ⟨_, rfl⟩
     obtain ⟨B0, hB0⟩ : ∃ B0, w.heap.size = B0 := ⟨_, rfl⟩
     rw [hB1] at R1 ⊢
     rw [hB0] at R0 ⊢
     go_wp2_with fail
     refine (awake_any W).mono ?_
     rintro e w1 ⟨rfl, hb⟩
     have H1 := Lib.hid hb
     clear hb
     have HS : Hid (∀ w1, Below W.heap.size W w1 → Calls Try.prog 12 #[ndV x] w1 (BoolB false w1)) := Lib.hid (fun w1 hb => by have := small_any x k w1 (HN.out w1 hb); rw [decide_eq_false h4] at this; exact this)
     have HT : Hid (∀ w1, Below W.heap.size W w1 → Calls Try.prog 12 #[ndV y] w1 (BoolB false w1)) := Lib.hid (fun w1 hb => by have := small_any y k2 w1 (HM.out w1 hb); rw [decide_eq_false h5] at this; exact this)
     clear HN HM h4 h5
     go_wp2_with (first | (refine wpList_load_nd rfl _ rfl B0 0 rfl x (R0.out w1 H1.out) ?_) | (refine wpList_load_nd rfl _ rfl B1 0 rfl y (R1.out w1 H1.out) ?_))
     refine (HS.out w1 H1.out).mono ?_
     rintro e w2 ⟨rfl, hb⟩
     have H2 := Lib.hid (H1.out.trans (hb.mono H1.out.size))
     clear hb
     go_wp2_with (first | (refine wpList_load_nd rfl _ rfl B0 0 rfl x (R0.out w2 H2.out) ?_) | (refine wpList_load_nd rfl _ rfl B1 0 rfl y (R1.out w2 H2.out) ?_))
     refine (HT.out w2 H2.out).mono ?_
     rintro e w3 ⟨rfl, hb⟩
     have H3 := Lib.hid (H2.out.trans (hb.mono H2.out.size))
     clear hb
     go_wp2_with fail
     go_ret
     exact ⟨rfl, HB.out.trans (H3.out.mono HB.out.size)⟩
 by_cases h5 : k2.size + 1 ≤ 4000
 rotate_left
 · go_enter Try.func4, Try.ntmps4
   go_upto_region 1 with (first | refine wpList_box_nd rfl _ rfl x rfl ?_ | refine wpList_box_nd rfl _ rfl y rfl ?_)
   generalize hg : (w.alloc _).alloc _ = W
   have HB : Hid (Below w.heap.size w W) := Lib.hid (by rw [← hg]; exact (below_alloc w _).alloc (by simp) _)
   have hr : W.heap[w.heap.size]? = some (.cells (ndC x).toArray 25) := by rw [← hg, heap_alloc_old _ _ (by simp)]; exact heap_alloc_new _ _
   have hs : W.heap[w.heap.size + 1]? = some (.cells (ndC y).toArray 25) := by
     rw [← hg]
     have := heap_alloc_new (w.alloc (.cells (ndC x).toArray 25)) (.cells (ndC y).toArray 25)
     simpa using this
   have hlt := (Array.getElem?_eq_some_iff.1 hr).1
   have hlt2 := (Array.getElem?_eq_some_iff.1 hs).1
   have R0 := Lib.hid (fun w1 (hb : Below W.heap.size W w1) => cells0 ((hb.block _ hlt).trans hr))
   have R1 := Lib.hid (fun w1 (hb : Below W.heap.size W w1) => cells0 ((hb.block _ hlt2).trans hs))
   have HN := Lib.hid (fun w1 (hb : Below W.heap.size W w1) => below_nd hb (below_nd HB.out hn))
   have HM := Lib.hid (fun w1 (hb : Below W.heap.size W w1) => below_nd hb (below_nd HB.out hm))
   clear hg hr hs hlt hlt2 hn hm
   obtain ⟨B1, hB1⟩ : ∃ B1, w.heap.size + 1 = B1 := ⟨_, rfl⟩
   obtain ⟨B0, hB0⟩ : ∃ B0, w.heap.size = B0 := ⟨_, rfl⟩
   rw [hB1] at R1 ⊢
   rw [hB0] at R0 ⊢
   go_wp2_with fail
   refine (awake_any W).mono ?_
   rintro e w1 ⟨rfl, hb⟩
   have H1 := Lib.hid hb
   clear hb
   have HS : Hid (∀ w1, Below W.heap.size W w1 → Calls Try.prog 12 #[ndV x] w1 (BoolB true w1)) := Lib.hid (fun w1 hb => by have := small_any x k w1 (HN.out w1 hb); rw [decide_eq_true h4] at this; exact this)
   have HT : Hid (∀ w1, Below W.heap.size W w1 → Calls Try.prog 12 #[ndV y] w1 (BoolB false w1)) := Lib.hid (fun w1 hb => by have := small_any y k2 w1 (HM.out w1 hb); rw [decide_eq_false h5] at this; exact this)
   clear HN HM h4 h5
   go_wp2_with (first | (refine wpList_load_nd rfl _ rfl B0 0 rfl x (R0.out w1 H1.out) ?_) | (refine wpList_load_nd rfl _ rfl B1 0 rfl y (R1.out w1 H1.out) ?_))
   refine (HS.out w1 H1.out).mono ?_
   rintro e w2 ⟨rfl, hb⟩
   have H2 := Lib.hid (H1.out.trans (hb.mono H1.out.size))
   clear hb
   go_wp2_with (first | (refine wpList_load_nd rfl _ rfl B0 0 rfl x (R0.out w2 H2.out) ?_) | (refine wpList_load_nd rfl _ rfl B1 0 rfl y (R1.out w2 H2.out) ?_))
   refine (HT.out w2 H2.out).mono ?_
   rintro e w3 ⟨rfl, hb⟩
   have H3 := Lib.hid (H2.out.trans (hb.mono H2.out.size))
   clear hb
   go_wp2_with fail
   go_ret
   exact ⟨rfl, HB.out.trans (H3.out.mono HB.out.size)⟩
 go_enter Try.func4, Try.ntmps4
 go_upto_region 1 with (first | refine wpList_box_nd rfl _ rfl x rfl ?_ | refine wpList_box_nd rfl _ rfl y rfl ?_)
 generalize hg : (w.alloc _).alloc _ = W
 have HB : Hid (Below w.heap.size w W) := Lib.hid (by rw [← hg]; exact (below_alloc w _).alloc (by simp) _)
 have hr : W.heap[w.heap.size]? = some (.cells (ndC x).toArray 25) := by rw [← hg, heap_alloc_old _ _ (by simp)]; exact heap_alloc_new _ _
 have hs : W.heap[w.heap.size + 1]? = some (.cells (ndC y).toArray 25) := by
   rw [← hg]
   have := heap_alloc_new (w.alloc (.cells (ndC x).toArray 25)) (.cells (ndC y).toArray 25)
   simpa using this
 have hlt := (Array.getElem?_eq_some_iff.1 hr).1
 have hlt2 := (Array.getElem?_eq_some_iff.1 hs).1
 have R0 := Lib.hid (fun w1 (hb : Below W.heap.size W w1) => cells0 ((hb.block _ hlt).trans hr))
 have R1 := Lib.hid (fun w1 (hb : Below W.heap.size W w1) => cells0 ((hb.block _ hlt2).trans hs))
 have HN := Lib.hid (fun w1 (hb : Below W.heap.size W w1) => below_nd hb (below_nd HB.out hn))
 have HM := Lib.hid (fun w1 (hb : Below W.heap.size W w1) => below_nd hb (below_nd HB.out hm))
 clear hg hr hs hlt hlt2 hn hm
 obtain ⟨B1, hB1⟩ : ∃ B1, w.heap.size + 1 = B1 := ⟨_, rfl⟩
 obtain ⟨B0, hB0⟩ : ∃ B0, w.heap.size = B0 := ⟨_, rfl⟩
 rw [hB1] at R1 ⊢
 rw [hB0] at R0 ⊢
 go_wp2_with fail
 refine (awake_any W).mono ?_
 rintro e w1 ⟨rfl, hb⟩
 have H1 := Lib.hid hb
 clear hb
 have HS : Hid (∀ w1, Below W.heap.size W w1 → Calls Try.prog 12 #[ndV x] w1 (BoolB true w1)) := Lib.hid (fun w1 hb => by have := small_any x k w1 (HN.out w1 hb); rw [decide_eq_true h4] at this; exact this)
 have HT : Hid (∀ w1, Below W.heap.size W w1 → Calls Try.prog 12 #[ndV y] w1 (BoolB true w1)) := Lib.hid (fun w1 hb => by have := small_any y k2 w1 (HM.out w1 hb); rw [decide_eq_true h5] at this; exact this)
 have HO := Lib.hid (node_one (HN.out W (Below.refl _ _)))
 go_wp2_with (first | (refine wpList_load_nd rfl _ rfl B0 0 rfl x (R0.out w1 H1.out) ?_) | (refine wpList_load_nd rfl _ rfl B1 0 rfl y (R1.out w1 H1.out) ?_))
 refine (HS.out w1 H1.out).mono ?_
 rintro e w2 ⟨rfl, hb⟩
 have H2 := Lib.hid (H1.out.trans (hb.mono H1.out.size))
 clear hb
 go_wp2_with (first | (refine wpList_load_nd rfl _ rfl B0 0 rfl x (R0.out w2 H2.out) ?_) | (refine wpList_load_nd rfl _ rfl B1 0 rfl y (R1.out w2 H2.out) ?_))
 refine (HT.out w2 H2.out).mono ?_
 rintro e w3 ⟨rfl, hb⟩
 have H3 := Lib.hid (H2.out.trans (hb.mono H2.out.size))
 clear hb
 go_wp2_with (first | (refine wpList_load_nd rfl _ rfl B0 0 rfl x (R0.out w3 H3.out) ?_) | (refine wpList_store_new rfl rfl _ _ rfl (w := w3) rfl rfl rfl x HO.out rfl ?_))
 intro W2 hb2 hr2
 have HB2 := Lib.hid (H3.out.trans (hb2.mono H3.out.size))
 obtain ⟨B2, hB2⟩ : ∃ B2, w3.heap.size = B2 := ⟨_, rfl⟩
 have hle : W.heap.size ≤ B2 := by rw [← hB2]; exact H3.out.size
 rw [hB2] at hr2 ⊢
 have c1 := cells12 hr2 1 _ rfl
 have c2 : W2.frozen? ⟨B2, 1, none⟩ = false := by simp [World.frozen?, hr2]
 have HR2 := Lib.hid (row_moved (p := p) hr2)
 have HW3 := Lib.hid (HB2.out.setCell (p := ⟨B2, 1, none⟩) hle (.int .i64 p))
 clear hr2 hb2 hB2 hle
 go_wp2_with fail
 generalize hg : W2.setCell ⟨B2, 1, none⟩ (.int .i64 p) = W3 at HR2 HW3 ⊢
 clear c1 c2 hg HB2
 have RA := Lib.hid (fun w' (h : Below W3.heap.size W3 w') => R0.out w' (HW3.out.trans (h.mono HW3.out.size)))
 have RB := Lib.hid (fun w' (h : Below W3.heap.size W3 w') => R1.out w' (HW3.out.trans (h.mono HW3.out.size)))
 have hl2 := (Array.getElem?_eq_some_iff.1 HR2.out).1
 have RC := Lib.hid (fun w' (h : Below W3.heap.size W3 w') => cells0 ((h.block B2 hl2).trans HR2.out))
 have NA := Lib.hid (fun w' (h : Below W3.heap.size W3 w') => HN.out w' (HW3.out.trans (h.mono HW3.out.size)))
 have NB := Lib.hid (fun w' (h : Below W3.heap.size W3 w') => HM.out w' (HW3.out.trans (h.mono HW3.out.size)))
 obtain ⟨r, hr⟩ : ∃ r, sameT (x, k) (y, k2) = r := ⟨_, rfl⟩
 have HA : Hid (∀ w1, Below W3.heap.size W3 w1 → Calls Try.prog 15 #[ndV x, ndV y] w1 (BoolB r w1)) := Lib.hid (fun w1 hb => by have := psame_any (x, k) (y, k2) w1 (NA.out w1 hb) (NB.out w1 hb) h4 h5; rw [hr] at this; exact this)
 have HD : Hid (∀ w1, Below W3.heap.size W3 w1 → Calls Try.prog 16 #[ndV x, ndV y] w1 (BoolB r w1)) := Lib.hid (fun w1 hb => by have := rsame_any (k.size + 1) (x, k) (y, k2) w1 (Nat.lt_succ_self _) (NA.out w1 hb) (NB.out w1 hb); rw [hr] at this; exact this)
 have HE : Hid (∀ w1, Below W3.heap.size W3 w1 → Calls Try.prog 15 #[ndV x, ndV (moved x p)] w1 (BoolB true w1)) := Lib.hid (fun w1 hb => by have := psame_any (x, k) (moved x p, k) w1 (NA.out w1 hb) (nd_moved (NA.out w1 hb) hp) h4 h4; rw [sameT_moved] at this; exact this)
 have HF : Hid (∀ w1, Below W3.heap.size W3 w1 → Calls Try.prog 15 #[ndV y, ndV y] w1 (BoolB true w1)) := Lib.hid (fun w1 hb => by have := psame_any (y, k2) (y, k2) w1 (NB.out w1 hb) (NB.out w1 hb) h5 h5; rw [sameT_refl] at this; exact this)
 have er : (r == r) = true := by simp
 clear hr NA NB HN HM h4 h5 hl2
 refine wp_region_held_drew (S := fun w' => Below W3.heap.size W3 w') (by kernel_rfl) (below_drew W3) (fun hHeld => ?_)
 first
   | (refine wpAnyH_take (i := 0) (v := ?_) rfl (by kernel_rfl) (by kernel_rfl) (by kernel_rfl) (fun _ _ _ h => h) (Or.inl ⟨by rfl, ?_⟩) (by assumption) ?_; rotate_left; · (intro w' hSw; refine exec_load_nd (x := .tmp 3) (b := B0) (off := 0) (l := x) ?_ ?_ (RA.out w' hSw) <;> rfl))
   | (refine wpAnyH_take (i := 0) rfl (by kernel_rfl) (by kernel_rfl) (by kernel_rfl) (fun _ _ _ h => h) (Or.inr ⟨by rfl, rfl⟩) (by assumption) ?_)
 simp only [Act.put, List.setIfInBounds_toArray, List.set_cons_zero, List.set_cons_succ, List.getElem_toArray, List.getElem_cons_zero]
 first
   | (refine wpAnyH_take (i := 1) (v := ?_) rfl (by kernel_rfl) (by kernel_rfl) (by kernel_rfl) (fun _ _ _ h => h) (Or.inl ⟨by rfl, ?_⟩) (by assumption) ?_; rotate_left; · (intro w' hSw; refine exec_load_nd (x := .tmp 4) (b := B1) (off := 0) (l := y) ?_ ?_ (RB.out w' hSw) <;> rfl))
   | (refine wpAnyH_take (i := 1) rfl (by kernel_rfl) (by kernel_rfl) (by kernel_rfl) (fun _ _ _ h => h) (Or.inr ⟨by rfl, rfl⟩) (by assumption) ?_)
 simp only [Act.put, List.setIfInBounds_toArray, List.set_cons_zero, List.set_cons_succ, List.getElem_toArray, List.getElem_cons_succ, List.getElem_cons_zero]
 first
   | (refine wpAnyH_take (i := 3) (v := ?_) rfl (by kernel_rfl) (by kernel_rfl) (by kernel_rfl) (fun _ _ _ h => h) (Or.inl ⟨by rfl, ?_⟩) (by assumption) ?_; rotate_left; · (intro w' hSw; refine exec_load_nd (x := .tmp 3) (b := B0) (off := 0) (l := x) ?_ ?_ (RA.out w' hSw) <;> rfl))
   | (refine wpAnyH_take (i := 3) rfl (by kernel_rfl) (by kernel_rfl) (by kernel_rfl) (fun _ _ _ h => h) (Or.inr ⟨by rfl, rfl⟩) (by assumption) ?_)
 simp only [Act.put, List.setIfInBounds_toArray, List.set_cons_zero, List.set_cons_succ, List.getElem_toArray, List.getElem_cons_succ, List.getElem_cons_zero]
 first
   | (refine wpAnyH_take (i := 4) (v := ?_) rfl (by kernel_rfl) (by kernel_rfl) (by kernel_rfl) (fun _ _ _ h => h) (Or.inl ⟨by rfl, ?_⟩) (by assumption) ?_; rotate_left; · (intro w' hSw; refine exec_load_nd (x := .tmp 4) (b := B1) (off := 0) (l := y) ?_ ?_ (RB.out w' hSw) <;> rfl))
   | (refine wpAnyH_take (i := 4) rfl (by kernel_rfl) (by kernel_rfl) (by kernel_rfl) (fun _ _ _ h => h) (Or.inr ⟨by rfl, rfl⟩) (by assumption) ?_)
 simp only [Act.put, List.setIfInBounds_toArray, List.set_cons_zero, List.set_cons_succ, List.getElem_toArray, List.getElem_cons_succ, List.getElem_cons_zero]
 refine wpAnyH_ready (rs := [2]) (by kernel_rfl) (by simp) ?_
 refine AllReadyH.cons rfl (fun K hK => ?_) AllReadyH.nil
 go_simp
 refine (HA.out _ hHeld).mono ?_
 rintro e w5 ⟨rfl, hb⟩
 have hHeld : Below W3.heap.size W3 w5 := hHeld.trans (hb.mono hHeld.size)
 refine hK.out _ _ hHeld (fun hHeld => ?_)
 clear hK K hb
 try simp only [Act.put, List.setIfInBounds_toArray, List.set_cons_zero, List.set_cons_succ, List.getElem_toArray, List.getElem_cons_succ, List.getElem_cons_zero]
 refine wpAnyH_ready (rs := [5]) (by kernel_rfl) (by simp) ?_
 refine AllReadyH.cons rfl (fun K hK => ?_) AllReadyH.nil
 go_simp
 refine (HD.out _ hHeld).mono ?_
 rintro e w6 ⟨rfl, hb⟩
 have hHeld : Below W3.heap.size W3 w6 := hHeld.trans (hb.mono hHeld.size)
 refine hK.out _ _ hHeld (fun hHeld => ?_)
 clear hK K hb
 try simp only [Act.put, List.setIfInBounds_toArray, List.set_cons_zero, List.set_cons_succ, List.getElem_toArray, List.getElem_cons_succ, List.getElem_cons_zero]
 first
   | (refine wpAnyH_take (i := 6) (v := ?_) rfl (by kernel_rfl) (by kernel_rfl) (by kernel_rfl) (fun _ _ _ h => h) (Or.inl ⟨by rfl, ?_⟩) (by assumption) ?_; rotate_left; · (intro w' hSw; go_simp; try rfl))
   | (refine wpAnyH_take (i := 6) rfl (by kernel_rfl) (by kernel_rfl) (by kernel_rfl) (fun _ _ _ h => h) (Or.inr ⟨by rfl, rfl⟩) (by assumption) ?_)
 simp only [Act.put, List.setIfInBounds_toArray, List.set_cons_zero, List.set_cons_succ, List.getElem_toArray, List.getElem_cons_succ, List.getElem_cons_zero]
 first
   | (refine wpAnyH_take (i := 7) (v := ?_) rfl (by kernel_rfl) (by kernel_rfl) (by kernel_rfl) (fun _ _ _ h => h) (Or.inl ⟨by rfl, ?_⟩) (by assumption) ?_; rotate_left; · (intro w' hSw; go_simp; try rfl))
   | (refine wpAnyH_take (i := 7) rfl (by kernel_rfl) (by kernel_rfl) (by kernel_rfl) (fun _ _ _ h => h) (Or.inr ⟨by rfl, rfl⟩) (by assumption) ?_)
 simp only [Act.put, List.setIfInBounds_toArray, List.set_cons_zero, List.set_cons_succ, List.getElem_toArray, List.getElem_cons_succ, List.getElem_cons_zero]
 first
   | (refine wpAnyH_take (i := 8) (v := ?_) rfl (by kernel_rfl) (by kernel_rfl) (by kernel_rfl) (fun _ _ _ h => h) (Or.inl ⟨by rfl, ?_⟩) (by assumption) ?_; rotate_left; · (intro w' hSw; refine exec_load_nd (x := .tmp 3) (b := B0) (off := 0) (l := x) ?_ ?_ (RA.out w' hSw) <;> rfl))
   | (refine wpAnyH_take (i := 8) rfl (by kernel_rfl) (by kernel_rfl) (by kernel_rfl) (fun _ _ _ h => h) (Or.inr ⟨by rfl, rfl⟩) (by assumption) ?_)
 simp only [Act.put, List.setIfInBounds_toArray, List.set_cons_zero, List.set_cons_succ, List.getElem_toArray, List.getElem_cons_succ, List.getElem_cons_zero]
 first
   | (refine wpAnyH_take (i := 9) (v := ?_) rfl (by kernel_rfl) (by kernel_rfl) (by kernel_rfl) (fun _ _ _ h => h) (Or.inl ⟨by rfl, ?_⟩) (by assumption) ?_; rotate_left; · (intro w' hSw; refine exec_load_nd (x := .tmp 10) (b := B2) (off := 0) (l := (moved x p)) ?_ ?_ (RC.out w' hSw) <;> rfl))
   | (refine wpAnyH_take (i := 9) rfl (by kernel_rfl) (by kernel_rfl) (by kernel_rfl) (fun _ _ _ h => h) (Or.inr ⟨by rfl, rfl⟩) (by assumption) ?_)
 simp only [Act.put, List.setIfInBounds_toArray, List.set_cons_zero, List.set_cons_succ, List.getElem_toArray, List.getElem_cons_succ, List.getElem_cons_zero]
 refine wpAnyH_ready (rs := [10]) (by kernel_rfl) (by simp) ?_
 refine AllReadyH.cons rfl (fun K hK => ?_) AllReadyH.nil
 go_simp
 refine (HE.out _ hHeld).mono ?_
 rintro e w7 ⟨rfl, hb⟩
 have hHeld : Below W3.heap.size W3 w7 := hHeld.trans (hb.mono hHeld.size)
 refine hK.out _ _ hHeld (fun hHeld => ?_)
 clear hK K hb
 try simp only [Act.put, List.setIfInBounds_toArray, List.set_cons_zero, List.set_cons_succ, List.getElem_toArray, List.getElem_cons_succ, List.getElem_cons_zero]
 first
   | (refine wpAnyH_take (i := 11) (v := ?_) rfl (by kernel_rfl) (by kernel_rfl) (by kernel_rfl) (fun _ _ _ h => h) (Or.inl ⟨by rfl, ?_⟩) (by assumption) ?_; rotate_left; · (intro w' hSw; go_simp; try rfl))
   | (refine wpAnyH_take (i := 11) rfl (by kernel_rfl) (by kernel_rfl) (by kernel_rfl) (fun _ _ _ h => h) (Or.inr ⟨by rfl, rfl⟩) (by assumption) ?_)
 simp only [Act.put, List.setIfInBounds_toArray, List.set_cons_zero, List.set_cons_succ, List.getElem_toArray, List.getElem_cons_succ, List.getElem_cons_zero]
 first
   | (refine wpAnyH_take (i := 12) (v := ?_) rfl (by kernel_rfl) (by kernel_rfl) (by kernel_rfl) (fun _ _ _ h => h) (Or.inl ⟨by rfl, ?_⟩) (by assumption) ?_; rotate_left; · (intro w' hSw; go_simp; try rfl))
   | (refine wpAnyH_take (i := 12) rfl (by kernel_rfl) (by kernel_rfl) (by kernel_rfl) (fun _ _ _ h => h) (Or.inr ⟨by rfl, rfl⟩) (by assumption) ?_)
 simp only [Act.put, List.setIfInBounds_toArray, List.set_cons_zero, List.set_cons_succ, List.getElem_toArray, List.getElem_cons_succ, List.getElem_cons_zero]
 first
   | (refine wpAnyH_take (i := 13) (v := ?_) rfl (by kernel_rfl) (by kernel_rfl) (by kernel_rfl) (fun _ _ _ h => h) (Or.inl ⟨by rfl, ?_⟩) (by assumption) ?_; rotate_left; · (intro w' hSw; refine exec_load_nd (x := .tmp 4) (b := B1) (off := 0) (l := y) ?_ ?_ (RB.out w' hSw) <;> rfl))
   | (refine wpAnyH_take (i := 13) rfl (by kernel_rfl) (by kernel_rfl) (by kernel_rfl) (fun _ _ _ h => h) (Or.inr ⟨by rfl, rfl⟩) (by assumption) ?_)
 simp only [Act.put, List.setIfInBounds_toArray, List.set_cons_zero, List.set_cons_succ, List.getElem_toArray, List.getElem_cons_succ, List.getElem_cons_zero]
 first
   | (refine wpAnyH_take (i := 14) (v := ?_) rfl (by kernel_rfl) (by kernel_rfl) (by kernel_rfl) (fun _ _ _ h => h) (Or.inl ⟨by rfl, ?_⟩) (by assumption) ?_; rotate_left; · (intro w' hSw; refine exec_load_nd (x := .tmp 4) (b := B1) (off := 0) (l := y) ?_ ?_ (RB.out w' hSw) <;> rfl))
   | (refine wpAnyH_take (i := 14) rfl (by kernel_rfl) (by kernel_rfl) (by kernel_rfl) (fun _ _ _ h => h) (Or.inr ⟨by rfl, rfl⟩) (by assumption) ?_)
 simp only [Act.put, List.setIfInBounds_toArray, List.set_cons_zero, List.set_cons_succ, List.getElem_toArray, List.getElem_cons_succ, List.getElem_cons_zero]
 refine wpAnyH_ready (rs := [15]) (by kernel_rfl) (by simp) ?_
 refine AllReadyH.cons rfl (fun K hK => ?_) AllReadyH.nil
 go_simp
 refine (HF.out _ hHeld).mono ?_
 rintro e w8 ⟨rfl, hb⟩
 have hHeld : Below W3.heap.size W3 w8 := hHeld.trans (hb.mono hHeld.size)
 refine hK.out _ _ hHeld (fun hHeld => ?_)
 clear hK K hb
 try simp only [Act.put, List.setIfInBounds_toArray, List.set_cons_zero, List.set_cons_succ, List.getElem_toArray, List.getElem_cons_succ, List.getElem_cons_zero]
 first
   | (refine wpAnyH_take (i := 16) (v := ?_) rfl (by kernel_rfl) (by kernel_rfl) (by kernel_rfl) (fun _ _ _ h => h) (Or.inl ⟨by rfl, ?_⟩) (by assumption) ?_; rotate_left; · (intro w' hSw; go_simp; try rfl))
   | (refine wpAnyH_take (i := 16) rfl (by kernel_rfl) (by kernel_rfl) (by kernel_rfl) (fun _ _ _ h => h) (Or.inr ⟨by rfl, rfl⟩) (by assumption) ?_)
 simp only [Act.put, List.setIfInBounds_toArray, List.set_cons_zero, List.set_cons_succ, List.getElem_toArray, List.getElem_cons_succ, List.getElem_cons_zero]
 first
   | (refine wpAnyH_take (i := 17) (v := ?_) rfl (by kernel_rfl) (by kernel_rfl) (by kernel_rfl) (fun _ _ _ h => h) (Or.inl ⟨by rfl, ?_⟩) (by assumption) ?_; rotate_left; · (intro w' hSw; go_simp; try rfl))
   | (refine wpAnyH_take (i := 17) rfl (by kernel_rfl) (by kernel_rfl) (by kernel_rfl) (fun _ _ _ h => h) (Or.inr ⟨by rfl, rfl⟩) (by assumption) ?_)
 simp only [Act.put, List.setIfInBounds_toArray, List.set_cons_zero, List.set_cons_succ, List.getElem_toArray, List.getElem_cons_succ, List.getElem_cons_zero]
 refine wpAnyH_done (by kernel_rfl) ?_ _
 go_wp2_with fail
 go_ret
 exact ⟨rfl, HB.out.trans ((HW3.out.trans (hHeld.mono HW3.out.size)).mono HB.out.size)⟩
end Go.Proofs.Ytpjaahojoabgjaa.trw
end
section
namespace Go.Proofs.Ytpjaahojoabgjaa.trw
open Go Go.RowKit Go.ChangeShapes Go.WideShapes trp
instance : Inhabited Lab := ⟨⟨0, 0, 0, .bool false, [], false, 0, 0, 0, ⟨#[]⟩, 0, 0, .bool false⟩⟩
instance : Inhabited F := ⟨.nil⟩
section
variable {H : Type} {enc : TypeId × Value → H} {W : World}
end
end Go.Proofs.Ytpjaahojoabgjaa.trw
end
