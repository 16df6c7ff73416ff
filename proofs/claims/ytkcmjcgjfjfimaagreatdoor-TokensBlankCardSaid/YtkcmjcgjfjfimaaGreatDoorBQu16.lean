/- Texts that TokensQuoteLaw leans on, merged: what the functions of the program answer. -/
import Derived.Test.YtkcmjcgjfjfimaaGreatDoorBQu15
section
namespace Go.Proofs.YtkcmjcgjfjfimaaGreatDoor.tkw
open Go Go.RowKit Go.Maps utfp utfw ucdp setp setw prp tkp
set_option maxRecDepth 100000 in
set_option maxHeartbeats 8000000 in
theorem settings_any {C : Cf} {w : World} {a f : Nat} {T : Rw} (h : LX C w a f T) : Calls Tryz.prog 105 #[.pointer (some ⟨C.L, 0, none⟩)] w (RP C w (tkp.one f (C.p.settings f a)) (PtOk C w T)) := by
 obtain ⟨⟨on, a1⟩, hl⟩ : ∃ d, C.p.letters a = d := ⟨_, rfl⟩
 have hrl := fun (g : Nat) (hg : w.heap.size ≤ g) => h.row_lt hg
 have hk0 := Kept.refl w.heap.size C.L w
 have hB := h.hb
 have HL := Lib.hid hl
 cases h1 : C.p.has [45] a1 with
 | true =>
   obtain ⟨⟨off, a2⟩, hl2⟩ : ∃ d, C.p.letters (a1 + 1) = d := ⟨_, rfl⟩
   have HL2 := Lib.hid hl2
   have hmin : C.p.minus a1 = (off, a2) := by
     unfold Pt.minus
     rw [if_pos h1, hl2]
   have hs : C.p.settings f a = (if C.p.has [58] a2 = true then .ok ({ kind := 10, n := 2, on := (on : Int), off := ((off : Nat) : Int) }, a2 + 1)
     else match C.p.close f a2 with
       | .error e => .error e
       | .ok b => .ok ({ kind := 15, on := (on : Int), off := ((off : Nat) : Int) }, b)) := by
     unfold Pt.settings
     rw [hl]
     simp only [hmin]
     rfl
   have H1 := Lib.hid h1
   clear h1 hmin hl hl2
   cases h2 : C.p.has [58] a2 with
   | true =>
     have HS := Lib.hid (show tkp.one f (C.p.settings f a) = .ok ([lay ({ kind := 10, n := 2, on := (on : Int), off := (off : Int) } : Tk) f (a2 + 1)], a2 + 1) by rw [hs, if_pos h2]; rfl)
     have H2 := Lib.hid h2
     clear hs h2
     go_enter Tryz.func105, Tryz.ntmps105
     go_wp2_with fail
     refine Calls.mono (letters_any h) ?_
     intro e1 w1 hr
     rw [HL.out] at hr
     obtain ⟨rfl, hx1, hkn⟩ := hr
     have hk1 := hk0.then hkn
     have hg1 : w.heap.size ≤ w1.heap.size := hk1.size
     have hbA := below_al w1 (.cells (tkR (.slice none 0 0) { kind := 0, on := (on : Int) }) 30)
     have hx2 := hx1.below hbA
     have hk2 := hk1.then (Kept.of_below (L := C.L) hbA)
     clear hkn hbA
     go_wp2_with fail
     refine Calls.mono (take_y hx2 ⟨#[45]⟩ [45] 1 rfl rfl (by decide) H1.out) ?_
     rintro e3 w3 ⟨rfl, hx3, hkn⟩
     have hk3 := hk2.then hkn
     have HG3 := Lib.hid ((hkn.block w1.heap.size (by rw [World.size_alloc]; omega) (by have := hx1.cells.lt; omega)).trans (heap_alloc_new w1 _))
     have hg3 : w1.heap.size < w3.heap.size := by
       rcases Nat.lt_or_ge w1.heap.size w3.heap.size with hh | hh
       · exact hh
       · have := HG3.out
         rw [Array.getElem?_eq_none hh] at this
         cases this
     clear hkn hx2 hk2
     go_wp2_with fail
     refine Calls.mono (letters_any hx3) ?_
     intro e4 w4 hr
     rw [HL2.out] at hr
     obtain ⟨rfl, hx4, hkn⟩ := hr
     have hk4 := hk3.then hkn
     have HG4 := Lib.hid ((hkn.block w1.heap.size hg3 (by have := hx1.cells.lt; omega)).trans HG3.out)
     have c11 : w4.cell? ⟨w1.heap.size, 11, none⟩ = some (.int .i64 0) := by simp [World.cell?, HG4.out, tkR]
     have fz11 : w4.frozen? ⟨w1.heap.size, 11, none⟩ = false := by simp [World.frozen?, HG4.out]
     clear hkn
     go_wp2_with fail
     have hpk : Poke w1.heap.size w4 (w4.setCell ⟨w1.heap.size, 11, none⟩ (.int .i64 (off : Int))) := poke_cell w4 w1.heap.size 11 (.int .i64 (off : Int))
     have HG5 : Hid ((w4.setCell ⟨w1.heap.size, 11, none⟩ (.int .i64 (off : Int))).heap[w1.heap.size]? = some (.cells (tkR (.slice none 0 0) { kind := 0, on := (on : Int), off := (off : Int) }) 30 (0, 0))) := Lib.hid (heap_set (o := 11) (v := .int .i64 (off : Int)) (HG4.out))
     have hx5 := hx4.poke HG4.out (Nat.le_trans hB hg1) (hrl _ hg1) hpk
     have hk5 := hk4.poke hpk hg1
     clear hpk c11 fz11
     generalize (w4.setCell ⟨w1.heap.size, 11, none⟩ (.int .i64 (off : Int))) = w5 at *
     have hg5 : w1.heap.size < w5.heap.size := by
       rcases Nat.lt_or_ge w1.heap.size w5.heap.size with hh | hh
       · exact hh
       · have := HG5.out
         rw [Array.getElem?_eq_none hh] at this
         cases this
     have tl5 := hx5.tl
     refine Calls.mono (take_y hx5 ⟨#[58]⟩ [58] 1 rfl rfl (by decide) H2.out) ?_
     rintro e6 w6 ⟨rfl, hx6, hkn⟩
     have hk6 := hk5.then hkn
     have HG6 := Lib.hid ((hkn.block w1.heap.size hg5 (by have := hx1.cells.lt; omega)).trans HG5.out)
     have c0 : w6.cell? ⟨w1.heap.size, 0, none⟩ = some (.int .i64 0) := by simp [World.cell?, HG6.out, tkR]
     have c6 : w6.cell? ⟨w1.heap.size, 6, none⟩ = some (.int .i64 0) := by simp [World.cell?, HG6.out, tkR]
     have fz0 : w6.frozen? ⟨w1.heap.size, 0, none⟩ = false := by simp [World.frozen?, HG6.out]
     have fz6 : w6.frozen? ⟨w1.heap.size, 6, none⟩ = false := by simp [World.frozen?, HG6.out]
     clear hkn
     go_upto_region 7 with (fail)
     have hpk : Poke w1.heap.size w6 ((w6.setCell ⟨w1.heap.size, 0, none⟩ (.int .i64 10)).setCell ⟨w1.heap.size, 6, none⟩ (.int .i64 2)) := (poke_cell w6 w1.heap.size 0 (.int .i64 10)).trans (poke_cell (w6.setCell ⟨w1.heap.size, 0, none⟩ (.int .i64 10)) w1.heap.size 6 (.int .i64 2))
     have HG7 : Hid (((w6.setCell ⟨w1.heap.size, 0, none⟩ (.int .i64 10)).setCell ⟨w1.heap.size, 6, none⟩ (.int .i64 2)).heap[w1.heap.size]? = some (.cells (tkR (.slice none 0 0) ({ kind := 10, n := 2, on := (on : Int), off := (off : Int) } : Tk)) 30 (0, 0))) := Lib.hid (heap_set (o := 6) (v := .int .i64 2) (heap_set (o := 0) (v := .int .i64 10) (HG6.out)))
     have hx7 := hx6.poke HG6.out (Nat.le_trans hB hg1) (hrl _ hg1) hpk
     have hk7 := hk6.poke hpk hg1
     clear hpk c0 c6 fz0 fz6
     generalize ((w6.setCell ⟨w1.heap.size, 0, none⟩ (.int .i64 10)).setCell ⟨w1.heap.size, 6, none⟩ (.int .i64 2)) = w7 at *
     go_wp2_with (refine wpList_load_tok rfl _ rfl w1.heap.size rfl (tkR (.slice none 0 0) ({ kind := 10, n := 2, on := (on : Int), off := (off : Int) } : Tk)) HG7.out rfl ?_)
     refine Calls.mono (put_any hx7 (.slice none 0 0) ({ kind := 10, n := 2, on := (on : Int), off := (off : Int) } : Tk) (ownR_nil _ _) (by omega)) ?_
     intro e18 w18 hr
     have HP := Lib.hid (ptOk_put hr (hk7.mono hB))
     obtain ⟨rfl, _, _⟩ := hr
     go_wp2_with fail
     go_end0
     exact rp_ok HS.out HP.out
   | false =>
     rw [if_neg (by simp [h2])] at hs
     have H2 := Lib.hid h2
     clear h2
     cases h4 : C.p.has [41] a2 with
     | false =>
       have hcl : C.p.close f a2 = .error (C.p.broken f a2) := by unfold Pt.close; rw [if_neg (by simp [h4])]
       rw [hcl] at hs
       have HS := Lib.hid (show tkp.one f (C.p.settings f a) = .error (C.p.broken f a2) by rw [hs]; rfl)
       have HCL := Lib.hid hcl
       clear hs hcl h4
       go_enter Tryz.func105, Tryz.ntmps105
       go_wp2_with fail
       refine Calls.mono (letters_any h) ?_
       intro e1 w1 hr
       rw [HL.out] at hr
       obtain ⟨rfl, hx1, hkn⟩ := hr
       have hk1 := hk0.then hkn
       have hg1 : w.heap.size ≤ w1.heap.size := hk1.size
       have hbA := below_al w1 (.cells (tkR (.slice none 0 0) { kind := 0, on := (on : Int) }) 30)
       have hx2 := hx1.below hbA
       have hk2 := hk1.then (Kept.of_below (L := C.L) hbA)
       clear hkn hbA
       go_wp2_with fail
       refine Calls.mono (take_y hx2 ⟨#[45]⟩ [45] 1 rfl rfl (by decide) H1.out) ?_
       rintro e3 w3 ⟨rfl, hx3, hkn⟩
       have hk3 := hk2.then hkn
       have HG3 := Lib.hid ((hkn.block w1.heap.size (by rw [World.size_alloc]; omega) (by have := hx1.cells.lt; omega)).trans (heap_alloc_new w1 _))
       have hg3 : w1.heap.size < w3.heap.size := by
         rcases Nat.lt_or_ge w1.heap.size w3.heap.size with hh | hh
         · exact hh
         · have := HG3.out
           rw [Array.getElem?_eq_none hh] at this
           cases this
       clear hkn hx2 hk2
       go_wp2_with fail
       refine Calls.mono (letters_any hx3) ?_
       intro e4 w4 hr
       rw [HL2.out] at hr
       obtain ⟨rfl, hx4, hkn⟩ := hr
       have hk4 := hk3.then hkn
       have HG4 := Lib.hid ((hkn.block w1.heap.size hg3 (by have := hx1.cells.lt; omega)).trans HG3.out)
       have c11 : w4.cell? ⟨w1.heap.size, 11, none⟩ = some (.int .i64 0) := by simp [World.cell?, HG4.out, tkR]
       have fz11 : w4.frozen? ⟨w1.heap.size, 11, none⟩ = false := by simp [World.frozen?, HG4.out]
       clear hkn
       go_wp2_with fail
       have hpk : Poke w1.heap.size w4 (w4.setCell ⟨w1.heap.size, 11, none⟩ (.int .i64 (off : Int))) := poke_cell w4 w1.heap.size 11 (.int .i64 (off : Int))
       have HG5 : Hid ((w4.setCell ⟨w1.heap.size, 11, none⟩ (.int .i64 (off : Int))).heap[w1.heap.size]? = some (.cells (tkR (.slice none 0 0) { kind := 0, on := (on : Int), off := (off : Int) }) 30 (0, 0))) := Lib.hid (heap_set (o := 11) (v := .int .i64 (off : Int)) (HG4.out))
       have hx5 := hx4.poke HG4.out (Nat.le_trans hB hg1) (hrl _ hg1) hpk
       have hk5 := hk4.poke hpk hg1
       clear hpk c11 fz11
       generalize (w4.setCell ⟨w1.heap.size, 11, none⟩ (.int .i64 (off : Int))) = w5 at *
       have hg5 : w1.heap.size < w5.heap.size := by
         rcases Nat.lt_or_ge w1.heap.size w5.heap.size with hh | hh
         · exact hh
         · have := HG5.out
           rw [Array.getElem?_eq_none hh] at this
           cases this
       have tl5 := hx5.tl
       refine Calls.mono (take_n hx5 ⟨#[58]⟩ [58] rfl (by decide) H2.out) ?_
       rintro e6 w6 ⟨rfl, hx6, hkn⟩
       have hk6 := hk5.then hkn
       have HG6 := Lib.hid ((hkn.block w1.heap.size hg5 (by have := hx1.cells.lt; omega)).trans HG5.out)
       clear hkn
       go_wp2_with fail
       refine Calls.mono (close_any hx6) ?_
       intro e7 w7 hr
       rw [HCL.out] at hr
       obtain ⟨rfl, hkn⟩ := hr
       exact ⟨rfl, rp_err HS.out ⟨rfl, (hk6.mono hB).trans hkn⟩⟩
     | true =>
       have hcl : C.p.close f a2 = .ok (a2 + 1) := by unfold Pt.close; rw [if_pos h4]
       rw [hcl] at hs
       have HS := Lib.hid (show tkp.one f (C.p.settings f a) = .ok ([lay ({ kind := 15, on := (on : Int), off := (off : Int) } : Tk) f (a2 + 1)], a2 + 1) by rw [hs]; rfl)
       have HCL := Lib.hid hcl
       clear hs hcl h4
       go_enter Tryz.func105, Tryz.ntmps105
       go_wp2_with fail
       refine Calls.mono (letters_any h) ?_
       intro e1 w1 hr
       rw [HL.out] at hr
       obtain ⟨rfl, hx1, hkn⟩ := hr
       have hk1 := hk0.then hkn
       have hg1 : w.heap.size ≤ w1.heap.size := hk1.size
       have hbA := below_al w1 (.cells (tkR (.slice none 0 0) { kind := 0, on := (on : Int) }) 30)
       have hx2 := hx1.below hbA
       have hk2 := hk1.then (Kept.of_below (L := C.L) hbA)
       clear hkn hbA
       go_wp2_with fail
       refine Calls.mono (take_y hx2 ⟨#[45]⟩ [45] 1 rfl rfl (by decide) H1.out) ?_
       rintro e3 w3 ⟨rfl, hx3, hkn⟩
       have hk3 := hk2.then hkn
       have HG3 := Lib.hid ((hkn.block w1.heap.size (by rw [World.size_alloc]; omega) (by have := hx1.cells.lt; omega)).trans (heap_alloc_new w1 _))
       have hg3 : w1.heap.size < w3.heap.size := by
         rcases Nat.lt_or_ge w1.heap.size w3.heap.size with hh | hh
         · exact hh
         · have := HG3.out
           rw [Array.getElem?_eq_none hh] at this
           cases this
       clear hkn hx2 hk2
       go_wp2_with fail
       refine Calls.mono (letters_any hx3) ?_
       intro e4 w4 hr
       rw [HL2.out] at hr
       obtain ⟨rfl, hx4, hkn⟩ := hr
       have hk4 := hk3.then hkn
       have HG4 := Lib.hid ((hkn.block w1.heap.size hg3 (by have := hx1.cells.lt; omega)).trans HG3.out)
       have c11 : w4.cell? ⟨w1.heap.size, 11, none⟩ = some (.int .i64 0) := by simp [World.cell?, HG4.out, tkR]
       have fz11 : w4.frozen? ⟨w1.heap.size, 11, none⟩ = false := by simp [World.frozen?, HG4.out]
       clear hkn
       go_wp2_with fail
       have hpk : Poke w1.heap.size w4 (w4.setCell ⟨w1.heap.size, 11, none⟩ (.int .i64 (off : Int))) := poke_cell w4 w1.heap.size 11 (.int .i64 (off : Int))
       have HG5 : Hid ((w4.setCell ⟨w1.heap.size, 11, none⟩ (.int .i64 (off : Int))).heap[w1.heap.size]? = some (.cells (tkR (.slice none 0 0) { kind := 0, on := (on : Int), off := (off : Int) }) 30 (0, 0))) := Lib.hid (heap_set (o := 11) (v := .int .i64 (off : Int)) (HG4.out))
       have hx5 := hx4.poke HG4.out (Nat.le_trans hB hg1) (hrl _ hg1) hpk
       have hk5 := hk4.poke hpk hg1
       clear hpk c11 fz11
       generalize (w4.setCell ⟨w1.heap.size, 11, none⟩ (.int .i64 (off : Int))) = w5 at *
       have hg5 : w1.heap.size < w5.heap.size := by
         rcases Nat.lt_or_ge w1.heap.size w5.heap.size with hh | hh
         · exact hh
         · have := HG5.out
           rw [Array.getElem?_eq_none hh] at this
           cases this
       have tl5 := hx5.tl
       refine Calls.mono (take_n hx5 ⟨#[58]⟩ [58] rfl (by decide) H2.out) ?_
       rintro e6 w6 ⟨rfl, hx6, hkn⟩
       have hk6 := hk5.then hkn
       have HG6 := Lib.hid ((hkn.block w1.heap.size hg5 (by have := hx1.cells.lt; omega)).trans HG5.out)
       clear hkn
       have hg6 : w1.heap.size < w6.heap.size := by
         rcases Nat.lt_or_ge w1.heap.size w6.heap.size with hh | hh
         · exact hh
         · have := HG6.out
           rw [Array.getElem?_eq_none hh] at this
           cases this
       go_wp2_with fail
       refine Calls.mono (close_any hx6) ?_
       intro e7 w7 hr
       rw [HCL.out] at hr
       obtain ⟨rfl, hx7, hkn⟩ := hr
       have hk7 := hk6.then hkn
       have HG7 := Lib.hid ((hkn.block w1.heap.size hg6 (by have := hx1.cells.lt; omega)).trans HG6.out)
       have c0 : w7.cell? ⟨w1.heap.size, 0, none⟩ = some (.int .i64 0) := by simp [World.cell?, HG7.out, tkR]
       have fz0 : w7.frozen? ⟨w1.heap.size, 0, none⟩ = false := by simp [World.frozen?, HG7.out]
       clear hkn
       go_upto_region 7 with (fail)
       have hpk : Poke w1.heap.size w7 (w7.setCell ⟨w1.heap.size, 0, none⟩ (.int .i64 15)) := poke_cell w7 w1.heap.size 0 (.int .i64 15)
       have HG8 : Hid ((w7.setCell ⟨w1.heap.size, 0, none⟩ (.int .i64 15)).heap[w1.heap.size]? = some (.cells (tkR (.slice none 0 0) ({ kind := 15, on := (on : Int), off := (off : Int) } : Tk)) 30 (0, 0))) := Lib.hid (heap_set (o := 0) (v := .int .i64 15) (HG7.out))
       have hx8 := hx7.poke HG7.out (Nat.le_trans hB hg1) (hrl _ hg1) hpk
       have hk8 := hk7.poke hpk hg1
       clear hpk c0 fz0
       generalize (w7.setCell ⟨w1.heap.size, 0, none⟩ (.int .i64 15)) = w8 at *
       go_wp2_with (refine wpList_load_tok rfl _ rfl w1.heap.size rfl (tkR (.slice none 0 0) ({ kind := 15, on := (on : Int), off := (off : Int) } : Tk)) HG8.out rfl ?_)
       refine Calls.mono (put_any hx8 (.slice none 0 0) ({ kind := 15, on := (on : Int), off := (off : Int) } : Tk) (ownR_nil _ _) (by omega)) ?_
       intro e18 w18 hr
       have HP := Lib.hid (ptOk_put hr (hk8.mono hB))
       obtain ⟨rfl, _, _⟩ := hr
       go_wp2_with fail
       go_end0
       exact rp_ok HS.out HP.out
 | false =>
   have hmin : C.p.minus a1 = (0, a1) := by
     unfold Pt.minus
     rw [if_neg (by simp [h1])]
   have hs : C.p.settings f a = (if C.p.has [58] a1 = true then .ok ({ kind := 10, n := 2, on := (on : Int), off := ((0 : Nat) : Int) }, a1 + 1)
     else match C.p.close f a1 with
       | .error e => .error e
       | .ok b => .ok ({ kind := 15, on := (on : Int), off := ((0 : Nat) : Int) }, b)) := by
     unfold Pt.settings
     rw [hl]
     simp only [hmin]
     rfl
   have H1 := Lib.hid h1
   clear h1 hmin hl
   cases h2 : C.p.has [58] a1 with
   | true =>
     have HS := Lib.hid (show tkp.one f (C.p.settings f a) = .ok ([lay ({ kind := 10, n := 2, on := (on : Int), off := 0 } : Tk) f (a1 + 1)], a1 + 1) by rw [hs, if_pos h2]; rfl)
     have H2 := Lib.hid h2
     clear hs h2
     go_enter Tryz.func105, Tryz.ntmps105
     go_wp2_with fail
     refine Calls.mono (letters_any h) ?_
     intro e1 w1 hr
     rw [HL.out] at hr
     obtain ⟨rfl, hx1, hkn⟩ := hr
     have hk1 := hk0.then hkn
     have hg1 : w.heap.size ≤ w1.heap.size := hk1.size
     have hbA := below_al w1 (.cells (tkR (.slice none 0 0) { kind := 0, on := (on : Int) }) 30)
     have hx2 := hx1.below hbA
     have hk2 := hk1.then (Kept.of_below (L := C.L) hbA)
     clear hkn hbA
     go_wp2_with fail
     refine Calls.mono (take_n hx2 ⟨#[45]⟩ [45] rfl (by decide) H1.out) ?_
     rintro e3 w3 ⟨rfl, hx3, hkn⟩
     have hk3 := hk2.then hkn
     have HG3 := Lib.hid ((hkn.block w1.heap.size (by rw [World.size_alloc]; omega) (by have := hx1.cells.lt; omega)).trans (heap_alloc_new w1 _))
     have hg3 : w1.heap.size < w3.heap.size := by
       rcases Nat.lt_or_ge w1.heap.size w3.heap.size with hh | hh
       · exact hh
       · have := HG3.out
         rw [Array.getElem?_eq_none hh] at this
         cases this
     clear hkn hx2 hk2
     go_wp2_with fail
     have tl3 := hx3.tl
     refine Calls.mono (take_y hx3 ⟨#[58]⟩ [58] 1 rfl rfl (by decide) H2.out) ?_
     rintro e6 w6 ⟨rfl, hx6, hkn⟩
     have hk6 := hk3.then hkn
     have HG6 := Lib.hid ((hkn.block w1.heap.size hg3 (by have := hx1.cells.lt; omega)).trans HG3.out)
     have c0 : w6.cell? ⟨w1.heap.size, 0, none⟩ = some (.int .i64 0) := by simp [World.cell?, HG6.out, tkR]
     have c6 : w6.cell? ⟨w1.heap.size, 6, none⟩ = some (.int .i64 0) := by simp [World.cell?, HG6.out, tkR]
     have fz0 : w6.frozen? ⟨w1.heap.size, 0, none⟩ = false := by simp [World.frozen?, HG6.out]
     have fz6 : w6.frozen? ⟨w1.heap.size, 6, none⟩ = false := by simp [World.frozen?, HG6.out]
     clear hkn
     go_upto_region 7 with (fail)
     have hpk : Poke w1.heap.size w6 ((w6.setCell ⟨w1.heap.size, 0, none⟩ (.int .i64 10)).setCell ⟨w1.heap.size, 6, none⟩ (.int .i64 2)) := (poke_cell w6 w1.heap.size 0 (.int .i64 10)).trans (poke_cell (w6.setCell ⟨w1.heap.size, 0, none⟩ (.int .i64 10)) w1.heap.size 6 (.int .i64 2))
     have HG7 : Hid (((w6.setCell ⟨w1.heap.size, 0, none⟩ (.int .i64 10)).setCell ⟨w1.heap.size, 6, none⟩ (.int .i64 2)).heap[w1.heap.size]? = some (.cells (tkR (.slice none 0 0) ({ kind := 10, n := 2, on := (on : Int), off := 0 } : Tk)) 30 (0, 0))) := Lib.hid (heap_set (o := 6) (v := .int .i64 2) (heap_set (o := 0) (v := .int .i64 10) (HG6.out)))
     have hx7 := hx6.poke HG6.out (Nat.le_trans hB hg1) (hrl _ hg1) hpk
     have hk7 := hk6.poke hpk hg1
     clear hpk c0 c6 fz0 fz6
     generalize ((w6.setCell ⟨w1.heap.size, 0, none⟩ (.int .i64 10)).setCell ⟨w1.heap.size, 6, none⟩ (.int .i64 2)) = w7 at *
     go_wp2_with (refine wpList_load_tok rfl _ rfl w1.heap.size rfl (tkR (.slice none 0 0) ({ kind := 10, n := 2, on := (on : Int), off := 0 } : Tk)) HG7.out rfl ?_)
     refine Calls.mono (put_any hx7 (.slice none 0 0) ({ kind := 10, n := 2, on := (on : Int), off := 0 } : Tk) (ownR_nil _ _) (by omega)) ?_
     intro e18 w18 hr
     have HP := Lib.hid (ptOk_put hr (hk7.mono hB))
     obtain ⟨rfl, _, _⟩ := hr
     go_wp2_with fail
     go_end0
     exact rp_ok HS.out HP.out
   | false =>
     rw [if_neg (by simp [h2])] at hs
     have H2 := Lib.hid h2
     clear h2
     cases h4 : C.p.has [41] a1 with
     | false =>
       have hcl : C.p.close f a1 = .error (C.p.broken f a1) := by unfold Pt.close; rw [if_neg (by simp [h4])]
       rw [hcl] at hs
       have HS := Lib.hid (show tkp.one f (C.p.settings f a) = .error (C.p.broken f a1) by rw [hs]; rfl)
       have HCL := Lib.hid hcl
       clear hs hcl h4
       go_enter Tryz.func105, Tryz.ntmps105
       go_wp2_with fail
       refine Calls.mono (letters_any h) ?_
       intro e1 w1 hr
       rw [HL.out] at hr
       obtain ⟨rfl, hx1, hkn⟩ := hr
       have hk1 := hk0.then hkn
       have hg1 : w.heap.size ≤ w1.heap.size := hk1.size
       have hbA := below_al w1 (.cells (tkR (.slice none 0 0) { kind := 0, on := (on : Int) }) 30)
       have hx2 := hx1.below hbA
       have hk2 := hk1.then (Kept.of_below (L := C.L) hbA)
       clear hkn hbA
       go_wp2_with fail
       refine Calls.mono (take_n hx2 ⟨#[45]⟩ [45] rfl (by decide) H1.out) ?_
       rintro e3 w3 ⟨rfl, hx3, hkn⟩
       have hk3 := hk2.then hkn
       have HG3 := Lib.hid ((hkn.block w1.heap.size (by rw [World.size_alloc]; omega) (by have := hx1.cells.lt; omega)).trans (heap_alloc_new w1 _))
       have hg3 : w1.heap.size < w3.heap.size := by
         rcases Nat.lt_or_ge w1.heap.size w3.heap.size with hh | hh
         · exact hh
         · have := HG3.out
           rw [Array.getElem?_eq_none hh] at this
           cases this
       clear hkn hx2 hk2
       go_wp2_with fail
       have tl3 := hx3.tl
       refine Calls.mono (take_n hx3 ⟨#[58]⟩ [58] rfl (by decide) H2.out) ?_
       rintro e6 w6 ⟨rfl, hx6, hkn⟩
       have hk6 := hk3.then hkn
       have HG6 := Lib.hid ((hkn.block w1.heap.size hg3 (by have := hx1.cells.lt; omega)).trans HG3.out)
       clear hkn
       go_wp2_with fail
       refine Calls.mono (close_any hx6) ?_
       intro e7 w7 hr
       rw [HCL.out] at hr
       obtain ⟨rfl, hkn⟩ := hr
       exact ⟨rfl, rp_err HS.out ⟨rfl, (hk6.mono hB).trans hkn⟩⟩
     | true =>
       have hcl : C.p.close f a1 = .ok (a1 + 1) := by unfold Pt.close; rw [if_pos h4]
       rw [hcl] at hs
       have HS := Lib.hid (show tkp.one f (C.p.settings f a) = .ok ([lay ({ kind := 15, on := (on : Int), off := 0 } : Tk) f (a1 + 1)], a1 + 1) by rw [hs]; rfl)
       have HCL := Lib.hid hcl
       clear hs hcl h4
       go_enter Tryz.func105, Tryz.ntmps105
       go_wp2_with fail
       refine Calls.mono (letters_any h) ?_
       intro e1 w1 hr
       rw [HL.out] at hr
       obtain ⟨rfl, hx1, hkn⟩ := hr
       have hk1 := hk0.then hkn
       have hg1 : w.heap.size ≤ w1.heap.size := hk1.size
       have hbA := below_al w1 (.cells (tkR (.slice none 0 0) { kind := 0, on := (on : Int) }) 30)
       have hx2 := hx1.below hbA
       have hk2 := hk1.then (Kept.of_below (L := C.L) hbA)
       clear hkn hbA
       go_wp2_with fail
       refine Calls.mono (take_n hx2 ⟨#[45]⟩ [45] rfl (by decide) H1.out) ?_
       rintro e3 w3 ⟨rfl, hx3, hkn⟩
       have hk3 := hk2.then hkn
       have HG3 := Lib.hid ((hkn.block w1.heap.size (by rw [World.size_alloc]; omega) (by have := hx1.cells.lt; omega)).trans (heap_alloc_new w1 _))
       have hg3 : w1.heap.size < w3.heap.size := by
         rcases Nat.lt_or_ge w1.heap.size w3.heap.size with hh | hh
         · exact hh
         · have := HG3.out
           rw [Array.getElem?_eq_none hh] at this
           cases this
       clear hkn hx2 hk2
       go_wp2_with fail
       have tl3 := hx3.tl
       refine Calls.mono (take_n hx3 ⟨#[58]⟩ [58] rfl (by decide) H2.out) ?_
       rintro e6 w6 ⟨rfl, hx6, hkn⟩
       have hk6 := hk3.then hkn
       have HG6 := Lib.hid ((hkn.block w1.heap.size hg3 (by have := hx1.cells.lt; omega)).trans HG3.out)
       clear hkn
       have hg6 : w1.heap.size < w6.heap.size := by
         rcases Nat.lt_or_ge w1.heap.size w6.heap.size with hh | hh
         · exact hh
         · have := HG6.out
           rw [Array.getElem?_eq_none hh] at this
           cases this
       go_wp2_with fail
       refine Calls.mono (close_any hx6) ?_
       intro e7 w7 hr
       rw [HCL.out] at hr
       obtain ⟨rfl, hx7, hkn⟩ := hr
       have hk7 := hk6.then hkn
       have HG7 := Lib.hid ((hkn.block w1.heap.size hg6 (by have := hx1.cells.lt; omega)).trans HG6.out)
       have c0 : w7.cell? ⟨w1.heap.size, 0, none⟩ = some (.int .i64 0) := by simp [World.cell?, HG7.out, tkR]
       have fz0 : w7.frozen? ⟨w1.heap.size, 0, none⟩ = false := by simp [World.frozen?, HG7.out]
       clear hkn
       go_upto_region 7 with (fail)
       have hpk : Poke w1.heap.size w7 (w7.setCell ⟨w1.heap.size, 0, none⟩ (.int .i64 15)) := poke_cell w7 w1.heap.size 0 (.int .i64 15)
       have HG8 : Hid ((w7.setCell ⟨w1.heap.size, 0, none⟩ (.int .i64 15)).heap[w1.heap.size]? = some (.cells (tkR (.slice none 0 0) ({ kind := 15, on := (on : Int), off := 0 } : Tk)) 30 (0, 0))) := Lib.hid (heap_set (o := 0) (v := .int .i64 15) (HG7.out))
       have hx8 := hx7.poke HG7.out (Nat.le_trans hB hg1) (hrl _ hg1) hpk
       have hk8 := hk7.poke hpk hg1
       clear hpk c0 fz0
       generalize (w7.setCell ⟨w1.heap.size, 0, none⟩ (.int .i64 15)) = w8 at *
       go_wp2_with (refine wpList_load_tok rfl _ rfl w1.heap.size rfl (tkR (.slice none 0 0) ({ kind := 15, on := (on : Int), off := 0 } : Tk)) HG8.out rfl ?_)
       refine Calls.mono (put_any hx8 (.slice none 0 0) ({ kind := 15, on := (on : Int), off := 0 } : Tk) (ownR_nil _ _) (by omega)) ?_
       intro e18 w18 hr
       have HP := Lib.hid (ptOk_put hr (hk8.mono hB))
       obtain ⟨rfl, _, _⟩ := hr
       go_wp2_with fail
       go_end0
       exact rp_ok HS.out HP.out
end Go.Proofs.YtkcmjcgjfjfimaaGreatDoor.tkw
end
section
namespace Go.Proofs.YtkcmjcgjfjfimaaGreatDoor.tkw
open Go Go.RowKit Go.Maps utfp utfw ucdp setp setw prp tkp
theorem ixqc319443b : ∀ u, (Instr.index 140 (.agg #[.string ⟨#[124]⟩, .int .i64 3, .string ⟨#[62]⟩, .int .i64 4, .string ⟨#[61]⟩, .int .i64 5, .string ⟨#[33]⟩, .int .i64 6, .string ⟨#[60, 61]⟩, .int .i64 7, .string ⟨#[60, 33]⟩, .int .i64 8]) (.int .i64 0)).run Tryz.prog u = .ok (.agg #[.string ⟨#[124]⟩, .int .i64 3]) u := fun u => by kernel_rfl
theorem ixq2edfb282 : ∀ u, (Instr.index 140 (.agg #[.string ⟨#[124]⟩, .int .i64 3, .string ⟨#[62]⟩, .int .i64 4, .string ⟨#[61]⟩, .int .i64 5, .string ⟨#[33]⟩, .int .i64 6, .string ⟨#[60, 61]⟩, .int .i64 7, .string ⟨#[60, 33]⟩, .int .i64 8]) (.int .i64 1)).run Tryz.prog u = .ok (.agg #[.string ⟨#[62]⟩, .int .i64 4]) u := fun u => by kernel_rfl
theorem ixq55b6f372 : ∀ u, (Instr.index 140 (.agg #[.string ⟨#[124]⟩, .int .i64 3, .string ⟨#[62]⟩, .int .i64 4, .string ⟨#[61]⟩, .int .i64 5, .string ⟨#[33]⟩, .int .i64 6, .string ⟨#[60, 61]⟩, .int .i64 7, .string ⟨#[60, 33]⟩, .int .i64 8]) (.int .i64 2)).run Tryz.prog u = .ok (.agg #[.string ⟨#[61]⟩, .int .i64 5]) u := fun u => by kernel_rfl
theorem ixq633b3060 : ∀ u, (Instr.index 140 (.agg #[.string ⟨#[124]⟩, .int .i64 3, .string ⟨#[62]⟩, .int .i64 4, .string ⟨#[61]⟩, .int .i64 5, .string ⟨#[33]⟩, .int .i64 6, .string ⟨#[60, 61]⟩, .int .i64 7, .string ⟨#[60, 33]⟩, .int .i64 8]) (.int .i64 3)).run Tryz.prog u = .ok (.agg #[.string ⟨#[33]⟩, .int .i64 6]) u := fun u => by kernel_rfl
theorem ixqadd42ba4 : ∀ u, (Instr.index 140 (.agg #[.string ⟨#[124]⟩, .int .i64 3, .string ⟨#[62]⟩, .int .i64 4, .string ⟨#[61]⟩, .int .i64 5, .string ⟨#[33]⟩, .int .i64 6, .string ⟨#[60, 61]⟩, .int .i64 7, .string ⟨#[60, 33]⟩, .int .i64 8]) (.int .i64 4)).run Tryz.prog u = .ok (.agg #[.string ⟨#[60, 61]⟩, .int .i64 7]) u := fun u => by kernel_rfl
theorem ixq1562d940 : ∀ u, (Instr.index 140 (.agg #[.string ⟨#[124]⟩, .int .i64 3, .string ⟨#[62]⟩, .int .i64 4, .string ⟨#[61]⟩, .int .i64 5, .string ⟨#[33]⟩, .int .i64 6, .string ⟨#[60, 61]⟩, .int .i64 7, .string ⟨#[60, 33]⟩, .int .i64 8]) (.int .i64 5)).run Tryz.prog u = .ok (.agg #[.string ⟨#[60, 33]⟩, .int .i64 8]) u := fun u => by kernel_rfl
def PkOk (C : Cf) (w : World) (a f : Nat) (T : Rw) : Option (Tk × Nat) → Ending → World → Prop
 | none => Ret C w (.bool false) a f T
 | some (t, b) => RetB C w (.bool true) b f (T.l ++ [lay t f b])
set_option maxRecDepth 100000 in
set_option maxHeartbeats 4000000 in
theorem plain_0 {C : Cf} {w : World} {a f : Nat} {T : Rw} (h : LX C w a f T) (h0 : C.p.has [124] a = true) : Calls Tryz.prog 99 #[.pointer (some ⟨C.L, 0, none⟩)] w (PkOk C w a f T (C.p.plainK a groupsT)) := by
 have HS := Lib.hid (show C.p.plainK a groupsT = some ({ kind := 10, n := 3 }, a + 1) by unfold groupsT; rw [Pt.plainK, if_pos h0]; rfl)
 have H0 := Lib.hid h0
 clear h0
 have ix0 := ixqc319443b
 have hgl := h.glob h.ok.gr
 have g0 : w.cell? ⟨3, 0, none⟩ = some (.string ⟨#[124]⟩) := hgl 0 _ rfl
 have g1 : w.cell? ⟨3, 1, none⟩ = some (.int .i64 3) := hgl 1 _ rfl
 have g2 : w.cell? ⟨3, 2, none⟩ = some (.string ⟨#[62]⟩) := hgl 2 _ rfl
 have g3 : w.cell? ⟨3, 3, none⟩ = some (.int .i64 4) := hgl 3 _ rfl
 have g4 : w.cell? ⟨3, 4, none⟩ = some (.string ⟨#[61]⟩) := hgl 4 _ rfl
 have g5 : w.cell? ⟨3, 5, none⟩ = some (.int .i64 5) := hgl 5 _ rfl
 have g6 : w.cell? ⟨3, 6, none⟩ = some (.string ⟨#[33]⟩) := hgl 6 _ rfl
 have g7 : w.cell? ⟨3, 7, none⟩ = some (.int .i64 6) := hgl 7 _ rfl
 have g8 : w.cell? ⟨3, 8, none⟩ = some (.string ⟨#[60, 61]⟩) := hgl 8 _ rfl
 have g9 : w.cell? ⟨3, 9, none⟩ = some (.int .i64 7) := hgl 9 _ rfl
 have g10 : w.cell? ⟨3, 10, none⟩ = some (.string ⟨#[60, 33]⟩) := hgl 10 _ rfl
 have g11 : w.cell? ⟨3, 11, none⟩ = some (.int .i64 8) := hgl 11 _ rfl
 clear hgl
 have tl := h.tl
 have hk0 := Kept.refl w.heap.size C.L w
 have hB := h.hb
 go_enter Tryz.func99, Tryz.ntmps99
 go_wp2_with fail
 refine wp_loop_rounds 7 ?_
 rw [rounds_succ]
 go_wp2_with fail
 have hbA := below_al w (.cells #[.string ⟨#[124]⟩, .int .i64 3] 139)
 have hxa := h.below hbA
 have hka := hk0.then (Kept.of_below (L := C.L) hbA)
 have hgl := hxa.cells.lt
 refine Calls.mono (take_y hxa ⟨#[124]⟩ [124] 1 rfl rfl (by decide) H0.out) ?_
 rintro e9 w9 ⟨rfl, hx9, hkn⟩
 have hk9 := hka.then hkn
 have hlt := h.cells.lt
 have HG := Lib.hid ((hkn.block w.heap.size (by rw [World.size_alloc]; omega) (by omega)).trans (heap_alloc_new w _))
 have c1 : w9.cell? ⟨w.heap.size, 1, none⟩ = some (.int .i64 3) := by simp [World.cell?, HG.out]
 clear hkn
 go_wp2_with fail
 refine Calls.mono (put_any hx9 (.slice none 0 0) { kind := 10, n := 3 } (ownR_nil _ _) (by omega)) ?_
 rintro e10 w10 ⟨rfl, hx10, hkn⟩
 go_wp2_with fail
 go_ret
 rw [HS.out]
 exact ⟨rfl, hx10, (hk9.mono hB).trans hkn⟩
set_option maxRecDepth 100000 in
set_option maxHeartbeats 4000000 in
theorem plain_1 {C : Cf} {w : World} {a f : Nat} {T : Rw} (h : LX C w a f T) (h0 : C.p.has [124] a = false) (h1 : C.p.has [62] a = true) : Calls Tryz.prog 99 #[.pointer (some ⟨C.L, 0, none⟩)] w (PkOk C w a f T (C.p.plainK a groupsT)) := by
 have HS := Lib.hid (show C.p.plainK a groupsT = some ({ kind := 10, n := 4 }, a + 1) by unfold groupsT; rw [Pt.plainK, if_neg (by simp [h0])]; rw [Pt.plainK, if_pos h1]; rfl)
 have H0 := Lib.hid h0
 clear h0
 have H1 := Lib.hid h1
 clear h1
 have ix0 := ixqc319443b
 have ix1 := ixq2edfb282
 have hgl := h.glob h.ok.gr
 have g0 : w.cell? ⟨3, 0, none⟩ = some (.string ⟨#[124]⟩) := hgl 0 _ rfl
 have g1 : w.cell? ⟨3, 1, none⟩ = some (.int .i64 3) := hgl 1 _ rfl
 have g2 : w.cell? ⟨3, 2, none⟩ = some (.string ⟨#[62]⟩) := hgl 2 _ rfl
 have g3 : w.cell? ⟨3, 3, none⟩ = some (.int .i64 4) := hgl 3 _ rfl
 have g4 : w.cell? ⟨3, 4, none⟩ = some (.string ⟨#[61]⟩) := hgl 4 _ rfl
 have g5 : w.cell? ⟨3, 5, none⟩ = some (.int .i64 5) := hgl 5 _ rfl
 have g6 : w.cell? ⟨3, 6, none⟩ = some (.string ⟨#[33]⟩) := hgl 6 _ rfl
 have g7 : w.cell? ⟨3, 7, none⟩ = some (.int .i64 6) := hgl 7 _ rfl
 have g8 : w.cell? ⟨3, 8, none⟩ = some (.string ⟨#[60, 61]⟩) := hgl 8 _ rfl
 have g9 : w.cell? ⟨3, 9, none⟩ = some (.int .i64 7) := hgl 9 _ rfl
 have g10 : w.cell? ⟨3, 10, none⟩ = some (.string ⟨#[60, 33]⟩) := hgl 10 _ rfl
 have g11 : w.cell? ⟨3, 11, none⟩ = some (.int .i64 8) := hgl 11 _ rfl
 clear hgl
 have tl := h.tl
 have hk0 := Kept.refl w.heap.size C.L w
 have hB := h.hb
 go_enter Tryz.func99, Tryz.ntmps99
 go_wp2_with fail
 refine wp_loop_rounds 7 ?_
 rw [rounds_succ]
 go_wp2_with fail
 have hbA := below_al w (.cells #[.string ⟨#[124]⟩, .int .i64 3] 139)
 have hxa := h.below hbA
 have hka := hk0.then (Kept.of_below (L := C.L) hbA)
 refine Calls.mono (take_n hxa ⟨#[124]⟩ [124] rfl (by decide) H0.out) ?_
 rintro e1 w1 ⟨rfl, hx1, hkn⟩
 have hk1 := hka.then hkn
 clear hkn hbA hxa hka
 go_wp2_with fail
 rw [rounds_succ]
 go_wp2_with fail
 have hbA := below_al w1 (.cells #[.string ⟨#[62]⟩, .int .i64 4] 139)
 have hxa := hx1.below hbA
 have hka := hk1.then (Kept.of_below (L := C.L) hbA)
 have hgl := hxa.cells.lt
 refine Calls.mono (take_y hxa ⟨#[62]⟩ [62] 1 rfl rfl (by decide) H1.out) ?_
 rintro e9 w9 ⟨rfl, hx9, hkn⟩
 have hk9 := hka.then hkn
 have hlt := hx1.cells.lt
 have HG := Lib.hid ((hkn.block w1.heap.size (by rw [World.size_alloc]; omega) (by omega)).trans (heap_alloc_new w1 _))
 have c1 : w9.cell? ⟨w1.heap.size, 1, none⟩ = some (.int .i64 4) := by simp [World.cell?, HG.out]
 clear hkn
 go_wp2_with fail
 refine Calls.mono (put_any hx9 (.slice none 0 0) { kind := 10, n := 4 } (ownR_nil _ _) (by omega)) ?_
 rintro e10 w10 ⟨rfl, hx10, hkn⟩
 go_wp2_with fail
 go_ret
 rw [HS.out]
 exact ⟨rfl, hx10, (hk9.mono hB).trans hkn⟩
set_option maxRecDepth 100000 in
set_option maxHeartbeats 4000000 in
theorem plain_2 {C : Cf} {w : World} {a f : Nat} {T : Rw} (h : LX C w a f T) (h0 : C.p.has [124] a = false) (h1 : C.p.has [62] a = false) (h2 : C.p.has [61] a = true) : Calls Tryz.prog 99 #[.pointer (some ⟨C.L, 0, none⟩)] w (PkOk C w a f T (C.p.plainK a groupsT)) := by
 have HS := Lib.hid (show C.p.plainK a groupsT = some ({ kind := 10, n := 5 }, a + 1) by unfold groupsT; rw [Pt.plainK, if_neg (by simp [h0])]; rw [Pt.plainK, if_neg (by simp [h1])]; rw [Pt.plainK, if_pos h2]; rfl)
 have H0 := Lib.hid h0
 clear h0
 have H1 := Lib.hid h1
 clear h1
 have H2 := Lib.hid h2
 clear h2
 have ix0 := ixqc319443b
 have ix1 := ixq2edfb282
 have ix2 := ixq55b6f372
 have hgl := h.glob h.ok.gr
 have g0 : w.cell? ⟨3, 0, none⟩ = some (.string ⟨#[124]⟩) := hgl 0 _ rfl
 have g1 : w.cell? ⟨3, 1, none⟩ = some (.int .i64 3) := hgl 1 _ rfl
 have g2 : w.cell? ⟨3, 2, none⟩ = some (.string ⟨#[62]⟩) := hgl 2 _ rfl
 have g3 : w.cell? ⟨3, 3, none⟩ = some (.int .i64 4) := hgl 3 _ rfl
 have g4 : w.cell? ⟨3, 4, none⟩ = some (.string ⟨#[61]⟩) := hgl 4 _ rfl
 have g5 : w.cell? ⟨3, 5, none⟩ = some (.int .i64 5) := hgl 5 _ rfl
 have g6 : w.cell? ⟨3, 6, none⟩ = some (.string ⟨#[33]⟩) := hgl 6 _ rfl
 have g7 : w.cell? ⟨3, 7, none⟩ = some (.int .i64 6) := hgl 7 _ rfl
 have g8 : w.cell? ⟨3, 8, none⟩ = some (.string ⟨#[60, 61]⟩) := hgl 8 _ rfl
 have g9 : w.cell? ⟨3, 9, none⟩ = some (.int .i64 7) := hgl 9 _ rfl
 have g10 : w.cell? ⟨3, 10, none⟩ = some (.string ⟨#[60, 33]⟩) := hgl 10 _ rfl
 have g11 : w.cell? ⟨3, 11, none⟩ = some (.int .i64 8) := hgl 11 _ rfl
 clear hgl
 have tl := h.tl
 have hk0 := Kept.refl w.heap.size C.L w
 have hB := h.hb
 go_enter Tryz.func99, Tryz.ntmps99
 go_wp2_with fail
 refine wp_loop_rounds 7 ?_
 rw [rounds_succ]
 go_wp2_with fail
 have hbA := below_al w (.cells #[.string ⟨#[124]⟩, .int .i64 3] 139)
 have hxa := h.below hbA
 have hka := hk0.then (Kept.of_below (L := C.L) hbA)
 refine Calls.mono (take_n hxa ⟨#[124]⟩ [124] rfl (by decide) H0.out) ?_
 rintro e1 w1 ⟨rfl, hx1, hkn⟩
 have hk1 := hka.then hkn
 clear hkn hbA hxa hka
 go_wp2_with fail
 rw [rounds_succ]
 go_wp2_with fail
 have hbA := below_al w1 (.cells #[.string ⟨#[62]⟩, .int .i64 4] 139)
 have hxa := hx1.below hbA
 have hka := hk1.then (Kept.of_below (L := C.L) hbA)
 refine Calls.mono (take_n hxa ⟨#[62]⟩ [62] rfl (by decide) H1.out) ?_
 rintro e2 w2 ⟨rfl, hx2, hkn⟩
 have hk2 := hka.then hkn
 clear hkn hbA hxa hka
 go_wp2_with fail
 rw [rounds_succ]
 go_wp2_with fail
 have hbA := below_al w2 (.cells #[.string ⟨#[61]⟩, .int .i64 5] 139)
 have hxa := hx2.below hbA
 have hka := hk2.then (Kept.of_below (L := C.L) hbA)
 have hgl := hxa.cells.lt
 refine Calls.mono (take_y hxa ⟨#[61]⟩ [61] 1 rfl rfl (by decide) H2.out) ?_
 rintro e9 w9 ⟨rfl, hx9, hkn⟩
 have hk9 := hka.then hkn
 have hlt := hx2.cells.lt
 have HG := Lib.hid ((hkn.block w2.heap.size (by rw [World.size_alloc]; omega) (by omega)).trans (heap_alloc_new w2 _))
 have c1 : w9.cell? ⟨w2.heap.size, 1, none⟩ = some (.int .i64 5) := by simp [World.cell?, HG.out]
 clear hkn
 go_wp2_with fail
 refine Calls.mono (put_any hx9 (.slice none 0 0) { kind := 10, n := 5 } (ownR_nil _ _) (by omega)) ?_
 rintro e10 w10 ⟨rfl, hx10, hkn⟩
 go_wp2_with fail
 go_ret
 rw [HS.out]
 exact ⟨rfl, hx10, (hk9.mono hB).trans hkn⟩
set_option maxRecDepth 100000 in
set_option maxHeartbeats 4000000 in
theorem plain_3 {C : Cf} {w : World} {a f : Nat} {T : Rw} (h : LX C w a f T) (h0 : C.p.has [124] a = false) (h1 : C.p.has [62] a = false) (h2 : C.p.has [61] a = false) (h3 : C.p.has [33] a = true) : Calls Tryz.prog 99 #[.pointer (some ⟨C.L, 0, none⟩)] w (PkOk C w a f T (C.p.plainK a groupsT)) := by
 have HS := Lib.hid (show C.p.plainK a groupsT = some ({ kind := 10, n := 6 }, a + 1) by unfold groupsT; rw [Pt.plainK, if_neg (by simp [h0])]; rw [Pt.plainK, if_neg (by simp [h1])]; rw [Pt.plainK, if_neg (by simp [h2])]; rw [Pt.plainK, if_pos h3]; rfl)
 have H0 := Lib.hid h0
 clear h0
 have H1 := Lib.hid h1
 clear h1
 have H2 := Lib.hid h2
 clear h2
 have H3 := Lib.hid h3
 clear h3
 have ix0 := ixqc319443b
 have ix1 := ixq2edfb282
 have ix2 := ixq55b6f372
 have ix3 := ixq633b3060
 have hgl := h.glob h.ok.gr
 have g0 : w.cell? ⟨3, 0, none⟩ = some (.string ⟨#[124]⟩) := hgl 0 _ rfl
 have g1 : w.cell? ⟨3, 1, none⟩ = some (.int .i64 3) := hgl 1 _ rfl
 have g2 : w.cell? ⟨3, 2, none⟩ = some (.string ⟨#[62]⟩) := hgl 2 _ rfl
 have g3 : w.cell? ⟨3, 3, none⟩ = some (.int .i64 4) := hgl 3 _ rfl
 have g4 : w.cell? ⟨3, 4, none⟩ = some (.string ⟨#[61]⟩) := hgl 4 _ rfl
 have g5 : w.cell? ⟨3, 5, none⟩ = some (.int .i64 5) := hgl 5 _ rfl
 have g6 : w.cell? ⟨3, 6, none⟩ = some (.string ⟨#[33]⟩) := hgl 6 _ rfl
 have g7 : w.cell? ⟨3, 7, none⟩ = some (.int .i64 6) := hgl 7 _ rfl
 have g8 : w.cell? ⟨3, 8, none⟩ = some (.string ⟨#[60, 61]⟩) := hgl 8 _ rfl
 have g9 : w.cell? ⟨3, 9, none⟩ = some (.int .i64 7) := hgl 9 _ rfl
 have g10 : w.cell? ⟨3, 10, none⟩ = some (.string ⟨#[60, 33]⟩) := hgl 10 _ rfl
 have g11 : w.cell? ⟨3, 11, none⟩ = some (.int .i64 8) := hgl 11 _ rfl
 clear hgl
 have tl := h.tl
 have hk0 := Kept.refl w.heap.size C.L w
 have hB := h.hb
 go_enter Tryz.func99, Tryz.ntmps99
 go_wp2_with fail
 refine wp_loop_rounds 7 ?_
 rw [rounds_succ]
 go_wp2_with fail
 have hbA := below_al w (.cells #[.string ⟨#[124]⟩, .int .i64 3] 139)
 have hxa := h.below hbA
 have hka := hk0.then (Kept.of_below (L := C.L) hbA)
 refine Calls.mono (take_n hxa ⟨#[124]⟩ [124] rfl (by decide) H0.out) ?_
 rintro e1 w1 ⟨rfl, hx1, hkn⟩
 have hk1 := hka.then hkn
 clear hkn hbA hxa hka
 go_wp2_with fail
 rw [rounds_succ]
 go_wp2_with fail
 have hbA := below_al w1 (.cells #[.string ⟨#[62]⟩, .int .i64 4] 139)
 have hxa := hx1.below hbA
 have hka := hk1.then (Kept.of_below (L := C.L) hbA)
 refine Calls.mono (take_n hxa ⟨#[62]⟩ [62] rfl (by decide) H1.out) ?_
 rintro e2 w2 ⟨rfl, hx2, hkn⟩
 have hk2 := hka.then hkn
 clear hkn hbA hxa hka
 go_wp2_with fail
 rw [rounds_succ]
 go_wp2_with fail
 have hbA := below_al w2 (.cells #[.string ⟨#[61]⟩, .int .i64 5] 139)
 have hxa := hx2.below hbA
 have hka := hk2.then (Kept.of_below (L := C.L) hbA)
 refine Calls.mono (take_n hxa ⟨#[61]⟩ [61] rfl (by decide) H2.out) ?_
 rintro e3 w3 ⟨rfl, hx3, hkn⟩
 have hk3 := hka.then hkn
 clear hkn hbA hxa hka
 go_wp2_with fail
 rw [rounds_succ]
 go_wp2_with fail
 have hbA := below_al w3 (.cells #[.string ⟨#[33]⟩, .int .i64 6] 139)
 have hxa := hx3.below hbA
 have hka := hk3.then (Kept.of_below (L := C.L) hbA)
 have hgl := hxa.cells.lt
 refine Calls.mono (take_y hxa ⟨#[33]⟩ [33] 1 rfl rfl (by decide) H3.out) ?_
 rintro e9 w9 ⟨rfl, hx9, hkn⟩
 have hk9 := hka.then hkn
 have hlt := hx3.cells.lt
 have HG := Lib.hid ((hkn.block w3.heap.size (by rw [World.size_alloc]; omega) (by omega)).trans (heap_alloc_new w3 _))
 have c1 : w9.cell? ⟨w3.heap.size, 1, none⟩ = some (.int .i64 6) := by simp [World.cell?, HG.out]
 clear hkn
 go_wp2_with fail
 refine Calls.mono (put_any hx9 (.slice none 0 0) { kind := 10, n := 6 } (ownR_nil _ _) (by omega)) ?_
 rintro e10 w10 ⟨rfl, hx10, hkn⟩
 go_wp2_with fail
 go_ret
 rw [HS.out]
 exact ⟨rfl, hx10, (hk9.mono hB).trans hkn⟩
set_option maxRecDepth 100000 in
set_option maxHeartbeats 4000000 in
theorem plain_4 {C : Cf} {w : World} {a f : Nat} {T : Rw} (h : LX C w a f T) (h0 : C.p.has [124] a = false) (h1 : C.p.has [62] a = false) (h2 : C.p.has [61] a = false) (h3 : C.p.has [33] a = false) (h4 : C.p.has [60, 61] a = true) : Calls Tryz.prog 99 #[.pointer (some ⟨C.L, 0, none⟩)] w (PkOk C w a f T (C.p.plainK a groupsT)) := by
 have HS := Lib.hid (show C.p.plainK a groupsT = some ({ kind := 10, n := 7 }, a + 2) by unfold groupsT; rw [Pt.plainK, if_neg (by simp [h0])]; rw [Pt.plainK, if_neg (by simp [h1])]; rw [Pt.plainK, if_neg (by simp [h2])]; rw [Pt.plainK, if_neg (by simp [h3])]; rw [Pt.plainK, if_pos h4]; rfl)
 have H0 := Lib.hid h0
 clear h0
 have H1 := Lib.hid h1
 clear h1
 have H2 := Lib.hid h2
 clear h2
 have H3 := Lib.hid h3
 clear h3
 have H4 := Lib.hid h4
 clear h4
 have ix0 := ixqc319443b
 have ix1 := ixq2edfb282
 have ix2 := ixq55b6f372
 have ix3 := ixq633b3060
 have ix4 := ixqadd42ba4
 have hgl := h.glob h.ok.gr
 have g0 : w.cell? ⟨3, 0, none⟩ = some (.string ⟨#[124]⟩) := hgl 0 _ rfl
 have g1 : w.cell? ⟨3, 1, none⟩ = some (.int .i64 3) := hgl 1 _ rfl
 have g2 : w.cell? ⟨3, 2, none⟩ = some (.string ⟨#[62]⟩) := hgl 2 _ rfl
 have g3 : w.cell? ⟨3, 3, none⟩ = some (.int .i64 4) := hgl 3 _ rfl
 have g4 : w.cell? ⟨3, 4, none⟩ = some (.string ⟨#[61]⟩) := hgl 4 _ rfl
 have g5 : w.cell? ⟨3, 5, none⟩ = some (.int .i64 5) := hgl 5 _ rfl
 have g6 : w.cell? ⟨3, 6, none⟩ = some (.string ⟨#[33]⟩) := hgl 6 _ rfl
 have g7 : w.cell? ⟨3, 7, none⟩ = some (.int .i64 6) := hgl 7 _ rfl
 have g8 : w.cell? ⟨3, 8, none⟩ = some (.string ⟨#[60, 61]⟩) := hgl 8 _ rfl
 have g9 : w.cell? ⟨3, 9, none⟩ = some (.int .i64 7) := hgl 9 _ rfl
 have g10 : w.cell? ⟨3, 10, none⟩ = some (.string ⟨#[60, 33]⟩) := hgl 10 _ rfl
 have g11 : w.cell? ⟨3, 11, none⟩ = some (.int .i64 8) := hgl 11 _ rfl
 clear hgl
 have tl := h.tl
 have hk0 := Kept.refl w.heap.size C.L w
 have hB := h.hb
 go_enter Tryz.func99, Tryz.ntmps99
 go_wp2_with fail
 refine wp_loop_rounds 7 ?_
 rw [rounds_succ]
 go_wp2_with fail
 have hbA := below_al w (.cells #[.string ⟨#[124]⟩, .int .i64 3] 139)
 have hxa := h.below hbA
 have hka := hk0.then (Kept.of_below (L := C.L) hbA)
 refine Calls.mono (take_n hxa ⟨#[124]⟩ [124] rfl (by decide) H0.out) ?_
 rintro e1 w1 ⟨rfl, hx1, hkn⟩
 have hk1 := hka.then hkn
 clear hkn hbA hxa hka
 go_wp2_with fail
 rw [rounds_succ]
 go_wp2_with fail
 have hbA := below_al w1 (.cells #[.string ⟨#[62]⟩, .int .i64 4] 139)
 have hxa := hx1.below hbA
 have hka := hk1.then (Kept.of_below (L := C.L) hbA)
 refine Calls.mono (take_n hxa ⟨#[62]⟩ [62] rfl (by decide) H1.out) ?_
 rintro e2 w2 ⟨rfl, hx2, hkn⟩
 have hk2 := hka.then hkn
 clear hkn hbA hxa hka
 go_wp2_with fail
 rw [rounds_succ]
 go_wp2_with fail
 have hbA := below_al w2 (.cells #[.string ⟨#[61]⟩, .int .i64 5] 139)
 have hxa := hx2.below hbA
 have hka := hk2.then (Kept.of_below (L := C.L) hbA)
 refine Calls.mono (take_n hxa ⟨#[61]⟩ [61] rfl (by decide) H2.out) ?_
 rintro e3 w3 ⟨rfl, hx3, hkn⟩
 have hk3 := hka.then hkn
 clear hkn hbA hxa hka
 go_wp2_with fail
 rw [rounds_succ]
 go_wp2_with fail
 have hbA := below_al w3 (.cells #[.string ⟨#[33]⟩, .int .i64 6] 139)
 have hxa := hx3.below hbA
 have hka := hk3.then (Kept.of_below (L := C.L) hbA)
 refine Calls.mono (take_n hxa ⟨#[33]⟩ [33] rfl (by decide) H3.out) ?_
 rintro e4 w4 ⟨rfl, hx4, hkn⟩
 have hk4 := hka.then hkn
 clear hkn hbA hxa hka
 go_wp2_with fail
 rw [rounds_succ]
 go_wp2_with fail
 have hbA := below_al w4 (.cells #[.string ⟨#[60, 61]⟩, .int .i64 7] 139)
 have hxa := hx4.below hbA
 have hka := hk4.then (Kept.of_below (L := C.L) hbA)
 have hgl := hxa.cells.lt
 refine Calls.mono (take_y hxa ⟨#[60, 61]⟩ [60, 61] 2 rfl rfl (by decide) H4.out) ?_
 rintro e9 w9 ⟨rfl, hx9, hkn⟩
 have hk9 := hka.then hkn
 have hlt := hx4.cells.lt
 have HG := Lib.hid ((hkn.block w4.heap.size (by rw [World.size_alloc]; omega) (by omega)).trans (heap_alloc_new w4 _))
 have c1 : w9.cell? ⟨w4.heap.size, 1, none⟩ = some (.int .i64 7) := by simp [World.cell?, HG.out]
 clear hkn
 go_wp2_with fail
 refine Calls.mono (put_any hx9 (.slice none 0 0) { kind := 10, n := 7 } (ownR_nil _ _) (by omega)) ?_
 rintro e10 w10 ⟨rfl, hx10, hkn⟩
 go_wp2_with fail
 go_ret
 rw [HS.out]
 exact ⟨rfl, hx10, (hk9.mono hB).trans hkn⟩
set_option maxRecDepth 100000 in
set_option maxHeartbeats 4000000 in
theorem plain_5 {C : Cf} {w : World} {a f : Nat} {T : Rw} (h : LX C w a f T) (h0 : C.p.has [124] a = false) (h1 : C.p.has [62] a = false) (h2 : C.p.has [61] a = false) (h3 : C.p.has [33] a = false) (h4 : C.p.has [60, 61] a = false) (h5 : C.p.has [60, 33] a = true) : Calls Tryz.prog 99 #[.pointer (some ⟨C.L, 0, none⟩)] w (PkOk C w a f T (C.p.plainK a groupsT)) := by
 have HS := Lib.hid (show C.p.plainK a groupsT = some ({ kind := 10, n := 8 }, a + 2) by unfold groupsT; rw [Pt.plainK, if_neg (by simp [h0])]; rw [Pt.plainK, if_neg (by simp [h1])]; rw [Pt.plainK, if_neg (by simp [h2])]; rw [Pt.plainK, if_neg (by simp [h3])]; rw [Pt.plainK, if_neg (by simp [h4])]; rw [Pt.plainK, if_pos h5]; rfl)
 have H0 := Lib.hid h0
 clear h0
 have H1 := Lib.hid h1
 clear h1
 have H2 := Lib.hid h2
 clear h2
 have H3 := Lib.hid h3
 clear h3
 have H4 := Lib.hid h4
 clear h4
 have H5 := Lib.hid h5
 clear h5
 have ix0 := ixqc319443b
 have ix1 := ixq2edfb282
 have ix2 := ixq55b6f372
 have ix3 := ixq633b3060
 have ix4 := ixqadd42ba4
 have ix5 := ixq1562d940
 have hgl := h.glob h.ok.gr
 have g0 : w.cell? ⟨3, 0, none⟩ = some (.string ⟨#[124]⟩) := hgl 0 _ rfl
 have g1 : w.cell? ⟨3, 1, none⟩ = some (.int .i64 3) := hgl 1 _ rfl
 have g2 : w.cell? ⟨3, 2, none⟩ = some (.string ⟨#[62]⟩) := hgl 2 _ rfl
 have g3 : w.cell? ⟨3, 3, none⟩ = some (.int .i64 4) := hgl 3 _ rfl
 have g4 : w.cell? ⟨3, 4, none⟩ = some (.string ⟨#[61]⟩) := hgl 4 _ rfl
 have g5 : w.cell? ⟨3, 5, none⟩ = some (.int .i64 5) := hgl 5 _ rfl
 have g6 : w.cell? ⟨3, 6, none⟩ = some (.string ⟨#[33]⟩) := hgl 6 _ rfl
 have g7 : w.cell? ⟨3, 7, none⟩ = some (.int .i64 6) := hgl 7 _ rfl
 have g8 : w.cell? ⟨3, 8, none⟩ = some (.string ⟨#[60, 61]⟩) := hgl 8 _ rfl
 have g9 : w.cell? ⟨3, 9, none⟩ = some (.int .i64 7) := hgl 9 _ rfl
 have g10 : w.cell? ⟨3, 10, none⟩ = some (.string ⟨#[60, 33]⟩) := hgl 10 _ rfl
 have g11 : w.cell? ⟨3, 11, none⟩ = some (.int .i64 8) := hgl 11 _ rfl
 clear hgl
 have tl := h.tl
 have hk0 := Kept.refl w.heap.size C.L w
 have hB := h.hb
 go_enter Tryz.func99, Tryz.ntmps99
 go_wp2_with fail
 refine wp_loop_rounds 7 ?_
 rw [rounds_succ]
 go_wp2_with fail
 have hbA := below_al w (.cells #[.string ⟨#[124]⟩, .int .i64 3] 139)
 have hxa := h.below hbA
 have hka := hk0.then (Kept.of_below (L := C.L) hbA)
 refine Calls.mono (take_n hxa ⟨#[124]⟩ [124] rfl (by decide) H0.out) ?_
 rintro e1 w1 ⟨rfl, hx1, hkn⟩
 have hk1 := hka.then hkn
 clear hkn hbA hxa hka
 go_wp2_with fail
 rw [rounds_succ]
 go_wp2_with fail
 have hbA := below_al w1 (.cells #[.string ⟨#[62]⟩, .int .i64 4] 139)
 have hxa := hx1.below hbA
 have hka := hk1.then (Kept.of_below (L := C.L) hbA)
 refine Calls.mono (take_n hxa ⟨#[62]⟩ [62] rfl (by decide) H1.out) ?_
 rintro e2 w2 ⟨rfl, hx2, hkn⟩
 have hk2 := hka.then hkn
 clear hkn hbA hxa hka
 go_wp2_with fail
 rw [rounds_succ]
 go_wp2_with fail
 have hbA := below_al w2 (.cells #[.string ⟨#[61]⟩, .int .i64 5] 139)
 have hxa := hx2.below hbA
 have hka := hk2.then (Kept.of_below (L := C.L) hbA)
 refine Calls.mono (take_n hxa ⟨#[61]⟩ [61] rfl (by decide) H2.out) ?_
 rintro e3 w3 ⟨rfl, hx3, hkn⟩
 have hk3 := hka.then hkn
 clear hkn hbA hxa hka
 go_wp2_with fail
 rw [rounds_succ]
 go_wp2_with fail
 have hbA := below_al w3 (.cells #[.string ⟨#[33]⟩, .int .i64 6] 139)
 have hxa := hx3.below hbA
 have hka := hk3.then (Kept.of_below (L := C.L) hbA)
 refine Calls.mono (take_n hxa ⟨#[33]⟩ [33] rfl (by decide) H3.out) ?_
 rintro e4 w4 ⟨rfl, hx4, hkn⟩
 have hk4 := hka.then hkn
 clear hkn hbA hxa hka
 go_wp2_with fail
 rw [rounds_succ]
 go_wp2_with fail
 have hbA := below_al w4 (.cells #[.string ⟨#[60, 61]⟩, .int .i64 7] 139)
 have hxa := hx4.below hbA
 have hka := hk4.then (Kept.of_below (L := C.L) hbA)
 refine Calls.mono (take_n hxa ⟨#[60, 61]⟩ [60, 61] rfl (by decide) H4.out) ?_
 rintro e5 w5 ⟨rfl, hx5, hkn⟩
 have hk5 := hka.then hkn
 clear hkn hbA hxa hka
 go_wp2_with fail
 rw [rounds_succ]
 go_wp2_with fail
 have hbA := below_al w5 (.cells #[.string ⟨#[60, 33]⟩, .int .i64 8] 139)
 have hxa := hx5.below hbA
 have hka := hk5.then (Kept.of_below (L := C.L) hbA)
 have hgl := hxa.cells.lt
 refine Calls.mono (take_y hxa ⟨#[60, 33]⟩ [60, 33] 2 rfl rfl (by decide) H5.out) ?_
 rintro e9 w9 ⟨rfl, hx9, hkn⟩
 have hk9 := hka.then hkn
 have hlt := hx5.cells.lt
 have HG := Lib.hid ((hkn.block w5.heap.size (by rw [World.size_alloc]; omega) (by omega)).trans (heap_alloc_new w5 _))
 have c1 : w9.cell? ⟨w5.heap.size, 1, none⟩ = some (.int .i64 8) := by simp [World.cell?, HG.out]
 clear hkn
 go_wp2_with fail
 refine Calls.mono (put_any hx9 (.slice none 0 0) { kind := 10, n := 8 } (ownR_nil _ _) (by omega)) ?_
 rintro e10 w10 ⟨rfl, hx10, hkn⟩
 go_wp2_with fail
 go_ret
 rw [HS.out]
 exact ⟨rfl, hx10, (hk9.mono hB).trans hkn⟩
set_option maxRecDepth 100000 in
set_option maxHeartbeats 4000000 in
theorem plain_6 {C : Cf} {w : World} {a f : Nat} {T : Rw} (h : LX C w a f T) (h0 : C.p.has [124] a = false) (h1 : C.p.has [62] a = false) (h2 : C.p.has [61] a = false) (h3 : C.p.has [33] a = false) (h4 : C.p.has [60, 61] a = false) (h5 : C.p.has [60, 33] a = false) : Calls Tryz.prog 99 #[.pointer (some ⟨C.L, 0, none⟩)] w (PkOk C w a f T (C.p.plainK a groupsT)) := by
 have HS := Lib.hid (show C.p.plainK a groupsT = none by unfold groupsT; rw [Pt.plainK, if_neg (by simp [h0])]; rw [Pt.plainK, if_neg (by simp [h1])]; rw [Pt.plainK, if_neg (by simp [h2])]; rw [Pt.plainK, if_neg (by simp [h3])]; rw [Pt.plainK, if_neg (by simp [h4])]; rw [Pt.plainK, if_neg (by simp [h5])]; rfl)
 have H0 := Lib.hid h0
 clear h0
 have H1 := Lib.hid h1
 clear h1
 have H2 := Lib.hid h2
 clear h2
 have H3 := Lib.hid h3
 clear h3
 have H4 := Lib.hid h4
 clear h4
 have H5 := Lib.hid h5
 clear h5
 have ix0 := ixqc319443b
 have ix1 := ixq2edfb282
 have ix2 := ixq55b6f372
 have ix3 := ixq633b3060
 have ix4 := ixqadd42ba4
 have ix5 := ixq1562d940
 have hgl := h.glob h.ok.gr
 have g0 : w.cell? ⟨3, 0, none⟩ = some (.string ⟨#[124]⟩) := hgl 0 _ rfl
 have g1 : w.cell? ⟨3, 1, none⟩ = some (.int .i64 3) := hgl 1 _ rfl
 have g2 : w.cell? ⟨3, 2, none⟩ = some (.string ⟨#[62]⟩) := hgl 2 _ rfl
 have g3 : w.cell? ⟨3, 3, none⟩ = some (.int .i64 4) := hgl 3 _ rfl
 have g4 : w.cell? ⟨3, 4, none⟩ = some (.string ⟨#[61]⟩) := hgl 4 _ rfl
 have g5 : w.cell? ⟨3, 5, none⟩ = some (.int .i64 5) := hgl 5 _ rfl
 have g6 : w.cell? ⟨3, 6, none⟩ = some (.string ⟨#[33]⟩) := hgl 6 _ rfl
 have g7 : w.cell? ⟨3, 7, none⟩ = some (.int .i64 6) := hgl 7 _ rfl
 have g8 : w.cell? ⟨3, 8, none⟩ = some (.string ⟨#[60, 61]⟩) := hgl 8 _ rfl
 have g9 : w.cell? ⟨3, 9, none⟩ = some (.int .i64 7) := hgl 9 _ rfl
 have g10 : w.cell? ⟨3, 10, none⟩ = some (.string ⟨#[60, 33]⟩) := hgl 10 _ rfl
 have g11 : w.cell? ⟨3, 11, none⟩ = some (.int .i64 8) := hgl 11 _ rfl
 clear hgl
 have tl := h.tl
 have hk0 := Kept.refl w.heap.size C.L w
 have hB := h.hb
 go_enter Tryz.func99, Tryz.ntmps99
 go_wp2_with fail
 refine wp_loop_rounds 7 ?_
 rw [rounds_succ]
 go_wp2_with fail
 have hbA := below_al w (.cells #[.string ⟨#[124]⟩, .int .i64 3] 139)
 have hxa := h.below hbA
 have hka := hk0.then (Kept.of_below (L := C.L) hbA)
 refine Calls.mono (take_n hxa ⟨#[124]⟩ [124] rfl (by decide) H0.out) ?_
 rintro e1 w1 ⟨rfl, hx1, hkn⟩
 have hk1 := hka.then hkn
 clear hkn hbA hxa hka
 go_wp2_with fail
 rw [rounds_succ]
 go_wp2_with fail
 have hbA := below_al w1 (.cells #[.string ⟨#[62]⟩, .int .i64 4] 139)
 have hxa := hx1.below hbA
 have hka := hk1.then (Kept.of_below (L := C.L) hbA)
 refine Calls.mono (take_n hxa ⟨#[62]⟩ [62] rfl (by decide) H1.out) ?_
 rintro e2 w2 ⟨rfl, hx2, hkn⟩
 have hk2 := hka.then hkn
 clear hkn hbA hxa hka
 go_wp2_with fail
 rw [rounds_succ]
 go_wp2_with fail
 have hbA := below_al w2 (.cells #[.string ⟨#[61]⟩, .int .i64 5] 139)
 have hxa := hx2.below hbA
 have hka := hk2.then (Kept.of_below (L := C.L) hbA)
 refine Calls.mono (take_n hxa ⟨#[61]⟩ [61] rfl (by decide) H2.out) ?_
 rintro e3 w3 ⟨rfl, hx3, hkn⟩
 have hk3 := hka.then hkn
 clear hkn hbA hxa hka
 go_wp2_with fail
 rw [rounds_succ]
 go_wp2_with fail
 have hbA := below_al w3 (.cells #[.string ⟨#[33]⟩, .int .i64 6] 139)
 have hxa := hx3.below hbA
 have hka := hk3.then (Kept.of_below (L := C.L) hbA)
 refine Calls.mono (take_n hxa ⟨#[33]⟩ [33] rfl (by decide) H3.out) ?_
 rintro e4 w4 ⟨rfl, hx4, hkn⟩
 have hk4 := hka.then hkn
 clear hkn hbA hxa hka
 go_wp2_with fail
 rw [rounds_succ]
 go_wp2_with fail
 have hbA := below_al w4 (.cells #[.string ⟨#[60, 61]⟩, .int .i64 7] 139)
 have hxa := hx4.below hbA
 have hka := hk4.then (Kept.of_below (L := C.L) hbA)
 refine Calls.mono (take_n hxa ⟨#[60, 61]⟩ [60, 61] rfl (by decide) H4.out) ?_
 rintro e5 w5 ⟨rfl, hx5, hkn⟩
 have hk5 := hka.then hkn
 clear hkn hbA hxa hka
 go_wp2_with fail
 rw [rounds_succ]
 go_wp2_with fail
 have hbA := below_al w5 (.cells #[.string ⟨#[60, 33]⟩, .int .i64 8] 139)
 have hxa := hx5.below hbA
 have hka := hk5.then (Kept.of_below (L := C.L) hbA)
 refine Calls.mono (take_n hxa ⟨#[60, 33]⟩ [60, 33] rfl (by decide) H5.out) ?_
 rintro e6 w6 ⟨rfl, hx6, hkn⟩
 have hk6 := hka.then hkn
 clear hkn hbA hxa hka
 go_wp2_with fail
 rw [rounds_succ]
 go_wp2_with fail
 go_ret
 rw [HS.out]
 exact ⟨rfl, hx6, hk6⟩
theorem plainKind_any {C : Cf} {w : World} {a f : Nat} {T : Rw} (h : LX C w a f T) : Calls Tryz.prog 99 #[.pointer (some ⟨C.L, 0, none⟩)] w (PkOk C w a f T (C.p.plainK a groupsT)) := by
 cases h0 : C.p.has [124] a with
 | true => exact plain_0 h h0
 | false =>
   cases h1 : C.p.has [62] a with
   | true => exact plain_1 h h0 h1
   | false =>
     cases h2 : C.p.has [61] a with
     | true => exact plain_2 h h0 h1 h2
     | false =>
       cases h3 : C.p.has [33] a with
       | true => exact plain_3 h h0 h1 h2 h3
       | false =>
         cases h4 : C.p.has [60, 61] a with
         | true => exact plain_4 h h0 h1 h2 h3 h4
         | false =>
           cases h5 : C.p.has [60, 33] a with
           | true => exact plain_5 h h0 h1 h2 h3 h4 h5
           | false =>
             exact plain_6 h h0 h1 h2 h3 h4 h5
end Go.Proofs.YtkcmjcgjfjfimaaGreatDoor.tkw
end
