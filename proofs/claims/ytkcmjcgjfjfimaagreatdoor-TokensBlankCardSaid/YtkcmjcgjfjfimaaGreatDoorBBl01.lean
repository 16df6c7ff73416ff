/- T -/
import Derived.BigQuiet
import Derived.BigRegion
import Derived.Deep.CutBlock
import Derived.Deep.DeepCutAuto
import Derived.Deep.QuietTactic
import Derived.Deep.RegionHeld3
import Derived.Deep.RegionWith
import Derived.IntWalk
import Derived.Laws.AppendOwn
import Derived.Laws.AppendOwnNone
import Derived.Laws.BytesArg
import Derived.Laws.CopyRow
import Derived.Laws.Cover2
import Derived.Laws.Cover3
import Derived.Laws.FloatArith
import Derived.Laws.RangeAny
import Derived.Laws.Rows
import Derived.Laws.Shifts
import Derived.Laws.StructEq
import Derived.Lib.BytesEntry
import Derived.Lib.ConvBytes
import Derived.Lib.Hide
import Derived.Lib.LaidTab
import Derived.Lib.OwnBridge
import Derived.LoopN
import Derived.Maps.OwnSet
import Derived.OpenShut
import Derived.Outline
import Derived.OwnWalk
import Derived.ProofKit
import Derived.RegionTactic
import Derived.Shelf.Abstract
import Derived.Shelf.Bytes.SlIndexAt
import Derived.Shelf.Lays8
import Derived.Shelf.SlLaysC2
import Derived.Shelf.SlLaysE
import Derived.Shelf.SlLaysE0
import Derived.Shelf.SlLaysF
import Derived.Shelf.SlLaysH
import Derived.Shelf.SlSortCmp.NoneTotal
import Derived.Shelf.SlicesE.Clone
import Derived.Shelf.SlicesE.Equal
import Derived.Shelf.SlicesE.IndexFunc
import Derived.Shelf.SlicesG.Cmp
import Derived.Shelf.Spec.SlicesGrow
import Derived.Sort.Walk0
import Derived.StillTailTactics
import Derived.Test.YtkcmjcgjfjfimaaGreatDoorChecked
import Derived.Test.YtkcmjcgjfjfimaaGreatDoorRows
import Derived.WalkKit
import Derived.WalkLawsBesides
import Derived.WalkSpells
import GoSem.Core.Float
import Derived.Test.YtkcmjcgjfjfimaaGreatDoorBQu01
import Derived.Test.YtkcmjcgjfjfimaaGreatDoorBQu02
import Derived.Test.YtkcmjcgjfjfimaaGreatDoorBQu03
import Derived.Test.YtkcmjcgjfjfimaaGreatDoorBQu04
import Derived.Test.YtkcmjcgjfjfimaaGreatDoorBQu05
import Derived.Test.YtkcmjcgjfjfimaaGreatDoorBQu06
import Derived.Test.YtkcmjcgjfjfimaaGreatDoorBQu07
import Derived.Test.YtkcmjcgjfjfimaaGreatDoorBQu08
import Derived.Test.YtkcmjcgjfjfimaaGreatDoorBQu09
import Derived.Test.YtkcmjcgjfjfimaaGreatDoorBQu10
import Derived.Test.YtkcmjcgjfjfimaaGreatDoorBQu11
import Derived.Test.YtkcmjcgjfjfimaaGreatDoorBQu12
import Derived.Test.YtkcmjcgjfjfimaaGreatDoorBQu13
import Derived.Test.YtkcmjcgjfjfimaaGreatDoorBQu14
import Derived.Test.YtkcmjcgjfjfimaaGreatDoorBQu15
import Derived.Test.YtkcmjcgjfjfimaaGreatDoorBQu16
import Derived.Test.YtkcmjcgjfjfimaaGreatDoorBQu17
namespace Go.Proofs.YtkcmjcgjfjfimaaGreatDoor.bulk
end Go.Proofs.YtkcmjcgjfjfimaaGreatDoor.bulk
namespace Go.Proofs.YtkcmjcgjfjfimaaGreatDoor.flt
end Go.Proofs.YtkcmjcgjfjfimaaGreatDoor.flt
namespace Go.Proofs.YtkcmjcgjfjfimaaGreatDoor.lawTokensBlank
end Go.Proofs.YtkcmjcgjfjfimaaGreatDoor.lawTokensBlank
namespace Go.Proofs.YtkcmjcgjfjfimaaGreatDoor.prp
end Go.Proofs.YtkcmjcgjfjfimaaGreatDoor.prp
namespace Go.Proofs.YtkcmjcgjfjfimaaGreatDoor.prw
end Go.Proofs.YtkcmjcgjfjfimaaGreatDoor.prw
namespace Go.Proofs.YtkcmjcgjfjfimaaGreatDoor.setl
end Go.Proofs.YtkcmjcgjfjfimaaGreatDoor.setl
namespace Go.Proofs.YtkcmjcgjfjfimaaGreatDoor.setp
end Go.Proofs.YtkcmjcgjfjfimaaGreatDoor.setp
namespace Go.Proofs.YtkcmjcgjfjfimaaGreatDoor.setw
end Go.Proofs.YtkcmjcgjfjfimaaGreatDoor.setw
namespace Go.Proofs.YtkcmjcgjfjfimaaGreatDoor.tkp
end Go.Proofs.YtkcmjcgjfjfimaaGreatDoor.tkp
namespace Go.Proofs.YtkcmjcgjfjfimaaGreatDoor.tkr
end Go.Proofs.YtkcmjcgjfjfimaaGreatDoor.tkr
namespace Go.Proofs.YtkcmjcgjfjfimaaGreatDoor.tkw
end Go.Proofs.YtkcmjcgjfjfimaaGreatDoor.tkw
namespace Go.Proofs.YtkcmjcgjfjfimaaGreatDoor.ucdp
end Go.Proofs.YtkcmjcgjfjfimaaGreatDoor.ucdp
namespace Go.Proofs.YtkcmjcgjfjfimaaGreatDoor.ucdw
end Go.Proofs.YtkcmjcgjfjfimaaGreatDoor.ucdw
namespace Go.Proofs.YtkcmjcgjfjfimaaGreatDoor.utfp
end Go.Proofs.YtkcmjcgjfjfimaaGreatDoor.utfp
namespace Go.Proofs.YtkcmjcgjfjfimaaGreatDoor.utfw
end Go.Proofs.YtkcmjcgjfjfimaaGreatDoor.utfw
section
namespace Go.Proofs.YtkcmjcgjfjfimaaGreatDoor.tkw
open Go Go.RowKit Go.Maps utfp utfw ucdp setp setw prp tkp
variable {C : Cf} {w : World} {a f : Nat} {T : Rw}
def TsOk (C : Cf) (w : World) (f : Nat) (T : Rw) : Option (Tk × Nat) → Ending → World → Prop
 | none => fun e w' => ∃ t b, RetTB C w t false b f T e w'
 | some r => RetTB C w r.1 true r.2 f T
set_option maxRecDepth 100000 in
set_option maxHeartbeats 4000000 in
theorem test_0 (h : LX C w a f T) (h0 : C.p.has [68, 69, 70, 73, 78, 69] a = true) : Calls Tryz.prog 127 #[.pointer (some ⟨C.L, 0, none⟩)] w (RP C w (C.p.test f a) (TsOk C w f T)) := by
 have HS := Lib.hid (show C.p.test f a = .ok (some (({ kind := 10, n := 12 } : Tk), a + 6)) by unfold Pt.test; rw [if_pos h0])
 have H0 := Lib.hid h0
 clear h0
 have hbw := below_al w ob00
 have hxz := h.below hbw
 have hgz := heap_alloc_new w ob00
 have hrl := h.row_lt (g := w.heap.size) (Nat.le_refl _)
 have hrl1 := h.row_lt (g := w.heap.size + 1) (Nat.le_succ _)
 have hB := h.hb
 have hlt := h.cells.lt
 have hsz : (w.alloc ob00).heap.size = w.heap.size + 1 := World.size_alloc ..
 go_enter Tryz.func127, Tryz.ntmps127
 go_wp2_with fail
 generalize hWW : w.alloc ob00 = W at *
 have hbw2 := below_al W ob01
 have hx0 := hxz.below hbw2
 have hgn := heap_alloc_new W ob01
 have hsz2 : (W.alloc ob01).heap.size = W.heap.size + 1 := World.size_alloc ..
 have hgr := (hbw2.block w.heap.size (by omega)).trans hgz
 have hk0 := (Kept.of_below (L := C.L) hbw).then (Kept.of_below (L := C.L) hbw2)
 rw [hsz] at hgn
 generalize hW2 : W.alloc ob01 = w0 at *
 have HG0 : Hid (w0.heap[(w.heap.size + 1)]? = some (.cells (tkR (.slice none 0 0) { kind := 10 }) 30 (0, 0))) := Lib.hid hgn
 have HR0 := Lib.hid hgr
 have hl0 : (w.heap.size + 1) < w0.heap.size := by omega
 clear hWW hW2 hgz hgn hgr hbw hbw2 hxz hsz hsz2
 refine Calls.mono (take_y hx0 ⟨#[68, 69, 70, 73, 78, 69]⟩ [68, 69, 70, 73, 78, 69] 6 rfl rfl (by decide) H0.out) ?_
 rintro e1 w1 ⟨rfl, hx1, hkn⟩
 have hk1 := hk0.then hkn
 have HG1 := Lib.hid ((hkn.block (w.heap.size + 1) hl0 (by omega)).trans HG0.out)
 have HR1 := Lib.hid ((hkn.block w.heap.size (by omega) (by omega)).trans HR0.out)
 have hl1 : (w.heap.size + 1) < w1.heap.size := by have := hkn.size; omega
 clear hkn
 have c6 : w1.cell? ⟨(w.heap.size + 1), 6, none⟩ = some (.int .i64 0) := by simp [World.cell?, HG1.out, tkR]
 have fz6 : w1.frozen? ⟨(w.heap.size + 1), 6, none⟩ = false := by simp [World.frozen?, HG1.out]
 go_upto_region 23 with (fail)
 have hpk : Poke (w.heap.size + 1) w1 (w1.setCell ⟨(w.heap.size + 1), 6, none⟩ (.int .i64 12)) := poke_cell w1 (w.heap.size + 1) 6 (.int .i64 12)
 have HG2 : Hid ((w1.setCell ⟨(w.heap.size + 1), 6, none⟩ (.int .i64 12)).heap[(w.heap.size + 1)]? = some (.cells (tkR (.slice none 0 0) ({ kind := 10, n := 12 } : Tk)) 30 (0, 0))) := Lib.hid (heap_set (o := 6) (v := .int .i64 12) (HG1.out))
 have HR2 := Lib.hid ((hpk.other w.heap.size (by omega)).trans HR1.out)
 have hx2 := hx1.poke HG1.out (by omega) hrl1 hpk
 have hk2 := hk1.poke hpk (by omega)
 have hl2 : (w.heap.size + 1) < (w1.setCell ⟨(w.heap.size + 1), 6, none⟩ (.int .i64 12)).heap.size := by have := hpk.size; omega
 clear hpk c6 fz6
 generalize (w1.setCell ⟨(w.heap.size + 1), 6, none⟩ (.int .i64 12)) = w2 at *
 go_wp2_with first | (refine wpList_load_tok rfl _ rfl (w.heap.size + 1) rfl (tkR (.slice none 0 0) ({ kind := 10, n := 12 } : Tk)) HG2.out rfl ?_) | (refine wpList_store_tok rfl rfl _ _ rfl w.heap.size rfl _ (tkR (.slice none 0 0) ({ kind := 10, n := 12 } : Tk)) HR2.out rfl rfl (tkR_one (t := ({ kind := 10, n := 12 } : Tk)) (ownR_nil w 0)) rfl ?_)
 refine bodyPost_ret (results_tok2 rfl _ _ w.heap.size (tkR (.slice none 0 0) ({ kind := 10, n := 12 } : Tk)) rfl (setRow_heap _ _ _ _ _ _ HR2.out) rfl) rfl ?_
 exact rp_ok HS.out ⟨_, rfl, ownR_setRow (D := (({ kind := 10, n := 12 } : Tk) : Tk).set) (ownR_nil _ _) HR2.out, hx2.setRow HR2.out hB hrl, hk2.setRow (Nat.le_refl _) _⟩
set_option maxRecDepth 100000 in
set_option maxHeartbeats 4000000 in
theorem test_1 (h : LX C w a f T) (h0 : C.p.has [68, 69, 70, 73, 78, 69] a = false) (h1 : C.p.has [82, 38] a = true) : Calls Tryz.prog 127 #[.pointer (some ⟨C.L, 0, none⟩)] w (RP C w (C.p.test f a) (TsOk C w f T)) := by
 obtain ⟨⟨e, ok⟩, hnm⟩ : ∃ d, C.p.name (a + 2) = d := ⟨_, rfl⟩
 have HN := Lib.hid hnm
 have hs : C.p.test f a = .ok (if (C.p.name (a + 2)).2 = true then some ({ kind := 10, n := 11, m := 3, name := C.p.sub (a + 2) (C.p.name (a + 2)).1 }, (C.p.name (a + 2)).1) else none) := by unfold Pt.test; rw [if_neg (by simp [h0])]; rw [if_pos h1]
 rw [hnm] at hs
 clear hnm
 have H0 := Lib.hid h0
 have H1 := Lib.hid h1
 clear h0 h1
 cases ok with
 | false =>
  have HS := Lib.hid (show C.p.test f a = .ok none by rw [hs]; rfl)
  clear hs
  have hbw := below_al w ob00
  have hxz := h.below hbw
  have hgz := heap_alloc_new w ob00
  have hrl := h.row_lt (g := w.heap.size) (Nat.le_refl _)
  have hrl1 := h.row_lt (g := w.heap.size + 1) (Nat.le_succ _)
  have hB := h.hb
  have hlt := h.cells.lt
  have hsz : (w.alloc ob00).heap.size = w.heap.size + 1 := World.size_alloc ..
  go_enter Tryz.func127, Tryz.ntmps127
  go_wp2_with fail
  generalize hWW : w.alloc ob00 = W at *
  have hbw2 := below_al W ob01
  have hx0 := hxz.below hbw2
  have hgn := heap_alloc_new W ob01
  have hsz2 : (W.alloc ob01).heap.size = W.heap.size + 1 := World.size_alloc ..
  have hgr := (hbw2.block w.heap.size (by omega)).trans hgz
  have hk0 := (Kept.of_below (L := C.L) hbw).then (Kept.of_below (L := C.L) hbw2)
  rw [hsz] at hgn
  generalize hW2 : W.alloc ob01 = w0 at *
  have HG0 : Hid (w0.heap[(w.heap.size + 1)]? = some (.cells (tkR (.slice none 0 0) { kind := 10 }) 30 (0, 0))) := Lib.hid hgn
  have HR0 := Lib.hid hgr
  have hl0 : (w.heap.size + 1) < w0.heap.size := by omega
  clear hWW hW2 hgz hgn hgr hbw hbw2 hxz hsz hsz2
  refine Calls.mono (take_n hx0 ⟨#[68, 69, 70, 73, 78, 69]⟩ [68, 69, 70, 73, 78, 69] rfl (by decide) H0.out) ?_
  rintro e1 w1 ⟨rfl, hx1, hkn⟩
  have hk1 := hk0.then hkn
  have HG1 := Lib.hid ((hkn.block (w.heap.size + 1) hl0 (by omega)).trans HG0.out)
  have HR1 := Lib.hid ((hkn.block w.heap.size (by omega) (by omega)).trans HR0.out)
  have hl1 : (w.heap.size + 1) < w1.heap.size := by have := hkn.size; omega
  clear hkn
  go_wp2_with fail
  refine Calls.mono (take_y hx1 ⟨#[82, 38]⟩ [82, 38] 2 rfl rfl (by decide) H1.out) ?_
  rintro e2 w2 ⟨rfl, hx2, hkn⟩
  have hk2 := hk1.then hkn
  have HG2 := Lib.hid ((hkn.block (w.heap.size + 1) hl1 (by omega)).trans HG1.out)
  have HR2 := Lib.hid ((hkn.block w.heap.size (by omega) (by omega)).trans HR1.out)
  have hl2 : (w.heap.size + 1) < w2.heap.size := by have := hkn.size; omega
  clear hkn
  have c6 : w2.cell? ⟨(w.heap.size + 1), 6, none⟩ = some (.int .i64 0) := by simp [World.cell?, HG2.out, tkR]
  have fz6 : w2.frozen? ⟨(w.heap.size + 1), 6, none⟩ = false := by simp [World.frozen?, HG2.out]
  have c7 : w2.cell? ⟨(w.heap.size + 1), 7, none⟩ = some (.int .i64 0) := by simp [World.cell?, HG2.out, tkR]
  have fz7 : w2.frozen? ⟨(w.heap.size + 1), 7, none⟩ = false := by simp [World.frozen?, HG2.out]
  go_wp2_with fail
  have hpk : Poke (w.heap.size + 1) w2 ((w2.setCell ⟨(w.heap.size + 1), 6, none⟩ (.int .i64 11)).setCell ⟨(w.heap.size + 1), 7, none⟩ (.int .i64 3)) := (poke_cell w2 (w.heap.size + 1) 6 (.int .i64 11)).trans (poke_cell (w2.setCell ⟨(w.heap.size + 1), 6, none⟩ (.int .i64 11)) (w.heap.size + 1) 7 (.int .i64 3))
  have HG3 : Hid (((w2.setCell ⟨(w.heap.size + 1), 6, none⟩ (.int .i64 11)).setCell ⟨(w.heap.size + 1), 7, none⟩ (.int .i64 3)).heap[(w.heap.size + 1)]? = some (.cells (tkR (.slice none 0 0) { kind := 10, n := 11, m := 3 }) 30 (0, 0))) := Lib.hid (heap_set (o := 7) (v := .int .i64 3) (heap_set (o := 6) (v := .int .i64 11) (HG2.out)))
  have HR3 := Lib.hid ((hpk.other w.heap.size (by omega)).trans HR2.out)
  have hx3 := hx2.poke HG2.out (by omega) hrl1 hpk
  have hk3 := hk2.poke hpk (by omega)
  have hl3 : (w.heap.size + 1) < ((w2.setCell ⟨(w.heap.size + 1), 6, none⟩ (.int .i64 11)).setCell ⟨(w.heap.size + 1), 7, none⟩ (.int .i64 3)).heap.size := by have := hpk.size; omega
  clear hpk c6 fz6 c7 fz7
  generalize ((w2.setCell ⟨(w.heap.size + 1), 6, none⟩ (.int .i64 11)).setCell ⟨(w.heap.size + 1), 7, none⟩ (.int .i64 3)) = w3 at *
  refine Calls.mono (name_any hx3) ?_
  intro e4 w4 hr
  rw [HN.out] at hr
  obtain ⟨rfl, hx4, hkn⟩ := hr
  have hk4 := hk3.then hkn
  have HG4 := Lib.hid ((hkn.block (w.heap.size + 1) hl3 (by omega)).trans HG3.out)
  have HR4 := Lib.hid ((hkn.block w.heap.size (by omega) (by omega)).trans HR3.out)
  have hl4 : (w.heap.size + 1) < w4.heap.size := by have := hkn.size; omega
  clear hkn
  have c9 : w4.cell? ⟨(w.heap.size + 1), 9, none⟩ = some (.string ⟨#[]⟩) := by simp [World.cell?, HG4.out, tkR]
  have fz9 : w4.frozen? ⟨(w.heap.size + 1), 9, none⟩ = false := by simp [World.frozen?, HG4.out]
  go_upto_region 23 with (fail)
  have hpk : Poke (w.heap.size + 1) w4 (w4.setCell ⟨(w.heap.size + 1), 9, none⟩ (.string (C.p.sub (a + 2) e))) := poke_cell w4 (w.heap.size + 1) 9 (.string (C.p.sub (a + 2) e))
  have HG5 : Hid ((w4.setCell ⟨(w.heap.size + 1), 9, none⟩ (.string (C.p.sub (a + 2) e))).heap[(w.heap.size + 1)]? = some (.cells (tkR (.slice none 0 0) ({ kind := 10, n := 11, m := 3, name := C.p.sub (a + 2) e } : Tk)) 30 (0, 0))) := Lib.hid (heap_set (o := 9) (v := .string (C.p.sub (a + 2) e)) (HG4.out))
  have HR5 := Lib.hid ((hpk.other w.heap.size (by omega)).trans HR4.out)
  have hx5 := hx4.poke HG4.out (by omega) hrl1 hpk
  have hk5 := hk4.poke hpk (by omega)
  have hl5 : (w.heap.size + 1) < (w4.setCell ⟨(w.heap.size + 1), 9, none⟩ (.string (C.p.sub (a + 2) e))).heap.size := by have := hpk.size; omega
  clear hpk c9 fz9
  generalize (w4.setCell ⟨(w.heap.size + 1), 9, none⟩ (.string (C.p.sub (a + 2) e))) = w5 at *
  go_wp2_with first | (refine wpList_load_tok rfl _ rfl (w.heap.size + 1) rfl (tkR (.slice none 0 0) ({ kind := 10, n := 11, m := 3, name := C.p.sub (a + 2) e } : Tk)) HG5.out rfl ?_) | (refine wpList_store_tok rfl rfl _ _ rfl w.heap.size rfl _ (tkR (.slice none 0 0) ({ kind := 10, n := 11, m := 3, name := C.p.sub (a + 2) e } : Tk)) HR5.out rfl rfl (tkR_one (t := ({ kind := 10, n := 11, m := 3, name := C.p.sub (a + 2) e } : Tk)) (ownR_nil w 0)) rfl ?_)
  refine bodyPost_ret (results_tok2 rfl _ _ w.heap.size (tkR (.slice none 0 0) ({ kind := 10, n := 11, m := 3, name := C.p.sub (a + 2) e } : Tk)) rfl (setRow_heap _ _ _ _ _ _ HR5.out) rfl) rfl ?_
  exact rp_ok HS.out ⟨({ kind := 10, n := 11, m := 3, name := C.p.sub (a + 2) e } : Tk), _, _, rfl, ownR_setRow (D := (({ kind := 10, n := 11, m := 3, name := C.p.sub (a + 2) e } : Tk) : Tk).set) (ownR_nil _ _) HR5.out, hx5.setRow HR5.out hB hrl, hk5.setRow (Nat.le_refl _) _⟩
 | true =>
  have HS := Lib.hid (show C.p.test f a = .ok (some (({ kind := 10, n := 11, m := 3, name := C.p.sub (a + 2) e } : Tk), e)) by rw [hs]; rfl)
  clear hs
  have hbw := below_al w ob00
  have hxz := h.below hbw
  have hgz := heap_alloc_new w ob00
  have hrl := h.row_lt (g := w.heap.size) (Nat.le_refl _)
  have hrl1 := h.row_lt (g := w.heap.size + 1) (Nat.le_succ _)
  have hB := h.hb
  have hlt := h.cells.lt
  have hsz : (w.alloc ob00).heap.size = w.heap.size + 1 := World.size_alloc ..
  go_enter Tryz.func127, Tryz.ntmps127
  go_wp2_with fail
  generalize hWW : w.alloc ob00 = W at *
  have hbw2 := below_al W ob01
  have hx0 := hxz.below hbw2
  have hgn := heap_alloc_new W ob01
  have hsz2 : (W.alloc ob01).heap.size = W.heap.size + 1 := World.size_alloc ..
  have hgr := (hbw2.block w.heap.size (by omega)).trans hgz
  have hk0 := (Kept.of_below (L := C.L) hbw).then (Kept.of_below (L := C.L) hbw2)
  rw [hsz] at hgn
  generalize hW2 : W.alloc ob01 = w0 at *
  have HG0 : Hid (w0.heap[(w.heap.size + 1)]? = some (.cells (tkR (.slice none 0 0) { kind := 10 }) 30 (0, 0))) := Lib.hid hgn
  have HR0 := Lib.hid hgr
  have hl0 : (w.heap.size + 1) < w0.heap.size := by omega
  clear hWW hW2 hgz hgn hgr hbw hbw2 hxz hsz hsz2
  refine Calls.mono (take_n hx0 ⟨#[68, 69, 70, 73, 78, 69]⟩ [68, 69, 70, 73, 78, 69] rfl (by decide) H0.out) ?_
  rintro e1 w1 ⟨rfl, hx1, hkn⟩
  have hk1 := hk0.then hkn
  have HG1 := Lib.hid ((hkn.block (w.heap.size + 1) hl0 (by omega)).trans HG0.out)
  have HR1 := Lib.hid ((hkn.block w.heap.size (by omega) (by omega)).trans HR0.out)
  have hl1 : (w.heap.size + 1) < w1.heap.size := by have := hkn.size; omega
  clear hkn
  go_wp2_with fail
  refine Calls.mono (take_y hx1 ⟨#[82, 38]⟩ [82, 38] 2 rfl rfl (by decide) H1.out) ?_
  rintro e2 w2 ⟨rfl, hx2, hkn⟩
  have hk2 := hk1.then hkn
  have HG2 := Lib.hid ((hkn.block (w.heap.size + 1) hl1 (by omega)).trans HG1.out)
  have HR2 := Lib.hid ((hkn.block w.heap.size (by omega) (by omega)).trans HR1.out)
  have hl2 : (w.heap.size + 1) < w2.heap.size := by have := hkn.size; omega
  clear hkn
  have c6 : w2.cell? ⟨(w.heap.size + 1), 6, none⟩ = some (.int .i64 0) := by simp [World.cell?, HG2.out, tkR]
  have fz6 : w2.frozen? ⟨(w.heap.size + 1), 6, none⟩ = false := by simp [World.frozen?, HG2.out]
  have c7 : w2.cell? ⟨(w.heap.size + 1), 7, none⟩ = some (.int .i64 0) := by simp [World.cell?, HG2.out, tkR]
  have fz7 : w2.frozen? ⟨(w.heap.size + 1), 7, none⟩ = false := by simp [World.frozen?, HG2.out]
  go_wp2_with fail
  have hpk : Poke (w.heap.size + 1) w2 ((w2.setCell ⟨(w.heap.size + 1), 6, none⟩ (.int .i64 11)).setCell ⟨(w.heap.size + 1), 7, none⟩ (.int .i64 3)) := (poke_cell w2 (w.heap.size + 1) 6 (.int .i64 11)).trans (poke_cell (w2.setCell ⟨(w.heap.size + 1), 6, none⟩ (.int .i64 11)) (w.heap.size + 1) 7 (.int .i64 3))
  have HG3 : Hid (((w2.setCell ⟨(w.heap.size + 1), 6, none⟩ (.int .i64 11)).setCell ⟨(w.heap.size + 1), 7, none⟩ (.int .i64 3)).heap[(w.heap.size + 1)]? = some (.cells (tkR (.slice none 0 0) { kind := 10, n := 11, m := 3 }) 30 (0, 0))) := Lib.hid (heap_set (o := 7) (v := .int .i64 3) (heap_set (o := 6) (v := .int .i64 11) (HG2.out)))
  have HR3 := Lib.hid ((hpk.other w.heap.size (by omega)).trans HR2.out)
  have hx3 := hx2.poke HG2.out (by omega) hrl1 hpk
  have hk3 := hk2.poke hpk (by omega)
  have hl3 : (w.heap.size + 1) < ((w2.setCell ⟨(w.heap.size + 1), 6, none⟩ (.int .i64 11)).setCell ⟨(w.heap.size + 1), 7, none⟩ (.int .i64 3)).heap.size := by have := hpk.size; omega
  clear hpk c6 fz6 c7 fz7
  generalize ((w2.setCell ⟨(w.heap.size + 1), 6, none⟩ (.int .i64 11)).setCell ⟨(w.heap.size + 1), 7, none⟩ (.int .i64 3)) = w3 at *
  refine Calls.mono (name_any hx3) ?_
  intro e4 w4 hr
  rw [HN.out] at hr
  obtain ⟨rfl, hx4, hkn⟩ := hr
  have hk4 := hk3.then hkn
  have HG4 := Lib.hid ((hkn.block (w.heap.size + 1) hl3 (by omega)).trans HG3.out)
  have HR4 := Lib.hid ((hkn.block w.heap.size (by omega) (by omega)).trans HR3.out)
  have hl4 : (w.heap.size + 1) < w4.heap.size := by have := hkn.size; omega
  clear hkn
  have c9 : w4.cell? ⟨(w.heap.size + 1), 9, none⟩ = some (.string ⟨#[]⟩) := by simp [World.cell?, HG4.out, tkR]
  have fz9 : w4.frozen? ⟨(w.heap.size + 1), 9, none⟩ = false := by simp [World.frozen?, HG4.out]
  go_upto_region 23 with (fail)
  have hpk : Poke (w.heap.size + 1) w4 (w4.setCell ⟨(w.heap.size + 1), 9, none⟩ (.string (C.p.sub (a + 2) e))) := poke_cell w4 (w.heap.size + 1) 9 (.string (C.p.sub (a + 2) e))
  have HG5 : Hid ((w4.setCell ⟨(w.heap.size + 1), 9, none⟩ (.string (C.p.sub (a + 2) e))).heap[(w.heap.size + 1)]? = some (.cells (tkR (.slice none 0 0) ({ kind := 10, n := 11, m := 3, name := C.p.sub (a + 2) e } : Tk)) 30 (0, 0))) := Lib.hid (heap_set (o := 9) (v := .string (C.p.sub (a + 2) e)) (HG4.out))
  have HR5 := Lib.hid ((hpk.other w.heap.size (by omega)).trans HR4.out)
  have hx5 := hx4.poke HG4.out (by omega) hrl1 hpk
  have hk5 := hk4.poke hpk (by omega)
  have hl5 : (w.heap.size + 1) < (w4.setCell ⟨(w.heap.size + 1), 9, none⟩ (.string (C.p.sub (a + 2) e))).heap.size := by have := hpk.size; omega
  clear hpk c9 fz9
  generalize (w4.setCell ⟨(w.heap.size + 1), 9, none⟩ (.string (C.p.sub (a + 2) e))) = w5 at *
  go_wp2_with first | (refine wpList_load_tok rfl _ rfl (w.heap.size + 1) rfl (tkR (.slice none 0 0) ({ kind := 10, n := 11, m := 3, name := C.p.sub (a + 2) e } : Tk)) HG5.out rfl ?_) | (refine wpList_store_tok rfl rfl _ _ rfl w.heap.size rfl _ (tkR (.slice none 0 0) ({ kind := 10, n := 11, m := 3, name := C.p.sub (a + 2) e } : Tk)) HR5.out rfl rfl (tkR_one (t := ({ kind := 10, n := 11, m := 3, name := C.p.sub (a + 2) e } : Tk)) (ownR_nil w 0)) rfl ?_)
  refine bodyPost_ret (results_tok2 rfl _ _ w.heap.size (tkR (.slice none 0 0) ({ kind := 10, n := 11, m := 3, name := C.p.sub (a + 2) e } : Tk)) rfl (setRow_heap _ _ _ _ _ _ HR5.out) rfl) rfl ?_
  exact rp_ok HS.out ⟨_, rfl, ownR_setRow (D := (({ kind := 10, n := 11, m := 3, name := C.p.sub (a + 2) e } : Tk) : Tk).set) (ownR_nil _ _) HR5.out, hx5.setRow HR5.out hB hrl, hk5.setRow (Nat.le_refl _) _⟩
set_option maxRecDepth 100000 in
set_option maxHeartbeats 4000000 in
theorem test_2 (h : LX C w a f T) (h0 : C.p.has [68, 69, 70, 73, 78, 69] a = false) (h1 : C.p.has [82, 38] a = false) (h2 : C.p.has [82] a = true) : Calls Tryz.prog 127 #[.pointer (some ⟨C.L, 0, none⟩)] w (RP C w (C.p.test f a) (TsOk C w f T)) := by
 have hs : C.p.test f a = (match C.p.number f (a + 1) with
  | .error e => .error e
  | .ok (n, b) => .ok (some ({ kind := 10, n := 11, mode := if b = a + 1 then -1 else n }, b))) := by
  unfold Pt.test; rw [if_neg (by simp [h0])]; rw [if_neg (by simp [h1])]; rw [if_pos h2]
  rfl
 have H0 := Lib.hid h0
 have H1 := Lib.hid h1
 have H2 := Lib.hid h2
 clear h0 h1 h2
 cases hnb : C.p.number f (a + 1) with
 | error x =>
  rw [hnb] at hs
  have HS := Lib.hid (show C.p.test f a = .error x from hs)
  have HNB := Lib.hid hnb
  clear hs hnb
  have hbw := below_al w ob00
  have hxz := h.below hbw
  have hgz := heap_alloc_new w ob00
  have hrl := h.row_lt (g := w.heap.size) (Nat.le_refl _)
  have hrl1 := h.row_lt (g := w.heap.size + 1) (Nat.le_succ _)
  have hB := h.hb
  have hlt := h.cells.lt
  have hsz : (w.alloc ob00).heap.size = w.heap.size + 1 := World.size_alloc ..
  go_enter Tryz.func127, Tryz.ntmps127
  go_wp2_with fail
  generalize hWW : w.alloc ob00 = W at *
  have hbw2 := below_al W ob01
  have hx0 := hxz.below hbw2
  have hgn := heap_alloc_new W ob01
  have hsz2 : (W.alloc ob01).heap.size = W.heap.size + 1 := World.size_alloc ..
  have hgr := (hbw2.block w.heap.size (by omega)).trans hgz
  have hk0 := (Kept.of_below (L := C.L) hbw).then (Kept.of_below (L := C.L) hbw2)
  rw [hsz] at hgn
  generalize hW2 : W.alloc ob01 = w0 at *
  have HG0 : Hid (w0.heap[(w.heap.size + 1)]? = some (.cells (tkR (.slice none 0 0) { kind := 10 }) 30 (0, 0))) := Lib.hid hgn
  have HR0 := Lib.hid hgr
  have hl0 : (w.heap.size + 1) < w0.heap.size := by omega
  clear hWW hW2 hgz hgn hgr hbw hbw2 hxz hsz hsz2
  refine Calls.mono (take_n hx0 ⟨#[68, 69, 70, 73, 78, 69]⟩ [68, 69, 70, 73, 78, 69] rfl (by decide) H0.out) ?_
  rintro e1 w1 ⟨rfl, hx1, hkn⟩
  have hk1 := hk0.then hkn
  have HG1 := Lib.hid ((hkn.block (w.heap.size + 1) hl0 (by omega)).trans HG0.out)
  have HR1 := Lib.hid ((hkn.block w.heap.size (by omega) (by omega)).trans HR0.out)
  have hl1 : (w.heap.size + 1) < w1.heap.size := by have := hkn.size; omega
  clear hkn
  go_wp2_with fail
  refine Calls.mono (take_n hx1 ⟨#[82, 38]⟩ [82, 38] rfl (by decide) H1.out) ?_
  rintro e2 w2 ⟨rfl, hx2, hkn⟩
  have hk2 := hk1.then hkn
  have HG2 := Lib.hid ((hkn.block (w.heap.size + 1) hl1 (by omega)).trans HG1.out)
  have HR2 := Lib.hid ((hkn.block w.heap.size (by omega) (by omega)).trans HR1.out)
  have hl2 : (w.heap.size + 1) < w2.heap.size := by have := hkn.size; omega
  clear hkn
  go_wp2_with fail
  refine Calls.mono (take_y hx2 ⟨#[82]⟩ [82] 1 rfl rfl (by decide) H2.out) ?_
  rintro e3 w3 ⟨rfl, hx3, hkn⟩
  have hk3 := hk2.then hkn
  have HG3 := Lib.hid ((hkn.block (w.heap.size + 1) hl2 (by omega)).trans HG2.out)
  have HR3 := Lib.hid ((hkn.block w.heap.size (by omega) (by omega)).trans HR2.out)
  have hl3 : (w.heap.size + 1) < w3.heap.size := by have := hkn.size; omega
  clear hkn
  have c6 : w3.cell? ⟨(w.heap.size + 1), 6, none⟩ = some (.int .i64 0) := by simp [World.cell?, HG3.out, tkR]
  have fz6 : w3.frozen? ⟨(w.heap.size + 1), 6, none⟩ = false := by simp [World.frozen?, HG3.out]
  have c8 : w3.cell? ⟨(w.heap.size + 1), 8, none⟩ = some (.int .i64 0) := by simp [World.cell?, HG3.out, tkR]
  have fz8 : w3.frozen? ⟨(w.heap.size + 1), 8, none⟩ = false := by simp [World.frozen?, HG3.out]
  go_wp2_with fail
  have hpk : Poke (w.heap.size + 1) w3 ((w3.setCell ⟨(w.heap.size + 1), 6, none⟩ (.int .i64 11)).setCell ⟨(w.heap.size + 1), 8, none⟩ (.int .i64 (-1))) := (poke_cell w3 (w.heap.size + 1) 6 (.int .i64 11)).trans (poke_cell (w3.setCell ⟨(w.heap.size + 1), 6, none⟩ (.int .i64 11)) (w.heap.size + 1) 8 (.int .i64 (-1)))
  have HG4 : Hid (((w3.setCell ⟨(w.heap.size + 1), 6, none⟩ (.int .i64 11)).setCell ⟨(w.heap.size + 1), 8, none⟩ (.int .i64 (-1))).heap[(w.heap.size + 1)]? = some (.cells (tkR (.slice none 0 0) { kind := 10, n := 11, mode := -1 }) 30 (0, 0))) := Lib.hid (heap_set (o := 8) (v := .int .i64 (-1)) (heap_set (o := 6) (v := .int .i64 11) (HG3.out)))
  have HR4 := Lib.hid ((hpk.other w.heap.size (by omega)).trans HR3.out)
  have hx4 := hx3.poke HG3.out (by omega) hrl1 hpk
  have hk4 := hk3.poke hpk (by omega)
  have hl4 : (w.heap.size + 1) < ((w3.setCell ⟨(w.heap.size + 1), 6, none⟩ (.int .i64 11)).setCell ⟨(w.heap.size + 1), 8, none⟩ (.int .i64 (-1))).heap.size := by have := hpk.size; omega
  clear hpk c6 fz6 c8 fz8
  generalize ((w3.setCell ⟨(w.heap.size + 1), 6, none⟩ (.int .i64 11)).setCell ⟨(w.heap.size + 1), 8, none⟩ (.int .i64 (-1))) = w4 at *
  refine Calls.mono (number_any hx4) ?_
  intro e5 w5 hr
  rw [HNB.out] at hr
  obtain ⟨rfl, hkn⟩ := hr
  exact ⟨rfl, rp_err HS.out ⟨rfl, (hk4.mono hB).trans hkn⟩⟩
 | ok r =>
  obtain ⟨n, b⟩ := r
  rw [hnb] at hs
  simp only at hs
  have HNB := Lib.hid hnb
  clear hnb
  by_cases hb : b = a + 1
  ·rw [if_pos hb] at hs
   have HS := Lib.hid hs
   have HD := Lib.hid (show decide (a + 1 < b) = false by simp; omega)
   clear hs hb
   have hbw := below_al w ob00
   have hxz := h.below hbw
   have hgz := heap_alloc_new w ob00
   have hrl := h.row_lt (g := w.heap.size) (Nat.le_refl _)
   have hrl1 := h.row_lt (g := w.heap.size + 1) (Nat.le_succ _)
   have hB := h.hb
   have hlt := h.cells.lt
   have hsz : (w.alloc ob00).heap.size = w.heap.size + 1 := World.size_alloc ..
   go_enter Tryz.func127, Tryz.ntmps127
   go_wp2_with fail
   generalize hWW : w.alloc ob00 = W at *
   have hbw2 := below_al W ob01
   have hx0 := hxz.below hbw2
   have hgn := heap_alloc_new W ob01
   have hsz2 : (W.alloc ob01).heap.size = W.heap.size + 1 := World.size_alloc ..
   have hgr := (hbw2.block w.heap.size (by omega)).trans hgz
   have hk0 := (Kept.of_below (L := C.L) hbw).then (Kept.of_below (L := C.L) hbw2)
   rw [hsz] at hgn
   generalize hW2 : W.alloc ob01 = w0 at *
   have HG0 : Hid (w0.heap[(w.heap.size + 1)]? = some (.cells (tkR (.slice none 0 0) { kind := 10 }) 30 (0, 0))) := Lib.hid hgn
   have HR0 := Lib.hid hgr
   have hl0 : (w.heap.size + 1) < w0.heap.size := by omega
   clear hWW hW2 hgz hgn hgr hbw hbw2 hxz hsz hsz2
   refine Calls.mono (take_n hx0 ⟨#[68, 69, 70, 73, 78, 69]⟩ [68, 69, 70, 73, 78, 69] rfl (by decide) H0.out) ?_
   rintro e1 w1 ⟨rfl, hx1, hkn⟩
   have hk1 := hk0.then hkn
   have HG1 := Lib.hid ((hkn.block (w.heap.size + 1) hl0 (by omega)).trans HG0.out)
   have HR1 := Lib.hid ((hkn.block w.heap.size (by omega) (by omega)).trans HR0.out)
   have hl1 : (w.heap.size + 1) < w1.heap.size := by have := hkn.size; omega
   clear hkn
   go_wp2_with fail
   refine Calls.mono (take_n hx1 ⟨#[82, 38]⟩ [82, 38] rfl (by decide) H1.out) ?_
   rintro e2 w2 ⟨rfl, hx2, hkn⟩
   have hk2 := hk1.then hkn
   have HG2 := Lib.hid ((hkn.block (w.heap.size + 1) hl1 (by omega)).trans HG1.out)
   have HR2 := Lib.hid ((hkn.block w.heap.size (by omega) (by omega)).trans HR1.out)
   have hl2 : (w.heap.size + 1) < w2.heap.size := by have := hkn.size; omega
   clear hkn
   go_wp2_with fail
   refine Calls.mono (take_y hx2 ⟨#[82]⟩ [82] 1 rfl rfl (by decide) H2.out) ?_
   rintro e3 w3 ⟨rfl, hx3, hkn⟩
   have hk3 := hk2.then hkn
   have HG3 := Lib.hid ((hkn.block (w.heap.size + 1) hl2 (by omega)).trans HG2.out)
   have HR3 := Lib.hid ((hkn.block w.heap.size (by omega) (by omega)).trans HR2.out)
   have hl3 : (w.heap.size + 1) < w3.heap.size := by have := hkn.size; omega
   clear hkn
   have c6 : w3.cell? ⟨(w.heap.size + 1), 6, none⟩ = some (.int .i64 0) := by simp [World.cell?, HG3.out, tkR]
   have fz6 : w3.frozen? ⟨(w.heap.size + 1), 6, none⟩ = false := by simp [World.frozen?, HG3.out]
   have c8 : w3.cell? ⟨(w.heap.size + 1), 8, none⟩ = some (.int .i64 0) := by simp [World.cell?, HG3.out, tkR]
   have fz8 : w3.frozen? ⟨(w.heap.size + 1), 8, none⟩ = false := by simp [World.frozen?, HG3.out]
   go_wp2_with fail
   have hpk : Poke (w.heap.size + 1) w3 ((w3.setCell ⟨(w.heap.size + 1), 6, none⟩ (.int .i64 11)).setCell ⟨(w.heap.size + 1), 8, none⟩ (.int .i64 (-1))) := (poke_cell w3 (w.heap.size + 1) 6 (.int .i64 11)).trans (poke_cell (w3.setCell ⟨(w.heap.size + 1), 6, none⟩ (.int .i64 11)) (w.heap.size + 1) 8 (.int .i64 (-1)))
   have HG4 : Hid (((w3.setCell ⟨(w.heap.size + 1), 6, none⟩ (.int .i64 11)).setCell ⟨(w.heap.size + 1), 8, none⟩ (.int .i64 (-1))).heap[(w.heap.size + 1)]? = some (.cells (tkR (.slice none 0 0) { kind := 10, n := 11, mode := -1 }) 30 (0, 0))) := Lib.hid (heap_set (o := 8) (v := .int .i64 (-1)) (heap_set (o := 6) (v := .int .i64 11) (HG3.out)))
   have HR4 := Lib.hid ((hpk.other w.heap.size (by omega)).trans HR3.out)
   have hx4 := hx3.poke HG3.out (by omega) hrl1 hpk
   have hk4 := hk3.poke hpk (by omega)
   have hl4 : (w.heap.size + 1) < ((w3.setCell ⟨(w.heap.size + 1), 6, none⟩ (.int .i64 11)).setCell ⟨(w.heap.size + 1), 8, none⟩ (.int .i64 (-1))).heap.size := by have := hpk.size; omega
   clear hpk c6 fz6 c8 fz8
   generalize ((w3.setCell ⟨(w.heap.size + 1), 6, none⟩ (.int .i64 11)).setCell ⟨(w.heap.size + 1), 8, none⟩ (.int .i64 (-1))) = w4 at *
   refine Calls.mono (number_any hx4) ?_
   intro e5 w5 hr
   rw [HNB.out] at hr
   obtain ⟨rfl, hx5, hkn⟩ := hr
   have hk5 := hk4.then hkn
   have HG5 := Lib.hid ((hkn.block (w.heap.size + 1) hl4 (by omega)).trans HG4.out)
   have HR5 := Lib.hid ((hkn.block w.heap.size (by omega) (by omega)).trans HR4.out)
   have hl5 : (w.heap.size + 1) < w5.heap.size := by have := hkn.size; omega
   clear hkn
   simp only
   rw [HD.out]
   go_wp2_with first | (refine wpList_load_tok rfl _ rfl (w.heap.size + 1) rfl (tkR (.slice none 0 0) ({ kind := 10, n := 11, mode := -1 } : Tk)) HG5.out rfl ?_) | (refine wpList_store_tok rfl rfl _ _ rfl w.heap.size rfl _ (tkR (.slice none 0 0) ({ kind := 10, n := 11, mode := -1 } : Tk)) HR5.out rfl rfl (tkR_one (t := ({ kind := 10, n := 11, mode := -1 } : Tk)) (ownR_nil w 0)) rfl ?_)
   refine bodyPost_ret (results_tok2 rfl _ _ w.heap.size (tkR (.slice none 0 0) ({ kind := 10, n := 11, mode := -1 } : Tk)) rfl (setRow_heap _ _ _ _ _ _ HR5.out) rfl) rfl ?_
   exact rp_ok HS.out ⟨_, rfl, ownR_setRow (D := (({ kind := 10, n := 11, mode := -1 } : Tk) : Tk).set) (ownR_nil _ _) HR5.out, hx5.setRow HR5.out hB hrl, hk5.setRow (Nat.le_refl _) _⟩
  ·rw [if_neg hb] at hs
   have HS := Lib.hid hs
   clear hs
   have hbw := below_al w ob00
   have hxz := h.below hbw
   have hgz := heap_alloc_new w ob00
   have hrl := h.row_lt (g := w.heap.size) (Nat.le_refl _)
   have hrl1 := h.row_lt (g := w.heap.size + 1) (Nat.le_succ _)
   have hB := h.hb
   have hlt := h.cells.lt
   have hsz : (w.alloc ob00).heap.size = w.heap.size + 1 := World.size_alloc ..
   go_enter Tryz.func127, Tryz.ntmps127
   go_wp2_with fail
   generalize hWW : w.alloc ob00 = W at *
   have hbw2 := below_al W ob01
   have hx0 := hxz.below hbw2
   have hgn := heap_alloc_new W ob01
   have hsz2 : (W.alloc ob01).heap.size = W.heap.size + 1 := World.size_alloc ..
   have hgr := (hbw2.block w.heap.size (by omega)).trans hgz
   have hk0 := (Kept.of_below (L := C.L) hbw).then (Kept.of_below (L := C.L) hbw2)
   rw [hsz] at hgn
   generalize hW2 : W.alloc ob01 = w0 at *
   have HG0 : Hid (w0.heap[(w.heap.size + 1)]? = some (.cells (tkR (.slice none 0 0) { kind := 10 }) 30 (0, 0))) := Lib.hid hgn
   have HR0 := Lib.hid hgr
   have hl0 : (w.heap.size + 1) < w0.heap.size := by omega
   clear hWW hW2 hgz hgn hgr hbw hbw2 hxz hsz hsz2
   refine Calls.mono (take_n hx0 ⟨#[68, 69, 70, 73, 78, 69]⟩ [68, 69, 70, 73, 78, 69] rfl (by decide) H0.out) ?_
   rintro e1 w1 ⟨rfl, hx1, hkn⟩
   have hk1 := hk0.then hkn
   have HG1 := Lib.hid ((hkn.block (w.heap.size + 1) hl0 (by omega)).trans HG0.out)
   have HR1 := Lib.hid ((hkn.block w.heap.size (by omega) (by omega)).trans HR0.out)
   have hl1 : (w.heap.size + 1) < w1.heap.size := by have := hkn.size; omega
   clear hkn
   go_wp2_with fail
   refine Calls.mono (take_n hx1 ⟨#[82, 38]⟩ [82, 38] rfl (by decide) H1.out) ?_
   rintro e2 w2 ⟨rfl, hx2, hkn⟩
   have hk2 := hk1.then hkn
   have HG2 := Lib.hid ((hkn.block (w.heap.size + 1) hl1 (by omega)).trans HG1.out)
   have HR2 := Lib.hid ((hkn.block w.heap.size (by omega) (by omega)).trans HR1.out)
   have hl2 : (w.heap.size + 1) < w2.heap.size := by have := hkn.size; omega
   clear hkn
   go_wp2_with fail
   refine Calls.mono (take_y hx2 ⟨#[82]⟩ [82] 1 rfl rfl (by decide) H2.out) ?_
   rintro e3 w3 ⟨rfl, hx3, hkn⟩
   have hk3 := hk2.then hkn
   have HG3 := Lib.hid ((hkn.block (w.heap.size + 1) hl2 (by omega)).trans HG2.out)
   have HR3 := Lib.hid ((hkn.block w.heap.size (by omega) (by omega)).trans HR2.out)
   have hl3 : (w.heap.size + 1) < w3.heap.size := by have := hkn.size; omega
   clear hkn
   have c6 : w3.cell? ⟨(w.heap.size + 1), 6, none⟩ = some (.int .i64 0) := by simp [World.cell?, HG3.out, tkR]
   have fz6 : w3.frozen? ⟨(w.heap.size + 1), 6, none⟩ = false := by simp [World.frozen?, HG3.out]
   have c8 : w3.cell? ⟨(w.heap.size + 1), 8, none⟩ = some (.int .i64 0) := by simp [World.cell?, HG3.out, tkR]
   have fz8 : w3.frozen? ⟨(w.heap.size + 1), 8, none⟩ = false := by simp [World.frozen?, HG3.out]
   go_wp2_with fail
   have hpk : Poke (w.heap.size + 1) w3 ((w3.setCell ⟨(w.heap.size + 1), 6, none⟩ (.int .i64 11)).setCell ⟨(w.heap.size + 1), 8, none⟩ (.int .i64 (-1))) := (poke_cell w3 (w.heap.size + 1) 6 (.int .i64 11)).trans (poke_cell (w3.setCell ⟨(w.heap.size + 1), 6, none⟩ (.int .i64 11)) (w.heap.size + 1) 8 (.int .i64 (-1)))
   have HG4 : Hid (((w3.setCell ⟨(w.heap.size + 1), 6, none⟩ (.int .i64 11)).setCell ⟨(w.heap.size + 1), 8, none⟩ (.int .i64 (-1))).heap[(w.heap.size + 1)]? = some (.cells (tkR (.slice none 0 0) { kind := 10, n := 11, mode := -1 }) 30 (0, 0))) := Lib.hid (heap_set (o := 8) (v := .int .i64 (-1)) (heap_set (o := 6) (v := .int .i64 11) (HG3.out)))
   have HR4 := Lib.hid ((hpk.other w.heap.size (by omega)).trans HR3.out)
   have hx4 := hx3.poke HG3.out (by omega) hrl1 hpk
   have hk4 := hk3.poke hpk (by omega)
   have hl4 : (w.heap.size + 1) < ((w3.setCell ⟨(w.heap.size + 1), 6, none⟩ (.int .i64 11)).setCell ⟨(w.heap.size + 1), 8, none⟩ (.int .i64 (-1))).heap.size := by have := hpk.size; omega
   clear hpk c6 fz6 c8 fz8
   generalize ((w3.setCell ⟨(w.heap.size + 1), 6, none⟩ (.int .i64 11)).setCell ⟨(w.heap.size + 1), 8, none⟩ (.int .i64 (-1))) = w4 at *
   have hge := hx4.an
   refine Calls.mono (number_any hx4) ?_
   intro e5 w5 hr
   rw [HNB.out] at hr
   obtain ⟨rfl, hx5, hkn⟩ := hr
   have hk5 := hk4.then hkn
   have HG5 := Lib.hid ((hkn.block (w.heap.size + 1) hl4 (by omega)).trans HG4.out)
   have HR5 := Lib.hid ((hkn.block w.heap.size (by omega) (by omega)).trans HR4.out)
   have hl5 : (w.heap.size + 1) < w5.heap.size := by have := hkn.size; omega
   clear hkn
   have hbb := number_bd hge HNB.out
   rw [show decide (a + 1 < b) = true by simp; omega]
   clear hb hge hbb
   have c8 : w5.cell? ⟨(w.heap.size + 1), 8, none⟩ = some (.int .i64 (-1)) := by simp [World.cell?, HG5.out, tkR]
   have fz8 : w5.frozen? ⟨(w.heap.size + 1), 8, none⟩ = false := by simp [World.frozen?, HG5.out]
   go_upto_region 23 with (fail)
   have hpk : Poke (w.heap.size + 1) w5 (w5.setCell ⟨(w.heap.size + 1), 8, none⟩ (.int .i64 n)) := poke_cell w5 (w.heap.size + 1) 8 (.int .i64 n)
   have HG6 : Hid ((w5.setCell ⟨(w.heap.size + 1), 8, none⟩ (.int .i64 n)).heap[(w.heap.size + 1)]? = some (.cells (tkR (.slice none 0 0) ({ kind := 10, n := 11, mode := n } : Tk)) 30 (0, 0))) := Lib.hid (heap_set (o := 8) (v := .int .i64 n) (HG5.out))
   have HR6 := Lib.hid ((hpk.other w.heap.size (by omega)).trans HR5.out)
   have hx6 := hx5.poke HG5.out (by omega) hrl1 hpk
   have hk6 := hk5.poke hpk (by omega)
   have hl6 : (w.heap.size + 1) < (w5.setCell ⟨(w.heap.size + 1), 8, none⟩ (.int .i64 n)).heap.size := by have := hpk.size; omega
   clear hpk c8 fz8
   generalize (w5.setCell ⟨(w.heap.size + 1), 8, none⟩ (.int .i64 n)) = w6 at *
   go_wp2_with first | (refine wpList_load_tok rfl _ rfl (w.heap.size + 1) rfl (tkR (.slice none 0 0) ({ kind := 10, n := 11, mode := n } : Tk)) HG6.out rfl ?_) | (refine wpList_store_tok rfl rfl _ _ rfl w.heap.size rfl _ (tkR (.slice none 0 0) ({ kind := 10, n := 11, mode := n } : Tk)) HR6.out rfl rfl (tkR_one (t := ({ kind := 10, n := 11, mode := n } : Tk)) (ownR_nil w 0)) rfl ?_)
   refine bodyPost_ret (results_tok2 rfl _ _ w.heap.size (tkR (.slice none 0 0) ({ kind := 10, n := 11, mode := n } : Tk)) rfl (setRow_heap _ _ _ _ _ _ HR6.out) rfl) rfl ?_
   exact rp_ok HS.out ⟨_, rfl, ownR_setRow (D := (({ kind := 10, n := 11, mode := n } : Tk) : Tk).set) (ownR_nil _ _) HR6.out, hx6.setRow HR6.out hB hrl, hk6.setRow (Nat.le_refl _) _⟩
set_option maxRecDepth 100000 in
set_option maxHeartbeats 4000000 in
theorem test_3 (h : LX C w a f T) (h0 : C.p.has [68, 69, 70, 73, 78, 69] a = false) (h1 : C.p.has [82, 38] a = false) (h2 : C.p.has [82] a = false) (h3 : C.p.has [60] a = true) : Calls Tryz.prog 127 #[.pointer (some ⟨C.L, 0, none⟩)] w (RP C w (C.p.test f a) (TsOk C w f T)) := by
 obtain ⟨⟨e, ok⟩, hnm⟩ : ∃ d, C.p.name (a + 1) = d := ⟨_, rfl⟩
 have HN := Lib.hid hnm
 have hs : C.p.test f a = .ok (if (C.p.name (a + 1)).2 = true ∧ C.p.has [62] (C.p.name (a + 1)).1 = true then some ({ kind := 10, n := 10, name := C.p.sub (a + 1) (C.p.name (a + 1)).1 }, (C.p.name (a + 1)).1 + 1) else none) := by unfold Pt.test; rw [if_neg (by simp [h0])]; rw [if_neg (by simp [h1])]; rw [if_neg (by simp [h2])]; rw [if_pos h3]
 rw [hnm] at hs
 clear hnm
 have H0 := Lib.hid h0
 have H1 := Lib.hid h1
 have H2 := Lib.hid h2
 have H3 := Lib.hid h3
 clear h0 h1 h2 h3
 cases ok with
 | false =>
  have HS := Lib.hid (show C.p.test f a = .ok none by rw [hs]; simp)
  clear hs
  have hbw := below_al w ob00
  have hxz := h.below hbw
  have hgz := heap_alloc_new w ob00
  have hrl := h.row_lt (g := w.heap.size) (Nat.le_refl _)
  have hrl1 := h.row_lt (g := w.heap.size + 1) (Nat.le_succ _)
  have hB := h.hb
  have hlt := h.cells.lt
  have hsz : (w.alloc ob00).heap.size = w.heap.size + 1 := World.size_alloc ..
  go_enter Tryz.func127, Tryz.ntmps127
  go_wp2_with fail
  generalize hWW : w.alloc ob00 = W at *
  have hbw2 := below_al W ob01
  have hx0 := hxz.below hbw2
  have hgn := heap_alloc_new W ob01
  have hsz2 : (W.alloc ob01).heap.size = W.heap.size + 1 := World.size_alloc ..
  have hgr := (hbw2.block w.heap.size (by omega)).trans hgz
  have hk0 := (Kept.of_below (L := C.L) hbw).then (Kept.of_below (L := C.L) hbw2)
  rw [hsz] at hgn
  generalize hW2 : W.alloc ob01 = w0 at *
  have HG0 : Hid (w0.heap[(w.heap.size + 1)]? = some (.cells (tkR (.slice none 0 0) { kind := 10 }) 30 (0, 0))) := Lib.hid hgn
  have HR0 := Lib.hid hgr
  have hl0 : (w.heap.size + 1) < w0.heap.size := by omega
  clear hWW hW2 hgz hgn hgr hbw hbw2 hxz hsz hsz2
  refine Calls.mono (take_n hx0 ⟨#[68, 69, 70, 73, 78, 69]⟩ [68, 69, 70, 73, 78, 69] rfl (by decide) H0.out) ?_
  rintro e1 w1 ⟨rfl, hx1, hkn⟩
  have hk1 := hk0.then hkn
  have HG1 := Lib.hid ((hkn.block (w.heap.size + 1) hl0 (by omega)).trans HG0.out)
  have HR1 := Lib.hid ((hkn.block w.heap.size (by omega) (by omega)).trans HR0.out)
  have hl1 : (w.heap.size + 1) < w1.heap.size := by have := hkn.size; omega
  clear hkn
  go_wp2_with fail
  refine Calls.mono (take_n hx1 ⟨#[82, 38]⟩ [82, 38] rfl (by decide) H1.out) ?_
  rintro e2 w2 ⟨rfl, hx2, hkn⟩
  have hk2 := hk1.then hkn
  have HG2 := Lib.hid ((hkn.block (w.heap.size + 1) hl1 (by omega)).trans HG1.out)
  have HR2 := Lib.hid ((hkn.block w.heap.size (by omega) (by omega)).trans HR1.out)
  have hl2 : (w.heap.size + 1) < w2.heap.size := by have := hkn.size; omega
  clear hkn
  go_wp2_with fail
  refine Calls.mono (take_n hx2 ⟨#[82]⟩ [82] rfl (by decide) H2.out) ?_
  rintro e3 w3 ⟨rfl, hx3, hkn⟩
  have hk3 := hk2.then hkn
  have HG3 := Lib.hid ((hkn.block (w.heap.size + 1) hl2 (by omega)).trans HG2.out)
  have HR3 := Lib.hid ((hkn.block w.heap.size (by omega) (by omega)).trans HR2.out)
  have hl3 : (w.heap.size + 1) < w3.heap.size := by have := hkn.size; omega
  clear hkn
  go_wp2_with fail
  refine Calls.mono (take_y hx3 ⟨#[60]⟩ [60] 1 rfl rfl (by decide) H3.out) ?_
  rintro e4 w4 ⟨rfl, hx4, hkn⟩
  have hk4 := hk3.then hkn
  have HG4 := Lib.hid ((hkn.block (w.heap.size + 1) hl3 (by omega)).trans HG3.out)
  have HR4 := Lib.hid ((hkn.block w.heap.size (by omega) (by omega)).trans HR3.out)
  have hl4 : (w.heap.size + 1) < w4.heap.size := by have := hkn.size; omega
  clear hkn
  have c6 : w4.cell? ⟨(w.heap.size + 1), 6, none⟩ = some (.int .i64 0) := by simp [World.cell?, HG4.out, tkR]
  have fz6 : w4.frozen? ⟨(w.heap.size + 1), 6, none⟩ = false := by simp [World.frozen?, HG4.out]
  go_wp2_with fail
  have hpk : Poke (w.heap.size + 1) w4 (w4.setCell ⟨(w.heap.size + 1), 6, none⟩ (.int .i64 10)) := poke_cell w4 (w.heap.size + 1) 6 (.int .i64 10)
  have HG5 : Hid ((w4.setCell ⟨(w.heap.size + 1), 6, none⟩ (.int .i64 10)).heap[(w.heap.size + 1)]? = some (.cells (tkR (.slice none 0 0) { kind := 10, n := 10 }) 30 (0, 0))) := Lib.hid (heap_set (o := 6) (v := .int .i64 10) (HG4.out))
  have HR5 := Lib.hid ((hpk.other w.heap.size (by omega)).trans HR4.out)
  have hx5 := hx4.poke HG4.out (by omega) hrl1 hpk
  have hk5 := hk4.poke hpk (by omega)
  have hl5 : (w.heap.size + 1) < (w4.setCell ⟨(w.heap.size + 1), 6, none⟩ (.int .i64 10)).heap.size := by have := hpk.size; omega
  clear hpk c6 fz6
  generalize (w4.setCell ⟨(w.heap.size + 1), 6, none⟩ (.int .i64 10)) = w5 at *
  refine Calls.mono (name_any hx5) ?_
  intro e6 w6 hr
  rw [HN.out] at hr
  obtain ⟨rfl, hx6, hkn⟩ := hr
  have hk6 := hk5.then hkn
  have HG6 := Lib.hid ((hkn.block (w.heap.size + 1) hl5 (by omega)).trans HG5.out)
  have HR6 := Lib.hid ((hkn.block w.heap.size (by omega) (by omega)).trans HR5.out)
  have hl6 : (w.heap.size + 1) < w6.heap.size := by have := hkn.size; omega
  clear hkn
  have c9 : w6.cell? ⟨(w.heap.size + 1), 9, none⟩ = some (.string ⟨#[]⟩) := by simp [World.cell?, HG6.out, tkR]
  have fz9 : w6.frozen? ⟨(w.heap.size + 1), 9, none⟩ = false := by simp [World.frozen?, HG6.out]
  go_upto_region 23 with (fail)
  have hpk : Poke (w.heap.size + 1) w6 (w6.setCell ⟨(w.heap.size + 1), 9, none⟩ (.string (C.p.sub (a + 1) e))) := poke_cell w6 (w.heap.size + 1) 9 (.string (C.p.sub (a + 1) e))
  have HG7 : Hid ((w6.setCell ⟨(w.heap.size + 1), 9, none⟩ (.string (C.p.sub (a + 1) e))).heap[(w.heap.size + 1)]? = some (.cells (tkR (.slice none 0 0) ({ kind := 10, n := 10, name := C.p.sub (a + 1) e } : Tk)) 30 (0, 0))) := Lib.hid (heap_set (o := 9) (v := .string (C.p.sub (a + 1) e)) (HG6.out))
  have HR7 := Lib.hid ((hpk.other w.heap.size (by omega)).trans HR6.out)
  have hx7 := hx6.poke HG6.out (by omega) hrl1 hpk
  have hk7 := hk6.poke hpk (by omega)
  have hl7 : (w.heap.size + 1) < (w6.setCell ⟨(w.heap.size + 1), 9, none⟩ (.string (C.p.sub (a + 1) e))).heap.size := by have := hpk.size; omega
  clear hpk c9 fz9
  generalize (w6.setCell ⟨(w.heap.size + 1), 9, none⟩ (.string (C.p.sub (a + 1) e))) = w7 at *
  go_wp2_with first | (refine wpList_load_tok rfl _ rfl (w.heap.size + 1) rfl (tkR (.slice none 0 0) ({ kind := 10, n := 10, name := C.p.sub (a + 1) e } : Tk)) HG7.out rfl ?_) | (refine wpList_store_tok rfl rfl _ _ rfl w.heap.size rfl _ (tkR (.slice none 0 0) ({ kind := 10, n := 10, name := C.p.sub (a + 1) e } : Tk)) HR7.out rfl rfl (tkR_one (t := ({ kind := 10, n := 10, name := C.p.sub (a + 1) e } : Tk)) (ownR_nil w 0)) rfl ?_)
  refine bodyPost_ret (results_tok2 rfl _ _ w.heap.size (tkR (.slice none 0 0) ({ kind := 10, n := 10, name := C.p.sub (a + 1) e } : Tk)) rfl (setRow_heap _ _ _ _ _ _ HR7.out) rfl) rfl ?_
  exact rp_ok HS.out ⟨({ kind := 10, n := 10, name := C.p.sub (a + 1) e } : Tk), _, _, rfl, ownR_setRow (D := (({ kind := 10, n := 10, name := C.p.sub (a + 1) e } : Tk) : Tk).set) (ownR_nil _ _) HR7.out, hx7.setRow HR7.out hB hrl, hk7.setRow (Nat.le_refl _) _⟩
 | true =>
  cases hz : C.p.has [62] e with
  | false =>
   have HS := Lib.hid (show C.p.test f a = .ok none by rw [hs]; simp [hz])
   have HZ := Lib.hid hz
   clear hs hz
   have hbw := below_al w ob00
   have hxz := h.below hbw
   have hgz := heap_alloc_new w ob00
   have hrl := h.row_lt (g := w.heap.size) (Nat.le_refl _)
   have hrl1 := h.row_lt (g := w.heap.size + 1) (Nat.le_succ _)
   have hB := h.hb
   have hlt := h.cells.lt
   have hsz : (w.alloc ob00).heap.size = w.heap.size + 1 := World.size_alloc ..
   go_enter Tryz.func127, Tryz.ntmps127
   go_wp2_with fail
   generalize hWW : w.alloc ob00 = W at *
   have hbw2 := below_al W ob01
   have hx0 := hxz.below hbw2
   have hgn := heap_alloc_new W ob01
   have hsz2 : (W.alloc ob01).heap.size = W.heap.size + 1 := World.size_alloc ..
   have hgr := (hbw2.block w.heap.size (by omega)).trans hgz
   have hk0 := (Kept.of_below (L := C.L) hbw).then (Kept.of_below (L := C.L) hbw2)
   rw [hsz] at hgn
   generalize hW2 : W.alloc ob01 = w0 at *
   have HG0 : Hid (w0.heap[(w.heap.size + 1)]? = some (.cells (tkR (.slice none 0 0) { kind := 10 }) 30 (0, 0))) := Lib.hid hgn
   have HR0 := Lib.hid hgr
   have hl0 : (w.heap.size + 1) < w0.heap.size := by omega
   clear hWW hW2 hgz hgn hgr hbw hbw2 hxz hsz hsz2
   refine Calls.mono (take_n hx0 ⟨#[68, 69, 70, 73, 78, 69]⟩ [68, 69, 70, 73, 78, 69] rfl (by decide) H0.out) ?_
   rintro e1 w1 ⟨rfl, hx1, hkn⟩
   have hk1 := hk0.then hkn
   have HG1 := Lib.hid ((hkn.block (w.heap.size + 1) hl0 (by omega)).trans HG0.out)
   have HR1 := Lib.hid ((hkn.block w.heap.size (by omega) (by omega)).trans HR0.out)
   have hl1 : (w.heap.size + 1) < w1.heap.size := by have := hkn.size; omega
   clear hkn
   go_wp2_with fail
   refine Calls.mono (take_n hx1 ⟨#[82, 38]⟩ [82, 38] rfl (by decide) H1.out) ?_
   rintro e2 w2 ⟨rfl, hx2, hkn⟩
   have hk2 := hk1.then hkn
   have HG2 := Lib.hid ((hkn.block (w.heap.size + 1) hl1 (by omega)).trans HG1.out)
   have HR2 := Lib.hid ((hkn.block w.heap.size (by omega) (by omega)).trans HR1.out)
   have hl2 : (w.heap.size + 1) < w2.heap.size := by have := hkn.size; omega
   clear hkn
   go_wp2_with fail
   refine Calls.mono (take_n hx2 ⟨#[82]⟩ [82] rfl (by decide) H2.out) ?_
   rintro e3 w3 ⟨rfl, hx3, hkn⟩
   have hk3 := hk2.then hkn
   have HG3 := Lib.hid ((hkn.block (w.heap.size + 1) hl2 (by omega)).trans HG2.out)
   have HR3 := Lib.hid ((hkn.block w.heap.size (by omega) (by omega)).trans HR2.out)
   have hl3 : (w.heap.size + 1) < w3.heap.size := by have := hkn.size; omega
   clear hkn
   go_wp2_with fail
   refine Calls.mono (take_y hx3 ⟨#[60]⟩ [60] 1 rfl rfl (by decide) H3.out) ?_
   rintro e4 w4 ⟨rfl, hx4, hkn⟩
   have hk4 := hk3.then hkn
   have HG4 := Lib.hid ((hkn.block (w.heap.size + 1) hl3 (by omega)).trans HG3.out)
   have HR4 := Lib.hid ((hkn.block w.heap.size (by omega) (by omega)).trans HR3.out)
   have hl4 : (w.heap.size + 1) < w4.heap.size := by have := hkn.size; omega
   clear hkn
   have c6 : w4.cell? ⟨(w.heap.size + 1), 6, none⟩ = some (.int .i64 0) := by simp [World.cell?, HG4.out, tkR]
   have fz6 : w4.frozen? ⟨(w.heap.size + 1), 6, none⟩ = false := by simp [World.frozen?, HG4.out]
   go_wp2_with fail
   have hpk : Poke (w.heap.size + 1) w4 (w4.setCell ⟨(w.heap.size + 1), 6, none⟩ (.int .i64 10)) := poke_cell w4 (w.heap.size + 1) 6 (.int .i64 10)
   have HG5 : Hid ((w4.setCell ⟨(w.heap.size + 1), 6, none⟩ (.int .i64 10)).heap[(w.heap.size + 1)]? = some (.cells (tkR (.slice none 0 0) { kind := 10, n := 10 }) 30 (0, 0))) := Lib.hid (heap_set (o := 6) (v := .int .i64 10) (HG4.out))
   have HR5 := Lib.hid ((hpk.other w.heap.size (by omega)).trans HR4.out)
   have hx5 := hx4.poke HG4.out (by omega) hrl1 hpk
   have hk5 := hk4.poke hpk (by omega)
   have hl5 : (w.heap.size + 1) < (w4.setCell ⟨(w.heap.size + 1), 6, none⟩ (.int .i64 10)).heap.size := by have := hpk.size; omega
   clear hpk c6 fz6
   generalize (w4.setCell ⟨(w.heap.size + 1), 6, none⟩ (.int .i64 10)) = w5 at *
   refine Calls.mono (name_any hx5) ?_
   intro e6 w6 hr
   rw [HN.out] at hr
   obtain ⟨rfl, hx6, hkn⟩ := hr
   have hk6 := hk5.then hkn
   have HG6 := Lib.hid ((hkn.block (w.heap.size + 1) hl5 (by omega)).trans HG5.out)
   have HR6 := Lib.hid ((hkn.block w.heap.size (by omega) (by omega)).trans HR5.out)
   have hl6 : (w.heap.size + 1) < w6.heap.size := by have := hkn.size; omega
   clear hkn
   have c9 : w6.cell? ⟨(w.heap.size + 1), 9, none⟩ = some (.string ⟨#[]⟩) := by simp [World.cell?, HG6.out, tkR]
   have fz9 : w6.frozen? ⟨(w.heap.size + 1), 9, none⟩ = false := by simp [World.frozen?, HG6.out]
   go_wp2_with fail
   have hpk : Poke (w.heap.size + 1) w6 (w6.setCell ⟨(w.heap.size + 1), 9, none⟩ (.string (C.p.sub (a + 1) e))) := poke_cell w6 (w.heap.size + 1) 9 (.string (C.p.sub (a + 1) e))
   have HG7 : Hid ((w6.setCell ⟨(w.heap.size + 1), 9, none⟩ (.string (C.p.sub (a + 1) e))).heap[(w.heap.size + 1)]? = some (.cells (tkR (.slice none 0 0) ({ kind := 10, n := 10, name := C.p.sub (a + 1) e } : Tk)) 30 (0, 0))) := Lib.hid (heap_set (o := 9) (v := .string (C.p.sub (a + 1) e)) (HG6.out))
   have HR7 := Lib.hid ((hpk.other w.heap.size (by omega)).trans HR6.out)
   have hx7 := hx6.poke HG6.out (by omega) hrl1 hpk
   have hk7 := hk6.poke hpk (by omega)
   have hl7 : (w.heap.size + 1) < (w6.setCell ⟨(w.heap.size + 1), 9, none⟩ (.string (C.p.sub (a + 1) e))).heap.size := by have := hpk.size; omega
   clear hpk c9 fz9
   generalize (w6.setCell ⟨(w.heap.size + 1), 9, none⟩ (.string (C.p.sub (a + 1) e))) = w7 at *
   refine Calls.mono (take_n hx7 ⟨#[62]⟩ [62] rfl (by decide) HZ.out) ?_
   rintro e8 w8 ⟨rfl, hx8, hkn⟩
   have hk8 := hk7.then hkn
   have HG8 := Lib.hid ((hkn.block (w.heap.size + 1) hl7 (by omega)).trans HG7.out)
   have HR8 := Lib.hid ((hkn.block w.heap.size (by omega) (by omega)).trans HR7.out)
   have hl8 : (w.heap.size + 1) < w8.heap.size := by have := hkn.size; omega
   clear hkn
   go_wp2_with first | (refine wpList_load_tok rfl _ rfl (w.heap.size + 1) rfl (tkR (.slice none 0 0) ({ kind := 10, n := 10, name := C.p.sub (a + 1) e } : Tk)) HG8.out rfl ?_) | (refine wpList_store_tok rfl rfl _ _ rfl w.heap.size rfl _ (tkR (.slice none 0 0) ({ kind := 10, n := 10, name := C.p.sub (a + 1) e } : Tk)) HR8.out rfl rfl (tkR_one (t := ({ kind := 10, n := 10, name := C.p.sub (a + 1) e } : Tk)) (ownR_nil w 0)) rfl ?_)
   refine bodyPost_ret (results_tok2 rfl _ _ w.heap.size (tkR (.slice none 0 0) ({ kind := 10, n := 10, name := C.p.sub (a + 1) e } : Tk)) rfl (setRow_heap _ _ _ _ _ _ HR8.out) rfl) rfl ?_
   exact rp_ok HS.out ⟨({ kind := 10, n := 10, name := C.p.sub (a + 1) e } : Tk), _, _, rfl, ownR_setRow (D := (({ kind := 10, n := 10, name := C.p.sub (a + 1) e } : Tk) : Tk).set) (ownR_nil _ _) HR8.out, hx8.setRow HR8.out hB hrl, hk8.setRow (Nat.le_refl _) _⟩
  | true =>
   have HS := Lib.hid (show C.p.test f a = .ok (some (({ kind := 10, n := 10, name := C.p.sub (a + 1) e } : Tk), e + 1)) by rw [hs]; simp [hz])
   have HZ := Lib.hid hz
   clear hs hz
   have hbw := below_al w ob00
   have hxz := h.below hbw
   have hgz := heap_alloc_new w ob00
   have hrl := h.row_lt (g := w.heap.size) (Nat.le_refl _)
   have hrl1 := h.row_lt (g := w.heap.size + 1) (Nat.le_succ _)
   have hB := h.hb
   have hlt := h.cells.lt
   have hsz : (w.alloc ob00).heap.size = w.heap.size + 1 := World.size_alloc ..
   go_enter Tryz.func127, Tryz.ntmps127
   go_wp2_with fail
   generalize hWW : w.alloc ob00 = W at *
   have hbw2 := below_al W ob01
   have hx0 := hxz.below hbw2
   have hgn := heap_alloc_new W ob01
   have hsz2 : (W.alloc ob01).heap.size = W.heap.size + 1 := World.size_alloc ..
   have hgr := (hbw2.block w.heap.size (by omega)).trans hgz
   have hk0 := (Kept.of_below (L := C.L) hbw).then (Kept.of_below (L := C.L) hbw2)
   rw [hsz] at hgn
   generalize hW2 : W.alloc ob01 = w0 at *
   have HG0 : Hid (w0.heap[(w.heap.size + 1)]? = some (.cells (tkR (.slice none 0 0) { kind := 10 }) 30 (0, 0))) := Lib.hid hgn
   have HR0 := Lib.hid hgr
   have hl0 : (w.heap.size + 1) < w0.heap.size := by omega
   clear hWW hW2 hgz hgn hgr hbw hbw2 hxz hsz hsz2
   refine Calls.mono (take_n hx0 ⟨#[68, 69, 70, 73, 78, 69]⟩ [68, 69, 70, 73, 78, 69] rfl (by decide) H0.out) ?_
   rintro e1 w1 ⟨rfl, hx1, hkn⟩
   have hk1 := hk0.then hkn
   have HG1 := Lib.hid ((hkn.block (w.heap.size + 1) hl0 (by omega)).trans HG0.out)
   have HR1 := Lib.hid ((hkn.block w.heap.size (by omega) (by omega)).trans HR0.out)
   have hl1 : (w.heap.size + 1) < w1.heap.size := by have := hkn.size; omega
   clear hkn
   go_wp2_with fail
   refine Calls.mono (take_n hx1 ⟨#[82, 38]⟩ [82, 38] rfl (by decide) H1.out) ?_
   rintro e2 w2 ⟨rfl, hx2, hkn⟩
   have hk2 := hk1.then hkn
   have HG2 := Lib.hid ((hkn.block (w.heap.size + 1) hl1 (by omega)).trans HG1.out)
   have HR2 := Lib.hid ((hkn.block w.heap.size (by omega) (by omega)).trans HR1.out)
   have hl2 : (w.heap.size + 1) < w2.heap.size := by have := hkn.size; omega
   clear hkn
   go_wp2_with fail
   refine Calls.mono (take_n hx2 ⟨#[82]⟩ [82] rfl (by decide) H2.out) ?_
   rintro e3 w3 ⟨rfl, hx3, hkn⟩
   have hk3 := hk2.then hkn
   have HG3 := Lib.hid ((hkn.block (w.heap.size + 1) hl2 (by omega)).trans HG2.out)
   have HR3 := Lib.hid ((hkn.block w.heap.size (by omega) (by omega)).trans HR2.out)
   have hl3 : (w.heap.size + 1) < w3.heap.size := by have := hkn.size; omega
   clear hkn
   go_wp2_with fail
   refine Calls.mono (take_y hx3 ⟨#[60]⟩ [60] 1 rfl rfl (by decide) H3.out) ?_
   rintro e4 w4 ⟨rfl, hx4, hkn⟩
   have hk4 := hk3.then hkn
   have HG4 := Lib.hid ((hkn.block (w.heap.size + 1) hl3 (by omega)).trans HG3.out)
   have HR4 := Lib.hid ((hkn.block w.heap.size (by omega) (by omega)).trans HR3.out)
   have hl4 : (w.heap.size + 1) < w4.heap.size := by have := hkn.size; omega
   clear hkn
   have c6 : w4.cell? ⟨(w.heap.size + 1), 6, none⟩ = some (.int .i64 0) := by simp [World.cell?, HG4.out, tkR]
   have fz6 : w4.frozen? ⟨(w.heap.size + 1), 6, none⟩ = false := by simp [World.frozen?, HG4.out]
   go_wp2_with fail
   have hpk : Poke (w.heap.size + 1) w4 (w4.setCell ⟨(w.heap.size + 1), 6, none⟩ (.int .i64 10)) := poke_cell w4 (w.heap.size + 1) 6 (.int .i64 10)
   have HG5 : Hid ((w4.setCell ⟨(w.heap.size + 1), 6, none⟩ (.int .i64 10)).heap[(w.heap.size + 1)]? = some (.cells (tkR (.slice none 0 0) { kind := 10, n := 10 }) 30 (0, 0))) := Lib.hid (heap_set (o := 6) (v := .int .i64 10) (HG4.out))
   have HR5 := Lib.hid ((hpk.other w.heap.size (by omega)).trans HR4.out)
   have hx5 := hx4.poke HG4.out (by omega) hrl1 hpk
   have hk5 := hk4.poke hpk (by omega)
   have hl5 : (w.heap.size + 1) < (w4.setCell ⟨(w.heap.size + 1), 6, none⟩ (.int .i64 10)).heap.size := by have := hpk.size; omega
   clear hpk c6 fz6
   generalize (w4.setCell ⟨(w.heap.size + 1), 6, none⟩ (.int .i64 10)) = w5 at *
   refine Calls.mono (name_any hx5) ?_
   intro e6 w6 hr
   rw [HN.out] at hr
   obtain ⟨rfl, hx6, hkn⟩ := hr
   have hk6 := hk5.then hkn
   have HG6 := Lib.hid ((hkn.block (w.heap.size + 1) hl5 (by omega)).trans HG5.out)
   have HR6 := Lib.hid ((hkn.block w.heap.size (by omega) (by omega)).trans HR5.out)
   have hl6 : (w.heap.size + 1) < w6.heap.size := by have := hkn.size; omega
   clear hkn
   have c9 : w6.cell? ⟨(w.heap.size + 1), 9, none⟩ = some (.string ⟨#[]⟩) := by simp [World.cell?, HG6.out, tkR]
   have fz9 : w6.frozen? ⟨(w.heap.size + 1), 9, none⟩ = false := by simp [World.frozen?, HG6.out]
   go_wp2_with fail
   have hpk : Poke (w.heap.size + 1) w6 (w6.setCell ⟨(w.heap.size + 1), 9, none⟩ (.string (C.p.sub (a + 1) e))) := poke_cell w6 (w.heap.size + 1) 9 (.string (C.p.sub (a + 1) e))
   have HG7 : Hid ((w6.setCell ⟨(w.heap.size + 1), 9, none⟩ (.string (C.p.sub (a + 1) e))).heap[(w.heap.size + 1)]? = some (.cells (tkR (.slice none 0 0) ({ kind := 10, n := 10, name := C.p.sub (a + 1) e } : Tk)) 30 (0, 0))) := Lib.hid (heap_set (o := 9) (v := .string (C.p.sub (a + 1) e)) (HG6.out))
   have HR7 := Lib.hid ((hpk.other w.heap.size (by omega)).trans HR6.out)
   have hx7 := hx6.poke HG6.out (by omega) hrl1 hpk
   have hk7 := hk6.poke hpk (by omega)
   have hl7 : (w.heap.size + 1) < (w6.setCell ⟨(w.heap.size + 1), 9, none⟩ (.string (C.p.sub (a + 1) e))).heap.size := by have := hpk.size; omega
   clear hpk c9 fz9
   generalize (w6.setCell ⟨(w.heap.size + 1), 9, none⟩ (.string (C.p.sub (a + 1) e))) = w7 at *
   refine Calls.mono (take_y hx7 ⟨#[62]⟩ [62] 1 rfl rfl (by decide) HZ.out) ?_
   rintro e8 w8 ⟨rfl, hx8, hkn⟩
   have hk8 := hk7.then hkn
   have HG8 := Lib.hid ((hkn.block (w.heap.size + 1) hl7 (by omega)).trans HG7.out)
   have HR8 := Lib.hid ((hkn.block w.heap.size (by omega) (by omega)).trans HR7.out)
   have hl8 : (w.heap.size + 1) < w8.heap.size := by have := hkn.size; omega
   clear hkn
   go_wp2_with first | (refine wpList_load_tok rfl _ rfl (w.heap.size + 1) rfl (tkR (.slice none 0 0) ({ kind := 10, n := 10, name := C.p.sub (a + 1) e } : Tk)) HG8.out rfl ?_) | (refine wpList_store_tok rfl rfl _ _ rfl w.heap.size rfl _ (tkR (.slice none 0 0) ({ kind := 10, n := 10, name := C.p.sub (a + 1) e } : Tk)) HR8.out rfl rfl (tkR_one (t := ({ kind := 10, n := 10, name := C.p.sub (a + 1) e } : Tk)) (ownR_nil w 0)) rfl ?_)
   refine bodyPost_ret (results_tok2 rfl _ _ w.heap.size (tkR (.slice none 0 0) ({ kind := 10, n := 10, name := C.p.sub (a + 1) e } : Tk)) rfl (setRow_heap _ _ _ _ _ _ HR8.out) rfl) rfl ?_
   exact rp_ok HS.out ⟨_, rfl, ownR_setRow (D := (({ kind := 10, n := 10, name := C.p.sub (a + 1) e } : Tk) : Tk).set) (ownR_nil _ _) HR8.out, hx8.setRow HR8.out hB hrl, hk8.setRow (Nat.le_refl _) _⟩
set_option maxRecDepth 100000 in
set_option maxHeartbeats 4000000 in
theorem test_4 (h : LX C w a f T) (h0 : C.p.has [68, 69, 70, 73, 78, 69] a = false) (h1 : C.p.has [82, 38] a = false) (h2 : C.p.has [82] a = false) (h3 : C.p.has [60] a = false) (h4 : C.p.has [39] a = true) : Calls Tryz.prog 127 #[.pointer (some ⟨C.L, 0, none⟩)] w (RP C w (C.p.test f a) (TsOk C w f T)) := by
 obtain ⟨⟨e, ok⟩, hnm⟩ : ∃ d, C.p.name (a + 1) = d := ⟨_, rfl⟩
 have HN := Lib.hid hnm
 have hs : C.p.test f a = .ok (if (C.p.name (a + 1)).2 = true ∧ C.p.has [39] (C.p.name (a + 1)).1 = true then some ({ kind := 10, n := 10, name := C.p.sub (a + 1) (C.p.name (a + 1)).1 }, (C.p.name (a + 1)).1 + 1) else none) := by unfold Pt.test; rw [if_neg (by simp [h0])]; rw [if_neg (by simp [h1])]; rw [if_neg (by simp [h2])]; rw [if_neg (by simp [h3])]; rw [if_pos h4]
 rw [hnm] at hs
 clear hnm
 have H0 := Lib.hid h0
 have H1 := Lib.hid h1
 have H2 := Lib.hid h2
 have H3 := Lib.hid h3
 have H4 := Lib.hid h4
 clear h0 h1 h2 h3 h4
 cases ok with
 | false =>
  have HS := Lib.hid (show C.p.test f a = .ok none by rw [hs]; simp)
  clear hs
  have hbw := below_al w ob00
  have hxz := h.below hbw
  have hgz := heap_alloc_new w ob00
  have hrl := h.row_lt (g := w.heap.size) (Nat.le_refl _)
  have hrl1 := h.row_lt (g := w.heap.size + 1) (Nat.le_succ _)
  have hB := h.hb
  have hlt := h.cells.lt
  have hsz : (w.alloc ob00).heap.size = w.heap.size + 1 := World.size_alloc ..
  go_enter Tryz.func127, Tryz.ntmps127
  go_wp2_with fail
  generalize hWW : w.alloc ob00 = W at *
  have hbw2 := below_al W ob01
  have hx0 := hxz.below hbw2
  have hgn := heap_alloc_new W ob01
  have hsz2 : (W.alloc ob01).heap.size = W.heap.size + 1 := World.size_alloc ..
  have hgr := (hbw2.block w.heap.size (by omega)).trans hgz
  have hk0 := (Kept.of_below (L := C.L) hbw).then (Kept.of_below (L := C.L) hbw2)
  rw [hsz] at hgn
  generalize hW2 : W.alloc ob01 = w0 at *
  have HG0 : Hid (w0.heap[(w.heap.size + 1)]? = some (.cells (tkR (.slice none 0 0) { kind := 10 }) 30 (0, 0))) := Lib.hid hgn
  have HR0 := Lib.hid hgr
  have hl0 : (w.heap.size + 1) < w0.heap.size := by omega
  clear hWW hW2 hgz hgn hgr hbw hbw2 hxz hsz hsz2
  refine Calls.mono (take_n hx0 ⟨#[68, 69, 70, 73, 78, 69]⟩ [68, 69, 70, 73, 78, 69] rfl (by decide) H0.out) ?_
  rintro e1 w1 ⟨rfl, hx1, hkn⟩
  have hk1 := hk0.then hkn
  have HG1 := Lib.hid ((hkn.block (w.heap.size + 1) hl0 (by omega)).trans HG0.out)
  have HR1 := Lib.hid ((hkn.block w.heap.size (by omega) (by omega)).trans HR0.out)
  have hl1 : (w.heap.size + 1) < w1.heap.size := by have := hkn.size; omega
  clear hkn
  go_wp2_with fail
  refine Calls.mono (take_n hx1 ⟨#[82, 38]⟩ [82, 38] rfl (by decide) H1.out) ?_
  rintro e2 w2 ⟨rfl, hx2, hkn⟩
  have hk2 := hk1.then hkn
  have HG2 := Lib.hid ((hkn.block (w.heap.size + 1) hl1 (by omega)).trans HG1.out)
  have HR2 := Lib.hid ((hkn.block w.heap.size (by omega) (by omega)).trans HR1.out)
  have hl2 : (w.heap.size + 1) < w2.heap.size := by have := hkn.size; omega
  clear hkn
  go_wp2_with fail
  refine Calls.mono (take_n hx2 ⟨#[82]⟩ [82] rfl (by decide) H2.out) ?_
  rintro e3 w3 ⟨rfl, hx3, hkn⟩
  have hk3 := hk2.then hkn
  have HG3 := Lib.hid ((hkn.block (w.heap.size + 1) hl2 (by omega)).trans HG2.out)
  have HR3 := Lib.hid ((hkn.block w.heap.size (by omega) (by omega)).trans HR2.out)
  have hl3 : (w.heap.size + 1) < w3.heap.size := by have := hkn.size; omega
  clear hkn
  go_wp2_with fail
  refine Calls.mono (take_n hx3 ⟨#[60]⟩ [60] rfl (by decide) H3.out) ?_
  rintro e4 w4 ⟨rfl, hx4, hkn⟩
  have hk4 := hk3.then hkn
  have HG4 := Lib.hid ((hkn.block (w.heap.size + 1) hl3 (by omega)).trans HG3.out)
  have HR4 := Lib.hid ((hkn.block w.heap.size (by omega) (by omega)).trans HR3.out)
  have hl4 : (w.heap.size + 1) < w4.heap.size := by have := hkn.size; omega
  clear hkn
  go_wp2_with fail
  refine Calls.mono (take_y hx4 ⟨#[39]⟩ [39] 1 rfl rfl (by decide) H4.out) ?_
  rintro e5 w5 ⟨rfl, hx5, hkn⟩
  have hk5 := hk4.then hkn
  have HG5 := Lib.hid ((hkn.block (w.heap.size + 1) hl4 (by omega)).trans HG4.out)
  have HR5 := Lib.hid ((hkn.block w.heap.size (by omega) (by omega)).trans HR4.out)
  have hl5 : (w.heap.size + 1) < w5.heap.size := by have := hkn.size; omega
  clear hkn
  have c6 : w5.cell? ⟨(w.heap.size + 1), 6, none⟩ = some (.int .i64 0) := by simp [World.cell?, HG5.out, tkR]
  have fz6 : w5.frozen? ⟨(w.heap.size + 1), 6, none⟩ = false := by simp [World.frozen?, HG5.out]
  go_wp2_with fail
  have hpk : Poke (w.heap.size + 1) w5 (w5.setCell ⟨(w.heap.size + 1), 6, none⟩ (.int .i64 10)) := poke_cell w5 (w.heap.size + 1) 6 (.int .i64 10)
  have HG6 : Hid ((w5.setCell ⟨(w.heap.size + 1), 6, none⟩ (.int .i64 10)).heap[(w.heap.size + 1)]? = some (.cells (tkR (.slice none 0 0) { kind := 10, n := 10 }) 30 (0, 0))) := Lib.hid (heap_set (o := 6) (v := .int .i64 10) (HG5.out))
  have HR6 := Lib.hid ((hpk.other w.heap.size (by omega)).trans HR5.out)
  have hx6 := hx5.poke HG5.out (by omega) hrl1 hpk
  have hk6 := hk5.poke hpk (by omega)
  have hl6 : (w.heap.size + 1) < (w5.setCell ⟨(w.heap.size + 1), 6, none⟩ (.int .i64 10)).heap.size := by have := hpk.size; omega
  clear hpk c6 fz6
  generalize (w5.setCell ⟨(w.heap.size + 1), 6, none⟩ (.int .i64 10)) = w6 at *
  refine Calls.mono (name_any hx6) ?_
  intro e7 w7 hr
  rw [HN.out] at hr
  obtain ⟨rfl, hx7, hkn⟩ := hr
  have hk7 := hk6.then hkn
  have HG7 := Lib.hid ((hkn.block (w.heap.size + 1) hl6 (by omega)).trans HG6.out)
  have HR7 := Lib.hid ((hkn.block w.heap.size (by omega) (by omega)).trans HR6.out)
  have hl7 : (w.heap.size + 1) < w7.heap.size := by have := hkn.size; omega
  clear hkn
  have c9 : w7.cell? ⟨(w.heap.size + 1), 9, none⟩ = some (.string ⟨#[]⟩) := by simp [World.cell?, HG7.out, tkR]
  have fz9 : w7.frozen? ⟨(w.heap.size + 1), 9, none⟩ = false := by simp [World.frozen?, HG7.out]
  go_upto_region 23 with (fail)
  have hpk : Poke (w.heap.size + 1) w7 (w7.setCell ⟨(w.heap.size + 1), 9, none⟩ (.string (C.p.sub (a + 1) e))) := poke_cell w7 (w.heap.size + 1) 9 (.string (C.p.sub (a + 1) e))
  have HG8 : Hid ((w7.setCell ⟨(w.heap.size + 1), 9, none⟩ (.string (C.p.sub (a + 1) e))).heap[(w.heap.size + 1)]? = some (.cells (tkR (.slice none 0 0) ({ kind := 10, n := 10, name := C.p.sub (a + 1) e } : Tk)) 30 (0, 0))) := Lib.hid (heap_set (o := 9) (v := .string (C.p.sub (a + 1) e)) (HG7.out))
  have HR8 := Lib.hid ((hpk.other w.heap.size (by omega)).trans HR7.out)
  have hx8 := hx7.poke HG7.out (by omega) hrl1 hpk
  have hk8 := hk7.poke hpk (by omega)
  have hl8 : (w.heap.size + 1) < (w7.setCell ⟨(w.heap.size + 1), 9, none⟩ (.string (C.p.sub (a + 1) e))).heap.size := by have := hpk.size; omega
  clear hpk c9 fz9
  generalize (w7.setCell ⟨(w.heap.size + 1), 9, none⟩ (.string (C.p.sub (a + 1) e))) = w8 at *
  go_wp2_with first | (refine wpList_load_tok rfl _ rfl (w.heap.size + 1) rfl (tkR (.slice none 0 0) ({ kind := 10, n := 10, name := C.p.sub (a + 1) e } : Tk)) HG8.out rfl ?_) | (refine wpList_store_tok rfl rfl _ _ rfl w.heap.size rfl _ (tkR (.slice none 0 0) ({ kind := 10, n := 10, name := C.p.sub (a + 1) e } : Tk)) HR8.out rfl rfl (tkR_one (t := ({ kind := 10, n := 10, name := C.p.sub (a + 1) e } : Tk)) (ownR_nil w 0)) rfl ?_)
  refine bodyPost_ret (results_tok2 rfl _ _ w.heap.size (tkR (.slice none 0 0) ({ kind := 10, n := 10, name := C.p.sub (a + 1) e } : Tk)) rfl (setRow_heap _ _ _ _ _ _ HR8.out) rfl) rfl ?_
  exact rp_ok HS.out ⟨({ kind := 10, n := 10, name := C.p.sub (a + 1) e } : Tk), _, _, rfl, ownR_setRow (D := (({ kind := 10, n := 10, name := C.p.sub (a + 1) e } : Tk) : Tk).set) (ownR_nil _ _) HR8.out, hx8.setRow HR8.out hB hrl, hk8.setRow (Nat.le_refl _) _⟩
 | true =>
  cases hz : C.p.has [39] e with
  | false =>
   have HS := Lib.hid (show C.p.test f a = .ok none by rw [hs]; simp [hz])
   have HZ := Lib.hid hz
   clear hs hz
   have hbw := below_al w ob00
   have hxz := h.below hbw
   have hgz := heap_alloc_new w ob00
   have hrl := h.row_lt (g := w.heap.size) (Nat.le_refl _)
   have hrl1 := h.row_lt (g := w.heap.size + 1) (Nat.le_succ _)
   have hB := h.hb
   have hlt := h.cells.lt
   have hsz : (w.alloc ob00).heap.size = w.heap.size + 1 := World.size_alloc ..
   go_enter Tryz.func127, Tryz.ntmps127
   go_wp2_with fail
   generalize hWW : w.alloc ob00 = W at *
   have hbw2 := below_al W ob01
   have hx0 := hxz.below hbw2
   have hgn := heap_alloc_new W ob01
   have hsz2 : (W.alloc ob01).heap.size = W.heap.size + 1 := World.size_alloc ..
   have hgr := (hbw2.block w.heap.size (by omega)).trans hgz
   have hk0 := (Kept.of_below (L := C.L) hbw).then (Kept.of_below (L := C.L) hbw2)
   rw [hsz] at hgn
   generalize hW2 : W.alloc ob01 = w0 at *
   have HG0 : Hid (w0.heap[(w.heap.size + 1)]? = some (.cells (tkR (.slice none 0 0) { kind := 10 }) 30 (0, 0))) := Lib.hid hgn
   have HR0 := Lib.hid hgr
   have hl0 : (w.heap.size + 1) < w0.heap.size := by omega
   clear hWW hW2 hgz hgn hgr hbw hbw2 hxz hsz hsz2
   refine Calls.mono (take_n hx0 ⟨#[68, 69, 70, 73, 78, 69]⟩ [68, 69, 70, 73, 78, 69] rfl (by decide) H0.out) ?_
   rintro e1 w1 ⟨rfl, hx1, hkn⟩
   have hk1 := hk0.then hkn
   have HG1 := Lib.hid ((hkn.block (w.heap.size + 1) hl0 (by omega)).trans HG0.out)
   have HR1 := Lib.hid ((hkn.block w.heap.size (by omega) (by omega)).trans HR0.out)
   have hl1 : (w.heap.size + 1) < w1.heap.size := by have := hkn.size; omega
   clear hkn
   go_wp2_with fail
   refine Calls.mono (take_n hx1 ⟨#[82, 38]⟩ [82, 38] rfl (by decide) H1.out) ?_
   rintro e2 w2 ⟨rfl, hx2, hkn⟩
   have hk2 := hk1.then hkn
   have HG2 := Lib.hid ((hkn.block (w.heap.size + 1) hl1 (by omega)).trans HG1.out)
   have HR2 := Lib.hid ((hkn.block w.heap.size (by omega) (by omega)).trans HR1.out)
   have hl2 : (w.heap.size + 1) < w2.heap.size := by have := hkn.size; omega
   clear hkn
   go_wp2_with fail
   refine Calls.mono (take_n hx2 ⟨#[82]⟩ [82] rfl (by decide) H2.out) ?_
   rintro e3 w3 ⟨rfl, hx3, hkn⟩
   have hk3 := hk2.then hkn
   have HG3 := Lib.hid ((hkn.block (w.heap.size + 1) hl2 (by omega)).trans HG2.out)
   have HR3 := Lib.hid ((hkn.block w.heap.size (by omega) (by omega)).trans HR2.out)
   have hl3 : (w.heap.size + 1) < w3.heap.size := by have := hkn.size; omega
   clear hkn
   go_wp2_with fail
   refine Calls.mono (take_n hx3 ⟨#[60]⟩ [60] rfl (by decide) H3.out) ?_
   rintro e4 w4 ⟨rfl, hx4, hkn⟩
   have hk4 := hk3.then hkn
   have HG4 := Lib.hid ((hkn.block (w.heap.size + 1) hl3 (by omega)).trans HG3.out)
   have HR4 := Lib.hid ((hkn.block w.heap.size (by omega) (by omega)).trans HR3.out)
   have hl4 : (w.heap.size + 1) < w4.heap.size := by have := hkn.size; omega
   clear hkn
   go_wp2_with fail
   refine Calls.mono (take_y hx4 ⟨#[39]⟩ [39] 1 rfl rfl (by decide) H4.out) ?_
   rintro e5 w5 ⟨rfl, hx5, hkn⟩
   have hk5 := hk4.then hkn
   have HG5 := Lib.hid ((hkn.block (w.heap.size + 1) hl4 (by omega)).trans HG4.out)
   have HR5 := Lib.hid ((hkn.block w.heap.size (by omega) (by omega)).trans HR4.out)
   have hl5 : (w.heap.size + 1) < w5.heap.size := by have := hkn.size; omega
   clear hkn
   have c6 : w5.cell? ⟨(w.heap.size + 1), 6, none⟩ = some (.int .i64 0) := by simp [World.cell?, HG5.out, tkR]
   have fz6 : w5.frozen? ⟨(w.heap.size + 1), 6, none⟩ = false := by simp [World.frozen?, HG5.out]
   go_wp2_with fail
   have hpk : Poke (w.heap.size + 1) w5 (w5.setCell ⟨(w.heap.size + 1), 6, none⟩ (.int .i64 10)) := poke_cell w5 (w.heap.size + 1) 6 (.int .i64 10)
   have HG6 : Hid ((w5.setCell ⟨(w.heap.size + 1), 6, none⟩ (.int .i64 10)).heap[(w.heap.size + 1)]? = some (.cells (tkR (.slice none 0 0) { kind := 10, n := 10 }) 30 (0, 0))) := Lib.hid (heap_set (o := 6) (v := .int .i64 10) (HG5.out))
   have HR6 := Lib.hid ((hpk.other w.heap.size (by omega)).trans HR5.out)
   have hx6 := hx5.poke HG5.out (by omega) hrl1 hpk
   have hk6 := hk5.poke hpk (by omega)
   have hl6 : (w.heap.size + 1) < (w5.setCell ⟨(w.heap.size + 1), 6, none⟩ (.int .i64 10)).heap.size := by have := hpk.size; omega
   clear hpk c6 fz6
   generalize (w5.setCell ⟨(w.heap.size + 1), 6, none⟩ (.int .i64 10)) = w6 at *
   refine Calls.mono (name_any hx6) ?_
   intro e7 w7 hr
   rw [HN.out] at hr
   obtain ⟨rfl, hx7, hkn⟩ := hr
   have hk7 := hk6.then hkn
   have HG7 := Lib.hid ((hkn.block (w.heap.size + 1) hl6 (by omega)).trans HG6.out)
   have HR7 := Lib.hid ((hkn.block w.heap.size (by omega) (by omega)).trans HR6.out)
   have hl7 : (w.heap.size + 1) < w7.heap.size := by have := hkn.size; omega
   clear hkn
   have c9 : w7.cell? ⟨(w.heap.size + 1), 9, none⟩ = some (.string ⟨#[]⟩) := by simp [World.cell?, HG7.out, tkR]
   have fz9 : w7.frozen? ⟨(w.heap.size + 1), 9, none⟩ = false := by simp [World.frozen?, HG7.out]
   go_wp2_with fail
   have hpk : Poke (w.heap.size + 1) w7 (w7.setCell ⟨(w.heap.size + 1), 9, none⟩ (.string (C.p.sub (a + 1) e))) := poke_cell w7 (w.heap.size + 1) 9 (.string (C.p.sub (a + 1) e))
   have HG8 : Hid ((w7.setCell ⟨(w.heap.size + 1), 9, none⟩ (.string (C.p.sub (a + 1) e))).heap[(w.heap.size + 1)]? = some (.cells (tkR (.slice none 0 0) ({ kind := 10, n := 10, name := C.p.sub (a + 1) e } : Tk)) 30 (0, 0))) := Lib.hid (heap_set (o := 9) (v := .string (C.p.sub (a + 1) e)) (HG7.out))
   have HR8 := Lib.hid ((hpk.other w.heap.size (by omega)).trans HR7.out)
   have hx8 := hx7.poke HG7.out (by omega) hrl1 hpk
   have hk8 := hk7.poke hpk (by omega)
   have hl8 : (w.heap.size + 1) < (w7.setCell ⟨(w.heap.size + 1), 9, none⟩ (.string (C.p.sub (a + 1) e))).heap.size := by have := hpk.size; omega
   clear hpk c9 fz9
   generalize (w7.setCell ⟨(w.heap.size + 1), 9, none⟩ (.string (C.p.sub (a + 1) e))) = w8 at *
   refine Calls.mono (take_n hx8 ⟨#[39]⟩ [39] rfl (by decide) HZ.out) ?_
   rintro e9 w9 ⟨rfl, hx9, hkn⟩
   have hk9 := hk8.then hkn
   have HG9 := Lib.hid ((hkn.block (w.heap.size + 1) hl8 (by omega)).trans HG8.out)
   have HR9 := Lib.hid ((hkn.block w.heap.size (by omega) (by omega)).trans HR8.out)
   have hl9 : (w.heap.size + 1) < w9.heap.size := by have := hkn.size; omega
   clear hkn
   go_wp2_with first | (refine wpList_load_tok rfl _ rfl (w.heap.size + 1) rfl (tkR (.slice none 0 0) ({ kind := 10, n := 10, name := C.p.sub (a + 1) e } : Tk)) HG9.out rfl ?_) | (refine wpList_store_tok rfl rfl _ _ rfl w.heap.size rfl _ (tkR (.slice none 0 0) ({ kind := 10, n := 10, name := C.p.sub (a + 1) e } : Tk)) HR9.out rfl rfl (tkR_one (t := ({ kind := 10, n := 10, name := C.p.sub (a + 1) e } : Tk)) (ownR_nil w 0)) rfl ?_)
   refine bodyPost_ret (results_tok2 rfl _ _ w.heap.size (tkR (.slice none 0 0) ({ kind := 10, n := 10, name := C.p.sub (a + 1) e } : Tk)) rfl (setRow_heap _ _ _ _ _ _ HR9.out) rfl) rfl ?_
   exact rp_ok HS.out ⟨({ kind := 10, n := 10, name := C.p.sub (a + 1) e } : Tk), _, _, rfl, ownR_setRow (D := (({ kind := 10, n := 10, name := C.p.sub (a + 1) e } : Tk) : Tk).set) (ownR_nil _ _) HR9.out, hx9.setRow HR9.out hB hrl, hk9.setRow (Nat.le_refl _) _⟩
  | true =>
   have HS := Lib.hid (show C.p.test f a = .ok (some (({ kind := 10, n := 10, name := C.p.sub (a + 1) e } : Tk), e + 1)) by rw [hs]; simp [hz])
   have HZ := Lib.hid hz
   clear hs hz
   have hbw := below_al w ob00
   have hxz := h.below hbw
   have hgz := heap_alloc_new w ob00
   have hrl := h.row_lt (g := w.heap.size) (Nat.le_refl _)
   have hrl1 := h.row_lt (g := w.heap.size + 1) (Nat.le_succ _)
   have hB := h.hb
   have hlt := h.cells.lt
   have hsz : (w.alloc ob00).heap.size = w.heap.size + 1 := World.size_alloc ..
   go_enter Tryz.func127, Tryz.ntmps127
   go_wp2_with fail
   generalize hWW : w.alloc ob00 = W at *
   have hbw2 := below_al W ob01
   have hx0 := hxz.below hbw2
   have hgn := heap_alloc_new W ob01
   have hsz2 : (W.alloc ob01).heap.size = W.heap.size + 1 := World.size_alloc ..
   have hgr := (hbw2.block w.heap.size (by omega)).trans hgz
   have hk0 := (Kept.of_below (L := C.L) hbw).then (Kept.of_below (L := C.L) hbw2)
   rw [hsz] at hgn
   generalize hW2 : W.alloc ob01 = w0 at *
   have HG0 : Hid (w0.heap[(w.heap.size + 1)]? = some (.cells (tkR (.slice none 0 0) { kind := 10 }) 30 (0, 0))) := Lib.hid hgn
   have HR0 := Lib.hid hgr
   have hl0 : (w.heap.size + 1) < w0.heap.size := by omega
   clear hWW hW2 hgz hgn hgr hbw hbw2 hxz hsz hsz2
   refine Calls.mono (take_n hx0 ⟨#[68, 69, 70, 73, 78, 69]⟩ [68, 69, 70, 73, 78, 69] rfl (by decide) H0.out) ?_
   rintro e1 w1 ⟨rfl, hx1, hkn⟩
   have hk1 := hk0.then hkn
   have HG1 := Lib.hid ((hkn.block (w.heap.size + 1) hl0 (by omega)).trans HG0.out)
   have HR1 := Lib.hid ((hkn.block w.heap.size (by omega) (by omega)).trans HR0.out)
   have hl1 : (w.heap.size + 1) < w1.heap.size := by have := hkn.size; omega
   clear hkn
   go_wp2_with fail
   refine Calls.mono (take_n hx1 ⟨#[82, 38]⟩ [82, 38] rfl (by decide) H1.out) ?_
   rintro e2 w2 ⟨rfl, hx2, hkn⟩
   have hk2 := hk1.then hkn
   have HG2 := Lib.hid ((hkn.block (w.heap.size + 1) hl1 (by omega)).trans HG1.out)
   have HR2 := Lib.hid ((hkn.block w.heap.size (by omega) (by omega)).trans HR1.out)
   have hl2 : (w.heap.size + 1) < w2.heap.size := by have := hkn.size; omega
   clear hkn
   go_wp2_with fail
   refine Calls.mono (take_n hx2 ⟨#[82]⟩ [82] rfl (by decide) H2.out) ?_
   rintro e3 w3 ⟨rfl, hx3, hkn⟩
   have hk3 := hk2.then hkn
   have HG3 := Lib.hid ((hkn.block (w.heap.size + 1) hl2 (by omega)).trans HG2.out)
   have HR3 := Lib.hid ((hkn.block w.heap.size (by omega) (by omega)).trans HR2.out)
   have hl3 : (w.heap.size + 1) < w3.heap.size := by have := hkn.size; omega
   clear hkn
   go_wp2_with fail
   refine Calls.mono (take_n hx3 ⟨#[60]⟩ [60] rfl (by decide) H3.out) ?_
   rintro e4 w4 ⟨rfl, hx4, hkn⟩
   have hk4 := hk3.then hkn
   have HG4 := Lib.hid ((hkn.block (w.heap.size + 1) hl3 (by omega)).trans HG3.out)
   have HR4 := Lib.hid ((hkn.block w.heap.size (by omega) (by omega)).trans HR3.out)
   have hl4 : (w.heap.size + 1) < w4.heap.size := by have := hkn.size; omega
   clear hkn
   go_wp2_with fail
   refine Calls.mono (take_y hx4 ⟨#[39]⟩ [39] 1 rfl rfl (by decide) H4.out) ?_
   rintro e5 w5 ⟨rfl, hx5, hkn⟩
   have hk5 := hk4.then hkn
   have HG5 := Lib.hid ((hkn.block (w.heap.size + 1) hl4 (by omega)).trans HG4.out)
   have HR5 := Lib.hid ((hkn.block w.heap.size (by omega) (by omega)).trans HR4.out)
   have hl5 : (w.heap.size + 1) < w5.heap.size := by have := hkn.size; omega
   clear hkn
   have c6 : w5.cell? ⟨(w.heap.size + 1), 6, none⟩ = some (.int .i64 0) := by simp [World.cell?, HG5.out, tkR]
   have fz6 : w5.frozen? ⟨(w.heap.size + 1), 6, none⟩ = false := by simp [World.frozen?, HG5.out]
   go_wp2_with fail
   have hpk : Poke (w.heap.size + 1) w5 (w5.setCell ⟨(w.heap.size + 1), 6, none⟩ (.int .i64 10)) := poke_cell w5 (w.heap.size + 1) 6 (.int .i64 10)
   have HG6 : Hid ((w5.setCell ⟨(w.heap.size + 1), 6, none⟩ (.int .i64 10)).heap[(w.heap.size + 1)]? = some (.cells (tkR (.slice none 0 0) { kind := 10, n := 10 }) 30 (0, 0))) := Lib.hid (heap_set (o := 6) (v := .int .i64 10) (HG5.out))
   have HR6 := Lib.hid ((hpk.other w.heap.size (by omega)).trans HR5.out)
   have hx6 := hx5.poke HG5.out (by omega) hrl1 hpk
   have hk6 := hk5.poke hpk (by omega)
   have hl6 : (w.heap.size + 1) < (w5.setCell ⟨(w.heap.size + 1), 6, none⟩ (.int .i64 10)).heap.size := by have := hpk.size; omega
   clear hpk c6 fz6
   generalize (w5.setCell ⟨(w.heap.size + 1), 6, none⟩ (.int .i64 10)) = w6 at *
   refine Calls.mono (name_any hx6) ?_
   intro e7 w7 hr
   rw [HN.out] at hr
   obtain ⟨rfl, hx7, hkn⟩ := hr
   have hk7 := hk6.then hkn
   have HG7 := Lib.hid ((hkn.block (w.heap.size + 1) hl6 (by omega)).trans HG6.out)
   have HR7 := Lib.hid ((hkn.block w.heap.size (by omega) (by omega)).trans HR6.out)
   have hl7 : (w.heap.size + 1) < w7.heap.size := by have := hkn.size; omega
   clear hkn
   have c9 : w7.cell? ⟨(w.heap.size + 1), 9, none⟩ = some (.string ⟨#[]⟩) := by simp [World.cell?, HG7.out, tkR]
   have fz9 : w7.frozen? ⟨(w.heap.size + 1), 9, none⟩ = false := by simp [World.frozen?, HG7.out]
   go_wp2_with fail
   have hpk : Poke (w.heap.size + 1) w7 (w7.setCell ⟨(w.heap.size + 1), 9, none⟩ (.string (C.p.sub (a + 1) e))) := poke_cell w7 (w.heap.size + 1) 9 (.string (C.p.sub (a + 1) e))
   have HG8 : Hid ((w7.setCell ⟨(w.heap.size + 1), 9, none⟩ (.string (C.p.sub (a + 1) e))).heap[(w.heap.size + 1)]? = some (.cells (tkR (.slice none 0 0) ({ kind := 10, n := 10, name := C.p.sub (a + 1) e } : Tk)) 30 (0, 0))) := Lib.hid (heap_set (o := 9) (v := .string (C.p.sub (a + 1) e)) (HG7.out))
   have HR8 := Lib.hid ((hpk.other w.heap.size (by omega)).trans HR7.out)
   have hx8 := hx7.poke HG7.out (by omega) hrl1 hpk
   have hk8 := hk7.poke hpk (by omega)
   have hl8 : (w.heap.size + 1) < (w7.setCell ⟨(w.heap.size + 1), 9, none⟩ (.string (C.p.sub (a + 1) e))).heap.size := by have := hpk.size; omega
   clear hpk c9 fz9
   generalize (w7.setCell ⟨(w.heap.size + 1), 9, none⟩ (.string (C.p.sub (a + 1) e))) = w8 at *
   refine Calls.mono (take_y hx8 ⟨#[39]⟩ [39] 1 rfl rfl (by decide) HZ.out) ?_
   rintro e9 w9 ⟨rfl, hx9, hkn⟩
   have hk9 := hk8.then hkn
   have HG9 := Lib.hid ((hkn.block (w.heap.size + 1) hl8 (by omega)).trans HG8.out)
   have HR9 := Lib.hid ((hkn.block w.heap.size (by omega) (by omega)).trans HR8.out)
   have hl9 : (w.heap.size + 1) < w9.heap.size := by have := hkn.size; omega
   clear hkn
   go_wp2_with first | (refine wpList_load_tok rfl _ rfl (w.heap.size + 1) rfl (tkR (.slice none 0 0) ({ kind := 10, n := 10, name := C.p.sub (a + 1) e } : Tk)) HG9.out rfl ?_) | (refine wpList_store_tok rfl rfl _ _ rfl w.heap.size rfl _ (tkR (.slice none 0 0) ({ kind := 10, n := 10, name := C.p.sub (a + 1) e } : Tk)) HR9.out rfl rfl (tkR_one (t := ({ kind := 10, n := 10, name := C.p.sub (a + 1) e } : Tk)) (ownR_nil w 0)) rfl ?_)
   refine bodyPost_ret (results_tok2 rfl _ _ w.heap.size (tkR (.slice none 0 0) ({ kind := 10, n := 10, name := C.p.sub (a + 1) e } : Tk)) rfl (setRow_heap _ _ _ _ _ _ HR9.out) rfl) rfl ?_
   exact rp_ok HS.out ⟨_, rfl, ownR_setRow (D := (({ kind := 10, n := 10, name := C.p.sub (a + 1) e } : Tk) : Tk).set) (ownR_nil _ _) HR9.out, hx9.setRow HR9.out hB hrl, hk9.setRow (Nat.le_refl _) _⟩
set_option maxRecDepth 100000 in
set_option maxHeartbeats 4000000 in
theorem test_5 (h : LX C w a f T) (h0 : C.p.has [68, 69, 70, 73, 78, 69] a = false) (h1 : C.p.has [82, 38] a = false) (h2 : C.p.has [82] a = false) (h3 : C.p.has [60] a = false) (h4 : C.p.has [39] a = false) : Calls Tryz.prog 127 #[.pointer (some ⟨C.L, 0, none⟩)] w (RP C w (C.p.test f a) (TsOk C w f T)) := by
 have hs : C.p.test f a = (match C.p.signed f a with
  | .error e => .error e
  | .ok none => .ok none
  | .ok (some (n, m, b)) => .ok (some ({ kind := 10, n := 9, m := m, mode := n }, b))) := by
  unfold Pt.test; rw [if_neg (by simp [h0])]; rw [if_neg (by simp [h1])]; rw [if_neg (by simp [h2])]; rw [if_neg (by simp [h3])]; rw [if_neg (by simp [h4])]; rfl
 have H0 := Lib.hid h0
 have H1 := Lib.hid h1
 have H2 := Lib.hid h2
 have H3 := Lib.hid h3
 have H4 := Lib.hid h4
 clear h0 h1 h2 h3 h4
 cases hsg : C.p.signed f a with
 | error x =>
  rw [hsg] at hs
  have HS := Lib.hid (show C.p.test f a = .error x from hs)
  have HSG := Lib.hid hsg
  clear hs hsg
  have hbw := below_al w ob00
  have hxz := h.below hbw
  have hgz := heap_alloc_new w ob00
  have hrl := h.row_lt (g := w.heap.size) (Nat.le_refl _)
  have hrl1 := h.row_lt (g := w.heap.size + 1) (Nat.le_succ _)
  have hB := h.hb
  have hlt := h.cells.lt
  have hsz : (w.alloc ob00).heap.size = w.heap.size + 1 := World.size_alloc ..
  go_enter Tryz.func127, Tryz.ntmps127
  go_wp2_with fail
  generalize hWW : w.alloc ob00 = W at *
  have hbw2 := below_al W ob01
  have hx0 := hxz.below hbw2
  have hgn := heap_alloc_new W ob01
  have hsz2 : (W.alloc ob01).heap.size = W.heap.size + 1 := World.size_alloc ..
  have hgr := (hbw2.block w.heap.size (by omega)).trans hgz
  have hk0 := (Kept.of_below (L := C.L) hbw).then (Kept.of_below (L := C.L) hbw2)
  rw [hsz] at hgn
  generalize hW2 : W.alloc ob01 = w0 at *
  have HG0 : Hid (w0.heap[(w.heap.size + 1)]? = some (.cells (tkR (.slice none 0 0) { kind := 10 }) 30 (0, 0))) := Lib.hid hgn
  have HR0 := Lib.hid hgr
  have hl0 : (w.heap.size + 1) < w0.heap.size := by omega
  clear hWW hW2 hgz hgn hgr hbw hbw2 hxz hsz hsz2
  refine Calls.mono (take_n hx0 ⟨#[68, 69, 70, 73, 78, 69]⟩ [68, 69, 70, 73, 78, 69] rfl (by decide) H0.out) ?_
  rintro e1 w1 ⟨rfl, hx1, hkn⟩
  have hk1 := hk0.then hkn
  have HG1 := Lib.hid ((hkn.block (w.heap.size + 1) hl0 (by omega)).trans HG0.out)
  have HR1 := Lib.hid ((hkn.block w.heap.size (by omega) (by omega)).trans HR0.out)
  have hl1 : (w.heap.size + 1) < w1.heap.size := by have := hkn.size; omega
  clear hkn
  go_wp2_with fail
  refine Calls.mono (take_n hx1 ⟨#[82, 38]⟩ [82, 38] rfl (by decide) H1.out) ?_
  rintro e2 w2 ⟨rfl, hx2, hkn⟩
  have hk2 := hk1.then hkn
  have HG2 := Lib.hid ((hkn.block (w.heap.size + 1) hl1 (by omega)).trans HG1.out)
  have HR2 := Lib.hid ((hkn.block w.heap.size (by omega) (by omega)).trans HR1.out)
  have hl2 : (w.heap.size + 1) < w2.heap.size := by have := hkn.size; omega
  clear hkn
  go_wp2_with fail
  refine Calls.mono (take_n hx2 ⟨#[82]⟩ [82] rfl (by decide) H2.out) ?_
  rintro e3 w3 ⟨rfl, hx3, hkn⟩
  have hk3 := hk2.then hkn
  have HG3 := Lib.hid ((hkn.block (w.heap.size + 1) hl2 (by omega)).trans HG2.out)
  have HR3 := Lib.hid ((hkn.block w.heap.size (by omega) (by omega)).trans HR2.out)
  have hl3 : (w.heap.size + 1) < w3.heap.size := by have := hkn.size; omega
  clear hkn
  go_wp2_with fail
  refine Calls.mono (take_n hx3 ⟨#[60]⟩ [60] rfl (by decide) H3.out) ?_
  rintro e4 w4 ⟨rfl, hx4, hkn⟩
  have hk4 := hk3.then hkn
  have HG4 := Lib.hid ((hkn.block (w.heap.size + 1) hl3 (by omega)).trans HG3.out)
  have HR4 := Lib.hid ((hkn.block w.heap.size (by omega) (by omega)).trans HR3.out)
  have hl4 : (w.heap.size + 1) < w4.heap.size := by have := hkn.size; omega
  clear hkn
  go_wp2_with fail
  refine Calls.mono (take_n hx4 ⟨#[39]⟩ [39] rfl (by decide) H4.out) ?_
  rintro e5 w5 ⟨rfl, hx5, hkn⟩
  have hk5 := hk4.then hkn
  have HG5 := Lib.hid ((hkn.block (w.heap.size + 1) hl4 (by omega)).trans HG4.out)
  have HR5 := Lib.hid ((hkn.block w.heap.size (by omega) (by omega)).trans HR4.out)
  have hl5 : (w.heap.size + 1) < w5.heap.size := by have := hkn.size; omega
  clear hkn
  have c6 : w5.cell? ⟨(w.heap.size + 1), 6, none⟩ = some (.int .i64 0) := by simp [World.cell?, HG5.out, tkR]
  have fz6 : w5.frozen? ⟨(w.heap.size + 1), 6, none⟩ = false := by simp [World.frozen?, HG5.out]
  have c7 : w5.cell? ⟨(w.heap.size + 1), 7, none⟩ = some (.int .i64 0) := by simp [World.cell?, HG5.out, tkR]
  have fz7 : w5.frozen? ⟨(w.heap.size + 1), 7, none⟩ = false := by simp [World.frozen?, HG5.out]
  have c8 : w5.cell? ⟨(w.heap.size + 1), 8, none⟩ = some (.int .i64 0) := by simp [World.cell?, HG5.out, tkR]
  have fz8 : w5.frozen? ⟨(w.heap.size + 1), 8, none⟩ = false := by simp [World.frozen?, HG5.out]
  go_wp2_with fail
  have hpk : Poke (w.heap.size + 1) w5 (w5.setCell ⟨(w.heap.size + 1), 6, none⟩ (.int .i64 9)) := poke_cell w5 (w.heap.size + 1) 6 (.int .i64 9)
  have HG6 : Hid ((w5.setCell ⟨(w.heap.size + 1), 6, none⟩ (.int .i64 9)).heap[(w.heap.size + 1)]? = some (.cells (tkR (.slice none 0 0) { kind := 10, n := 9 }) 30 (0, 0))) := Lib.hid (heap_set (o := 6) (v := .int .i64 9) (HG5.out))
  have HR6 := Lib.hid ((hpk.other w.heap.size (by omega)).trans HR5.out)
  have hx6 := hx5.poke HG5.out (by omega) hrl1 hpk
  have hk6 := hk5.poke hpk (by omega)
  have hl6 : (w.heap.size + 1) < (w5.setCell ⟨(w.heap.size + 1), 6, none⟩ (.int .i64 9)).heap.size := by have := hpk.size; omega
  clear hpk c6 fz6 c7 fz7 c8 fz8
  generalize (w5.setCell ⟨(w.heap.size + 1), 6, none⟩ (.int .i64 9)) = w6 at *
  refine Calls.mono (signed_any hx6) ?_
  intro e7 w7 hr
  rw [HSG.out] at hr
  obtain ⟨rfl, hkn⟩ := hr
  exact ⟨rfl, rp_err HS.out ⟨rfl, (hk6.mono hB).trans hkn⟩⟩
 | ok o =>
  cases o with
  | none =>
   rw [hsg] at hs
   have HS := Lib.hid (show C.p.test f a = .ok none from hs)
   have HSG := Lib.hid hsg
   clear hs hsg
   have hbw := below_al w ob00
   have hxz := h.below hbw
   have hgz := heap_alloc_new w ob00
   have hrl := h.row_lt (g := w.heap.size) (Nat.le_refl _)
   have hrl1 := h.row_lt (g := w.heap.size + 1) (Nat.le_succ _)
   have hB := h.hb
   have hlt := h.cells.lt
   have hsz : (w.alloc ob00).heap.size = w.heap.size + 1 := World.size_alloc ..
   go_enter Tryz.func127, Tryz.ntmps127
   go_wp2_with fail
   generalize hWW : w.alloc ob00 = W at *
   have hbw2 := below_al W ob01
   have hx0 := hxz.below hbw2
   have hgn := heap_alloc_new W ob01
   have hsz2 : (W.alloc ob01).heap.size = W.heap.size + 1 := World.size_alloc ..
   have hgr := (hbw2.block w.heap.size (by omega)).trans hgz
   have hk0 := (Kept.of_below (L := C.L) hbw).then (Kept.of_below (L := C.L) hbw2)
   rw [hsz] at hgn
   generalize hW2 : W.alloc ob01 = w0 at *
   have HG0 : Hid (w0.heap[(w.heap.size + 1)]? = some (.cells (tkR (.slice none 0 0) { kind := 10 }) 30 (0, 0))) := Lib.hid hgn
   have HR0 := Lib.hid hgr
   have hl0 : (w.heap.size + 1) < w0.heap.size := by omega
   clear hWW hW2 hgz hgn hgr hbw hbw2 hxz hsz hsz2
   refine Calls.mono (take_n hx0 ⟨#[68, 69, 70, 73, 78, 69]⟩ [68, 69, 70, 73, 78, 69] rfl (by decide) H0.out) ?_
   rintro e1 w1 ⟨rfl, hx1, hkn⟩
   have hk1 := hk0.then hkn
   have HG1 := Lib.hid ((hkn.block (w.heap.size + 1) hl0 (by omega)).trans HG0.out)
   have HR1 := Lib.hid ((hkn.block w.heap.size (by omega) (by omega)).trans HR0.out)
   have hl1 : (w.heap.size + 1) < w1.heap.size := by have := hkn.size; omega
   clear hkn
   go_wp2_with fail
   refine Calls.mono (take_n hx1 ⟨#[82, 38]⟩ [82, 38] rfl (by decide) H1.out) ?_
   rintro e2 w2 ⟨rfl, hx2, hkn⟩
   have hk2 := hk1.then hkn
   have HG2 := Lib.hid ((hkn.block (w.heap.size + 1) hl1 (by omega)).trans HG1.out)
   have HR2 := Lib.hid ((hkn.block w.heap.size (by omega) (by omega)).trans HR1.out)
   have hl2 : (w.heap.size + 1) < w2.heap.size := by have := hkn.size; omega
   clear hkn
   go_wp2_with fail
   refine Calls.mono (take_n hx2 ⟨#[82]⟩ [82] rfl (by decide) H2.out) ?_
   rintro e3 w3 ⟨rfl, hx3, hkn⟩
   have hk3 := hk2.then hkn
   have HG3 := Lib.hid ((hkn.block (w.heap.size + 1) hl2 (by omega)).trans HG2.out)
   have HR3 := Lib.hid ((hkn.block w.heap.size (by omega) (by omega)).trans HR2.out)
   have hl3 : (w.heap.size + 1) < w3.heap.size := by have := hkn.size; omega
   clear hkn
   go_wp2_with fail
   refine Calls.mono (take_n hx3 ⟨#[60]⟩ [60] rfl (by decide) H3.out) ?_
   rintro e4 w4 ⟨rfl, hx4, hkn⟩
   have hk4 := hk3.then hkn
   have HG4 := Lib.hid ((hkn.block (w.heap.size + 1) hl3 (by omega)).trans HG3.out)
   have HR4 := Lib.hid ((hkn.block w.heap.size (by omega) (by omega)).trans HR3.out)
   have hl4 : (w.heap.size + 1) < w4.heap.size := by have := hkn.size; omega
   clear hkn
   go_wp2_with fail
   refine Calls.mono (take_n hx4 ⟨#[39]⟩ [39] rfl (by decide) H4.out) ?_
   rintro e5 w5 ⟨rfl, hx5, hkn⟩
   have hk5 := hk4.then hkn
   have HG5 := Lib.hid ((hkn.block (w.heap.size + 1) hl4 (by omega)).trans HG4.out)
   have HR5 := Lib.hid ((hkn.block w.heap.size (by omega) (by omega)).trans HR4.out)
   have hl5 : (w.heap.size + 1) < w5.heap.size := by have := hkn.size; omega
   clear hkn
   have c6 : w5.cell? ⟨(w.heap.size + 1), 6, none⟩ = some (.int .i64 0) := by simp [World.cell?, HG5.out, tkR]
   have fz6 : w5.frozen? ⟨(w.heap.size + 1), 6, none⟩ = false := by simp [World.frozen?, HG5.out]
   have c7 : w5.cell? ⟨(w.heap.size + 1), 7, none⟩ = some (.int .i64 0) := by simp [World.cell?, HG5.out, tkR]
   have fz7 : w5.frozen? ⟨(w.heap.size + 1), 7, none⟩ = false := by simp [World.frozen?, HG5.out]
   have c8 : w5.cell? ⟨(w.heap.size + 1), 8, none⟩ = some (.int .i64 0) := by simp [World.cell?, HG5.out, tkR]
   have fz8 : w5.frozen? ⟨(w.heap.size + 1), 8, none⟩ = false := by simp [World.frozen?, HG5.out]
   go_wp2_with fail
   have hpk : Poke (w.heap.size + 1) w5 (w5.setCell ⟨(w.heap.size + 1), 6, none⟩ (.int .i64 9)) := poke_cell w5 (w.heap.size + 1) 6 (.int .i64 9)
   have HG6 : Hid ((w5.setCell ⟨(w.heap.size + 1), 6, none⟩ (.int .i64 9)).heap[(w.heap.size + 1)]? = some (.cells (tkR (.slice none 0 0) { kind := 10, n := 9 }) 30 (0, 0))) := Lib.hid (heap_set (o := 6) (v := .int .i64 9) (HG5.out))
   have HR6 := Lib.hid ((hpk.other w.heap.size (by omega)).trans HR5.out)
   have hx6 := hx5.poke HG5.out (by omega) hrl1 hpk
   have hk6 := hk5.poke hpk (by omega)
   have hl6 : (w.heap.size + 1) < (w5.setCell ⟨(w.heap.size + 1), 6, none⟩ (.int .i64 9)).heap.size := by have := hpk.size; omega
   clear hpk c6 fz6 c7 fz7 c8 fz8
   generalize (w5.setCell ⟨(w.heap.size + 1), 6, none⟩ (.int .i64 9)) = w6 at *
   refine Calls.mono (signed_any hx6) ?_
   intro e7 w7 hr
   rw [HSG.out] at hr
   obtain ⟨rfl, hx7, hkn⟩ := hr
   have hk7 := hk6.then hkn
   have HG7 := Lib.hid ((hkn.block (w.heap.size + 1) hl6 (by omega)).trans HG6.out)
   have HR7 := Lib.hid ((hkn.block w.heap.size (by omega) (by omega)).trans HR6.out)
   have hl7 : (w.heap.size + 1) < w7.heap.size := by have := hkn.size; omega
   clear hkn
   have c8 : w7.cell? ⟨(w.heap.size + 1), 8, none⟩ = some (.int .i64 0) := by simp [World.cell?, HG7.out, tkR]
   have fz8 : w7.frozen? ⟨(w.heap.size + 1), 8, none⟩ = false := by simp [World.frozen?, HG7.out]
   have c7 : w7.cell? ⟨(w.heap.size + 1), 7, none⟩ = some (.int .i64 0) := by simp [World.cell?, HG7.out, tkR]
   have fz7 : w7.frozen? ⟨(w.heap.size + 1), 7, none⟩ = false := by simp [World.frozen?, HG7.out]
   go_upto_region 23 with (fail)
   have hpk : Poke (w.heap.size + 1) w7 ((w7.setCell ⟨(w.heap.size + 1), 8, none⟩ (.int .i64 0)).setCell ⟨(w.heap.size + 1), 7, none⟩ (.int .i64 0)) := (poke_cell w7 (w.heap.size + 1) 8 (.int .i64 0)).trans (poke_cell (w7.setCell ⟨(w.heap.size + 1), 8, none⟩ (.int .i64 0)) (w.heap.size + 1) 7 (.int .i64 0))
   have HG8 : Hid (((w7.setCell ⟨(w.heap.size + 1), 8, none⟩ (.int .i64 0)).setCell ⟨(w.heap.size + 1), 7, none⟩ (.int .i64 0)).heap[(w.heap.size + 1)]? = some (.cells (tkR (.slice none 0 0) ({ kind := 10, n := 9 } : Tk)) 30 (0, 0))) := Lib.hid (heap_set (o := 7) (v := .int .i64 0) (heap_set (o := 8) (v := .int .i64 0) (HG7.out)))
   have HR8 := Lib.hid ((hpk.other w.heap.size (by omega)).trans HR7.out)
   have hx8 := hx7.poke HG7.out (by omega) hrl1 hpk
   have hk8 := hk7.poke hpk (by omega)
   have hl8 : (w.heap.size + 1) < ((w7.setCell ⟨(w.heap.size + 1), 8, none⟩ (.int .i64 0)).setCell ⟨(w.heap.size + 1), 7, none⟩ (.int .i64 0)).heap.size := by have := hpk.size; omega
   clear hpk c7 fz7 c8 fz8
   generalize ((w7.setCell ⟨(w.heap.size + 1), 8, none⟩ (.int .i64 0)).setCell ⟨(w.heap.size + 1), 7, none⟩ (.int .i64 0)) = w8 at *
   go_wp2_with first | (refine wpList_load_tok rfl _ rfl (w.heap.size + 1) rfl (tkR (.slice none 0 0) ({ kind := 10, n := 9 } : Tk)) HG8.out rfl ?_) | (refine wpList_store_tok rfl rfl _ _ rfl w.heap.size rfl _ (tkR (.slice none 0 0) ({ kind := 10, n := 9 } : Tk)) HR8.out rfl rfl (tkR_one (t := ({ kind := 10, n := 9 } : Tk)) (ownR_nil w 0)) rfl ?_)
   refine bodyPost_ret (results_tok2 rfl _ _ w.heap.size (tkR (.slice none 0 0) ({ kind := 10, n := 9 } : Tk)) rfl (setRow_heap _ _ _ _ _ _ HR8.out) rfl) rfl ?_
   exact rp_ok HS.out ⟨({ kind := 10, n := 9 } : Tk), _, _, rfl, ownR_setRow (D := (({ kind := 10, n := 9 } : Tk) : Tk).set) (ownR_nil _ _) HR8.out, hx8.setRow HR8.out hB hrl, hk8.setRow (Nat.le_refl _) _⟩
  | some r =>
   obtain ⟨n, m, b⟩ := r
   rw [hsg] at hs
   have HS := Lib.hid (show C.p.test f a = .ok (some (({ kind := 10, n := 9, m := m, mode := n } : Tk), b)) from hs)
   have HSG := Lib.hid hsg
   clear hs hsg
   have hbw := below_al w ob00
   have hxz := h.below hbw
   have hgz := heap_alloc_new w ob00
   have hrl := h.row_lt (g := w.heap.size) (Nat.le_refl _)
   have hrl1 := h.row_lt (g := w.heap.size + 1) (Nat.le_succ _)
   have hB := h.hb
   have hlt := h.cells.lt
   have hsz : (w.alloc ob00).heap.size = w.heap.size + 1 := World.size_alloc ..
   go_enter Tryz.func127, Tryz.ntmps127
   go_wp2_with fail
   generalize hWW : w.alloc ob00 = W at *
   have hbw2 := below_al W ob01
   have hx0 := hxz.below hbw2
   have hgn := heap_alloc_new W ob01
   have hsz2 : (W.alloc ob01).heap.size = W.heap.size + 1 := World.size_alloc ..
   have hgr := (hbw2.block w.heap.size (by omega)).trans hgz
   have hk0 := (Kept.of_below (L := C.L) hbw).then (Kept.of_below (L := C.L) hbw2)
   rw [hsz] at hgn
   generalize hW2 : W.alloc ob01 = w0 at *
   have HG0 : Hid (w0.heap[(w.heap.size + 1)]? = some (.cells (tkR (.slice none 0 0) { kind := 10 }) 30 (0, 0))) := Lib.hid hgn
   have HR0 := Lib.hid hgr
   have hl0 : (w.heap.size + 1) < w0.heap.size := by omega
   clear hWW hW2 hgz hgn hgr hbw hbw2 hxz hsz hsz2
   refine Calls.mono (take_n hx0 ⟨#[68, 69, 70, 73, 78, 69]⟩ [68, 69, 70, 73, 78, 69] rfl (by decide) H0.out) ?_
   rintro e1 w1 ⟨rfl, hx1, hkn⟩
   have hk1 := hk0.then hkn
   have HG1 := Lib.hid ((hkn.block (w.heap.size + 1) hl0 (by omega)).trans HG0.out)
   have HR1 := Lib.hid ((hkn.block w.heap.size (by omega) (by omega)).trans HR0.out)
   have hl1 : (w.heap.size + 1) < w1.heap.size := by have := hkn.size; omega
   clear hkn
   go_wp2_with fail
   refine Calls.mono (take_n hx1 ⟨#[82, 38]⟩ [82, 38] rfl (by decide) H1.out) ?_
   rintro e2 w2 ⟨rfl, hx2, hkn⟩
   have hk2 := hk1.then hkn
   have HG2 := Lib.hid ((hkn.block (w.heap.size + 1) hl1 (by omega)).trans HG1.out)
   have HR2 := Lib.hid ((hkn.block w.heap.size (by omega) (by omega)).trans HR1.out)
   have hl2 : (w.heap.size + 1) < w2.heap.size := by have := hkn.size; omega
   clear hkn
   go_wp2_with fail
   refine Calls.mono (take_n hx2 ⟨#[82]⟩ [82] rfl (by decide) H2.out) ?_
   rintro e3 w3 ⟨rfl, hx3, hkn⟩
   have hk3 := hk2.then hkn
   have HG3 := Lib.hid ((hkn.block (w.heap.size + 1) hl2 (by omega)).trans HG2.out)
   have HR3 := Lib.hid ((hkn.block w.heap.size (by omega) (by omega)).trans HR2.out)
   have hl3 : (w.heap.size + 1) < w3.heap.size := by have := hkn.size; omega
   clear hkn
   go_wp2_with fail
   refine Calls.mono (take_n hx3 ⟨#[60]⟩ [60] rfl (by decide) H3.out) ?_
   rintro e4 w4 ⟨rfl, hx4, hkn⟩
   have hk4 := hk3.then hkn
   have HG4 := Lib.hid ((hkn.block (w.heap.size + 1) hl3 (by omega)).trans HG3.out)
   have HR4 := Lib.hid ((hkn.block w.heap.size (by omega) (by omega)).trans HR3.out)
   have hl4 : (w.heap.size + 1) < w4.heap.size := by have := hkn.size; omega
   clear hkn
   go_wp2_with fail
   refine Calls.mono (take_n hx4 ⟨#[39]⟩ [39] rfl (by decide) H4.out) ?_
   rintro e5 w5 ⟨rfl, hx5, hkn⟩
   have hk5 := hk4.then hkn
   have HG5 := Lib.hid ((hkn.block (w.heap.size + 1) hl4 (by omega)).trans HG4.out)
   have HR5 := Lib.hid ((hkn.block w.heap.size (by omega) (by omega)).trans HR4.out)
   have hl5 : (w.heap.size + 1) < w5.heap.size := by have := hkn.size; omega
   clear hkn
   have c6 : w5.cell? ⟨(w.heap.size + 1), 6, none⟩ = some (.int .i64 0) := by simp [World.cell?, HG5.out, tkR]
   have fz6 : w5.frozen? ⟨(w.heap.size + 1), 6, none⟩ = false := by simp [World.frozen?, HG5.out]
   have c7 : w5.cell? ⟨(w.heap.size + 1), 7, none⟩ = some (.int .i64 0) := by simp [World.cell?, HG5.out, tkR]
   have fz7 : w5.frozen? ⟨(w.heap.size + 1), 7, none⟩ = false := by simp [World.frozen?, HG5.out]
   have c8 : w5.cell? ⟨(w.heap.size + 1), 8, none⟩ = some (.int .i64 0) := by simp [World.cell?, HG5.out, tkR]
   have fz8 : w5.frozen? ⟨(w.heap.size + 1), 8, none⟩ = false := by simp [World.frozen?, HG5.out]
   go_wp2_with fail
   have hpk : Poke (w.heap.size + 1) w5 (w5.setCell ⟨(w.heap.size + 1), 6, none⟩ (.int .i64 9)) := poke_cell w5 (w.heap.size + 1) 6 (.int .i64 9)
   have HG6 : Hid ((w5.setCell ⟨(w.heap.size + 1), 6, none⟩ (.int .i64 9)).heap[(w.heap.size + 1)]? = some (.cells (tkR (.slice none 0 0) { kind := 10, n := 9 }) 30 (0, 0))) := Lib.hid (heap_set (o := 6) (v := .int .i64 9) (HG5.out))
   have HR6 := Lib.hid ((hpk.other w.heap.size (by omega)).trans HR5.out)
   have hx6 := hx5.poke HG5.out (by omega) hrl1 hpk
   have hk6 := hk5.poke hpk (by omega)
   have hl6 : (w.heap.size + 1) < (w5.setCell ⟨(w.heap.size + 1), 6, none⟩ (.int .i64 9)).heap.size := by have := hpk.size; omega
   clear hpk c6 fz6 c7 fz7 c8 fz8
   generalize (w5.setCell ⟨(w.heap.size + 1), 6, none⟩ (.int .i64 9)) = w6 at *
   refine Calls.mono (signed_any hx6) ?_
   intro e7 w7 hr
   rw [HSG.out] at hr
   obtain ⟨rfl, hx7, hkn⟩ := hr
   have hk7 := hk6.then hkn
   have HG7 := Lib.hid ((hkn.block (w.heap.size + 1) hl6 (by omega)).trans HG6.out)
   have HR7 := Lib.hid ((hkn.block w.heap.size (by omega) (by omega)).trans HR6.out)
   have hl7 : (w.heap.size + 1) < w7.heap.size := by have := hkn.size; omega
   clear hkn
   have c8 : w7.cell? ⟨(w.heap.size + 1), 8, none⟩ = some (.int .i64 0) := by simp [World.cell?, HG7.out, tkR]
   have fz8 : w7.frozen? ⟨(w.heap.size + 1), 8, none⟩ = false := by simp [World.frozen?, HG7.out]
   have c7 : w7.cell? ⟨(w.heap.size + 1), 7, none⟩ = some (.int .i64 0) := by simp [World.cell?, HG7.out, tkR]
   have fz7 : w7.frozen? ⟨(w.heap.size + 1), 7, none⟩ = false := by simp [World.frozen?, HG7.out]
   go_upto_region 23 with (fail)
   have hpk : Poke (w.heap.size + 1) w7 ((w7.setCell ⟨(w.heap.size + 1), 8, none⟩ (.int .i64 n)).setCell ⟨(w.heap.size + 1), 7, none⟩ (.int .i64 m)) := (poke_cell w7 (w.heap.size + 1) 8 (.int .i64 n)).trans (poke_cell (w7.setCell ⟨(w.heap.size + 1), 8, none⟩ (.int .i64 n)) (w.heap.size + 1) 7 (.int .i64 m))
   have HG8 : Hid (((w7.setCell ⟨(w.heap.size + 1), 8, none⟩ (.int .i64 n)).setCell ⟨(w.heap.size + 1), 7, none⟩ (.int .i64 m)).heap[(w.heap.size + 1)]? = some (.cells (tkR (.slice none 0 0) ({ kind := 10, n := 9, m := m, mode := n } : Tk)) 30 (0, 0))) := Lib.hid (heap_set (o := 7) (v := .int .i64 m) (heap_set (o := 8) (v := .int .i64 n) (HG7.out)))
   have HR8 := Lib.hid ((hpk.other w.heap.size (by omega)).trans HR7.out)
   have hx8 := hx7.poke HG7.out (by omega) hrl1 hpk
   have hk8 := hk7.poke hpk (by omega)
   have hl8 : (w.heap.size + 1) < ((w7.setCell ⟨(w.heap.size + 1), 8, none⟩ (.int .i64 n)).setCell ⟨(w.heap.size + 1), 7, none⟩ (.int .i64 m)).heap.size := by have := hpk.size; omega
   clear hpk c7 fz7 c8 fz8
   generalize ((w7.setCell ⟨(w.heap.size + 1), 8, none⟩ (.int .i64 n)).setCell ⟨(w.heap.size + 1), 7, none⟩ (.int .i64 m)) = w8 at *
   go_wp2_with first | (refine wpList_load_tok rfl _ rfl (w.heap.size + 1) rfl (tkR (.slice none 0 0) ({ kind := 10, n := 9, m := m, mode := n } : Tk)) HG8.out rfl ?_) | (refine wpList_store_tok rfl rfl _ _ rfl w.heap.size rfl _ (tkR (.slice none 0 0) ({ kind := 10, n := 9, m := m, mode := n } : Tk)) HR8.out rfl rfl (tkR_one (t := ({ kind := 10, n := 9, m := m, mode := n } : Tk)) (ownR_nil w 0)) rfl ?_)
   refine bodyPost_ret (results_tok2 rfl _ _ w.heap.size (tkR (.slice none 0 0) ({ kind := 10, n := 9, m := m, mode := n } : Tk)) rfl (setRow_heap _ _ _ _ _ _ HR8.out) rfl) rfl ?_
   exact rp_ok HS.out ⟨_, rfl, ownR_setRow (D := (({ kind := 10, n := 9, m := m, mode := n } : Tk) : Tk).set) (ownR_nil _ _) HR8.out, hx8.setRow HR8.out hB hrl, hk8.setRow (Nat.le_refl _) _⟩
theorem test_any (h : LX C w a f T) : Calls Tryz.prog 127 #[.pointer (some ⟨C.L, 0, none⟩)] w (RP C w (C.p.test f a) (TsOk C w f T)) := by
 cases h0 : C.p.has [68, 69, 70, 73, 78, 69] a with
 | true => exact test_0 h h0
 | false =>
  cases h1 : C.p.has [82, 38] a with
  | true => exact test_1 h h0 h1
  | false =>
   cases h2 : C.p.has [82] a with
   | true => exact test_2 h h0 h1 h2
   | false =>
    cases h3 : C.p.has [60] a with
    | true => exact test_3 h h0 h1 h2 h3
    | false =>
     cases h4 : C.p.has [39] a with
     | true => exact test_4 h h0 h1 h2 h3 h4
     | false =>
      exact test_5 h h0 h1 h2 h3 h4
end Go.Proofs.YtkcmjcgjfjfimaaGreatDoor.tkw
end
