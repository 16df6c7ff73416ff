/- Texts that TreeSameLaw leans on, merged: what the functions of the program answer. -/
import Derived.BigQuiet
import Derived.Deep.Cut
import Derived.Deep.RegionHeld3
import Derived.Laws.BytesArg
import Derived.Laws.CopyRow
import Derived.Laws.OwnMore
import Derived.Laws.Rows
import Derived.Lib.Hide
import Derived.Lib.QuietBelow
import Derived.Maps.AppendAt
import Derived.OwnWalk
import Derived.Shelf.Abstract
import Derived.Test.YtpjaahojoabgjaaRows
import Derived.WalkKit
import Derived.WalkMore
import Derived.Test.YtpjaahojoabgjaaBTr01
import Derived.Test.YtpjaahojoabgjaaBTr02
import Derived.Test.YtpjaahojoabgjaaBTr03
import Derived.Test.YtpjaahojoabgjaaBTr04
import Derived.Test.YtpjaahojoabgjaaBTr05
import Derived.Test.YtpjaahojoabgjaaBTr06
import Derived.Test.YtpjaahojoabgjaaBTr07
namespace Go.Proofs.Ytpjaahojoabgjaa.lawTreeSame
end Go.Proofs.Ytpjaahojoabgjaa.lawTreeSame
namespace Go.Proofs.Ytpjaahojoabgjaa.trp
end Go.Proofs.Ytpjaahojoabgjaa.trp
namespace Go.Proofs.Ytpjaahojoabgjaa.trw
end Go.Proofs.Ytpjaahojoabgjaa.trw
section
namespace Go.Proofs.Ytpjaahojoabgjaa.trw
open Go Go.RowKit trp
set_option maxRecDepth 100000 in
set_option maxHeartbeats 8000000 in
theorem rsame_any : ∀ (n : Nat) (a b : Nd) (w : World), a.2.size < n → NdAt w a → NdAt w b → Calls Try.prog 16 #[ndV a.1, ndV b.1] w (BoolB (sameT a b) w) := by
 intro n
 induction n with
 | zero => intro a b w hn; omega
 | succ n ih =>
   intro a b w hn ha hb
   have IH := Lib.hid ih
   clear ih
   obtain ⟨sa, sc, hsv, _⟩ := ha.2.1
   obtain ⟨ka, kc, hkv, _⟩ := ha.2.2
   obtain ⟨ta, tc, htv, _⟩ := hb.2.1
   obtain ⟨la, lc, hlv, _⟩ := hb.2.2
   have HS := Lib.hid ha.2.1
   have HT := Lib.hid hb.2.1
   have HK := Lib.hid ha.2.2
   have HM := Lib.hid hb.2.2
   clear ha hb
   obtain ⟨x, k⟩ := a
   obtain ⟨y, k2⟩ := b
   obtain ⟨xk, xa, xc, xs, xset, xneg, xn, xm, xmode, xname, xon, xoff, xkv⟩ := x
   obtain ⟨yk, ya, yc, ys, yset, yneg, yn, ym, ymode, yname, yon, yoff, ykv⟩ := y
   simp only at hsv hkv htv hlv hn
   subst hsv hkv htv hlv
   simp only at HS HT HK HM
   have HH := Lib.hid (show Below w.heap.size w ((w.alloc (.cells (ndC (⟨xk, xa, xc, .slice sa xset.length sc, xset, xneg, xn, xm, xmode, xname, xon, xoff, .slice ka k.len kc⟩ : Lab)).toArray 25)).alloc (.cells (ndC (⟨yk, ya, yc, .slice ta yset.length tc, yset, yneg, yn, ym, ymode, yname, yon, yoff, .slice la k2.len lc⟩ : Lab)).toArray 25)) ∧ ((w.alloc (.cells (ndC (⟨xk, xa, xc, .slice sa xset.length sc, xset, xneg, xn, xm, xmode, xname, xon, xoff, .slice ka k.len kc⟩ : Lab)).toArray 25)).alloc (.cells (ndC (⟨yk, ya, yc, .slice ta yset.length tc, yset, yneg, yn, ym, ymode, yname, yon, yoff, .slice la k2.len lc⟩ : Lab)).toArray 25)).heap[w.heap.size]? = some (.cells (ndC (⟨xk, xa, xc, .slice sa xset.length sc, xset, xneg, xn, xm, xmode, xname, xon, xoff, .slice ka k.len kc⟩ : Lab)).toArray 25) ∧ ((w.alloc (.cells (ndC (⟨xk, xa, xc, .slice sa xset.length sc, xset, xneg, xn, xm, xmode, xname, xon, xoff, .slice ka k.len kc⟩ : Lab)).toArray 25)).alloc (.cells (ndC (⟨yk, ya, yc, .slice ta yset.length tc, yset, yneg, yn, ym, ymode, yname, yon, yoff, .slice la k2.len lc⟩ : Lab)).toArray 25)).heap[w.heap.size + 1]? = some (.cells (ndC (⟨yk, ya, yc, .slice ta yset.length tc, yset, yneg, yn, ym, ymode, yname, yon, yoff, .slice la k2.len lc⟩ : Lab)).toArray 25) from
     ⟨(below_alloc w _).alloc (by simp) _, by rw [heap_alloc_old _ _ (by simp)]; exact heap_alloc_new _ _, by have := heap_alloc_new (w.alloc (.cells (ndC (⟨xk, xa, xc, .slice sa xset.length sc, xset, xneg, xn, xm, xmode, xname, xon, xoff, .slice ka k.len kc⟩ : Lab)).toArray 25)) (.cells (ndC (⟨yk, ya, yc, .slice ta yset.length tc, yset, yneg, yn, ym, ymode, yname, yon, yoff, .slice la k2.len lc⟩ : Lab)).toArray 25); simpa using this⟩)
   simp only [ndC] at HH
   by_cases h_kind : xk = yk
   rotate_left
   · have HR := Lib.hid (show sameT ((⟨xk, xa, xc, .slice sa xset.length sc, xset, xneg, xn, xm, xmode, xname, xon, xoff, .slice ka k.len kc⟩ : Lab), k) ((⟨yk, ya, yc, .slice ta yset.length tc, yset, yneg, yn, ym, ymode, yname, yon, yoff, .slice la k2.len lc⟩ : Lab), k2) = false by simp [sameT, labEq, h_kind])
     rw [HR.out]
     clear HS HT HK HM IH
     have Q_kind := Lib.hid h_kind
     clear h_kind
     unfold ndV
     go_enter Try.func16, Try.ntmps16
     go_upto_region 1 with (fail)
     generalize hg : (w.alloc _).alloc _ = W
     have hh := HH.out
     rw [hg] at hh
     obtain ⟨hb0, hr, hs⟩ := hh
     have HB := Lib.hid hb0
     have R0 := Lib.hid (fun w1 (hb : Below W.heap.size W w1) => cells12 (x := (⟨xk, xa, xc, .slice sa xset.length sc, xset, xneg, xn, xm, xmode, xname, xon, xoff, .slice ka k.len kc⟩ : Lab)) ((hb.block _ (Array.getElem?_eq_some_iff.1 hr).1).trans hr))
     have R1 := Lib.hid (fun w1 (hb : Below W.heap.size W w1) => cells12 (x := (⟨yk, ya, yc, .slice ta yset.length tc, yset, yneg, yn, ym, ymode, yname, yon, yoff, .slice la k2.len lc⟩ : Lab)) ((hb.block _ (Array.getElem?_eq_some_iff.1 hs).1).trans hs))
     clear hg hb0 hr hs HH
     obtain ⟨B1, hB1⟩ : ∃ B1, w.heap.size + 1 = B1 := ⟨_, rfl⟩
     obtain ⟨B0, hB0⟩ : ∃ B0, w.heap.size = B0 := ⟨_, rfl⟩
     rw [hB1] at R1 ⊢
     rw [hB0] at R0 ⊢
     have f0 : W.cell? ⟨B0, 0, none⟩ = some (.int .i64 xk) := R0.out W (Below.refl _ _) 0 _ rfl
     have f1 : W.cell? ⟨B0, 1, none⟩ = some (.int .i64 xa) := R0.out W (Below.refl _ _) 1 _ rfl
     have f2 : W.cell? ⟨B0, 2, none⟩ = some (.int .i64 xc) := R0.out W (Below.refl _ _) 2 _ rfl
     have f3 : W.cell? ⟨B0, 3, none⟩ = some (.slice sa xset.length sc) := R0.out W (Below.refl _ _) 3 _ rfl
     have f4 : W.cell? ⟨B0, 4, none⟩ = some (.bool xneg) := R0.out W (Below.refl _ _) 4 _ rfl
     have f5 : W.cell? ⟨B0, 5, none⟩ = some (.int .i64 xn) := R0.out W (Below.refl _ _) 5 _ rfl
     have f6 : W.cell? ⟨B0, 6, none⟩ = some (.int .i64 xm) := R0.out W (Below.refl _ _) 6 _ rfl
     have f7 : W.cell? ⟨B0, 7, none⟩ = some (.int .i64 xmode) := R0.out W (Below.refl _ _) 7 _ rfl
     have f8 : W.cell? ⟨B0, 8, none⟩ = some (.string xname) := R0.out W (Below.refl _ _) 8 _ rfl
     have f9 : W.cell? ⟨B0, 9, none⟩ = some (.int .i64 xon) := R0.out W (Below.refl _ _) 9 _ rfl
     have f10 : W.cell? ⟨B0, 10, none⟩ = some (.int .i64 xoff) := R0.out W (Below.refl _ _) 10 _ rfl
     have f11 : W.cell? ⟨B0, 11, none⟩ = some (.slice ka k.len kc) := R0.out W (Below.refl _ _) 11 _ rfl
     have g0 : W.cell? ⟨B1, 0, none⟩ = some (.int .i64 yk) := R1.out W (Below.refl _ _) 0 _ rfl
     have g1 : W.cell? ⟨B1, 1, none⟩ = some (.int .i64 ya) := R1.out W (Below.refl _ _) 1 _ rfl
     have g2 : W.cell? ⟨B1, 2, none⟩ = some (.int .i64 yc) := R1.out W (Below.refl _ _) 2 _ rfl
     have g3 : W.cell? ⟨B1, 3, none⟩ = some (.slice ta yset.length tc) := R1.out W (Below.refl _ _) 3 _ rfl
     have g4 : W.cell? ⟨B1, 4, none⟩ = some (.bool yneg) := R1.out W (Below.refl _ _) 4 _ rfl
     have g5 : W.cell? ⟨B1, 5, none⟩ = some (.int .i64 yn) := R1.out W (Below.refl _ _) 5 _ rfl
     have g6 : W.cell? ⟨B1, 6, none⟩ = some (.int .i64 ym) := R1.out W (Below.refl _ _) 6 _ rfl
     have g7 : W.cell? ⟨B1, 7, none⟩ = some (.int .i64 ymode) := R1.out W (Below.refl _ _) 7 _ rfl
     have g8 : W.cell? ⟨B1, 8, none⟩ = some (.string yname) := R1.out W (Below.refl _ _) 8 _ rfl
     have g9 : W.cell? ⟨B1, 9, none⟩ = some (.int .i64 yon) := R1.out W (Below.refl _ _) 9 _ rfl
     have g10 : W.cell? ⟨B1, 10, none⟩ = some (.int .i64 yoff) := R1.out W (Below.refl _ _) 10 _ rfl
     have g11 : W.cell? ⟨B1, 11, none⟩ = some (.slice la k2.len lc) := R1.out W (Below.refl _ _) 11 _ rfl
     have h_kind := Q_kind.out
     clear Q_kind
     have e_kind : (xk == yk) = false := by simpa using h_kind
     go_wp2_with fail
     go_ret
     exact ⟨rfl, HB.out⟩
   by_cases h_c : xc = yc
   rotate_left
   · have HR := Lib.hid (show sameT ((⟨xk, xa, xc, .slice sa xset.length sc, xset, xneg, xn, xm, xmode, xname, xon, xoff, .slice ka k.len kc⟩ : Lab), k) ((⟨yk, ya, yc, .slice ta yset.length tc, yset, yneg, yn, ym, ymode, yname, yon, yoff, .slice la k2.len lc⟩ : Lab), k2) = false by simp [sameT, labEq, h_c])
     rw [HR.out]
     clear HS HT HK HM IH
     have Q_kind := Lib.hid h_kind
     have Q_c := Lib.hid h_c
     clear h_kind h_c
     unfold ndV
     go_enter Try.func16, Try.ntmps16
     go_upto_region 1 with (fail)
     generalize hg : (w.alloc _).alloc _ = W
     have hh := HH.out
     rw [hg] at hh
     obtain ⟨hb0, hr, hs⟩ := hh
     have HB := Lib.hid hb0
     have R0 := Lib.hid (fun w1 (hb : Below W.heap.size W w1) => cells12 (x := (⟨xk, xa, xc, .slice sa xset.length sc, xset, xneg, xn, xm, xmode, xname, xon, xoff, .slice ka k.len kc⟩ : Lab)) ((hb.block _ (Array.getElem?_eq_some_iff.1 hr).1).trans hr))
     have R1 := Lib.hid (fun w1 (hb : Below W.heap.size W w1) => cells12 (x := (⟨yk, ya, yc, .slice ta yset.length tc, yset, yneg, yn, ym, ymode, yname, yon, yoff, .slice la k2.len lc⟩ : Lab)) ((hb.block _ (Array.getElem?_eq_some_iff.1 hs).1).trans hs))
     clear hg hb0 hr hs HH
     obtain ⟨B1, hB1⟩ : ∃ B1, w.heap.size + 1 = B1 := ⟨_, rfl⟩
     obtain ⟨B0, hB0⟩ : ∃ B0, w.heap.size = B0 := ⟨_, rfl⟩
     rw [hB1] at R1 ⊢
     rw [hB0] at R0 ⊢
     have f0 : W.cell? ⟨B0, 0, none⟩ = some (.int .i64 xk) := R0.out W (Below.refl _ _) 0 _ rfl
     have f1 : W.cell? ⟨B0, 1, none⟩ = some (.int .i64 xa) := R0.out W (Below.refl _ _) 1 _ rfl
     have f2 : W.cell? ⟨B0, 2, none⟩ = some (.int .i64 xc) := R0.out W (Below.refl _ _) 2 _ rfl
     have f3 : W.cell? ⟨B0, 3, none⟩ = some (.slice sa xset.length sc) := R0.out W (Below.refl _ _) 3 _ rfl
     have f4 : W.cell? ⟨B0, 4, none⟩ = some (.bool xneg) := R0.out W (Below.refl _ _) 4 _ rfl
     have f5 : W.cell? ⟨B0, 5, none⟩ = some (.int .i64 xn) := R0.out W (Below.refl _ _) 5 _ rfl
     have f6 : W.cell? ⟨B0, 6, none⟩ = some (.int .i64 xm) := R0.out W (Below.refl _ _) 6 _ rfl
     have f7 : W.cell? ⟨B0, 7, none⟩ = some (.int .i64 xmode) := R0.out W (Below.refl _ _) 7 _ rfl
     have f8 : W.cell? ⟨B0, 8, none⟩ = some (.string xname) := R0.out W (Below.refl _ _) 8 _ rfl
     have f9 : W.cell? ⟨B0, 9, none⟩ = some (.int .i64 xon) := R0.out W (Below.refl _ _) 9 _ rfl
     have f10 : W.cell? ⟨B0, 10, none⟩ = some (.int .i64 xoff) := R0.out W (Below.refl _ _) 10 _ rfl
     have f11 : W.cell? ⟨B0, 11, none⟩ = some (.slice ka k.len kc) := R0.out W (Below.refl _ _) 11 _ rfl
     have g0 : W.cell? ⟨B1, 0, none⟩ = some (.int .i64 yk) := R1.out W (Below.refl _ _) 0 _ rfl
     have g1 : W.cell? ⟨B1, 1, none⟩ = some (.int .i64 ya) := R1.out W (Below.refl _ _) 1 _ rfl
     have g2 : W.cell? ⟨B1, 2, none⟩ = some (.int .i64 yc) := R1.out W (Below.refl _ _) 2 _ rfl
     have g3 : W.cell? ⟨B1, 3, none⟩ = some (.slice ta yset.length tc) := R1.out W (Below.refl _ _) 3 _ rfl
     have g4 : W.cell? ⟨B1, 4, none⟩ = some (.bool yneg) := R1.out W (Below.refl _ _) 4 _ rfl
     have g5 : W.cell? ⟨B1, 5, none⟩ = some (.int .i64 yn) := R1.out W (Below.refl _ _) 5 _ rfl
     have g6 : W.cell? ⟨B1, 6, none⟩ = some (.int .i64 ym) := R1.out W (Below.refl _ _) 6 _ rfl
     have g7 : W.cell? ⟨B1, 7, none⟩ = some (.int .i64 ymode) := R1.out W (Below.refl _ _) 7 _ rfl
     have g8 : W.cell? ⟨B1, 8, none⟩ = some (.string yname) := R1.out W (Below.refl _ _) 8 _ rfl
     have g9 : W.cell? ⟨B1, 9, none⟩ = some (.int .i64 yon) := R1.out W (Below.refl _ _) 9 _ rfl
     have g10 : W.cell? ⟨B1, 10, none⟩ = some (.int .i64 yoff) := R1.out W (Below.refl _ _) 10 _ rfl
     have g11 : W.cell? ⟨B1, 11, none⟩ = some (.slice la k2.len lc) := R1.out W (Below.refl _ _) 11 _ rfl
     have h_kind := Q_kind.out
     have h_c := Q_c.out
     clear Q_kind Q_c
     have e_c : (xc == yc) = false := by simpa using h_c
     go_wp2_with fail
     go_ret
     exact ⟨rfl, HB.out⟩
   by_cases h_neg : xneg = yneg
   rotate_left
   · have HR := Lib.hid (show sameT ((⟨xk, xa, xc, .slice sa xset.length sc, xset, xneg, xn, xm, xmode, xname, xon, xoff, .slice ka k.len kc⟩ : Lab), k) ((⟨yk, ya, yc, .slice ta yset.length tc, yset, yneg, yn, ym, ymode, yname, yon, yoff, .slice la k2.len lc⟩ : Lab), k2) = false by simp [sameT, labEq, h_neg])
     rw [HR.out]
     clear HS HT HK HM IH
     have Q_kind := Lib.hid h_kind
     have Q_c := Lib.hid h_c
     have Q_neg := Lib.hid h_neg
     clear h_kind h_c h_neg
     unfold ndV
     go_enter Try.func16, Try.ntmps16
     go_upto_region 1 with (fail)
     generalize hg : (w.alloc _).alloc _ = W
     have hh := HH.out
     rw [hg] at hh
     obtain ⟨hb0, hr, hs⟩ := hh
     have HB := Lib.hid hb0
     have R0 := Lib.hid (fun w1 (hb : Below W.heap.size W w1) => cells12 (x := (⟨xk, xa, xc, .slice sa xset.length sc, xset, xneg, xn, xm, xmode, xname, xon, xoff, .slice ka k.len kc⟩ : Lab)) ((hb.block _ (Array.getElem?_eq_some_iff.1 hr).1).trans hr))
     have R1 := Lib.hid (fun w1 (hb : Below W.heap.size W w1) => cells12 (x := (⟨yk, ya, yc, .slice ta yset.length tc, yset, yneg, yn, ym, ymode, yname, yon, yoff, .slice la k2.len lc⟩ : Lab)) ((hb.block _ (Array.getElem?_eq_some_iff.1 hs).1).trans hs))
     clear hg hb0 hr hs HH
     obtain ⟨B1, hB1⟩ : ∃ B1, w.heap.size + 1 = B1 := ⟨_, rfl⟩
     obtain ⟨B0, hB0⟩ : ∃ B0, w.heap.size = B0 := ⟨_, rfl⟩
     rw [hB1] at R1 ⊢
     rw [hB0] at R0 ⊢
     have f0 : W.cell? ⟨B0, 0, none⟩ = some (.int .i64 xk) := R0.out W (Below.refl _ _) 0 _ rfl
     have f1 : W.cell? ⟨B0, 1, none⟩ = some (.int .i64 xa) := R0.out W (Below.refl _ _) 1 _ rfl
     have f2 : W.cell? ⟨B0, 2, none⟩ = some (.int .i64 xc) := R0.out W (Below.refl _ _) 2 _ rfl
     have f3 : W.cell? ⟨B0, 3, none⟩ = some (.slice sa xset.length sc) := R0.out W (Below.refl _ _) 3 _ rfl
     have f4 : W.cell? ⟨B0, 4, none⟩ = some (.bool xneg) := R0.out W (Below.refl _ _) 4 _ rfl
     have f5 : W.cell? ⟨B0, 5, none⟩ = some (.int .i64 xn) := R0.out W (Below.refl _ _) 5 _ rfl
     have f6 : W.cell? ⟨B0, 6, none⟩ = some (.int .i64 xm) := R0.out W (Below.refl _ _) 6 _ rfl
     have f7 : W.cell? ⟨B0, 7, none⟩ = some (.int .i64 xmode) := R0.out W (Below.refl _ _) 7 _ rfl
     have f8 : W.cell? ⟨B0, 8, none⟩ = some (.string xname) := R0.out W (Below.refl _ _) 8 _ rfl
     have f9 : W.cell? ⟨B0, 9, none⟩ = some (.int .i64 xon) := R0.out W (Below.refl _ _) 9 _ rfl
     have f10 : W.cell? ⟨B0, 10, none⟩ = some (.int .i64 xoff) := R0.out W (Below.refl _ _) 10 _ rfl
     have f11 : W.cell? ⟨B0, 11, none⟩ = some (.slice ka k.len kc) := R0.out W (Below.refl _ _) 11 _ rfl
     have g0 : W.cell? ⟨B1, 0, none⟩ = some (.int .i64 yk) := R1.out W (Below.refl _ _) 0 _ rfl
     have g1 : W.cell? ⟨B1, 1, none⟩ = some (.int .i64 ya) := R1.out W (Below.refl _ _) 1 _ rfl
     have g2 : W.cell? ⟨B1, 2, none⟩ = some (.int .i64 yc) := R1.out W (Below.refl _ _) 2 _ rfl
     have g3 : W.cell? ⟨B1, 3, none⟩ = some (.slice ta yset.length tc) := R1.out W (Below.refl _ _) 3 _ rfl
     have g4 : W.cell? ⟨B1, 4, none⟩ = some (.bool yneg) := R1.out W (Below.refl _ _) 4 _ rfl
     have g5 : W.cell? ⟨B1, 5, none⟩ = some (.int .i64 yn) := R1.out W (Below.refl _ _) 5 _ rfl
     have g6 : W.cell? ⟨B1, 6, none⟩ = some (.int .i64 ym) := R1.out W (Below.refl _ _) 6 _ rfl
     have g7 : W.cell? ⟨B1, 7, none⟩ = some (.int .i64 ymode) := R1.out W (Below.refl _ _) 7 _ rfl
     have g8 : W.cell? ⟨B1, 8, none⟩ = some (.string yname) := R1.out W (Below.refl _ _) 8 _ rfl
     have g9 : W.cell? ⟨B1, 9, none⟩ = some (.int .i64 yon) := R1.out W (Below.refl _ _) 9 _ rfl
     have g10 : W.cell? ⟨B1, 10, none⟩ = some (.int .i64 yoff) := R1.out W (Below.refl _ _) 10 _ rfl
     have g11 : W.cell? ⟨B1, 11, none⟩ = some (.slice la k2.len lc) := R1.out W (Below.refl _ _) 11 _ rfl
     have h_kind := Q_kind.out
     have h_c := Q_c.out
     have h_neg := Q_neg.out
     clear Q_kind Q_c Q_neg
     have i_neg : (xneg != yneg) = true := by simpa using h_neg
     have e_neg : (xneg == yneg) = false := by simpa using h_neg
     go_wp2_with fail
     go_ret
     exact ⟨rfl, HB.out⟩
   by_cases h_n : xn = yn
   rotate_left
   · have HR := Lib.hid (show sameT ((⟨xk, xa, xc, .slice sa xset.length sc, xset, xneg, xn, xm, xmode, xname, xon, xoff, .slice ka k.len kc⟩ : Lab), k) ((⟨yk, ya, yc, .slice ta yset.length tc, yset, yneg, yn, ym, ymode, yname, yon, yoff, .slice la k2.len lc⟩ : Lab), k2) = false by simp [sameT, labEq, h_n])
     rw [HR.out]
     clear HS HT HK HM IH
     have Q_kind := Lib.hid h_kind
     have Q_c := Lib.hid h_c
     have Q_neg := Lib.hid h_neg
     have Q_n := Lib.hid h_n
     clear h_kind h_c h_neg h_n
     unfold ndV
     go_enter Try.func16, Try.ntmps16
     go_upto_region 1 with (fail)
     generalize hg : (w.alloc _).alloc _ = W
     have hh := HH.out
     rw [hg] at hh
     obtain ⟨hb0, hr, hs⟩ := hh
     have HB := Lib.hid hb0
     have R0 := Lib.hid (fun w1 (hb : Below W.heap.size W w1) => cells12 (x := (⟨xk, xa, xc, .slice sa xset.length sc, xset, xneg, xn, xm, xmode, xname, xon, xoff, .slice ka k.len kc⟩ : Lab)) ((hb.block _ (Array.getElem?_eq_some_iff.1 hr).1).trans hr))
     have R1 := Lib.hid (fun w1 (hb : Below W.heap.size W w1) => cells12 (x := (⟨yk, ya, yc, .slice ta yset.length tc, yset, yneg, yn, ym, ymode, yname, yon, yoff, .slice la k2.len lc⟩ : Lab)) ((hb.block _ (Array.getElem?_eq_some_iff.1 hs).1).trans hs))
     clear hg hb0 hr hs HH
     obtain ⟨B1, hB1⟩ : ∃ B1, w.heap.size + 1 = B1 := ⟨_, rfl⟩
     obtain ⟨B0, hB0⟩ : ∃ B0, w.heap.size = B0 := ⟨_, rfl⟩
     rw [hB1] at R1 ⊢
     rw [hB0] at R0 ⊢
     have f0 : W.cell? ⟨B0, 0, none⟩ = some (.int .i64 xk) := R0.out W (Below.refl _ _) 0 _ rfl
     have f1 : W.cell? ⟨B0, 1, none⟩ = some (.int .i64 xa) := R0.out W (Below.refl _ _) 1 _ rfl
     have f2 : W.cell? ⟨B0, 2, none⟩ = some (.int .i64 xc) := R0.out W (Below.refl _ _) 2 _ rfl
     have f3 : W.cell? ⟨B0, 3, none⟩ = some (.slice sa xset.length sc) := R0.out W (Below.refl _ _) 3 _ rfl
     have f4 : W.cell? ⟨B0, 4, none⟩ = some (.bool xneg) := R0.out W (Below.refl _ _) 4 _ rfl
     have f5 : W.cell? ⟨B0, 5, none⟩ = some (.int .i64 xn) := R0.out W (Below.refl _ _) 5 _ rfl
     have f6 : W.cell? ⟨B0, 6, none⟩ = some (.int .i64 xm) := R0.out W (Below.refl _ _) 6 _ rfl
     have f7 : W.cell? ⟨B0, 7, none⟩ = some (.int .i64 xmode) := R0.out W (Below.refl _ _) 7 _ rfl
     have f8 : W.cell? ⟨B0, 8, none⟩ = some (.string xname) := R0.out W (Below.refl _ _) 8 _ rfl
     have f9 : W.cell? ⟨B0, 9, none⟩ = some (.int .i64 xon) := R0.out W (Below.refl _ _) 9 _ rfl
     have f10 : W.cell? ⟨B0, 10, none⟩ = some (.int .i64 xoff) := R0.out W (Below.refl _ _) 10 _ rfl
     have f11 : W.cell? ⟨B0, 11, none⟩ = some (.slice ka k.len kc) := R0.out W (Below.refl _ _) 11 _ rfl
     have g0 : W.cell? ⟨B1, 0, none⟩ = some (.int .i64 yk) := R1.out W (Below.refl _ _) 0 _ rfl
     have g1 : W.cell? ⟨B1, 1, none⟩ = some (.int .i64 ya) := R1.out W (Below.refl _ _) 1 _ rfl
     have g2 : W.cell? ⟨B1, 2, none⟩ = some (.int .i64 yc) := R1.out W (Below.refl _ _) 2 _ rfl
     have g3 : W.cell? ⟨B1, 3, none⟩ = some (.slice ta yset.length tc) := R1.out W (Below.refl _ _) 3 _ rfl
     have g4 : W.cell? ⟨B1, 4, none⟩ = some (.bool yneg) := R1.out W (Below.refl _ _) 4 _ rfl
     have g5 : W.cell? ⟨B1, 5, none⟩ = some (.int .i64 yn) := R1.out W (Below.refl _ _) 5 _ rfl
     have g6 : W.cell? ⟨B1, 6, none⟩ = some (.int .i64 ym) := R1.out W (Below.refl _ _) 6 _ rfl
     have g7 : W.cell? ⟨B1, 7, none⟩ = some (.int .i64 ymode) := R1.out W (Below.refl _ _) 7 _ rfl
     have g8 : W.cell? ⟨B1, 8, none⟩ = some (.string yname) := R1.out W (Below.refl _ _) 8 _ rfl
     have g9 : W.cell? ⟨B1, 9, none⟩ = some (.int .i64 yon) := R1.out W (Below.refl _ _) 9 _ rfl
     have g10 : W.cell? ⟨B1, 10, none⟩ = some (.int .i64 yoff) := R1.out W (Below.refl _ _) 10 _ rfl
     have g11 : W.cell? ⟨B1, 11, none⟩ = some (.slice la k2.len lc) := R1.out W (Below.refl _ _) 11 _ rfl
     have h_kind := Q_kind.out
     have h_c := Q_c.out
     have h_neg := Q_neg.out
     have h_n := Q_n.out
     clear Q_kind Q_c Q_neg Q_n
     have e_n : (xn == yn) = false := by simpa using h_n
     go_wp2_with fail
     go_ret
     exact ⟨rfl, HB.out⟩
   by_cases h_m : xm = ym
   rotate_left
   · have HR := Lib.hid (show sameT ((⟨xk, xa, xc, .slice sa xset.length sc, xset, xneg, xn, xm, xmode, xname, xon, xoff, .slice ka k.len kc⟩ : Lab), k) ((⟨yk, ya, yc, .slice ta yset.length tc, yset, yneg, yn, ym, ymode, yname, yon, yoff, .slice la k2.len lc⟩ : Lab), k2) = false by simp [sameT, labEq, h_m])
     rw [HR.out]
     clear HS HT HK HM IH
     have Q_kind := Lib.hid h_kind
     have Q_c := Lib.hid h_c
     have Q_neg := Lib.hid h_neg
     have Q_n := Lib.hid h_n
     have Q_m := Lib.hid h_m
     clear h_kind h_c h_neg h_n h_m
     unfold ndV
     go_enter Try.func16, Try.ntmps16
     go_upto_region 1 with (fail)
     generalize hg : (w.alloc _).alloc _ = W
     have hh := HH.out
     rw [hg] at hh
     obtain ⟨hb0, hr, hs⟩ := hh
     have HB := Lib.hid hb0
     have R0 := Lib.hid (fun w1 (hb : Below W.heap.size W w1) => cells12 (x := (⟨xk, xa, xc, .slice sa xset.length sc, xset, xneg, xn, xm, xmode, xname, xon, xoff, .slice ka k.len kc⟩ : Lab)) ((hb.block _ (Array.getElem?_eq_some_iff.1 hr).1).trans hr))
     have R1 := Lib.hid (fun w1 (hb : Below W.heap.size W w1) => cells12 (x := (⟨yk, ya, yc, .slice ta yset.length tc, yset, yneg, yn, ym, ymode, yname, yon, yoff, .slice la k2.len lc⟩ : Lab)) ((hb.block _ (Array.getElem?_eq_some_iff.1 hs).1).trans hs))
     clear hg hb0 hr hs HH
     obtain ⟨B1, hB1⟩ : ∃ B1, w.heap.size + 1 = B1 := ⟨_, rfl⟩
     obtain ⟨B0, hB0⟩ : ∃ B0, w.heap.size = B0 := ⟨_, rfl⟩
     rw [hB1] at R1 ⊢
     rw [hB0] at R0 ⊢
     have f0 : W.cell? ⟨B0, 0, none⟩ = some (.int .i64 xk) := R0.out W (Below.refl _ _) 0 _ rfl
     have f1 : W.cell? ⟨B0, 1, none⟩ = some (.int .i64 xa) := R0.out W (Below.refl _ _) 1 _ rfl
     have f2 : W.cell? ⟨B0, 2, none⟩ = some (.int .i64 xc) := R0.out W (Below.refl _ _) 2 _ rfl
     have f3 : W.cell? ⟨B0, 3, none⟩ = some (.slice sa xset.length sc) := R0.out W (Below.refl _ _) 3 _ rfl
     have f4 : W.cell? ⟨B0, 4, none⟩ = some (.bool xneg) := R0.out W (Below.refl _ _) 4 _ rfl
     have f5 : W.cell? ⟨B0, 5, none⟩ = some (.int .i64 xn) := R0.out W (Below.refl _ _) 5 _ rfl
     have f6 : W.cell? ⟨B0, 6, none⟩ = some (.int .i64 xm) := R0.out W (Below.refl _ _) 6 _ rfl
     have f7 : W.cell? ⟨B0, 7, none⟩ = some (.int .i64 xmode) := R0.out W (Below.refl _ _) 7 _ rfl
     have f8 : W.cell? ⟨B0, 8, none⟩ = some (.string xname) := R0.out W (Below.refl _ _) 8 _ rfl
     have f9 : W.cell? ⟨B0, 9, none⟩ = some (.int .i64 xon) := R0.out W (Below.refl _ _) 9 _ rfl
     have f10 : W.cell? ⟨B0, 10, none⟩ = some (.int .i64 xoff) := R0.out W (Below.refl _ _) 10 _ rfl
     have f11 : W.cell? ⟨B0, 11, none⟩ = some (.slice ka k.len kc) := R0.out W (Below.refl _ _) 11 _ rfl
     have g0 : W.cell? ⟨B1, 0, none⟩ = some (.int .i64 yk) := R1.out W (Below.refl _ _) 0 _ rfl
     have g1 : W.cell? ⟨B1, 1, none⟩ = some (.int .i64 ya) := R1.out W (Below.refl _ _) 1 _ rfl
     have g2 : W.cell? ⟨B1, 2, none⟩ = some (.int .i64 yc) := R1.out W (Below.refl _ _) 2 _ rfl
     have g3 : W.cell? ⟨B1, 3, none⟩ = some (.slice ta yset.length tc) := R1.out W (Below.refl _ _) 3 _ rfl
     have g4 : W.cell? ⟨B1, 4, none⟩ = some (.bool yneg) := R1.out W (Below.refl _ _) 4 _ rfl
     have g5 : W.cell? ⟨B1, 5, none⟩ = some (.int .i64 yn) := R1.out W (Below.refl _ _) 5 _ rfl
     have g6 : W.cell? ⟨B1, 6, none⟩ = some (.int .i64 ym) := R1.out W (Below.refl _ _) 6 _ rfl
     have g7 : W.cell? ⟨B1, 7, none⟩ = some (.int .i64 ymode) := R1.out W (Below.refl _ _) 7 _ rfl
     have g8 : W.cell? ⟨B1, 8, none⟩ = some (.string yname) := R1.out W (Below.refl _ _) 8 _ rfl
     have g9 : W.cell? ⟨B1, 9, none⟩ = some (.int .i64 yon) := R1.out W (Below.refl _ _) 9 _ rfl
     have g10 : W.cell? ⟨B1, 10, none⟩ = some (.int .i64 yoff) := R1.out W (Below.refl _ _) 10 _ rfl
     have g11 : W.cell? ⟨B1, 11, none⟩ = some (.slice la k2.len lc) := R1.out W (Below.refl _ _) 11 _ rfl
     have h_kind := Q_kind.out
     have h_c := Q_c.out
     have h_neg := Q_neg.out
     have h_n := Q_n.out
     have h_m := Q_m.out
     clear Q_kind Q_c Q_neg Q_n Q_m
     have e_m : (xm == ym) = false := by simpa using h_m
     go_wp2_with fail
     go_ret
     exact ⟨rfl, HB.out⟩
   by_cases h_mode : xmode = ymode
   rotate_left
   · have HR := Lib.hid (show sameT ((⟨xk, xa, xc, .slice sa xset.length sc, xset, xneg, xn, xm, xmode, xname, xon, xoff, .slice ka k.len kc⟩ : Lab), k) ((⟨yk, ya, yc, .slice ta yset.length tc, yset, yneg, yn, ym, ymode, yname, yon, yoff, .slice la k2.len lc⟩ : Lab), k2) = false by simp [sameT, labEq, h_mode])
     rw [HR.out]
     clear HS HT HK HM IH
     have Q_kind := Lib.hid h_kind
     have Q_c := Lib.hid h_c
     have Q_neg := Lib.hid h_neg
     have Q_n := Lib.hid h_n
     have Q_m := Lib.hid h_m
     have Q_mode := Lib.hid h_mode
     clear h_kind h_c h_neg h_n h_m h_mode
     unfold ndV
     go_enter Try.func16, Try.ntmps16
     go_upto_region 1 with (fail)
     generalize hg : (w.alloc _).alloc _ = W
     have hh := HH.out
     rw [hg] at hh
     obtain ⟨hb0, hr, hs⟩ := hh
     have HB := Lib.hid hb0
     have R0 := Lib.hid (fun w1 (hb : Below W.heap.size W w1) => cells12 (x := (⟨xk, xa, xc, .slice sa xset.length sc, xset, xneg, xn, xm, xmode, xname, xon, xoff, .slice ka k.len kc⟩ : Lab)) ((hb.block _ (Array.getElem?_eq_some_iff.1 hr).1).trans hr))
     have R1 := Lib.hid (fun w1 (hb : Below W.heap.size W w1) => cells12 (x := (⟨yk, ya, yc, .slice ta yset.length tc, yset, yneg, yn, ym, ymode, yname, yon, yoff, .slice la k2.len lc⟩ : Lab)) ((hb.block _ (Array.getElem?_eq_some_iff.1 hs).1).trans hs))
     clear hg hb0 hr hs HH
     obtain ⟨B1, hB1⟩ : ∃ B1, w.heap.size + 1 = B1 := ⟨_, rfl⟩
     obtain ⟨B0, hB0⟩ : ∃ B0, w.heap.size = B0 := ⟨_, rfl⟩
     rw [hB1] at R1 ⊢
     rw [hB0] at R0 ⊢
     have f0 : W.cell? ⟨B0, 0, none⟩ = some (.int .i64 xk) := R0.out W (Below.refl _ _) 0 _ rfl
     have f1 : W.cell? ⟨B0, 1, none⟩ = some (.int .i64 xa) := R0.out W (Below.refl _ _) 1 _ rfl
     have f2 : W.cell? ⟨B0, 2, none⟩ = some (.int .i64 xc) := R0.out W (Below.refl _ _) 2 _ rfl
     have f3 : W.cell? ⟨B0, 3, none⟩ = some (.slice sa xset.length sc) := R0.out W (Below.refl _ _) 3 _ rfl
     have f4 : W.cell? ⟨B0, 4, none⟩ = some (.bool xneg) := R0.out W (Below.refl _ _) 4 _ rfl
     have f5 : W.cell? ⟨B0, 5, none⟩ = some (.int .i64 xn) := R0.out W (Below.refl _ _) 5 _ rfl
     have f6 : W.cell? ⟨B0, 6, none⟩ = some (.int .i64 xm) := R0.out W (Below.refl _ _) 6 _ rfl
     have f7 : W.cell? ⟨B0, 7, none⟩ = some (.int .i64 xmode) := R0.out W (Below.refl _ _) 7 _ rfl
     have f8 : W.cell? ⟨B0, 8, none⟩ = some (.string xname) := R0.out W (Below.refl _ _) 8 _ rfl
     have f9 : W.cell? ⟨B0, 9, none⟩ = some (.int .i64 xon) := R0.out W (Below.refl _ _) 9 _ rfl
     have f10 : W.cell? ⟨B0, 10, none⟩ = some (.int .i64 xoff) := R0.out W (Below.refl _ _) 10 _ rfl
     have f11 : W.cell? ⟨B0, 11, none⟩ = some (.slice ka k.len kc) := R0.out W (Below.refl _ _) 11 _ rfl
     have g0 : W.cell? ⟨B1, 0, none⟩ = some (.int .i64 yk) := R1.out W (Below.refl _ _) 0 _ rfl
     have g1 : W.cell? ⟨B1, 1, none⟩ = some (.int .i64 ya) := R1.out W (Below.refl _ _) 1 _ rfl
     have g2 : W.cell? ⟨B1, 2, none⟩ = some (.int .i64 yc) := R1.out W (Below.refl _ _) 2 _ rfl
     have g3 : W.cell? ⟨B1, 3, none⟩ = some (.slice ta yset.length tc) := R1.out W (Below.refl _ _) 3 _ rfl
     have g4 : W.cell? ⟨B1, 4, none⟩ = some (.bool yneg) := R1.out W (Below.refl _ _) 4 _ rfl
     have g5 : W.cell? ⟨B1, 5, none⟩ = some (.int .i64 yn) := R1.out W (Below.refl _ _) 5 _ rfl
     have g6 : W.cell? ⟨B1, 6, none⟩ = some (.int .i64 ym) := R1.out W (Below.refl _ _) 6 _ rfl
     have g7 : W.cell? ⟨B1, 7, none⟩ = some (.int .i64 ymode) := R1.out W (Below.refl _ _) 7 _ rfl
     have g8 : W.cell? ⟨B1, 8, none⟩ = some (.string yname) := R1.out W (Below.refl _ _) 8 _ rfl
     have g9 : W.cell? ⟨B1, 9, none⟩ = some (.int .i64 yon) := R1.out W (Below.refl _ _) 9 _ rfl
     have g10 : W.cell? ⟨B1, 10, none⟩ = some (.int .i64 yoff) := R1.out W (Below.refl _ _) 10 _ rfl
     have g11 : W.cell? ⟨B1, 11, none⟩ = some (.slice la k2.len lc) := R1.out W (Below.refl _ _) 11 _ rfl
     have h_kind := Q_kind.out
     have h_c := Q_c.out
     have h_neg := Q_neg.out
     have h_n := Q_n.out
     have h_m := Q_m.out
     have h_mode := Q_mode.out
     clear Q_kind Q_c Q_neg Q_n Q_m Q_mode
     have e_mode : (xmode == ymode) = false := by simpa using h_mode
     go_wp2_with fail
     go_ret
     exact ⟨rfl, HB.out⟩
   by_cases h_name : xname = yname
   rotate_left
   · have HR := Lib.hid (show sameT ((⟨xk, xa, xc, .slice sa xset.length sc, xset, xneg, xn, xm, xmode, xname, xon, xoff, .slice ka k.len kc⟩ : Lab), k) ((⟨yk, ya, yc, .slice ta yset.length tc, yset, yneg, yn, ym, ymode, yname, yon, yoff, .slice la k2.len lc⟩ : Lab), k2) = false by simp [sameT, labEq, h_name])
     rw [HR.out]
     clear HS HT HK HM IH
     have Q_kind := Lib.hid h_kind
     have Q_c := Lib.hid h_c
     have Q_neg := Lib.hid h_neg
     have Q_n := Lib.hid h_n
     have Q_m := Lib.hid h_m
     have Q_mode := Lib.hid h_mode
     have Q_name := Lib.hid h_name
     clear h_kind h_c h_neg h_n h_m h_mode h_name
     unfold ndV
     go_enter Try.func16, Try.ntmps16
     go_upto_region 1 with (fail)
     generalize hg : (w.alloc _).alloc _ = W
     have hh := HH.out
     rw [hg] at hh
     obtain ⟨hb0, hr, hs⟩ := hh
     have HB := Lib.hid hb0
     have R0 := Lib.hid (fun w1 (hb : Below W.heap.size W w1) => cells12 (x := (⟨xk, xa, xc, .slice sa xset.length sc, xset, xneg, xn, xm, xmode, xname, xon, xoff, .slice ka k.len kc⟩ : Lab)) ((hb.block _ (Array.getElem?_eq_some_iff.1 hr).1).trans hr))
     have R1 := Lib.hid (fun w1 (hb : Below W.heap.size W w1) => cells12 (x := (⟨yk, ya, yc, .slice ta yset.length tc, yset, yneg, yn, ym, ymode, yname, yon, yoff, .slice la k2.len lc⟩ : Lab)) ((hb.block _ (Array.getElem?_eq_some_iff.1 hs).1).trans hs))
     clear hg hb0 hr hs HH
     obtain ⟨B1, hB1⟩ : ∃ B1, w.heap.size + 1 = B1 := ⟨_, rfl⟩
     obtain ⟨B0, hB0⟩ : ∃ B0, w.heap.size = B0 := ⟨_, rfl⟩
     rw [hB1] at R1 ⊢
     rw [hB0] at R0 ⊢
     have f0 : W.cell? ⟨B0, 0, none⟩ = some (.int .i64 xk) := R0.out W (Below.refl _ _) 0 _ rfl
     have f1 : W.cell? ⟨B0, 1, none⟩ = some (.int .i64 xa) := R0.out W (Below.refl _ _) 1 _ rfl
     have f2 : W.cell? ⟨B0, 2, none⟩ = some (.int .i64 xc) := R0.out W (Below.refl _ _) 2 _ rfl
     have f3 : W.cell? ⟨B0, 3, none⟩ = some (.slice sa xset.length sc) := R0.out W (Below.refl _ _) 3 _ rfl
     have f4 : W.cell? ⟨B0, 4, none⟩ = some (.bool xneg) := R0.out W (Below.refl _ _) 4 _ rfl
     have f5 : W.cell? ⟨B0, 5, none⟩ = some (.int .i64 xn) := R0.out W (Below.refl _ _) 5 _ rfl
     have f6 : W.cell? ⟨B0, 6, none⟩ = some (.int .i64 xm) := R0.out W (Below.refl _ _) 6 _ rfl
     have f7 : W.cell? ⟨B0, 7, none⟩ = some (.int .i64 xmode) := R0.out W (Below.refl _ _) 7 _ rfl
     have f8 : W.cell? ⟨B0, 8, none⟩ = some (.string xname) := R0.out W (Below.refl _ _) 8 _ rfl
     have f9 : W.cell? ⟨B0, 9, none⟩ = some (.int .i64 xon) := R0.out W (Below.refl _ _) 9 _ rfl
     have f10 : W.cell? ⟨B0, 10, none⟩ = some (.int .i64 xoff) := R0.out W (Below.refl _ _) 10 _ rfl
     have f11 : W.cell? ⟨B0, 11, none⟩ = some (.slice ka k.len kc) := R0.out W (Below.refl _ _) 11 _ rfl
     have g0 : W.cell? ⟨B1, 0, none⟩ = some (.int .i64 yk) := R1.out W (Below.refl _ _) 0 _ rfl
     have g1 : W.cell? ⟨B1, 1, none⟩ = some (.int .i64 ya) := R1.out W (Below.refl _ _) 1 _ rfl
     have g2 : W.cell? ⟨B1, 2, none⟩ = some (.int .i64 yc) := R1.out W (Below.refl _ _) 2 _ rfl
     have g3 : W.cell? ⟨B1, 3, none⟩ = some (.slice ta yset.length tc) := R1.out W (Below.refl _ _) 3 _ rfl
     have g4 : W.cell? ⟨B1, 4, none⟩ = some (.bool yneg) := R1.out W (Below.refl _ _) 4 _ rfl
     have g5 : W.cell? ⟨B1, 5, none⟩ = some (.int .i64 yn) := R1.out W (Below.refl _ _) 5 _ rfl
     have g6 : W.cell? ⟨B1, 6, none⟩ = some (.int .i64 ym) := R1.out W (Below.refl _ _) 6 _ rfl
     have g7 : W.cell? ⟨B1, 7, none⟩ = some (.int .i64 ymode) := R1.out W (Below.refl _ _) 7 _ rfl
     have g8 : W.cell? ⟨B1, 8, none⟩ = some (.string yname) := R1.out W (Below.refl _ _) 8 _ rfl
     have g9 : W.cell? ⟨B1, 9, none⟩ = some (.int .i64 yon) := R1.out W (Below.refl _ _) 9 _ rfl
     have g10 : W.cell? ⟨B1, 10, none⟩ = some (.int .i64 yoff) := R1.out W (Below.refl _ _) 10 _ rfl
     have g11 : W.cell? ⟨B1, 11, none⟩ = some (.slice la k2.len lc) := R1.out W (Below.refl _ _) 11 _ rfl
     have h_kind := Q_kind.out
     have h_c := Q_c.out
     have h_neg := Q_neg.out
     have h_n := Q_n.out
     have h_m := Q_m.out
     have h_mode := Q_mode.out
     have h_name := Q_name.out
     clear Q_kind Q_c Q_neg Q_n Q_m Q_mode Q_name
     have i_name : ¬ xname.toList = yname.toList := fun e => h_name (bytes_list e)
     have e_name3 : (xname.toList == yname.toList) = false := by simpa using fun e => h_name (bytes_list e)
     go_wp2_with fail
     go_ret
     exact ⟨rfl, HB.out⟩
   by_cases h_on : xon = yon
   rotate_left
   · have HR := Lib.hid (show sameT ((⟨xk, xa, xc, .slice sa xset.length sc, xset, xneg, xn, xm, xmode, xname, xon, xoff, .slice ka k.len kc⟩ : Lab), k) ((⟨yk, ya, yc, .slice ta yset.length tc, yset, yneg, yn, ym, ymode, yname, yon, yoff, .slice la k2.len lc⟩ : Lab), k2) = false by simp [sameT, labEq, h_on])
     rw [HR.out]
     clear HS HT HK HM IH
     have Q_kind := Lib.hid h_kind
     have Q_c := Lib.hid h_c
     have Q_neg := Lib.hid h_neg
     have Q_n := Lib.hid h_n
     have Q_m := Lib.hid h_m
     have Q_mode := Lib.hid h_mode
     have Q_name := Lib.hid h_name
     have Q_on := Lib.hid h_on
     clear h_kind h_c h_neg h_n h_m h_mode h_name h_on
     unfold ndV
     go_enter Try.func16, Try.ntmps16
     go_upto_region 1 with (fail)
     generalize hg : (w.alloc _).alloc _ = W
     have hh := HH.out
     rw [hg] at hh
     obtain ⟨hb0, hr, hs⟩ := hh
     have HB := Lib.hid hb0
     have R0 := Lib.hid (fun w1 (hb : Below W.heap.size W w1) => cells12 (x := (⟨xk, xa, xc, .slice sa xset.length sc, xset, xneg, xn, xm, xmode, xname, xon, xoff, .slice ka k.len kc⟩ : Lab)) ((hb.block _ (Array.getElem?_eq_some_iff.1 hr).1).trans hr))
     have R1 := Lib.hid (fun w1 (hb : Below W.heap.size W w1) => cells12 (x := (⟨yk, ya, yc, .slice ta yset.length tc, yset, yneg, yn, ym, ymode, yname, yon, yoff, .slice la k2.len lc⟩ : Lab)) ((hb.block _ (Array.getElem?_eq_some_iff.1 hs).1).trans hs))
     clear hg hb0 hr hs HH
     obtain ⟨B1, hB1⟩ : ∃ B1, w.heap.size + 1 = B1 := ⟨_, rfl⟩
     obtain ⟨B0, hB0⟩ : ∃ B0, w.heap.size = B0 := ⟨_, rfl⟩
     rw [hB1] at R1 ⊢
     rw [hB0] at R0 ⊢
     have f0 : W.cell? ⟨B0, 0, none⟩ = some (.int .i64 xk) := R0.out W (Below.refl _ _) 0 _ rfl
     have f1 : W.cell? ⟨B0, 1, none⟩ = some (.int .i64 xa) := R0.out W (Below.refl _ _) 1 _ rfl
     have f2 : W.cell? ⟨B0, 2, none⟩ = some (.int .i64 xc) := R0.out W (Below.refl _ _) 2 _ rfl
     have f3 : W.cell? ⟨B0, 3, none⟩ = some (.slice sa xset.length sc) := R0.out W (Below.refl _ _) 3 _ rfl
     have f4 : W.cell? ⟨B0, 4, none⟩ = some (.bool xneg) := R0.out W (Below.refl _ _) 4 _ rfl
     have f5 : W.cell? ⟨B0, 5, none⟩ = some (.int .i64 xn) := R0.out W (Below.refl _ _) 5 _ rfl
     have f6 : W.cell? ⟨B0, 6, none⟩ = some (.int .i64 xm) := R0.out W (Below.refl _ _) 6 _ rfl
     have f7 : W.cell? ⟨B0, 7, none⟩ = some (.int .i64 xmode) := R0.out W (Below.refl _ _) 7 _ rfl
     have f8 : W.cell? ⟨B0, 8, none⟩ = some (.string xname) := R0.out W (Below.refl _ _) 8 _ rfl
     have f9 : W.cell? ⟨B0, 9, none⟩ = some (.int .i64 xon) := R0.out W (Below.refl _ _) 9 _ rfl
     have f10 : W.cell? ⟨B0, 10, none⟩ = some (.int .i64 xoff) := R0.out W (Below.refl _ _) 10 _ rfl
     have f11 : W.cell? ⟨B0, 11, none⟩ = some (.slice ka k.len kc) := R0.out W (Below.refl _ _) 11 _ rfl
     have g0 : W.cell? ⟨B1, 0, none⟩ = some (.int .i64 yk) := R1.out W (Below.refl _ _) 0 _ rfl
     have g1 : W.cell? ⟨B1, 1, none⟩ = some (.int .i64 ya) := R1.out W (Below.refl _ _) 1 _ rfl
     have g2 : W.cell? ⟨B1, 2, none⟩ = some (.int .i64 yc) := R1.out W (Below.refl _ _) 2 _ rfl
     have g3 : W.cell? ⟨B1, 3, none⟩ = some (.slice ta yset.length tc) := R1.out W (Below.refl _ _) 3 _ rfl
     have g4 : W.cell? ⟨B1, 4, none⟩ = some (.bool yneg) := R1.out W (Below.refl _ _) 4 _ rfl
     have g5 : W.cell? ⟨B1, 5, none⟩ = some (.int .i64 yn) := R1.out W (Below.refl _ _) 5 _ rfl
     have g6 : W.cell? ⟨B1, 6, none⟩ = some (.int .i64 ym) := R1.out W (Below.refl _ _) 6 _ rfl
     have g7 : W.cell? ⟨B1, 7, none⟩ = some (.int .i64 ymode) := R1.out W (Below.refl _ _) 7 _ rfl
     have g8 : W.cell? ⟨B1, 8, none⟩ = some (.string yname) := R1.out W (Below.refl _ _) 8 _ rfl
     have g9 : W.cell? ⟨B1, 9, none⟩ = some (.int .i64 yon) := R1.out W (Below.refl _ _) 9 _ rfl
     have g10 : W.cell? ⟨B1, 10, none⟩ = some (.int .i64 yoff) := R1.out W (Below.refl _ _) 10 _ rfl
     have g11 : W.cell? ⟨B1, 11, none⟩ = some (.slice la k2.len lc) := R1.out W (Below.refl _ _) 11 _ rfl
     have h_kind := Q_kind.out
     have h_c := Q_c.out
     have h_neg := Q_neg.out
     have h_n := Q_n.out
     have h_m := Q_m.out
     have h_mode := Q_mode.out
     have h_name := Q_name.out
     have h_on := Q_on.out
     clear Q_kind Q_c Q_neg Q_n Q_m Q_mode Q_name Q_on
     have e_on : (xon == yon) = false := by simpa using h_on
     go_wp2_with fail
     go_ret
     exact ⟨rfl, HB.out⟩
   by_cases h_off : xoff = yoff
   rotate_left
   · have HR := Lib.hid (show sameT ((⟨xk, xa, xc, .slice sa xset.length sc, xset, xneg, xn, xm, xmode, xname, xon, xoff, .slice ka k.len kc⟩ : Lab), k) ((⟨yk, ya, yc, .slice ta yset.length tc, yset, yneg, yn, ym, ymode, yname, yon, yoff, .slice la k2.len lc⟩ : Lab), k2) = false by simp [sameT, labEq, h_off])
     rw [HR.out]
     clear HS HT HK HM IH
     have Q_kind := Lib.hid h_kind
     have Q_c := Lib.hid h_c
     have Q_neg := Lib.hid h_neg
     have Q_n := Lib.hid h_n
     have Q_m := Lib.hid h_m
     have Q_mode := Lib.hid h_mode
     have Q_name := Lib.hid h_name
     have Q_on := Lib.hid h_on
     have Q_off := Lib.hid h_off
     clear h_kind h_c h_neg h_n h_m h_mode h_name h_on h_off
     unfold ndV
     go_enter Try.func16, Try.ntmps16
     go_upto_region 1 with (fail)
     generalize hg : (w.alloc _).alloc _ = W
     have hh := HH.out
     rw [hg] at hh
     obtain ⟨hb0, hr, hs⟩ := hh
     have HB := Lib.hid hb0
     have R0 := Lib.hid (fun w1 (hb : Below W.heap.size W w1) => cells12 (x := (⟨xk, xa, xc, .slice sa xset.length sc, xset, xneg, xn, xm, xmode, xname, xon, xoff, .slice ka k.len kc⟩ : Lab)) ((hb.block _ (Array.getElem?_eq_some_iff.1 hr).1).trans hr))
     have R1 := Lib.hid (fun w1 (hb : Below W.heap.size W w1) => cells12 (x := (⟨yk, ya, yc, .slice ta yset.length tc, yset, yneg, yn, ym, ymode, yname, yon, yoff, .slice la k2.len lc⟩ : Lab)) ((hb.block _ (Array.getElem?_eq_some_iff.1 hs).1).trans hs))
     clear hg hb0 hr hs HH
     obtain ⟨B1, hB1⟩ : ∃ B1, w.heap.size + 1 = B1 := ⟨_, rfl⟩
     obtain ⟨B0, hB0⟩ : ∃ B0, w.heap.size = B0 := ⟨_, rfl⟩
     rw [hB1] at R1 ⊢
     rw [hB0] at R0 ⊢
     have f0 : W.cell? ⟨B0, 0, none⟩ = some (.int .i64 xk) := R0.out W (Below.refl _ _) 0 _ rfl
     have f1 : W.cell? ⟨B0, 1, none⟩ = some (.int .i64 xa) := R0.out W (Below.refl _ _) 1 _ rfl
     have f2 : W.cell? ⟨B0, 2, none⟩ = some (.int .i64 xc) := R0.out W (Below.refl _ _) 2 _ rfl
     have f3 : W.cell? ⟨B0, 3, none⟩ = some (.slice sa xset.length sc) := R0.out W (Below.refl _ _) 3 _ rfl
     have f4 : W.cell? ⟨B0, 4, none⟩ = some (.bool xneg) := R0.out W (Below.refl _ _) 4 _ rfl
     have f5 : W.cell? ⟨B0, 5, none⟩ = some (.int .i64 xn) := R0.out W (Below.refl _ _) 5 _ rfl
     have f6 : W.cell? ⟨B0, 6, none⟩ = some (.int .i64 xm) := R0.out W (Below.refl _ _) 6 _ rfl
     have f7 : W.cell? ⟨B0, 7, none⟩ = some (.int .i64 xmode) := R0.out W (Below.refl _ _) 7 _ rfl
     have f8 : W.cell? ⟨B0, 8, none⟩ = some (.string xname) := R0.out W (Below.refl _ _) 8 _ rfl
     have f9 : W.cell? ⟨B0, 9, none⟩ = some (.int .i64 xon) := R0.out W (Below.refl _ _) 9 _ rfl
     have f10 : W.cell? ⟨B0, 10, none⟩ = some (.int .i64 xoff) := R0.out W (Below.refl _ _) 10 _ rfl
     have f11 : W.cell? ⟨B0, 11, none⟩ = some (.slice ka k.len kc) := R0.out W (Below.refl _ _) 11 _ rfl
     have g0 : W.cell? ⟨B1, 0, none⟩ = some (.int .i64 yk) := R1.out W (Below.refl _ _) 0 _ rfl
     have g1 : W.cell? ⟨B1, 1, none⟩ = some (.int .i64 ya) := R1.out W (Below.refl _ _) 1 _ rfl
     have g2 : W.cell? ⟨B1, 2, none⟩ = some (.int .i64 yc) := R1.out W (Below.refl _ _) 2 _ rfl
     have g3 : W.cell? ⟨B1, 3, none⟩ = some (.slice ta yset.length tc) := R1.out W (Below.refl _ _) 3 _ rfl
     have g4 : W.cell? ⟨B1, 4, none⟩ = some (.bool yneg) := R1.out W (Below.refl _ _) 4 _ rfl
     have g5 : W.cell? ⟨B1, 5, none⟩ = some (.int .i64 yn) := R1.out W (Below.refl _ _) 5 _ rfl
     have g6 : W.cell? ⟨B1, 6, none⟩ = some (.int .i64 ym) := R1.out W (Below.refl _ _) 6 _ rfl
     have g7 : W.cell? ⟨B1, 7, none⟩ = some (.int .i64 ymode) := R1.out W (Below.refl _ _) 7 _ rfl
     have g8 : W.cell? ⟨B1, 8, none⟩ = some (.string yname) := R1.out W (Below.refl _ _) 8 _ rfl
     have g9 : W.cell? ⟨B1, 9, none⟩ = some (.int .i64 yon) := R1.out W (Below.refl _ _) 9 _ rfl
     have g10 : W.cell? ⟨B1, 10, none⟩ = some (.int .i64 yoff) := R1.out W (Below.refl _ _) 10 _ rfl
     have g11 : W.cell? ⟨B1, 11, none⟩ = some (.slice la k2.len lc) := R1.out W (Below.refl _ _) 11 _ rfl
     have h_kind := Q_kind.out
     have h_c := Q_c.out
     have h_neg := Q_neg.out
     have h_n := Q_n.out
     have h_m := Q_m.out
     have h_mode := Q_mode.out
     have h_name := Q_name.out
     have h_on := Q_on.out
     have h_off := Q_off.out
     clear Q_kind Q_c Q_neg Q_n Q_m Q_mode Q_name Q_on Q_off
     have e_off : (xoff == yoff) = false := by simpa using h_off
     go_wp2_with fail
     go_ret
     exact ⟨rfl, HB.out⟩
   by_cases h_lset : xset.length = yset.length
   rotate_left
   · have HR := Lib.hid (show sameT ((⟨xk, xa, xc, .slice sa xset.length sc, xset, xneg, xn, xm, xmode, xname, xon, xoff, .slice ka k.len kc⟩ : Lab), k) ((⟨yk, ya, yc, .slice ta yset.length tc, yset, yneg, yn, ym, ymode, yname, yon, yoff, .slice la k2.len lc⟩ : Lab), k2) = false by simp only [sameT, labEq]; rw [show decide (xset = yset) = false from decide_eq_false (fun e => h_lset (by rw [e]))]; simp)
     rw [HR.out]
     clear HS HT HK HM IH
     have Q_kind := Lib.hid h_kind
     have Q_c := Lib.hid h_c
     have Q_neg := Lib.hid h_neg
     have Q_n := Lib.hid h_n
     have Q_m := Lib.hid h_m
     have Q_mode := Lib.hid h_mode
     have Q_name := Lib.hid h_name
     have Q_on := Lib.hid h_on
     have Q_off := Lib.hid h_off
     have Q_lset := Lib.hid h_lset
     clear h_kind h_c h_neg h_n h_m h_mode h_name h_on h_off h_lset
     unfold ndV
     go_enter Try.func16, Try.ntmps16
     go_upto_region 1 with (fail)
     generalize hg : (w.alloc _).alloc _ = W
     have hh := HH.out
     rw [hg] at hh
     obtain ⟨hb0, hr, hs⟩ := hh
     have HB := Lib.hid hb0
     have R0 := Lib.hid (fun w1 (hb : Below W.heap.size W w1) => cells12 (x := (⟨xk, xa, xc, .slice sa xset.length sc, xset, xneg, xn, xm, xmode, xname, xon, xoff, .slice ka k.len kc⟩ : Lab)) ((hb.block _ (Array.getElem?_eq_some_iff.1 hr).1).trans hr))
     have R1 := Lib.hid (fun w1 (hb : Below W.heap.size W w1) => cells12 (x := (⟨yk, ya, yc, .slice ta yset.length tc, yset, yneg, yn, ym, ymode, yname, yon, yoff, .slice la k2.len lc⟩ : Lab)) ((hb.block _ (Array.getElem?_eq_some_iff.1 hs).1).trans hs))
     clear hg hb0 hr hs HH
     obtain ⟨B1, hB1⟩ : ∃ B1, w.heap.size + 1 = B1 := ⟨_, rfl⟩
     obtain ⟨B0, hB0⟩ : ∃ B0, w.heap.size = B0 := ⟨_, rfl⟩
     rw [hB1] at R1 ⊢
     rw [hB0] at R0 ⊢
     have f0 : W.cell? ⟨B0, 0, none⟩ = some (.int .i64 xk) := R0.out W (Below.refl _ _) 0 _ rfl
     have f1 : W.cell? ⟨B0, 1, none⟩ = some (.int .i64 xa) := R0.out W (Below.refl _ _) 1 _ rfl
     have f2 : W.cell? ⟨B0, 2, none⟩ = some (.int .i64 xc) := R0.out W (Below.refl _ _) 2 _ rfl
     have f3 : W.cell? ⟨B0, 3, none⟩ = some (.slice sa xset.length sc) := R0.out W (Below.refl _ _) 3 _ rfl
     have f4 : W.cell? ⟨B0, 4, none⟩ = some (.bool xneg) := R0.out W (Below.refl _ _) 4 _ rfl
     have f5 : W.cell? ⟨B0, 5, none⟩ = some (.int .i64 xn) := R0.out W (Below.refl _ _) 5 _ rfl
     have f6 : W.cell? ⟨B0, 6, none⟩ = some (.int .i64 xm) := R0.out W (Below.refl _ _) 6 _ rfl
     have f7 : W.cell? ⟨B0, 7, none⟩ = some (.int .i64 xmode) := R0.out W (Below.refl _ _) 7 _ rfl
     have f8 : W.cell? ⟨B0, 8, none⟩ = some (.string xname) := R0.out W (Below.refl _ _) 8 _ rfl
     have f9 : W.cell? ⟨B0, 9, none⟩ = some (.int .i64 xon) := R0.out W (Below.refl _ _) 9 _ rfl
     have f10 : W.cell? ⟨B0, 10, none⟩ = some (.int .i64 xoff) := R0.out W (Below.refl _ _) 10 _ rfl
     have f11 : W.cell? ⟨B0, 11, none⟩ = some (.slice ka k.len kc) := R0.out W (Below.refl _ _) 11 _ rfl
     have g0 : W.cell? ⟨B1, 0, none⟩ = some (.int .i64 yk) := R1.out W (Below.refl _ _) 0 _ rfl
     have g1 : W.cell? ⟨B1, 1, none⟩ = some (.int .i64 ya) := R1.out W (Below.refl _ _) 1 _ rfl
     have g2 : W.cell? ⟨B1, 2, none⟩ = some (.int .i64 yc) := R1.out W (Below.refl _ _) 2 _ rfl
     have g3 : W.cell? ⟨B1, 3, none⟩ = some (.slice ta yset.length tc) := R1.out W (Below.refl _ _) 3 _ rfl
     have g4 : W.cell? ⟨B1, 4, none⟩ = some (.bool yneg) := R1.out W (Below.refl _ _) 4 _ rfl
     have g5 : W.cell? ⟨B1, 5, none⟩ = some (.int .i64 yn) := R1.out W (Below.refl _ _) 5 _ rfl
     have g6 : W.cell? ⟨B1, 6, none⟩ = some (.int .i64 ym) := R1.out W (Below.refl _ _) 6 _ rfl
     have g7 : W.cell? ⟨B1, 7, none⟩ = some (.int .i64 ymode) := R1.out W (Below.refl _ _) 7 _ rfl
     have g8 : W.cell? ⟨B1, 8, none⟩ = some (.string yname) := R1.out W (Below.refl _ _) 8 _ rfl
     have g9 : W.cell? ⟨B1, 9, none⟩ = some (.int .i64 yon) := R1.out W (Below.refl _ _) 9 _ rfl
     have g10 : W.cell? ⟨B1, 10, none⟩ = some (.int .i64 yoff) := R1.out W (Below.refl _ _) 10 _ rfl
     have g11 : W.cell? ⟨B1, 11, none⟩ = some (.slice la k2.len lc) := R1.out W (Below.refl _ _) 11 _ rfl
     have h_kind := Q_kind.out
     have h_c := Q_c.out
     have h_neg := Q_neg.out
     have h_n := Q_n.out
     have h_m := Q_m.out
     have h_mode := Q_mode.out
     have h_name := Q_name.out
     have h_on := Q_on.out
     have h_off := Q_off.out
     have h_lset := Q_lset.out
     clear Q_kind Q_c Q_neg Q_n Q_m Q_mode Q_name Q_on Q_off Q_lset
     have i_lset : ¬ (xset.length : Int) = (yset.length : Int) := by omega
     have e_lset : ((xset.length : Int) == (yset.length : Int)) = false := by simp; omega
     go_wp2_with fail
     go_ret
     exact ⟨rfl, HB.out⟩
   by_cases h_kids : k.len = k2.len
   rotate_left
   · have HR := Lib.hid (show sameT ((⟨xk, xa, xc, .slice sa xset.length sc, xset, xneg, xn, xm, xmode, xname, xon, xoff, .slice ka k.len kc⟩ : Lab), k) ((⟨yk, ya, yc, .slice ta yset.length tc, yset, yneg, yn, ym, ymode, yname, yon, yoff, .slice la k2.len lc⟩ : Lab), k2) = false by simp [sameT, labEq, h_kids])
     rw [HR.out]
     clear HS HT HK HM IH
     have Q_kind := Lib.hid h_kind
     have Q_c := Lib.hid h_c
     have Q_neg := Lib.hid h_neg
     have Q_n := Lib.hid h_n
     have Q_m := Lib.hid h_m
     have Q_mode := Lib.hid h_mode
     have Q_name := Lib.hid h_name
     have Q_on := Lib.hid h_on
     have Q_off := Lib.hid h_off
     have Q_lset := Lib.hid h_lset
     have Q_kids := Lib.hid h_kids
     clear h_kind h_c h_neg h_n h_m h_mode h_name h_on h_off h_lset h_kids
     unfold ndV
     go_enter Try.func16, Try.ntmps16
     go_upto_region 1 with (fail)
     generalize hg : (w.alloc _).alloc _ = W
     have hh := HH.out
     rw [hg] at hh
     obtain ⟨hb0, hr, hs⟩ := hh
     have HB := Lib.hid hb0
     have R0 := Lib.hid (fun w1 (hb : Below W.heap.size W w1) => cells12 (x := (⟨xk, xa, xc, .slice sa xset.length sc, xset, xneg, xn, xm, xmode, xname, xon, xoff, .slice ka k.len kc⟩ : Lab)) ((hb.block _ (Array.getElem?_eq_some_iff.1 hr).1).trans hr))
     have R1 := Lib.hid (fun w1 (hb : Below W.heap.size W w1) => cells12 (x := (⟨yk, ya, yc, .slice ta yset.length tc, yset, yneg, yn, ym, ymode, yname, yon, yoff, .slice la k2.len lc⟩ : Lab)) ((hb.block _ (Array.getElem?_eq_some_iff.1 hs).1).trans hs))
     clear hg hb0 hr hs HH
     obtain ⟨B1, hB1⟩ : ∃ B1, w.heap.size + 1 = B1 := ⟨_, rfl⟩
     obtain ⟨B0, hB0⟩ : ∃ B0, w.heap.size = B0 := ⟨_, rfl⟩
     rw [hB1] at R1 ⊢
     rw [hB0] at R0 ⊢
     have f0 : W.cell? ⟨B0, 0, none⟩ = some (.int .i64 xk) := R0.out W (Below.refl _ _) 0 _ rfl
     have f1 : W.cell? ⟨B0, 1, none⟩ = some (.int .i64 xa) := R0.out W (Below.refl _ _) 1 _ rfl
     have f2 : W.cell? ⟨B0, 2, none⟩ = some (.int .i64 xc) := R0.out W (Below.refl _ _) 2 _ rfl
     have f3 : W.cell? ⟨B0, 3, none⟩ = some (.slice sa xset.length sc) := R0.out W (Below.refl _ _) 3 _ rfl
     have f4 : W.cell? ⟨B0, 4, none⟩ = some (.bool xneg) := R0.out W (Below.refl _ _) 4 _ rfl
     have f5 : W.cell? ⟨B0, 5, none⟩ = some (.int .i64 xn) := R0.out W (Below.refl _ _) 5 _ rfl
     have f6 : W.cell? ⟨B0, 6, none⟩ = some (.int .i64 xm) := R0.out W (Below.refl _ _) 6 _ rfl
     have f7 : W.cell? ⟨B0, 7, none⟩ = some (.int .i64 xmode) := R0.out W (Below.refl _ _) 7 _ rfl
     have f8 : W.cell? ⟨B0, 8, none⟩ = some (.string xname) := R0.out W (Below.refl _ _) 8 _ rfl
     have f9 : W.cell? ⟨B0, 9, none⟩ = some (.int .i64 xon) := R0.out W (Below.refl _ _) 9 _ rfl
     have f10 : W.cell? ⟨B0, 10, none⟩ = some (.int .i64 xoff) := R0.out W (Below.refl _ _) 10 _ rfl
     have f11 : W.cell? ⟨B0, 11, none⟩ = some (.slice ka k.len kc) := R0.out W (Below.refl _ _) 11 _ rfl
     have g0 : W.cell? ⟨B1, 0, none⟩ = some (.int .i64 yk) := R1.out W (Below.refl _ _) 0 _ rfl
     have g1 : W.cell? ⟨B1, 1, none⟩ = some (.int .i64 ya) := R1.out W (Below.refl _ _) 1 _ rfl
     have g2 : W.cell? ⟨B1, 2, none⟩ = some (.int .i64 yc) := R1.out W (Below.refl _ _) 2 _ rfl
     have g3 : W.cell? ⟨B1, 3, none⟩ = some (.slice ta yset.length tc) := R1.out W (Below.refl _ _) 3 _ rfl
     have g4 : W.cell? ⟨B1, 4, none⟩ = some (.bool yneg) := R1.out W (Below.refl _ _) 4 _ rfl
     have g5 : W.cell? ⟨B1, 5, none⟩ = some (.int .i64 yn) := R1.out W (Below.refl _ _) 5 _ rfl
     have g6 : W.cell? ⟨B1, 6, none⟩ = some (.int .i64 ym) := R1.out W (Below.refl _ _) 6 _ rfl
     have g7 : W.cell? ⟨B1, 7, none⟩ = some (.int .i64 ymode) := R1.out W (Below.refl _ _) 7 _ rfl
     have g8 : W.cell? ⟨B1, 8, none⟩ = some (.string yname) := R1.out W (Below.refl _ _) 8 _ rfl
     have g9 : W.cell? ⟨B1, 9, none⟩ = some (.int .i64 yon) := R1.out W (Below.refl _ _) 9 _ rfl
     have g10 : W.cell? ⟨B1, 10, none⟩ = some (.int .i64 yoff) := R1.out W (Below.refl _ _) 10 _ rfl
     have g11 : W.cell? ⟨B1, 11, none⟩ = some (.slice la k2.len lc) := R1.out W (Below.refl _ _) 11 _ rfl
     have h_kind := Q_kind.out
     have h_c := Q_c.out
     have h_neg := Q_neg.out
     have h_n := Q_n.out
     have h_m := Q_m.out
     have h_mode := Q_mode.out
     have h_name := Q_name.out
     have h_on := Q_on.out
     have h_off := Q_off.out
     have h_lset := Q_lset.out
     have h_kids := Q_kids.out
     clear Q_kind Q_c Q_neg Q_n Q_m Q_mode Q_name Q_on Q_off Q_lset Q_kids
     have i_kids : ¬ (k.len : Int) = (k2.len : Int) := by omega
     have e_kids : ((k.len : Int) == (k2.len : Int)) = false := by simp; omega
     go_wp2_with fail
     go_ret
     exact ⟨rfl, HB.out⟩
   obtain ⟨R, hR⟩ : ∃ R, (eqRs xset yset && sameF k k2) = R := ⟨_, rfl⟩
   have HR := Lib.hid (show sameT ((⟨xk, xa, xc, .slice sa xset.length sc, xset, xneg, xn, xm, xmode, xname, xon, xoff, .slice ka k.len kc⟩ : Lab), k) ((⟨yk, ya, yc, .slice ta yset.length tc, yset, yneg, yn, ym, ymode, yname, yon, yoff, .slice la k2.len lc⟩ : Lab), k2) = R by simp only [sameT, labEq, h_kind, h_c, h_neg, h_n, h_m, h_mode, h_name, h_on, h_off]; rw [← hR, eqRs_eq]; simp [h_kids])
   rw [HR.out]
   have H0 := Lib.hid hR
   have hlS := Lib.hid h_lset
   have hlK := Lib.hid h_kids
   clear hR HR
   have Q_kind := Lib.hid h_kind
   have Q_c := Lib.hid h_c
   have Q_neg := Lib.hid h_neg
   have Q_n := Lib.hid h_n
   have Q_m := Lib.hid h_m
   have Q_mode := Lib.hid h_mode
   have Q_name := Lib.hid h_name
   have Q_on := Lib.hid h_on
   have Q_off := Lib.hid h_off
   have Q_lset := Lib.hid h_lset
   have Q_kids := Lib.hid h_kids
   clear h_kind h_c h_neg h_n h_m h_mode h_name h_on h_off h_lset h_kids
   unfold ndV
   go_enter Try.func16, Try.ntmps16
   go_upto_region 1 with (fail)
   generalize hg : (w.alloc _).alloc _ = W
   have hh := HH.out
   rw [hg] at hh
   obtain ⟨hb0, hr, hs⟩ := hh
   have HB := Lib.hid hb0
   have R0 := Lib.hid (fun w1 (hb : Below W.heap.size W w1) => cells12 (x := (⟨xk, xa, xc, .slice sa xset.length sc, xset, xneg, xn, xm, xmode, xname, xon, xoff, .slice ka k.len kc⟩ : Lab)) ((hb.block _ (Array.getElem?_eq_some_iff.1 hr).1).trans hr))
   have R1 := Lib.hid (fun w1 (hb : Below W.heap.size W w1) => cells12 (x := (⟨yk, ya, yc, .slice ta yset.length tc, yset, yneg, yn, ym, ymode, yname, yon, yoff, .slice la k2.len lc⟩ : Lab)) ((hb.block _ (Array.getElem?_eq_some_iff.1 hs).1).trans hs))
   clear hg hb0 hr hs HH
   obtain ⟨B1, hB1⟩ : ∃ B1, w.heap.size + 1 = B1 := ⟨_, rfl⟩
   obtain ⟨B0, hB0⟩ : ∃ B0, w.heap.size = B0 := ⟨_, rfl⟩
   rw [hB1] at R1 ⊢
   rw [hB0] at R0 ⊢
   have f0 : W.cell? ⟨B0, 0, none⟩ = some (.int .i64 xk) := R0.out W (Below.refl _ _) 0 _ rfl
   have f1 : W.cell? ⟨B0, 1, none⟩ = some (.int .i64 xa) := R0.out W (Below.refl _ _) 1 _ rfl
   have f2 : W.cell? ⟨B0, 2, none⟩ = some (.int .i64 xc) := R0.out W (Below.refl _ _) 2 _ rfl
   have f3 : W.cell? ⟨B0, 3, none⟩ = some (.slice sa xset.length sc) := R0.out W (Below.refl _ _) 3 _ rfl
   have f4 : W.cell? ⟨B0, 4, none⟩ = some (.bool xneg) := R0.out W (Below.refl _ _) 4 _ rfl
   have f5 : W.cell? ⟨B0, 5, none⟩ = some (.int .i64 xn) := R0.out W (Below.refl _ _) 5 _ rfl
   have f6 : W.cell? ⟨B0, 6, none⟩ = some (.int .i64 xm) := R0.out W (Below.refl _ _) 6 _ rfl
   have f7 : W.cell? ⟨B0, 7, none⟩ = some (.int .i64 xmode) := R0.out W (Below.refl _ _) 7 _ rfl
   have f8 : W.cell? ⟨B0, 8, none⟩ = some (.string xname) := R0.out W (Below.refl _ _) 8 _ rfl
   have f9 : W.cell? ⟨B0, 9, none⟩ = some (.int .i64 xon) := R0.out W (Below.refl _ _) 9 _ rfl
   have f10 : W.cell? ⟨B0, 10, none⟩ = some (.int .i64 xoff) := R0.out W (Below.refl _ _) 10 _ rfl
   have f11 : W.cell? ⟨B0, 11, none⟩ = some (.slice ka k.len kc) := R0.out W (Below.refl _ _) 11 _ rfl
   have g0 : W.cell? ⟨B1, 0, none⟩ = some (.int .i64 yk) := R1.out W (Below.refl _ _) 0 _ rfl
   have g1 : W.cell? ⟨B1, 1, none⟩ = some (.int .i64 ya) := R1.out W (Below.refl _ _) 1 _ rfl
   have g2 : W.cell? ⟨B1, 2, none⟩ = some (.int .i64 yc) := R1.out W (Below.refl _ _) 2 _ rfl
   have g3 : W.cell? ⟨B1, 3, none⟩ = some (.slice ta yset.length tc) := R1.out W (Below.refl _ _) 3 _ rfl
   have g4 : W.cell? ⟨B1, 4, none⟩ = some (.bool yneg) := R1.out W (Below.refl _ _) 4 _ rfl
   have g5 : W.cell? ⟨B1, 5, none⟩ = some (.int .i64 yn) := R1.out W (Below.refl _ _) 5 _ rfl
   have g6 : W.cell? ⟨B1, 6, none⟩ = some (.int .i64 ym) := R1.out W (Below.refl _ _) 6 _ rfl
   have g7 : W.cell? ⟨B1, 7, none⟩ = some (.int .i64 ymode) := R1.out W (Below.refl _ _) 7 _ rfl
   have g8 : W.cell? ⟨B1, 8, none⟩ = some (.string yname) := R1.out W (Below.refl _ _) 8 _ rfl
   have g9 : W.cell? ⟨B1, 9, none⟩ = some (.int .i64 yon) := R1.out W (Below.refl _ _) 9 _ rfl
   have g10 : W.cell? ⟨B1, 10, none⟩ = some (.int .i64 yoff) := R1.out W (Below.refl _ _) 10 _ rfl
   have g11 : W.cell? ⟨B1, 11, none⟩ = some (.slice la k2.len lc) := R1.out W (Below.refl _ _) 11 _ rfl
   have h_kind := Q_kind.out
   have h_c := Q_c.out
   have h_neg := Q_neg.out
   have h_n := Q_n.out
   have h_m := Q_m.out
   have h_mode := Q_mode.out
   have h_name := Q_name.out
   have h_on := Q_on.out
   have h_off := Q_off.out
   have h_lset := Q_lset.out
   have h_kids := Q_kids.out
   clear Q_kind Q_c Q_neg Q_n Q_m Q_mode Q_name Q_on Q_off Q_lset Q_kids
   go_wp2_with fail
   clear f0 g0 f1 g1 f2 g2 f3 g3 f4 g4 f5 g5 f6 g6 f7 g7 f8 g8 f9 g9 f10 g10 f11 g11
   clear h_kind h_c h_neg h_n h_m h_mode h_name h_on h_off h_lset h_kids
   go_loopw [5] (fun iv wr => ∃ i : Nat, iv = .int .i64 i ∧ i ≤ xset.length ∧ Hid ((eqRs (xset.drop i) (yset.drop i) && sameF k k2) = R) ∧ Below W.heap.size W wr) (fun iv _ => xset.length - (intOf iv).toNat)
   case atStart => exact ⟨0, rfl, Nat.zero_le _, H0, Below.refl _ _⟩
   case round =>
     clear H0
     obtain ⟨i, rfl, hi, HA, hb⟩ := hrel
     have c3 := R0.out wr hb 3 _ rfl
     have d3 := R1.out wr hb 3 _ rfl
     have c11 := R0.out wr hb 11 _ rfl
     by_cases hend : i = xset.length
     · have HF := Lib.hid (show sameF k k2 = R by
         have := HA.out
         rw [List.drop_eq_nil_of_le (by omega), List.drop_eq_nil_of_le (by have := hlS.out; omega)] at this
         exact this)
       subst hend
       clear HA HS HT
       go_wp2_with fail
       clear c3 d3 c11
       have HBb := Lib.hid hb
       go_loopw [6, 7] (fun iv _ wz => ∃ i : Nat, iv = .int .i64 i ∧ i ≤ k.len ∧ Hid (sameF (k.drop i) (k2.drop i) = R) ∧ Below W.heap.size W wz) (fun iv _ _ => k.len - (intOf iv).toNat)
       case atStart => exact ⟨0, rfl, Nat.zero_le _, Lib.hid (by rw [drop_zero, drop_zero]; exact HF.out), hb⟩
       case round =>
         clear hb HF
         obtain ⟨i, rfl, hi, HA, hb⟩ := hrel
         have c11 : wr.cell? ⟨B0, 11, none⟩ = some (.slice ka k.len kc) := R0.out wr hb 11 _ rfl
         have d11 : wr.cell? ⟨B1, 11, none⟩ = some (.slice la k2.len lc) := R1.out wr hb 11 _ rfl
         by_cases hend : i = k.len
         · have HRes := Lib.hid (show true = R by have := HA.out; rw [drop_end (by omega), drop_end (by have := hlK.out; omega)] at this; exact this)
           subst hend
           go_wp2_with fail
           go_ret
           exact ⟨by rw [← HRes.out]; rfl, HB.out.trans (hb.mono HB.out.size)⟩
         · have hlt : i < k.len := by omega
           obtain ⟨y, k', r, hdr⟩ := drop_lt (f := k) (i := i) hlt
           obtain ⟨z, m', r', hdr2⟩ := drop_lt (f := k2) (i := i) (by have := hlK.out; omega)
           have hbw := HB.out.trans (hb.mono HB.out.size)
           obtain ⟨b1, o1, cap1, hv1, _, _, _, hf1⟩ := kid_at (below_kids hbw HK.out) hdr
           obtain ⟨b2, o2, cap2, hv2, _, _, _, hf2⟩ := kid_at (below_kids hbw HM.out) hdr2
           obtain ⟨rfl, rfl⟩ : ka = some ⟨b1, o1, none⟩ ∧ kc = cap1 := by
             have := hv1
             simp only [Value.slice.injEq] at this
             exact ⟨this.1, this.2.2⟩
           obtain ⟨rfl, rfl⟩ : la = some ⟨b2, o2, none⟩ ∧ lc = cap2 := by
             have := hv2
             simp only [Value.slice.injEq] at this
             exact ⟨this.1, this.2.2⟩
           have hsz := size_lt hdr
           have n1 := fAt_head hf1
           have n2 := fAt_head hf2
           have E1 := Lib.hid (hf1.1)
           have E2 := Lib.hid (hf2.1)
           have hstep : (sameT (y, k') (z, m') && sameF (k.drop (i + 1)) (k2.drop (i + 1))) = R := by
             rw [drop_succ hdr, drop_succ hdr2, ← HA.out, hdr, hdr2]
             rfl
           have HI := Lib.hid (fun w1 (h : Below wr.heap.size wr w1) => IH.out (y, k') (z, m') w1 (by show k'.size < n; omega) (below_nd h n1) (below_nd h n2))
           obtain ⟨q, hq⟩ : ∃ q, sameT (y, k') (z, m') = q := ⟨_, rfl⟩
           rw [hq] at hstep HI
           have HN := Lib.hid hstep
           have a1 := add_row b1 o1 i 12
           have a2 := add_row b2 o2 i 12
           have i1 : (i : Int) < (k.len : Int) := by omega
           have i2 : (i : Int) < (k2.len : Int) := by omega
           have C11 := Lib.hid c11
           have D11 := Lib.hid d11
           clear hv1 hv2 hf1 hf2 hdr hdr2 n1 n2 hstep hq HA
           go_wp2_with fail
           refine wp_region_held_drew (S := fun w' => Below wr.heap.size wr w') (by kernel_rfl) (below_drew wr) (fun hHeld => ?_)
           refine wpAnyH_take (i := 0) (v := ?_) rfl (by kernel_rfl) (by kernel_rfl) (by kernel_rfl) (fun _ _ _ h => h) (Or.inl ⟨by rfl, ?_⟩) (by assumption) ?_
           rotate_left
           · intro w' hSw
             have c11 := below_cell hSw C11.out
             have d11 := below_cell hSw D11.out
             go_simp
             try rfl
           simp only [Act.put, List.setIfInBounds_toArray, List.set_cons_zero, List.set_cons_succ, List.getElem_toArray, List.getElem_cons_zero]
           refine wpAnyH_take (i := 1) (v := ?_) rfl (by kernel_rfl) (by kernel_rfl) (by kernel_rfl) (fun _ _ _ h => h) (Or.inl ⟨by rfl, ?_⟩) (by assumption) ?_
           rotate_left
           · intro w' hSw
             have c11 := below_cell hSw C11.out
             have d11 := below_cell hSw D11.out
             go_simp
             try rfl
           simp only [Act.put, List.setIfInBounds_toArray, List.set_cons_zero, List.set_cons_succ, List.getElem_toArray, List.getElem_cons_succ, List.getElem_cons_zero]
           refine wpAnyH_take (i := 2) (v := ?_) rfl (by kernel_rfl) (by kernel_rfl) (by kernel_rfl) (fun _ _ _ h => h) (Or.inl ⟨by rfl, ?_⟩) (by assumption) ?_
           rotate_left
           · intro w' hSw
             have c11 := below_cell hSw C11.out
             have d11 := below_cell hSw D11.out
             go_simp
             try rfl
           simp only [Act.put, List.setIfInBounds_toArray, List.set_cons_zero, List.set_cons_succ, List.getElem_toArray, List.getElem_cons_succ, List.getElem_cons_zero]
           refine wpAnyH_take (i := 3) (v := ?_) rfl (by kernel_rfl) (by kernel_rfl) (by kernel_rfl) (fun _ _ _ h => h) (Or.inl ⟨by rfl, ?_⟩) (by assumption) ?_
           rotate_left
           · intro w' hSw
             have c11 := below_cell hSw C11.out
             have d11 := below_cell hSw D11.out
             go_simp
             try rfl
           simp only [Act.put, List.setIfInBounds_toArray, List.set_cons_zero, List.set_cons_succ, List.getElem_toArray, List.getElem_cons_succ, List.getElem_cons_zero]
           refine wpAnyH_take (i := 4) (v := ?_) rfl (by kernel_rfl) (by kernel_rfl) (by kernel_rfl) (fun _ _ _ h => h) (Or.inl ⟨by rfl, ?_⟩) (by assumption) ?_
           rotate_left
           · intro w' hSw
             refine exec_load_nd (x := .tmp 115) (b := b1) (off := o1 + i * 12) (l := y) ?_ ?_ (fun j v hj => below_cell hSw (E1.out j v hj)) <;> rfl
           simp only [Act.put, List.setIfInBounds_toArray, List.set_cons_zero, List.set_cons_succ, List.getElem_toArray, List.getElem_cons_succ, List.getElem_cons_zero]
           refine wpAnyH_take (i := 5) (v := ?_) rfl (by kernel_rfl) (by kernel_rfl) (by kernel_rfl) (fun _ _ _ h => h) (Or.inl ⟨by rfl, ?_⟩) (by assumption) ?_
           rotate_left
           · intro w' hSw
             have c11 := below_cell hSw C11.out
             have d11 := below_cell hSw D11.out
             go_simp
             try rfl
           simp only [Act.put, List.setIfInBounds_toArray, List.set_cons_zero, List.set_cons_succ, List.getElem_toArray, List.getElem_cons_succ, List.getElem_cons_zero]
           refine wpAnyH_take (i := 6) (v := ?_) rfl (by kernel_rfl) (by kernel_rfl) (by kernel_rfl) (fun _ _ _ h => h) (Or.inl ⟨by rfl, ?_⟩) (by assumption) ?_
           rotate_left
           · intro w' hSw
             have c11 := below_cell hSw C11.out
             have d11 := below_cell hSw D11.out
             go_simp
             try rfl
           simp only [Act.put, List.setIfInBounds_toArray, List.set_cons_zero, List.set_cons_succ, List.getElem_toArray, List.getElem_cons_succ, List.getElem_cons_zero]
           refine wpAnyH_take (i := 7) (v := ?_) rfl (by kernel_rfl) (by kernel_rfl) (by kernel_rfl) (fun _ _ _ h => h) (Or.inl ⟨by rfl, ?_⟩) (by assumption) ?_
           rotate_left
           · intro w' hSw
             have c11 := below_cell hSw C11.out
             have d11 := below_cell hSw D11.out
             go_simp
             try rfl
           simp only [Act.put, List.setIfInBounds_toArray, List.set_cons_zero, List.set_cons_succ, List.getElem_toArray, List.getElem_cons_succ, List.getElem_cons_zero]
           refine wpAnyH_take (i := 8) (v := ?_) rfl (by kernel_rfl) (by kernel_rfl) (by kernel_rfl) (fun _ _ _ h => h) (Or.inl ⟨by rfl, ?_⟩) (by assumption) ?_
           rotate_left
           · intro w' hSw
             have c11 := below_cell hSw C11.out
             have d11 := below_cell hSw D11.out
             go_simp
             try rfl
           simp only [Act.put, List.setIfInBounds_toArray, List.set_cons_zero, List.set_cons_succ, List.getElem_toArray, List.getElem_cons_succ, List.getElem_cons_zero]
           refine wpAnyH_take (i := 9) (v := ?_) rfl (by kernel_rfl) (by kernel_rfl) (by kernel_rfl) (fun _ _ _ h => h) (Or.inl ⟨by rfl, ?_⟩) (by assumption) ?_
           rotate_left
           · intro w' hSw
             refine exec_load_nd (x := .tmp 120) (b := b2) (off := o2 + i * 12) (l := z) ?_ ?_ (fun j v hj => below_cell hSw (E2.out j v hj)) <;> rfl
           simp only [Act.put, List.setIfInBounds_toArray, List.set_cons_zero, List.set_cons_succ, List.getElem_toArray, List.getElem_cons_succ, List.getElem_cons_zero]
           refine wpAnyH_ready (rs := [10]) (by kernel_rfl) (by simp) ?_
           refine AllReadyH.cons rfl (fun K hK => ?_) AllReadyH.nil
           go_simp
           refine (HI.out _ hHeld).mono ?_
           rintro e w4 ⟨rfl, hb5⟩
           have hb4 : Below wr.heap.size wr w4 := hHeld.trans (hb5.mono hHeld.size)
           refine hK.out _ _ hb4 (fun hHeld => ?_)
           clear hK K
           try simp only [Act.put, List.setIfInBounds_toArray, List.set_cons_zero, List.set_cons_succ, List.getElem_toArray, List.getElem_cons_succ, List.getElem_cons_zero]
           refine wpAnyH_take (i := 11) (v := ?_) rfl (by kernel_rfl) (by kernel_rfl) (by kernel_rfl) (fun _ _ _ h => h) (Or.inl ⟨by rfl, ?_⟩) (by assumption) ?_
           rotate_left
           · intro w' hSw
             go_simp
             try rfl
           simp only [Act.put, List.setIfInBounds_toArray, List.set_cons_zero, List.set_cons_succ, List.getElem_toArray, List.getElem_cons_succ, List.getElem_cons_zero]
           refine wpAnyH_done (by kernel_rfl) ?_ _
           clear c11 d11
           cases q with
           | false =>
             go_wp2_with fail
             go_ret
             exact ⟨by rw [← HN.out]; rfl, HB.out.trans ((hb.trans (hb4.mono hb.size)).mono HB.out.size)⟩
           | true =>
             have HN2 := Lib.hid (show sameF (k.drop (i + 1)) (k2.drop (i + 1)) = R by rw [← HN.out]; rfl)
             go_wp2_with fail
             go_roundw
             case rel => exact ⟨i + 1, by go_num, by omega, HN2, hb.trans (hb4.mono hb.size)⟩
             case measure => simp [intOf]; omega
     · have hlt : i < xset.length := by omega
       have hlt2 : i < yset.length := by have := hlS.out; omega
       obtain ⟨s1, q1, hsv, _, _, k1⟩ := HS.out
       obtain ⟨s2, q2, htv, _, _, k2'⟩ := HT.out
       simp only [Value.slice.injEq] at hsv htv
       obtain ⟨rfl, _, rfl⟩ := hsv
       obtain ⟨rfl, _, rfl⟩ := htv
       rcases k1 with h0 | ⟨b1, o1, rfl, k1⟩
       · rw [h0] at hlt
         simp at hlt
       rcases k2' with h0 | ⟨b2, o2, rfl, k2'⟩
       · rw [h0] at hlt2
         simp at hlt2
       have hx1 := List.getElem?_eq_getElem hlt
       have hx2 := List.getElem?_eq_getElem hlt2
       obtain ⟨x1, y1⟩ : ∃ x, xset[i]'hlt = x := ⟨_, rfl⟩
       obtain ⟨x2, y2⟩ : ∃ x, yset[i]'hlt2 = x := ⟨_, rfl⟩
       rw [y1] at hx1
       rw [y2] at hx2
       have hbw := HB.out.trans (hb.mono HB.out.size)
       obtain ⟨e1, e2, _, _⟩ := k1 i x1 hx1
       obtain ⟨e3, e4, _, _⟩ := k2' i x2 hx2
       obtain ⟨x1, z1⟩ := x1
       obtain ⟨x2, z2⟩ := x2
       simp only at e1 e2 e3 e4
       have hstep := eqRs_drop hx1 hx2
       have E1 := Lib.hid (below_cell hbw e1)
       have E2 := Lib.hid (below_cell hbw e2)
       have E3 := Lib.hid (below_cell hbw e3)
       have E4 := Lib.hid (below_cell hbw e4)
       have a1 := add_row b1 o1 i 2
       have a2 := add_row b2 o2 i 2
       have i1 : (i : Int) < (xset.length : Int) := by omega
       have i2 : (i : Int) < (yset.length : Int) := by omega
       have C3 := Lib.hid c3
       have D3 := Lib.hid d3
       have hA := HA.out
       rw [hstep] at hA
       clear hx1 hx2 y1 y2 e1 e2 e3 e4 hstep k1 k2' HA c11
       by_cases h1 : x1 = x2
       · subst h1
         by_cases h2 : z1 = z2
         · subst h2
           rw [decide_eq_true rfl, Bool.true_and] at hA
           have HN := Lib.hid hA
           clear hA
           go_wp2_with fail
           refine wp_region_held_drew (S := fun w' => Below wr.heap.size wr w') (by kernel_rfl) (below_drew wr) (fun hHeld => ?_)
           refine wpAnyH_take (i := 0) (v := ?_) rfl (by kernel_rfl) (by kernel_rfl) (by kernel_rfl) (fun _ _ _ h => h) (Or.inl ⟨by rfl, ?_⟩) (by assumption) ?_
           rotate_left
           · intro w' hSw
             have c3 := below_cell hSw C3.out
             have d3 := below_cell hSw D3.out
             have e1 := below_cell hSw E1.out
             have e2 := below_cell hSw E2.out
             have e3 := below_cell hSw E3.out
             have e4 := below_cell hSw E4.out
             go_simp
             try rfl
           simp only [Act.put, List.setIfInBounds_toArray, List.set_cons_zero, List.set_cons_succ, List.getElem_toArray, List.getElem_cons_zero]
           refine wpAnyH_take (i := 1) (v := ?_) rfl (by kernel_rfl) (by kernel_rfl) (by kernel_rfl) (fun _ _ _ h => h) (Or.inl ⟨by rfl, ?_⟩) (by assumption) ?_
           rotate_left
           · intro w' hSw
             have c3 := below_cell hSw C3.out
             have d3 := below_cell hSw D3.out
             have e1 := below_cell hSw E1.out
             have e2 := below_cell hSw E2.out
             have e3 := below_cell hSw E3.out
             have e4 := below_cell hSw E4.out
             go_simp
             try rfl
           simp only [Act.put, List.setIfInBounds_toArray, List.set_cons_zero, List.set_cons_succ, List.getElem_toArray, List.getElem_cons_succ, List.getElem_cons_zero]
           refine wpAnyH_take (i := 2) (v := ?_) rfl (by kernel_rfl) (by kernel_rfl) (by kernel_rfl) (fun _ _ _ h => h) (Or.inl ⟨by rfl, ?_⟩) (by assumption) ?_
           rotate_left
           · intro w' hSw
             have c3 := below_cell hSw C3.out
             have d3 := below_cell hSw D3.out
             have e1 := below_cell hSw E1.out
             have e2 := below_cell hSw E2.out
             have e3 := below_cell hSw E3.out
             have e4 := below_cell hSw E4.out
             go_simp
             try rfl
           simp only [Act.put, List.setIfInBounds_toArray, List.set_cons_zero, List.set_cons_succ, List.getElem_toArray, List.getElem_cons_succ, List.getElem_cons_zero]
           refine wpAnyH_take (i := 3) (v := ?_) rfl (by kernel_rfl) (by kernel_rfl) (by kernel_rfl) (fun _ _ _ h => h) (Or.inl ⟨by rfl, ?_⟩) (by assumption) ?_
           rotate_left
           · intro w' hSw
             have c3 := below_cell hSw C3.out
             have d3 := below_cell hSw D3.out
             have e1 := below_cell hSw E1.out
             have e2 := below_cell hSw E2.out
             have e3 := below_cell hSw E3.out
             have e4 := below_cell hSw E4.out
             go_simp
             try rfl
           simp only [Act.put, List.setIfInBounds_toArray, List.set_cons_zero, List.set_cons_succ, List.getElem_toArray, List.getElem_cons_succ, List.getElem_cons_zero]
           refine wpAnyH_take (i := 4) (v := ?_) rfl (by kernel_rfl) (by kernel_rfl) (by kernel_rfl) (fun _ _ _ h => h) (Or.inl ⟨by rfl, ?_⟩) (by assumption) ?_
           rotate_left
           · intro w' hSw
             have c3 := below_cell hSw C3.out
             have d3 := below_cell hSw D3.out
             have e1 := below_cell hSw E1.out
             have e2 := below_cell hSw E2.out
             have e3 := below_cell hSw E3.out
             have e4 := below_cell hSw E4.out
             go_simp
             try rfl
           simp only [Act.put, List.setIfInBounds_toArray, List.set_cons_zero, List.set_cons_succ, List.getElem_toArray, List.getElem_cons_succ, List.getElem_cons_zero]
           refine wpAnyH_take (i := 5) (v := ?_) rfl (by kernel_rfl) (by kernel_rfl) (by kernel_rfl) (fun _ _ _ h => h) (Or.inl ⟨by rfl, ?_⟩) (by assumption) ?_
           rotate_left
           · intro w' hSw
             have c3 := below_cell hSw C3.out
             have d3 := below_cell hSw D3.out
             have e1 := below_cell hSw E1.out
             have e2 := below_cell hSw E2.out
             have e3 := below_cell hSw E3.out
             have e4 := below_cell hSw E4.out
             go_simp
             try rfl
           simp only [Act.put, List.setIfInBounds_toArray, List.set_cons_zero, List.set_cons_succ, List.getElem_toArray, List.getElem_cons_succ, List.getElem_cons_zero]
           refine wpAnyH_take (i := 6) (v := ?_) rfl (by kernel_rfl) (by kernel_rfl) (by kernel_rfl) (fun _ _ _ h => h) (Or.inl ⟨by rfl, ?_⟩) (by assumption) ?_
           rotate_left
           · intro w' hSw
             have c3 := below_cell hSw C3.out
             have d3 := below_cell hSw D3.out
             have e1 := below_cell hSw E1.out
             have e2 := below_cell hSw E2.out
             have e3 := below_cell hSw E3.out
             have e4 := below_cell hSw E4.out
             go_simp
             try rfl
           simp only [Act.put, List.setIfInBounds_toArray, List.set_cons_zero, List.set_cons_succ, List.getElem_toArray, List.getElem_cons_succ, List.getElem_cons_zero]
           refine wpAnyH_take (i := 7) (v := ?_) rfl (by kernel_rfl) (by kernel_rfl) (by kernel_rfl) (fun _ _ _ h => h) (Or.inl ⟨by rfl, ?_⟩) (by assumption) ?_
           rotate_left
           · intro w' hSw
             have c3 := below_cell hSw C3.out
             have d3 := below_cell hSw D3.out
             have e1 := below_cell hSw E1.out
             have e2 := below_cell hSw E2.out
             have e3 := below_cell hSw E3.out
             have e4 := below_cell hSw E4.out
             go_simp
             try rfl
           simp only [Act.put, List.setIfInBounds_toArray, List.set_cons_zero, List.set_cons_succ, List.getElem_toArray, List.getElem_cons_succ, List.getElem_cons_zero]
           refine wpAnyH_take (i := 8) (v := ?_) rfl (by kernel_rfl) (by kernel_rfl) (by kernel_rfl) (fun _ _ _ h => h) (Or.inl ⟨by rfl, ?_⟩) (by assumption) ?_
           rotate_left
           · intro w' hSw
             have c3 := below_cell hSw C3.out
             have d3 := below_cell hSw D3.out
             have e1 := below_cell hSw E1.out
             have e2 := below_cell hSw E2.out
             have e3 := below_cell hSw E3.out
             have e4 := below_cell hSw E4.out
             go_simp
             try rfl
           simp only [Act.put, List.setIfInBounds_toArray, List.set_cons_zero, List.set_cons_succ, List.getElem_toArray, List.getElem_cons_succ, List.getElem_cons_zero]
           refine wpAnyH_take (i := 9) (v := ?_) rfl (by kernel_rfl) (by kernel_rfl) (by kernel_rfl) (fun _ _ _ h => h) (Or.inl ⟨by rfl, ?_⟩) (by assumption) ?_
           rotate_left
           · intro w' hSw
             have c3 := below_cell hSw C3.out
             have d3 := below_cell hSw D3.out
             have e1 := below_cell hSw E1.out
             have e2 := below_cell hSw E2.out
             have e3 := below_cell hSw E3.out
             have e4 := below_cell hSw E4.out
             go_simp
             try rfl
           simp only [Act.put, List.setIfInBounds_toArray, List.set_cons_zero, List.set_cons_succ, List.getElem_toArray, List.getElem_cons_succ, List.getElem_cons_zero]
           refine wpAnyH_take (i := 10) (v := ?_) rfl (by kernel_rfl) (by kernel_rfl) (by kernel_rfl) (fun _ _ _ h => h) (Or.inl ⟨by rfl, ?_⟩) (by assumption) ?_
           rotate_left
           · intro w' hSw
             have c3 := below_cell hSw C3.out
             have d3 := below_cell hSw D3.out
             have e1 := below_cell hSw E1.out
             have e2 := below_cell hSw E2.out
             have e3 := below_cell hSw E3.out
             have e4 := below_cell hSw E4.out
             go_simp
             try rfl
           simp only [Act.put, List.setIfInBounds_toArray, List.set_cons_zero, List.set_cons_succ, List.getElem_toArray, List.getElem_cons_succ, List.getElem_cons_zero]
           refine wpAnyH_done (by kernel_rfl) ?_ _
           have hb4 := below_drew wr
           clear c3 d3
           go_wp2_with fail
           go_roundw
           case rel => exact ⟨i + 1, by go_num, by omega, HN, hb.trans (hb4.mono hb.size)⟩
           case measure => simp [intOf]; omega
         · rw [decide_eq_false (by simp [h2])] at hA
           have HN := Lib.hid (show false = R by rw [← hA]; rfl)
           clear hA
           go_wp2_with fail
           refine wp_region_held_drew (S := fun w' => Below wr.heap.size wr w') (by kernel_rfl) (below_drew wr) (fun hHeld => ?_)
           refine wpAnyH_take (i := 0) (v := ?_) rfl (by kernel_rfl) (by kernel_rfl) (by kernel_rfl) (fun _ _ _ h => h) (Or.inl ⟨by rfl, ?_⟩) (by assumption) ?_
           rotate_left
           · intro w' hSw
             have c3 := below_cell hSw C3.out
             have d3 := below_cell hSw D3.out
             have e1 := below_cell hSw E1.out
             have e2 := below_cell hSw E2.out
             have e3 := below_cell hSw E3.out
             have e4 := below_cell hSw E4.out
             go_simp
             try rfl
           simp only [Act.put, List.setIfInBounds_toArray, List.set_cons_zero, List.set_cons_succ, List.getElem_toArray, List.getElem_cons_zero]
           refine wpAnyH_take (i := 1) (v := ?_) rfl (by kernel_rfl) (by kernel_rfl) (by kernel_rfl) (fun _ _ _ h => h) (Or.inl ⟨by rfl, ?_⟩) (by assumption) ?_
           rotate_left
           · intro w' hSw
             have c3 := below_cell hSw C3.out
             have d3 := below_cell hSw D3.out
             have e1 := below_cell hSw E1.out
             have e2 := below_cell hSw E2.out
             have e3 := below_cell hSw E3.out
             have e4 := below_cell hSw E4.out
             go_simp
             try rfl
           simp only [Act.put, List.setIfInBounds_toArray, List.set_cons_zero, List.set_cons_succ, List.getElem_toArray, List.getElem_cons_succ, List.getElem_cons_zero]
           refine wpAnyH_take (i := 2) (v := ?_) rfl (by kernel_rfl) (by kernel_rfl) (by kernel_rfl) (fun _ _ _ h => h) (Or.inl ⟨by rfl, ?_⟩) (by assumption) ?_
           rotate_left
           · intro w' hSw
             have c3 := below_cell hSw C3.out
             have d3 := below_cell hSw D3.out
             have e1 := below_cell hSw E1.out
             have e2 := below_cell hSw E2.out
             have e3 := below_cell hSw E3.out
             have e4 := below_cell hSw E4.out
             go_simp
             try rfl
           simp only [Act.put, List.setIfInBounds_toArray, List.set_cons_zero, List.set_cons_succ, List.getElem_toArray, List.getElem_cons_succ, List.getElem_cons_zero]
           refine wpAnyH_take (i := 3) (v := ?_) rfl (by kernel_rfl) (by kernel_rfl) (by kernel_rfl) (fun _ _ _ h => h) (Or.inl ⟨by rfl, ?_⟩) (by assumption) ?_
           rotate_left
           · intro w' hSw
             have c3 := below_cell hSw C3.out
             have d3 := below_cell hSw D3.out
             have e1 := below_cell hSw E1.out
             have e2 := below_cell hSw E2.out
             have e3 := below_cell hSw E3.out
             have e4 := below_cell hSw E4.out
             go_simp
             try rfl
           simp only [Act.put, List.setIfInBounds_toArray, List.set_cons_zero, List.set_cons_succ, List.getElem_toArray, List.getElem_cons_succ, List.getElem_cons_zero]
           refine wpAnyH_take (i := 4) (v := ?_) rfl (by kernel_rfl) (by kernel_rfl) (by kernel_rfl) (fun _ _ _ h => h) (Or.inl ⟨by rfl, ?_⟩) (by assumption) ?_
           rotate_left
           · intro w' hSw
             have c3 := below_cell hSw C3.out
             have d3 := below_cell hSw D3.out
             have e1 := below_cell hSw E1.out
             have e2 := below_cell hSw E2.out
             have e3 := below_cell hSw E3.out
             have e4 := below_cell hSw E4.out
             go_simp
             try rfl
           simp only [Act.put, List.setIfInBounds_toArray, List.set_cons_zero, List.set_cons_succ, List.getElem_toArray, List.getElem_cons_succ, List.getElem_cons_zero]
           refine wpAnyH_take (i := 5) (v := ?_) rfl (by kernel_rfl) (by kernel_rfl) (by kernel_rfl) (fun _ _ _ h => h) (Or.inl ⟨by rfl, ?_⟩) (by assumption) ?_
           rotate_left
           · intro w' hSw
             have c3 := below_cell hSw C3.out
             have d3 := below_cell hSw D3.out
             have e1 := below_cell hSw E1.out
             have e2 := below_cell hSw E2.out
             have e3 := below_cell hSw E3.out
             have e4 := below_cell hSw E4.out
             go_simp
             try rfl
           simp only [Act.put, List.setIfInBounds_toArray, List.set_cons_zero, List.set_cons_succ, List.getElem_toArray, List.getElem_cons_succ, List.getElem_cons_zero]
           refine wpAnyH_take (i := 6) (v := ?_) rfl (by kernel_rfl) (by kernel_rfl) (by kernel_rfl) (fun _ _ _ h => h) (Or.inl ⟨by rfl, ?_⟩) (by assumption) ?_
           rotate_left
           · intro w' hSw
             have c3 := below_cell hSw C3.out
             have d3 := below_cell hSw D3.out
             have e1 := below_cell hSw E1.out
             have e2 := below_cell hSw E2.out
             have e3 := below_cell hSw E3.out
             have e4 := below_cell hSw E4.out
             go_simp
             try rfl
           simp only [Act.put, List.setIfInBounds_toArray, List.set_cons_zero, List.set_cons_succ, List.getElem_toArray, List.getElem_cons_succ, List.getElem_cons_zero]
           refine wpAnyH_take (i := 7) (v := ?_) rfl (by kernel_rfl) (by kernel_rfl) (by kernel_rfl) (fun _ _ _ h => h) (Or.inl ⟨by rfl, ?_⟩) (by assumption) ?_
           rotate_left
           · intro w' hSw
             have c3 := below_cell hSw C3.out
             have d3 := below_cell hSw D3.out
             have e1 := below_cell hSw E1.out
             have e2 := below_cell hSw E2.out
             have e3 := below_cell hSw E3.out
             have e4 := below_cell hSw E4.out
             go_simp
             try rfl
           simp only [Act.put, List.setIfInBounds_toArray, List.set_cons_zero, List.set_cons_succ, List.getElem_toArray, List.getElem_cons_succ, List.getElem_cons_zero]
           refine wpAnyH_take (i := 8) (v := ?_) rfl (by kernel_rfl) (by kernel_rfl) (by kernel_rfl) (fun _ _ _ h => h) (Or.inl ⟨by rfl, ?_⟩) (by assumption) ?_
           rotate_left
           · intro w' hSw
             have c3 := below_cell hSw C3.out
             have d3 := below_cell hSw D3.out
             have e1 := below_cell hSw E1.out
             have e2 := below_cell hSw E2.out
             have e3 := below_cell hSw E3.out
             have e4 := below_cell hSw E4.out
             go_simp
             try rfl
           simp only [Act.put, List.setIfInBounds_toArray, List.set_cons_zero, List.set_cons_succ, List.getElem_toArray, List.getElem_cons_succ, List.getElem_cons_zero]
           refine wpAnyH_take (i := 9) (v := ?_) rfl (by kernel_rfl) (by kernel_rfl) (by kernel_rfl) (fun _ _ _ h => h) (Or.inl ⟨by rfl, ?_⟩) (by assumption) ?_
           rotate_left
           · intro w' hSw
             have c3 := below_cell hSw C3.out
             have d3 := below_cell hSw D3.out
             have e1 := below_cell hSw E1.out
             have e2 := below_cell hSw E2.out
             have e3 := below_cell hSw E3.out
             have e4 := below_cell hSw E4.out
             go_simp
             try rfl
           simp only [Act.put, List.setIfInBounds_toArray, List.set_cons_zero, List.set_cons_succ, List.getElem_toArray, List.getElem_cons_succ, List.getElem_cons_zero]
           refine wpAnyH_take (i := 10) (v := ?_) rfl (by kernel_rfl) (by kernel_rfl) (by kernel_rfl) (fun _ _ _ h => h) (Or.inl ⟨by rfl, ?_⟩) (by assumption) ?_
           rotate_left
           · intro w' hSw
             have c3 := below_cell hSw C3.out
             have d3 := below_cell hSw D3.out
             have e1 := below_cell hSw E1.out
             have e2 := below_cell hSw E2.out
             have e3 := below_cell hSw E3.out
             have e4 := below_cell hSw E4.out
             go_simp
             try rfl
           simp only [Act.put, List.setIfInBounds_toArray, List.set_cons_zero, List.set_cons_succ, List.getElem_toArray, List.getElem_cons_succ, List.getElem_cons_zero]
           refine wpAnyH_done (by kernel_rfl) ?_ _
           have hb4 := below_drew wr
           clear c3 d3
           go_wp2_with fail
           go_ret
           exact ⟨by rw [← HN.out]; rfl, HB.out.trans ((hb.trans (hb4.mono hb.size)).mono HB.out.size)⟩
       · rw [decide_eq_false (by simp [h1])] at hA
         have HN := Lib.hid (show false = R by rw [← hA]; rfl)
         clear hA
         go_wp2_with fail
         refine wp_region_held_drew (S := fun w' => Below wr.heap.size wr w') (by kernel_rfl) (below_drew wr) (fun hHeld => ?_)
         refine wpAnyH_take (i := 0) (v := ?_) rfl (by kernel_rfl) (by kernel_rfl) (by kernel_rfl) (fun _ _ _ h => h) (Or.inl ⟨by rfl, ?_⟩) (by assumption) ?_
         rotate_left
         · intro w' hSw
           have c3 := below_cell hSw C3.out
           have d3 := below_cell hSw D3.out
           have e1 := below_cell hSw E1.out
           have e2 := below_cell hSw E2.out
           have e3 := below_cell hSw E3.out
           have e4 := below_cell hSw E4.out
           go_simp
           try rfl
         simp only [Act.put, List.setIfInBounds_toArray, List.set_cons_zero, List.set_cons_succ, List.getElem_toArray, List.getElem_cons_zero]
         refine wpAnyH_take (i := 1) (v := ?_) rfl (by kernel_rfl) (by kernel_rfl) (by kernel_rfl) (fun _ _ _ h => h) (Or.inl ⟨by rfl, ?_⟩) (by assumption) ?_
         rotate_left
         · intro w' hSw
           have c3 := below_cell hSw C3.out
           have d3 := below_cell hSw D3.out
           have e1 := below_cell hSw E1.out
           have e2 := below_cell hSw E2.out
           have e3 := below_cell hSw E3.out
           have e4 := below_cell hSw E4.out
           go_simp
           try rfl
         simp only [Act.put, List.setIfInBounds_toArray, List.set_cons_zero, List.set_cons_succ, List.getElem_toArray, List.getElem_cons_succ, List.getElem_cons_zero]
         refine wpAnyH_take (i := 2) (v := ?_) rfl (by kernel_rfl) (by kernel_rfl) (by kernel_rfl) (fun _ _ _ h => h) (Or.inl ⟨by rfl, ?_⟩) (by assumption) ?_
         rotate_left
         · intro w' hSw
           have c3 := below_cell hSw C3.out
           have d3 := below_cell hSw D3.out
           have e1 := below_cell hSw E1.out
           have e2 := below_cell hSw E2.out
           have e3 := below_cell hSw E3.out
           have e4 := below_cell hSw E4.out
           go_simp
           try rfl
         simp only [Act.put, List.setIfInBounds_toArray, List.set_cons_zero, List.set_cons_succ, List.getElem_toArray, List.getElem_cons_succ, List.getElem_cons_zero]
         refine wpAnyH_take (i := 3) (v := ?_) rfl (by kernel_rfl) (by kernel_rfl) (by kernel_rfl) (fun _ _ _ h => h) (Or.inl ⟨by rfl, ?_⟩) (by assumption) ?_
         rotate_left
         · intro w' hSw
           have c3 := below_cell hSw C3.out
           have d3 := below_cell hSw D3.out
           have e1 := below_cell hSw E1.out
           have e2 := below_cell hSw E2.out
           have e3 := below_cell hSw E3.out
           have e4 := below_cell hSw E4.out
           go_simp
           try rfl
         simp only [Act.put, List.setIfInBounds_toArray, List.set_cons_zero, List.set_cons_succ, List.getElem_toArray, List.getElem_cons_succ, List.getElem_cons_zero]
         refine wpAnyH_take (i := 4) (v := ?_) rfl (by kernel_rfl) (by kernel_rfl) (by kernel_rfl) (fun _ _ _ h => h) (Or.inl ⟨by rfl, ?_⟩) (by assumption) ?_
         rotate_left
         · intro w' hSw
           have c3 := below_cell hSw C3.out
           have d3 := below_cell hSw D3.out
           have e1 := below_cell hSw E1.out
           have e2 := below_cell hSw E2.out
           have e3 := below_cell hSw E3.out
           have e4 := below_cell hSw E4.out
           go_simp
           try rfl
         simp only [Act.put, List.setIfInBounds_toArray, List.set_cons_zero, List.set_cons_succ, List.getElem_toArray, List.getElem_cons_succ, List.getElem_cons_zero]
         refine wpAnyH_take (i := 5) (v := ?_) rfl (by kernel_rfl) (by kernel_rfl) (by kernel_rfl) (fun _ _ _ h => h) (Or.inl ⟨by rfl, ?_⟩) (by assumption) ?_
         rotate_left
         · intro w' hSw
           have c3 := below_cell hSw C3.out
           have d3 := below_cell hSw D3.out
           have e1 := below_cell hSw E1.out
           have e2 := below_cell hSw E2.out
           have e3 := below_cell hSw E3.out
           have e4 := below_cell hSw E4.out
           go_simp
           try rfl
         simp only [Act.put, List.setIfInBounds_toArray, List.set_cons_zero, List.set_cons_succ, List.getElem_toArray, List.getElem_cons_succ, List.getElem_cons_zero]
         refine wpAnyH_take (i := 6) (v := ?_) rfl (by kernel_rfl) (by kernel_rfl) (by kernel_rfl) (fun _ _ _ h => h) (Or.inl ⟨by rfl, ?_⟩) (by assumption) ?_
         rotate_left
         · intro w' hSw
           have c3 := below_cell hSw C3.out
           have d3 := below_cell hSw D3.out
           have e1 := below_cell hSw E1.out
           have e2 := below_cell hSw E2.out
           have e3 := below_cell hSw E3.out
           have e4 := below_cell hSw E4.out
           go_simp
           try rfl
         simp only [Act.put, List.setIfInBounds_toArray, List.set_cons_zero, List.set_cons_succ, List.getElem_toArray, List.getElem_cons_succ, List.getElem_cons_zero]
         refine wpAnyH_take (i := 7) (v := ?_) rfl (by kernel_rfl) (by kernel_rfl) (by kernel_rfl) (fun _ _ _ h => h) (Or.inl ⟨by rfl, ?_⟩) (by assumption) ?_
         rotate_left
         · intro w' hSw
           have c3 := below_cell hSw C3.out
           have d3 := below_cell hSw D3.out
           have e1 := below_cell hSw E1.out
           have e2 := below_cell hSw E2.out
           have e3 := below_cell hSw E3.out
           have e4 := below_cell hSw E4.out
           go_simp
           try rfl
         simp only [Act.put, List.setIfInBounds_toArray, List.set_cons_zero, List.set_cons_succ, List.getElem_toArray, List.getElem_cons_succ, List.getElem_cons_zero]
         refine wpAnyH_take (i := 8) (v := ?_) rfl (by kernel_rfl) (by kernel_rfl) (by kernel_rfl) (fun _ _ _ h => h) (Or.inl ⟨by rfl, ?_⟩) (by assumption) ?_
         rotate_left
         · intro w' hSw
           have c3 := below_cell hSw C3.out
           have d3 := below_cell hSw D3.out
           have e1 := below_cell hSw E1.out
           have e2 := below_cell hSw E2.out
           have e3 := below_cell hSw E3.out
           have e4 := below_cell hSw E4.out
           go_simp
           try rfl
         simp only [Act.put, List.setIfInBounds_toArray, List.set_cons_zero, List.set_cons_succ, List.getElem_toArray, List.getElem_cons_succ, List.getElem_cons_zero]
         refine wpAnyH_take (i := 9) (v := ?_) rfl (by kernel_rfl) (by kernel_rfl) (by kernel_rfl) (fun _ _ _ h => h) (Or.inl ⟨by rfl, ?_⟩) (by assumption) ?_
         rotate_left
         · intro w' hSw
           have c3 := below_cell hSw C3.out
           have d3 := below_cell hSw D3.out
           have e1 := below_cell hSw E1.out
           have e2 := below_cell hSw E2.out
           have e3 := below_cell hSw E3.out
           have e4 := below_cell hSw E4.out
           go_simp
           try rfl
         simp only [Act.put, List.setIfInBounds_toArray, List.set_cons_zero, List.set_cons_succ, List.getElem_toArray, List.getElem_cons_succ, List.getElem_cons_zero]
         refine wpAnyH_take (i := 10) (v := ?_) rfl (by kernel_rfl) (by kernel_rfl) (by kernel_rfl) (fun _ _ _ h => h) (Or.inl ⟨by rfl, ?_⟩) (by assumption) ?_
         rotate_left
         · intro w' hSw
           have c3 := below_cell hSw C3.out
           have d3 := below_cell hSw D3.out
           have e1 := below_cell hSw E1.out
           have e2 := below_cell hSw E2.out
           have e3 := below_cell hSw E3.out
           have e4 := below_cell hSw E4.out
           go_simp
           try rfl
         simp only [Act.put, List.setIfInBounds_toArray, List.set_cons_zero, List.set_cons_succ, List.getElem_toArray, List.getElem_cons_succ, List.getElem_cons_zero]
         refine wpAnyH_done (by kernel_rfl) ?_ _
         have hb4 := below_drew wr
         clear c3 d3
         go_wp2_with fail
         go_ret
         exact ⟨by rw [← HN.out]; rfl, HB.out.trans ((hb.trans (hb4.mono hb.size)).mono HB.out.size)⟩
end Go.Proofs.Ytpjaahojoabgjaa.trw
end
