/- T -/
import Derived.Carry
import Derived.Deep.Cut
import Derived.Deep.DeepHandedRow
import Derived.Lib.LaidTab
import Derived.SizedLaws
import Derived.Stop.LaidErr
import Derived.Test.YtdgfclbajjjcgaaBGs25
set_option maxHeartbeats 16000000
set_option maxRecDepth 1000000
namespace Go.Proofs.Ytdgfclbajjjcgaa
section
namespace trw
open sq
open Go Go.RowKit trp
def plF : F → F → Bool
 | .nil, .nil => true
 | .cons x k r, .cons y k' r' => decide (x.at_ = y.at_) && decide (k.len = k'.len) && plF k k' && plF r r'
 | _, _ => false
def plT (a b : Nd) : Bool := decide (a.1.at_ = b.1.at_) && decide (a.2.len = b.2.len) && plF a.2 b.2
theorem places_any : ∀ (n : Nat) (a b : Nd) (w : World), a.2.size < n → NdAt w a → NdAt w b → Calls Try.prog 17 #[ndV a.1, ndV b.1] w (BoolB (plT a b) w) := by
 intro n
 induction n with
 | zero => intro a b w hn; omega
 | succ n ih =>
  intro a b w hn ha hb;have IH := xH ih;clear ih;obtain ⟨sa, sc, hsv, _⟩ := ha.2.1;obtain ⟨ka, kc, hkv, _⟩ := ha.2.2;obtain ⟨ta, tc, htv, _⟩ := hb.2.1;obtain ⟨la, lc, hlv, _⟩ := hb.2.2;have HS := xH ha.2.1;have HT := xH hb.2.1;have HK := xH ha.2.2;have HM := xH hb.2.2;clear ha hb;obtain ⟨x, k⟩ := a;obtain ⟨y, k2⟩ := b;obtain ⟨xk, xa, xc, xs, xset, xneg, xn, xm, xmode, xname, xon, xoff, xkv⟩ := x;obtain ⟨yk, ya, yc, ys, yset, yneg, yn, ym, ymode, yname, yon, yoff, ykv⟩ := y;simp only at hsv hkv htv hlv hn;subst hsv hkv htv hlv;simp only at HS HT HK HM;have HH := xH (show Below w.heap.size w ((w.alloc (.cells (ndC (⟨xk, xa, xc, .slice sa xset.length sc, xset, xneg, xn, xm, xmode, xname, xon, xoff, .slice ka k.len kc⟩ : Lab)).toArray 27)).alloc (.cells (ndC (⟨yk, ya, yc, .slice ta yset.length tc, yset, yneg, yn, ym, ymode, yname, yon, yoff, .slice la k2.len lc⟩ : Lab)).toArray 27)) ∧ ((w.alloc (.cells (ndC (⟨xk, xa, xc, .slice sa xset.length sc, xset, xneg, xn, xm, xmode, xname, xon, xoff, .slice ka k.len kc⟩ : Lab)).toArray 27)).alloc (.cells (ndC (⟨yk, ya, yc, .slice ta yset.length tc, yset, yneg, yn, ym, ymode, yname, yon, yoff, .slice la k2.len lc⟩ : Lab)).toArray 27)).heap[w.heap.size]? = some (.cells (ndC (⟨xk, xa, xc, .slice sa xset.length sc, xset, xneg, xn, xm, xmode, xname, xon, xoff, .slice ka k.len kc⟩ : Lab)).toArray 27) ∧ ((w.alloc (.cells (ndC (⟨xk, xa, xc, .slice sa xset.length sc, xset, xneg, xn, xm, xmode, xname, xon, xoff, .slice ka k.len kc⟩ : Lab)).toArray 27)).alloc (.cells (ndC (⟨yk, ya, yc, .slice ta yset.length tc, yset, yneg, yn, ym, ymode, yname, yon, yoff, .slice la k2.len lc⟩ : Lab)).toArray 27)).heap[w.heap.size + 1]? = some (.cells (ndC (⟨yk, ya, yc, .slice ta yset.length tc, yset, yneg, yn, ym, ymode, yname, yon, yoff, .slice la k2.len lc⟩ : Lab)).toArray 27) from
   ⟨(qg w _).alloc (by simp) _, by rw [heap_alloc_old _ _ (by simp)]; exact heap_alloc_new _ _, by have := heap_alloc_new (w.alloc (.cells (ndC (⟨xk, xa, xc, .slice sa xset.length sc, xset, xneg, xn, xm, xmode, xname, xon, xoff, .slice ka k.len kc⟩ : Lab)).toArray 27)) (.cells (ndC (⟨yk, ya, yc, .slice ta yset.length tc, yset, yneg, yn, ym, ymode, yname, yon, yoff, .slice la k2.len lc⟩ : Lab)).toArray 27); simpa using this⟩)
  simp only [ndC] at HH;by_cases h_at : xa = ya;rotate_left
  ·have HR := xH (show plT ((⟨xk, xa, xc, .slice sa xset.length sc, xset, xneg, xn, xm, xmode, xname, xon, xoff, .slice ka k.len kc⟩ : Lab), k) ((⟨yk, ya, yc, .slice ta yset.length tc, yset, yneg, yn, ym, ymode, yname, yon, yoff, .slice la k2.len lc⟩ : Lab), k2) = false by simp [plT, h_at]);rw [HR.out];clear HS HT HK HM IH;have Q_at := xH h_at;clear h_at;unfold ndV;go_enter Try.func17, Try.ntmps17;go_upto_region 1 with (fail)
   generalize hg : (w.alloc _).alloc _ = W;have hh := HH.out;rw [hg] at hh;obtain ⟨hb0, hr, hs⟩ := hh;have HB := xH hb0;have R0 := xH (fun w1 (hb : Below W.heap.size W w1) => cells12 (x := (⟨xk, xa, xc, .slice sa xset.length sc, xset, xneg, xn, xm, xmode, xname, xon, xoff, .slice ka k.len kc⟩ : Lab)) ((hb.block _ (Array.getElem?_eq_some_iff.1 hr).1).trans hr));have R1 := xH (fun w1 (hb : Below W.heap.size W w1) => cells12 (x := (⟨yk, ya, yc, .slice ta yset.length tc, yset, yneg, yn, ym, ymode, yname, yon, yoff, .slice la k2.len lc⟩ : Lab)) ((hb.block _ (Array.getElem?_eq_some_iff.1 hs).1).trans hs));clear hg hb0 hr hs HH;obtain ⟨B1, hB1⟩ : ∃ B1, w.heap.size + 1 = B1 := ⟨_, rfl⟩;obtain ⟨B0, hB0⟩ : ∃ B0, w.heap.size = B0 := ⟨_, rfl⟩;rw [hB1] at R1 ⊢;rw [hB0] at R0 ⊢;have f0 : W.cell? ⟨B0, 0, none⟩ = some (.int .i64 xk) := R0.out W (Below.refl _ _) 0 _ rfl;have f1 : W.cell? ⟨B0, 1, none⟩ = some (.int .i64 xa) := R0.out W (Below.refl _ _) 1 _ rfl;have f2 : W.cell? ⟨B0, 2, none⟩ = some (.int .i64 xc) := R0.out W (Below.refl _ _) 2 _ rfl;have f3 : W.cell? ⟨B0, 3, none⟩ = some (.slice sa xset.length sc) := R0.out W (Below.refl _ _) 3 _ rfl;have f4 : W.cell? ⟨B0, 4, none⟩ = some (.bool xneg) := R0.out W (Below.refl _ _) 4 _ rfl;have f5 : W.cell? ⟨B0, 5, none⟩ = some (.int .i64 xn) := R0.out W (Below.refl _ _) 5 _ rfl;have f6 : W.cell? ⟨B0, 6, none⟩ = some (.int .i64 xm) := R0.out W (Below.refl _ _) 6 _ rfl;have f7 : W.cell? ⟨B0, 7, none⟩ = some (.int .i64 xmode) := R0.out W (Below.refl _ _) 7 _ rfl;have f8 : W.cell? ⟨B0, 8, none⟩ = some (.string xname) := R0.out W (Below.refl _ _) 8 _ rfl;have f9 : W.cell? ⟨B0, 9, none⟩ = some (.int .i64 xon) := R0.out W (Below.refl _ _) 9 _ rfl;have f10 : W.cell? ⟨B0, 10, none⟩ = some (.int .i64 xoff) := R0.out W (Below.refl _ _) 10 _ rfl;have f11 : W.cell? ⟨B0, 11, none⟩ = some (.slice ka k.len kc) := R0.out W (Below.refl _ _) 11 _ rfl;have g0 : W.cell? ⟨B1, 0, none⟩ = some (.int .i64 yk) := R1.out W (Below.refl _ _) 0 _ rfl;have g1 : W.cell? ⟨B1, 1, none⟩ = some (.int .i64 ya) := R1.out W (Below.refl _ _) 1 _ rfl;have g2 : W.cell? ⟨B1, 2, none⟩ = some (.int .i64 yc) := R1.out W (Below.refl _ _) 2 _ rfl;have g3 : W.cell? ⟨B1, 3, none⟩ = some (.slice ta yset.length tc) := R1.out W (Below.refl _ _) 3 _ rfl;have g4 : W.cell? ⟨B1, 4, none⟩ = some (.bool yneg) := R1.out W (Below.refl _ _) 4 _ rfl;have g5 : W.cell? ⟨B1, 5, none⟩ = some (.int .i64 yn) := R1.out W (Below.refl _ _) 5 _ rfl;have g6 : W.cell? ⟨B1, 6, none⟩ = some (.int .i64 ym) := R1.out W (Below.refl _ _) 6 _ rfl;have g7 : W.cell? ⟨B1, 7, none⟩ = some (.int .i64 ymode) := R1.out W (Below.refl _ _) 7 _ rfl;have g8 : W.cell? ⟨B1, 8, none⟩ = some (.string yname) := R1.out W (Below.refl _ _) 8 _ rfl;have g9 : W.cell? ⟨B1, 9, none⟩ = some (.int .i64 yon) := R1.out W (Below.refl _ _) 9 _ rfl;have g10 : W.cell? ⟨B1, 10, none⟩ = some (.int .i64 yoff) := R1.out W (Below.refl _ _) 10 _ rfl;have g11 : W.cell? ⟨B1, 11, none⟩ = some (.slice la k2.len lc) := R1.out W (Below.refl _ _) 11 _ rfl;have h_at := Q_at.out;clear Q_at;have e_at : (xa == ya) = false := by simpa using h_at
   have d_at : (xa != ya) = true := by simpa using h_at
   go_wp2_with fail
   go_ret
   exact ⟨rfl, HB.out⟩
  by_cases h_kids : k.len = k2.len;rotate_left
  ·have HR := xH (show plT ((⟨xk, xa, xc, .slice sa xset.length sc, xset, xneg, xn, xm, xmode, xname, xon, xoff, .slice ka k.len kc⟩ : Lab), k) ((⟨yk, ya, yc, .slice ta yset.length tc, yset, yneg, yn, ym, ymode, yname, yon, yoff, .slice la k2.len lc⟩ : Lab), k2) = false by simp [plT, h_kids]);rw [HR.out];clear HS HT HK HM IH;have Q_at := xH h_at;have Q_kids := xH h_kids;clear h_at h_kids;unfold ndV;go_enter Try.func17, Try.ntmps17;go_upto_region 1 with (fail)
   generalize hg : (w.alloc _).alloc _ = W;have hh := HH.out;rw [hg] at hh;obtain ⟨hb0, hr, hs⟩ := hh;have HB := xH hb0;have R0 := xH (fun w1 (hb : Below W.heap.size W w1) => cells12 (x := (⟨xk, xa, xc, .slice sa xset.length sc, xset, xneg, xn, xm, xmode, xname, xon, xoff, .slice ka k.len kc⟩ : Lab)) ((hb.block _ (Array.getElem?_eq_some_iff.1 hr).1).trans hr));have R1 := xH (fun w1 (hb : Below W.heap.size W w1) => cells12 (x := (⟨yk, ya, yc, .slice ta yset.length tc, yset, yneg, yn, ym, ymode, yname, yon, yoff, .slice la k2.len lc⟩ : Lab)) ((hb.block _ (Array.getElem?_eq_some_iff.1 hs).1).trans hs));clear hg hb0 hr hs HH;obtain ⟨B1, hB1⟩ : ∃ B1, w.heap.size + 1 = B1 := ⟨_, rfl⟩;obtain ⟨B0, hB0⟩ : ∃ B0, w.heap.size = B0 := ⟨_, rfl⟩;rw [hB1] at R1 ⊢;rw [hB0] at R0 ⊢;have f0 : W.cell? ⟨B0, 0, none⟩ = some (.int .i64 xk) := R0.out W (Below.refl _ _) 0 _ rfl;have f1 : W.cell? ⟨B0, 1, none⟩ = some (.int .i64 xa) := R0.out W (Below.refl _ _) 1 _ rfl;have f2 : W.cell? ⟨B0, 2, none⟩ = some (.int .i64 xc) := R0.out W (Below.refl _ _) 2 _ rfl;have f3 : W.cell? ⟨B0, 3, none⟩ = some (.slice sa xset.length sc) := R0.out W (Below.refl _ _) 3 _ rfl;have f4 : W.cell? ⟨B0, 4, none⟩ = some (.bool xneg) := R0.out W (Below.refl _ _) 4 _ rfl;have f5 : W.cell? ⟨B0, 5, none⟩ = some (.int .i64 xn) := R0.out W (Below.refl _ _) 5 _ rfl;have f6 : W.cell? ⟨B0, 6, none⟩ = some (.int .i64 xm) := R0.out W (Below.refl _ _) 6 _ rfl;have f7 : W.cell? ⟨B0, 7, none⟩ = some (.int .i64 xmode) := R0.out W (Below.refl _ _) 7 _ rfl;have f8 : W.cell? ⟨B0, 8, none⟩ = some (.string xname) := R0.out W (Below.refl _ _) 8 _ rfl;have f9 : W.cell? ⟨B0, 9, none⟩ = some (.int .i64 xon) := R0.out W (Below.refl _ _) 9 _ rfl;have f10 : W.cell? ⟨B0, 10, none⟩ = some (.int .i64 xoff) := R0.out W (Below.refl _ _) 10 _ rfl;have f11 : W.cell? ⟨B0, 11, none⟩ = some (.slice ka k.len kc) := R0.out W (Below.refl _ _) 11 _ rfl;have g0 : W.cell? ⟨B1, 0, none⟩ = some (.int .i64 yk) := R1.out W (Below.refl _ _) 0 _ rfl;have g1 : W.cell? ⟨B1, 1, none⟩ = some (.int .i64 ya) := R1.out W (Below.refl _ _) 1 _ rfl;have g2 : W.cell? ⟨B1, 2, none⟩ = some (.int .i64 yc) := R1.out W (Below.refl _ _) 2 _ rfl;have g3 : W.cell? ⟨B1, 3, none⟩ = some (.slice ta yset.length tc) := R1.out W (Below.refl _ _) 3 _ rfl;have g4 : W.cell? ⟨B1, 4, none⟩ = some (.bool yneg) := R1.out W (Below.refl _ _) 4 _ rfl;have g5 : W.cell? ⟨B1, 5, none⟩ = some (.int .i64 yn) := R1.out W (Below.refl _ _) 5 _ rfl;have g6 : W.cell? ⟨B1, 6, none⟩ = some (.int .i64 ym) := R1.out W (Below.refl _ _) 6 _ rfl;have g7 : W.cell? ⟨B1, 7, none⟩ = some (.int .i64 ymode) := R1.out W (Below.refl _ _) 7 _ rfl;have g8 : W.cell? ⟨B1, 8, none⟩ = some (.string yname) := R1.out W (Below.refl _ _) 8 _ rfl;have g9 : W.cell? ⟨B1, 9, none⟩ = some (.int .i64 yon) := R1.out W (Below.refl _ _) 9 _ rfl;have g10 : W.cell? ⟨B1, 10, none⟩ = some (.int .i64 yoff) := R1.out W (Below.refl _ _) 10 _ rfl;have g11 : W.cell? ⟨B1, 11, none⟩ = some (.slice la k2.len lc) := R1.out W (Below.refl _ _) 11 _ rfl;have h_at := Q_at.out;have h_kids := Q_kids.out;clear Q_at Q_kids;have i_kids : ¬ (k.len : Int) = (k2.len : Int) := by omega
   have e_kids : ((k.len : Int) == (k2.len : Int)) = false := by simp; omega
   have d_kids : ((k.len : Int) != (k2.len : Int)) = true := by simp; omega
   go_wp2_with fail
   go_ret
   exact ⟨rfl, HB.out⟩
  obtain ⟨R, hR⟩ : ∃ R, plF k k2 = R := ⟨_, rfl⟩;have HR := xH (show plT ((⟨xk, xa, xc, .slice sa xset.length sc, xset, xneg, xn, xm, xmode, xname, xon, xoff, .slice ka k.len kc⟩ : Lab), k) ((⟨yk, ya, yc, .slice ta yset.length tc, yset, yneg, yn, ym, ymode, yname, yon, yoff, .slice la k2.len lc⟩ : Lab), k2) = R by simp only [plT]; rw [← hR]; simp [h_at, h_kids]);rw [HR.out];have H0 := xH hR;have hlK := xH h_kids;clear hR HR;have Q_at := xH h_at;have Q_kids := xH h_kids;clear h_at h_kids;unfold ndV;go_enter Try.func17, Try.ntmps17;go_upto_region 1 with (fail)
  generalize hg : (w.alloc _).alloc _ = W;have hh := HH.out;rw [hg] at hh;obtain ⟨hb0, hr, hs⟩ := hh;have HB := xH hb0;have R0 := xH (fun w1 (hb : Below W.heap.size W w1) => cells12 (x := (⟨xk, xa, xc, .slice sa xset.length sc, xset, xneg, xn, xm, xmode, xname, xon, xoff, .slice ka k.len kc⟩ : Lab)) ((hb.block _ (Array.getElem?_eq_some_iff.1 hr).1).trans hr));have R1 := xH (fun w1 (hb : Below W.heap.size W w1) => cells12 (x := (⟨yk, ya, yc, .slice ta yset.length tc, yset, yneg, yn, ym, ymode, yname, yon, yoff, .slice la k2.len lc⟩ : Lab)) ((hb.block _ (Array.getElem?_eq_some_iff.1 hs).1).trans hs));clear hg hb0 hr hs HH;obtain ⟨B1, hB1⟩ : ∃ B1, w.heap.size + 1 = B1 := ⟨_, rfl⟩;obtain ⟨B0, hB0⟩ : ∃ B0, w.heap.size = B0 := ⟨_, rfl⟩;rw [hB1] at R1 ⊢;rw [hB0] at R0 ⊢;have f0 : W.cell? ⟨B0, 0, none⟩ = some (.int .i64 xk) := R0.out W (Below.refl _ _) 0 _ rfl;have f1 : W.cell? ⟨B0, 1, none⟩ = some (.int .i64 xa) := R0.out W (Below.refl _ _) 1 _ rfl;have f2 : W.cell? ⟨B0, 2, none⟩ = some (.int .i64 xc) := R0.out W (Below.refl _ _) 2 _ rfl;have f3 : W.cell? ⟨B0, 3, none⟩ = some (.slice sa xset.length sc) := R0.out W (Below.refl _ _) 3 _ rfl;have f4 : W.cell? ⟨B0, 4, none⟩ = some (.bool xneg) := R0.out W (Below.refl _ _) 4 _ rfl;have f5 : W.cell? ⟨B0, 5, none⟩ = some (.int .i64 xn) := R0.out W (Below.refl _ _) 5 _ rfl;have f6 : W.cell? ⟨B0, 6, none⟩ = some (.int .i64 xm) := R0.out W (Below.refl _ _) 6 _ rfl;have f7 : W.cell? ⟨B0, 7, none⟩ = some (.int .i64 xmode) := R0.out W (Below.refl _ _) 7 _ rfl;have f8 : W.cell? ⟨B0, 8, none⟩ = some (.string xname) := R0.out W (Below.refl _ _) 8 _ rfl;have f9 : W.cell? ⟨B0, 9, none⟩ = some (.int .i64 xon) := R0.out W (Below.refl _ _) 9 _ rfl;have f10 : W.cell? ⟨B0, 10, none⟩ = some (.int .i64 xoff) := R0.out W (Below.refl _ _) 10 _ rfl;have f11 : W.cell? ⟨B0, 11, none⟩ = some (.slice ka k.len kc) := R0.out W (Below.refl _ _) 11 _ rfl;have g0 : W.cell? ⟨B1, 0, none⟩ = some (.int .i64 yk) := R1.out W (Below.refl _ _) 0 _ rfl;have g1 : W.cell? ⟨B1, 1, none⟩ = some (.int .i64 ya) := R1.out W (Below.refl _ _) 1 _ rfl;have g2 : W.cell? ⟨B1, 2, none⟩ = some (.int .i64 yc) := R1.out W (Below.refl _ _) 2 _ rfl;have g3 : W.cell? ⟨B1, 3, none⟩ = some (.slice ta yset.length tc) := R1.out W (Below.refl _ _) 3 _ rfl;have g4 : W.cell? ⟨B1, 4, none⟩ = some (.bool yneg) := R1.out W (Below.refl _ _) 4 _ rfl;have g5 : W.cell? ⟨B1, 5, none⟩ = some (.int .i64 yn) := R1.out W (Below.refl _ _) 5 _ rfl;have g6 : W.cell? ⟨B1, 6, none⟩ = some (.int .i64 ym) := R1.out W (Below.refl _ _) 6 _ rfl;have g7 : W.cell? ⟨B1, 7, none⟩ = some (.int .i64 ymode) := R1.out W (Below.refl _ _) 7 _ rfl;have g8 : W.cell? ⟨B1, 8, none⟩ = some (.string yname) := R1.out W (Below.refl _ _) 8 _ rfl;have g9 : W.cell? ⟨B1, 9, none⟩ = some (.int .i64 yon) := R1.out W (Below.refl _ _) 9 _ rfl;have g10 : W.cell? ⟨B1, 10, none⟩ = some (.int .i64 yoff) := R1.out W (Below.refl _ _) 10 _ rfl;have g11 : W.cell? ⟨B1, 11, none⟩ = some (.slice la k2.len lc) := R1.out W (Below.refl _ _) 11 _ rfl;have h_at := Q_at.out;have h_kids := Q_kids.out;clear Q_at Q_kids;go_wp2_with fail
  clear f0 g0 f1 g1 f2 g2 f3 g3 f4 g4 f5 g5 f6 g6 f7 g7 f8 g8 f9 g9 f10 g10 f11 g11;clear h_at h_kids
  go_loopw [5] (fun iv wz => ∃ i : Nat, iv = .int .i64 i ∧ i ≤ k.len ∧ Hid (plF (k.drop i) (k2.drop i) = R) ∧ Below W.heap.size W wz) (fun iv _ => k.len - (intOf iv).toNat)
  case atStart => exact ⟨0, rfl, Nat.zero_le _, xH (by rw [drop_zero, drop_zero]; exact H0.out), Below.refl _ _⟩
  case round =>
   clear H0;obtain ⟨i, rfl, hi, HA, hb⟩ := hrel;have c11 : wr.cell? ⟨B0, 11, none⟩ = some (.slice ka k.len kc) := R0.out wr hb 11 _ rfl;have d11 : wr.cell? ⟨B1, 11, none⟩ = some (.slice la k2.len lc) := R1.out wr hb 11 _ rfl;by_cases hend : i = k.len
   ·have HRes := xH (show true = R by have := HA.out; rw [drop_end (by omega), drop_end (by have := hlK.out; omega)] at this; exact this);subst hend;go_wp2_with fail
    go_ret
    exact ⟨by rw [← HRes.out]; rfl, HB.out.trans (hb.mono HB.out.size)⟩
   ·have hlt : i < k.len := by omega
    obtain ⟨y, k', r, hdr⟩ := drop_lt (f := k) (i := i) hlt;obtain ⟨z, m', r', hdr2⟩ := drop_lt (f := k2) (i := i) (by have := hlK.out; omega);have hbw := HB.out.trans (hb.mono HB.out.size);obtain ⟨b1, o1, cap1, hv1, _, _, _, hf1⟩ := kid_at (below_kids hbw HK.out) hdr;obtain ⟨b2, o2, cap2, hv2, _, _, _, hf2⟩ := kid_at (below_kids hbw HM.out) hdr2;obtain ⟨rfl, rfl⟩ : ka = some ⟨b1, o1, none⟩ ∧ kc = cap1 := by have := hv1;simp only [Value.slice.injEq] at this;exact ⟨this.1, this.2.2⟩
    obtain ⟨rfl, rfl⟩ : la = some ⟨b2, o2, none⟩ ∧ lc = cap2 := by have := hv2;simp only [Value.slice.injEq] at this;exact ⟨this.1, this.2.2⟩
    have hsz := size_lt hdr;have n1 := fAt_head hf1;have n2 := fAt_head hf2;have E1 := xH (hf1.1);have E2 := xH (hf2.1);have hstep : (plT (y, k') (z, m') && plF (k.drop (i + 1)) (k2.drop (i + 1))) = R := by rw [drop_succ hdr, drop_succ hdr2, ← HA.out, hdr, hdr2];rfl
    have HI := xH (fun w1 (h : Below wr.heap.size wr w1) => IH.out (y, k') (z, m') w1 (by show k'.size < n; omega) (vO h n1) (vO h n2));obtain ⟨q, hq⟩ : ∃ q, plT (y, k') (z, m') = q := ⟨_, rfl⟩;rw [hq] at hstep HI;have HN := xH hstep;have a1 := add_row b1 o1 i 12;have a2 := add_row b2 o2 i 12;have i1 : (i : Int) < (k.len : Int) := by omega
    have i2 : (i : Int) < (k2.len : Int) := by omega
    have C11 := xH c11;have D11 := xH d11;clear hv1 hv2 hf1 hf2 hdr hdr2 n1 n2 hstep hq HA;go_wp2_with fail
    refine wp_region_held_drew (S := fun w' => Below wr.heap.size wr w') (by kernel_rfl) (qL wr) (fun hHeld => ?_);refine yG 0 (fun w' hSw => qf hSw C11.out) (fun w' hSw => qf hSw D11.out) ?_;simp only [xS];refine yG 1 (fun w' hSw => qf hSw C11.out) (fun w' hSw => qf hSw D11.out) ?_;simp only [xS];refine yG 2 (fun w' hSw => qf hSw C11.out) (fun w' hSw => qf hSw D11.out) ?_;simp only [xS];refine yG 3 (fun w' hSw => qf hSw C11.out) (fun w' hSw => qf hSw D11.out) ?_;simp only [xS];refine xT 4 rfl ?_ ?_ ?_;rotate_left
    ·intro w' hSw;refine jT (x := .tmp 31) (b := b1) (off := o1 + i * 12) (l := y) ?_ ?_ (fun j v hj => qf hSw (E1.out j v hj)) <;> rfl
    simp only [xS];refine yG 5 (fun w' hSw => qf hSw C11.out) (fun w' hSw => qf hSw D11.out) ?_;simp only [xS];refine yG 6 (fun w' hSw => qf hSw C11.out) (fun w' hSw => qf hSw D11.out) ?_;simp only [xS];refine yG 7 (fun w' hSw => qf hSw C11.out) (fun w' hSw => qf hSw D11.out) ?_;simp only [xS];refine yG 8 (fun w' hSw => qf hSw C11.out) (fun w' hSw => qf hSw D11.out) ?_;simp only [xS];refine xT 9 rfl ?_ ?_ ?_;rotate_left
    ·intro w' hSw;refine jT (x := .tmp 36) (b := b2) (off := o2 + i * 12) (l := z) ?_ ?_ (fun j v hj => qf hSw (E2.out j v hj)) <;> rfl
    simp only [xS];refine xD 10 rfl (fun K hK => ?_);go_simp;refine (HI.out _ hHeld).mono ?_;rintro e w4 ⟨rfl, hb5⟩;have hb4 : Below wr.heap.size wr w4 := hHeld.trans (hb5.mono hHeld.size);refine hK.out _ _ hb4 (fun hHeld => ?_);clear hK K;try simp only [xS]
    refine yT 11 ?_;simp only [xS];refine wpAnyH_done (by kernel_rfl) ?_ _;clear c11 d11;cases q with
    | false =>
     exact z172
    | true =>
     have HN2 := xH (show plF (k.drop (i + 1)) (k2.drop (i + 1)) = R by rw [← HN.out]; rfl);exact z111
end trw
end
section
namespace gqw
open sq
open Go.Sort Go Go.RowKit Go.Maps setp setw tkp trp trw rpp rsp gpp sq
open gpw (numN_strip)
theorem same_strip9 : ∀ f g : F, strip f = strip g → sameF f g = true ∧ plF f g = true
 | .nil, .nil, _ => ⟨rfl, rfl⟩
 | .nil, .cons _ _ _, h => by cases h
 | .cons _ _ _, .nil, h => by cases h
 | .cons x k r, .cons y k' r', h => by
  simp only [strip, F.cons.injEq] at h;obtain ⟨h1, h2, h3⟩ := h;have a := same_strip9 k k' h2;have b := same_strip9 r r' h3;have hl : k.len = k'.len := by rw [← rpw.jm k, h2, rpw.jm]
  simp only [Lab.mk.injEq] at h1;obtain ⟨e1, e2, e3, _, e4, e5, e6, e7, e8, e9, e10, e11, _⟩ := h1;simp [sameF, plF, labEq, a.1, a.2, b.1, b.2, hl, e1, e2, e3, e4, e5, e6, e7, e8, e9, e10, e11]
theorem same9 {x y : Lab} {k j : F} (h : strip (F.one x k) = strip (F.one y j)) : sameT (x, k) (y, j) = true ∧ plT (x, k) (y, j) = true := by have := same_strip9 _ _ h;simp only [F.one, sameF, plF, Bool.and_true] at this;exact this
theorem num_link (y : Lab) (j : F) :
 ((nameR [] (capL (refN y j 0).1)).1.1 ≠ 0 → (qH (y, j)).1 = (nameR [] (capL (refN y j 0).1)).1) ∧
 ((nameR [] (capL (refN y j 0).1)).1.1 = 0 → (qH (y, j)).1 = (0, 0) ∧ strip (F.one (qH (y, j)).2.1.1 (qH (y, j)).2.1.2) = (refN y j 0).1 ∧ (qH (y, j)).2.2 = ((refN y j 0).2, (nameR [] (capL (refN y j 0).1)).2)) := by
 have h := number_ref (bare y, strip j);have hc := refF_cons false 0 y j .nil 0;rw [show strip (.cons y j .nil) = .cons (bare y) (strip j) .nil from rfl] at hc;have h0 := (refN_hi y j 0).1;have e1 : (refF false 0 (.cons (bare y) (strip j) .nil) 0).1 = (refN y j 0).1 := by rw [hc];show F.app (refN y j 0).1 .nil = _;exact app_nil _
 have e2 : (refF false 0 (.cons (bare y) (strip j) .nil) 0).2 = (refN y j 0).2 := by rw [hc];show (if (0 : Int) < (refN y j 0).2 then (refN y j 0).2 else 0) = (refN y j 0).2;split <;> omega
 rw [e1, e2] at h;have hs := numN_strip y j (0, []);have hn : qH (bare y, strip j) = ((qH (y, j)).1, ({ (qH (y, j)).2.1.1 with sv := nil3, kv := nil3 }, strip (qH (y, j)).2.1.2), (qH (y, j)).2.2) := hs;rw [hn] at h;exact h
theorem nsame_any (v u : Value) (l : Nm) (w : World) (hv : NmI9 w v l) (hu : NmI9 w u l) : Calls Try.prog 18 #[v, u] w (trw.BoolB true w) := by
 obtain ⟨a, c, rfl, hl, hc⟩ := hv;obtain ⟨b, d, rfl, _, hd⟩ := hu;have HC := xH hc;have HD := xH hd;have hl5 : (l.length : Int) ≤ 9223372036854775807 := by omega
 clear hc hd;go_enter Try.func18, Try.ntmps18;go_wp2_with fail
 go_loopw [5] (fun vi wr => ∃ i : Nat, vi = .int .i64 i ∧ i ≤ l.length ∧ Hid (Below w.heap.size w wr)) (fun vi _ => l.length - (intOf vi).toNat)
 case atStart => exact ⟨0, rfl, Nat.zero_le _, xH (Below.refl _ _)⟩
 case round =>
  obtain ⟨i, rfl, hi, HB⟩ := hrel;by_cases hlt : i < l.length
  ·obtain ⟨p, hp⟩ : ∃ p, l[i]? = some p := ⟨_, List.getElem?_eq_getElem hlt⟩;have hne : ¬ l = [] := fun e => by rw [e] at hlt; exact absurd hlt (Nat.not_lt_zero _)
   obtain ⟨ga, rfl, hca⟩ := HC.out.resolve_left hne;obtain ⟨gb, rfl, hcb⟩ := HD.out.resolve_left hne;have c0 := trw.qf HB.out (hca i p hp).1;have c1 := trw.qf HB.out (hca i p hp).2;have d0 := trw.qf HB.out (hcb i p hp).1;have d1 := trw.qf HB.out (hcb i p hp).2;have hi5 : i < 9223372036854775807 := by omega
   have i1 : (i : Int) < (l.length : Int) := by omega
   have beq : (p.1.toList == p.1.toList) = true := beq_self_eq_true _;clear hca hcb hp hne;go_upto_region 6 with (fail)
   go_quiet (fail)
   rename_i nq;go_wp2_with fail
   go_roundw
   case rel => exact ⟨i + 1, by go_num, by omega, xH (HB.out.trans ((tkw.zI (Below.refl _ _) nq).mono HB.out.size))⟩
   case measure => simp [intOf]; omega
  ·have hd : decide (i < l.length) = false := by simpa using hlt
   clear hlt;go_wp2_with fail
   go_ret
   exact ⟨rfl, HB.out⟩
end gqw
end
section
namespace gqw
open sq
open Go.Sort Go Go.RowKit Go.Maps setp setw tkp trp trw rpp rsp gpp sq
open rpw (sees jB qp ql)
open gpw (zV flat_ok ndI_at nmC)
open utfw (Sl at_ strOf)
open tkw (sg)
open rsw (flatP FlatB zH)
theorem sees_none9 {w : World} {h : Nat → Bool} {t : Nd} (H : NdAt (sees h w) t) : NdAt w t := qY (fun _ _ hc => (jB.1 hc).2) H
theorem nd129 {w : World} {b : Nat} {x : Lab} (h : w.heap[b]? = some (.cells (ndC x).toArray 27 (0, 0))) : w.cell? ⟨b, 0, none⟩ = some (.int .i64 x.kind) ∧ w.cell? ⟨b, 1, none⟩ = some (.int .i64 x.at_) ∧ w.cell? ⟨b, 2, none⟩ = some (.int .i64 x.c) ∧ w.cell? ⟨b, 3, none⟩ = some x.sv ∧ w.cell? ⟨b, 4, none⟩ = some (.bool x.neg) ∧ w.cell? ⟨b, 5, none⟩ = some (.int .i64 x.n) ∧ w.cell? ⟨b, 6, none⟩ = some (.int .i64 x.m) ∧ w.cell? ⟨b, 7, none⟩ = some (.int .i64 x.mode) ∧ w.cell? ⟨b, 8, none⟩ = some (.string x.name) ∧ w.cell? ⟨b, 9, none⟩ = some (.int .i64 x.on) ∧ w.cell? ⟨b, 10, none⟩ = some (.int .i64 x.off) ∧ w.cell? ⟨b, 11, none⟩ = some x.kv := by unfold World.cell?;rw [h];exact ⟨rfl, rfl, rfl, rfl, rfl, rfl, rfl, rfl, rfl, rfl, rfl, rfl⟩
theorem st9 {w w' : World} {y : Lab} (h : w' = (w.alloc (.cells zC.toArray 27)).setRow w.heap.size (ndC y).toArray) : Below w.heap.size w w' ∧ w'.heap[w.heap.size]? = some (.cells (ndC y).toArray 27 (0, 0)) := by subst h;exact ⟨rpw.jU w _ _ _, setRow_heap _ _ _ _ _ _ (heap_alloc_new w _)⟩
structure Two (w : World) (y1 y2 : Lab) (j1 j2 : F) (v1 v2 : Value) (l : Nm) : Prop where
 a : NdAt w (y1, j1)
 b : NdAt w (y2, j2)
 s : strip (F.one y1 j1) = strip (F.one y2 j2)
 n1 : NmI9 w v1 l
 n2 : NmI9 w v2 l
theorem Two.below {w w' : World} {y1 y2 : Lab} {j1 j2 : F} {v1 v2 : Value} {l : Nm} (h : Two w y1 y2 j1 j2 v1 v2 l) (hb : Below w.heap.size w w') : Two w' y1 y2 j1 j2 v1 v2 l :=
 ⟨trw.vO hb h.a, trw.vO hb h.b, h.s, nm_blw9 h.n1 hb, nm_blw9 h.n2 hb⟩
theorem nmI_nil (w : World) : NmI9 w nil3 [] := ⟨none, 0, rfl, by simp, Or.inl rfl⟩
def TwoB (T : F) (c e p : Int) (l : Nm) (w : World) (r : Ending) (w' : World) : Prop := Below w.heap.size w w' ∧ ∃ y1 j1 v1, r = .returned (.tuple #[ndV y1, .int .i64 c, v1, .int .i64 e, .int .i64 p]) ∧ NdAt w' (y1, j1) ∧ NmI9 w' v1 l ∧ strip (F.one y1 j1) = T
theorem two_of {n : Nat} {g : Nat → Int} {o : Int} {t : F} (ht : flatP (sg (strOf n g)) n o = some t) {y : Lab} {j : F} (hs : strip (F.one y j) = t) :
 ∃ (T : F) (c e p : Int) (l : Nm), (∀ w, NdAt w (y, j) → Calls Try.prog 14 #[ndV y] w (TwoB T c e p l w)) ∧
  (∀ w, NdAt w (y, j) → Calls Try.prog 15 #[ndV y] w (TwoB T c e p l w)) := by
 have hz : (F.one y j).size ≤ 100000 := by rw [← rsp.strip_size, hs]; exact (flat_ok ht).2
 have hj : j.size < 100000 := by simp only [F.one, F.size] at hz; omega
 obtain ⟨l1, l2⟩ := num_link y j;have hcl : (nameR [] (capL (refN y j 0).1)).2.length ≤ 2000000 := by
  have h1 : ∀ (c : List Lab) (l : Nm), (nameR l c).2.length ≤ l.length + c.length := by
   intro c
   induction c with
   | nil => intro l; simp [nameR]
   | cons x c ih =>
    intro l;have ha : (addR x l).2.length ≤ l.length + 1 := by
     unfold addR
     repeat' split
     all_goals simp
    rw [nameR];split
    ·simp
    ·have := ih (addR x l).2;simp only [List.length_cons];omega
  have h2 := h1 (capL (refN y j 0).1) [];have h3 := capL_len (refN y j 0).1;have h4 : (refN y j 0).1.size ≤ 100001 := by
   have : ∀ (f : F) (rs : Bool) (a b : Int), (refF rs a f b).1.size = f.size := by
    intro f
    induction f with
    | nil => intros; rfl
    | cons x k r ih1 ih2 => intro rs a b; rw [refF]; simp only [F.size]; rw [ih1, ih2]
   unfold refN;simp only [F.one, F.size];rw [this, rsp.strip_size];omega
  simp only [List.length_nil] at h2;omega
 have hR : ∀ w, NdAt w (y, j) → Calls Try.prog 15 #[ndV y] w (RNumB (fun _ => false) (refN y j 0) (nameR [] (capL (refN y j 0).1)) w) := fun w hn => rnumber_any (fun _ => false) y j w (fun i hi => by cases hi) (qY (fun _ _ hc => jB.2 ⟨rfl, hc⟩) hn) hj
 have hP : ∀ w, NdAt w (y, j) → Calls Try.prog 14 #[ndV y] w (gpw.NumB y j w) := fun w hn => zV ht hs w hn
 generalize nameR [] (capL (refN y j 0).1) = C at *;by_cases c0 : C.1.1 = 0
 ·obtain ⟨m1, m2, m3⟩ := l2 c0;refine ⟨(refN y j 0).1, (refN y j 0).2, 0, 0, C.2, fun w hn => (hP w hn).mono ?_, fun w hn => (hR w hn).mono ?_⟩
  ·rintro e w' ⟨hb, ⟨h0, _⟩ | ⟨h0, y1, j1, v1, rfl, hn1, hs1, hr1, hz1⟩⟩
   ·rw [m1] at h0;exact absurd rfl h0
   ·rw [m3] at hr1 hz1 ⊢;exact ⟨hb, y1, j1, v1, rfl, ndI_at hn1, nm_i9 hr1 hz1 hcl, by rw [← m2]; exact hs1⟩
  ·rintro e w' ⟨hb, ⟨h0, _⟩ | ⟨h0, y1, j1, v1, rfl, hn1, hs1, hr1, hz1⟩⟩
   ·exact absurd c0 h0
   ·exact ⟨hb, y1, j1, v1, rfl, sees_none9 hn1, nm_i9 hr1 hz1 hcl, hs1⟩
 ·have m1 := l1 c0;refine ⟨F.one (lab 0 0) .nil, 0, C.1.1, C.1.2, [], fun w hn => (hP w hn).mono ?_, fun w hn => (hR w hn).mono ?_⟩
  ·rintro e w' ⟨hb, ⟨h0, rfl⟩ | ⟨h0, _⟩⟩
   ·rw [m1];exact ⟨hb, lab 0 0, .nil, nil3, rfl, rpw.zero_at w', nmI_nil w', rfl⟩
   ·rw [m1] at h0;exact absurd h0 c0
  ·rintro e w' ⟨hb, ⟨h0, rfl⟩ | ⟨h0, _⟩⟩
   ·exact ⟨hb, lab 0 0, .nil, nil3, rfl, rpw.zero_at w', nmI_nil w', rfl⟩
   ·exact absurd h0 c0
theorem says_law9 (v : Value) (n : Nat) (g : Nat → Int) (o : Int) (w : World) (hv : Sl w v n g) : Calls Try.prog 3 #[v, .int .i64 o] w (BoolB true w) := by
 have HFL := xH (fun w1 (hb : Below w.heap.size w w1) => zH v n g o w1 (utfw.below_sl hb hv));clear hv;go_enter Try.func3, Try.ntmps3;go_wp2_with fail
 refine (gpw.awake_any w).mono ?_;rintro e w1 ⟨rfl, hb1⟩;have HB1 := xH hb1;clear hb1;go_wp2_with fail
 refine (HFL.out w1 HB1.out).mono ?_;obtain ⟨R, hR⟩ : ∃ R, flatP (sg (strOf n g)) n o = R := ⟨_, rfl⟩;rw [hR];cases R with
 | none =>
  rintro e w2 ⟨hb2, rfl⟩;have HB2 := xH (trw.qi HB1.out hb2);have HG := xH (heap_alloc_new w2 (.cells zC.toArray 27));have HO := xH (qp (t := (lab 0 0, F.nil)) (rpw.zero_at w2));unfold zC at HG;clear hb2 hR HFL;dsimp only;unfold ndV;go_upto_region 5 with (refine wpList_store_ny rfl rfl _ _ rfl w2.heap.size rfl _ (lab 0 0) HG.out rfl HO.out rfl ?_; intro w3 h3; have HB3 := xH (st9 h3.out).1; clear h3)
  go_wp2_with fail
  go_ret
  exact ⟨rfl, trw.qi HB2.out HB3.out⟩
 | some t =>
  rintro e w2 ⟨hb2, y, j, rfl, hn, hs⟩;have HB2 := xH (trw.qi HB1.out hb2);have HND := xH hn;have HO := xH (qp hn);have HG := xH (heap_alloc_new w2 (.cells zC.toArray 27));obtain ⟨T, c, er, p, l, hP, hQ⟩ := two_of hR hs;have HP := xH hP;have HQ := xH hQ;unfold zC at HG;clear hb2 hn hs HB1 hR HFL hP hQ;dsimp only;unfold ndV;go_upto_region 5 with (refine wpList_store_ny rfl rfl _ _ rfl w2.heap.size rfl _ y HG.out rfl HO.out rfl ?_; intro w3 h3; have HS3 := xH (st9 h3.out); clear h3)
  have HB3 := xH (trw.qi HB2.out HS3.out.1);have HN3 := xH (trw.vO HS3.out.1 HND.out);have HG3 := xH HS3.out.2;generalize w2.heap.size = A0 at *;clear HS3 HG HND HB2;have HC3 := xH (HP.out w3 HN3.out);go_wp2_with (first
   | (refine ql rfl _ rfl A0 rfl y HG3.out ?_)
   | (refine HC3.out.mono ?_))
  rintro e w4 ⟨hb4, y1, j1, v1, rfl, hn1, hm1, hs1⟩;have HB4 := xH (trw.qi HB3.out hb4);have HN4 := xH (trw.vO hb4 HN3.out);have HG4 := xH ((hb4.block A0 (Array.getElem?_eq_some_iff.1 HG3.out).1).trans HG3.out);have HA4 := xH hn1;have HM4 := xH hm1;have HS1 := xH hs1;have HO1 := xH (qp hn1);have HGA := xH (heap_alloc_new w4 (.cells zC.toArray 27));obtain ⟨ma, mc, hv1, _⟩ := id hm1;subst hv1;unfold zC at HGA;clear hb4 hn1 hm1 hs1 HC3 HP HG3 HN3 HB3;dsimp only;unfold ndV;go_upto_region 8 with (refine wpList_store_ny rfl rfl _ _ rfl w4.heap.size rfl _ y1 HGA.out rfl HO1.out rfl ?_; intro w5 h5; have HS5 := xH (st9 h5.out); clear h5)
  have HB5 := xH (trw.qi HB4.out HS5.out.1);have HN5 := xH (trw.vO HS5.out.1 HN4.out);have HA5 := xH (trw.vO HS5.out.1 HA4.out);have HM5 := xH (nm_blw9 HM4.out HS5.out.1);have HG5 := xH ((HS5.out.1.block A0 (Array.getElem?_eq_some_iff.1 HG4.out).1).trans HG4.out);have HK5 := xH HS5.out.2;generalize w4.heap.size = A1 at *;clear HS5 HGA HA4 HM4 HN4 HG4 HB4;have HC5 := xH (HQ.out w5 HN5.out);go_wp2_with (first
   | (refine ql rfl _ rfl A0 rfl y HG5.out ?_)
   | (refine HC5.out.mono ?_))
  rintro e w6 ⟨hb6, y2, j2, v2, rfl, hn2, hm2, hs2⟩;have HB6 := xH (trw.qi HB5.out hb6);have HT6 := xH (show Two w6 y1 y2 j1 j2 _ v2 l from ⟨trw.vO hb6 HA5.out, hn2, HS1.out.trans hs2.symm, nm_blw9 HM5.out hb6, hm2⟩);have HK6 := xH ((hb6.block A1 (Array.getElem?_eq_some_iff.1 HK5.out).1).trans HK5.out);have HO2 := xH (qp hn2);have HGB := xH (heap_alloc_new w6 (.cells zC.toArray 27));obtain ⟨na, nc, hv2, _⟩ := id hm2;subst hv2;unfold zC at HGB;clear hb6 hn2 hm2 hs2 HC5 HQ HG5 HN5 HA5 HM5 HB5 HK5;dsimp only;unfold ndV;go_upto_region 9 with (refine wpList_store_ny rfl rfl _ _ rfl w6.heap.size rfl _ y2 HGB.out rfl HO2.out rfl ?_; intro w7 h7; have HS7 := xH (st9 h7.out); clear h7)
  have HB7 := xH (trw.qi HB6.out HS7.out.1);have HT7 := xH (HT6.out.below HS7.out.1);have HK7 := xH ((HS7.out.1.block A1 (Array.getElem?_eq_some_iff.1 HK6.out).1).trans HK6.out);have HL7 := xH HS7.out.2;generalize w6.heap.size = A2 at *;clear HS7 HGB HT6 HB6 HK6;have HSQ := xH (same9 HT7.out.s);have LQ := xH (rsame_any (j1.size + 1) (y1, j1) (y2, j2) w7 (Nat.lt_succ_self _) HT7.out.a HT7.out.b);have LP := xH (fun (w8 : World) (hb : Below w7.heap.size w7 w8) => places_any (j1.size + 1) (y1, j1) (y2, j2) w8 (Nat.lt_succ_self _) (HT7.out.below hb).a (HT7.out.below hb).b);have LN := xH (fun (w8 : World) (hb : Below w7.heap.size w7 w8) => nsame_any _ _ l w8 (HT7.out.below hb).n1 (HT7.out.below hb).n2);rw [HSQ.out.1] at LQ;rw [HSQ.out.2] at LP;clear HSQ HT7;go_wp2_with (first
   | (refine ql rfl _ rfl A1 rfl y1 HK7.out ?_)
   | (refine ql rfl _ rfl A2 rfl y2 HL7.out ?_))
  refine LQ.out.mono ?_;rintro e w8 ⟨rfl, hb8⟩;have HB78 := xH hb8;have h4 := (hb8.block _ (Array.getElem?_eq_some_iff.1 HK7.out).1).trans HK7.out;have h6 := (hb8.block _ (Array.getElem?_eq_some_iff.1 HL7.out).1).trans HL7.out;have LP8 := xH (LP.out w8 hb8);clear hb8 LQ LP HK7 HL7;obtain ⟨c0, c1, c2, c3, c4, c5, c6, c7, c8, c9, c10, c11⟩ := nd129 h4;obtain ⟨d0, d1, d2, d3, d4, d5, d6, d7, d8, d9, d10, d11⟩ := nd129 h6;clear h4 h6;unfold ndV at LP8;try dsimp only
  go_wp2_with fail
  refine LP8.out.mono ?_;rintro e w9 ⟨rfl, hb9⟩;have HB79 := xH (trw.qi HB78.out hb9);clear hb9 LP8 c0 c1 c2 c3 c4 c5 c6 c7 c8 c9 c10 c11 d0 d1 d2 d3 d4 d5 d6 d7 d8 d9 d10 d11;have LN9 := xH (LN.out w9 HB79.out);try dsimp only
  go_wp2_with fail
  refine LN9.out.mono ?_;rintro e w10 ⟨rfl, hb10⟩;have HBX := xH (trw.qi HB7.out (trw.qi HB79.out hb10));clear hb10 LN LN9;try dsimp only
  go_wp2_with fail
  go_ret
  exact ⟨rfl, HBX.out⟩
end gqw
end
section
namespace gpr
open sq
open Go Go.RowKit Go.ChangeShapes Go.WideShapes Go.ChangeAt utfp utfw
theorem own : ownKnob Try.prog.godebug = none := by kernel_rfl
theorem laidOut : laidOutB Try.prog = true := by kernel_rfl
theorem cellsByte : Try.prog.cellsOf 5 = 1 := by kernel_rfl
theorem bytesByte : Try.prog.bytesOf 5 = 1 := by kernel_rfl
theorem recBytes : Try.prog.readableRec 22 = true := by kernel_rfl
theorem rowBytes : (22 : TypeId) < Try.prog.types.size := of_decide_eq_true (by kernel_rfl)
theorem wf_byte {n : Int} (h : (Lit.int .u8 n).wf = true) : 0 ≤ n ∧ n ≤ 255 := by
 have h2 : IntKind.u8.min ≤ n ∧ n ≤ IntKind.u8.max := by simpa [Lit.wf] using h
 rw [show IntKind.u8.min = 0 by decide, show IntKind.u8.max = 255 by decide] at h2;exact h2
theorem open_bytes {H : Type} {enc : TypeId × Value → H} {W : World} {base : Nat} {v : Value} {d : DataW H} {ps : List MemPlace} (hval : Value.okWide Try.prog W .any base 22 v)
 (h : DataW.Trod enc Try.prog W 0 (fun _ => true) true 22 v d ps) (hsz : ∀ elems spare, d = .slice elems spare → (elems.length + spare.length) * Try.prog.bytesOf 5 ≤ reachBytes) :
 ∃ n g, Sl W v n g := by
 obtain ⟨a0, len, cap, rfl⟩ := okWide_slice Try.underlying22 hval;obtain ⟨fuel, hf⟩ := h;rcases open_ints Try.underlying22 Try.underlying5 cellsByte hf with ⟨hcs, _⟩ | ⟨a, len', cap', zs, hcs, _, hl, hm, hz, hx, hcell, hwz⟩
 ·simp [Value.cells] at hcs;obtain ⟨rfl, rfl, rfl⟩ := hcs;exact ⟨0, fun _ => 0, fun _ => by simp, by simp, Or.inl ⟨rfl, _, _, rfl, by omega⟩⟩
 ·simp [Value.cells] at hcs;obtain ⟨rfl, rfl, rfl⟩ := hcs;simp only [Prod.mk.injEq] at hx;obtain ⟨rfl, _⟩ := hx;simp only [if_true] at hz;have hr := hsz _ _ rfl;rw [bytesByte] at hr;simp only [lits, List.length_map, List.length_take, List.length_drop, reachBytes] at hr;unfold maxLen at hm;have hgb : ∀ i, 0 ≤ zs.getD i 0 ∧ zs.getD i 0 ≤ 255 := by
   intro i;by_cases hi : i < zs.length
   ·simp only [List.getD, List.getElem?_eq_getElem hi, Option.getD_some];exact wf_byte (hwz _ (List.getElem_mem hi))
   ·simp [List.getD, List.getElem?_eq_none (Nat.le_of_not_lt hi)]
  by_cases h0 : len = 0
  ·subst h0;exact ⟨0, fun _ => 0, fun _ => by simp, by simp, Or.inl ⟨rfl, _, _, rfl, by omega⟩⟩
  ·obtain ⟨b, off, spot⟩ := a;have c0 := hcell 0 (by omega);cases spot with
   | some s =>
    exfalso;have : ((⟨b, off, some s⟩ : Addr).add 0).spot.isSome = true := by unfold Addr.add; split <;> simp_all
    unfold World.cell? at c0;split at c0
    ·simp [this] at c0
    ·simp at c0
   | none =>
    refine ⟨len, fun i => zs.getD i 0, hgb, by omega, Or.inr ⟨b, off, cap, rfl, ⟨hl, by omega⟩, fun i hi => ?_⟩⟩;have := hcell i (by omega);have hplain : (⟨b, off, none⟩ : Addr).add i = ⟨b, off + i, none⟩ := by unfold Addr.add; split <;> simp_all
    rw [hplain] at this;exact this
end gpr
end
end Go.Proofs.Ytdgfclbajjjcgaa
