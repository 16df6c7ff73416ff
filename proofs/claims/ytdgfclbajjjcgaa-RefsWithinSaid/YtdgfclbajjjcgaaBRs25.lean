/- T -/
import Derived.Deep.Cut
import Derived.Test.YtdgfclbajjjcgaaBRs24
set_option maxHeartbeats 16000000
set_option maxRecDepth 1000000
namespace Go.Proofs.Ytdgfclbajjjcgaa
section
namespace trw
open sq
open Go Go.RowKit trp
def plF : F → F → Bool
 | .nil, .nil => true
 | .cons x k r, .cons y k' r' => decide (x.at_ = y.at_) && decide (k.len = k'.len) && plF k k' && plF r r'
 | _, _ => false
def plT (a b : Nd) : Bool := decide (a.1.at_ = b.1.at_) && decide (a.2.len = b.2.len) && plF a.2 b.2
theorem places_any : ∀ (n : Nat) (a b : Nd) (w : World), a.2.size < n → NdAt w a → NdAt w b → Calls Try.prog 17 #[ndV a.1, ndV b.1] w (BoolB (plT a b) w) := by
 intro n
 induction n with
 | zero => intro a b w hn; omega
 | succ n ih =>
  intro a b w hn ha hb;have IH := xH ih;clear ih;obtain ⟨sa, sc, hsv, _⟩ := ha.2.1;obtain ⟨ka, kc, hkv, _⟩ := ha.2.2;obtain ⟨ta, tc, htv, _⟩ := hb.2.1;obtain ⟨la, lc, hlv, _⟩ := hb.2.2;have HS := xH ha.2.1;have HT := xH hb.2.1;have HK := xH ha.2.2;have HM := xH hb.2.2;clear ha hb;obtain ⟨x, k⟩ := a;obtain ⟨y, k2⟩ := b;obtain ⟨xk, xa, xc, xs, xset, xneg, xn, xm, xmode, xname, xon, xoff, xkv⟩ := x;obtain ⟨yk, ya, yc, ys, yset, yneg, yn, ym, ymode, yname, yon, yoff, ykv⟩ := y;simp only at hsv hkv htv hlv hn;subst hsv hkv htv hlv;simp only at HS HT HK HM;have HH := xH (show Below w.heap.size w ((w.alloc (.cells (ndC (⟨xk, xa, xc, .slice sa xset.length sc, xset, xneg, xn, xm, xmode, xname, xon, xoff, .slice ka k.len kc⟩ : Lab)).toArray 27)).alloc (.cells (ndC (⟨yk, ya, yc, .slice ta yset.length tc, yset, yneg, yn, ym, ymode, yname, yon, yoff, .slice la k2.len lc⟩ : Lab)).toArray 27)) ∧ ((w.alloc (.cells (ndC (⟨xk, xa, xc, .slice sa xset.length sc, xset, xneg, xn, xm, xmode, xname, xon, xoff, .slice ka k.len kc⟩ : Lab)).toArray 27)).alloc (.cells (ndC (⟨yk, ya, yc, .slice ta yset.length tc, yset, yneg, yn, ym, ymode, yname, yon, yoff, .slice la k2.len lc⟩ : Lab)).toArray 27)).heap[w.heap.size]? = some (.cells (ndC (⟨xk, xa, xc, .slice sa xset.length sc, xset, xneg, xn, xm, xmode, xname, xon, xoff, .slice ka k.len kc⟩ : Lab)).toArray 27) ∧ ((w.alloc (.cells (ndC (⟨xk, xa, xc, .slice sa xset.length sc, xset, xneg, xn, xm, xmode, xname, xon, xoff, .slice ka k.len kc⟩ : Lab)).toArray 27)).alloc (.cells (ndC (⟨yk, ya, yc, .slice ta yset.length tc, yset, yneg, yn, ym, ymode, yname, yon, yoff, .slice la k2.len lc⟩ : Lab)).toArray 27)).heap[w.heap.size + 1]? = some (.cells (ndC (⟨yk, ya, yc, .slice ta yset.length tc, yset, yneg, yn, ym, ymode, yname, yon, yoff, .slice la k2.len lc⟩ : Lab)).toArray 27) from
   ⟨(qg w _).alloc (by simp) _, by rw [heap_alloc_old _ _ (by simp)]; exact heap_alloc_new _ _, by have := heap_alloc_new (w.alloc (.cells (ndC (⟨xk, xa, xc, .slice sa xset.length sc, xset, xneg, xn, xm, xmode, xname, xon, xoff, .slice ka k.len kc⟩ : Lab)).toArray 27)) (.cells (ndC (⟨yk, ya, yc, .slice ta yset.length tc, yset, yneg, yn, ym, ymode, yname, yon, yoff, .slice la k2.len lc⟩ : Lab)).toArray 27); simpa using this⟩)
  simp only [ndC] at HH;by_cases h_at : xa = ya;rotate_left
  ·have HR := xH (show plT ((⟨xk, xa, xc, .slice sa xset.length sc, xset, xneg, xn, xm, xmode, xname, xon, xoff, .slice ka k.len kc⟩ : Lab), k) ((⟨yk, ya, yc, .slice ta yset.length tc, yset, yneg, yn, ym, ymode, yname, yon, yoff, .slice la k2.len lc⟩ : Lab), k2) = false by simp [plT, h_at]);rw [HR.out];clear HS HT HK HM IH;have Q_at := xH h_at;clear h_at;unfold ndV;go_enter Try.func17, Try.ntmps17;go_upto_region 1 with (fail)
   generalize hg : (w.alloc _).alloc _ = W;have hh := HH.out;rw [hg] at hh;obtain ⟨hb0, hr, hs⟩ := hh;have HB := xH hb0;have R0 := xH (fun w1 (hb : Below W.heap.size W w1) => cells12 (x := (⟨xk, xa, xc, .slice sa xset.length sc, xset, xneg, xn, xm, xmode, xname, xon, xoff, .slice ka k.len kc⟩ : Lab)) ((hb.block _ (Array.getElem?_eq_some_iff.1 hr).1).trans hr));have R1 := xH (fun w1 (hb : Below W.heap.size W w1) => cells12 (x := (⟨yk, ya, yc, .slice ta yset.length tc, yset, yneg, yn, ym, ymode, yname, yon, yoff, .slice la k2.len lc⟩ : Lab)) ((hb.block _ (Array.getElem?_eq_some_iff.1 hs).1).trans hs));clear hg hb0 hr hs HH;obtain ⟨B1, hB1⟩ : ∃ B1, w.heap.size + 1 = B1 := ⟨_, rfl⟩;obtain ⟨B0, hB0⟩ : ∃ B0, w.heap.size = B0 := ⟨_, rfl⟩;rw [hB1] at R1 ⊢;rw [hB0] at R0 ⊢;have f0 : W.cell? ⟨B0, 0, none⟩ = some (.int .i64 xk) := R0.out W (Below.refl _ _) 0 _ rfl;have f1 : W.cell? ⟨B0, 1, none⟩ = some (.int .i64 xa) := R0.out W (Below.refl _ _) 1 _ rfl;have f2 : W.cell? ⟨B0, 2, none⟩ = some (.int .i64 xc) := R0.out W (Below.refl _ _) 2 _ rfl;have f3 : W.cell? ⟨B0, 3, none⟩ = some (.slice sa xset.length sc) := R0.out W (Below.refl _ _) 3 _ rfl;have f4 : W.cell? ⟨B0, 4, none⟩ = some (.bool xneg) := R0.out W (Below.refl _ _) 4 _ rfl;have f5 : W.cell? ⟨B0, 5, none⟩ = some (.int .i64 xn) := R0.out W (Below.refl _ _) 5 _ rfl;have f6 : W.cell? ⟨B0, 6, none⟩ = some (.int .i64 xm) := R0.out W (Below.refl _ _) 6 _ rfl;have f7 : W.cell? ⟨B0, 7, none⟩ = some (.int .i64 xmode) := R0.out W (Below.refl _ _) 7 _ rfl;have f8 : W.cell? ⟨B0, 8, none⟩ = some (.string xname) := R0.out W (Below.refl _ _) 8 _ rfl;have f9 : W.cell? ⟨B0, 9, none⟩ = some (.int .i64 xon) := R0.out W (Below.refl _ _) 9 _ rfl;have f10 : W.cell? ⟨B0, 10, none⟩ = some (.int .i64 xoff) := R0.out W (Below.refl _ _) 10 _ rfl;have f11 : W.cell? ⟨B0, 11, none⟩ = some (.slice ka k.len kc) := R0.out W (Below.refl _ _) 11 _ rfl;have g0 : W.cell? ⟨B1, 0, none⟩ = some (.int .i64 yk) := R1.out W (Below.refl _ _) 0 _ rfl;have g1 : W.cell? ⟨B1, 1, none⟩ = some (.int .i64 ya) := R1.out W (Below.refl _ _) 1 _ rfl;have g2 : W.cell? ⟨B1, 2, none⟩ = some (.int .i64 yc) := R1.out W (Below.refl _ _) 2 _ rfl;have g3 : W.cell? ⟨B1, 3, none⟩ = some (.slice ta yset.length tc) := R1.out W (Below.refl _ _) 3 _ rfl;have g4 : W.cell? ⟨B1, 4, none⟩ = some (.bool yneg) := R1.out W (Below.refl _ _) 4 _ rfl;have g5 : W.cell? ⟨B1, 5, none⟩ = some (.int .i64 yn) := R1.out W (Below.refl _ _) 5 _ rfl;have g6 : W.cell? ⟨B1, 6, none⟩ = some (.int .i64 ym) := R1.out W (Below.refl _ _) 6 _ rfl;have g7 : W.cell? ⟨B1, 7, none⟩ = some (.int .i64 ymode) := R1.out W (Below.refl _ _) 7 _ rfl;have g8 : W.cell? ⟨B1, 8, none⟩ = some (.string yname) := R1.out W (Below.refl _ _) 8 _ rfl;have g9 : W.cell? ⟨B1, 9, none⟩ = some (.int .i64 yon) := R1.out W (Below.refl _ _) 9 _ rfl;have g10 : W.cell? ⟨B1, 10, none⟩ = some (.int .i64 yoff) := R1.out W (Below.refl _ _) 10 _ rfl;have g11 : W.cell? ⟨B1, 11, none⟩ = some (.slice la k2.len lc) := R1.out W (Below.refl _ _) 11 _ rfl;have h_at := Q_at.out;clear Q_at;have e_at : (xa == ya) = false := by simpa using h_at
   have d_at : (xa != ya) = true := by simpa using h_at
   go_wp2_with fail
   go_ret
   exact ⟨rfl, HB.out⟩
  by_cases h_kids : k.len = k2.len;rotate_left
  ·have HR := xH (show plT ((⟨xk, xa, xc, .slice sa xset.length sc, xset, xneg, xn, xm, xmode, xname, xon, xoff, .slice ka k.len kc⟩ : Lab), k) ((⟨yk, ya, yc, .slice ta yset.length tc, yset, yneg, yn, ym, ymode, yname, yon, yoff, .slice la k2.len lc⟩ : Lab), k2) = false by simp [plT, h_kids]);rw [HR.out];clear HS HT HK HM IH;have Q_at := xH h_at;have Q_kids := xH h_kids;clear h_at h_kids;unfold ndV;go_enter Try.func17, Try.ntmps17;go_upto_region 1 with (fail)
   generalize hg : (w.alloc _).alloc _ = W;have hh := HH.out;rw [hg] at hh;obtain ⟨hb0, hr, hs⟩ := hh;have HB := xH hb0;have R0 := xH (fun w1 (hb : Below W.heap.size W w1) => cells12 (x := (⟨xk, xa, xc, .slice sa xset.length sc, xset, xneg, xn, xm, xmode, xname, xon, xoff, .slice ka k.len kc⟩ : Lab)) ((hb.block _ (Array.getElem?_eq_some_iff.1 hr).1).trans hr));have R1 := xH (fun w1 (hb : Below W.heap.size W w1) => cells12 (x := (⟨yk, ya, yc, .slice ta yset.length tc, yset, yneg, yn, ym, ymode, yname, yon, yoff, .slice la k2.len lc⟩ : Lab)) ((hb.block _ (Array.getElem?_eq_some_iff.1 hs).1).trans hs));clear hg hb0 hr hs HH;obtain ⟨B1, hB1⟩ : ∃ B1, w.heap.size + 1 = B1 := ⟨_, rfl⟩;obtain ⟨B0, hB0⟩ : ∃ B0, w.heap.size = B0 := ⟨_, rfl⟩;rw [hB1] at R1 ⊢;rw [hB0] at R0 ⊢;have f0 : W.cell? ⟨B0, 0, none⟩ = some (.int .i64 xk) := R0.out W (Below.refl _ _) 0 _ rfl;have f1 : W.cell? ⟨B0, 1, none⟩ = some (.int .i64 xa) := R0.out W (Below.refl _ _) 1 _ rfl;have f2 : W.cell? ⟨B0, 2, none⟩ = some (.int .i64 xc) := R0.out W (Below.refl _ _) 2 _ rfl;have f3 : W.cell? ⟨B0, 3, none⟩ = some (.slice sa xset.length sc) := R0.out W (Below.refl _ _) 3 _ rfl;have f4 : W.cell? ⟨B0, 4, none⟩ = some (.bool xneg) := R0.out W (Below.refl _ _) 4 _ rfl;have f5 : W.cell? ⟨B0, 5, none⟩ = some (.int .i64 xn) := R0.out W (Below.refl _ _) 5 _ rfl;have f6 : W.cell? ⟨B0, 6, none⟩ = some (.int .i64 xm) := R0.out W (Below.refl _ _) 6 _ rfl;have f7 : W.cell? ⟨B0, 7, none⟩ = some (.int .i64 xmode) := R0.out W (Below.refl _ _) 7 _ rfl;have f8 : W.cell? ⟨B0, 8, none⟩ = some (.string xname) := R0.out W (Below.refl _ _) 8 _ rfl;have f9 : W.cell? ⟨B0, 9, none⟩ = some (.int .i64 xon) := R0.out W (Below.refl _ _) 9 _ rfl;have f10 : W.cell? ⟨B0, 10, none⟩ = some (.int .i64 xoff) := R0.out W (Below.refl _ _) 10 _ rfl;have f11 : W.cell? ⟨B0, 11, none⟩ = some (.slice ka k.len kc) := R0.out W (Below.refl _ _) 11 _ rfl;have g0 : W.cell? ⟨B1, 0, none⟩ = some (.int .i64 yk) := R1.out W (Below.refl _ _) 0 _ rfl;have g1 : W.cell? ⟨B1, 1, none⟩ = some (.int .i64 ya) := R1.out W (Below.refl _ _) 1 _ rfl;have g2 : W.cell? ⟨B1, 2, none⟩ = some (.int .i64 yc) := R1.out W (Below.refl _ _) 2 _ rfl;have g3 : W.cell? ⟨B1, 3, none⟩ = some (.slice ta yset.length tc) := R1.out W (Below.refl _ _) 3 _ rfl;have g4 : W.cell? ⟨B1, 4, none⟩ = some (.bool yneg) := R1.out W (Below.refl _ _) 4 _ rfl;have g5 : W.cell? ⟨B1, 5, none⟩ = some (.int .i64 yn) := R1.out W (Below.refl _ _) 5 _ rfl;have g6 : W.cell? ⟨B1, 6, none⟩ = some (.int .i64 ym) := R1.out W (Below.refl _ _) 6 _ rfl;have g7 : W.cell? ⟨B1, 7, none⟩ = some (.int .i64 ymode) := R1.out W (Below.refl _ _) 7 _ rfl;have g8 : W.cell? ⟨B1, 8, none⟩ = some (.string yname) := R1.out W (Below.refl _ _) 8 _ rfl;have g9 : W.cell? ⟨B1, 9, none⟩ = some (.int .i64 yon) := R1.out W (Below.refl _ _) 9 _ rfl;have g10 : W.cell? ⟨B1, 10, none⟩ = some (.int .i64 yoff) := R1.out W (Below.refl _ _) 10 _ rfl;have g11 : W.cell? ⟨B1, 11, none⟩ = some (.slice la k2.len lc) := R1.out W (Below.refl _ _) 11 _ rfl;have h_at := Q_at.out;have h_kids := Q_kids.out;clear Q_at Q_kids;have i_kids : ¬ (k.len : Int) = (k2.len : Int) := by omega
   have e_kids : ((k.len : Int) == (k2.len : Int)) = false := by simp; omega
   have d_kids : ((k.len : Int) != (k2.len : Int)) = true := by simp; omega
   go_wp2_with fail
   go_ret
   exact ⟨rfl, HB.out⟩
  obtain ⟨R, hR⟩ : ∃ R, plF k k2 = R := ⟨_, rfl⟩;have HR := xH (show plT ((⟨xk, xa, xc, .slice sa xset.length sc, xset, xneg, xn, xm, xmode, xname, xon, xoff, .slice ka k.len kc⟩ : Lab), k) ((⟨yk, ya, yc, .slice ta yset.length tc, yset, yneg, yn, ym, ymode, yname, yon, yoff, .slice la k2.len lc⟩ : Lab), k2) = R by simp only [plT]; rw [← hR]; simp [h_at, h_kids]);rw [HR.out];have H0 := xH hR;have hlK := xH h_kids;clear hR HR;have Q_at := xH h_at;have Q_kids := xH h_kids;clear h_at h_kids;unfold ndV;go_enter Try.func17, Try.ntmps17;go_upto_region 1 with (fail)
  generalize hg : (w.alloc _).alloc _ = W;have hh := HH.out;rw [hg] at hh;obtain ⟨hb0, hr, hs⟩ := hh;have HB := xH hb0;have R0 := xH (fun w1 (hb : Below W.heap.size W w1) => cells12 (x := (⟨xk, xa, xc, .slice sa xset.length sc, xset, xneg, xn, xm, xmode, xname, xon, xoff, .slice ka k.len kc⟩ : Lab)) ((hb.block _ (Array.getElem?_eq_some_iff.1 hr).1).trans hr));have R1 := xH (fun w1 (hb : Below W.heap.size W w1) => cells12 (x := (⟨yk, ya, yc, .slice ta yset.length tc, yset, yneg, yn, ym, ymode, yname, yon, yoff, .slice la k2.len lc⟩ : Lab)) ((hb.block _ (Array.getElem?_eq_some_iff.1 hs).1).trans hs));clear hg hb0 hr hs HH;obtain ⟨B1, hB1⟩ : ∃ B1, w.heap.size + 1 = B1 := ⟨_, rfl⟩;obtain ⟨B0, hB0⟩ : ∃ B0, w.heap.size = B0 := ⟨_, rfl⟩;rw [hB1] at R1 ⊢;rw [hB0] at R0 ⊢;have f0 : W.cell? ⟨B0, 0, none⟩ = some (.int .i64 xk) := R0.out W (Below.refl _ _) 0 _ rfl;have f1 : W.cell? ⟨B0, 1, none⟩ = some (.int .i64 xa) := R0.out W (Below.refl _ _) 1 _ rfl;have f2 : W.cell? ⟨B0, 2, none⟩ = some (.int .i64 xc) := R0.out W (Below.refl _ _) 2 _ rfl;have f3 : W.cell? ⟨B0, 3, none⟩ = some (.slice sa xset.length sc) := R0.out W (Below.refl _ _) 3 _ rfl;have f4 : W.cell? ⟨B0, 4, none⟩ = some (.bool xneg) := R0.out W (Below.refl _ _) 4 _ rfl;have f5 : W.cell? ⟨B0, 5, none⟩ = some (.int .i64 xn) := R0.out W (Below.refl _ _) 5 _ rfl;have f6 : W.cell? ⟨B0, 6, none⟩ = some (.int .i64 xm) := R0.out W (Below.refl _ _) 6 _ rfl;have f7 : W.cell? ⟨B0, 7, none⟩ = some (.int .i64 xmode) := R0.out W (Below.refl _ _) 7 _ rfl;have f8 : W.cell? ⟨B0, 8, none⟩ = some (.string xname) := R0.out W (Below.refl _ _) 8 _ rfl;have f9 : W.cell? ⟨B0, 9, none⟩ = some (.int .i64 xon) := R0.out W (Below.refl _ _) 9 _ rfl;have f10 : W.cell? ⟨B0, 10, none⟩ = some (.int .i64 xoff) := R0.out W (Below.refl _ _) 10 _ rfl;have f11 : W.cell? ⟨B0, 11, none⟩ = some (.slice ka k.len kc) := R0.out W (Below.refl _ _) 11 _ rfl;have g0 : W.cell? ⟨B1, 0, none⟩ = some (.int .i64 yk) := R1.out W (Below.refl _ _) 0 _ rfl;have g1 : W.cell? ⟨B1, 1, none⟩ = some (.int .i64 ya) := R1.out W (Below.refl _ _) 1 _ rfl;have g2 : W.cell? ⟨B1, 2, none⟩ = some (.int .i64 yc) := R1.out W (Below.refl _ _) 2 _ rfl;have g3 : W.cell? ⟨B1, 3, none⟩ = some (.slice ta yset.length tc) := R1.out W (Below.refl _ _) 3 _ rfl;have g4 : W.cell? ⟨B1, 4, none⟩ = some (.bool yneg) := R1.out W (Below.refl _ _) 4 _ rfl;have g5 : W.cell? ⟨B1, 5, none⟩ = some (.int .i64 yn) := R1.out W (Below.refl _ _) 5 _ rfl;have g6 : W.cell? ⟨B1, 6, none⟩ = some (.int .i64 ym) := R1.out W (Below.refl _ _) 6 _ rfl;have g7 : W.cell? ⟨B1, 7, none⟩ = some (.int .i64 ymode) := R1.out W (Below.refl _ _) 7 _ rfl;have g8 : W.cell? ⟨B1, 8, none⟩ = some (.string yname) := R1.out W (Below.refl _ _) 8 _ rfl;have g9 : W.cell? ⟨B1, 9, none⟩ = some (.int .i64 yon) := R1.out W (Below.refl _ _) 9 _ rfl;have g10 : W.cell? ⟨B1, 10, none⟩ = some (.int .i64 yoff) := R1.out W (Below.refl _ _) 10 _ rfl;have g11 : W.cell? ⟨B1, 11, none⟩ = some (.slice la k2.len lc) := R1.out W (Below.refl _ _) 11 _ rfl;have h_at := Q_at.out;have h_kids := Q_kids.out;clear Q_at Q_kids;go_wp2_with fail
  clear f0 g0 f1 g1 f2 g2 f3 g3 f4 g4 f5 g5 f6 g6 f7 g7 f8 g8 f9 g9 f10 g10 f11 g11;clear h_at h_kids
  go_loopw [5] (fun iv wz => ∃ i : Nat, iv = .int .i64 i ∧ i ≤ k.len ∧ Hid (plF (k.drop i) (k2.drop i) = R) ∧ Below W.heap.size W wz) (fun iv _ => k.len - (intOf iv).toNat)
  case atStart => exact ⟨0, rfl, Nat.zero_le _, xH (by rw [drop_zero, drop_zero]; exact H0.out), Below.refl _ _⟩
  case round =>
   clear H0;obtain ⟨i, rfl, hi, HA, hb⟩ := hrel;have c11 : wr.cell? ⟨B0, 11, none⟩ = some (.slice ka k.len kc) := R0.out wr hb 11 _ rfl;have d11 : wr.cell? ⟨B1, 11, none⟩ = some (.slice la k2.len lc) := R1.out wr hb 11 _ rfl;by_cases hend : i = k.len
   ·have HRes := xH (show true = R by have := HA.out; rw [drop_end (by omega), drop_end (by have := hlK.out; omega)] at this; exact this);subst hend;go_wp2_with fail
    go_ret
    exact ⟨by rw [← HRes.out]; rfl, HB.out.trans (hb.mono HB.out.size)⟩
   ·have hlt : i < k.len := by omega
    obtain ⟨y, k', r, hdr⟩ := drop_lt (f := k) (i := i) hlt;obtain ⟨z, m', r', hdr2⟩ := drop_lt (f := k2) (i := i) (by have := hlK.out; omega);have hbw := HB.out.trans (hb.mono HB.out.size);obtain ⟨b1, o1, cap1, hv1, _, _, _, hf1⟩ := kid_at (below_kids hbw HK.out) hdr;obtain ⟨b2, o2, cap2, hv2, _, _, _, hf2⟩ := kid_at (below_kids hbw HM.out) hdr2;obtain ⟨rfl, rfl⟩ : ka = some ⟨b1, o1, none⟩ ∧ kc = cap1 := by have := hv1;simp only [Value.slice.injEq] at this;exact ⟨this.1, this.2.2⟩
    obtain ⟨rfl, rfl⟩ : la = some ⟨b2, o2, none⟩ ∧ lc = cap2 := by have := hv2;simp only [Value.slice.injEq] at this;exact ⟨this.1, this.2.2⟩
    have hsz := size_lt hdr;have n1 := fAt_head hf1;have n2 := fAt_head hf2;have E1 := xH (hf1.1);have E2 := xH (hf2.1);have hstep : (plT (y, k') (z, m') && plF (k.drop (i + 1)) (k2.drop (i + 1))) = R := by rw [drop_succ hdr, drop_succ hdr2, ← HA.out, hdr, hdr2];rfl
    have HI := xH (fun w1 (h : Below wr.heap.size wr w1) => IH.out (y, k') (z, m') w1 (by show k'.size < n; omega) (vO h n1) (vO h n2));obtain ⟨q, hq⟩ : ∃ q, plT (y, k') (z, m') = q := ⟨_, rfl⟩;rw [hq] at hstep HI;have HN := xH hstep;have a1 := add_row b1 o1 i 12;have a2 := add_row b2 o2 i 12;have i1 : (i : Int) < (k.len : Int) := by omega
    have i2 : (i : Int) < (k2.len : Int) := by omega
    have C11 := xH c11;have D11 := xH d11;clear hv1 hv2 hf1 hf2 hdr hdr2 n1 n2 hstep hq HA;go_wp2_with fail
    refine wp_region_held_drew (S := fun w' => Below wr.heap.size wr w') (by kernel_rfl) (qL wr) (fun hHeld => ?_);refine yG 0 (fun w' hSw => qf hSw C11.out) (fun w' hSw => qf hSw D11.out) ?_;simp only [xS];refine yG 1 (fun w' hSw => qf hSw C11.out) (fun w' hSw => qf hSw D11.out) ?_;simp only [xS];refine yG 2 (fun w' hSw => qf hSw C11.out) (fun w' hSw => qf hSw D11.out) ?_;simp only [xS];refine yG 3 (fun w' hSw => qf hSw C11.out) (fun w' hSw => qf hSw D11.out) ?_;simp only [xS];refine xT 4 rfl ?_ ?_ ?_;rotate_left
    ·intro w' hSw;refine jT (x := .tmp 31) (b := b1) (off := o1 + i * 12) (l := y) ?_ ?_ (fun j v hj => qf hSw (E1.out j v hj)) <;> rfl
    simp only [xS];refine yG 5 (fun w' hSw => qf hSw C11.out) (fun w' hSw => qf hSw D11.out) ?_;simp only [xS];refine yG 6 (fun w' hSw => qf hSw C11.out) (fun w' hSw => qf hSw D11.out) ?_;simp only [xS];refine yG 7 (fun w' hSw => qf hSw C11.out) (fun w' hSw => qf hSw D11.out) ?_;simp only [xS];refine yG 8 (fun w' hSw => qf hSw C11.out) (fun w' hSw => qf hSw D11.out) ?_;simp only [xS];refine xT 9 rfl ?_ ?_ ?_;rotate_left
    ·intro w' hSw;refine jT (x := .tmp 36) (b := b2) (off := o2 + i * 12) (l := z) ?_ ?_ (fun j v hj => qf hSw (E2.out j v hj)) <;> rfl
    simp only [xS];refine xD 10 rfl (fun K hK => ?_);go_simp;refine (HI.out _ hHeld).mono ?_;rintro e w4 ⟨rfl, hb5⟩;have hb4 : Below wr.heap.size wr w4 := hHeld.trans (hb5.mono hHeld.size);refine hK.out _ _ hb4 (fun hHeld => ?_);clear hK K;try simp only [xS]
    refine yT 11 ?_;simp only [xS];refine wpAnyH_done (by kernel_rfl) ?_ _;clear c11 d11;cases q with
    | false =>
     exact z183
    | true =>
     have HN2 := xH (show plF (k.drop (i + 1)) (k2.drop (i + 1)) = R by rw [← HN.out]; rfl);exact z121
end trw
end
section
namespace gqw
open sq
open Go.Sort Go Go.RowKit Go.Maps setp setw tkp trp trw rpp rsp gpp sq

theorem same_strip9 : ∀ f g : F, strip f = strip g → sameF f g = true ∧ plF f g = true
 | .nil, .nil, _ => ⟨rfl, rfl⟩
 | .nil, .cons _ _ _, h => by cases h
 | .cons _ _ _, .nil, h => by cases h
 | .cons x k r, .cons y k' r', h => by
  simp only [strip, F.cons.injEq] at h;obtain ⟨h1, h2, h3⟩ := h;have a := same_strip9 k k' h2;have b := same_strip9 r r' h3;have hl : k.len = k'.len := by rw [← rpw.jm k, h2, rpw.jm]
  simp only [Lab.mk.injEq] at h1;obtain ⟨e1, e2, e3, _, e4, e5, e6, e7, e8, e9, e10, e11, _⟩ := h1;simp [sameF, plF, labEq, a.1, a.2, b.1, b.2, hl, e1, e2, e3, e4, e5, e6, e7, e8, e9, e10, e11]
theorem same9 {x y : Lab} {k j : F} (h : strip (F.one x k) = strip (F.one y j)) : sameT (x, k) (y, j) = true ∧ plT (x, k) (y, j) = true := by have := same_strip9 _ _ h;simp only [F.one, sameF, plF, Bool.and_true] at this;exact this
end gqw
end
section
namespace rfw
open sq
open Go.Sort Go Go.RowKit Go.Maps setp setw tkp trp trw rpp gpp sq prw gpw
open rpw (fC jP FSub jQ jd own_below qp vW qh qA)
theorem rcopy_all : ∀ (z : Nat) (w : World) (x : Lab) (k : F) (hz : k.size < z) (hn : NdAt w (x, k)) (hc : CpOk (F.one x k)), Calls Try.prog 39 #[ndV x] w (CpB x k w) := by
 intro z;refine Nat.rec ?_ (fun z ih => ?_) z
 ·intro w x k hz;exact absurd hz (Nat.not_lt_zero _)
 intro w x k hz hn hc;have IH := xH (@ih);clear ih;have HN := xH hn;have HC := xH hc;have HZ := xH hz;obtain ⟨sa, sq, hsv⟩ : ∃ a q, x.sv = .slice a x.set.length q := by obtain ⟨a, q, h, _⟩ := hn.2.1; exact ⟨a, q, h⟩
 obtain ⟨ka, kq, hkv⟩ := kids_len hn.2.2;have HSV := xH hsv;have HKV := xH hkv;have e1 := World.size_alloc w (.cells (ndC x).toArray 27);have HP := xH (show ((w.alloc (.cells (ndC x).toArray 27)).alloc (.cells zC.toArray 27)).heap[w.heap.size]? = some (.cells (ndC x).toArray 27 (0, 0)) from (heap_alloc_old _ _ (by rw [e1]; omega)).trans (heap_alloc_new _ _));have HQ := xH (show ((w.alloc (.cells (ndC x).toArray 27)).alloc (.cells zC.toArray 27)).heap[w.heap.size + 1]? = some (.cells zC.toArray 27 (0, 0)) from e1 ▸ heap_alloc_new (w.alloc (.cells (ndC x).toArray 27)) (.cells zC.toArray 27));have HB := xH (trw.qi (trw.qg w (.cells (ndC x).toArray 27)) (trw.qg _ (.cells zC.toArray 27)));have HZ2 := xH (show ((w.alloc (.cells (ndC x).toArray 27)).alloc (.cells zC.toArray 27)).heap.size = w.heap.size + 2 by rw [World.size_alloc, e1]);clear hn hc hz e1 hsv hkv;unfold ndC zC at HP HQ HB HZ2;unfold ndV;go_enter Try.func39, Try.ntmps39;go_upto_region 1 with (fail)
 generalize (w.alloc _).alloc _ = w1 at *;have c3 := yC 3 x.sv HP;have HRG := xH (trw.rgAt_mono (fun _ _ h => trw.qf HB.out h) HN.out.2.1);have HC1 := xH HC.out.1;go_wp2_with (refine wpList_append_cp rfl _ _ rfl rfl rfl HRG.out HC1.out ?_)
 intro v2 w2 ho hb;obtain ⟨a2, q2, rfl⟩ := row_slice ho.1;have HO := xH ho;have HB2 := xH hb;have HP2 := xH ((hb.block w.heap.size (by rw [HZ2.out]; omega)).trans HP.out);have HQ2 := xH ((hb.block (w.heap.size + 1) (by rw [HZ2.out]; omega)).trans HQ.out);clear ho hb c3;have d3 := yC 3 x.sv HP2;have f3 := yK 3 HP2;have HP3 := xH (show (w2.setCell ⟨w.heap.size, 3, none⟩ (.slice a2 x.set.length q2)).heap[w.heap.size]? = some (.cells (ndC { x with sv := .slice a2 x.set.length q2 }).toArray 27 (0, 0)) from tkw.heap_set HP2.out);have HQ3 := xH ((heap_setCell_other w2 ⟨w.heap.size, 3, none⟩ (w.heap.size + 1) (.slice a2 x.set.length q2) (show w.heap.size + 1 ≠ w.heap.size by omega)).trans HQ2.out);have HO3 := xH (show OwnR (w2.setCell ⟨w.heap.size, 3, none⟩ (.slice a2 x.set.length q2)) w1.heap.size (.slice a2 x.set.length q2) x.set from ⟨tkw.jJ HO.out.1 fun g hg => heap_setCell_other _ _ _ _ (show g ≠ w.heap.size by have := own_below HO.out.1 hg; have := HZ2.out; omega), HO.out.2⟩);have HB3 := xH (show Below w.heap.size w (w2.setCell ⟨w.heap.size, 3, none⟩ (.slice a2 x.set.length q2)) from (HB.out.trans (HB2.out.mono HB.out.size)).setCell (xL _) _);have HZ3 := xH (show w.heap.size + 2 ≤ (w2.setCell ⟨w.heap.size, 3, none⟩ (.slice a2 x.set.length q2)).heap.size by have := HB2.out.size; have := HZ2.out; simp [World.setCell]; omega);go_upto_region 2 with (fail)
 generalize w2.setCell _ _ = w3 at *;have c11 : w3.cell? ⟨w.heap.size, 11, none⟩ = some (.slice ka k.len kq) := by unfold World.cell?; rw [HP3.out]; show some x.kv = _; rw [HKV.out]
 have hmk := run_make_nd k.len HC.out.2.1;have hkl : (k.len : Int) ≤ 9223372036854775807 := by have := HC.out.2.1; omega
 clear d3 f3;go_upto_region 3 with (fail)
 have HBK := xH (trw.qg w3 (.cells (madeCells zC.toArray (k.len * 12)) 27));have HBN := xH (heap_alloc_new w3 (.cells (madeCells zC.toArray (k.len * 12)) 27));have HBZ := xH (World.size_alloc w3 (.cells (madeCells zC.toArray (k.len * 12)) 27));clear hmk c11;generalize hB : w3.heap.size = B at *;generalize w3.alloc _ = w4 at *;have HB3Z := xH hB;clear hB;have HR0 := xH (show CpR k w.heap.size B w.heap.size (ndC { x with sv := .slice a2 x.set.length q2 }).toArray w w4 .nil (madeCells zC.toArray (k.len * 12)) from
  ⟨HBN.out, size_madeCells _ _, rfl, (by rw [HBZ.out]; exact xL _), (by cases k <;> rfl), Nat.zero_le _, HB3.out.trans (HBK.out.mono (by have := HZ3.out; omega)), (HBK.out.block _ (by have := HZ3.out; omega)).trans HP3.out, (HBK.out.block _ (by have := HZ3.out; omega)).trans HQ3.out, (by rw [HBZ.out]; exact xL _)⟩)
 have HSET := xH (show ∀ wr, Below B w4 wr → SetIn wr (w.heap.size + 2) B (.slice a2 x.set.length q2) x.set from fun wr hb => ⟨setw.ownR_mono (base := w1.heap.size) ⟨tkw.jJ HO3.out.1 fun g hg => ((hb.block g (by have := own_below HO3.out.1 hg; have := HB3Z.out; omega)).trans (HBK.out.block g (by have := own_below HO3.out.1 hg; have := HB3Z.out; omega))), HO3.out.2⟩ (Nat.le_of_eq HZ2.out.symm), rg_wf HN.out.2.1, fun g hg => by have := own_below HO3.out.1 hg; have := HB3Z.out; omega⟩);go_wp2_with fail
 go_loopw [15] (fun v15 wr => ∃ (g : F) (cur : Array Value), v15 = .int .i64 g.len ∧ Hid (CpR k w.heap.size B w.heap.size (ndC { x with sv := .slice a2 x.set.length q2 }).toArray w wr g cur) ∧ Hid (Below B w4 wr)) (fun v15 _ => k.len - (intOf v15).toNat)
 case atStart => exact ⟨.nil, _, rfl, HR0, xH (Below.refl _ _)⟩
 case round =>
  obtain ⟨g, cur, rfl, HR, HBB⟩ := hrel;have c11 : wr.cell? ⟨w.heap.size, 11, none⟩ = some (.slice ka k.len kq) := by unfold World.cell?; rw [HR.out.p]; show some x.kv = _; rw [HKV.out]
  have f11 : wr.frozen? ⟨w.heap.size, 11, none⟩ = false := by unfold World.frozen?; rw [HR.out.p]; rfl
  have HF11 := xH f11;by_cases hlt : g.len < k.len
  ·obtain ⟨x', kk, r, hd⟩ := drop_lt hlt;obtain ⟨b, o, q, hv, _, _, _, hf⟩ := kid_at HN.out.2.2 hd;rw [HKV.out] at hv;cases hv;have HKD := xH hd;have HFH := xH (trw.fAt_head hf);have HCE := xH (show ∀ j u, (ndC x')[j]? = some u → wr.cell? ⟨b, o + g.len * 12 + j, none⟩ = some u from fun j u hj => (World.cell?_of_block (HR.out.be.block b (cell_lt (hf.1 j u hj)))).trans (hf.1 j u hj));have HIH := xH (IH.out wr x' kk (by have := size_lt hd; have := HZ.out; omega) (qY (fun a v hc => (World.cell?_of_block (HR.out.be.block a.block (cell_lt hc))).trans hc) (trw.fAt_head hf)) (cpOk_drop HC.out.2.2.1 hd));have hlg : (g.len : Int) < 9223372036854775807 := by omega
   clear hd hf;go_wp2_with (first
    | (refine jv rfl _ rfl b (o + g.len * 12) rfl x' HCE.out ?_)
    | (refine HIH.out.mono ?_; rintro e w5 ⟨y, j, rfl, hn, hs, hb⟩; have HN5 := xH hn; have HS5 := xH hs; have HB5 := xH hb; have HR5 := xH ((hb.block B (by have := HR.out.B2; omega)).trans HR.out.row); have HO5 := xH (qp (ndI_at hn)); have HSZ := xH (show g.len * 12 + 12 ≤ cur.size by rw [HR.out.sz]; omega); have HNX := xH (cp_next HR.out HKD.out (xL _) (by have := HZ3.out; omega) hn hs hb); clear hn hs hb)
    | (refine wpList_store_k rfl rfl _ _ rfl B (g.len * 12) rfl cur y HR5.out HSZ.out HO5.out rfl ?_))
   go_roundw
   case rel => exact ⟨F.app g (F.one y j), _, by rw [jd]; show _ = Value.int .i64 ((g.len + 1 : Nat) : Int); go_num, HNX, xH (HBB.out.trans ((HB5.out.mono (by have := HR.out.B2; omega)).trans (below_row0 w5 B _)))⟩
   case measure => simp [intOf]; omega
  ·have hg : g.len = k.len := by have := HR.out.len; omega
   have HG := xH hg;have hd : decide (g.len < k.len) = false := by simpa using hlt
   have HP6 := xH (show (wr.setCell ⟨w.heap.size, 11, none⟩ (.slice (some ⟨B, 0, none⟩) k.len k.len)).heap[w.heap.size]? = some (.cells (ndC { x with sv := .slice a2 x.set.length q2, kv := .slice (some ⟨B, 0, none⟩) k.len k.len }).toArray 27 (0, 0)) from tkw.heap_set HR.out.p);have HQ6 := xH ((heap_setCell_other wr ⟨w.heap.size, 11, none⟩ (w.heap.size + 1) (.slice (some ⟨B, 0, none⟩) k.len k.len) (show w.heap.size + 1 ≠ w.heap.size by omega)).trans HR.out.r);have HND := xH (show NdI wr { x with sv := .slice a2 x.set.length q2, kv := .slice (some ⟨B, 0, none⟩) k.len k.len } g (w.heap.size + 2) wr.heap.size from
    ⟨HN.out.1, B, B, by have := HZ3.out; have := HB3Z.out; omega, xL _, HSET.out wr HBB.out, by rw [HG.out]; exact HC.out.2.1, by show Value.slice _ k.len k.len = _; rw [HG.out], by rw [HR.out.row];have h1 := HR.out.tk;rw [HG.out, ← HR.out.sz, List.take_of_length_le (by simp)] at h1;rw [← h1], HR.out.sg⟩)
   have HOC := xH (qp (ndI_at HND.out));have HST := xH (show strip (F.one { x with sv := .slice a2 x.set.length q2, kv := .slice (some ⟨B, 0, none⟩) k.len k.len } g) = strip (F.one x k) from by
    have h2 := HR.out.eq;have h3 : k.drop g.len = .nil := by
     cases h : k.drop g.len with
     | nil => rfl
     | cons a b c =>
      have := drop_len k g.len;rw [h] at this;simp only [F.len] at this;omega
    rw [h3, show strip F.nil = F.nil from rfl] at h2;rw [strip_one, strip_one, h2, app_nl2])
   clear hg hlt c11 f11;have f11 := HF11.out;have c11 : wr.cell? ⟨w.heap.size, 11, none⟩ = some (.slice ka k.len kq) := by unfold World.cell?; rw [HR.out.p]; show some x.kv = _; rw [HKV.out]
   have HZR := xH (show w.heap.size + 1 < wr.heap.size by have := HR.out.B2; have := HZ3.out; omega);have HBE := xH HR.out.be;go_upto_region 9 with (fail)
   generalize hw6 : wr.setCell _ _ = w6 at *;have HN6 := xH (show NdI w6 { x with sv := .slice a2 x.set.length q2, kv := .slice (some ⟨B, 0, none⟩) k.len k.len } g (w.heap.size + 2) w6.heap.size from by
    have hz : w6.heap.size = wr.heap.size := by rw [← hw6]; simp [World.setCell]
    rw [hz];exact ndI_keep HND.out fun j h1 h2 => by rw [← hw6]; exact heap_setCell_other _ _ j _ (show j ≠ w.heap.size by omega))
   have HB6 := xH (show Below w.heap.size w w6 from by rw [← hw6]; exact HBE.out.setCell (xL _) _);have HC6 := xH (show ∀ j u, (ndC { x with sv := .slice a2 x.set.length q2, kv := .slice (some ⟨B, 0, none⟩) k.len k.len })[j]? = some u → w6.cell? ⟨w.heap.size, 0 + j, none⟩ = some u from fun j u hj => by rw [Nat.zero_add]; unfold World.cell?; rw [HP6.out]; simpa using hj);clear hw6 c11 f11;go_wp2_with (first
    | (refine jv rfl _ rfl w.heap.size 0 rfl { x with sv := .slice a2 x.set.length q2, kv := .slice (some ⟨B, 0, none⟩) k.len k.len } HC6.out ?_)
    | (refine qh rfl rfl _ _ rfl (w.heap.size + 1) rfl _ { x with sv := .slice a2 x.set.length q2, kv := .slice (some ⟨B, 0, none⟩) k.len k.len } HQ6.out rfl HOC.out rfl ?_))
   refine xB (qA rfl _ _ (w.heap.size + 1) { x with sv := .slice a2 x.set.length q2, kv := .slice (some ⟨B, 0, none⟩) k.len k.len } rfl (setRow_heap _ _ _ _ _ _ HQ6.out)) rfl ?_;refine ⟨_, g, rfl, ?_, HST.out, HB6.out.trans ⟨rfl, rfl, rfl, by rw [tkw.setRow_size]; exact xL _, fun j hj => tkw.setRow_other _ _ j _ (by omega)⟩⟩;rw [tkw.setRow_size];exact ndI_lo (ndI_keep HN6.out fun j h1 h2 => tkw.setRow_other _ _ j _ (by omega)) (by omega)
end rfw
end
section
namespace rfp
open sq
open Go trp rpp gpp
def nameN (l : Nm) (s : ByteArray) : Int := ((l.find? fun q => decide (q.1 = s)).map (·.2)).getD (-1)
def target (l : Nm) (cur m k : Int) (s : ByteArray) : Int := if m = 1 then cur - k + 1 else if m = 2 then cur + k else if m = 3 then nameN l s else k
def inn (cnt k least : Int) : Bool := decide (least ≤ k) && decide (k ≤ cnt)
def stepP (cnt : Int) (l : Nm) (x : Lab) (cur : Int) : Bool × Lab × Int :=
 if x.kind = 14 then (true, x, x.n)
 else if x.kind = 19 then
  (if x.n = 10 then (inn cnt (target l cur 3 x.mode x.name) 1, { x with n := 9, mode := target l cur 3 x.mode x.name, m := 0, name := ⟨#[]⟩ }, cur)
   else if x.n = 9 then (inn cnt (target l cur x.m x.mode x.name) 1, { x with mode := target l cur x.m x.mode x.name, m := 0, name := ⟨#[]⟩ }, cur)
   else if x.n = 11 then
    (if x.m = 3 then (inn cnt (target l cur 3 x.mode x.name) 1, { x with mode := target l cur 3 x.mode x.name, m := 0, name := ⟨#[]⟩ }, cur)
     else (decide (x.mode = -1) || inn cnt x.mode 0, x, cur))
   else (true, x, cur))
 else if x.kind = 7 ∨ x.kind = 8 then
  (inn cnt (target l cur x.m x.n x.name) (if x.kind = 8 then 0 else 1), { x with n := target l cur x.m x.n x.name, m := 0, name := ⟨#[]⟩ }, cur)
 else (true, x, cur)
def meant (cnt : Int) (l : Nm) (last m k : Int) (s : ByteArray) : Int :=
 if m = 3 then nameN l s else
 let k2 := if m = 1 then last - k + 1 else if m = 2 then last + k else k
 if k2 < 0 ∨ cnt < k2 then -1 else k2
def stepD (cnt : Int) (l : Nm) (x : Lab) (last : Int) : Bool × Lab × Int :=
 if x.kind = 7 ∨ x.kind = 8 then
  (decide (meant cnt l last x.m x.n x.name < if x.kind = 8 then 0 else 1), { x with n := meant cnt l last x.m x.n x.name, m := 0, name := ⟨#[]⟩ }, last)
 else if x.kind = 19 then
  (if x.n = 9 ∨ x.n = 10 then
   (decide (meant cnt l last (if x.n = 10 then 3 else x.m) x.mode x.name < 1), { x with n := 9, mode := meant cnt l last (if x.n = 10 then 3 else x.m) x.mode x.name, m := 0, name := ⟨#[]⟩ }, last)
   else if x.n = 11 ∧ x.mode ≠ -1 then
    (decide (meant cnt l last x.m x.mode x.name < if x.m = 3 then 1 else 0), { x with mode := meant cnt l last x.m x.mode x.name, m := 0, name := ⟨#[]⟩ }, last)
   else (false, x, last))
 else (false, x, if x.kind = 14 then x.n else last)
def NmOk (cnt : Int) (l : Nm) : Prop := 0 ≤ cnt ∧ ∀ s, nameN l s = -1 ∨ (1 ≤ nameN l s ∧ nameN l s ≤ cnt)
def LabOk (x : Lab) : Prop := (x.kind = 19 → x.n = 11 → (x.m = 3 ∧ x.mode ≠ -1) ∨ (x.m = 0 ∧ x.name = ⟨#[]⟩))
theorem target_meant {cnt : Int} {l : Nm} (h : NmOk cnt l) (cur m k : Int) (s : ByteArray) (least : Int) (hl : least = 0 ∨ least = 1) :
 inn cnt (target l cur m k s) least = !decide (meant cnt l cur m k s < least) ∧ (inn cnt (target l cur m k s) least = true → target l cur m k s = meant cnt l cur m k s) := by
 have hn := h.2 s;have h0 := h.1;have key : (inn cnt (target l cur m k s) least = true ↔ ¬ meant cnt l cur m k s < least) ∧ (inn cnt (target l cur m k s) least = true → target l cur m k s = meant cnt l cur m k s) := by
  unfold inn target meant;rw [Bool.and_eq_true, decide_eq_true_eq, decide_eq_true_eq];simp only;by_cases h3 : m = 3
  ·subst h3;rw [if_neg (by decide), if_neg (by decide), if_pos rfl, if_pos rfl];constructor
   ·omega
   ·intro _; rfl
  ·rw [if_neg h3];simp only [if_neg h3];generalize (if m = 1 then cur - k + 1 else if m = 2 then cur + k else k) = z;by_cases hz : z < 0 ∨ cnt < z
   ·rw [if_pos hz];constructor <;> omega
   ·rw [if_neg hz];constructor
    ·omega
    ·intro _; rfl
 refine ⟨?_, key.2⟩;by_cases c : meant cnt l cur m k s < least
 ·rw [decide_eq_true c];cases e : inn cnt (target l cur m k s) least with
  | false => rfl
  | true => exact absurd c (key.1.1 e)
 ·rw [decide_eq_false c];exact key.1.2 c
theorem step_same {cnt : Int} {l : Nm} (h : NmOk cnt l) {x : Lab} (hx : LabOk x) (cur : Int) :
 (stepP cnt l x cur).1 = !(stepD cnt l x cur).1 ∧ ((stepP cnt l x cur).1 = true → (stepP cnt l x cur).2 = (stepD cnt l x cur).2) := by
 unfold stepP stepD;by_cases c14 : x.kind = 14
 ·rw [if_pos c14, if_neg (by omega), if_neg (by omega), if_pos c14];exact ⟨rfl, fun _ => rfl⟩
 rw [if_neg c14];by_cases c19 : x.kind = 19
 ·rw [if_pos c19, if_neg (show ¬ (x.kind = 7 ∨ x.kind = 8) by omega), if_pos c19];by_cases n10 : x.n = 10
  ·obtain ⟨a, b⟩ := target_meant h cur 3 x.mode x.name 1 (.inr rfl);rw [if_pos n10, if_pos (.inr n10), if_pos n10];exact ⟨a, fun e => by simp only; rw [b e]⟩
  rw [if_neg n10, if_neg n10];by_cases n9 : x.n = 9
  ·obtain ⟨a, b⟩ := target_meant h cur x.m x.mode x.name 1 (.inr rfl);rw [if_pos n9, if_pos (.inl n9)];exact ⟨a, fun e => by simp only; rw [b e, ← n9]⟩
  rw [if_neg n9, if_neg (show ¬ (x.n = 9 ∨ x.n = 10) by omega)];by_cases n11 : x.n = 11
  ·rw [if_pos n11];rcases hx c19 n11 with ⟨m3, md⟩ | ⟨m0, nm⟩
   ·obtain ⟨a, b⟩ := target_meant h cur 3 x.mode x.name 1 (.inr rfl);rw [if_pos m3, if_pos ⟨n11, md⟩, if_pos m3, m3];exact ⟨a, fun e => by simp only; rw [b e]⟩
   ·rw [if_neg (by omega)];by_cases md : x.mode = -1
    ·rw [if_neg (fun q => q.2 md), decide_eq_true md];exact ⟨rfl, fun _ => rfl⟩
    ·obtain ⟨a, b⟩ := target_meant h cur x.m x.mode x.name 0 (.inl rfl);have t : target l cur x.m x.mode x.name = x.mode := by rw [m0]; rfl
     rw [if_pos ⟨n11, md⟩, if_neg (by omega), decide_eq_false md, Bool.false_or];rw [t] at a b;refine ⟨a, fun e => ?_⟩;simp only;rw [← b e, ← m0, ← nm]
  ·rw [if_neg n11, if_neg (fun q => n11 q.1)];exact ⟨rfl, fun _ => rfl⟩
 rw [if_neg c19];by_cases c7 : x.kind = 7 ∨ x.kind = 8
 ·rw [if_pos c7, if_pos c7];obtain ⟨a, b⟩ := target_meant h cur x.m x.n x.name (if x.kind = 8 then 0 else 1) (by split <;> simp);exact ⟨a, fun e => by simp only; rw [b e]⟩
 ·rw [if_neg c7, if_neg c7, if_neg c19, if_neg c14];exact ⟨rfl, fun _ => rfl⟩
def visF (cnt : Int) (l : Nm) (rs : Bool) (bef : Int) : F → Int → Int → Option Int × F × Int × Int
 | .nil, lg, cur => (none, .nil, lg, cur)
 | .cons x k r, lg, cur =>
  let s := stepP cnt l x cur
  if s.1 = false then (some x.at_, .cons s.2.1 k r, lg, s.2.2) else
  let q := visF cnt l (decide (x.kind = 16)) s.2.2 k s.2.2 s.2.2
  if q.1 ≠ none then (q.1, .cons s.2.1 q.2.1 r, lg, q.2.2.2) else
  let c := if x.kind = 16 then q.2.2.1 else q.2.2.2
  let t := visF cnt l rs bef r (if rs = true then max lg c else lg) (if rs = true then bef else c)
  (t.1, .cons s.2.1 q.2.1 t.2.1, t.2.2.1, t.2.2.2)
def fst2 (a b : Option Int) : Option Int := match a with
 | some v => some v
 | none => b
def docF (cnt : Int) (l : Nm) (rs : Bool) (last : Int) : F → Int → F × Int × Option Int
 | .nil, most => (.nil, most, none)
 | .cons x k r, most =>
  let s := stepD cnt l x (if rs = true then last else most)
  let q := docF cnt l (decide (x.kind = 16)) s.2.2 k s.2.2
  let t := docF cnt l rs last r (if most < q.2.1 then q.2.1 else most)
  (.cons s.2.1 q.1 t.1, t.2.1, fst2 (if s.1 = true then some x.at_ else none) (fst2 q.2.2 t.2.2))
def LabsOk : F → Prop
 | .nil => True
 | .cons x k r => LabOk x ∧ LabsOk k ∧ LabsOk r
theorem stepD_last (cnt : Int) (l : Nm) (x : Lab) (last : Int) : (stepD cnt l x last).2.2 = if x.kind = 14 then x.n else last := by
 unfold stepD;by_cases c : x.kind = 7 ∨ x.kind = 8
 ·rw [if_pos c, if_neg (show ¬ x.kind = 14 by omega)]
 rw [if_neg c];by_cases d : x.kind = 19
 ·rw [if_pos d, if_neg (show ¬ x.kind = 14 by omega)];split
  ·rfl
  ·split <;> rfl
 ·rw [if_neg d]
theorem vis_doc {cnt : Int} {l : Nm} (h : NmOk cnt l) : ∀ (f : F) (rs : Bool) (bef lg cur : Int), LabsOk f → (refF rs bef f (if rs = true then lg else cur)).1 = f →
 (visF cnt l rs bef f lg (if rs = true then bef else cur)).1 = (docF cnt l rs bef f (if rs = true then lg else cur)).2.2 ∧
 (docF cnt l rs bef f (if rs = true then lg else cur)).2.1 = (refF rs bef f (if rs = true then lg else cur)).2 ∧
 ((docF cnt l rs bef f (if rs = true then lg else cur)).2.2 = none → (visF cnt l rs bef f lg (if rs = true then bef else cur)).2.1 = (docF cnt l rs bef f (if rs = true then lg else cur)).1 ∧
  (if rs = true then (visF cnt l rs bef f lg (if rs = true then bef else cur)).2.2.1 else (visF cnt l rs bef f lg (if rs = true then bef else cur)).2.2.2) = (docF cnt l rs bef f (if rs = true then lg else cur)).2.1)
 | .nil, rs, bef, lg, cur, _, _ => ⟨rfl, rfl, fun _ => ⟨rfl, by cases rs <;> rfl⟩⟩
 | .cons x k r, rs, bef, lg, cur, ho, hn => by
  obtain ⟨hx, hk, hr⟩ := ho;have ha : (if rs = true then bef else (if rs = true then lg else cur)) = if rs = true then bef else cur := by cases rs <;> rfl
  rw [refF] at hn;rw [visF, docF, refF];simp only at hn ⊢;rw [ha] at hn ⊢;generalize ha2 : (if rs = true then bef else cur) = a at *;generalize hm : (if rs = true then lg else cur) = most at *;injection hn with n1 n2 n3;have hb : (if x.kind = 14 then x.n else a) = if x.kind = 14 then a + 1 else a := by
   by_cases c : x.kind = 14
   ·rw [if_pos c] at n1;rw [if_pos c, if_pos c, ← n1]
   ·rw [if_neg c, if_neg c]
  have hs := stepD_last cnt l x a;rw [hb] at hs;obtain ⟨s1, s2⟩ := step_same h hx a;generalize stepD cnt l x a = D at *;generalize stepP cnt l x a = P at *;rw [← hs] at n2 n3 ⊢;have gl := ref_le k (decide (x.kind = 16)) D.2.2 D.2.2;have hDa : a ≤ D.2.2 := by rw [hs]; split <;> omega
  have ik := vis_doc h k (decide (x.kind = 16)) D.2.2 D.2.2 D.2.2 hk (by rw [ite_self]; exact n2);rw [ite_self] at ik;obtain ⟨k1, k2, k3⟩ := ik;generalize hR : refF (decide (x.kind = 16)) D.2.2 k D.2.2 = R at *;generalize hq : docF cnt l (decide (x.kind = 16)) D.2.2 k D.2.2 = q at *;have hmo : (if most < q.2.1 then q.2.1 else most) = if most < R.2 then R.2 else most := by rw [k2]
  rw [hmo];generalize hmx : (if most < R.2 then R.2 else most) = mx at *;have e1 : (if rs = true then (if rs = true then mx else lg) else mx) = mx := by cases rs <;> rfl
  have ir := vis_doc h r rs bef (if rs = true then mx else lg) mx hr (by rw [e1]; exact n3);rw [e1] at ir;obtain ⟨r1, r2, r3⟩ := ir;generalize hT : docF cnt l rs bef r mx = T at *;by_cases p0 : P.1 = false
  ·rw [if_pos p0];have d1 : D.1 = true := by
    cases hd : D.1 with
    | true => rfl
    | false => rw [p0, hd] at s1; cases s1
   rw [if_pos d1];exact ⟨rfl, r2, fun z => by cases z⟩
  have p1 : P.1 = true := by
   cases hp : P.1 with
   | true => rfl
   | false => exact absurd hp p0
  have d1 : D.1 = false := by
   cases hd : D.1 with
   | false => rfl
   | true => rw [p1, hd] at s1; cases s1
  rw [if_neg p0, s2 p1];have d2 : ¬ D.1 = true := by rw [d1]; decide
  rw [if_neg d2];generalize hV : visF cnt l (decide (x.kind = 16)) D.2.2 k D.2.2 D.2.2 = V at *;show _ ∧ _ ∧ (fst2 q.2.2 T.2.2 = none → _);by_cases v0 : V.1 ≠ none
  ·rw [if_pos v0];have : ∃ v, V.1 = some v := Option.ne_none_iff_exists'.1 v0;obtain ⟨v, hv⟩ := this;have hq2 : q.2.2 = some v := by rw [← k1, hv]
   refine ⟨?_, r2, fun z => ?_⟩
   ·show V.1 = fst2 q.2.2 T.2.2;rw [hq2, hv];rfl
   ·rw [hq2] at z;cases z
  have v1 := Decidable.not_not.1 v0;rw [if_neg v0];have hq2 : q.2.2 = none := by rw [← k1, v1]
  obtain ⟨k4, k5⟩ := k3 hq2;have hc : (if x.kind = 16 then V.2.2.1 else V.2.2.2) = R.2 := by
   rw [← k2, ← k5];by_cases c : x.kind = 16
   ·rw [if_pos c, if_pos (decide_eq_true c)]
   ·rw [if_neg c, if_neg (by rw [decide_eq_false c]; decide)]
  rw [hc];have w1 : (if rs = true then max lg R.2 else lg) = if rs = true then mx else lg := by
   cases rs with
   | false => rfl
   | true =>
    rw [if_pos rfl] at hm ⊢;rw [if_pos rfl, ← hmx, ← hm];split <;> omega
  have w2 : (if rs = true then bef else R.2) = if rs = true then bef else mx := by
   cases rs with
   | true => rfl
   | false =>
    rw [if_neg (by decide)] at hm ha2 ⊢;rw [if_neg (by decide), ← hmx];split <;> omega
  rw [w1, w2];refine ⟨?_, r2, fun z => ?_⟩
  ·show _ = fst2 q.2.2 T.2.2;rw [hq2];exact r1
  ·rw [hq2] at z;obtain ⟨y1, y2⟩ := r3 z;exact ⟨by rw [y1, k4], y2⟩
theorem ref_again : ∀ (f : F) (rs : Bool) (last most : Int), refF rs last (refF rs last f most).1 most = refF rs last f most
 | .nil, _, _, _ => rfl
 | .cons x k r, rs, last, most => by
  have e : refF rs last (.cons x k r) most = (.cons (if x.kind = 14 then { x with n := (if rs = true then last else most) + 1 } else x) (refF (decide (x.kind = 16)) (if x.kind = 14 then (if rs = true then last else most) + 1 else (if rs = true then last else most)) k (if x.kind = 14 then (if rs = true then last else most) + 1 else (if rs = true then last else most))).1 (refF rs last r (if most < (refF (decide (x.kind = 16)) (if x.kind = 14 then (if rs = true then last else most) + 1 else (if rs = true then last else most)) k (if x.kind = 14 then (if rs = true then last else most) + 1 else (if rs = true then last else most))).2 then (refF (decide (x.kind = 16)) (if x.kind = 14 then (if rs = true then last else most) + 1 else (if rs = true then last else most)) k (if x.kind = 14 then (if rs = true then last else most) + 1 else (if rs = true then last else most))).2 else most)).1, (refF rs last r (if most < (refF (decide (x.kind = 16)) (if x.kind = 14 then (if rs = true then last else most) + 1 else (if rs = true then last else most)) k (if x.kind = 14 then (if rs = true then last else most) + 1 else (if rs = true then last else most))).2 then (refF (decide (x.kind = 16)) (if x.kind = 14 then (if rs = true then last else most) + 1 else (if rs = true then last else most)) k (if x.kind = 14 then (if rs = true then last else most) + 1 else (if rs = true then last else most))).2 else most)).2) := by rw [refF]
  rw [e];generalize ha : (if rs = true then last else most) = a;generalize hb : (if x.kind = 14 then a + 1 else a) = b;have hk : (if x.kind = 14 then { x with n := a + 1 } else x : Lab).kind = x.kind := by split <;> rfl
  generalize hx' : (if x.kind = 14 then { x with n := a + 1 } else x : Lab) = y at *;have ik := ref_again k (decide (x.kind = 16)) b b;generalize refF (decide (x.kind = 16)) b k b = R at *;generalize hm : (if most < R.2 then R.2 else most) = m;have ir := ref_again r rs last m;generalize refF rs last r m = T at *;rw [refF];rw [ha, hk, hb, ik, hm, ir, ← hx'];by_cases c : x.kind = 14
  ·simp [c]
  ·simp [c]
theorem refs_doc {cnt : Int} {l : Nm} (h : NmOk cnt l) (x : Lab) (k : F) (ho : LabsOk (.cons x k .nil)) (hn : (refF false 0 (.cons x k .nil) 0).1 = .cons x k .nil) :
 (visF cnt l false 0 (.cons x k .nil) 0 0).1 = (docF cnt l false 0 (.cons x k .nil) 0).2.2 ∧
 ((docF cnt l false 0 (.cons x k .nil) 0).2.2 = none → (visF cnt l false 0 (.cons x k .nil) 0 0).2.1 = (docF cnt l false 0 (.cons x k .nil) 0).1) := by
 have := vis_doc h (.cons x k .nil) false 0 0 0 ho hn;exact ⟨this.1, fun z => (this.2.2 z).1⟩
end rfp
end
end Go.Proofs.Ytdgfclbajjjcgaa
