/- T -/
import Derived.Deep.Cut
import Derived.Test.YtnpcombfgdbhkaaDoorBPs07
set_option maxHeartbeats 16000000
set_option maxRecDepth 1000000
section
namespace Go.Proofs.YtnpcombfgdbhkaaDoor.trw
open sq
open Go.Sort Go Go.RowKit trp
def eqRs : List (Int × Int) → List (Int × Int) → Bool
 | [], [] => true
 | a :: l, b :: m => decide (a = b) && eqRs l m
 | _, _ => false
theorem eqRs_eq : ∀ l m, eqRs l m = decide (l = m)
 | [], [] => rfl
 | [], _ :: _ => by simp [eqRs]
 | _ :: _, [] => by simp [eqRs]
 | a :: l, b :: m => by simp [eqRs, eqRs_eq l m]
theorem eqRs_drop {l m : List (Int × Int)} {i : Nat} {a b : Int × Int} (ha : l[i]? = some a) (hb : m[i]? = some b) : eqRs (l.drop i) (m.drop i) = (decide (a = b) && eqRs (l.drop (i + 1)) (m.drop (i + 1))) := by obtain ⟨h1, rfl⟩ := List.getElem?_eq_some_iff.1 ha;obtain ⟨h2, rfl⟩ := List.getElem?_eq_some_iff.1 hb;rw [List.drop_eq_getElem_cons h1, List.drop_eq_getElem_cons h2, eqRs]
end Go.Proofs.YtnpcombfgdbhkaaDoor.trw
end
section
namespace Go.Proofs.YtnpcombfgdbhkaaDoor.trw
open sq
open Go Go.RowKit trp
theorem bytes_list {a b : ByteArray} (h : a.toList = b.toList) : a = b := by rw [ByteArray.toList_eq, ByteArray.toList_eq] at h;exact WideShapes.bytes_inj h
end Go.Proofs.YtnpcombfgdbhkaaDoor.trw
end
section
namespace Go.Proofs.YtnpcombfgdbhkaaDoor.trw
open sq
open Go Go.RowKit trp
def plF : F → F → Bool
 | .nil, .nil => true
 | .cons x k r, .cons y k' r' => decide (x.at_ = y.at_) && decide (k.len = k'.len) && plF k k' && plF r r'
 | _, _ => false
def plT (a b : Nd) : Bool := decide (a.1.at_ = b.1.at_) && decide (a.2.len = b.2.len) && plF a.2 b.2
theorem places_any : ∀ (n : Nat) (a b : Nd) (w : World), a.2.size < n → NdAt w a → NdAt w b → Calls Tryd.prog 14 #[ndV a.1, ndV b.1] w (BoolB (plT a b) w) := by
 intro n
 induction n with
 | zero => intro a b w hn; omega
 | succ n ih =>
  intro a b w hn ha hb;have IH := xH ih;clear ih;obtain ⟨sa, sc, hsv, _⟩ := ha.2.1;obtain ⟨ka, kc, hkv, _⟩ := ha.2.2;obtain ⟨ta, tc, htv, _⟩ := hb.2.1;obtain ⟨la, lc, hlv, _⟩ := hb.2.2;have HS := xH ha.2.1;have HT := xH hb.2.1;have HK := xH ha.2.2;have HM := xH hb.2.2;clear ha hb;obtain ⟨x, k⟩ := a;obtain ⟨y, k2⟩ := b;obtain ⟨xk, xa, xc, xs, xset, xneg, xn, xm, xmode, xname, xon, xoff, xkv⟩ := x;obtain ⟨yk, ya, yc, ys, yset, yneg, yn, ym, ymode, yname, yon, yoff, ykv⟩ := y;simp only at hsv hkv htv hlv hn;subst hsv hkv htv hlv;simp only at HS HT HK HM;have HH := xH (show Below w.heap.size w ((w.alloc (.cells (ndC (⟨xk, xa, xc, .slice sa xset.length sc, xset, xneg, xn, xm, xmode, xname, xon, xoff, .slice ka k.len kc⟩ : Lab)).toArray 31)).alloc (.cells (ndC (⟨yk, ya, yc, .slice ta yset.length tc, yset, yneg, yn, ym, ymode, yname, yon, yoff, .slice la k2.len lc⟩ : Lab)).toArray 31)) ∧ ((w.alloc (.cells (ndC (⟨xk, xa, xc, .slice sa xset.length sc, xset, xneg, xn, xm, xmode, xname, xon, xoff, .slice ka k.len kc⟩ : Lab)).toArray 31)).alloc (.cells (ndC (⟨yk, ya, yc, .slice ta yset.length tc, yset, yneg, yn, ym, ymode, yname, yon, yoff, .slice la k2.len lc⟩ : Lab)).toArray 31)).heap[w.heap.size]? = some (.cells (ndC (⟨xk, xa, xc, .slice sa xset.length sc, xset, xneg, xn, xm, xmode, xname, xon, xoff, .slice ka k.len kc⟩ : Lab)).toArray 31) ∧ ((w.alloc (.cells (ndC (⟨xk, xa, xc, .slice sa xset.length sc, xset, xneg, xn, xm, xmode, xname, xon, xoff, .slice ka k.len kc⟩ : Lab)).toArray 31)).alloc (.cells (ndC (⟨yk, ya, yc, .slice ta yset.length tc, yset, yneg, yn, ym, ymode, yname, yon, yoff, .slice la k2.len lc⟩ : Lab)).toArray 31)).heap[w.heap.size + 1]? = some (.cells (ndC (⟨yk, ya, yc, .slice ta yset.length tc, yset, yneg, yn, ym, ymode, yname, yon, yoff, .slice la k2.len lc⟩ : Lab)).toArray 31) from
   ⟨(qg w _).alloc (by simp) _, by rw [heap_alloc_old _ _ (by simp)]; exact heap_alloc_new _ _, by have := heap_alloc_new (w.alloc (.cells (ndC (⟨xk, xa, xc, .slice sa xset.length sc, xset, xneg, xn, xm, xmode, xname, xon, xoff, .slice ka k.len kc⟩ : Lab)).toArray 31)) (.cells (ndC (⟨yk, ya, yc, .slice ta yset.length tc, yset, yneg, yn, ym, ymode, yname, yon, yoff, .slice la k2.len lc⟩ : Lab)).toArray 31); simpa using this⟩)
  simp only [ndC] at HH;by_cases h_at : xa = ya;rotate_left
  ·have HR := xH (show plT ((⟨xk, xa, xc, .slice sa xset.length sc, xset, xneg, xn, xm, xmode, xname, xon, xoff, .slice ka k.len kc⟩ : Lab), k) ((⟨yk, ya, yc, .slice ta yset.length tc, yset, yneg, yn, ym, ymode, yname, yon, yoff, .slice la k2.len lc⟩ : Lab), k2) = false by simp [plT, h_at]);rw [HR.out];clear HS HT HK HM IH;have Q_at := xH h_at;clear h_at;unfold ndV;go_enter Tryd.func14, Tryd.ntmps14;go_upto_region 1 with (fail)
   generalize hg : (w.alloc _).alloc _ = W;have hh := HH.out;rw [hg] at hh;obtain ⟨hb0, hr, hs⟩ := hh;have HB := xH hb0;have R0 := xH (fun w1 (hb : Below W.heap.size W w1) => cells12 (x := (⟨xk, xa, xc, .slice sa xset.length sc, xset, xneg, xn, xm, xmode, xname, xon, xoff, .slice ka k.len kc⟩ : Lab)) ((hb.block _ (Array.getElem?_eq_some_iff.1 hr).1).trans hr));have R1 := xH (fun w1 (hb : Below W.heap.size W w1) => cells12 (x := (⟨yk, ya, yc, .slice ta yset.length tc, yset, yneg, yn, ym, ymode, yname, yon, yoff, .slice la k2.len lc⟩ : Lab)) ((hb.block _ (Array.getElem?_eq_some_iff.1 hs).1).trans hs));clear hg hb0 hr hs HH;obtain ⟨B1, hB1⟩ : ∃ B1, w.heap.size + 1 = B1 := ⟨_, rfl⟩;obtain ⟨B0, hB0⟩ : ∃ B0, w.heap.size = B0 := ⟨_, rfl⟩;rw [hB1] at R1 ⊢;rw [hB0] at R0 ⊢;have f0 : W.cell? ⟨B0, 0, none⟩ = some (.int .i64 xk) := R0.out W (Below.refl _ _) 0 _ rfl;have f1 : W.cell? ⟨B0, 1, none⟩ = some (.int .i64 xa) := R0.out W (Below.refl _ _) 1 _ rfl;have f2 : W.cell? ⟨B0, 2, none⟩ = some (.int .i64 xc) := R0.out W (Below.refl _ _) 2 _ rfl;have f3 : W.cell? ⟨B0, 3, none⟩ = some (.slice sa xset.length sc) := R0.out W (Below.refl _ _) 3 _ rfl;have f4 : W.cell? ⟨B0, 4, none⟩ = some (.bool xneg) := R0.out W (Below.refl _ _) 4 _ rfl;have f5 : W.cell? ⟨B0, 5, none⟩ = some (.int .i64 xn) := R0.out W (Below.refl _ _) 5 _ rfl;have f6 : W.cell? ⟨B0, 6, none⟩ = some (.int .i64 xm) := R0.out W (Below.refl _ _) 6 _ rfl;have f7 : W.cell? ⟨B0, 7, none⟩ = some (.int .i64 xmode) := R0.out W (Below.refl _ _) 7 _ rfl;have f8 : W.cell? ⟨B0, 8, none⟩ = some (.string xname) := R0.out W (Below.refl _ _) 8 _ rfl;have f9 : W.cell? ⟨B0, 9, none⟩ = some (.int .i64 xon) := R0.out W (Below.refl _ _) 9 _ rfl;have f10 : W.cell? ⟨B0, 10, none⟩ = some (.int .i64 xoff) := R0.out W (Below.refl _ _) 10 _ rfl;have f11 : W.cell? ⟨B0, 11, none⟩ = some (.slice ka k.len kc) := R0.out W (Below.refl _ _) 11 _ rfl;have g0 : W.cell? ⟨B1, 0, none⟩ = some (.int .i64 yk) := R1.out W (Below.refl _ _) 0 _ rfl;have g1 : W.cell? ⟨B1, 1, none⟩ = some (.int .i64 ya) := R1.out W (Below.refl _ _) 1 _ rfl;have g2 : W.cell? ⟨B1, 2, none⟩ = some (.int .i64 yc) := R1.out W (Below.refl _ _) 2 _ rfl;have g3 : W.cell? ⟨B1, 3, none⟩ = some (.slice ta yset.length tc) := R1.out W (Below.refl _ _) 3 _ rfl;have g4 : W.cell? ⟨B1, 4, none⟩ = some (.bool yneg) := R1.out W (Below.refl _ _) 4 _ rfl;have g5 : W.cell? ⟨B1, 5, none⟩ = some (.int .i64 yn) := R1.out W (Below.refl _ _) 5 _ rfl;have g6 : W.cell? ⟨B1, 6, none⟩ = some (.int .i64 ym) := R1.out W (Below.refl _ _) 6 _ rfl;have g7 : W.cell? ⟨B1, 7, none⟩ = some (.int .i64 ymode) := R1.out W (Below.refl _ _) 7 _ rfl;have g8 : W.cell? ⟨B1, 8, none⟩ = some (.string yname) := R1.out W (Below.refl _ _) 8 _ rfl;have g9 : W.cell? ⟨B1, 9, none⟩ = some (.int .i64 yon) := R1.out W (Below.refl _ _) 9 _ rfl;have g10 : W.cell? ⟨B1, 10, none⟩ = some (.int .i64 yoff) := R1.out W (Below.refl _ _) 10 _ rfl;have g11 : W.cell? ⟨B1, 11, none⟩ = some (.slice la k2.len lc) := R1.out W (Below.refl _ _) 11 _ rfl;have h_at := Q_at.out;clear Q_at;have e_at : (xa == ya) = false := by simpa using h_at
   have d_at : (xa != ya) = true := by simpa using h_at
   go_wp2_with fail
   go_ret
   exact ⟨rfl, HB.out⟩
  by_cases h_kids : k.len = k2.len;rotate_left
  ·have HR := xH (show plT ((⟨xk, xa, xc, .slice sa xset.length sc, xset, xneg, xn, xm, xmode, xname, xon, xoff, .slice ka k.len kc⟩ : Lab), k) ((⟨yk, ya, yc, .slice ta yset.length tc, yset, yneg, yn, ym, ymode, yname, yon, yoff, .slice la k2.len lc⟩ : Lab), k2) = false by simp [plT, h_kids]);rw [HR.out];clear HS HT HK HM IH;have Q_at := xH h_at;have Q_kids := xH h_kids;clear h_at h_kids;unfold ndV;go_enter Tryd.func14, Tryd.ntmps14;go_upto_region 1 with (fail)
   generalize hg : (w.alloc _).alloc _ = W;have hh := HH.out;rw [hg] at hh;obtain ⟨hb0, hr, hs⟩ := hh;have HB := xH hb0;have R0 := xH (fun w1 (hb : Below W.heap.size W w1) => cells12 (x := (⟨xk, xa, xc, .slice sa xset.length sc, xset, xneg, xn, xm, xmode, xname, xon, xoff, .slice ka k.len kc⟩ : Lab)) ((hb.block _ (Array.getElem?_eq_some_iff.1 hr).1).trans hr));have R1 := xH (fun w1 (hb : Below W.heap.size W w1) => cells12 (x := (⟨yk, ya, yc, .slice ta yset.length tc, yset, yneg, yn, ym, ymode, yname, yon, yoff, .slice la k2.len lc⟩ : Lab)) ((hb.block _ (Array.getElem?_eq_some_iff.1 hs).1).trans hs));clear hg hb0 hr hs HH;obtain ⟨B1, hB1⟩ : ∃ B1, w.heap.size + 1 = B1 := ⟨_, rfl⟩;obtain ⟨B0, hB0⟩ : ∃ B0, w.heap.size = B0 := ⟨_, rfl⟩;rw [hB1] at R1 ⊢;rw [hB0] at R0 ⊢;have f0 : W.cell? ⟨B0, 0, none⟩ = some (.int .i64 xk) := R0.out W (Below.refl _ _) 0 _ rfl;have f1 : W.cell? ⟨B0, 1, none⟩ = some (.int .i64 xa) := R0.out W (Below.refl _ _) 1 _ rfl;have f2 : W.cell? ⟨B0, 2, none⟩ = some (.int .i64 xc) := R0.out W (Below.refl _ _) 2 _ rfl;have f3 : W.cell? ⟨B0, 3, none⟩ = some (.slice sa xset.length sc) := R0.out W (Below.refl _ _) 3 _ rfl;have f4 : W.cell? ⟨B0, 4, none⟩ = some (.bool xneg) := R0.out W (Below.refl _ _) 4 _ rfl;have f5 : W.cell? ⟨B0, 5, none⟩ = some (.int .i64 xn) := R0.out W (Below.refl _ _) 5 _ rfl;have f6 : W.cell? ⟨B0, 6, none⟩ = some (.int .i64 xm) := R0.out W (Below.refl _ _) 6 _ rfl;have f7 : W.cell? ⟨B0, 7, none⟩ = some (.int .i64 xmode) := R0.out W (Below.refl _ _) 7 _ rfl;have f8 : W.cell? ⟨B0, 8, none⟩ = some (.string xname) := R0.out W (Below.refl _ _) 8 _ rfl;have f9 : W.cell? ⟨B0, 9, none⟩ = some (.int .i64 xon) := R0.out W (Below.refl _ _) 9 _ rfl;have f10 : W.cell? ⟨B0, 10, none⟩ = some (.int .i64 xoff) := R0.out W (Below.refl _ _) 10 _ rfl;have f11 : W.cell? ⟨B0, 11, none⟩ = some (.slice ka k.len kc) := R0.out W (Below.refl _ _) 11 _ rfl;have g0 : W.cell? ⟨B1, 0, none⟩ = some (.int .i64 yk) := R1.out W (Below.refl _ _) 0 _ rfl;have g1 : W.cell? ⟨B1, 1, none⟩ = some (.int .i64 ya) := R1.out W (Below.refl _ _) 1 _ rfl;have g2 : W.cell? ⟨B1, 2, none⟩ = some (.int .i64 yc) := R1.out W (Below.refl _ _) 2 _ rfl;have g3 : W.cell? ⟨B1, 3, none⟩ = some (.slice ta yset.length tc) := R1.out W (Below.refl _ _) 3 _ rfl;have g4 : W.cell? ⟨B1, 4, none⟩ = some (.bool yneg) := R1.out W (Below.refl _ _) 4 _ rfl;have g5 : W.cell? ⟨B1, 5, none⟩ = some (.int .i64 yn) := R1.out W (Below.refl _ _) 5 _ rfl;have g6 : W.cell? ⟨B1, 6, none⟩ = some (.int .i64 ym) := R1.out W (Below.refl _ _) 6 _ rfl;have g7 : W.cell? ⟨B1, 7, none⟩ = some (.int .i64 ymode) := R1.out W (Below.refl _ _) 7 _ rfl;have g8 : W.cell? ⟨B1, 8, none⟩ = some (.string yname) := R1.out W (Below.refl _ _) 8 _ rfl;have g9 : W.cell? ⟨B1, 9, none⟩ = some (.int .i64 yon) := R1.out W (Below.refl _ _) 9 _ rfl;have g10 : W.cell? ⟨B1, 10, none⟩ = some (.int .i64 yoff) := R1.out W (Below.refl _ _) 10 _ rfl;have g11 : W.cell? ⟨B1, 11, none⟩ = some (.slice la k2.len lc) := R1.out W (Below.refl _ _) 11 _ rfl;have h_at := Q_at.out;have h_kids := Q_kids.out;clear Q_at Q_kids;have i_kids : ¬ (k.len : Int) = (k2.len : Int) := by omega
   have e_kids : ((k.len : Int) == (k2.len : Int)) = false := by simp; omega
   have d_kids : ((k.len : Int) != (k2.len : Int)) = true := by simp; omega
   go_wp2_with fail
   go_ret
   exact ⟨rfl, HB.out⟩
  obtain ⟨R, hR⟩ : ∃ R, plF k k2 = R := ⟨_, rfl⟩;have HR := xH (show plT ((⟨xk, xa, xc, .slice sa xset.length sc, xset, xneg, xn, xm, xmode, xname, xon, xoff, .slice ka k.len kc⟩ : Lab), k) ((⟨yk, ya, yc, .slice ta yset.length tc, yset, yneg, yn, ym, ymode, yname, yon, yoff, .slice la k2.len lc⟩ : Lab), k2) = R by simp only [plT]; rw [← hR]; simp [h_at, h_kids]);rw [HR.out];have H0 := xH hR;have hlK := xH h_kids;clear hR HR;have Q_at := xH h_at;have Q_kids := xH h_kids;clear h_at h_kids;unfold ndV;go_enter Tryd.func14, Tryd.ntmps14;go_upto_region 1 with (fail)
  generalize hg : (w.alloc _).alloc _ = W;have hh := HH.out;rw [hg] at hh;obtain ⟨hb0, hr, hs⟩ := hh;have HB := xH hb0;have R0 := xH (fun w1 (hb : Below W.heap.size W w1) => cells12 (x := (⟨xk, xa, xc, .slice sa xset.length sc, xset, xneg, xn, xm, xmode, xname, xon, xoff, .slice ka k.len kc⟩ : Lab)) ((hb.block _ (Array.getElem?_eq_some_iff.1 hr).1).trans hr));have R1 := xH (fun w1 (hb : Below W.heap.size W w1) => cells12 (x := (⟨yk, ya, yc, .slice ta yset.length tc, yset, yneg, yn, ym, ymode, yname, yon, yoff, .slice la k2.len lc⟩ : Lab)) ((hb.block _ (Array.getElem?_eq_some_iff.1 hs).1).trans hs));clear hg hb0 hr hs HH;obtain ⟨B1, hB1⟩ : ∃ B1, w.heap.size + 1 = B1 := ⟨_, rfl⟩;obtain ⟨B0, hB0⟩ : ∃ B0, w.heap.size = B0 := ⟨_, rfl⟩;rw [hB1] at R1 ⊢;rw [hB0] at R0 ⊢;have f0 : W.cell? ⟨B0, 0, none⟩ = some (.int .i64 xk) := R0.out W (Below.refl _ _) 0 _ rfl;have f1 : W.cell? ⟨B0, 1, none⟩ = some (.int .i64 xa) := R0.out W (Below.refl _ _) 1 _ rfl;have f2 : W.cell? ⟨B0, 2, none⟩ = some (.int .i64 xc) := R0.out W (Below.refl _ _) 2 _ rfl;have f3 : W.cell? ⟨B0, 3, none⟩ = some (.slice sa xset.length sc) := R0.out W (Below.refl _ _) 3 _ rfl;have f4 : W.cell? ⟨B0, 4, none⟩ = some (.bool xneg) := R0.out W (Below.refl _ _) 4 _ rfl;have f5 : W.cell? ⟨B0, 5, none⟩ = some (.int .i64 xn) := R0.out W (Below.refl _ _) 5 _ rfl;have f6 : W.cell? ⟨B0, 6, none⟩ = some (.int .i64 xm) := R0.out W (Below.refl _ _) 6 _ rfl;have f7 : W.cell? ⟨B0, 7, none⟩ = some (.int .i64 xmode) := R0.out W (Below.refl _ _) 7 _ rfl;have f8 : W.cell? ⟨B0, 8, none⟩ = some (.string xname) := R0.out W (Below.refl _ _) 8 _ rfl;have f9 : W.cell? ⟨B0, 9, none⟩ = some (.int .i64 xon) := R0.out W (Below.refl _ _) 9 _ rfl;have f10 : W.cell? ⟨B0, 10, none⟩ = some (.int .i64 xoff) := R0.out W (Below.refl _ _) 10 _ rfl;have f11 : W.cell? ⟨B0, 11, none⟩ = some (.slice ka k.len kc) := R0.out W (Below.refl _ _) 11 _ rfl;have g0 : W.cell? ⟨B1, 0, none⟩ = some (.int .i64 yk) := R1.out W (Below.refl _ _) 0 _ rfl;have g1 : W.cell? ⟨B1, 1, none⟩ = some (.int .i64 ya) := R1.out W (Below.refl _ _) 1 _ rfl;have g2 : W.cell? ⟨B1, 2, none⟩ = some (.int .i64 yc) := R1.out W (Below.refl _ _) 2 _ rfl;have g3 : W.cell? ⟨B1, 3, none⟩ = some (.slice ta yset.length tc) := R1.out W (Below.refl _ _) 3 _ rfl;have g4 : W.cell? ⟨B1, 4, none⟩ = some (.bool yneg) := R1.out W (Below.refl _ _) 4 _ rfl;have g5 : W.cell? ⟨B1, 5, none⟩ = some (.int .i64 yn) := R1.out W (Below.refl _ _) 5 _ rfl;have g6 : W.cell? ⟨B1, 6, none⟩ = some (.int .i64 ym) := R1.out W (Below.refl _ _) 6 _ rfl;have g7 : W.cell? ⟨B1, 7, none⟩ = some (.int .i64 ymode) := R1.out W (Below.refl _ _) 7 _ rfl;have g8 : W.cell? ⟨B1, 8, none⟩ = some (.string yname) := R1.out W (Below.refl _ _) 8 _ rfl;have g9 : W.cell? ⟨B1, 9, none⟩ = some (.int .i64 yon) := R1.out W (Below.refl _ _) 9 _ rfl;have g10 : W.cell? ⟨B1, 10, none⟩ = some (.int .i64 yoff) := R1.out W (Below.refl _ _) 10 _ rfl;have g11 : W.cell? ⟨B1, 11, none⟩ = some (.slice la k2.len lc) := R1.out W (Below.refl _ _) 11 _ rfl;have h_at := Q_at.out;have h_kids := Q_kids.out;clear Q_at Q_kids;go_wp2_with fail
  clear f0 g0 f1 g1 f2 g2 f3 g3 f4 g4 f5 g5 f6 g6 f7 g7 f8 g8 f9 g9 f10 g10 f11 g11;clear h_at h_kids
  go_loopw [5] (fun iv wz => ∃ i : Nat, iv = .int .i64 i ∧ i ≤ k.len ∧ Hid (plF (k.drop i) (k2.drop i) = R) ∧ Below W.heap.size W wz) (fun iv _ => k.len - (intOf iv).toNat)
  case atStart => exact ⟨0, rfl, Nat.zero_le _, xH (by rw [drop_zero, drop_zero]; exact H0.out), Below.refl _ _⟩
  case round =>
   clear H0;obtain ⟨i, rfl, hi, HA, hb⟩ := hrel;have c11 : wr.cell? ⟨B0, 11, none⟩ = some (.slice ka k.len kc) := R0.out wr hb 11 _ rfl;have d11 : wr.cell? ⟨B1, 11, none⟩ = some (.slice la k2.len lc) := R1.out wr hb 11 _ rfl;by_cases hend : i = k.len
   ·have HRes := xH (show true = R by have := HA.out; rw [drop_end (by omega), drop_end (by have := hlK.out; omega)] at this; exact this);subst hend;go_wp2_with fail
    go_ret
    exact ⟨by rw [← HRes.out]; rfl, HB.out.trans (hb.mono HB.out.size)⟩
   ·have hlt : i < k.len := by omega
    obtain ⟨y, k', r, hdr⟩ := drop_lt (f := k) (i := i) hlt;obtain ⟨z, m', r', hdr2⟩ := drop_lt (f := k2) (i := i) (by have := hlK.out; omega);have hbw := HB.out.trans (hb.mono HB.out.size);obtain ⟨b1, o1, cap1, hv1, _, _, _, hf1⟩ := kid_at (below_kids hbw HK.out) hdr;obtain ⟨b2, o2, cap2, hv2, _, _, _, hf2⟩ := kid_at (below_kids hbw HM.out) hdr2;obtain ⟨rfl, rfl⟩ : ka = some ⟨b1, o1, none⟩ ∧ kc = cap1 := by have := hv1;simp only [Value.slice.injEq] at this;exact ⟨this.1, this.2.2⟩
    obtain ⟨rfl, rfl⟩ : la = some ⟨b2, o2, none⟩ ∧ lc = cap2 := by have := hv2;simp only [Value.slice.injEq] at this;exact ⟨this.1, this.2.2⟩
    have hsz := size_lt hdr;have n1 := fAt_head hf1;have n2 := fAt_head hf2;have E1 := xH (hf1.1);have E2 := xH (hf2.1);have hstep : (plT (y, k') (z, m') && plF (k.drop (i + 1)) (k2.drop (i + 1))) = R := by rw [drop_succ hdr, drop_succ hdr2, ← HA.out, hdr, hdr2];rfl
    have HI := xH (fun w1 (h : Below wr.heap.size wr w1) => IH.out (y, k') (z, m') w1 (by show k'.size < n; omega) (vO h n1) (vO h n2));obtain ⟨q, hq⟩ : ∃ q, plT (y, k') (z, m') = q := ⟨_, rfl⟩;rw [hq] at hstep HI;have HN := xH hstep;have a1 := add_row b1 o1 i 12;have a2 := add_row b2 o2 i 12;have i1 : (i : Int) < (k.len : Int) := by omega
    have i2 : (i : Int) < (k2.len : Int) := by omega
    have C11 := xH c11;have D11 := xH d11;clear hv1 hv2 hf1 hf2 hdr hdr2 n1 n2 hstep hq HA;go_wp2_with fail
    refine wp_region_held_drew (S := fun w' => Below wr.heap.size wr w') (by kernel_rfl) (qL wr) (fun hHeld => ?_);refine xT 0 rfl ?_ ?_ ?_;rotate_left
    ·intro w' hSw;have c11 := qf hSw C11.out;have d11 := qf hSw D11.out;go_simp;try rfl
    simp only [xS];refine xT 1 rfl ?_ ?_ ?_;rotate_left
    ·intro w' hSw;have c11 := qf hSw C11.out;have d11 := qf hSw D11.out;go_simp;try rfl
    simp only [xS];refine xT 2 rfl ?_ ?_ ?_;rotate_left
    ·intro w' hSw;have c11 := qf hSw C11.out;have d11 := qf hSw D11.out;go_simp;try rfl
    simp only [xS];refine xT 3 rfl ?_ ?_ ?_;rotate_left
    ·intro w' hSw;have c11 := qf hSw C11.out;have d11 := qf hSw D11.out;go_simp;try rfl
    simp only [xS];refine xT 4 rfl ?_ ?_ ?_;rotate_left
    ·intro w' hSw;refine jT (x := .tmp 31) (b := b1) (off := o1 + i * 12) (l := y) ?_ ?_ (fun j v hj => qf hSw (E1.out j v hj)) <;> rfl
    simp only [xS];refine xT 5 rfl ?_ ?_ ?_;rotate_left
    ·intro w' hSw;have c11 := qf hSw C11.out;have d11 := qf hSw D11.out;go_simp;try rfl
    simp only [xS];refine xT 6 rfl ?_ ?_ ?_;rotate_left
    ·intro w' hSw;have c11 := qf hSw C11.out;have d11 := qf hSw D11.out;go_simp;try rfl
    simp only [xS];refine xT 7 rfl ?_ ?_ ?_;rotate_left
    ·intro w' hSw;have c11 := qf hSw C11.out;have d11 := qf hSw D11.out;go_simp;try rfl
    simp only [xS];refine xT 8 rfl ?_ ?_ ?_;rotate_left
    ·intro w' hSw;have c11 := qf hSw C11.out;have d11 := qf hSw D11.out;go_simp;try rfl
    simp only [xS];refine xT 9 rfl ?_ ?_ ?_;rotate_left
    ·intro w' hSw;refine jT (x := .tmp 36) (b := b2) (off := o2 + i * 12) (l := z) ?_ ?_ (fun j v hj => qf hSw (E2.out j v hj)) <;> rfl
    simp only [xS];refine xD 10 rfl (fun K hK => ?_);go_simp;refine (HI.out _ hHeld).mono ?_;rintro e w4 ⟨rfl, hb5⟩;have hb4 : Below wr.heap.size wr w4 := hHeld.trans (hb5.mono hHeld.size);refine hK.out _ _ hb4 (fun hHeld => ?_);clear hK K;try simp only [xS]
    refine xT 11 rfl ?_ ?_ ?_;rotate_left
    ·intro w' hSw;go_simp;try rfl
    simp only [xS];refine wpAnyH_done (by kernel_rfl) ?_ _;clear c11 d11;cases q with
    | false =>
     go_wp2_with fail
     go_ret
     exact ⟨by rw [← HN.out]; rfl, HB.out.trans ((hb.trans (hb4.mono hb.size)).mono HB.out.size)⟩
    | true =>
     have HN2 := xH (show plF (k.drop (i + 1)) (k2.drop (i + 1)) = R by rw [← HN.out]; rfl);go_wp2_with fail
     go_roundw
     case rel => exact ⟨i + 1, by go_num, by omega, HN2, hb.trans (hb4.mono hb.size)⟩
     case measure => simp [intOf]; omega
end Go.Proofs.YtnpcombfgdbhkaaDoor.trw
end
