/- T -/
import Derived.BigQuiet
import Derived.Deep.Cut
import Derived.Lib.QuietBelow
import Derived.Lib.SlBytesConst
import Derived.Test.YtikjhfmmfpeaoaaGreatDoorBFg26
set_option maxHeartbeats 16000000
set_option maxRecDepth 1000000
namespace Go.Proofs.YtikjhfmmfpeaoaaGreatDoor
section
namespace trw
open sq
open Go Go.RowKit trp
theorem ndPair {w W : World} {xk xa xc xn xm xmode xon xoff yk ya yc yn ym ymode yon yoff : Int} {xs xv ys yv : Value} {xset yset : List (Int × Int)} {xneg yneg : Bool} {xname yname : ByteArray}
 (h : Below w.heap.size w W ∧ W.heap[w.heap.size]? = some (.cells (ndC ⟨xk, xa, xc, xs, xset, xneg, xn, xm, xmode, xname, xon, xoff, xv⟩).toArray 27) ∧ W.heap[w.heap.size + 1]? = some (.cells (ndC ⟨yk, ya, yc, ys, yset, yneg, yn, ym, ymode, yname, yon, yoff, yv⟩).toArray 27)) :
 ∃ B0 B1, w.heap.size = B0 ∧ w.heap.size + 1 = B1 ∧ Hid (Below w.heap.size w W) ∧ Hid (∀ w1, Below W.heap.size W w1 → ∀ (j : Nat) v, (ndC ⟨xk, xa, xc, xs, xset, xneg, xn, xm, xmode, xname, xon, xoff, xv⟩)[j]? = some v → w1.cell? ⟨B0, j, none⟩ = some v) ∧ Hid (∀ w1, Below W.heap.size W w1 → ∀ (j : Nat) v, (ndC ⟨yk, ya, yc, ys, yset, yneg, yn, ym, ymode, yname, yon, yoff, yv⟩)[j]? = some v → w1.cell? ⟨B1, j, none⟩ = some v) ∧ W.cell? ⟨B0, 0, none⟩ = some (.int .i64 xk) ∧ W.cell? ⟨B0, 1, none⟩ = some (.int .i64 xa) ∧ W.cell? ⟨B0, 2, none⟩ = some (.int .i64 xc) ∧ W.cell? ⟨B0, 3, none⟩ = some (xs) ∧ W.cell? ⟨B0, 4, none⟩ = some (.bool xneg) ∧ W.cell? ⟨B0, 5, none⟩ = some (.int .i64 xn) ∧ W.cell? ⟨B0, 6, none⟩ = some (.int .i64 xm) ∧ W.cell? ⟨B0, 7, none⟩ = some (.int .i64 xmode) ∧ W.cell? ⟨B0, 8, none⟩ = some (.string xname) ∧ W.cell? ⟨B0, 9, none⟩ = some (.int .i64 xon) ∧ W.cell? ⟨B0, 10, none⟩ = some (.int .i64 xoff) ∧ W.cell? ⟨B0, 11, none⟩ = some (xv) ∧ W.cell? ⟨B1, 0, none⟩ = some (.int .i64 yk) ∧ W.cell? ⟨B1, 1, none⟩ = some (.int .i64 ya) ∧ W.cell? ⟨B1, 2, none⟩ = some (.int .i64 yc) ∧ W.cell? ⟨B1, 3, none⟩ = some (ys) ∧ W.cell? ⟨B1, 4, none⟩ = some (.bool yneg) ∧ W.cell? ⟨B1, 5, none⟩ = some (.int .i64 yn) ∧ W.cell? ⟨B1, 6, none⟩ = some (.int .i64 ym) ∧ W.cell? ⟨B1, 7, none⟩ = some (.int .i64 ymode) ∧ W.cell? ⟨B1, 8, none⟩ = some (.string yname) ∧ W.cell? ⟨B1, 9, none⟩ = some (.int .i64 yon) ∧ W.cell? ⟨B1, 10, none⟩ = some (.int .i64 yoff) ∧ W.cell? ⟨B1, 11, none⟩ = some (yv) := by
 obtain ⟨hb, hr, hs⟩ := h;have r0 := fun w1 (hb : Below W.heap.size W w1) => cells12 (x := ⟨xk, xa, xc, xs, xset, xneg, xn, xm, xmode, xname, xon, xoff, xv⟩) ((hb.block _ (Array.getElem?_eq_some_iff.1 hr).1).trans hr)
 have r1 := fun w1 (hb : Below W.heap.size W w1) => cells12 (x := ⟨yk, ya, yc, ys, yset, yneg, yn, ym, ymode, yname, yon, yoff, yv⟩) ((hb.block _ (Array.getElem?_eq_some_iff.1 hs).1).trans hs)
 have f := r0 W (Below.refl _ _);have g := r1 W (Below.refl _ _);exact ⟨_, _, rfl, rfl, xH hb, xH r0, xH r1, f 0 _ rfl, f 1 _ rfl, f 2 _ rfl, f 3 _ rfl, f 4 _ rfl, f 5 _ rfl, f 6 _ rfl, f 7 _ rfl, f 8 _ rfl, f 9 _ rfl, f 10 _ rfl, f 11 _ rfl, g 0 _ rfl, g 1 _ rfl, g 2 _ rfl, g 3 _ rfl, g 4 _ rfl, g 5 _ rfl, g 6 _ rfl, g 7 _ rfl, g 8 _ rfl, g 9 _ rfl, g 10 _ rfl, g 11 _ rfl⟩
theorem bE {P : Program} {f : FuncId} {vs : Array Value} {b : Bool} {w : World} (b' : Bool) (h : b = b') (hc : Calls P f vs w (BoolB b' w)) : Calls P f vs w (BoolB b w) := h ▸ hc
theorem rsame_any : ∀ (n : Nat) (a b : Nd) (w : World), a.2.size < n → NdAt w a → NdAt w b → Calls Tryz.prog 12 #[ndV a.1, ndV b.1] w (BoolB (sameT a b) w) := by
 intro n
 induction n with
 | zero => intro a b w hn; omega
 | succ n ih =>
  intro a b w hn ha hb;have IH := xH ih;clear ih;obtain ⟨sa, sc, hsv, _⟩ := ha.2.1;obtain ⟨ka, kc, hkv, _⟩ := ha.2.2;obtain ⟨ta, tc, htv, _⟩ := hb.2.1;obtain ⟨la, lc, hlv, _⟩ := hb.2.2;have HS := xH ha.2.1;have HT := xH hb.2.1;have HK := xH ha.2.2;have HM := xH hb.2.2;clear ha hb;obtain ⟨x, k⟩ := a;obtain ⟨y, k2⟩ := b;obtain ⟨xk, xa, xc, xs, xset, xneg, xn, xm, xmode, xname, xon, xoff, xkv⟩ := x;obtain ⟨yk, ya, yc, ys, yset, yneg, yn, ym, ymode, yname, yon, yoff, ykv⟩ := y;simp only at hsv hkv htv hlv hn;subst hsv hkv htv hlv;simp only at HS HT HK HM;have HH := xH (show Below w.heap.size w ((w.alloc (.cells (ndC (⟨xk, xa, xc, .slice sa xset.length sc, xset, xneg, xn, xm, xmode, xname, xon, xoff, .slice ka k.len kc⟩ : Lab)).toArray 27)).alloc (.cells (ndC (⟨yk, ya, yc, .slice ta yset.length tc, yset, yneg, yn, ym, ymode, yname, yon, yoff, .slice la k2.len lc⟩ : Lab)).toArray 27)) ∧ ((w.alloc (.cells (ndC (⟨xk, xa, xc, .slice sa xset.length sc, xset, xneg, xn, xm, xmode, xname, xon, xoff, .slice ka k.len kc⟩ : Lab)).toArray 27)).alloc (.cells (ndC (⟨yk, ya, yc, .slice ta yset.length tc, yset, yneg, yn, ym, ymode, yname, yon, yoff, .slice la k2.len lc⟩ : Lab)).toArray 27)).heap[w.heap.size]? = some (.cells (ndC (⟨xk, xa, xc, .slice sa xset.length sc, xset, xneg, xn, xm, xmode, xname, xon, xoff, .slice ka k.len kc⟩ : Lab)).toArray 27) ∧ ((w.alloc (.cells (ndC (⟨xk, xa, xc, .slice sa xset.length sc, xset, xneg, xn, xm, xmode, xname, xon, xoff, .slice ka k.len kc⟩ : Lab)).toArray 27)).alloc (.cells (ndC (⟨yk, ya, yc, .slice ta yset.length tc, yset, yneg, yn, ym, ymode, yname, yon, yoff, .slice la k2.len lc⟩ : Lab)).toArray 27)).heap[w.heap.size + 1]? = some (.cells (ndC (⟨yk, ya, yc, .slice ta yset.length tc, yset, yneg, yn, ym, ymode, yname, yon, yoff, .slice la k2.len lc⟩ : Lab)).toArray 27) from
   ⟨(qg w _).alloc (by simp) _, by rw [heap_alloc_old _ _ (by simp)]; exact heap_alloc_new _ _, by have := heap_alloc_new (w.alloc (.cells (ndC (⟨xk, xa, xc, .slice sa xset.length sc, xset, xneg, xn, xm, xmode, xname, xon, xoff, .slice ka k.len kc⟩ : Lab)).toArray 27)) (.cells (ndC (⟨yk, ya, yc, .slice ta yset.length tc, yset, yneg, yn, ym, ymode, yname, yon, yoff, .slice la k2.len lc⟩ : Lab)).toArray 27); simpa using this⟩)
  simp only [ndC] at HH;by_cases h_kind : xk = yk;rotate_left
  ·refine bE false (by simp [sameT, labEq, h_kind]) ?_;clear HS HT HK HM IH;have Q_kind := xH h_kind;clear h_kind;unfold ndV;go_enter Tryz.func12, Tryz.ntmps12;go_upto_region 1 with (fail)
   generalize hg : (w.alloc _).alloc _ = W;have hh := HH.out;rw [hg] at hh;obtain ⟨B0, B1, hB0, hB1, HB, R0, R1, f0, f1, f2, f3, f4, f5, f6, f7, f8, f9, f10, f11, g0, g1, g2, g3, g4, g5, g6, g7, g8, g9, g10, g11⟩ := ndPair (xset := xset) (yset := yset) hh;clear hg hh HH;rw [hB1, hB0];have h_kind := Q_kind.out;clear Q_kind;have e_kind : (xk == yk) = false := by simpa using h_kind
   go_wp2_with fail
   go_ret
   exact ⟨rfl, HB.out⟩
  by_cases h_c : xc = yc;rotate_left
  ·refine bE false (by simp [sameT, labEq, h_c]) ?_;clear HS HT HK HM IH;have Q_kind := xH h_kind;have Q_c := xH h_c;clear h_kind h_c;unfold ndV;go_enter Tryz.func12, Tryz.ntmps12;go_upto_region 1 with (fail)
   generalize hg : (w.alloc _).alloc _ = W;have hh := HH.out;rw [hg] at hh;obtain ⟨B0, B1, hB0, hB1, HB, R0, R1, f0, f1, f2, f3, f4, f5, f6, f7, f8, f9, f10, f11, g0, g1, g2, g3, g4, g5, g6, g7, g8, g9, g10, g11⟩ := ndPair (xset := xset) (yset := yset) hh;clear hg hh HH;rw [hB1, hB0];have h_kind := Q_kind.out;have h_c := Q_c.out;clear Q_kind Q_c;have e_c : (xc == yc) = false := by simpa using h_c
   go_wp2_with fail
   go_ret
   exact ⟨rfl, HB.out⟩
  by_cases h_neg : xneg = yneg;rotate_left
  ·refine bE false (by simp [sameT, labEq, h_neg]) ?_;clear HS HT HK HM IH;have Q_kind := xH h_kind;have Q_c := xH h_c;have Q_neg := xH h_neg;clear h_kind h_c h_neg;unfold ndV;go_enter Tryz.func12, Tryz.ntmps12;go_upto_region 1 with (fail)
   generalize hg : (w.alloc _).alloc _ = W;have hh := HH.out;rw [hg] at hh;obtain ⟨B0, B1, hB0, hB1, HB, R0, R1, f0, f1, f2, f3, f4, f5, f6, f7, f8, f9, f10, f11, g0, g1, g2, g3, g4, g5, g6, g7, g8, g9, g10, g11⟩ := ndPair (xset := xset) (yset := yset) hh;clear hg hh HH;rw [hB1, hB0];have h_kind := Q_kind.out;have h_c := Q_c.out;have h_neg := Q_neg.out;clear Q_kind Q_c Q_neg;have i_neg : (xneg != yneg) = true := by simpa using h_neg
   have e_neg : (xneg == yneg) = false := by simpa using h_neg
   go_wp2_with fail
   go_ret
   exact ⟨rfl, HB.out⟩
  by_cases h_n : xn = yn;rotate_left
  ·refine bE false (by simp [sameT, labEq, h_n]) ?_;clear HS HT HK HM IH;have Q_kind := xH h_kind;have Q_c := xH h_c;have Q_neg := xH h_neg;have Q_n := xH h_n;clear h_kind h_c h_neg h_n;unfold ndV;go_enter Tryz.func12, Tryz.ntmps12;go_upto_region 1 with (fail)
   generalize hg : (w.alloc _).alloc _ = W;have hh := HH.out;rw [hg] at hh;obtain ⟨B0, B1, hB0, hB1, HB, R0, R1, f0, f1, f2, f3, f4, f5, f6, f7, f8, f9, f10, f11, g0, g1, g2, g3, g4, g5, g6, g7, g8, g9, g10, g11⟩ := ndPair (xset := xset) (yset := yset) hh;clear hg hh HH;rw [hB1, hB0];have h_kind := Q_kind.out;have h_c := Q_c.out;have h_neg := Q_neg.out;have h_n := Q_n.out;clear Q_kind Q_c Q_neg Q_n;have e_n : (xn == yn) = false := by simpa using h_n
   go_wp2_with fail
   go_ret
   exact ⟨rfl, HB.out⟩
  by_cases h_m : xm = ym;rotate_left
  ·refine bE false (by simp [sameT, labEq, h_m]) ?_;clear HS HT HK HM IH;have Q_kind := xH h_kind;have Q_c := xH h_c;have Q_neg := xH h_neg;have Q_n := xH h_n;have Q_m := xH h_m;clear h_kind h_c h_neg h_n h_m;unfold ndV;go_enter Tryz.func12, Tryz.ntmps12;go_upto_region 1 with (fail)
   generalize hg : (w.alloc _).alloc _ = W;have hh := HH.out;rw [hg] at hh;obtain ⟨B0, B1, hB0, hB1, HB, R0, R1, f0, f1, f2, f3, f4, f5, f6, f7, f8, f9, f10, f11, g0, g1, g2, g3, g4, g5, g6, g7, g8, g9, g10, g11⟩ := ndPair (xset := xset) (yset := yset) hh;clear hg hh HH;rw [hB1, hB0];have h_kind := Q_kind.out;have h_c := Q_c.out;have h_neg := Q_neg.out;have h_n := Q_n.out;have h_m := Q_m.out;clear Q_kind Q_c Q_neg Q_n Q_m;have e_m : (xm == ym) = false := by simpa using h_m
   go_wp2_with fail
   go_ret
   exact ⟨rfl, HB.out⟩
  by_cases h_mode : xmode = ymode;rotate_left
  ·refine bE false (by simp [sameT, labEq, h_mode]) ?_;clear HS HT HK HM IH;have Q_kind := xH h_kind;have Q_c := xH h_c;have Q_neg := xH h_neg;have Q_n := xH h_n;have Q_m := xH h_m;have Q_mode := xH h_mode;clear h_kind h_c h_neg h_n h_m h_mode;unfold ndV;go_enter Tryz.func12, Tryz.ntmps12;go_upto_region 1 with (fail)
   generalize hg : (w.alloc _).alloc _ = W;have hh := HH.out;rw [hg] at hh;obtain ⟨B0, B1, hB0, hB1, HB, R0, R1, f0, f1, f2, f3, f4, f5, f6, f7, f8, f9, f10, f11, g0, g1, g2, g3, g4, g5, g6, g7, g8, g9, g10, g11⟩ := ndPair (xset := xset) (yset := yset) hh;clear hg hh HH;rw [hB1, hB0];have h_kind := Q_kind.out;have h_c := Q_c.out;have h_neg := Q_neg.out;have h_n := Q_n.out;have h_m := Q_m.out;have h_mode := Q_mode.out;clear Q_kind Q_c Q_neg Q_n Q_m Q_mode;have e_mode : (xmode == ymode) = false := by simpa using h_mode
   go_wp2_with fail
   go_ret
   exact ⟨rfl, HB.out⟩
  by_cases h_name : xname = yname;rotate_left
  ·refine bE false (by simp [sameT, labEq, h_name]) ?_;clear HS HT HK HM IH;have Q_kind := xH h_kind;have Q_c := xH h_c;have Q_neg := xH h_neg;have Q_n := xH h_n;have Q_m := xH h_m;have Q_mode := xH h_mode;have Q_name := xH h_name;clear h_kind h_c h_neg h_n h_m h_mode h_name;unfold ndV;go_enter Tryz.func12, Tryz.ntmps12;go_upto_region 1 with (fail)
   generalize hg : (w.alloc _).alloc _ = W;have hh := HH.out;rw [hg] at hh;obtain ⟨B0, B1, hB0, hB1, HB, R0, R1, f0, f1, f2, f3, f4, f5, f6, f7, f8, f9, f10, f11, g0, g1, g2, g3, g4, g5, g6, g7, g8, g9, g10, g11⟩ := ndPair (xset := xset) (yset := yset) hh;clear hg hh HH;rw [hB1, hB0];have h_kind := Q_kind.out;have h_c := Q_c.out;have h_neg := Q_neg.out;have h_n := Q_n.out;have h_m := Q_m.out;have h_mode := Q_mode.out;have h_name := Q_name.out;clear Q_kind Q_c Q_neg Q_n Q_m Q_mode Q_name;have i_name : ¬ xname.toList = yname.toList := fun e => h_name (bytes_list e)
   have e_name3 : (xname.toList == yname.toList) = false := by simpa using fun e => h_name (bytes_list e)
   go_wp2_with fail
   go_ret
   exact ⟨rfl, HB.out⟩
  by_cases h_on : xon = yon;rotate_left
  ·refine bE false (by simp [sameT, labEq, h_on]) ?_;clear HS HT HK HM IH;have Q_kind := xH h_kind;have Q_c := xH h_c;have Q_neg := xH h_neg;have Q_n := xH h_n;have Q_m := xH h_m;have Q_mode := xH h_mode;have Q_name := xH h_name;have Q_on := xH h_on;clear h_kind h_c h_neg h_n h_m h_mode h_name h_on;unfold ndV;go_enter Tryz.func12, Tryz.ntmps12;go_upto_region 1 with (fail)
   generalize hg : (w.alloc _).alloc _ = W;have hh := HH.out;rw [hg] at hh;obtain ⟨B0, B1, hB0, hB1, HB, R0, R1, f0, f1, f2, f3, f4, f5, f6, f7, f8, f9, f10, f11, g0, g1, g2, g3, g4, g5, g6, g7, g8, g9, g10, g11⟩ := ndPair (xset := xset) (yset := yset) hh;clear hg hh HH;rw [hB1, hB0];have h_kind := Q_kind.out;have h_c := Q_c.out;have h_neg := Q_neg.out;have h_n := Q_n.out;have h_m := Q_m.out;have h_mode := Q_mode.out;have h_name := Q_name.out;have h_on := Q_on.out;clear Q_kind Q_c Q_neg Q_n Q_m Q_mode Q_name Q_on;have e_on : (xon == yon) = false := by simpa using h_on
   go_wp2_with fail
   go_ret
   exact ⟨rfl, HB.out⟩
  by_cases h_off : xoff = yoff;rotate_left
  ·refine bE false (by simp [sameT, labEq, h_off]) ?_;clear HS HT HK HM IH;have Q_kind := xH h_kind;have Q_c := xH h_c;have Q_neg := xH h_neg;have Q_n := xH h_n;have Q_m := xH h_m;have Q_mode := xH h_mode;have Q_name := xH h_name;have Q_on := xH h_on;have Q_off := xH h_off;clear h_kind h_c h_neg h_n h_m h_mode h_name h_on h_off;unfold ndV;go_enter Tryz.func12, Tryz.ntmps12;go_upto_region 1 with (fail)
   generalize hg : (w.alloc _).alloc _ = W;have hh := HH.out;rw [hg] at hh;obtain ⟨B0, B1, hB0, hB1, HB, R0, R1, f0, f1, f2, f3, f4, f5, f6, f7, f8, f9, f10, f11, g0, g1, g2, g3, g4, g5, g6, g7, g8, g9, g10, g11⟩ := ndPair (xset := xset) (yset := yset) hh;clear hg hh HH;rw [hB1, hB0];have h_kind := Q_kind.out;have h_c := Q_c.out;have h_neg := Q_neg.out;have h_n := Q_n.out;have h_m := Q_m.out;have h_mode := Q_mode.out;have h_name := Q_name.out;have h_on := Q_on.out;have h_off := Q_off.out;clear Q_kind Q_c Q_neg Q_n Q_m Q_mode Q_name Q_on Q_off;have e_off : (xoff == yoff) = false := by simpa using h_off
   go_wp2_with fail
   go_ret
   exact ⟨rfl, HB.out⟩
  by_cases h_lset : xset.length = yset.length;rotate_left
  ·refine bE false (by simp only [sameT, labEq]; rw [show decide (xset = yset) = false from decide_eq_false (fun e => h_lset (by rw [e]))]; simp) ?_;clear HS HT HK HM IH;have Q_kind := xH h_kind;have Q_c := xH h_c;have Q_neg := xH h_neg;have Q_n := xH h_n;have Q_m := xH h_m;have Q_mode := xH h_mode;have Q_name := xH h_name;have Q_on := xH h_on;have Q_off := xH h_off;have Q_lset := xH h_lset;clear h_kind h_c h_neg h_n h_m h_mode h_name h_on h_off h_lset;unfold ndV;go_enter Tryz.func12, Tryz.ntmps12;go_upto_region 1 with (fail)
   generalize hg : (w.alloc _).alloc _ = W;have hh := HH.out;rw [hg] at hh;obtain ⟨B0, B1, hB0, hB1, HB, R0, R1, f0, f1, f2, f3, f4, f5, f6, f7, f8, f9, f10, f11, g0, g1, g2, g3, g4, g5, g6, g7, g8, g9, g10, g11⟩ := ndPair (xset := xset) (yset := yset) hh;clear hg hh HH;rw [hB1, hB0];have h_kind := Q_kind.out;have h_c := Q_c.out;have h_neg := Q_neg.out;have h_n := Q_n.out;have h_m := Q_m.out;have h_mode := Q_mode.out;have h_name := Q_name.out;have h_on := Q_on.out;have h_off := Q_off.out;have h_lset := Q_lset.out;clear Q_kind Q_c Q_neg Q_n Q_m Q_mode Q_name Q_on Q_off Q_lset;have i_lset : ¬ (xset.length : Int) = (yset.length : Int) := by omega
   have e_lset : ((xset.length : Int) == (yset.length : Int)) = false := by simp; omega
   go_wp2_with fail
   go_ret
   exact ⟨rfl, HB.out⟩
  by_cases h_kids : k.len = k2.len;rotate_left
  ·refine bE false (by simp [sameT, labEq, h_kids]) ?_;clear HS HT HK HM IH;have Q_kind := xH h_kind;have Q_c := xH h_c;have Q_neg := xH h_neg;have Q_n := xH h_n;have Q_m := xH h_m;have Q_mode := xH h_mode;have Q_name := xH h_name;have Q_on := xH h_on;have Q_off := xH h_off;have Q_lset := xH h_lset;have Q_kids := xH h_kids;clear h_kind h_c h_neg h_n h_m h_mode h_name h_on h_off h_lset h_kids;unfold ndV;go_enter Tryz.func12, Tryz.ntmps12;go_upto_region 1 with (fail)
   generalize hg : (w.alloc _).alloc _ = W;have hh := HH.out;rw [hg] at hh;obtain ⟨B0, B1, hB0, hB1, HB, R0, R1, f0, f1, f2, f3, f4, f5, f6, f7, f8, f9, f10, f11, g0, g1, g2, g3, g4, g5, g6, g7, g8, g9, g10, g11⟩ := ndPair (xset := xset) (yset := yset) hh;clear hg hh HH;rw [hB1, hB0];have h_kind := Q_kind.out;have h_c := Q_c.out;have h_neg := Q_neg.out;have h_n := Q_n.out;have h_m := Q_m.out;have h_mode := Q_mode.out;have h_name := Q_name.out;have h_on := Q_on.out;have h_off := Q_off.out;have h_lset := Q_lset.out;have h_kids := Q_kids.out;clear Q_kind Q_c Q_neg Q_n Q_m Q_mode Q_name Q_on Q_off Q_lset Q_kids;have i_kids : ¬ (k.len : Int) = (k2.len : Int) := by omega
   have e_kids : ((k.len : Int) == (k2.len : Int)) = false := by simp; omega
   go_wp2_with fail
   go_ret
   exact ⟨rfl, HB.out⟩
  obtain ⟨R, hR⟩ : ∃ R, (eqRs xset yset && sameF k k2) = R := ⟨_, rfl⟩;have HR := xH (show sameT ((⟨xk, xa, xc, .slice sa xset.length sc, xset, xneg, xn, xm, xmode, xname, xon, xoff, .slice ka k.len kc⟩ : Lab), k) ((⟨yk, ya, yc, .slice ta yset.length tc, yset, yneg, yn, ym, ymode, yname, yon, yoff, .slice la k2.len lc⟩ : Lab), k2) = R by simp only [sameT, labEq, h_kind, h_c, h_neg, h_n, h_m, h_mode, h_name, h_on, h_off]; rw [← hR, eqRs_eq]; simp [h_kids]);rw [HR.out];have H0 := xH hR;have hlS := xH h_lset;have hlK := xH h_kids;clear hR HR;have Q_kind := xH h_kind;have Q_c := xH h_c;have Q_neg := xH h_neg;have Q_n := xH h_n;have Q_m := xH h_m;have Q_mode := xH h_mode;have Q_name := xH h_name;have Q_on := xH h_on;have Q_off := xH h_off;have Q_lset := xH h_lset;have Q_kids := xH h_kids;clear h_kind h_c h_neg h_n h_m h_mode h_name h_on h_off h_lset h_kids;unfold ndV;go_enter Tryz.func12, Tryz.ntmps12;go_upto_region 1 with (fail)
  generalize hg : (w.alloc _).alloc _ = W;have hh := HH.out;rw [hg] at hh;obtain ⟨B0, B1, hB0, hB1, HB, R0, R1, f0, f1, f2, f3, f4, f5, f6, f7, f8, f9, f10, f11, g0, g1, g2, g3, g4, g5, g6, g7, g8, g9, g10, g11⟩ := ndPair (xset := xset) (yset := yset) hh;clear hg hh HH;rw [hB1, hB0];have h_kind := Q_kind.out;have h_c := Q_c.out;have h_neg := Q_neg.out;have h_n := Q_n.out;have h_m := Q_m.out;have h_mode := Q_mode.out;have h_name := Q_name.out;have h_on := Q_on.out;have h_off := Q_off.out;have h_lset := Q_lset.out;have h_kids := Q_kids.out;clear Q_kind Q_c Q_neg Q_n Q_m Q_mode Q_name Q_on Q_off Q_lset Q_kids;go_wp2_with fail
  clear f0 g0 f1 g1 f2 g2 f3 g3 f4 g4 f5 g5 f6 g6 f7 g7 f8 g8 f9 g9 f10 g10 f11 g11;clear h_kind h_c h_neg h_n h_m h_mode h_name h_on h_off h_lset h_kids
  go_loopw [5] (fun iv wr => ∃ i : Nat, iv = .int .i64 i ∧ i ≤ xset.length ∧ Hid ((eqRs (xset.drop i) (yset.drop i) && sameF k k2) = R) ∧ Below W.heap.size W wr) (fun iv _ => xset.length - (intOf iv).toNat)
  case atStart => exact ⟨0, rfl, Nat.zero_le _, H0, Below.refl _ _⟩
  case round =>
   clear H0;obtain ⟨i, rfl, hi, HA, hb⟩ := hrel;have c3 := R0.out wr hb 3 _ rfl;have d3 := R1.out wr hb 3 _ rfl;have c11 := R0.out wr hb 11 _ rfl;by_cases hend : i = xset.length
   ·have HF := xH (show sameF k k2 = R by have := HA.out;rw [List.drop_eq_nil_of_le (by omega), List.drop_eq_nil_of_le (by have := hlS.out; omega)] at this;exact this)
    subst hend;clear HA HS HT;go_wp2_with fail
    clear c3 d3 c11;have HBb := xH hb
    go_loopw [6, 7] (fun iv _ wz => ∃ i : Nat, iv = .int .i64 i ∧ i ≤ k.len ∧ Hid (sameF (k.drop i) (k2.drop i) = R) ∧ Below W.heap.size W wz) (fun iv _ _ => k.len - (intOf iv).toNat)
    case atStart => exact ⟨0, rfl, Nat.zero_le _, xH (by rw [drop_zero, drop_zero]; exact HF.out), hb⟩
    case round =>
     clear hb HF;obtain ⟨i, rfl, hi, HA, hb⟩ := hrel;have c11 : wr.cell? ⟨B0, 11, none⟩ = some (.slice ka k.len kc) := R0.out wr hb 11 _ rfl;have d11 : wr.cell? ⟨B1, 11, none⟩ = some (.slice la k2.len lc) := R1.out wr hb 11 _ rfl;by_cases hend : i = k.len
     ·have HRes := xH (show true = R by have := HA.out; rw [drop_end (by omega), drop_end (by have := hlK.out; omega)] at this; exact this);subst hend;go_wp2_with fail
      go_ret
      exact ⟨by rw [← HRes.out]; rfl, HB.out.trans (hb.mono HB.out.size)⟩
     ·have hlt : i < k.len := by omega
      obtain ⟨y, k', r, hdr⟩ := drop_lt (f := k) (i := i) hlt;obtain ⟨z, m', r', hdr2⟩ := drop_lt (f := k2) (i := i) (by have := hlK.out; omega);have hbw := HB.out.trans (hb.mono HB.out.size);obtain ⟨b1, o1, cap1, hv1, _, _, _, hf1⟩ := kid_at (below_kids hbw HK.out) hdr;obtain ⟨b2, o2, cap2, hv2, _, _, _, hf2⟩ := kid_at (below_kids hbw HM.out) hdr2;obtain ⟨rfl, rfl⟩ : ka = some ⟨b1, o1, none⟩ ∧ kc = cap1 := by have := hv1;simp only [Value.slice.injEq] at this;exact ⟨this.1, this.2.2⟩
      obtain ⟨rfl, rfl⟩ : la = some ⟨b2, o2, none⟩ ∧ lc = cap2 := by have := hv2;simp only [Value.slice.injEq] at this;exact ⟨this.1, this.2.2⟩
      have hsz := size_lt hdr;have n1 := fAt_head hf1;have n2 := fAt_head hf2;have E1 := xH (hf1.1);have E2 := xH (hf2.1);have hstep : (sameT (y, k') (z, m') && sameF (k.drop (i + 1)) (k2.drop (i + 1))) = R := by rw [drop_succ hdr, drop_succ hdr2, ← HA.out, hdr, hdr2];rfl
      have HI := xH (fun w1 (h : Below wr.heap.size wr w1) => IH.out (y, k') (z, m') w1 (by show k'.size < n; omega) (vO h n1) (vO h n2));obtain ⟨q, hq⟩ : ∃ q, sameT (y, k') (z, m') = q := ⟨_, rfl⟩;rw [hq] at hstep HI;have HN := xH hstep;have a1 := add_row b1 o1 i 12;have a2 := add_row b2 o2 i 12;have i1 : (i : Int) < (k.len : Int) := by omega
      have i2 : (i : Int) < (k2.len : Int) := by omega
      have C11 := xH c11;have D11 := xH d11;clear hv1 hv2 hf1 hf2 hdr hdr2 n1 n2 hstep hq HA;go_wp2_with fail
      refine wp_region_held_drew (S := fun w' => Below wr.heap.size wr w') (by kernel_rfl) (qL wr) (fun hHeld => ?_);refine yG 0 (fun w' hSw => qf hSw C11.out) (fun w' hSw => qf hSw D11.out) ?_;simp only [xS];refine yG 1 (fun w' hSw => qf hSw C11.out) (fun w' hSw => qf hSw D11.out) ?_;simp only [xS];refine yG 2 (fun w' hSw => qf hSw C11.out) (fun w' hSw => qf hSw D11.out) ?_;simp only [xS];refine yG 3 (fun w' hSw => qf hSw C11.out) (fun w' hSw => qf hSw D11.out) ?_;simp only [xS];refine xT 4 rfl ?_ ?_ ?_;rotate_left
      ·intro w' hSw;refine jT (x := .tmp 115) (b := b1) (off := o1 + i * 12) (l := y) ?_ ?_ (fun j v hj => qf hSw (E1.out j v hj)) <;> rfl
      simp only [xS];refine yG 5 (fun w' hSw => qf hSw C11.out) (fun w' hSw => qf hSw D11.out) ?_;simp only [xS];refine yG 6 (fun w' hSw => qf hSw C11.out) (fun w' hSw => qf hSw D11.out) ?_;simp only [xS];refine yG 7 (fun w' hSw => qf hSw C11.out) (fun w' hSw => qf hSw D11.out) ?_;simp only [xS];refine yG 8 (fun w' hSw => qf hSw C11.out) (fun w' hSw => qf hSw D11.out) ?_;simp only [xS];refine xT 9 rfl ?_ ?_ ?_;rotate_left
      ·intro w' hSw;refine jT (x := .tmp 120) (b := b2) (off := o2 + i * 12) (l := z) ?_ ?_ (fun j v hj => qf hSw (E2.out j v hj)) <;> rfl
      simp only [xS];refine xD 10 rfl (fun K hK => ?_);go_simp;refine (HI.out _ hHeld).mono ?_;rintro e w4 ⟨rfl, hb5⟩;have hb4 : Below wr.heap.size wr w4 := hHeld.trans (hb5.mono hHeld.size);refine hK.out _ _ hb4 (fun hHeld => ?_);clear hK K;try simp only [xS]
      refine yT 11 ?_;simp only [xS];refine wpAnyH_done (by kernel_rfl) ?_ _;clear c11 d11;cases q with
      | false =>
       go_wp2_with fail
       go_ret
       exact ⟨by rw [← HN.out]; rfl, HB.out.trans ((hb.trans (hb4.mono hb.size)).mono HB.out.size)⟩
      | true =>
       have HN2 := xH (show sameF (k.drop (i + 1)) (k2.drop (i + 1)) = R by rw [← HN.out]; rfl);go_wp2_with fail
       go_roundw
       case rel => exact ⟨i + 1, by go_num, by omega, HN2, hb.trans (hb4.mono hb.size)⟩
       case measure => simp [intOf]; omega
   ·have hlt : i < xset.length := by omega
    have hlt2 : i < yset.length := by have := hlS.out; omega
    obtain ⟨s1, q1, hsv, _, _, k1⟩ := HS.out;obtain ⟨s2, q2, htv, _, _, k2'⟩ := HT.out;simp only [Value.slice.injEq] at hsv htv;obtain ⟨rfl, _, rfl⟩ := hsv;obtain ⟨rfl, _, rfl⟩ := htv;rcases k1 with h0 | ⟨b1, o1, rfl, k1⟩
    ·rw [h0] at hlt;simp at hlt
    rcases k2' with h0 | ⟨b2, o2, rfl, k2'⟩
    ·rw [h0] at hlt2;simp at hlt2
    have hx1 := List.getElem?_eq_getElem hlt;have hx2 := List.getElem?_eq_getElem hlt2;obtain ⟨x1, y1⟩ : ∃ x, xset[i]'hlt = x := ⟨_, rfl⟩;obtain ⟨x2, y2⟩ : ∃ x, yset[i]'hlt2 = x := ⟨_, rfl⟩;rw [y1] at hx1;rw [y2] at hx2;have hbw := HB.out.trans (hb.mono HB.out.size);obtain ⟨e1, e2, _, _⟩ := k1 i x1 hx1;obtain ⟨e3, e4, _, _⟩ := k2' i x2 hx2;obtain ⟨x1, z1⟩ := x1;obtain ⟨x2, z2⟩ := x2;simp only at e1 e2 e3 e4;have hstep := eqRs_drop hx1 hx2;have E1 := xH (qf hbw e1);have E2 := xH (qf hbw e2);have E3 := xH (qf hbw e3);have E4 := xH (qf hbw e4);have a1 := add_row b1 o1 i 2;have a2 := add_row b2 o2 i 2;have i1 : (i : Int) < (xset.length : Int) := by omega
    have i2 : (i : Int) < (yset.length : Int) := by omega
    have C3 := xH c3;have D3 := xH d3;have hA := HA.out;rw [hstep] at hA;clear hx1 hx2 y1 y2 e1 e2 e3 e4 hstep k1 k2' HA c11;by_cases h1 : x1 = x2
    ·subst h1;by_cases h2 : z1 = z2
     ·subst h2;rw [decide_eq_true rfl, Bool.true_and] at hA;have HN := xH hA;clear hA;go_wp2_with fail
      refine wp_region_held_drew (S := fun w' => Below wr.heap.size wr w') (by kernel_rfl) (qL wr) (fun hHeld => ?_);refine xT 0 rfl ?_ ?_ ?_;rotate_left
      ·intro w' hSw;exact z77
      simp only [xS];refine xT 1 rfl ?_ ?_ ?_;rotate_left
      ·intro w' hSw;exact z77
      simp only [xS];refine xT 2 rfl ?_ ?_ ?_;rotate_left
      ·intro w' hSw;exact z77
      simp only [xS];refine xT 3 rfl ?_ ?_ ?_;rotate_left
      ·intro w' hSw;exact z77
      simp only [xS];refine xT 4 rfl ?_ ?_ ?_;rotate_left
      ·intro w' hSw;exact z77
      simp only [xS];refine xT 5 rfl ?_ ?_ ?_;rotate_left
      ·intro w' hSw;exact z77
      simp only [xS];refine xT 6 rfl ?_ ?_ ?_;rotate_left
      ·intro w' hSw;exact z77
      simp only [xS];refine xT 7 rfl ?_ ?_ ?_;rotate_left
      ·intro w' hSw;exact z77
      simp only [xS];refine xT 8 rfl ?_ ?_ ?_;rotate_left
      ·intro w' hSw;exact z77
      simp only [xS];refine xT 9 rfl ?_ ?_ ?_;rotate_left
      ·intro w' hSw;exact z77
      simp only [xS];refine xT 10 rfl ?_ ?_ ?_;rotate_left
      ·intro w' hSw;exact z77
      simp only [xS];refine wpAnyH_done (by kernel_rfl) ?_ _;have hb4 := qL wr;clear c3 d3;go_wp2_with fail
      go_roundw
      case rel => exact ⟨i + 1, by go_num, by omega, HN, hb.trans (hb4.mono hb.size)⟩
      case measure => simp [intOf]; omega
     ·rw [decide_eq_false (by simp [h2])] at hA;exact z3
    ·rw [decide_eq_false (by simp [h1])] at hA;exact z3
end trw
end
section
namespace fll
open sq
open Go Go.RowKit Go.Maps utfw tkp trp trw rpp rsp rtp setw fgp fkw
open rpw (sees jB qh ql qp jm)
open ucdw (Tab3)
open tkw (sg sg_bd vJ jM)
open ext (na same_na1)
theorem na_strip8 : ∀ f : F, na (strip f) = na f
 | .nil => rfl
 | .cons x k r => by simp only [strip, na, na_strip8 k, na_strip8 r]
theorem raw_uni {r : Option F} {w w' : World} {e : Ending} (h : RawB r w e w') : ∃ y j b, e = .returned (.tuple #[ndV y, .bool b]) ∧ Below w.heap.size w w' ∧ (∀ u ∈ ndC y, u.oneCell' = true) ∧ (b = true → NdAt w' (y, j) ∧ r = some (strip (F.one y j))) := by
 obtain ⟨hb, h⟩ := h;cases r with
 | none => exact ⟨lab 0 0, .nil, false, h, hb, qp (t := (lab 0 0, F.nil)) (rpw.zero_at w'), fun e => by cases e⟩
 | some t =>
  obtain ⟨y, j, rfl, hn, hs⟩ := h;exact ⟨y, j, true, rfl, hb, qp hn, fun _ => ⟨hn, by rw [hs]⟩⟩
structure RN (W : World) (P : Nat) (y : Lab) (j : F) (b : Bool) (r : Option F) : Prop where
 row : W.heap[P]? = some (.cells (ndC y).toArray 27 (0, 0))
 nd : b = true → NdAt W (y, j) ∧ r = some (strip (F.one y j))
theorem RN.keep {W W' : World} {P : Nat} {y : Lab} {j : F} {b : Bool} {r : Option F} (h : RN W P y j b r) (hb : Below W.heap.size W W') : RN W' P y j b r :=
 ⟨(hb.block _ (Array.getElem?_eq_some_iff.1 h.row).1).trans h.row, fun e => ⟨kidsNd (h.nd e).1 hb, (h.nd e).2⟩⟩
theorem rn_new {w w' : World} {y : Lab} {j : F} {b : Bool} {r : Option F} (h : w' = (w.alloc (.cells zC.toArray 27)).setRow w.heap.size (ndC y).toArray) (hg : (w.alloc (.cells zC.toArray 27)).heap[w.heap.size]? = some (.cells zC.toArray 27 (0, 0))) (hs : b = true → NdAt w (y, j) ∧ r = some (strip (F.one y j))) : RN w' w.heap.size y j b r := by subst h;exact ⟨setRow_heap _ _ _ _ _ _ hg, fun e => ⟨kidsNd (hs e).1 (rpw.jU w _ _ _), (hs e).2⟩⟩
theorem resT8 {S : ByteArray} {o : Int} {y : Lab} {j : F} (ht : rawT S o = some (strip (F.one y j))) (p : Int) (w : World) (hn : NdAt w (y, j)) (hT : Tab3 w) : Calls Tryz.prog 10 #[ndV y, .int .i64 p] w (SelfB (fun _ => false) (answerP (y, j) p) w) := by rw [← ans_strip];exact res8 (g := sg S) (n := S.size) (o := o) ht rfl p _ w (fun i hi => by cases hi) hn hT
theorem answer_eq {x z : Lab} {j k : F} {o p : Int} (h : na (answerP (bare x, strip j) o) = na (answerP (bare z, strip k) p)) : na (answerP (x, j) o) = na (answerP (z, k) p) := by rw [answer_strip8, answer_strip8] at h;exact h
theorem grp_same {z1 z2 : Lab} {q1 q2 A B : F} (h1 : strip (F.one z1 q1) = A) (h2 : strip (F.one z2 q2) = B) (h : na A = na B) : sameT (z1, q1) (z2, q2) = true :=
 same_na1 (by rw [← na_strip8 (F.one z1 q1), ← na_strip8 (F.one z2 q2), h1, h2, h])
def ltN : Nat → ByteArray
 | 0 => ⟨#[105]⟩
 | 1 => ⟨#[109]⟩
 | 2 => ⟨#[115]⟩
 | _ => ⟨#[85]⟩
def cN : Nat → Int
 | 0 => 105
 | 1 => 109
 | 2 => 115
 | _ => 85
theorem cN_c (i : Nat) : cN i = 105 ∨ cN i = 109 ∨ cN i = 115 ∨ cN i = 85 := by
 match i with
 | 0 => exact .inl rfl
 | 1 => exact .inr (.inl rfl)
 | 2 => exact .inr (.inr (.inl rfl))
 | _ + 3 => exact .inr (.inr (.inr rfl))
theorem ltN_s (i : Nat) : (ltN i).size = 1 ∧ sg (ltN i) 0 = cN i := by
 match i with
 | 0 => exact ⟨rfl, rfl⟩
 | 1 => exact ⟨rfl, rfl⟩
 | 2 => exact ⟨rfl, rfl⟩
 | _ + 3 => exact ⟨rfl, rfl⟩
theorem group_law8 (v : Value) (n : Nat) (g : Nat → Int) (o k : Int) (w : World) (ho : -9223372036854775808 ≤ o ∧ o ≤ 9223372036854775807) (hk : -9223372036854775808 ≤ k ∧ k ≤ 9223372036854775807) (hT : Tab3 w) (hv : Sl w v n g) : Calls Tryz.prog 5 #[v, .int .i64 o, .int .i64 k] w (trw.BoolB true w) := by
 have LA := xH (awake_any8 w hT);have HT := xH hT;have HV := xH hv;have HGB := xH hv.1;have hn48 : (n : Int) ≤ 140737488355328 := by have := hv.2.1; omega
 obtain ⟨va, vc, rfl⟩ : ∃ a c, v = .slice a n c := by exact z131
 clear hT hv;by_cases hbig : 900 < n
 ·have hbigI : (900 : Int) < (n : Int) := by omega
  go_enter Tryz.func5, Tryz.ntmps5;go_wp2_with fail
  refine LA.out.mono ?_;rintro e w1 ⟨rfl, hb⟩;go_wp2_with fail
  go_ret
  exact ⟨rfl, hb⟩
 have hbigI : ¬ (900 : Int) < (n : Int) := by omega
 by_cases ho0 : o < 0
 ·go_enter Tryz.func5, Tryz.ntmps5;go_wp2_with fail
  refine LA.out.mono ?_;rintro e w1 ⟨rfl, hb⟩;go_wp2_with fail
  go_ret
  exact ⟨rfl, hb⟩
 by_cases ho1 : 65535 < o
 ·go_enter Tryz.func5, Tryz.ntmps5;go_wp2_with fail
  refine LA.out.mono ?_;rintro e w1 ⟨rfl, hb⟩;go_wp2_with fail
  go_ret
  exact ⟨rfl, hb⟩
 have HO := xH (And.intro (Int.not_lt.1 ho0) (Int.not_lt.1 ho1));have HN := xH (Nat.not_lt.1 hbig);clear hbig;go_enter Tryz.func5, Tryz.ntmps5;go_wp2_with fail
 refine LA.out.mono ?_;rintro e w1 ⟨rfl, hb⟩;have HB1 := xH hb;clear hb LA;try dsimp only
 go_upto_region 6 with (fail)
 clear ho0 ho1 hbigI;go_cut [34] (fun v34 wx => v34 = .bool (decide (k < 0)) ∧ wx = w1)
 case first =>
  go_wp2_with fail
  go_meet
  exact ⟨rfl, rfl⟩
 case rest =>
 obtain ⟨rfl, hw⟩ := hcut;subst hw;go_upto_if 34 with (fail)
 go_cut [2] (fun v2 wx => ∃ k' : Int, v2 = .int .i64 k' ∧ 0 ≤ k' ∧ k' ≤ 9223372036854775807 ∧ wx = wc)
 case first =>
  by_cases hk0 : k < 0
  ·have e1 : IntKind.i64.wrap (k + 1) = k + 1 := by rw [IntKind.wrap_i64]; omega
   have e2 : IntKind.i64.wrap (-(k + 1)) = -(k + 1) := by rw [IntKind.wrap_i64]; omega
   go_wp2_with fail
   go_meet
   exact ⟨-(k + 1), rfl, by omega, by omega, rfl⟩
  ·go_wp2_with fail
   go_meet
   exact ⟨k, rfl, by omega, by omega, rfl⟩
 case rest =>
  obtain ⟨q, rfl, hq0, hq1, hw⟩ := hcut;subst hw;obtain ⟨i, hi4, hrem⟩ : ∃ i : Nat, i < 4 ∧ q.tmod 4 = (i : Int) := ⟨(q.tmod 4).toNat, by rw [Int.tmod_eq_emod_of_nonneg hq0]; omega, by rw [Int.tmod_eq_emod_of_nonneg hq0]; omega⟩;have HI := xH hi4;clear hk ho hq1;go_upto_region 8 with (fail)
  go_cut [8] (fun v8 wx => v8 = .string (ltN i) ∧ Hid (Below wc.heap.size wc wx))
  case first =>
   exact z88
  case rest =>
  obtain ⟨rfl, hB⟩ := hcut;have HB2 := xH (trw.qi HB1.out hB.out);clear hB HB1;go_upto_region 9 with (fail)
  go_cut [9] (fun v9 wx => v9 = .int .i64 (optV (cN i)) ∧ Hid (Below wc.heap.size wc wx))
  case first =>
   exact z88
  case rest =>
  obtain ⟨rfl, hB⟩ := hcut;have HB3 := xH (trw.qi HB2.out hB.out);clear hB HB2 hrem hi4 HI hq0;have HLS := xH (ltN_s i);have HCC := xH (cN_c i);generalize ltN i = L at *;generalize cN i = c at *;have HV3 := xH (utfw.below_sl HB3.out HV.out);have hS : (strOf n g).size = n := rtw.str_size n g;have hL1 := HLS.out.1;have hn9 := HN.out;have HV4 := xH (fun (w' : World) (hb : Below w.heap.size w w') => conv_sl (utfw.below_sl hb HV.out));have HLR := xH (fun (w' : World) (hb : Below w.heap.size w w') (o : Int) => raw_any (.slice va n vc) n g o w' (utfw.below_sl hb HV.out));obtain ⟨S, hSS⟩ : ∃ S, strOf n g = S := ⟨_, rfl⟩;rw [hSS] at hS HV4 HLR;have HSS := xH hSS;clear hSS;have s0 : S.size ≤ 1000 := by omega
  have s1 : ByteArray.size ⟨#[40, 63]⟩ ≤ 1000 := by decide
  have s2 : ByteArray.size ⟨#[58]⟩ ≤ 1000 := by decide
  have s3 : ByteArray.size ⟨#[41]⟩ ≤ 1000 := by decide
  have s11 : ByteArray.size ⟨#[40, 63, 45]⟩ ≤ 1000 := by decide
  have s4 : ByteArray.size L ≤ 1000 := by omega
  have z2 : (⟨#[40, 63]⟩ : ByteArray).size = 2 := rfl;have z1 : (⟨#[58]⟩ : ByteArray).size = 1 := rfl;have z0 : (⟨#[41]⟩ : ByteArray).size = 1 := rfl;have z3 : (⟨#[40, 63, 45]⟩ : ByteArray).size = 3 := rfl;obtain ⟨A1, e1⟩ : ∃ X, (⟨#[40, 63]⟩ : ByteArray) ++ L = X := ⟨_, rfl⟩;have q1 : A1.size = 3 := by rw [← e1, ByteArray.size_append]; omega
  obtain ⟨A2, e2⟩ : ∃ X, A1 ++ (⟨#[58]⟩ : ByteArray) = X := ⟨_, rfl⟩;have q2 : A2.size = 4 := by rw [← e2, ByteArray.size_append]; omega
  obtain ⟨A3, e3⟩ : ∃ X, A2 ++ S = X := ⟨_, rfl⟩;have q3 : A3.size = 4 + n := by rw [← e3, ByteArray.size_append]; omega
  obtain ⟨A4, e4⟩ : ∃ X, A3 ++ (⟨#[41]⟩ : ByteArray) = X := ⟨_, rfl⟩;have q4 : A4.size = 5 + n := by rw [← e4, ByteArray.size_append]; omega
  have HA4 := xH (show onT L S = A4 by unfold onT; rw [e1, e2, e3, e4]);obtain ⟨B1, f1⟩ : ∃ X, (⟨#[40, 63, 45]⟩ : ByteArray) ++ L = X := ⟨_, rfl⟩;have p1 : B1.size = 4 := by rw [← f1, ByteArray.size_append]; omega
  obtain ⟨B2, f2⟩ : ∃ X, B1 ++ (⟨#[58]⟩ : ByteArray) = X := ⟨_, rfl⟩;have p2 : B2.size = 5 := by rw [← f2, ByteArray.size_append]; omega
  obtain ⟨B3, f3⟩ : ∃ X, B2 ++ S = X := ⟨_, rfl⟩;have p3 : B3.size = 5 + n := by rw [← f3, ByteArray.size_append]; omega
  obtain ⟨B4, f4⟩ : ∃ X, B3 ++ (⟨#[41]⟩ : ByteArray) = X := ⟨_, rfl⟩;have p4 : B4.size = 6 + n := by rw [← f4, ByteArray.size_append]; omega
  have HB4 := xH (show offT L S = B4 by unfold offT; rw [f1, f2, f3, f4]);have t1 : A1.size ≤ 1000 := by omega
  have t2 : A2.size ≤ 1000 := by omega
  have t3 : A3.size ≤ 1000 := by omega
  have t4 : A4.size ≤ 1000 := by omega
  have u1 : B1.size ≤ 1000 := by omega
  have u2 : B2.size ≤ 1000 := by omega
  have u3 : B3.size ≤ 1000 := by omega
  have u4 : B4.size ≤ 1000 := by omega
  clear q1 q2 q3 q4 p1 p2 p3 p4;clear z0 z1 z2 z3 hS hL1 hn9;have LR1 := xH (HLR.out wc HB3.out (bits .or .i64 o (optV c)));go_wp2_with fail
  refine LR1.out.mono ?_;intro e w2 h;obtain ⟨y1, j1, b1, rfl, hb, hone, hs⟩ := raw_uni h;have HW2 := xH (trw.qi HB3.out hb);have HO1 := xH hone;have HS1 := xH hs;have HG1 := xH (heap_alloc_new w2 (.cells zC.toArray 27));unfold zC at HG1;clear h hb hone hs LR1;try dsimp only
  unfold ndV;go_upto_region 11 with (refine wpList_store_nw rfl rfl _ _ rfl w2.heap.size rfl _ y1 HG1.out rfl HO1.out rfl ?_; intro w3 h; have HB3 := xH (show Below w2.heap.size w2 w3 from h.out ▸ rpw.jU w2 _ _ _); have R1 := xH (rn_new (w := w2) h.out HG1.out HS1.out); clear h)
  have HW3 := xH (trw.qi HW2.out HB3.out);clear HG1 HO1 HS1 HW2;have hcv := HV4.out w3 HW3.out;obtain ⟨hcb, hsl⟩ := vJ w3 A4 t4;have LR2 := xH (raw_any _ _ _ (bits .andNot .i64 o (optV c)) _ hsl);have HBW := xH (jM w3 A4);obtain ⟨r2, hr2⟩ : ∃ r, rawT A4 (bits .andNot .i64 o (optV c)) = r := ⟨_, rfl⟩;have HR2 := xH hr2;unfold rawT at hr2;rw [hr2] at LR2;clear hsl hr2;go_wp2_with fail
  refine LR2.out.mono ?_;intro e w4 h;obtain ⟨y2, j2, b2, rfl, hb, hone, hs⟩ := raw_uni h;have HW4 := xH (trw.qi (trw.qi HW3.out HBW.out) hb);have HO2 := xH hone;have HY4 := xH hb;have HS2 := xH hs;have HG2 := xH (heap_alloc_new w4 (.cells zC.toArray 27));unfold zC at HG2;clear h hb hone hs LR2;try dsimp only
  unfold ndV;go_upto_region 12 with (refine wpList_store_nw rfl rfl _ _ rfl w4.heap.size rfl _ y2 HG2.out rfl HO2.out rfl ?_; intro w5 h; have HX5 := xH (show Below w4.heap.size w4 w5 from h.out ▸ rpw.jU w4 _ _ _); have R2 := xH (rn_new (w := w4) h.out HG2.out HS2.out); clear h)
  have HW5 := xH (trw.qi HW4.out HX5.out);clear HG2 HO2 HS2 HW4;clear hcv hcb e1 e2 e3 e4 t1 t2 t3 t4;have R1' := xH (R1.out.keep (trw.qi HBW.out HY4.out));have R1 := xH (R1'.out.keep HX5.out);clear R1' HBW HY4;have hcv := HV4.out w5 HW5.out;obtain ⟨hcb, hsl⟩ := vJ w5 B4 u4;have LR3 := xH (raw_any _ _ _ (bits .or .i64 o (optV c)) _ hsl);have HBW := xH (jM w5 B4);obtain ⟨r3, hr3⟩ : ∃ r, rawT B4 (bits .or .i64 o (optV c)) = r := ⟨_, rfl⟩;have HR3 := xH hr3;unfold rawT at hr3;rw [hr3] at LR3;clear hsl hr3;go_wp2_with fail
  refine LR3.out.mono ?_;intro e w6 h;obtain ⟨y3, j3, b3, rfl, hb, hone, hs⟩ := raw_uni h;have HW6 := xH (trw.qi (trw.qi HW5.out HBW.out) hb);have HO3 := xH hone;have HY6 := xH hb;have HS3 := xH hs;have HG3 := xH (heap_alloc_new w6 (.cells zC.toArray 27));unfold zC at HG3;clear h hb hone hs LR3;try dsimp only
  unfold ndV;go_upto_region 13 with (refine wpList_store_nw rfl rfl _ _ rfl w6.heap.size rfl _ y3 HG3.out rfl HO3.out rfl ?_; intro w7 h; have HX7 := xH (show Below w6.heap.size w6 w7 from h.out ▸ rpw.jU w6 _ _ _); have R3 := xH (rn_new (w := w6) h.out HG3.out HS3.out); clear h)
  have HW7 := xH (trw.qi HW6.out HX7.out);clear HG3 HO3 HS3 HW6;clear hcv hcb f1 f2 f3 f4 u1 u2 u3 u4;have R1' := xH ((R1.out.keep (trw.qi HBW.out HY6.out)).keep HX7.out);have R2' := xH ((R2.out.keep (trw.qi HBW.out HY6.out)).keep HX7.out);clear R1 R2 HBW HY6 HX7 HX5;have LR4 := xH (HLR.out w7 HW7.out (bits .andNot .i64 o (optV c)));go_wp2_with fail
  refine LR4.out.mono ?_;intro e w8 h;obtain ⟨y4, j4, b4, rfl, hb, hone, hs⟩ := raw_uni h;have HW8 := xH (trw.qi HW7.out hb);have HO4 := xH hone;have HY8 := xH hb;have HS4 := xH hs;have HG4 := xH (heap_alloc_new w8 (.cells zC.toArray 27));unfold zC at HG4;clear h hb hone hs LR4;try dsimp only
  unfold ndV;go_upto_region 14 with (refine wpList_store_nw rfl rfl _ _ rfl w8.heap.size rfl _ y4 HG4.out rfl HO4.out rfl ?_; intro w9 h; have HX9 := xH (show Below w8.heap.size w8 w9 from h.out ▸ rpw.jU w8 _ _ _); have R4 := xH (rn_new (w := w8) h.out HG4.out HS4.out); clear h)
  have HW9 := xH (trw.qi HW8.out HX9.out);clear HG4 HO4 HS4 HW8;have R1 := xH ((R1'.out.keep HY8.out).keep HX9.out);have R2 := xH ((R2'.out.keep HY8.out).keep HX9.out);have R3' := xH ((R3.out.keep HY8.out).keep HX9.out);clear R1' R2' R3 HY8 HX9 HLR HV4 s0 s1 s2 s3 s4 s11;have HV9 := xH (utfw.below_sl HW9.out HV.out);go_wp2_with fail
  go_loopw [18] (fun v18 wr => ∃ i : Nat, v18 = .int .i64 i ∧ i ≤ n ∧ wr = w9 ∧ Hid (∀ j, j < i → g j ≠ 35 ∧ (j + 1 < n → ¬ (g j = 92 ∧ g (j + 1) = 81)))) (fun v18 _ => n - (intOf v18).toNat)
  case atStart => exact ⟨0, rfl, Nat.zero_le _, rfl, xH (fun j hj => absurd hj (Nat.not_lt_zero _))⟩
  case round =>
   obtain ⟨i, rfl, hi, hw, hJ⟩ := hrel;subst hw;have HJ := xH hJ.out;clear hJ;by_cases hlt : i < n
   ·have i1 : (i : Int) < (n : Int) := by omega
    have hw1 : IntKind.i64.wrap ((i : Int) + 1) = (i : Int) + 1 := by rw [IntKind.wrap_i64]; omega
    rcases HV9.out.2.2 with ⟨h0, _⟩ | ⟨b, off, cap, hv, hcap, hc⟩
    ·omega
    cases hv;have hci := hc i hlt;have a1 : (⟨b, off, none⟩ : Addr).add i = ⟨b, off + i, none⟩ := by unfold Addr.add; split <;> simp_all
    have hg1 := HGB.out i;by_cases k1 : g i = 35
    ·have f1 : (g i == 35) = true := by simp [k1]
     clear hc;go_wp2_with fail
     go_ret
     exact ⟨rfl, HW9.out⟩
    have f1 : (g i == 35) = false := by simp [k1]
    by_cases hl1 : i + 1 < n
    ·have i2 : (i : Int) + 1 < (n : Int) := by omega
     have hci2 := hc (i + 1) hl1;have a2 : (⟨b, off, none⟩ : Addr).add (i + 1) = ⟨b, off + (i + 1), none⟩ := by unfold Addr.add; split <;> simp_all
     have hg2 := HGB.out (i + 1);clear hc;by_cases k2 : g i = 92
     ·have f2 : (g i == 92) = true := by simp [k2]
      by_cases k3 : g (i + 1) = 81
      ·have f3 : (g (i + 1) == 81) = true := by simp [k3]
       clear k1 k2 k3;go_wp2_with fail
       go_ret
       exact ⟨rfl, HW9.out⟩
      ·have f3 : (g (i + 1) == 81) = false := by simp [k3]
       have HK := xH (And.intro k1 k3);clear k1 k2 k3;go_wp2_with fail
       refine ⟨⟨i + 1, ?_, by omega, trivial, xH fun j hj => ?_⟩, ?_⟩
       ·rfl
       ·by_cases hji : j = i
        ·rw [hji]; exact ⟨HK.out.1, fun _ h => HK.out.2 h.2⟩
        ·exact HJ.out j (by omega)
       ·simp only [intOf];omega
     ·have f2 : (g i == 92) = false := by simp [k2]
      have HK := xH (And.intro k1 k2);clear k1 k2;go_wp2_with fail
      refine ⟨⟨i + 1, ?_, by omega, trivial, xH fun j hj => ?_⟩, ?_⟩
      ·rfl
      ·by_cases hji : j = i
       ·rw [hji]; exact ⟨HK.out.1, fun _ h => HK.out.2 h.1⟩
       ·exact HJ.out j (by omega)
      ·simp only [intOf];omega
    ·have i2 : ¬ (i : Int) + 1 < (n : Int) := by omega
     clear hc;have HK := xH k1;clear k1;go_wp2_with fail
     refine ⟨⟨i + 1, ?_, by omega, trivial, xH fun j hj => ?_⟩, ?_⟩
     ·rfl
     ·by_cases hji : j = i
      ·rw [hji]; exact ⟨HK.out, fun h => absurd h hl1⟩
      ·exact HJ.out j (by omega)
     ·simp only [intOf];omega
   ·have hin : i = n := by omega
    subst hin;have hge : ¬ ((i : Int) < (i : Int)) := by omega
    clear hlt hi;cases b1 with
    | false =>
     go_wp2_with fail
     go_ret
     exact ⟨rfl, HW9.out⟩
    | true =>
    cases b4 with
    | false =>
     go_wp2_with fail
     go_ret
     exact ⟨rfl, HW9.out⟩
    | true =>
    cases b2 with
    | false =>
     go_wp2_with fail
     go_ret
     exact ⟨rfl, HW9.out⟩
    | true =>
    cases b3 with
    | false =>
     go_wp2_with fail
     go_ret
     exact ⟨rfl, HW9.out⟩
    | true =>
    obtain ⟨hn1, hr1⟩ := R1.out.nd rfl;obtain ⟨hn2, hr2⟩ := R2.out.nd rfl;obtain ⟨hn3, hr3⟩ := R3'.out.nd rfl;obtain ⟨hn4, hr4⟩ := R4.out.nd rfl;have E1 : rawT S (bits .or .i64 o (optV c)) = some (strip (F.one y1 j1)) := by rw [← hr1, ← HSS.out, rawT_str]
    have E4 : rawT S (bits .andNot .i64 o (optV c)) = some (strip (F.one y4 j4)) := by rw [← hr4, ← HSS.out, rawT_str]
    have E2 : rawT (onT L S) (bits .andNot .i64 o (optV c)) = some (strip (F.one y2 j2)) := by rw [HA4.out, HR2.out, hr2]
    have E3 : rawT (offT L S) (bits .or .i64 o (optV c)) = some (strip (F.one y3 j3)) := by rw [HB4.out, HR3.out, hr3]
    have hsz : S.size = i := by rw [← HSS.out]; exact rtw.str_size i g
    have h35 : ∀ j, j < S.size → sg S j ≠ 35 := fun j hj => by rw [← HSS.out, rtw.sg_str HGB.out (by omega)]; exact (HJ.out j (by omega)).1
    have hQ : ∀ j, j + 1 < S.size → ¬ (sg S j = 92 ∧ sg S (j + 1) = 81) := fun j hj => by rw [← HSS.out, rtw.sg_str HGB.out (by omega), rtw.sg_str HGB.out (by omega)]; exact (HJ.out j (by omega)).2 (by omega)
    have HNA1 := xH (grp_on8 HCC.out HLS.out.1 HLS.out.2 (by have := HN.out; omega) HO.out.1 HO.out.2 h35 hQ E1 E2);have HNA2 := xH (grp_off8 HCC.out HLS.out.1 HLS.out.2 (by have := HN.out; omega) HO.out.1 HO.out.2 h35 hQ E4 E3);have C1 := xH (fun (W : World) (hb : Below wr.heap.size wr W) => resT8 E1 (bits .or .i64 o (optV c)) W (kidsNd hn1 hb) (tab_below8 HT.out (trw.qi HW9.out hb)));have C2 := xH (fun (W : World) (hb : Below wr.heap.size wr W) => resT8 E2 (bits .andNot .i64 o (optV c)) W (kidsNd hn2 hb) (tab_below8 HT.out (trw.qi HW9.out hb)));have C3 := xH (fun (W : World) (hb : Below wr.heap.size wr W) => resT8 E3 (bits .or .i64 o (optV c)) W (kidsNd hn3 hb) (tab_below8 HT.out (trw.qi HW9.out hb)));have C4 := xH (fun (W : World) (hb : Below wr.heap.size wr W) => resT8 E4 (bits .andNot .i64 o (optV c)) W (kidsNd hn4 hb) (tab_below8 HT.out (trw.qi HW9.out hb)));have E1' := xH (fun j v hj => rsw.rowc (j := j) (v := v) R1.out.row hj);have E2' := xH (fun j v hj => rsw.rowc (j := j) (v := v) R2.out.row hj);have E3' := xH (fun j v hj => rsw.rowc (j := j) (v := v) R3'.out.row hj);have E4' := xH (fun j v hj => rsw.rowc (j := j) (v := v) R4.out.row hj);clear hn1 hn2 hn3 hn4 hr1 hr2 hr3 hr4 E1 E2 E3 E4 hsz h35 hQ R1 R2 R3' R4 HJ;unfold ndV at C1 C2 C3 C4;generalize w2.heap.size = P1 at *;generalize w4.heap.size = P2 at *;generalize w6.heap.size = P3 at *;generalize w8.heap.size = P4 at *;go_upto_region 21 with (fail)
    go_wp2_with fail
    refine wp_region_held_drew (S := fun w' => Below wr.heap.size wr w') (by kernel_rfl) (trw.qL wr) (fun hHeld => ?_);refine xT 0 rfl ?_ ?_ ?_;rotate_left
    ·intro w' hSw;refine jT (x := .tmp 10) (b := P1) (off := 0) (l := y1) ?_ ?_ (fun j v hj => trw.qf hSw (E1'.out j v hj)) <;> rfl
    simp only [xS];refine yT 1 ?_;simp only [xS];refine yT 2 ?_;simp only [xS];refine yT 3 ?_;simp only [xS];refine xT 5 rfl ?_ ?_ ?_;rotate_left
    ·intro w' hSw;refine jT (x := .tmp 12) (b := P2) (off := 0) (l := y2) ?_ ?_ (fun j v hj => trw.qf hSw (E2'.out j v hj)) <;> rfl
    simp only [xS];refine yT 6 ?_;simp only [xS];refine yT 7 ?_;simp only [xS];refine yT 8 ?_;simp only [xS];refine xD 4 rfl (fun K hK => ?_);go_simp;refine (C1.out _ hHeld).mono ?_;rintro e v1 ⟨z1, q1, rfl, hn, hs, hb⟩;have HN1 := xH (sees_none _ hn);have HS1 := xH hs;have HV1 := xH (trw.qi hHeld hb);have HL1 := xH hb;clear hn hs hb;try dsimp only
    unfold ndV;refine hK.out _ _ HV1.out (fun hHeld => ?_);clear hK K;try simp only [xS]
    refine xD 9 rfl (fun K hK => ?_);go_simp;refine (C2.out _ HV1.out).mono ?_;rintro e v2 ⟨z2, q2, rfl, hn, hs, hb⟩;have HN2 := xH (sees_none _ hn);have HS2 := xH hs;have HV2 := xH (trw.qi HV1.out hb);have HL2 := xH hb;clear hn hs hb;try dsimp only
    unfold ndV;refine hK.out _ _ HV2.out (fun hHeld => ?_);clear hK K;try simp only [xS]
    refine xD 10 rfl (fun K hK => ?_);go_simp;have LQ := xH (rsame_any (q1.size + 1) (z1, q1) (z2, q2) v2 (Nat.lt_succ_self _) (kidsNd HN1.out HL2.out) HN2.out);rw [grp_same HS1.out HS2.out (answer_eq HNA1.out).symm] at LQ;unfold ndV at LQ;refine LQ.out.mono ?_;rintro e u3 ⟨rfl, hb⟩;have HV3 := xH (trw.qi HV2.out hb);clear hb LQ;try dsimp only
    refine hK.out _ _ HV3.out (fun hHeld => ?_);clear hK K;try simp only [xS]
    refine yT 11 ?_;simp only [xS];refine xT 12 rfl ?_ ?_ ?_;rotate_left
    ·intro w' hSw;refine jT (x := .tmp 14) (b := P3) (off := 0) (l := y3) ?_ ?_ (fun j v hj => trw.qf hSw (E3'.out j v hj)) <;> rfl
    simp only [xS];refine yT 13 ?_;simp only [xS];refine yT 14 ?_;simp only [xS];refine yT 15 ?_;simp only [xS];refine xT 17 rfl ?_ ?_ ?_;rotate_left
    ·intro w' hSw;refine jT (x := .tmp 16) (b := P4) (off := 0) (l := y4) ?_ ?_ (fun j v hj => trw.qf hSw (E4'.out j v hj)) <;> rfl
    simp only [xS];refine yT 18 ?_;simp only [xS];refine yT 19 ?_;simp only [xS];refine yT 20 ?_;simp only [xS];refine xD 16 rfl (fun K hK => ?_);go_simp;refine (C3.out _ HV3.out).mono ?_;rintro e v3 ⟨z3, q3, rfl, hn, hs, hb⟩;have HN3 := xH (sees_none _ hn);have HS3 := xH hs;have HV6 := xH (trw.qi HV3.out hb);have HL3 := xH hb;clear hn hs hb;try dsimp only
    unfold ndV;refine hK.out _ _ HV6.out (fun hHeld => ?_);clear hK K;try simp only [xS]
    refine xD 21 rfl (fun K hK => ?_);go_simp;refine (C4.out _ HV6.out).mono ?_;rintro e v4 ⟨z4, q4, rfl, hn, hs, hb⟩;have HN4 := xH (sees_none _ hn);have HS4 := xH hs;have HV4 := xH (trw.qi HV6.out hb);have HL4 := xH hb;clear hn hs hb;try dsimp only
    unfold ndV;refine hK.out _ _ HV4.out (fun hHeld => ?_);clear hK K;try simp only [xS]
    refine xD 22 rfl (fun K hK => ?_);go_simp;have LQ := xH (rsame_any (q3.size + 1) (z3, q3) (z4, q4) v4 (Nat.lt_succ_self _) (kidsNd HN3.out HL4.out) HN4.out);rw [grp_same HS3.out HS4.out (answer_eq HNA2.out)] at LQ;unfold ndV at LQ;refine LQ.out.mono ?_;rintro e u5 ⟨rfl, hb⟩;have HV5 := xH (trw.qi HV4.out hb);clear hb LQ;try dsimp only
    refine hK.out _ _ HV5.out (fun hHeld => ?_);clear hK K;try simp only [xS]
    refine yT 23 ?_;simp only [xS];refine yT 24 ?_;simp only [xS];refine wpAnyH_done (by kernel_rfl) ?_ _;go_wp2_with fail
    go_ret
    exact ⟨rfl, trw.qi HW9.out HV5.out⟩
end fll
end
end Go.Proofs.YtikjhfmmfpeaoaaGreatDoor
