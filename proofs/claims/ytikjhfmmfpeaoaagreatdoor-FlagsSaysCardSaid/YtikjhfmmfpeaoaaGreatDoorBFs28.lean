/- T -/
import Derived.Deep.Cut
import Derived.Test.YtikjhfmmfpeaoaaGreatDoorBFs26
import Derived.Test.YtikjhfmmfpeaoaaGreatDoorBFs27
set_option maxHeartbeats 16000000
set_option maxRecDepth 1000000
namespace Go.Proofs.YtikjhfmmfpeaoaaGreatDoor
section
namespace rsw
open sq
open Go.Sort Go Go.RowKit Go.Maps setp setw tkp trp trw rpp rsp
open rpw (sees jB qU fC jP FSub vw jQ app_sub jH jm own_below qp oneR zk jV qA qh jU lab_ok rg_nil ql)
theorem node_of {u : Bool} {m : Int} (hm0 : 0 ≤ m) (hm : m ≤ 1114111) : ∀ (n : Nat) (k : F), k.size < n → NodeC u m k
 | 0, _, h => by omega
 | n + 1, k, hn => by
  have hN : ∀ k' : F, k'.size < k.size → NodeC u m k' := fun k' h => node_of hm0 hm n k' (by omega)
  have hR : RowC u m k := row_of hN;intro x f w h hold hnd hok hsz;by_cases h1 : x.kind = 1
  ·exact node_lit hm0 hm x f w h hold hnd hok hsz h1
  by_cases h2 : x.kind = 2
  ·exact node_set hm0 hm x f w h hold hnd hok hsz h2
  by_cases h3 : x.kind = 3
  ·exact node_any hm0 hm x f w h hold hnd hok hsz h3
  by_cases h4 : x.kind = 4
  ·exact node_ass hm0 hm x f w h hold hnd hok hsz h4
  by_cases h6 : x.kind = 6
  ·exact node_line hm0 hm x f w h hold hnd hok hsz h6
  by_cases h7 : x.kind = 7
  ·exact node_back hm0 hm x f w h hold hnd hok hsz h7
  by_cases h11 : x.kind = 11
  ·exact node_flags hm0 hm x f w h hold hnd hok hsz h11
  by_cases h12 : x.kind = 12
  ·exact node_seq hm0 hm hN x f w h hold hnd hok hsz h12
  by_cases h13 : x.kind = 13
  ·exact node_alt hm0 hm hR x f w h hold hnd hok hsz h13
  by_cases h15 : x.kind = 15
  ·exact node_plain hm0 hm hN x f w h hold hnd hok hsz h15
  by_cases h20 : x.kind = 20
  ·exact node_rep hm0 hm hR x f w h hold hnd hok hsz h20
  exact node_oth hm0 hm hR x f w h hold hnd hok hsz ⟨h1, h2, h3, h4, h6, h7, h11, h12, h13, h15, h20⟩
def ResB (h : Nat → Bool) (r : F) (w : World) (e : Ending) (w' : World) : Prop := Below w.heap.size w w' ∧ ∃ y j, e = .returned (ndV y) ∧ NdAt (sees h w') (y, j) ∧ strip (F.one y j) = r
theorem res_any (h : Nat → Bool) (x : Lab) (k : F) (o : Int) (w : World) (hold : Old h w.heap.size) (hn : NdAt (sees h w) (x, k)) (hok : OkF (F.one x k)) (hsz : k.size ≤ 30000) : Calls Tryz.prog 11 #[ndV x, .int .i64 o] w (ResB h (resP (x, k) o) w) := by
 have z1 := World.size_alloc w (.cells (ndC x).toArray 27);have b1 := qg w (.cells (ndC x).toArray 27);have b2 := qg (w.alloc (.cells (ndC x).toArray 27)) (.cells zC.toArray 27);have g1 := heap_alloc_new w (.cells (ndC x).toArray 27);have g2 := heap_alloc_new (w.alloc (.cells (ndC x).toArray 27)) (.cells zC.toArray 27);have z2 := World.size_alloc (w.alloc (.cells (ndC x).toArray 27)) (.cells zC.toArray 27);rw [z1] at g2 z2;have HB := xH (qi b1 b2);have HG := xH ((b2.block _ (by omega)).trans g1);have HRV := xH g2;have HZ := xH z2;have HOLD := xH hold;have HOK := xH hok;have HN := xH hn;clear z1 b1 b2 g1 g2 z2 hn hok hold;unfold ndC zC at HB HG HRV HZ;go_enter Tryz.func11, Tryz.ntmps11;unfold ndV;go_upto_region 1 with (fail)
 generalize (w.alloc _).alloc _ = w0 at *;by_cases h32 : andI o 32 = 0
 ·have hb : (bits BinOp.and IntKind.i64 o 32 != 0) = false := by unfold andI at h32; simp [h32]
  go_upto_region 2 with (fail)
  have HR := xH (show resP (x, k) o = (nodeP false 255 (fun g => rowP false 255 k g) x k (andI o 23)).1 by unfold resP; simp [h32]);have HBW := xH (qg w0 (.cells #[.bool false, .int .i64 255] 53));have d0 : (w0.alloc (.cells #[.bool false, .int .i64 255] 53)).cell? ⟨w0.heap.size, 0, none⟩ = some (.bool false) := by unfold World.cell?; rw [heap_alloc_new]; rfl
  have d1 : (w0.alloc (.cells #[.bool false, .int .i64 255] 53)).cell? ⟨w0.heap.size, 1, none⟩ = some (.int .i64 255) := by unfold World.cell?; rw [heap_alloc_new]; rfl
  clear h32;go_upto_region 4 with (fail)
  generalize (w0.alloc (.cells #[.bool false, .int .i64 255] 53)) = w1 at *;have HB1 := xH (qi HB.out HBW.out);have HG1 := xH ((HBW.out.block _ (by have := HZ.out; omega)).trans HG.out);have HRV1 := xH ((HBW.out.block _ (by have := HZ.out; omega)).trans HRV.out);have HSZ := xH (show w.heap.size + 2 ≤ w1.heap.size by have := HBW.out.size; have := HZ.out; omega);have HNC := xH (node_of (u := false) (m := 255) (by omega) (by omega) (k.size + 1) k (Nat.lt_succ_self _) x (andI o 23) w1 (fun i => h i || decide (i = w.heap.size + 1)) (fun i hi => by
   have := HSZ.out;simp only [Bool.or_eq_true, dF] at hi;rcases hi with hi | hi
   ·have := HOLD.out i hi;omega
   ·omega) (qY (qU fun a v h1 hc => ⟨by
    have := cell_lt hc;simp only [h1, Bool.false_or, dD];omega, trw.qf HB1.out hc⟩) HN.out) HOK.out hsz)
  obtain ⟨r, hr⟩ : ∃ r, nodeP false 255 (fun g => rowP false 255 k g) x k (andI o 23) = r := ⟨_, rfl⟩;exact z7
 ·have hb : (bits BinOp.and IntKind.i64 o 32 != 0) = true := by unfold andI at h32; simp [h32]
  go_upto_region 2 with (fail)
  have HR := xH (show resP (x, k) o = (nodeP true 1114111 (fun g => rowP true 1114111 k g) x k (andI o 23)).1 by unfold resP; simp [h32]);have HBW := xH (qg w0 (.cells #[.bool true, .int .i64 1114111] 53));have d0 : (w0.alloc (.cells #[.bool true, .int .i64 1114111] 53)).cell? ⟨w0.heap.size, 0, none⟩ = some (.bool true) := by unfold World.cell?; rw [heap_alloc_new]; rfl
  have d1 : (w0.alloc (.cells #[.bool true, .int .i64 1114111] 53)).cell? ⟨w0.heap.size, 1, none⟩ = some (.int .i64 1114111) := by unfold World.cell?; rw [heap_alloc_new]; rfl
  clear h32;go_upto_region 4 with (fail)
  generalize (w0.alloc (.cells #[.bool true, .int .i64 1114111] 53)) = w1 at *;have HB1 := xH (qi HB.out HBW.out);have HG1 := xH ((HBW.out.block _ (by have := HZ.out; omega)).trans HG.out);have HRV1 := xH ((HBW.out.block _ (by have := HZ.out; omega)).trans HRV.out);have HSZ := xH (show w.heap.size + 2 ≤ w1.heap.size by have := HBW.out.size; have := HZ.out; omega);have HNC := xH (node_of (u := true) (m := 1114111) (by omega) (by omega) (k.size + 1) k (Nat.lt_succ_self _) x (andI o 23) w1 (fun i => h i || decide (i = w.heap.size + 1)) (fun i hi => by
   have := HSZ.out;simp only [Bool.or_eq_true, dF] at hi;rcases hi with hi | hi
   ·have := HOLD.out i hi;omega
   ·omega) (qY (qU fun a v h1 hc => ⟨by
    have := cell_lt hc;simp only [h1, Bool.false_or, dD];omega, trw.qf HB1.out hc⟩) HN.out) HOK.out hsz)
  obtain ⟨r, hr⟩ : ∃ r, nodeP true 1114111 (fun g => rowP true 1114111 k g) x k (andI o 23) = r := ⟨_, rfl⟩;exact z7
end rsw
end
section
namespace trw
open sq
open Go.Sort Go Go.RowKit trp
def eqRs : List (Int × Int) → List (Int × Int) → Bool
 | [], [] => true
 | a :: l, b :: m => decide (a = b) && eqRs l m
 | _, _ => false
theorem eqRs_eq : ∀ l m, eqRs l m = decide (l = m)
 | [], [] => rfl
 | [], _ :: _ => by simp [eqRs]
 | _ :: _, [] => by simp [eqRs]
 | a :: l, b :: m => by simp [eqRs, eqRs_eq l m]
theorem eqRs_drop {l m : List (Int × Int)} {i : Nat} {a b : Int × Int} (ha : l[i]? = some a) (hb : m[i]? = some b) : eqRs (l.drop i) (m.drop i) = (decide (a = b) && eqRs (l.drop (i + 1)) (m.drop (i + 1))) := by obtain ⟨h1, rfl⟩ := List.getElem?_eq_some_iff.1 ha;obtain ⟨h2, rfl⟩ := List.getElem?_eq_some_iff.1 hb;rw [List.drop_eq_getElem_cons h1, List.drop_eq_getElem_cons h2, eqRs]
end trw
end
section
namespace trw
open sq
open Go Go.RowKit trp
theorem bytes_list {a b : ByteArray} (h : a.toList = b.toList) : a = b := by rw [ByteArray.toList_eq, ByteArray.toList_eq] at h;exact WideShapes.bytes_inj h
theorem ndPair {w W : World} {xk xa xc xn xm xmode xon xoff yk ya yc yn ym ymode yon yoff : Int} {xs xv ys yv : Value} {xset yset : List (Int × Int)} {xneg yneg : Bool} {xname yname : ByteArray}
 (h : Below w.heap.size w W ∧ W.heap[w.heap.size]? = some (.cells (ndC ⟨xk, xa, xc, xs, xset, xneg, xn, xm, xmode, xname, xon, xoff, xv⟩).toArray 27) ∧ W.heap[w.heap.size + 1]? = some (.cells (ndC ⟨yk, ya, yc, ys, yset, yneg, yn, ym, ymode, yname, yon, yoff, yv⟩).toArray 27)) :
 ∃ B0 B1, w.heap.size = B0 ∧ w.heap.size + 1 = B1 ∧ Hid (Below w.heap.size w W) ∧ Hid (∀ w1, Below W.heap.size W w1 → ∀ (j : Nat) v, (ndC ⟨xk, xa, xc, xs, xset, xneg, xn, xm, xmode, xname, xon, xoff, xv⟩)[j]? = some v → w1.cell? ⟨B0, j, none⟩ = some v) ∧ Hid (∀ w1, Below W.heap.size W w1 → ∀ (j : Nat) v, (ndC ⟨yk, ya, yc, ys, yset, yneg, yn, ym, ymode, yname, yon, yoff, yv⟩)[j]? = some v → w1.cell? ⟨B1, j, none⟩ = some v) ∧ W.cell? ⟨B0, 0, none⟩ = some (.int .i64 xk) ∧ W.cell? ⟨B0, 1, none⟩ = some (.int .i64 xa) ∧ W.cell? ⟨B0, 2, none⟩ = some (.int .i64 xc) ∧ W.cell? ⟨B0, 3, none⟩ = some (xs) ∧ W.cell? ⟨B0, 4, none⟩ = some (.bool xneg) ∧ W.cell? ⟨B0, 5, none⟩ = some (.int .i64 xn) ∧ W.cell? ⟨B0, 6, none⟩ = some (.int .i64 xm) ∧ W.cell? ⟨B0, 7, none⟩ = some (.int .i64 xmode) ∧ W.cell? ⟨B0, 8, none⟩ = some (.string xname) ∧ W.cell? ⟨B0, 9, none⟩ = some (.int .i64 xon) ∧ W.cell? ⟨B0, 10, none⟩ = some (.int .i64 xoff) ∧ W.cell? ⟨B0, 11, none⟩ = some (xv) ∧ W.cell? ⟨B1, 0, none⟩ = some (.int .i64 yk) ∧ W.cell? ⟨B1, 1, none⟩ = some (.int .i64 ya) ∧ W.cell? ⟨B1, 2, none⟩ = some (.int .i64 yc) ∧ W.cell? ⟨B1, 3, none⟩ = some (ys) ∧ W.cell? ⟨B1, 4, none⟩ = some (.bool yneg) ∧ W.cell? ⟨B1, 5, none⟩ = some (.int .i64 yn) ∧ W.cell? ⟨B1, 6, none⟩ = some (.int .i64 ym) ∧ W.cell? ⟨B1, 7, none⟩ = some (.int .i64 ymode) ∧ W.cell? ⟨B1, 8, none⟩ = some (.string yname) ∧ W.cell? ⟨B1, 9, none⟩ = some (.int .i64 yon) ∧ W.cell? ⟨B1, 10, none⟩ = some (.int .i64 yoff) ∧ W.cell? ⟨B1, 11, none⟩ = some (yv) := by
 obtain ⟨hb, hr, hs⟩ := h;have r0 := fun w1 (hb : Below W.heap.size W w1) => cells12 (x := ⟨xk, xa, xc, xs, xset, xneg, xn, xm, xmode, xname, xon, xoff, xv⟩) ((hb.block _ (Array.getElem?_eq_some_iff.1 hr).1).trans hr)
 have r1 := fun w1 (hb : Below W.heap.size W w1) => cells12 (x := ⟨yk, ya, yc, ys, yset, yneg, yn, ym, ymode, yname, yon, yoff, yv⟩) ((hb.block _ (Array.getElem?_eq_some_iff.1 hs).1).trans hs)
 have f := r0 W (Below.refl _ _);have g := r1 W (Below.refl _ _);exact ⟨_, _, rfl, rfl, xH hb, xH r0, xH r1, f 0 _ rfl, f 1 _ rfl, f 2 _ rfl, f 3 _ rfl, f 4 _ rfl, f 5 _ rfl, f 6 _ rfl, f 7 _ rfl, f 8 _ rfl, f 9 _ rfl, f 10 _ rfl, f 11 _ rfl, g 0 _ rfl, g 1 _ rfl, g 2 _ rfl, g 3 _ rfl, g 4 _ rfl, g 5 _ rfl, g 6 _ rfl, g 7 _ rfl, g 8 _ rfl, g 9 _ rfl, g 10 _ rfl, g 11 _ rfl⟩
theorem bE {P : Program} {f : FuncId} {vs : Array Value} {b : Bool} {w : World} (b' : Bool) (h : b = b') (hc : Calls P f vs w (BoolB b' w)) : Calls P f vs w (BoolB b w) := h ▸ hc
theorem rsame_any : ∀ (n : Nat) (a b : Nd) (w : World), a.2.size < n → NdAt w a → NdAt w b → Calls Tryz.prog 12 #[ndV a.1, ndV b.1] w (BoolB (sameT a b) w) := by
 intro n
 induction n with
 | zero => intro a b w hn; omega
 | succ n ih =>
  intro a b w hn ha hb;have IH := xH ih;clear ih;obtain ⟨sa, sc, hsv, _⟩ := ha.2.1;obtain ⟨ka, kc, hkv, _⟩ := ha.2.2;obtain ⟨ta, tc, htv, _⟩ := hb.2.1;obtain ⟨la, lc, hlv, _⟩ := hb.2.2;have HS := xH ha.2.1;have HT := xH hb.2.1;have HK := xH ha.2.2;have HM := xH hb.2.2;clear ha hb;obtain ⟨x, k⟩ := a;obtain ⟨y, k2⟩ := b;obtain ⟨xk, xa, xc, xs, xset, xneg, xn, xm, xmode, xname, xon, xoff, xkv⟩ := x;obtain ⟨yk, ya, yc, ys, yset, yneg, yn, ym, ymode, yname, yon, yoff, ykv⟩ := y;simp only at hsv hkv htv hlv hn;subst hsv hkv htv hlv;simp only at HS HT HK HM;have HH := xH (show Below w.heap.size w ((w.alloc (.cells (ndC (⟨xk, xa, xc, .slice sa xset.length sc, xset, xneg, xn, xm, xmode, xname, xon, xoff, .slice ka k.len kc⟩ : Lab)).toArray 27)).alloc (.cells (ndC (⟨yk, ya, yc, .slice ta yset.length tc, yset, yneg, yn, ym, ymode, yname, yon, yoff, .slice la k2.len lc⟩ : Lab)).toArray 27)) ∧ ((w.alloc (.cells (ndC (⟨xk, xa, xc, .slice sa xset.length sc, xset, xneg, xn, xm, xmode, xname, xon, xoff, .slice ka k.len kc⟩ : Lab)).toArray 27)).alloc (.cells (ndC (⟨yk, ya, yc, .slice ta yset.length tc, yset, yneg, yn, ym, ymode, yname, yon, yoff, .slice la k2.len lc⟩ : Lab)).toArray 27)).heap[w.heap.size]? = some (.cells (ndC (⟨xk, xa, xc, .slice sa xset.length sc, xset, xneg, xn, xm, xmode, xname, xon, xoff, .slice ka k.len kc⟩ : Lab)).toArray 27) ∧ ((w.alloc (.cells (ndC (⟨xk, xa, xc, .slice sa xset.length sc, xset, xneg, xn, xm, xmode, xname, xon, xoff, .slice ka k.len kc⟩ : Lab)).toArray 27)).alloc (.cells (ndC (⟨yk, ya, yc, .slice ta yset.length tc, yset, yneg, yn, ym, ymode, yname, yon, yoff, .slice la k2.len lc⟩ : Lab)).toArray 27)).heap[w.heap.size + 1]? = some (.cells (ndC (⟨yk, ya, yc, .slice ta yset.length tc, yset, yneg, yn, ym, ymode, yname, yon, yoff, .slice la k2.len lc⟩ : Lab)).toArray 27) from
   ⟨(qg w _).alloc (by simp) _, by rw [heap_alloc_old _ _ (by simp)]; exact heap_alloc_new _ _, by have := heap_alloc_new (w.alloc (.cells (ndC (⟨xk, xa, xc, .slice sa xset.length sc, xset, xneg, xn, xm, xmode, xname, xon, xoff, .slice ka k.len kc⟩ : Lab)).toArray 27)) (.cells (ndC (⟨yk, ya, yc, .slice ta yset.length tc, yset, yneg, yn, ym, ymode, yname, yon, yoff, .slice la k2.len lc⟩ : Lab)).toArray 27); simpa using this⟩)
  simp only [ndC] at HH;by_cases h_kind : xk = yk;rotate_left
  ·refine bE false (by simp [sameT, labEq, h_kind]) ?_;clear HS HT HK HM IH;have Q_kind := xH h_kind;clear h_kind;unfold ndV;go_enter Tryz.func12, Tryz.ntmps12;go_upto_region 1 with (fail)
   generalize hg : (w.alloc _).alloc _ = W;have hh := HH.out;rw [hg] at hh;obtain ⟨B0, B1, hB0, hB1, HB, R0, R1, f0, f1, f2, f3, f4, f5, f6, f7, f8, f9, f10, f11, g0, g1, g2, g3, g4, g5, g6, g7, g8, g9, g10, g11⟩ := ndPair (xset := xset) (yset := yset) hh;clear hg hh HH;rw [hB1, hB0];have h_kind := Q_kind.out;clear Q_kind;have e_kind : (xk == yk) = false := by simpa using h_kind
   go_wp2_with fail
   go_ret
   exact ⟨rfl, HB.out⟩
  by_cases h_c : xc = yc;rotate_left
  ·refine bE false (by simp [sameT, labEq, h_c]) ?_;clear HS HT HK HM IH;have Q_kind := xH h_kind;have Q_c := xH h_c;clear h_kind h_c;unfold ndV;go_enter Tryz.func12, Tryz.ntmps12;go_upto_region 1 with (fail)
   generalize hg : (w.alloc _).alloc _ = W;have hh := HH.out;rw [hg] at hh;obtain ⟨B0, B1, hB0, hB1, HB, R0, R1, f0, f1, f2, f3, f4, f5, f6, f7, f8, f9, f10, f11, g0, g1, g2, g3, g4, g5, g6, g7, g8, g9, g10, g11⟩ := ndPair (xset := xset) (yset := yset) hh;clear hg hh HH;rw [hB1, hB0];have h_kind := Q_kind.out;have h_c := Q_c.out;clear Q_kind Q_c;have e_c : (xc == yc) = false := by simpa using h_c
   go_wp2_with fail
   go_ret
   exact ⟨rfl, HB.out⟩
  by_cases h_neg : xneg = yneg;rotate_left
  ·refine bE false (by simp [sameT, labEq, h_neg]) ?_;clear HS HT HK HM IH;have Q_kind := xH h_kind;have Q_c := xH h_c;have Q_neg := xH h_neg;clear h_kind h_c h_neg;unfold ndV;go_enter Tryz.func12, Tryz.ntmps12;go_upto_region 1 with (fail)
   generalize hg : (w.alloc _).alloc _ = W;have hh := HH.out;rw [hg] at hh;obtain ⟨B0, B1, hB0, hB1, HB, R0, R1, f0, f1, f2, f3, f4, f5, f6, f7, f8, f9, f10, f11, g0, g1, g2, g3, g4, g5, g6, g7, g8, g9, g10, g11⟩ := ndPair (xset := xset) (yset := yset) hh;clear hg hh HH;rw [hB1, hB0];have h_kind := Q_kind.out;have h_c := Q_c.out;have h_neg := Q_neg.out;clear Q_kind Q_c Q_neg;have i_neg : (xneg != yneg) = true := by simpa using h_neg
   have e_neg : (xneg == yneg) = false := by simpa using h_neg
   go_wp2_with fail
   go_ret
   exact ⟨rfl, HB.out⟩
  by_cases h_n : xn = yn;rotate_left
  ·refine bE false (by simp [sameT, labEq, h_n]) ?_;clear HS HT HK HM IH;have Q_kind := xH h_kind;have Q_c := xH h_c;have Q_neg := xH h_neg;have Q_n := xH h_n;clear h_kind h_c h_neg h_n;unfold ndV;go_enter Tryz.func12, Tryz.ntmps12;go_upto_region 1 with (fail)
   generalize hg : (w.alloc _).alloc _ = W;have hh := HH.out;rw [hg] at hh;obtain ⟨B0, B1, hB0, hB1, HB, R0, R1, f0, f1, f2, f3, f4, f5, f6, f7, f8, f9, f10, f11, g0, g1, g2, g3, g4, g5, g6, g7, g8, g9, g10, g11⟩ := ndPair (xset := xset) (yset := yset) hh;clear hg hh HH;rw [hB1, hB0];have h_kind := Q_kind.out;have h_c := Q_c.out;have h_neg := Q_neg.out;have h_n := Q_n.out;clear Q_kind Q_c Q_neg Q_n;have e_n : (xn == yn) = false := by simpa using h_n
   go_wp2_with fail
   go_ret
   exact ⟨rfl, HB.out⟩
  by_cases h_m : xm = ym;rotate_left
  ·refine bE false (by simp [sameT, labEq, h_m]) ?_;clear HS HT HK HM IH;have Q_kind := xH h_kind;have Q_c := xH h_c;have Q_neg := xH h_neg;have Q_n := xH h_n;have Q_m := xH h_m;clear h_kind h_c h_neg h_n h_m;unfold ndV;go_enter Tryz.func12, Tryz.ntmps12;go_upto_region 1 with (fail)
   generalize hg : (w.alloc _).alloc _ = W;have hh := HH.out;rw [hg] at hh;obtain ⟨B0, B1, hB0, hB1, HB, R0, R1, f0, f1, f2, f3, f4, f5, f6, f7, f8, f9, f10, f11, g0, g1, g2, g3, g4, g5, g6, g7, g8, g9, g10, g11⟩ := ndPair (xset := xset) (yset := yset) hh;clear hg hh HH;rw [hB1, hB0];have h_kind := Q_kind.out;have h_c := Q_c.out;have h_neg := Q_neg.out;have h_n := Q_n.out;have h_m := Q_m.out;clear Q_kind Q_c Q_neg Q_n Q_m;have e_m : (xm == ym) = false := by simpa using h_m
   go_wp2_with fail
   go_ret
   exact ⟨rfl, HB.out⟩
  by_cases h_mode : xmode = ymode;rotate_left
  ·refine bE false (by simp [sameT, labEq, h_mode]) ?_;clear HS HT HK HM IH;have Q_kind := xH h_kind;have Q_c := xH h_c;have Q_neg := xH h_neg;have Q_n := xH h_n;have Q_m := xH h_m;have Q_mode := xH h_mode;clear h_kind h_c h_neg h_n h_m h_mode;unfold ndV;go_enter Tryz.func12, Tryz.ntmps12;go_upto_region 1 with (fail)
   generalize hg : (w.alloc _).alloc _ = W;have hh := HH.out;rw [hg] at hh;obtain ⟨B0, B1, hB0, hB1, HB, R0, R1, f0, f1, f2, f3, f4, f5, f6, f7, f8, f9, f10, f11, g0, g1, g2, g3, g4, g5, g6, g7, g8, g9, g10, g11⟩ := ndPair (xset := xset) (yset := yset) hh;clear hg hh HH;rw [hB1, hB0];have h_kind := Q_kind.out;have h_c := Q_c.out;have h_neg := Q_neg.out;have h_n := Q_n.out;have h_m := Q_m.out;have h_mode := Q_mode.out;clear Q_kind Q_c Q_neg Q_n Q_m Q_mode;have e_mode : (xmode == ymode) = false := by simpa using h_mode
   go_wp2_with fail
   go_ret
   exact ⟨rfl, HB.out⟩
  by_cases h_name : xname = yname;rotate_left
  ·refine bE false (by simp [sameT, labEq, h_name]) ?_;clear HS HT HK HM IH;have Q_kind := xH h_kind;have Q_c := xH h_c;have Q_neg := xH h_neg;have Q_n := xH h_n;have Q_m := xH h_m;have Q_mode := xH h_mode;have Q_name := xH h_name;clear h_kind h_c h_neg h_n h_m h_mode h_name;unfold ndV;go_enter Tryz.func12, Tryz.ntmps12;go_upto_region 1 with (fail)
   generalize hg : (w.alloc _).alloc _ = W;have hh := HH.out;rw [hg] at hh;obtain ⟨B0, B1, hB0, hB1, HB, R0, R1, f0, f1, f2, f3, f4, f5, f6, f7, f8, f9, f10, f11, g0, g1, g2, g3, g4, g5, g6, g7, g8, g9, g10, g11⟩ := ndPair (xset := xset) (yset := yset) hh;clear hg hh HH;rw [hB1, hB0];have h_kind := Q_kind.out;have h_c := Q_c.out;have h_neg := Q_neg.out;have h_n := Q_n.out;have h_m := Q_m.out;have h_mode := Q_mode.out;have h_name := Q_name.out;clear Q_kind Q_c Q_neg Q_n Q_m Q_mode Q_name;have i_name : ¬ xname.toList = yname.toList := fun e => h_name (bytes_list e)
   have e_name3 : (xname.toList == yname.toList) = false := by simpa using fun e => h_name (bytes_list e)
   go_wp2_with fail
   go_ret
   exact ⟨rfl, HB.out⟩
  by_cases h_on : xon = yon;rotate_left
  ·refine bE false (by simp [sameT, labEq, h_on]) ?_;clear HS HT HK HM IH;have Q_kind := xH h_kind;have Q_c := xH h_c;have Q_neg := xH h_neg;have Q_n := xH h_n;have Q_m := xH h_m;have Q_mode := xH h_mode;have Q_name := xH h_name;have Q_on := xH h_on;clear h_kind h_c h_neg h_n h_m h_mode h_name h_on;unfold ndV;go_enter Tryz.func12, Tryz.ntmps12;go_upto_region 1 with (fail)
   generalize hg : (w.alloc _).alloc _ = W;have hh := HH.out;rw [hg] at hh;obtain ⟨B0, B1, hB0, hB1, HB, R0, R1, f0, f1, f2, f3, f4, f5, f6, f7, f8, f9, f10, f11, g0, g1, g2, g3, g4, g5, g6, g7, g8, g9, g10, g11⟩ := ndPair (xset := xset) (yset := yset) hh;clear hg hh HH;rw [hB1, hB0];have h_kind := Q_kind.out;have h_c := Q_c.out;have h_neg := Q_neg.out;have h_n := Q_n.out;have h_m := Q_m.out;have h_mode := Q_mode.out;have h_name := Q_name.out;have h_on := Q_on.out;clear Q_kind Q_c Q_neg Q_n Q_m Q_mode Q_name Q_on;have e_on : (xon == yon) = false := by simpa using h_on
   go_wp2_with fail
   go_ret
   exact ⟨rfl, HB.out⟩
  by_cases h_off : xoff = yoff;rotate_left
  ·refine bE false (by simp [sameT, labEq, h_off]) ?_;clear HS HT HK HM IH;have Q_kind := xH h_kind;have Q_c := xH h_c;have Q_neg := xH h_neg;have Q_n := xH h_n;have Q_m := xH h_m;have Q_mode := xH h_mode;have Q_name := xH h_name;have Q_on := xH h_on;have Q_off := xH h_off;clear h_kind h_c h_neg h_n h_m h_mode h_name h_on h_off;unfold ndV;go_enter Tryz.func12, Tryz.ntmps12;go_upto_region 1 with (fail)
   generalize hg : (w.alloc _).alloc _ = W;have hh := HH.out;rw [hg] at hh;obtain ⟨B0, B1, hB0, hB1, HB, R0, R1, f0, f1, f2, f3, f4, f5, f6, f7, f8, f9, f10, f11, g0, g1, g2, g3, g4, g5, g6, g7, g8, g9, g10, g11⟩ := ndPair (xset := xset) (yset := yset) hh;clear hg hh HH;rw [hB1, hB0];have h_kind := Q_kind.out;have h_c := Q_c.out;have h_neg := Q_neg.out;have h_n := Q_n.out;have h_m := Q_m.out;have h_mode := Q_mode.out;have h_name := Q_name.out;have h_on := Q_on.out;have h_off := Q_off.out;clear Q_kind Q_c Q_neg Q_n Q_m Q_mode Q_name Q_on Q_off;have e_off : (xoff == yoff) = false := by simpa using h_off
   go_wp2_with fail
   go_ret
   exact ⟨rfl, HB.out⟩
  by_cases h_lset : xset.length = yset.length;rotate_left
  ·refine bE false (by simp only [sameT, labEq]; rw [show decide (xset = yset) = false from decide_eq_false (fun e => h_lset (by rw [e]))]; simp) ?_;clear HS HT HK HM IH;have Q_kind := xH h_kind;have Q_c := xH h_c;have Q_neg := xH h_neg;have Q_n := xH h_n;have Q_m := xH h_m;have Q_mode := xH h_mode;have Q_name := xH h_name;have Q_on := xH h_on;have Q_off := xH h_off;have Q_lset := xH h_lset;clear h_kind h_c h_neg h_n h_m h_mode h_name h_on h_off h_lset;unfold ndV;go_enter Tryz.func12, Tryz.ntmps12;go_upto_region 1 with (fail)
   generalize hg : (w.alloc _).alloc _ = W;have hh := HH.out;rw [hg] at hh;obtain ⟨B0, B1, hB0, hB1, HB, R0, R1, f0, f1, f2, f3, f4, f5, f6, f7, f8, f9, f10, f11, g0, g1, g2, g3, g4, g5, g6, g7, g8, g9, g10, g11⟩ := ndPair (xset := xset) (yset := yset) hh;clear hg hh HH;rw [hB1, hB0];have h_kind := Q_kind.out;have h_c := Q_c.out;have h_neg := Q_neg.out;have h_n := Q_n.out;have h_m := Q_m.out;have h_mode := Q_mode.out;have h_name := Q_name.out;have h_on := Q_on.out;have h_off := Q_off.out;have h_lset := Q_lset.out;clear Q_kind Q_c Q_neg Q_n Q_m Q_mode Q_name Q_on Q_off Q_lset;have i_lset : ¬ (xset.length : Int) = (yset.length : Int) := by omega
   have e_lset : ((xset.length : Int) == (yset.length : Int)) = false := by simp; omega
   go_wp2_with fail
   go_ret
   exact ⟨rfl, HB.out⟩
  by_cases h_kids : k.len = k2.len;rotate_left
  ·refine bE false (by simp [sameT, labEq, h_kids]) ?_;clear HS HT HK HM IH;have Q_kind := xH h_kind;have Q_c := xH h_c;have Q_neg := xH h_neg;have Q_n := xH h_n;have Q_m := xH h_m;have Q_mode := xH h_mode;have Q_name := xH h_name;have Q_on := xH h_on;have Q_off := xH h_off;have Q_lset := xH h_lset;have Q_kids := xH h_kids;clear h_kind h_c h_neg h_n h_m h_mode h_name h_on h_off h_lset h_kids;unfold ndV;go_enter Tryz.func12, Tryz.ntmps12;go_upto_region 1 with (fail)
   generalize hg : (w.alloc _).alloc _ = W;have hh := HH.out;rw [hg] at hh;obtain ⟨B0, B1, hB0, hB1, HB, R0, R1, f0, f1, f2, f3, f4, f5, f6, f7, f8, f9, f10, f11, g0, g1, g2, g3, g4, g5, g6, g7, g8, g9, g10, g11⟩ := ndPair (xset := xset) (yset := yset) hh;clear hg hh HH;rw [hB1, hB0];have h_kind := Q_kind.out;have h_c := Q_c.out;have h_neg := Q_neg.out;have h_n := Q_n.out;have h_m := Q_m.out;have h_mode := Q_mode.out;have h_name := Q_name.out;have h_on := Q_on.out;have h_off := Q_off.out;have h_lset := Q_lset.out;have h_kids := Q_kids.out;clear Q_kind Q_c Q_neg Q_n Q_m Q_mode Q_name Q_on Q_off Q_lset Q_kids;have i_kids : ¬ (k.len : Int) = (k2.len : Int) := by omega
   have e_kids : ((k.len : Int) == (k2.len : Int)) = false := by simp; omega
   go_wp2_with fail
   go_ret
   exact ⟨rfl, HB.out⟩
  obtain ⟨R, hR⟩ : ∃ R, (eqRs xset yset && sameF k k2) = R := ⟨_, rfl⟩;have HR := xH (show sameT ((⟨xk, xa, xc, .slice sa xset.length sc, xset, xneg, xn, xm, xmode, xname, xon, xoff, .slice ka k.len kc⟩ : Lab), k) ((⟨yk, ya, yc, .slice ta yset.length tc, yset, yneg, yn, ym, ymode, yname, yon, yoff, .slice la k2.len lc⟩ : Lab), k2) = R by simp only [sameT, labEq, h_kind, h_c, h_neg, h_n, h_m, h_mode, h_name, h_on, h_off]; rw [← hR, eqRs_eq]; simp [h_kids]);rw [HR.out];have H0 := xH hR;have hlS := xH h_lset;have hlK := xH h_kids;clear hR HR;have Q_kind := xH h_kind;have Q_c := xH h_c;have Q_neg := xH h_neg;have Q_n := xH h_n;have Q_m := xH h_m;have Q_mode := xH h_mode;have Q_name := xH h_name;have Q_on := xH h_on;have Q_off := xH h_off;have Q_lset := xH h_lset;have Q_kids := xH h_kids;clear h_kind h_c h_neg h_n h_m h_mode h_name h_on h_off h_lset h_kids;unfold ndV;go_enter Tryz.func12, Tryz.ntmps12;go_upto_region 1 with (fail)
  generalize hg : (w.alloc _).alloc _ = W;have hh := HH.out;rw [hg] at hh;obtain ⟨B0, B1, hB0, hB1, HB, R0, R1, f0, f1, f2, f3, f4, f5, f6, f7, f8, f9, f10, f11, g0, g1, g2, g3, g4, g5, g6, g7, g8, g9, g10, g11⟩ := ndPair (xset := xset) (yset := yset) hh;clear hg hh HH;rw [hB1, hB0];have h_kind := Q_kind.out;have h_c := Q_c.out;have h_neg := Q_neg.out;have h_n := Q_n.out;have h_m := Q_m.out;have h_mode := Q_mode.out;have h_name := Q_name.out;have h_on := Q_on.out;have h_off := Q_off.out;have h_lset := Q_lset.out;have h_kids := Q_kids.out;clear Q_kind Q_c Q_neg Q_n Q_m Q_mode Q_name Q_on Q_off Q_lset Q_kids;go_wp2_with fail
  clear f0 g0 f1 g1 f2 g2 f3 g3 f4 g4 f5 g5 f6 g6 f7 g7 f8 g8 f9 g9 f10 g10 f11 g11;clear h_kind h_c h_neg h_n h_m h_mode h_name h_on h_off h_lset h_kids
  go_loopw [5] (fun iv wr => ∃ i : Nat, iv = .int .i64 i ∧ i ≤ xset.length ∧ Hid ((eqRs (xset.drop i) (yset.drop i) && sameF k k2) = R) ∧ Below W.heap.size W wr) (fun iv _ => xset.length - (intOf iv).toNat)
  case atStart => exact ⟨0, rfl, Nat.zero_le _, H0, Below.refl _ _⟩
  case round =>
   clear H0;obtain ⟨i, rfl, hi, HA, hb⟩ := hrel;have c3 := R0.out wr hb 3 _ rfl;have d3 := R1.out wr hb 3 _ rfl;have c11 := R0.out wr hb 11 _ rfl;by_cases hend : i = xset.length
   ·have HF := xH (show sameF k k2 = R by have := HA.out;rw [List.drop_eq_nil_of_le (by omega), List.drop_eq_nil_of_le (by have := hlS.out; omega)] at this;exact this)
    subst hend;clear HA HS HT;go_wp2_with fail
    clear c3 d3 c11;have HBb := xH hb
    go_loopw [6, 7] (fun iv _ wz => ∃ i : Nat, iv = .int .i64 i ∧ i ≤ k.len ∧ Hid (sameF (k.drop i) (k2.drop i) = R) ∧ Below W.heap.size W wz) (fun iv _ _ => k.len - (intOf iv).toNat)
    case atStart => exact ⟨0, rfl, Nat.zero_le _, xH (by rw [drop_zero, drop_zero]; exact HF.out), hb⟩
    case round =>
     clear hb HF;obtain ⟨i, rfl, hi, HA, hb⟩ := hrel;have c11 : wr.cell? ⟨B0, 11, none⟩ = some (.slice ka k.len kc) := R0.out wr hb 11 _ rfl;have d11 : wr.cell? ⟨B1, 11, none⟩ = some (.slice la k2.len lc) := R1.out wr hb 11 _ rfl;by_cases hend : i = k.len
     ·have HRes := xH (show true = R by have := HA.out; rw [drop_end (by omega), drop_end (by have := hlK.out; omega)] at this; exact this);subst hend;go_wp2_with fail
      go_ret
      exact ⟨by rw [← HRes.out]; rfl, HB.out.trans (hb.mono HB.out.size)⟩
     ·have hlt : i < k.len := by omega
      obtain ⟨y, k', r, hdr⟩ := drop_lt (f := k) (i := i) hlt;obtain ⟨z, m', r', hdr2⟩ := drop_lt (f := k2) (i := i) (by have := hlK.out; omega);have hbw := HB.out.trans (hb.mono HB.out.size);obtain ⟨b1, o1, cap1, hv1, _, _, _, hf1⟩ := kid_at (below_kids hbw HK.out) hdr;obtain ⟨b2, o2, cap2, hv2, _, _, _, hf2⟩ := kid_at (below_kids hbw HM.out) hdr2;obtain ⟨rfl, rfl⟩ : ka = some ⟨b1, o1, none⟩ ∧ kc = cap1 := by have := hv1;simp only [Value.slice.injEq] at this;exact ⟨this.1, this.2.2⟩
      obtain ⟨rfl, rfl⟩ : la = some ⟨b2, o2, none⟩ ∧ lc = cap2 := by have := hv2;simp only [Value.slice.injEq] at this;exact ⟨this.1, this.2.2⟩
      have hsz := size_lt hdr;have n1 := fAt_head hf1;have n2 := fAt_head hf2;have E1 := xH (hf1.1);have E2 := xH (hf2.1);have hstep : (sameT (y, k') (z, m') && sameF (k.drop (i + 1)) (k2.drop (i + 1))) = R := by rw [drop_succ hdr, drop_succ hdr2, ← HA.out, hdr, hdr2];rfl
      have HI := xH (fun w1 (h : Below wr.heap.size wr w1) => IH.out (y, k') (z, m') w1 (by show k'.size < n; omega) (vO h n1) (vO h n2));obtain ⟨q, hq⟩ : ∃ q, sameT (y, k') (z, m') = q := ⟨_, rfl⟩;rw [hq] at hstep HI;have HN := xH hstep;have a1 := add_row b1 o1 i 12;have a2 := add_row b2 o2 i 12;have i1 : (i : Int) < (k.len : Int) := by omega
      have i2 : (i : Int) < (k2.len : Int) := by omega
      have C11 := xH c11;have D11 := xH d11;clear hv1 hv2 hf1 hf2 hdr hdr2 n1 n2 hstep hq HA;go_wp2_with fail
      refine wp_region_held_drew (S := fun w' => Below wr.heap.size wr w') (by kernel_rfl) (qL wr) (fun hHeld => ?_);refine yG 0 (fun w' hSw => qf hSw C11.out) (fun w' hSw => qf hSw D11.out) ?_;simp only [xS];refine yG 1 (fun w' hSw => qf hSw C11.out) (fun w' hSw => qf hSw D11.out) ?_;simp only [xS];refine yG 2 (fun w' hSw => qf hSw C11.out) (fun w' hSw => qf hSw D11.out) ?_;simp only [xS];refine yG 3 (fun w' hSw => qf hSw C11.out) (fun w' hSw => qf hSw D11.out) ?_;simp only [xS];refine xT 4 rfl ?_ ?_ ?_;rotate_left
      ·intro w' hSw;refine jT (x := .tmp 115) (b := b1) (off := o1 + i * 12) (l := y) ?_ ?_ (fun j v hj => qf hSw (E1.out j v hj)) <;> rfl
      simp only [xS];refine yG 5 (fun w' hSw => qf hSw C11.out) (fun w' hSw => qf hSw D11.out) ?_;simp only [xS];refine yG 6 (fun w' hSw => qf hSw C11.out) (fun w' hSw => qf hSw D11.out) ?_;simp only [xS];refine yG 7 (fun w' hSw => qf hSw C11.out) (fun w' hSw => qf hSw D11.out) ?_;simp only [xS];refine yG 8 (fun w' hSw => qf hSw C11.out) (fun w' hSw => qf hSw D11.out) ?_;simp only [xS];refine xT 9 rfl ?_ ?_ ?_;rotate_left
      ·intro w' hSw;refine jT (x := .tmp 120) (b := b2) (off := o2 + i * 12) (l := z) ?_ ?_ (fun j v hj => qf hSw (E2.out j v hj)) <;> rfl
      simp only [xS];refine xD 10 rfl (fun K hK => ?_);go_simp;refine (HI.out _ hHeld).mono ?_;rintro e w4 ⟨rfl, hb5⟩;have hb4 : Below wr.heap.size wr w4 := hHeld.trans (hb5.mono hHeld.size);refine hK.out _ _ hb4 (fun hHeld => ?_);clear hK K;try simp only [xS]
      refine yT 11 ?_;simp only [xS];refine wpAnyH_done (by kernel_rfl) ?_ _;clear c11 d11;cases q with
      | false =>
       exact z176
      | true =>
       have HN2 := xH (show sameF (k.drop (i + 1)) (k2.drop (i + 1)) = R by rw [← HN.out]; rfl);exact z114
   ·have hlt : i < xset.length := by omega
    have hlt2 : i < yset.length := by have := hlS.out; omega
    obtain ⟨s1, q1, hsv, _, _, k1⟩ := HS.out;obtain ⟨s2, q2, htv, _, _, k2'⟩ := HT.out;simp only [Value.slice.injEq] at hsv htv;obtain ⟨rfl, _, rfl⟩ := hsv;obtain ⟨rfl, _, rfl⟩ := htv;rcases k1 with h0 | ⟨b1, o1, rfl, k1⟩
    ·rw [h0] at hlt;simp at hlt
    rcases k2' with h0 | ⟨b2, o2, rfl, k2'⟩
    ·rw [h0] at hlt2;simp at hlt2
    have hx1 := List.getElem?_eq_getElem hlt;have hx2 := List.getElem?_eq_getElem hlt2;obtain ⟨x1, y1⟩ : ∃ x, xset[i]'hlt = x := ⟨_, rfl⟩;obtain ⟨x2, y2⟩ : ∃ x, yset[i]'hlt2 = x := ⟨_, rfl⟩;rw [y1] at hx1;rw [y2] at hx2;have hbw := HB.out.trans (hb.mono HB.out.size);obtain ⟨e1, e2, _, _⟩ := k1 i x1 hx1;obtain ⟨e3, e4, _, _⟩ := k2' i x2 hx2;obtain ⟨x1, z1⟩ := x1;obtain ⟨x2, z2⟩ := x2;simp only at e1 e2 e3 e4;have hstep := eqRs_drop hx1 hx2;have E1 := xH (qf hbw e1);have E2 := xH (qf hbw e2);have E3 := xH (qf hbw e3);have E4 := xH (qf hbw e4);have a1 := add_row b1 o1 i 2;have a2 := add_row b2 o2 i 2;have i1 : (i : Int) < (xset.length : Int) := by omega
    have i2 : (i : Int) < (yset.length : Int) := by omega
    have C3 := xH c3;have D3 := xH d3;have hA := HA.out;rw [hstep] at hA;clear hx1 hx2 y1 y2 e1 e2 e3 e4 hstep k1 k2' HA c11;by_cases h1 : x1 = x2
    ·subst h1;by_cases h2 : z1 = z2
     ·subst h2;rw [decide_eq_true rfl, Bool.true_and] at hA;have HN := xH hA;clear hA;go_wp2_with fail
      refine wp_region_held_drew (S := fun w' => Below wr.heap.size wr w') (by kernel_rfl) (qL wr) (fun hHeld => ?_);refine xT 0 rfl ?_ ?_ ?_;rotate_left
      ·intro w' hSw;exact z81
      simp only [xS];refine xT 1 rfl ?_ ?_ ?_;rotate_left
      ·intro w' hSw;exact z81
      simp only [xS];refine xT 2 rfl ?_ ?_ ?_;rotate_left
      ·intro w' hSw;exact z81
      simp only [xS];refine xT 3 rfl ?_ ?_ ?_;rotate_left
      ·intro w' hSw;exact z81
      simp only [xS];refine xT 4 rfl ?_ ?_ ?_;rotate_left
      ·intro w' hSw;exact z81
      simp only [xS];refine xT 5 rfl ?_ ?_ ?_;rotate_left
      ·intro w' hSw;exact z81
      simp only [xS];refine xT 6 rfl ?_ ?_ ?_;rotate_left
      ·intro w' hSw;exact z81
      simp only [xS];refine xT 7 rfl ?_ ?_ ?_;rotate_left
      ·intro w' hSw;exact z81
      simp only [xS];refine xT 8 rfl ?_ ?_ ?_;rotate_left
      ·intro w' hSw;exact z81
      simp only [xS];refine xT 9 rfl ?_ ?_ ?_;rotate_left
      ·intro w' hSw;exact z81
      simp only [xS];refine xT 10 rfl ?_ ?_ ?_;rotate_left
      ·intro w' hSw;exact z81
      simp only [xS];refine wpAnyH_done (by kernel_rfl) ?_ _;have hb4 := qL wr;clear c3 d3;go_wp2_with fail
      go_roundw
      case rel => exact ⟨i + 1, by go_num, by omega, HN, hb.trans (hb4.mono hb.size)⟩
      case measure => simp [intOf]; omega
     ·rw [decide_eq_false (by simp [h2])] at hA;exact z3
    ·rw [decide_eq_false (by simp [h1])] at hA;exact z3
def plF : F → F → Bool
 | .nil, .nil => true
 | .cons x k r, .cons y k' r' => decide (x.at_ = y.at_) && decide (k.len = k'.len) && plF k k' && plF r r'
 | _, _ => false
def plT (a b : Nd) : Bool := decide (a.1.at_ = b.1.at_) && decide (a.2.len = b.2.len) && plF a.2 b.2
theorem places_any : ∀ (n : Nat) (a b : Nd) (w : World), a.2.size < n → NdAt w a → NdAt w b → Calls Tryz.prog 13 #[ndV a.1, ndV b.1] w (BoolB (plT a b) w) := by
 intro n
 induction n with
 | zero => intro a b w hn; omega
 | succ n ih =>
  intro a b w hn ha hb;have IH := xH ih;clear ih;obtain ⟨sa, sc, hsv, _⟩ := ha.2.1;obtain ⟨ka, kc, hkv, _⟩ := ha.2.2;obtain ⟨ta, tc, htv, _⟩ := hb.2.1;obtain ⟨la, lc, hlv, _⟩ := hb.2.2;have HS := xH ha.2.1;have HT := xH hb.2.1;have HK := xH ha.2.2;have HM := xH hb.2.2;clear ha hb;obtain ⟨x, k⟩ := a;obtain ⟨y, k2⟩ := b;obtain ⟨xk, xa, xc, xs, xset, xneg, xn, xm, xmode, xname, xon, xoff, xkv⟩ := x;obtain ⟨yk, ya, yc, ys, yset, yneg, yn, ym, ymode, yname, yon, yoff, ykv⟩ := y;simp only at hsv hkv htv hlv hn;subst hsv hkv htv hlv;simp only at HS HT HK HM;have HH := xH (show Below w.heap.size w ((w.alloc (.cells (ndC (⟨xk, xa, xc, .slice sa xset.length sc, xset, xneg, xn, xm, xmode, xname, xon, xoff, .slice ka k.len kc⟩ : Lab)).toArray 27)).alloc (.cells (ndC (⟨yk, ya, yc, .slice ta yset.length tc, yset, yneg, yn, ym, ymode, yname, yon, yoff, .slice la k2.len lc⟩ : Lab)).toArray 27)) ∧ ((w.alloc (.cells (ndC (⟨xk, xa, xc, .slice sa xset.length sc, xset, xneg, xn, xm, xmode, xname, xon, xoff, .slice ka k.len kc⟩ : Lab)).toArray 27)).alloc (.cells (ndC (⟨yk, ya, yc, .slice ta yset.length tc, yset, yneg, yn, ym, ymode, yname, yon, yoff, .slice la k2.len lc⟩ : Lab)).toArray 27)).heap[w.heap.size]? = some (.cells (ndC (⟨xk, xa, xc, .slice sa xset.length sc, xset, xneg, xn, xm, xmode, xname, xon, xoff, .slice ka k.len kc⟩ : Lab)).toArray 27) ∧ ((w.alloc (.cells (ndC (⟨xk, xa, xc, .slice sa xset.length sc, xset, xneg, xn, xm, xmode, xname, xon, xoff, .slice ka k.len kc⟩ : Lab)).toArray 27)).alloc (.cells (ndC (⟨yk, ya, yc, .slice ta yset.length tc, yset, yneg, yn, ym, ymode, yname, yon, yoff, .slice la k2.len lc⟩ : Lab)).toArray 27)).heap[w.heap.size + 1]? = some (.cells (ndC (⟨yk, ya, yc, .slice ta yset.length tc, yset, yneg, yn, ym, ymode, yname, yon, yoff, .slice la k2.len lc⟩ : Lab)).toArray 27) from
   ⟨(qg w _).alloc (by simp) _, by rw [heap_alloc_old _ _ (by simp)]; exact heap_alloc_new _ _, by have := heap_alloc_new (w.alloc (.cells (ndC (⟨xk, xa, xc, .slice sa xset.length sc, xset, xneg, xn, xm, xmode, xname, xon, xoff, .slice ka k.len kc⟩ : Lab)).toArray 27)) (.cells (ndC (⟨yk, ya, yc, .slice ta yset.length tc, yset, yneg, yn, ym, ymode, yname, yon, yoff, .slice la k2.len lc⟩ : Lab)).toArray 27); simpa using this⟩)
  simp only [ndC] at HH;by_cases h_at : xa = ya;rotate_left
  ·have HR := xH (show plT ((⟨xk, xa, xc, .slice sa xset.length sc, xset, xneg, xn, xm, xmode, xname, xon, xoff, .slice ka k.len kc⟩ : Lab), k) ((⟨yk, ya, yc, .slice ta yset.length tc, yset, yneg, yn, ym, ymode, yname, yon, yoff, .slice la k2.len lc⟩ : Lab), k2) = false by simp [plT, h_at]);rw [HR.out];clear HS HT HK HM IH;have Q_at := xH h_at;clear h_at;unfold ndV;go_enter Tryz.func13, Tryz.ntmps13;go_upto_region 1 with (fail)
   generalize hg : (w.alloc _).alloc _ = W;have hh := HH.out;rw [hg] at hh;obtain ⟨hb0, hr, hs⟩ := hh;have HB := xH hb0;have R0 := xH (fun w1 (hb : Below W.heap.size W w1) => cells12 (x := (⟨xk, xa, xc, .slice sa xset.length sc, xset, xneg, xn, xm, xmode, xname, xon, xoff, .slice ka k.len kc⟩ : Lab)) ((hb.block _ (Array.getElem?_eq_some_iff.1 hr).1).trans hr));have R1 := xH (fun w1 (hb : Below W.heap.size W w1) => cells12 (x := (⟨yk, ya, yc, .slice ta yset.length tc, yset, yneg, yn, ym, ymode, yname, yon, yoff, .slice la k2.len lc⟩ : Lab)) ((hb.block _ (Array.getElem?_eq_some_iff.1 hs).1).trans hs));clear hg hb0 hr hs HH;obtain ⟨B1, hB1⟩ : ∃ B1, w.heap.size + 1 = B1 := ⟨_, rfl⟩;obtain ⟨B0, hB0⟩ : ∃ B0, w.heap.size = B0 := ⟨_, rfl⟩;rw [hB1] at R1 ⊢;rw [hB0] at R0 ⊢;have f0 : W.cell? ⟨B0, 0, none⟩ = some (.int .i64 xk) := R0.out W (Below.refl _ _) 0 _ rfl;have f1 : W.cell? ⟨B0, 1, none⟩ = some (.int .i64 xa) := R0.out W (Below.refl _ _) 1 _ rfl;have f2 : W.cell? ⟨B0, 2, none⟩ = some (.int .i64 xc) := R0.out W (Below.refl _ _) 2 _ rfl;have f3 : W.cell? ⟨B0, 3, none⟩ = some (.slice sa xset.length sc) := R0.out W (Below.refl _ _) 3 _ rfl;have f4 : W.cell? ⟨B0, 4, none⟩ = some (.bool xneg) := R0.out W (Below.refl _ _) 4 _ rfl;have f5 : W.cell? ⟨B0, 5, none⟩ = some (.int .i64 xn) := R0.out W (Below.refl _ _) 5 _ rfl;have f6 : W.cell? ⟨B0, 6, none⟩ = some (.int .i64 xm) := R0.out W (Below.refl _ _) 6 _ rfl;have f7 : W.cell? ⟨B0, 7, none⟩ = some (.int .i64 xmode) := R0.out W (Below.refl _ _) 7 _ rfl;have f8 : W.cell? ⟨B0, 8, none⟩ = some (.string xname) := R0.out W (Below.refl _ _) 8 _ rfl;have f9 : W.cell? ⟨B0, 9, none⟩ = some (.int .i64 xon) := R0.out W (Below.refl _ _) 9 _ rfl;have f10 : W.cell? ⟨B0, 10, none⟩ = some (.int .i64 xoff) := R0.out W (Below.refl _ _) 10 _ rfl;have f11 : W.cell? ⟨B0, 11, none⟩ = some (.slice ka k.len kc) := R0.out W (Below.refl _ _) 11 _ rfl;have g0 : W.cell? ⟨B1, 0, none⟩ = some (.int .i64 yk) := R1.out W (Below.refl _ _) 0 _ rfl;have g1 : W.cell? ⟨B1, 1, none⟩ = some (.int .i64 ya) := R1.out W (Below.refl _ _) 1 _ rfl;have g2 : W.cell? ⟨B1, 2, none⟩ = some (.int .i64 yc) := R1.out W (Below.refl _ _) 2 _ rfl;have g3 : W.cell? ⟨B1, 3, none⟩ = some (.slice ta yset.length tc) := R1.out W (Below.refl _ _) 3 _ rfl;have g4 : W.cell? ⟨B1, 4, none⟩ = some (.bool yneg) := R1.out W (Below.refl _ _) 4 _ rfl;have g5 : W.cell? ⟨B1, 5, none⟩ = some (.int .i64 yn) := R1.out W (Below.refl _ _) 5 _ rfl;have g6 : W.cell? ⟨B1, 6, none⟩ = some (.int .i64 ym) := R1.out W (Below.refl _ _) 6 _ rfl;have g7 : W.cell? ⟨B1, 7, none⟩ = some (.int .i64 ymode) := R1.out W (Below.refl _ _) 7 _ rfl;have g8 : W.cell? ⟨B1, 8, none⟩ = some (.string yname) := R1.out W (Below.refl _ _) 8 _ rfl;have g9 : W.cell? ⟨B1, 9, none⟩ = some (.int .i64 yon) := R1.out W (Below.refl _ _) 9 _ rfl;have g10 : W.cell? ⟨B1, 10, none⟩ = some (.int .i64 yoff) := R1.out W (Below.refl _ _) 10 _ rfl;have g11 : W.cell? ⟨B1, 11, none⟩ = some (.slice la k2.len lc) := R1.out W (Below.refl _ _) 11 _ rfl;have h_at := Q_at.out;clear Q_at;have e_at : (xa == ya) = false := by simpa using h_at
   have d_at : (xa != ya) = true := by simpa using h_at
   go_wp2_with fail
   go_ret
   exact ⟨rfl, HB.out⟩
  by_cases h_kids : k.len = k2.len;rotate_left
  ·have HR := xH (show plT ((⟨xk, xa, xc, .slice sa xset.length sc, xset, xneg, xn, xm, xmode, xname, xon, xoff, .slice ka k.len kc⟩ : Lab), k) ((⟨yk, ya, yc, .slice ta yset.length tc, yset, yneg, yn, ym, ymode, yname, yon, yoff, .slice la k2.len lc⟩ : Lab), k2) = false by simp [plT, h_kids]);rw [HR.out];clear HS HT HK HM IH;have Q_at := xH h_at;have Q_kids := xH h_kids;clear h_at h_kids;unfold ndV;go_enter Tryz.func13, Tryz.ntmps13;go_upto_region 1 with (fail)
   generalize hg : (w.alloc _).alloc _ = W;have hh := HH.out;rw [hg] at hh;obtain ⟨hb0, hr, hs⟩ := hh;have HB := xH hb0;have R0 := xH (fun w1 (hb : Below W.heap.size W w1) => cells12 (x := (⟨xk, xa, xc, .slice sa xset.length sc, xset, xneg, xn, xm, xmode, xname, xon, xoff, .slice ka k.len kc⟩ : Lab)) ((hb.block _ (Array.getElem?_eq_some_iff.1 hr).1).trans hr));have R1 := xH (fun w1 (hb : Below W.heap.size W w1) => cells12 (x := (⟨yk, ya, yc, .slice ta yset.length tc, yset, yneg, yn, ym, ymode, yname, yon, yoff, .slice la k2.len lc⟩ : Lab)) ((hb.block _ (Array.getElem?_eq_some_iff.1 hs).1).trans hs));clear hg hb0 hr hs HH;obtain ⟨B1, hB1⟩ : ∃ B1, w.heap.size + 1 = B1 := ⟨_, rfl⟩;obtain ⟨B0, hB0⟩ : ∃ B0, w.heap.size = B0 := ⟨_, rfl⟩;rw [hB1] at R1 ⊢;rw [hB0] at R0 ⊢;have f0 : W.cell? ⟨B0, 0, none⟩ = some (.int .i64 xk) := R0.out W (Below.refl _ _) 0 _ rfl;have f1 : W.cell? ⟨B0, 1, none⟩ = some (.int .i64 xa) := R0.out W (Below.refl _ _) 1 _ rfl;have f2 : W.cell? ⟨B0, 2, none⟩ = some (.int .i64 xc) := R0.out W (Below.refl _ _) 2 _ rfl;have f3 : W.cell? ⟨B0, 3, none⟩ = some (.slice sa xset.length sc) := R0.out W (Below.refl _ _) 3 _ rfl;have f4 : W.cell? ⟨B0, 4, none⟩ = some (.bool xneg) := R0.out W (Below.refl _ _) 4 _ rfl;have f5 : W.cell? ⟨B0, 5, none⟩ = some (.int .i64 xn) := R0.out W (Below.refl _ _) 5 _ rfl;have f6 : W.cell? ⟨B0, 6, none⟩ = some (.int .i64 xm) := R0.out W (Below.refl _ _) 6 _ rfl;have f7 : W.cell? ⟨B0, 7, none⟩ = some (.int .i64 xmode) := R0.out W (Below.refl _ _) 7 _ rfl;have f8 : W.cell? ⟨B0, 8, none⟩ = some (.string xname) := R0.out W (Below.refl _ _) 8 _ rfl;have f9 : W.cell? ⟨B0, 9, none⟩ = some (.int .i64 xon) := R0.out W (Below.refl _ _) 9 _ rfl;have f10 : W.cell? ⟨B0, 10, none⟩ = some (.int .i64 xoff) := R0.out W (Below.refl _ _) 10 _ rfl;have f11 : W.cell? ⟨B0, 11, none⟩ = some (.slice ka k.len kc) := R0.out W (Below.refl _ _) 11 _ rfl;have g0 : W.cell? ⟨B1, 0, none⟩ = some (.int .i64 yk) := R1.out W (Below.refl _ _) 0 _ rfl;have g1 : W.cell? ⟨B1, 1, none⟩ = some (.int .i64 ya) := R1.out W (Below.refl _ _) 1 _ rfl;have g2 : W.cell? ⟨B1, 2, none⟩ = some (.int .i64 yc) := R1.out W (Below.refl _ _) 2 _ rfl;have g3 : W.cell? ⟨B1, 3, none⟩ = some (.slice ta yset.length tc) := R1.out W (Below.refl _ _) 3 _ rfl;have g4 : W.cell? ⟨B1, 4, none⟩ = some (.bool yneg) := R1.out W (Below.refl _ _) 4 _ rfl;have g5 : W.cell? ⟨B1, 5, none⟩ = some (.int .i64 yn) := R1.out W (Below.refl _ _) 5 _ rfl;have g6 : W.cell? ⟨B1, 6, none⟩ = some (.int .i64 ym) := R1.out W (Below.refl _ _) 6 _ rfl;have g7 : W.cell? ⟨B1, 7, none⟩ = some (.int .i64 ymode) := R1.out W (Below.refl _ _) 7 _ rfl;have g8 : W.cell? ⟨B1, 8, none⟩ = some (.string yname) := R1.out W (Below.refl _ _) 8 _ rfl;have g9 : W.cell? ⟨B1, 9, none⟩ = some (.int .i64 yon) := R1.out W (Below.refl _ _) 9 _ rfl;have g10 : W.cell? ⟨B1, 10, none⟩ = some (.int .i64 yoff) := R1.out W (Below.refl _ _) 10 _ rfl;have g11 : W.cell? ⟨B1, 11, none⟩ = some (.slice la k2.len lc) := R1.out W (Below.refl _ _) 11 _ rfl;have h_at := Q_at.out;have h_kids := Q_kids.out;clear Q_at Q_kids;have i_kids : ¬ (k.len : Int) = (k2.len : Int) := by omega
   have e_kids : ((k.len : Int) == (k2.len : Int)) = false := by simp; omega
   have d_kids : ((k.len : Int) != (k2.len : Int)) = true := by simp; omega
   go_wp2_with fail
   go_ret
   exact ⟨rfl, HB.out⟩
  obtain ⟨R, hR⟩ : ∃ R, plF k k2 = R := ⟨_, rfl⟩;have HR := xH (show plT ((⟨xk, xa, xc, .slice sa xset.length sc, xset, xneg, xn, xm, xmode, xname, xon, xoff, .slice ka k.len kc⟩ : Lab), k) ((⟨yk, ya, yc, .slice ta yset.length tc, yset, yneg, yn, ym, ymode, yname, yon, yoff, .slice la k2.len lc⟩ : Lab), k2) = R by simp only [plT]; rw [← hR]; simp [h_at, h_kids]);rw [HR.out];have H0 := xH hR;have hlK := xH h_kids;clear hR HR;have Q_at := xH h_at;have Q_kids := xH h_kids;clear h_at h_kids;unfold ndV;go_enter Tryz.func13, Tryz.ntmps13;go_upto_region 1 with (fail)
  generalize hg : (w.alloc _).alloc _ = W;have hh := HH.out;rw [hg] at hh;obtain ⟨hb0, hr, hs⟩ := hh;have HB := xH hb0;have R0 := xH (fun w1 (hb : Below W.heap.size W w1) => cells12 (x := (⟨xk, xa, xc, .slice sa xset.length sc, xset, xneg, xn, xm, xmode, xname, xon, xoff, .slice ka k.len kc⟩ : Lab)) ((hb.block _ (Array.getElem?_eq_some_iff.1 hr).1).trans hr));have R1 := xH (fun w1 (hb : Below W.heap.size W w1) => cells12 (x := (⟨yk, ya, yc, .slice ta yset.length tc, yset, yneg, yn, ym, ymode, yname, yon, yoff, .slice la k2.len lc⟩ : Lab)) ((hb.block _ (Array.getElem?_eq_some_iff.1 hs).1).trans hs));clear hg hb0 hr hs HH;obtain ⟨B1, hB1⟩ : ∃ B1, w.heap.size + 1 = B1 := ⟨_, rfl⟩;obtain ⟨B0, hB0⟩ : ∃ B0, w.heap.size = B0 := ⟨_, rfl⟩;rw [hB1] at R1 ⊢;rw [hB0] at R0 ⊢;have f0 : W.cell? ⟨B0, 0, none⟩ = some (.int .i64 xk) := R0.out W (Below.refl _ _) 0 _ rfl;have f1 : W.cell? ⟨B0, 1, none⟩ = some (.int .i64 xa) := R0.out W (Below.refl _ _) 1 _ rfl;have f2 : W.cell? ⟨B0, 2, none⟩ = some (.int .i64 xc) := R0.out W (Below.refl _ _) 2 _ rfl;have f3 : W.cell? ⟨B0, 3, none⟩ = some (.slice sa xset.length sc) := R0.out W (Below.refl _ _) 3 _ rfl;have f4 : W.cell? ⟨B0, 4, none⟩ = some (.bool xneg) := R0.out W (Below.refl _ _) 4 _ rfl;have f5 : W.cell? ⟨B0, 5, none⟩ = some (.int .i64 xn) := R0.out W (Below.refl _ _) 5 _ rfl;have f6 : W.cell? ⟨B0, 6, none⟩ = some (.int .i64 xm) := R0.out W (Below.refl _ _) 6 _ rfl;have f7 : W.cell? ⟨B0, 7, none⟩ = some (.int .i64 xmode) := R0.out W (Below.refl _ _) 7 _ rfl;have f8 : W.cell? ⟨B0, 8, none⟩ = some (.string xname) := R0.out W (Below.refl _ _) 8 _ rfl;have f9 : W.cell? ⟨B0, 9, none⟩ = some (.int .i64 xon) := R0.out W (Below.refl _ _) 9 _ rfl;have f10 : W.cell? ⟨B0, 10, none⟩ = some (.int .i64 xoff) := R0.out W (Below.refl _ _) 10 _ rfl;have f11 : W.cell? ⟨B0, 11, none⟩ = some (.slice ka k.len kc) := R0.out W (Below.refl _ _) 11 _ rfl;have g0 : W.cell? ⟨B1, 0, none⟩ = some (.int .i64 yk) := R1.out W (Below.refl _ _) 0 _ rfl;have g1 : W.cell? ⟨B1, 1, none⟩ = some (.int .i64 ya) := R1.out W (Below.refl _ _) 1 _ rfl;have g2 : W.cell? ⟨B1, 2, none⟩ = some (.int .i64 yc) := R1.out W (Below.refl _ _) 2 _ rfl;have g3 : W.cell? ⟨B1, 3, none⟩ = some (.slice ta yset.length tc) := R1.out W (Below.refl _ _) 3 _ rfl;have g4 : W.cell? ⟨B1, 4, none⟩ = some (.bool yneg) := R1.out W (Below.refl _ _) 4 _ rfl;have g5 : W.cell? ⟨B1, 5, none⟩ = some (.int .i64 yn) := R1.out W (Below.refl _ _) 5 _ rfl;have g6 : W.cell? ⟨B1, 6, none⟩ = some (.int .i64 ym) := R1.out W (Below.refl _ _) 6 _ rfl;have g7 : W.cell? ⟨B1, 7, none⟩ = some (.int .i64 ymode) := R1.out W (Below.refl _ _) 7 _ rfl;have g8 : W.cell? ⟨B1, 8, none⟩ = some (.string yname) := R1.out W (Below.refl _ _) 8 _ rfl;have g9 : W.cell? ⟨B1, 9, none⟩ = some (.int .i64 yon) := R1.out W (Below.refl _ _) 9 _ rfl;have g10 : W.cell? ⟨B1, 10, none⟩ = some (.int .i64 yoff) := R1.out W (Below.refl _ _) 10 _ rfl;have g11 : W.cell? ⟨B1, 11, none⟩ = some (.slice la k2.len lc) := R1.out W (Below.refl _ _) 11 _ rfl;have h_at := Q_at.out;have h_kids := Q_kids.out;clear Q_at Q_kids;go_wp2_with fail
  clear f0 g0 f1 g1 f2 g2 f3 g3 f4 g4 f5 g5 f6 g6 f7 g7 f8 g8 f9 g9 f10 g10 f11 g11;clear h_at h_kids
  go_loopw [5] (fun iv wz => ∃ i : Nat, iv = .int .i64 i ∧ i ≤ k.len ∧ Hid (plF (k.drop i) (k2.drop i) = R) ∧ Below W.heap.size W wz) (fun iv _ => k.len - (intOf iv).toNat)
  case atStart => exact ⟨0, rfl, Nat.zero_le _, xH (by rw [drop_zero, drop_zero]; exact H0.out), Below.refl _ _⟩
  case round =>
   clear H0;obtain ⟨i, rfl, hi, HA, hb⟩ := hrel;have c11 : wr.cell? ⟨B0, 11, none⟩ = some (.slice ka k.len kc) := R0.out wr hb 11 _ rfl;have d11 : wr.cell? ⟨B1, 11, none⟩ = some (.slice la k2.len lc) := R1.out wr hb 11 _ rfl;by_cases hend : i = k.len
   ·have HRes := xH (show true = R by have := HA.out; rw [drop_end (by omega), drop_end (by have := hlK.out; omega)] at this; exact this);subst hend;go_wp2_with fail
    go_ret
    exact ⟨by rw [← HRes.out]; rfl, HB.out.trans (hb.mono HB.out.size)⟩
   ·have hlt : i < k.len := by omega
    obtain ⟨y, k', r, hdr⟩ := drop_lt (f := k) (i := i) hlt;obtain ⟨z, m', r', hdr2⟩ := drop_lt (f := k2) (i := i) (by have := hlK.out; omega);have hbw := HB.out.trans (hb.mono HB.out.size);obtain ⟨b1, o1, cap1, hv1, _, _, _, hf1⟩ := kid_at (below_kids hbw HK.out) hdr;obtain ⟨b2, o2, cap2, hv2, _, _, _, hf2⟩ := kid_at (below_kids hbw HM.out) hdr2;obtain ⟨rfl, rfl⟩ : ka = some ⟨b1, o1, none⟩ ∧ kc = cap1 := by have := hv1;simp only [Value.slice.injEq] at this;exact ⟨this.1, this.2.2⟩
    obtain ⟨rfl, rfl⟩ : la = some ⟨b2, o2, none⟩ ∧ lc = cap2 := by have := hv2;simp only [Value.slice.injEq] at this;exact ⟨this.1, this.2.2⟩
    have hsz := size_lt hdr;have n1 := fAt_head hf1;have n2 := fAt_head hf2;have E1 := xH (hf1.1);have E2 := xH (hf2.1);have hstep : (plT (y, k') (z, m') && plF (k.drop (i + 1)) (k2.drop (i + 1))) = R := by rw [drop_succ hdr, drop_succ hdr2, ← HA.out, hdr, hdr2];rfl
    have HI := xH (fun w1 (h : Below wr.heap.size wr w1) => IH.out (y, k') (z, m') w1 (by show k'.size < n; omega) (vO h n1) (vO h n2));obtain ⟨q, hq⟩ : ∃ q, plT (y, k') (z, m') = q := ⟨_, rfl⟩;rw [hq] at hstep HI;have HN := xH hstep;have a1 := add_row b1 o1 i 12;have a2 := add_row b2 o2 i 12;have i1 : (i : Int) < (k.len : Int) := by omega
    have i2 : (i : Int) < (k2.len : Int) := by omega
    have C11 := xH c11;have D11 := xH d11;clear hv1 hv2 hf1 hf2 hdr hdr2 n1 n2 hstep hq HA;go_wp2_with fail
    refine wp_region_held_drew (S := fun w' => Below wr.heap.size wr w') (by kernel_rfl) (qL wr) (fun hHeld => ?_);refine yG 0 (fun w' hSw => qf hSw C11.out) (fun w' hSw => qf hSw D11.out) ?_;simp only [xS];refine yG 1 (fun w' hSw => qf hSw C11.out) (fun w' hSw => qf hSw D11.out) ?_;simp only [xS];refine yG 2 (fun w' hSw => qf hSw C11.out) (fun w' hSw => qf hSw D11.out) ?_;simp only [xS];refine yG 3 (fun w' hSw => qf hSw C11.out) (fun w' hSw => qf hSw D11.out) ?_;simp only [xS];refine xT 4 rfl ?_ ?_ ?_;rotate_left
    ·intro w' hSw;refine jT (x := .tmp 31) (b := b1) (off := o1 + i * 12) (l := y) ?_ ?_ (fun j v hj => qf hSw (E1.out j v hj)) <;> rfl
    simp only [xS];refine yG 5 (fun w' hSw => qf hSw C11.out) (fun w' hSw => qf hSw D11.out) ?_;simp only [xS];refine yG 6 (fun w' hSw => qf hSw C11.out) (fun w' hSw => qf hSw D11.out) ?_;simp only [xS];refine yG 7 (fun w' hSw => qf hSw C11.out) (fun w' hSw => qf hSw D11.out) ?_;simp only [xS];refine yG 8 (fun w' hSw => qf hSw C11.out) (fun w' hSw => qf hSw D11.out) ?_;simp only [xS];refine xT 9 rfl ?_ ?_ ?_;rotate_left
    ·intro w' hSw;refine jT (x := .tmp 36) (b := b2) (off := o2 + i * 12) (l := z) ?_ ?_ (fun j v hj => qf hSw (E2.out j v hj)) <;> rfl
    simp only [xS];refine xD 10 rfl (fun K hK => ?_);go_simp;refine (HI.out _ hHeld).mono ?_;rintro e w4 ⟨rfl, hb5⟩;have hb4 : Below wr.heap.size wr w4 := hHeld.trans (hb5.mono hHeld.size);refine hK.out _ _ hb4 (fun hHeld => ?_);clear hK K;try simp only [xS]
    refine yT 11 ?_;simp only [xS];refine wpAnyH_done (by kernel_rfl) ?_ _;clear c11 d11;cases q with
    | false =>
     exact z176
    | true =>
     have HN2 := xH (show plF (k.drop (i + 1)) (k2.drop (i + 1)) = R by rw [← HN.out]; rfl);exact z114
end trw
end
end Go.Proofs.YtikjhfmmfpeaoaaGreatDoor
