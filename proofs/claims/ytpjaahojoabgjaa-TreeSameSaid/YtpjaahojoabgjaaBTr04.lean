/- Texts that TreeCountsLaw leans on, merged: what the functions of the program answer. -/
import Derived.BigQuiet
import Derived.Deep.Cut
import Derived.Lib.QuietBelow
import Derived.OwnWalk
import Derived.Test.YtpjaahojoabgjaaBTr03
section
namespace Go.Proofs.Ytpjaahojoabgjaa.trw
open Go Go.RowKit trp
theorem cells12 {w : World} {B : Nat} {x : Lab} {t : TypeId} (h : w.heap[B]? = some (.cells (ndC x).toArray t)) : ∀ (j : Nat) v, (ndC x)[j]? = some v → w.cell? ⟨B, j, none⟩ = some v := fun j v hj => by
 rw [cell_of_row _ _ _ _ _ _ h]
 simpa using hj
theorem take_size (t : Nd) : ((preT t).take 4001).countP (fun q => (fun _ : Nd => true) q.1) = min 4001 (t.2.size + 1) := by
 rw [List.countP_true, List.length_take, preT_length]
theorem take_caps {t : Nd} (h : t.2.size + 1 ≤ 4000) : ((preT t).take 4001).countP (fun q => isCap q.1) = capsT t := by
 rw [List.take_of_length_le (by rw [preT_length]; omega), caps_preT]
set_option maxHeartbeats 1000000 in
theorem psize_any (x : Lab) (k : F) (w : World) (hn : NdAt w (x, k)) : Calls Try.prog 10 #[ndV x] w (IntB (min 4001 (k.size + 1) : Nat) w) := by
 have HC := Lib.hid (fun w1 (hb : Below w.heap.size w w1) => pcount_any x k w1 (below_nd hb hn) 25 (fun _ => true) (enters_of Try.func25 (by kernel_rfl) rfl) size1_any)
 rw [take_size] at HC
 obtain ⟨sa, sc, hsv, _⟩ := hn.2.1
 obtain ⟨ka, kc, hkv, _⟩ := hn.2.2
 obtain ⟨R, hR⟩ : ∃ R, min 4001 (k.size + 1) = R := ⟨_, rfl⟩
 simp only at HC
 rw [hR] at HC ⊢
 clear hn hR
 obtain ⟨xk, xa, xc, xs, xset, xneg, xn, xm, xmode, xname, xon, xoff, xkv⟩ := x
 simp only at hsv hkv
 subst hsv hkv
 unfold ndV at *
 go_enter Try.func10, Try.ntmps10
 go_wp2_with fail
 refine (HC.out _ (below_alloc w _)).mono ?_
 rintro e w1 ⟨rfl, hb1⟩
 go_wp2_with fail
 go_ret
 exact ⟨rfl, below_box hb1⟩
set_option maxHeartbeats 1000000 in
theorem pcaps_any (x : Lab) (k : F) (w : World) (hn : NdAt w (x, k)) (hs : k.size + 1 ≤ 4000) : Calls Try.prog 20 #[ndV x] w (IntB (capsT (x, k) : Nat) w) := by
 have HC := Lib.hid (fun w1 (hb : Below w.heap.size w w1) => pcount_any x k w1 (below_nd hb hn) 35 isCap (enters_of Try.func35 (by kernel_rfl) rfl) caps1_any)
 rw [take_caps (t := (x, k)) hs] at HC
 obtain ⟨sa, sc, hsv, _⟩ := hn.2.1
 obtain ⟨ka, kc, hkv, _⟩ := hn.2.2
 obtain ⟨R, hR⟩ : ∃ R, capsT (x, k) = R := ⟨_, rfl⟩
 rw [hR] at HC ⊢
 clear hn hR
 obtain ⟨xk, xa, xc, xs, xset, xneg, xn, xm, xmode, xname, xon, xoff, xkv⟩ := x
 simp only at hsv hkv
 subst hsv hkv
 unfold ndV at *
 go_enter Try.func20, Try.ntmps20
 go_wp2_with fail
 refine (HC.out _ (below_alloc w _)).mono ?_
 rintro e w1 ⟨rfl, hb1⟩
 go_wp2_with fail
 go_ret
 exact ⟨rfl, below_box hb1⟩
theorem depth_stop {t : Nd} {B m : Nat} (hs : t.2.size + 1 ≤ 4000) (h : Stopped (LkDepth (preT t) B) m) : mx (preT t) m = min 301 (t.2.deep + 1) := by
 obtain ⟨h1, h2, h3, h4, h5⟩ := h
 have h3 : m ≤ (preT t).length := h3
 have hl := preT_length t
 rw [← dep_preT, ← mx_dep h3 (fun i hi => of_decide_eq_true (h4 i hi)) ?_ (m - 1) 0 (by omega)]
 · rfl
 · rcases h5 with h5 | h5 | h5
   · have h5 : decide (mx (preT t) (m - 1 + 1) ≤ 300) = false := h5
     rw [show m - 1 + 1 = m by omega] at h5
     exact Or.inl (of_decide_eq_false h5)
   · omega
   · exact Or.inr h5
theorem alloc_at1 (w : World) (A : Obj) (v : Value) (t : TypeId) : One ((w.alloc A).alloc (.cells #[v] t)) (w.heap.size + 1) v t := by
 unfold One
 have := heap_alloc_new (w.alloc A) (.cells #[v] t)
 simpa using this
set_option maxHeartbeats 1000000 in
theorem pdepth_any (x : Lab) (k : F) (w : World) (hn : NdAt w (x, k)) (hs : k.size + 1 ≤ 4000) : Calls Try.prog 13 #[ndV x] w (IntB (min 301 (k.deep + 1) : Nat) w) := by
 have HW := Lib.hid (fun (B : Nat) (w3 : World) (hB : B = w.heap.size) (hb : Below w.heap.size w w3) (h1 : One w3 (B + 1) (.int .i64 (0 : Nat)) 3) =>
   walk_any w (LkDepth (preT (x, k)) (B + 1)) (lkDepth_ok (t := (x, k)) (by omega)) x k w3 () hb hn rfl h1)
 obtain ⟨sa, sc, hsv, _⟩ := hn.2.1
 obtain ⟨ka, kc, hkv, _⟩ := hn.2.2
 have HR := Lib.hid (fun B m (h : Stopped (LkDepth (preT (x, k)) B) m) => depth_stop (t := (x, k)) hs h)
 simp only at HR
 obtain ⟨R, hR⟩ : ∃ R, min 301 (k.deep + 1) = R := ⟨_, rfl⟩
 rw [hR] at HR ⊢
 clear hn hR
 obtain ⟨xk, xa, xc, xs, xset, xneg, xn, xm, xmode, xname, xon, xoff, xkv⟩ := x
 simp only at hsv hkv
 subst hsv hkv
 unfold ndV at *
 go_enter Try.func13, Try.ntmps13
 go_wp2_with fail
 refine (HW.out _ _ rfl ((below_alloc w _).alloc (by simp) _) (alloc_at1 _ _ _ _)).mono ?_
 rintro e w4 ⟨rfl, m, s', hst, hinv, hchg, hbel⟩
 have hin : One w4 _ (.int .i64 (mx _ m : Nat)) _ := hinv
 rw [HR.out _ m hst] at hin
 have c1 := hin.cell
 clear hst hinv hchg
 go_wp2_with fail
 go_ret
 exact ⟨rfl, hbel⟩
theorem check_stop {t : Nd} {B m : Nat} (hs : t.2.size + 1 ≤ 4000) (h : Stopped (LkCheck (preT t) B) m) : lastP (preT t) (fun q => mayP q.1) m = (mayP t && allP t.2) := by
 obtain ⟨h1, h2, h3, h4, h5⟩ := h
 have h3 : m ≤ (preT t).length := h3
 have hl := preT_length t
 obtain ⟨n, rfl⟩ : ∃ n, m = n + 1 := ⟨m - 1, by omega⟩
 have hq : (preT t)[n]? = some (preT t)[n] := List.getElem?_eq_getElem (by omega)
 show ansP (preT t) _ n = _
 rw [← all_preT]
 cases hv : ansP (preT t) (fun q => mayP q.1) n with
 | false =>
   symm
   rw [ansP_at hq] at hv
   rw [List.all_eq_false]
   exact ⟨(preT t)[n]'(by omega), List.getElem_mem _, by rw [hv]; simp⟩
 | true =>
   symm
   refine all_at fun i q hi => ?_
   have hil := (List.getElem?_eq_some_iff.1 hi).1
   have hend : n + 1 = (preT t).length := by
     rcases h5 with h5 | h5 | h5
     · have h5 : ansP (preT t) (fun q => mayP q.1) n = false := h5
       rw [hv] at h5
       cases h5
     · omega
     · exact h5
   have : ansP (preT t) (fun q => mayP q.1) i = true := by
     rcases Nat.lt_or_ge i n with h' | h'
     · exact h4 i (by omega)
     · rw [show i = n by omega]
       exact hv
   rwa [ansP_at hi] at this
set_option maxRecDepth 100000 in
set_option maxHeartbeats 2000000 in
theorem pcheck_any (x : Lab) (k : F) (w : World) (hn : NdAt w (x, k)) : Calls Try.prog 23 #[ndV x] w (BoolB (checkP (x, k)) w) := by
 have HS := Lib.hid (fun w1 (hb : Below w.heap.size w w1) => psize_any x k w1 (below_nd hb hn))
 obtain ⟨sa, sc, hsv, _⟩ := hn.2.1
 obtain ⟨ka, kc, hkv, _⟩ := hn.2.2
 have HN := Lib.hid hn
 clear hn
 by_cases h4 : k.size + 1 ≤ 4000
 · have HD := Lib.hid (fun w1 (hb : Below w.heap.size w w1) => pdepth_any x k w1 (below_nd hb HN.out) h4)
   by_cases h3 : k.deep + 1 ≤ 300
   · have HW := Lib.hid (fun (B : Nat) (w3 : World) (hB : w.heap.size ≤ B) (hb : Below w.heap.size w w3) (h1 : One w3 B (.bool true) 4) => walk_any w (LkCheck (preT (x, k)) B) (lkCheck_ok hB) x k w3 () hb HN.out rfl h1)
     have HR := Lib.hid (fun B m (h : Stopped (LkCheck (preT (x, k)) B) m) => check_stop (t := (x, k)) h4 h)
     simp only at HR
     obtain ⟨R, hR⟩ : ∃ R, (mayP (x, k) && allP k) = R := ⟨_, rfl⟩
     have hC : checkP (x, k) = R := by unfold checkP; simp only [h4, h3, decide_true, Bool.true_and]; exact hR
     rw [hR] at HR
     rw [hC]
     obtain ⟨z, hz⟩ : ∃ z, k.size + 1 = z := ⟨_, rfl⟩
     obtain ⟨d, hd⟩ : ∃ d, k.deep + 1 = d := ⟨_, rfl⟩
     rw [hz] at h4 HS
     rw [hd] at h3 HD
     rw [show min 4001 z = z by omega] at HS
     rw [show min 301 d = d by omega] at HD
     have i4 : ¬ (4000 : Int) < (z : Int) := by omega
     have i3 : ¬ (300 : Int) < (d : Int) := by omega
     have e4 : decide ((4000 : Int) < (z : Int)) = false := decide_eq_false i4
     clear hC hR hz hd h4 h3
     obtain ⟨xk, xa, xc, xs, xset, xneg, xn, xm, xmode, xname, xon, xoff, xkv⟩ := x
     simp only at hsv hkv
     subst hsv hkv
     have hrow := heap_alloc_new w (.cells (ndC (⟨xk, xa, xc, .slice sa xset.length sc, xset, xneg, xn, xm, xmode, xname, xon, xoff, .slice ka k.len kc⟩ : Lab)).toArray 25)
     have hbox := below_alloc w (.cells (ndC (⟨xk, xa, xc, .slice sa xset.length sc, xset, xneg, xn, xm, xmode, xname, xon, xoff, .slice ka k.len kc⟩ : Lab)).toArray 25)
     unfold ndC at hrow hbox
     unfold ndV at *
     have HROW := Lib.hid hrow
     have HBOX := Lib.hid hbox
     clear hrow hbox
     go_enter Try.func23, Try.ntmps23
     go_wp2_with fail
     refine (HS.out _ HBOX.out).mono ?_
     rintro e w1 ⟨rfl, hb1⟩
     have hrow1 := Lib.hid ((hb1.block w.heap.size (by simp)).trans HROW.out)
     have HX := Lib.hid (cells12 (x := (⟨xk, xa, xc, .slice sa xset.length sc, xset, xneg, xn, xm, xmode, xname, xon, xoff, .slice ka k.len kc⟩ : Lab)) hrow1.out)
     have f0 : w1.cell? ⟨w.heap.size, 0, none⟩ = some (.int .i64 xk) := HX.out 0 _ rfl
     have f1 : w1.cell? ⟨w.heap.size, 1, none⟩ = some (.int .i64 xa) := HX.out 1 _ rfl
     have f2 : w1.cell? ⟨w.heap.size, 2, none⟩ = some (.int .i64 xc) := HX.out 2 _ rfl
     have f3 : w1.cell? ⟨w.heap.size, 3, none⟩ = some (.slice sa xset.length sc) := HX.out 3 _ rfl
     have f4 : w1.cell? ⟨w.heap.size, 4, none⟩ = some (.bool xneg) := HX.out 4 _ rfl
     have f5 : w1.cell? ⟨w.heap.size, 5, none⟩ = some (.int .i64 xn) := HX.out 5 _ rfl
     have f6 : w1.cell? ⟨w.heap.size, 6, none⟩ = some (.int .i64 xm) := HX.out 6 _ rfl
     have f7 : w1.cell? ⟨w.heap.size, 7, none⟩ = some (.int .i64 xmode) := HX.out 7 _ rfl
     have f8 : w1.cell? ⟨w.heap.size, 8, none⟩ = some (.string xname) := HX.out 8 _ rfl
     have f9 : w1.cell? ⟨w.heap.size, 9, none⟩ = some (.int .i64 xon) := HX.out 9 _ rfl
     have f10 : w1.cell? ⟨w.heap.size, 10, none⟩ = some (.int .i64 xoff) := HX.out 10 _ rfl
     have f11 : w1.cell? ⟨w.heap.size, 11, none⟩ = some (.slice ka k.len kc) := HX.out 11 _ rfl
     go_wp2_with fail
     refine (HD.out w1 (HBOX.out.trans (hb1.mono (by simp)))).mono ?_
     rintro e w2 ⟨rfl, hb2⟩
     have hrow2 := Lib.hid ((hb2.block w.heap.size (by have := hb1.size; simp at this; omega)).trans hrow1.out)
     have hbw2 := Lib.hid ((HBOX.out.trans (hb1.mono (by simp))).trans (hb2.mono (by have := hb1.size; simp at this; omega)))
     clear f0 f1 f2 f3 f4 f5 f6 f7 f8 f9 f10 f11
     clear hb1 hb2 hrow1
     go_upto_region 4 with (fail)
     generalize hg : w2.alloc _ = w3
     have hb3 : Below w2.heap.size w2 w3 := by rw [← hg]; exact below_alloc _ _
     have hone : One w3 w2.heap.size (.bool true) 4 := by rw [← hg]; exact heap_alloc_new _ _
     have hsz : w.heap.size < w2.heap.size := (Array.getElem?_eq_some_iff.1 hrow2.out).1
     have hrow3 := Lib.hid ((hb3.block w.heap.size hsz).trans hrow2.out)
     have hbw3 := Lib.hid (hbw2.out.trans (hb3.mono (by omega)))
     have HONE := Lib.hid hone
     clear hg
     have HX := Lib.hid (cells12 (x := (⟨xk, xa, xc, .slice sa xset.length sc, xset, xneg, xn, xm, xmode, xname, xon, xoff, .slice ka k.len kc⟩ : Lab)) hrow3.out)
     have f0 : w3.cell? ⟨w.heap.size, 0, none⟩ = some (.int .i64 xk) := HX.out 0 _ rfl
     have f1 : w3.cell? ⟨w.heap.size, 1, none⟩ = some (.int .i64 xa) := HX.out 1 _ rfl
     have f2 : w3.cell? ⟨w.heap.size, 2, none⟩ = some (.int .i64 xc) := HX.out 2 _ rfl
     have f3 : w3.cell? ⟨w.heap.size, 3, none⟩ = some (.slice sa xset.length sc) := HX.out 3 _ rfl
     have f4 : w3.cell? ⟨w.heap.size, 4, none⟩ = some (.bool xneg) := HX.out 4 _ rfl
     have f5 : w3.cell? ⟨w.heap.size, 5, none⟩ = some (.int .i64 xn) := HX.out 5 _ rfl
     have f6 : w3.cell? ⟨w.heap.size, 6, none⟩ = some (.int .i64 xm) := HX.out 6 _ rfl
     have f7 : w3.cell? ⟨w.heap.size, 7, none⟩ = some (.int .i64 xmode) := HX.out 7 _ rfl
     have f8 : w3.cell? ⟨w.heap.size, 8, none⟩ = some (.string xname) := HX.out 8 _ rfl
     have f9 : w3.cell? ⟨w.heap.size, 9, none⟩ = some (.int .i64 xon) := HX.out 9 _ rfl
     have f10 : w3.cell? ⟨w.heap.size, 10, none⟩ = some (.int .i64 xoff) := HX.out 10 _ rfl
     have f11 : w3.cell? ⟨w.heap.size, 11, none⟩ = some (.slice ka k.len kc) := HX.out 11 _ rfl
     generalize w2.heap.size = B at *
     go_wp2_with fail
     refine (HW.out B w3 (by omega) hbw3.out HONE.out).mono ?_
     rintro e w4 ⟨rfl, m, s', hst, hinv, hchg, hbel⟩
     have hin : One w4 _ (.bool (lastP _ _ m)) _ := hinv
     rw [HR.out _ m hst] at hin
     have c1 := hin.cell
     clear hst hinv hchg
     clear f0 f1 f2 f3 f4 f5 f6 f7 f8 f9 f10 f11
     go_wp2_with fail
     go_ret
     exact ⟨rfl, hbel⟩
   · have hd : min 301 (k.deep + 1) = 301 := by omega
     have hC : checkP (x, k) = false := by unfold checkP; simp only [h3, decide_false, Bool.and_false, Bool.false_and]
     rw [hC]
     rw [hd] at HD
     obtain ⟨z, hz⟩ : ∃ z, k.size + 1 = z := ⟨_, rfl⟩
     rw [hz] at h4 HS
     rw [show min 4001 z = z by omega] at HS
     have i4 : ¬ (4000 : Int) < (z : Int) := by omega
     have e4 : decide ((4000 : Int) < (z : Int)) = false := decide_eq_false i4
     clear hC hz hd h4 h3 HN
     obtain ⟨xk, xa, xc, xs, xset, xneg, xn, xm, xmode, xname, xon, xoff, xkv⟩ := x
     simp only at hsv hkv
     subst hsv hkv
     have hrow := heap_alloc_new w (.cells (ndC (⟨xk, xa, xc, .slice sa xset.length sc, xset, xneg, xn, xm, xmode, xname, xon, xoff, .slice ka k.len kc⟩ : Lab)).toArray 25)
     have hbox := below_alloc w (.cells (ndC (⟨xk, xa, xc, .slice sa xset.length sc, xset, xneg, xn, xm, xmode, xname, xon, xoff, .slice ka k.len kc⟩ : Lab)).toArray 25)
     unfold ndC at hrow hbox
     unfold ndV at *
     have HROW := Lib.hid hrow
     have HBOX := Lib.hid hbox
     clear hrow hbox
     go_enter Try.func23, Try.ntmps23
     go_wp2_with fail
     refine (HS.out _ HBOX.out).mono ?_
     rintro e w1 ⟨rfl, hb1⟩
     have hrow1 := Lib.hid ((hb1.block w.heap.size (by simp)).trans HROW.out)
     have HX := Lib.hid (cells12 (x := (⟨xk, xa, xc, .slice sa xset.length sc, xset, xneg, xn, xm, xmode, xname, xon, xoff, .slice ka k.len kc⟩ : Lab)) hrow1.out)
     have f0 : w1.cell? ⟨w.heap.size, 0, none⟩ = some (.int .i64 xk) := HX.out 0 _ rfl
     have f1 : w1.cell? ⟨w.heap.size, 1, none⟩ = some (.int .i64 xa) := HX.out 1 _ rfl
     have f2 : w1.cell? ⟨w.heap.size, 2, none⟩ = some (.int .i64 xc) := HX.out 2 _ rfl
     have f3 : w1.cell? ⟨w.heap.size, 3, none⟩ = some (.slice sa xset.length sc) := HX.out 3 _ rfl
     have f4 : w1.cell? ⟨w.heap.size, 4, none⟩ = some (.bool xneg) := HX.out 4 _ rfl
     have f5 : w1.cell? ⟨w.heap.size, 5, none⟩ = some (.int .i64 xn) := HX.out 5 _ rfl
     have f6 : w1.cell? ⟨w.heap.size, 6, none⟩ = some (.int .i64 xm) := HX.out 6 _ rfl
     have f7 : w1.cell? ⟨w.heap.size, 7, none⟩ = some (.int .i64 xmode) := HX.out 7 _ rfl
     have f8 : w1.cell? ⟨w.heap.size, 8, none⟩ = some (.string xname) := HX.out 8 _ rfl
     have f9 : w1.cell? ⟨w.heap.size, 9, none⟩ = some (.int .i64 xon) := HX.out 9 _ rfl
     have f10 : w1.cell? ⟨w.heap.size, 10, none⟩ = some (.int .i64 xoff) := HX.out 10 _ rfl
     have f11 : w1.cell? ⟨w.heap.size, 11, none⟩ = some (.slice ka k.len kc) := HX.out 11 _ rfl
     go_wp2_with fail
     refine (HD.out w1 (HBOX.out.trans (hb1.mono (by simp)))).mono ?_
     rintro e w2 ⟨rfl, hb2⟩
     go_wp2_with fail
     go_ret
     exact ⟨rfl, (HBOX.out.trans (hb1.mono (by simp))).trans (hb2.mono (by have := hb1.size; simp at this; omega))⟩
 · have hz : min 4001 (k.size + 1) = 4001 := by omega
   have hC : checkP (x, k) = false := by unfold checkP; simp only [h4, decide_false, Bool.false_and]
   rw [hC]
   rw [hz] at HS
   clear hC hz h4 HN
   obtain ⟨xk, xa, xc, xs, xset, xneg, xn, xm, xmode, xname, xon, xoff, xkv⟩ := x
   simp only at hsv hkv
   subst hsv hkv
   unfold ndV at *
   go_enter Try.func23, Try.ntmps23
   go_wp2_with fail
   refine (HS.out _ (below_alloc w _)).mono ?_
   rintro e w1 ⟨rfl, hb1⟩
   go_wp2_with fail
   go_ret
   exact ⟨rfl, below_box hb1⟩
end Go.Proofs.Ytpjaahojoabgjaa.trw
end
section
namespace Go.Proofs.Ytpjaahojoabgjaa.trw
open Go.Sort Go Go.RowKit trp
def PathAt (w : World) (v : Value) (l : List Nat) : Prop :=
 ∃ a cap, v = .slice a l.length cap ∧ l.length ≤ cap ∧ cap ≤ 9223372036854775807 ∧ (l = [] ∨ ∃ b o, a = some ⟨b, o, none⟩ ∧ ∀ (i n : Nat), l[i]? = some n → w.cell? ⟨b, o + i, none⟩ = some (.int .i64 n))
theorem path_of {w : World} {base : Nat} {v : Value} {l : List Nat} (h : w.ownsRow base 3 1 v l.length (l.map fun n : Nat => Value.int .i64 n)) : PathAt w v l := by
 rcases h.2 with ⟨rfl, hn⟩ | ⟨g, cap, cur, rfl, _, _, hc, hm, _, _⟩
 · exact ⟨none, 0, by rw [hn], by omega, by omega, Or.inl (List.length_eq_zero_iff.1 hn)⟩
 · refine ⟨_, cap, rfl, hc, by unfold maxLen at hm; omega, Or.inr ⟨g, 0, rfl, fun i n hi => ?_⟩⟩
   have hlt := (List.getElem?_eq_some_iff.1 hi).1
   rw [World.ownsRow.cellAt h (0 + i) (by omega), Nat.zero_add, List.getElem?_map, hi]
   rfl
def FindPost (r : Bool) (l : List Nat) (Bd Bf base : Nat) (w : World) (e : Ending) (w' : World) : Prop :=
 e = .returned (.bool (!r)) ∧ One w' Bd (.bool r) 4 ∧ w'.os = w.os ∧ w'.tape = w.tape ∧ w'.output = w.output ∧ w.heap.size ≤ w'.heap.size ∧ (∀ q, q < w.heap.size → q ≠ Bd → q ≠ Bf → w'.heap[q]? = w.heap[q]?) ∧
 ∃ s, One w' Bf s 31 ∧ (r = false → s = .slice none 0 0) ∧ (r = true → w'.ownsRow base 3 1 s l.length (l.map fun n : Nat => Value.int .i64 n)) ∧ (∀ b, s.ownBlock = some b → w.heap.size ≤ b ∧ b < w'.heap.size)
theorem One.ne {w : World} {B pb o : Nat} {b : Bool} {t : TypeId} {k : IntKind} {n : Int} (h : One w B (.bool b) t) (hc : w.cell? ⟨pb, o, none⟩ = some (.int k n)) : pb ≠ B := by
 rintro rfl
 rw [cell_of_row _ _ _ _ _ _ h] at hc
 cases o with
 | zero => simp at hc
 | succ o => simp at hc
theorem One.grown {w w' : World} {B : Nat} {v : Value} {t : TypeId} {r : Option Nat} (h : One w B v t) (hg : w.grownBy w' r) (hne : some B ≠ r) : One w' B v t := (hg.block B h.lt hne).trans h
theorem own_slice {w : World} {base : Nat} {e : TypeId} {size : Nat} {v : Value} {n : Nat} {xs : List Value} (h : w.ownsRow base e size v n xs) : ∃ a c, v = .slice a n c := by
 rcases h.2 with ⟨rfl, rfl⟩ | ⟨g, cap, _, rfl, _⟩
 · exact ⟨none, 0, rfl⟩
 · exact ⟨_, cap, rfl⟩
theorem wpList_append_path {ops : Array Oper} {rest : List Oper} {o : Oper} {a : Act} {w : World} {Q : Exit → Act → World → Prop} (hgd : o.guard = none) (s x : Operand)
   (ho : o.op = .call { callee := .builtin .append, args := #[s, x], argTypes := #[31, 31] }) (hs : a.eval s = .slice none 0 0) (base pb po pc : Nat) (l : List Nat) (hx : a.eval x = .slice (some ⟨pb, po, none⟩) l.length pc)
   (hnews : ∀ (j : Nat) u, (l.map fun n : Nat => Value.int .i64 n)[j]? = some u → w.cell? ((⟨pb, po, none⟩ : Addr).add j) = some u) (hl : l.length ≤ 5000) (hbase : base ≤ w.heap.size)
   (h : ∀ va vc w', w'.ownsRow base 3 1 (.slice va l.length vc) l.length (l.map fun n : Nat => Value.int .i64 n) → w.grownBy w' none → wpList Try.prog ops Q rest (a.put o.dst (.slice va l.length vc)) w') : wpList Try.prog ops Q (o :: rest) a w := by
 obtain ⟨i0, hi0, hz0, hz1, hz2⟩ := info_parts infoInt
 refine wpList_append_own_at _ hgd s x 31 ho base 3 i0 (.int .i64 0) 1 8 Try.underlying31 hi0 hz0 hz1 hz2 rfl (by decide) _ 0 [] hs (World.ownsRow_nil _ _ _ _) ⟨pb, po, none⟩ l.length pc (l.map fun n : Nat => Value.int .i64 n) hx (by simp) hnews (fun u hu => ?_) (by unfold maxLen; omega) (by omega) hbase ?_
 · obtain ⟨n, _, rfl⟩ := List.mem_map.1 hu
   rfl
 · intro v' w2 ho2 hg _ _
   rw [Nat.zero_add, List.nil_append] at ho2
   obtain ⟨va, vc, rfl⟩ := own_slice ho2
   exact h va vc w2 ho2 hg
set_option maxHeartbeats 2000000 in
theorem find1_any {y : Lab} {k : F} {w : World} {pv : Value} {l : List Nat} {Bk Bd Bf : Nat} {kd : Int} {b0 : Bool} (hn : NdAt w (y, k)) (hp : NsAt w pv l) (hl : l.length ≤ 5000) (hk : One w Bk (.int .i64 kd) 3) (hd : One w Bd (.bool b0) 4)
   (hf : One w Bf (.slice none 0 0) 31) (_h1 : Bk ≠ Bd) (_h2 : Bk ≠ Bf) (h3 : Bd ≠ Bf) :
   Calls Try.prog 34 #[ndV y, pv, .pointer (some ⟨Bk, 0, none⟩), .pointer (some ⟨Bd, 0, none⟩), .pointer (some ⟨Bf, 0, none⟩)] w (FindPost (decide (y.kind = kd)) l Bd Bf w.heap.size w) := by
 obtain ⟨pb, po, pc, rfl, hc1, hc2, hpc⟩ := hp
 obtain ⟨sa, sc, hsv, _⟩ := hn.2.1
 obtain ⟨ka, kc, hkv, _⟩ := hn.2.2
 have hb := below_alloc w (.cells (ndC y).toArray 25)
 have HK := Lib.hid (hk.below hb)
 have HD := Lib.hid (hd.below hb)
 have HF := Lib.hid (hf.below hb)
 have HB := Lib.hid hb
 have HP := Lib.hid (fun w1 (h : Below w.heap.size w w1) (i n : Nat) hi => below_cell h (hpc i n hi))
 have HLt := Lib.hid (And.intro hk.lt (And.intro hd.lt hf.lt))
 clear hn hk hd hf hb hpc
 obtain ⟨xk, xa, xc, xs, xset, xneg, xn, xm, xmode, xname, xon, xoff, xkv⟩ := y
 simp only at hsv hkv
 subst hsv hkv
 unfold ndV
 unfold ndC at *
 have c1 := HK.out.cell
 have c2 := HD.out.cell
 have c3 := HD.out.frz
 by_cases hkd : xk = kd
 · subst hkd
   rw [decide_eq_true rfl]
   go_enter Try.func34, Try.ntmps34
   go_upto_region 3 with (fail)
   generalize hg : World.setCell _ _ _ = w1
   have hD1 : One w1 Bd (.bool true) 4 := by rw [← hg]; exact HD.out.set _
   have hF1 : One w1 Bf (.slice none 0 0) 31 := by rw [← hg]; exact HF.out.other _ (fun e => h3 e.symm)
   have hblk : ∀ q, q < w.heap.size → q ≠ Bd → w1.heap[q]? = w.heap[q]? := fun q hq hne => by
     rw [← hg]
     exact (Below.heap_setCell _ ⟨Bd, 0, none⟩ _ q hne).trans (HB.out.block q hq)
   have hsz : w.heap.size ≤ w1.heap.size := by
     rw [← hg, World.size_setCell]
     exact HB.out.size
   have hos : w1.os = w.os ∧ w1.tape = w.tape ∧ w1.output = w.output := by
     rw [← hg]
     exact ⟨HB.out.os, HB.out.tape, HB.out.output⟩
   have hnews : ∀ (j : Nat) u, (l.map fun n : Nat => Value.int .i64 n)[j]? = some u → w1.cell? ((⟨pb, po, none⟩ : Addr).add j) = some u := fun j u hj => by
     rw [List.getElem?_map] at hj
     obtain ⟨n, hn, rfl⟩ := Option.map_eq_some_iff.1 hj
     rw [add_plain, ← hg]
     have hc := HP.out _ HB.out j n hn
     rw [World.cell?_of_block (a := ⟨pb, po + j, none⟩) (Below.heap_setCell _ ⟨Bd, 0, none⟩ _ pb (HD.out.ne hc))]
     exact hc
   have HDx := Lib.hid hD1
   have HFx := Lib.hid hF1
   have HBx := Lib.hid hblk
   have HSx := Lib.hid hsz
   have HOx := Lib.hid hos
   have HNx := Lib.hid hnews
   have f1 := hF1.cell
   clear hg hD1 hF1 hblk hsz hos hnews c1 c2 c3
   go_wp2_with (at_builtin; refine wpList_append_path rfl _ _ rfl rfl w.heap.size pb po pc l rfl HNx.out (by omega) HSx.out ?_)
   intro va vc w2 ho hg
   have HO2 := Lib.hid ho
   have HG2 := Lib.hid hg
   have g1 := (HFx.out.grown hg (Option.some_ne_none _)).cell
   have g2 := (HFx.out.grown hg (Option.some_ne_none _)).frz
   have g3 := ((HDx.out.grown hg (Option.some_ne_none _)).other (.slice va l.length vc) h3).cell
   clear ho hg
   go_wp2_with fail
   go_ret
   have hF2 := HFx.out.grown HG2.out (Option.some_ne_none _)
   have hD2 := HDx.out.grown HG2.out (Option.some_ne_none _)
   have hlt := World.ownsRow.lt HO2.out
   refine ⟨rfl, hD2.other _ h3, HG2.out.os.trans HOx.out.1, HG2.out.tape.trans HOx.out.2.1, HG2.out.output.trans HOx.out.2.2, by rw [World.size_setCell]; exact Nat.le_trans HSx.out HG2.out.size, fun q hq n1 n2 => (Below.heap_setCell w2 ⟨Bf, 0, none⟩ _ q n2).trans ((HG2.out.block q (Nat.lt_of_lt_of_le hq HSx.out) (Option.some_ne_none _)).trans (HBx.out q hq n1)), _, hF2.set _, (fun h => by cases h), fun _ => ?_, fun b hb => ?_⟩
   · have := ownsRow_heap (w' := w2.setCell ⟨Bf, 0, none⟩ (.slice va l.length vc)) HO2.out fun q hq => Below.heap_setCell w2 ⟨Bf, 0, none⟩ _ q (fun e => by have e : q = Bf := e; have h1 := (hlt q hq).1; have h2 := HLt.out.2.2; omega)
     simpa using this
   · rw [World.size_setCell]
     exact hlt b hb
 · have e : (xk == kd) = false := by simp; omega
   rw [decide_eq_false hkd]
   go_enter Try.func34, Try.ntmps34
   go_wp2_with fail
   go_ret
   refine ⟨rfl, HD.out.set _, HB.out.os, HB.out.tape, HB.out.output, by rw [World.size_setCell]; exact HB.out.size, fun q hq n1 _ => (Below.heap_setCell _ ⟨Bd, 0, none⟩ _ q n1).trans (HB.out.block q hq), .slice none 0 0, HF.out.other _ (fun e => h3 e.symm), fun _ => rfl, (fun h => by cases h), (fun b hb => by cases hb)⟩
end Go.Proofs.Ytpjaahojoabgjaa.trw
end
section
namespace Go.Proofs.Ytpjaahojoabgjaa.trw
open Go.Sort Go Go.RowKit trp
def foundP (P : List (Nd × List Nat)) (kd : Int) : Nat → Bool
 | 0 => false
 | i + 1 => ((P[i]?).map fun q => decide (q.1.1.kind = kd)).getD false
theorem foundP_at {P : List (Nd × List Nat)} {kd : Int} {i : Nat} {q : Nd × List Nat} (h : P[i]? = some q) : foundP P kd (i + 1) = decide (q.1.1.kind = kd) := by show ((P[i]?).map fun q => decide (q.1.1.kind = kd)).getD false = _; rw [h]; rfl
theorem ownsRow_base {w : World} {b b' : Nat} {e : TypeId} {size : Nat} {v : Value} {n : Nat} {xs : List Value} (h : w.ownsRow b e size v n xs) (hb : b' ≤ b) : w.ownsRow b' e size v n xs := by
 obtain ⟨h1, h2 | ⟨g, cap, cur, hv, hg, r⟩⟩ := h
 · exact ⟨h1, Or.inl h2⟩
 · exact ⟨h1, Or.inr ⟨g, cap, cur, hv, Nat.le_trans hb hg, r⟩⟩
def LkFind (t : Nd) (kd : Int) (base Bk Bd Bf : Nat) : Lk Value where
 P := preT t
 g := 34
 lb := #[.pointer (some ⟨Bk, 0, none⟩), .pointer (some ⟨Bd, 0, none⟩), .pointer (some ⟨Bf, 0, none⟩)]
 ans := fun i => !foundP (preT t) kd (i + 1)
 Inv := fun i s w => One w Bk (.int .i64 kd) 3 ∧ One w Bd (.bool (foundP (preT t) kd i)) 4 ∧ One w Bf s 31 ∧ (foundP (preT t) kd i = false → s = .slice none 0 0) ∧
   (foundP (preT t) kd i = true → ∃ q, (preT t)[i - 1]? = some q ∧ w.ownsRow base 3 1 s q.2.tail.length (q.2.tail.map fun n : Nat => Value.int .i64 n)) ∧ (∀ b, s.ownBlock = some b → base ≤ b ∧ b < w.heap.size)
 Own := fun s k => k = Bk ∨ k = Bd ∨ k = Bf ∨ s.ownBlock = some k
theorem lkFind_ok {w0 : World} {t : Nd} {kd : Int} {Bk Bd Bf : Nat} (hk : w0.heap.size ≤ Bk) (hd : w0.heap.size ≤ Bd) (hf : w0.heap.size ≤ Bf) (h1 : Bk ≠ Bd) (h2 : Bk ≠ Bf) (h3 : Bd ≠ Bf) : LookOk w0 (LkFind t kd w0.heap.size Bk Bd Bf) where
 eg := enters_of Try.func34 (by kernel_rfl) rfl
 low := fun i s w k hi ho => by
   obtain ⟨i1, i2, i3, _, _, i6⟩ := hi
   rcases ho with rfl | rfl | rfl | ho
   · exact ⟨hk, i1.lt⟩
   · exact ⟨hd, i2.lt⟩
   · exact ⟨hf, i3.lt⟩
   · exact i6 k ho
 stable := fun i s w w' hi hs hz => by
   obtain ⟨i1, i2, i3, i4, i5, i6⟩ := hi
   refine ⟨(hs Bk (Or.inl rfl)).trans i1, (hs Bd (Or.inr (Or.inl rfl))).trans i2, (hs Bf (Or.inr (Or.inr (Or.inl rfl)))).trans i3, i4, fun h => ?_, fun b hb => ⟨(i6 b hb).1, Nat.lt_of_lt_of_le (i6 b hb).2 hz⟩⟩
   obtain ⟨q, hq, ho⟩ := i5 h
   exact ⟨q, hq, ownsRow_heap ho fun b hb => hs b (Or.inr (Or.inr (Or.inr hb)))⟩
 call := fun i q s w pv hq hlt hy hi hb hn hp => by
   have hq : (preT t)[i]? = some q := hq
   obtain ⟨i1, i2, i3, i4, i5, i6⟩ := hi
   have hnf : foundP (preT t) kd i = false := by
     cases i with
     | zero => rfl
     | succ j =>
       have : (!foundP (preT t) kd (j + 1)) = true := hy j (Nat.lt_succ_self j)
       simpa using this
   obtain rfl := i4 hnf
   obtain ⟨hl1, _⟩ := preT_bound hq
   have hl : q.2.tail.length ≤ 5000 := by simp; omega
   refine (find1_any hn hp hl i1 i2 i3 h1 h2 h3).mono ?_
   rintro e w' ⟨rfl, d1, os, tp, ot, sz, blk, s', f1, f2, f3, f4⟩
   have hfd : foundP (preT t) kd (i + 1) = decide (q.1.1.kind = kd) := foundP_at hq
   refine ⟨by rw [show (LkFind t kd w0.heap.size Bk Bd Bf).ans i = !foundP (preT t) kd (i + 1) from rfl, hfd], s', ⟨(blk Bk i1.lt h1 h2).trans i1, by rw [hfd]; exact d1, f1, fun h => f2 (by rw [← hfd]; exact h), fun h => ?_, fun b hb' => ?_⟩, ⟨os, tp, ot, sz, fun k hk' hno => blk k hk' (fun e => hno (Or.inr (Or.inl e))) (fun e => hno (Or.inr (Or.inr (Or.inl e)))), fun k hk' ho => ?_⟩⟩
   · exact ⟨q, hq, ownsRow_base (f3 (by rw [← hfd]; exact h)) hb.size⟩
   · exact ⟨Nat.le_trans hb.size (f4 b hb').1, (f4 b hb').2⟩
   · rcases ho with h | h | h | h
     · exact Or.inl h
     · exact Or.inr (Or.inl h)
     · exact Or.inr (Or.inr (Or.inl h))
     · have := (f4 k h).1
       omega
theorem find_stop {t : Nd} {kd : Int} {base Bk Bd Bf m : Nat} (hs : t.2.size + 1 ≤ 4000) (h : Stopped (LkFind t kd base Bk Bd Bf) m) :
   foundP (preT t) kd m = (findT kd t).isSome ∧ ∀ q, foundP (preT t) kd m = true → (preT t)[m - 1]? = some q → findT kd t = some q.2.tail := by
 obtain ⟨h1, h2, h3, h4, h5⟩ := h
 have h3 : m ≤ (preT t).length := h3
 have hl := preT_length t
 obtain ⟨n, rfl⟩ : ∃ n, m = n + 1 := ⟨m - 1, by omega⟩
 have hlt : n < (preT t).length := by omega
 have hno : ∀ i (hi : i < (preT t).length), i < n → decide ((preT t)[i].1.1.kind = kd) = false := fun i hi hin => by
   have : (!foundP (preT t) kd (i + 1)) = true := h4 i (by omega)
   rw [foundP_at (List.getElem?_eq_getElem hi)] at this
   simpa using this
 have hq := List.getElem?_eq_getElem hlt
 rw [findT_pre]
 cases hv : foundP (preT t) kd (n + 1) with
 | true =>
   rw [foundP_at hq] at hv
   have hf : (preT t).find? (fun q => decide (q.1.1.kind = kd)) = some (preT t)[n] := by
     rw [List.find?_eq_some_iff_getElem]
     exact ⟨hv, n, hlt, rfl, fun j hj => by simp [hno j (by omega) hj]⟩
   rw [hf]
   refine ⟨rfl, fun q _ hq2 => ?_⟩
   rw [show n + 1 - 1 = n from rfl, hq] at hq2
   obtain rfl := Option.some.inj hq2
   rfl
 | false =>
   have hend : n + 1 = (preT t).length := by
     rcases h5 with h5 | h5 | h5
     · have h5 : (!foundP (preT t) kd (n + 1)) = false := h5
       rw [hv] at h5
       cases h5
     · omega
     · exact h5
   rw [foundP_at hq] at hv
   have hf : (preT t).find? (fun q => decide (q.1.1.kind = kd)) = none := by
     rw [List.find?_eq_none]
     intro q hq2
     obtain ⟨i, hi, rfl⟩ := List.getElem_of_mem hq2
     rcases Nat.lt_or_ge i n with h' | h'
     · rw [hno i hi h']
       simp
     · obtain rfl : i = n := by omega
       rw [hv]
       simp
   rw [hf]
   exact ⟨rfl, fun q h => by cases h⟩
theorem path_below {w w' : World} {v : Value} {l : List Nat} (h : PathAt w v l) (hb : Below w.heap.size w w') : PathAt w' v l := by
 obtain ⟨a, cap, h1, h2, h3, h4 | ⟨b, o, h4, h5⟩⟩ := h
 · exact ⟨a, cap, h1, h2, h3, Or.inl h4⟩
 · exact ⟨a, cap, h1, h2, h3, Or.inr ⟨b, o, h4, fun i n hi => below_cell hb (h5 i n hi)⟩⟩
theorem path_nil (w : World) : PathAt w (.slice none 0 0) [] := ⟨none, 0, rfl, Nat.le_refl _, by omega, Or.inl rfl⟩
def FindB (o : Option (List Nat)) (w : World) (e : Ending) (w' : World) : Prop := ∃ v, e = .returned (.tuple #[v, .bool o.isSome]) ∧ PathAt w' v (o.getD []) ∧ Below w.heap.size w w'
set_option maxRecDepth 100000 in
set_option maxHeartbeats 2000000 in
theorem pfind_any (x : Lab) (k : F) (kd : Int) (w : World) (hn : NdAt w (x, k)) (hs : k.size + 1 ≤ 4000) : Calls Try.prog 18 #[ndV x, .int .i64 kd] w (FindB (findT kd (x, k)) w) := by
 have HW := Lib.hid (fun (B : Nat) (w4 : World) (hB : B = w.heap.size) (A : Obj) (h : Below w.heap.size w w4 ∧ w4.heap[w.heap.size + 1]? = some (.cells #[.int .i64 kd] 3) ∧ w4.heap[w.heap.size + 1 + 1]? = some (.cells #[.slice none 0 0] 31) ∧ w4.heap[w.heap.size + 1 + 1 + 1]? = some (.cells #[.bool false] 4)) =>
   walk_any w (LkFind (x, k) kd w.heap.size (B + 1) (B + 1 + 1 + 1) (B + 1 + 1)) (lkFind_ok (by omega) (by omega) (by omega) (by omega) (by omega) (by omega)) x k w4 (.slice none 0 0) h.1 hn rfl
     ⟨by rw [hB]; exact h.2.1, by rw [hB]; exact h.2.2.2, by rw [hB]; exact h.2.2.1, fun _ => rfl, (fun h => by cases h), (fun b hb => by cases hb)⟩)
 obtain ⟨sa, sc, hsv, _⟩ := hn.2.1
 obtain ⟨ka, kc, hkv, _⟩ := hn.2.2
 have HR := Lib.hid (fun m (h : Stopped (LkFind (x, k) kd w.heap.size (w.heap.size + 1) (w.heap.size + 1 + 1 + 1) (w.heap.size + 1 + 1)) m) => find_stop (t := (x, k)) hs h)
 obtain ⟨R, hR⟩ : ∃ R, findT kd (x, k) = R := ⟨_, rfl⟩
 rw [hR] at HR ⊢
 clear hn hs hR
 obtain ⟨xk, xa, xc, xs, xset, xneg, xn, xm, xmode, xname, xon, xoff, xkv⟩ := x
 simp only at hsv hkv
 subst hsv hkv
 unfold ndV at *
 go_enter Try.func18, Try.ntmps18
 go_wp2_with fail
 refine (HW.out _ _ rfl (.cells #[] 0) (start_world w _ _ _ _)).mono ?_
 rintro e w5 ⟨rfl, m, s', hst, ⟨_, hd, hf, j1, j2, _⟩, hchg, hbel⟩
 obtain ⟨r1, r2⟩ := HR.out m hst
 rw [r1] at hd j1 j2
 have HP := Lib.hid (show PathAt w5 s' (R.getD []) by
   cases R with
   | none =>
     rw [j1 rfl]
     exact path_nil w5
   | some l =>
     obtain ⟨q, hq, ho⟩ := j2 rfl
     have := r2 q (by rw [r1]; rfl) hq
     obtain rfl := Option.some.inj this
     exact path_of ho)
 have HB := Lib.hid hbel
 have c1 := cell_regrown hf.cell
 have c2 := cell_regrown hd.cell
 clear hst hchg j1 j2 r1 r2 hd hf hbel
 go_wp2_with fail
 refine wp_region_quiet_below (by kernel_rfl) (by kernel_rfl) ?_
 repeat (go_big_quiet_step (fail))
 refine wpQuiet_nil ?_
 intro _ hw'
 obtain ⟨⟨dq, osq⟩, hw''⟩ := hw'
 subst hw''
 have hbq := below_regrown w5 dq osq
 go_wp2_with fail
 go_ret2
 exact ⟨s', rfl, path_below HP.out hbq, HB.out.trans (hbq.mono HB.out.size)⟩
end Go.Proofs.Ytpjaahojoabgjaa.trw
end
section
namespace Go.Proofs.Ytpjaahojoabgjaa.trw
open Go.Sort Go Go.RowKit trp
def zC : List Value := [.int .i64 0, .int .i64 0, .int .i64 0, .slice none 0 0, .bool false, .int .i64 0, .int .i64 0, .int .i64 0, .string ⟨#[]⟩, .int .i64 0, .int .i64 0, .slice none 0 0]
theorem infoNd : (Try.prog.info? 25).map (fun i => (i.zero, i.size, i.bytes)) = some (some (.agg #[.int .i64 0, .int .i64 0, .int .i64 0, .slice none 0 0, .bool false, .int .i64 0, .int .i64 0, .int .i64 0, .string ⟨#[]⟩, .int .i64 0, .int .i64 0, .slice none 0 0]), 12, 136) := by kernel_rfl
theorem held_append_nd {o : Oper} {a : Act} {w W : World} {K : Act → World → Prop} {Q : Exit → Act → World → Prop} {ys : Nat → Option Bool} (hgd : o.guard = none) (s x : Operand)
   (ho : o.op = .call { callee := .builtin .append, args := #[s, x], argTypes := #[23, 23] }) (base : Nat) (v : Value) (n : Nat) (xs : List Value) (hs : a.eval s = v) (hown : w.ownsRow base 25 12 v n xs)
   (B : Nat) (hW : W = w.alloc (.cells zC.toArray 25)) (hx : a.eval x = .slice (some ⟨B, 0, none⟩) 1 1) (hB : B = w.heap.size) (hn : n ≤ 100000) (hbase : base ≤ w.heap.size)
   (h : ∀ g cap w', w'.ownsRow base 25 12 (.slice (some ⟨g, 0, none⟩) (n + 1) cap) (n + 1) (xs ++ zC) → w.grownBy w' v.ownBlock → (v.ownBlock = some g ∨ w.heap.size ≤ g) → K (a.put o.dst (.slice (some ⟨g, 0, none⟩) (n + 1) cap)) w') :
   if Region.wanted o ys = true then Oper.wp Try.prog o a W K Q else K (a.put o.dst undef) W := by
 subst hW
 rw [if_pos (by unfold Region.wanted; rw [hgd])]
 subst hB
 obtain ⟨i0, hi, hz0, hz1, hz2⟩ := info_parts infoNd
 obtain ⟨v', w', hr, h2, h3, _, h5⟩ := run_append_own_at (P := Try.prog) (w.alloc (.cells zC.toArray 25)) base 23 o.type 25 i0 _ 12 136 Try.underlying23 hi hz0 hz1 hz2 rfl (by decide) v n xs (World.ownsRow.alloc hown _) ⟨w.heap.size, 0, none⟩ 1 1 zC rfl
   (fun j u hj => by rw [add_plain, World.cell?_alloc_new]; simpa using hj) (fun u hu => by simp only [zC, List.mem_cons, List.not_mem_nil, or_false] at hu; rcases hu with rfl | rfl | rfl | rfl | rfl | rfl | rfl | rfl | rfl | rfl | rfl | rfl <;> rfl) (by unfold maxLen; omega) (by omega) (by rw [World.size_alloc]; omega)
 unfold Oper.wp execOp
 simp only [ho, resolve, invoke, builtin, Sem.run_bind, Sem.run_pure, Result.andThen_ok, List.map_toArray, List.map_cons, List.map_nil, hs, hx, hr]
 rcases h2.2 with ⟨_, hn0⟩ | ⟨g, cap, _, rfl, _⟩
 · omega
 · refine h g cap w' h2 ((World.grownBy_alloc w _ _).trans h3) ?_
   rcases h5 with e | e
   · exact Or.inl e.symm
   · simp only [Value.ownBlock, Option.some.injEq, World.size_alloc] at e
     exact Or.inr (by omega)
theorem held_store_row {o : Oper} {a : Act} {W : World} {K : Act → World → Prop} {Q : Exit → Act → World → Prop} {ys : Nat → Option Bool} (hgd : o.guard = none) (hd : o.dst = none) (x y : Operand) (ho : o.op = .store 25 x y) {base g n cap : Nat} {xs zs : List Value}
   (hx : a.eval x = .pointer (some ⟨g, n * 12, none⟩)) (l : Lab) (h1 : ∀ u ∈ ndC l, u.oneCell' = true) (hy : a.eval y = ndV l) (hown : W.ownsRow base 25 12 (.slice (some ⟨g, 0, none⟩) (n + 1) cap) (n + 1) (xs ++ zs)) (hxl : xs.length = n * 12)
   (h : ∀ W2, W2.ownsRow base 25 12 (.slice (some ⟨g, 0, none⟩) (n + 1) cap) (n + 1) (xs ++ ndC l) → W.grownBy W2 (some g) → K a W2) :
   if Region.wanted o ys = true then Oper.wp Try.prog o a W K Q else K (a.put o.dst undef) W := by
 rw [if_pos (by unfold Region.wanted; rw [hgd])]
 obtain ⟨hlen, ⟨hv, _⟩ | ⟨g', cap', cur, hv, hb, hg, hc, hm, hs, ht⟩⟩ := hown
 · cases hv
 simp only [Value.slice.injEq, Option.some.injEq, Addr.mk.injEq, and_true, true_and] at hv
 obtain ⟨rfl, rfl⟩ := hv
 have hsz : n * 12 + 12 ≤ cur.size := by rw [hs]; omega
 have hrun := run_storeCells_at (P := Try.prog) g (n * 12) 25 (ndC l) 0 cur W hg (by show n * 12 + 0 + 12 ≤ _; omega) h1
 have h12 : (ndC l).length = 12 := rfl
 have htk : cur.toList.take (n * 12) = xs := by
   have e1 := congrArg (List.take (n * 12)) ht
   rw [List.take_take, Nat.min_eq_left (by omega)] at e1
   exact e1.trans (by rw [← hxl, List.take_left])
 rw [Nat.add_zero, h12, htk] at hrun
 have hcl : cur.toList.length = cap * 12 := by rw [Array.length_toList]; exact hs
 obtain ⟨cs, hcs, hcz, hct⟩ : ∃ cs, (xs ++ ndC l ++ cur.toList.drop (n * 12 + 12)).toArray = cs ∧ cs.size = cap * 12 ∧ cs.toList.take ((n + 1) * 12) = xs ++ ndC l := by
   refine ⟨_, rfl, ?_, ?_⟩
   · simp only [List.size_toArray, List.length_append, List.length_drop, hxl, h12, hcl]
     omega
   · have hl2 : (xs ++ ndC l).length = (n + 1) * 12 := by
       simp only [List.length_append, hxl, h12]
       omega
     show ((xs ++ ndC l) ++ _).take _ = _
     rw [← hl2, List.take_left]
 rw [hcs] at hrun
 have hy' : a.eval y = .agg (ndC l).toArray := hy
 have hr : (storeVar 25 ⟨g, n * 12, none⟩ (.agg (ndC l).toArray)).run Try.prog W = .ok () (W.setRow g cs) := by
   unfold storeVar
   simp [Sem.run_bind, Value.cells, Result.andThen, hrun, h12]
 unfold Oper.wp execOp
 simp only [ho, hx, hy', Instr.storeAt, Instr.sureAddr, Sem.run_bind, Sem.run_pure, Result.andThen_ok, hr]
 have hl3 : (xs ++ ndC l).length = (n + 1) * 12 := by
   simp only [List.length_append, hxl, h12]
   omega
 have := h (W.setRow g cs) ⟨hl3, Or.inr ⟨g, cap, cs, rfl, hb, setRow_heap W g cur _ _ _ hg, hc, hm, hcz, hct⟩⟩ ⟨rfl, rfl, rfl, by simp [World.setRow], fun k _ hk => setRow_other W g k _ (fun e => hk (by rw [e]))⟩
 simpa [Oper.upon, hd, Act.put] using this
def NodesPost (B base n : Nat) (xs : List Value) (l : Lab) (s : Value) (w : World) (e : Ending) (w' : World) : Prop :=
 e = .returned (.bool true) ∧ ∃ s', One w' B s' 23 ∧ w'.ownsRow base 25 12 s' (n + 1) (xs ++ ndC l) ∧ w'.os = w.os ∧ w'.tape = w.tape ∧ w'.output = w.output ∧ w.heap.size ≤ w'.heap.size ∧
   (∀ q, q < w.heap.size → q ≠ B → s.ownBlock ≠ some q → w'.heap[q]? = w.heap[q]?) ∧ (s'.ownBlock = s.ownBlock ∨ ∃ g, s'.ownBlock = some g ∧ w.heap.size ≤ g)
theorem own_one {w : World} {base : Nat} {s u : Value} {n B : Nat} {xs : List Value} (h : w.ownsRow base 25 12 s n xs) (hB : One w B u 23) : s.ownBlock ≠ some B := by
 intro e
 rcases h.2 with ⟨rfl, _⟩ | ⟨g, _, _, rfl, _, hg, _⟩
 · cases e
 · simp only [Value.ownBlock, Option.some.injEq] at e
   subst e
   rw [show w.heap[g]? = _ from hB] at hg
   simp only [Option.some.injEq, Obj.cells.injEq] at hg
   exact absurd hg.2.1 (by decide)
theorem nodes_done {B base n : Nat} {xs : List Value} {l : Lab} {s : Value} {w w1 w2 w3 : World} {g cap : Nat} (hb : Below w.heap.size w w1) (_hlt : B < w.heap.size) (g2 : w1.grownBy w2 s.ownBlock) (ha : s.ownBlock = some g ∨ w1.heap.size ≤ g)
   (h3 : One w3 B (.slice (some ⟨g, 0, none⟩) (n + 1) cap) 23 ∧ w3.ownsRow base 25 12 (.slice (some ⟨g, 0, none⟩) (n + 1) cap) (n + 1) (xs ++ ndC l) ∧ w3.os = w2.os ∧ w3.tape = w2.tape ∧ w3.output = w2.output ∧ w2.heap.size ≤ w3.heap.size ∧ (∀ q, q < w2.heap.size → q ≠ B → q ≠ g → w3.heap[q]? = w2.heap[q]?)) :
   NodesPost B base n xs l s w (.returned (.bool true)) w3 := by
 obtain ⟨h1, h2, os, tp, ot, sz, blk⟩ := h3
 have s1 := hb.size
 have s2 := g2.size
 refine ⟨rfl, _, h1, h2, os.trans (g2.os.trans hb.os), tp.trans (g2.tape.trans hb.tape), ot.trans (g2.output.trans hb.output), by omega, fun q hq n1 n2 => ?_, ?_⟩
 · refine (blk q (by omega) n1 (fun e => ?_)).trans ((g2.block q (by omega) (fun e => n2 e.symm)).trans (hb.block q hq))
   rcases ha with e2 | e2
   · exact n2 (by rw [e2, e])
   · omega
 · rcases ha with e2 | e2
   · exact Or.inl e2.symm
   · exact Or.inr ⟨g, rfl, by omega⟩
theorem wpList_box_nd {ops : Array Oper} {rest : List Oper} {o : Oper} {a : Act} {w : World} {Q : Exit → Act → World → Prop} (hgd : o.guard = none) (x : Operand) (ho : o.op = .box 25 x) (l : Lab) (hx : a.eval x = ndV l)
   (h : wpList Try.prog ops Q rest (a.put o.dst (.pointer (some ⟨w.heap.size, 0, none⟩))) (w.alloc (.cells (ndC l).toArray 25))) : wpList Try.prog ops Q (o :: rest) a w :=
 wpList_plain hgd fun K hK => by
   have hx' : a.eval x = .agg (ndC l).toArray := hx
   unfold Oper.wp execOp
   simp only [ho, hx', Instr.box, newVar, newRow, newObj, Value.cells, Sem.run_bind, Sem.run_pure]
   exact hK _ _ h
set_option maxRecDepth 100000 in
set_option maxHeartbeats 4000000 in
theorem nodes1_any {y : Lab} {k : F} {w : World} (pv : Value) {B base n : Nat} {s : Value} {xs : List Value} (hn : NdAt w (y, k)) (hB : One w B s 23) (ho : w.ownsRow base 25 12 s n xs) (hbase : base ≤ w.heap.size) (hn5 : n ≤ 5000) :
   Calls Try.prog 39 #[ndV y, pv, .pointer (some ⟨B, 0, none⟩)] w (NodesPost B base n xs y s w) := by
 obtain ⟨sx, sy, rfl⟩ := own_slice ho
 have HN := Lib.hid (node_one hn)
 have hxl := ho.1
 have HO := Lib.hid ho
 have HB := Lib.hid hB
 have hlt := hB.lt
 have hol := World.ownsRow.lt ho
 obtain ⟨sa, sc, hsv, _⟩ := hn.2.1
 obtain ⟨ka, kc, hkv, _⟩ := hn.2.2
 have HY := Lib.hid (And.intro hsv hkv)
 have HB1 := Lib.hid (below_alloc w (.cells (ndC y).toArray 25))
 have HR1 := Lib.hid (heap_alloc_new w (.cells (ndC y).toArray 25))
 clear hn hB ho
 go_enter Try.func39, Try.ntmps39
 go_upto_region 1 with (refine wpList_box_nd rfl _ rfl y rfl ?_)
 generalize hg : w.alloc _ = w1
 have hb1 : Below w.heap.size w w1 := by rw [← hg]; exact HB1.out
 have hr1 : w1.heap[w.heap.size]? = some (.cells (ndC y).toArray 25) := by rw [← hg]; exact HR1.out
 clear hg HB1 HR1
 have HB1 := Lib.hid hb1
 have HOn := Lib.hid (HB.out.below hb1)
 have HOw := Lib.hid (ownsRow_heap (w' := w1) HO.out fun q hq => hb1.block q (hol q hq).2)
 have hbs : base ≤ w1.heap.size := Nat.le_trans hbase hb1.size
 have hN0 : w.heap.size < w1.heap.size := (Array.getElem?_eq_some_iff.1 hr1).1
 obtain ⟨N0, hN⟩ : ∃ N0, w.heap.size = N0 := ⟨_, rfl⟩
 rw [hN] at hr1 hN0
 rw [hN]
 have hNB : N0 ≠ B := by omega
 have hNs : (Value.slice sx n sy).ownBlock ≠ some N0 := fun e => by
   have := (hol N0 e).2
   omega
 have HNs := Lib.hid hNs
 have HAp := Lib.hid (own_one HOw.out HOn.out)
 clear hNs hb1
 have c0 := HOn.out.cell
 go_wp2_with fail
 refine wp_region_held_drew (S := fun w' => w'.heap[N0]? = some (.cells (ndC y).toArray 25)) (by kernel_rfl) hr1 (fun hHeld => ?_)
 refine wpAnyH_take (i := 1) (v := ?_) rfl (by kernel_rfl) (by kernel_rfl) (by kernel_rfl) (fun _ _ _ h => h) (Or.inl ⟨by rfl, ?_⟩) (by assumption) ?_
 rotate_left
 · intro w' hSw
   refine exec_load_nd (x := .tmp 3) (b := N0) (off := 0) (l := y) ?_ ?_ (fun j v hj => by rw [cell_of_row _ _ _ _ _ _ hSw, Nat.zero_add]; simpa using hj) <;> rfl
 simp only [Act.put, List.setIfInBounds_toArray, List.set_cons_zero, List.set_cons_succ, List.getElem_toArray, List.getElem_cons_succ, List.getElem_cons_zero]
 refine wpAnyH_ready (rs := [0, 3]) (by kernel_rfl) (by simp) ?_
 refine AllReadyH.cons rfl (fun K hK => ?_) (AllReadyH.cons rfl (fun K hK => ?_) AllReadyH.nil)
 · have c0' : w1.drew.cell? ⟨B, 0, none⟩ = some (.slice sx n sy) := c0
   go_simp
   clear c0'
   refine hK.out _ _ hHeld (fun hHeld => ?_)
   clear hK K
   try simp only [Act.put, List.setIfInBounds_toArray, List.set_cons_zero, List.set_cons_succ, List.getElem_toArray, List.getElem_cons_succ, List.getElem_cons_zero]
   refine wpAnyH_take (i := 2) (v := ?_) rfl (by kernel_rfl) (by kernel_rfl) (by kernel_rfl) (fun _ _ _ h => h) (Or.inl ⟨by rfl, ?_⟩) (by assumption) ?_
   rotate_left
   · intro w' hSw
     go_simp
     try rfl
   simp only [Act.put, List.setIfInBounds_toArray, List.set_cons_zero, List.set_cons_succ, List.getElem_toArray, List.getElem_cons_succ, List.getElem_cons_zero]
   refine wpAnyH_ready (rs := [3]) (by kernel_rfl) (by simp) ?_
   refine AllReadyH.cons rfl (fun K hK => ?_) AllReadyH.nil
   go_simp
   refine hK.out _ _ ((Below.heap_alloc w1.drew _ N0 hN0).trans hHeld) (fun hHeld => ?_)
   clear hK K
   try simp only [Act.put, List.setIfInBounds_toArray, List.set_cons_zero, List.set_cons_succ, List.getElem_toArray, List.getElem_cons_succ, List.getElem_cons_zero]
   refine wpAnyH_ready (rs := [4]) (by kernel_rfl) (by simp) ?_
   refine AllReadyH.cons rfl (fun K hK => ?_) AllReadyH.nil
   refine held_append_nd (w := w1.drew) rfl _ _ rfl base _ n xs rfl HOw.out _ rfl rfl rfl (by omega) hbs ?_
   intro g cap w2 o2 g2' ha
   have g2' : w1.grownBy w2 (Value.slice sx n sy).ownBlock := ⟨g2'.os, g2'.tape, g2'.output, g2'.size, g2'.block⟩
   have ha : (Value.slice sx n sy).ownBlock = some g ∨ w1.heap.size ≤ g := ha
   have hNg : N0 ≠ g := fun e => by
     rcases ha with h | h
     · exact HNs.out (by rw [h, e])
     · omega
   have hone2 := HOn.out.grown g2' (fun e => HAp.out e.symm)
   have hBg : B ≠ g := fun e => by
     rcases ha with h | h
     · exact HAp.out (by rw [h, e])
     · have := HB1.out.size
       omega
   have hHeld2 : w2.heap[N0]? = some (.cells (ndC y).toArray 25) := (g2'.block N0 hN0 (fun e => HNs.out e.symm)).trans hr1
   refine hK.out _ _ hHeld2 (fun hHeld => ?_)
   clear hK K
   try simp only [Act.put, List.setIfInBounds_toArray, List.set_cons_zero, List.set_cons_succ, List.getElem_toArray, List.getElem_cons_succ, List.getElem_cons_zero]
   have hidx : (n : Int) < (n : Int) + 1 := by omega
   have hadd : (⟨g, 0, none⟩ : Addr).add (n * 12) = ⟨g, n * 12, none⟩ := by rw [add_plain, Nat.zero_add]
   refine wpAnyH_take (i := 5) (v := ?_) rfl (by kernel_rfl) (by kernel_rfl) (by kernel_rfl) (fun _ _ _ h => h) (Or.inl ⟨by rfl, ?_⟩) (by assumption) ?_
   rotate_left
   · intro w' hSw
     go_simp
     try rfl
   simp only [Act.put, List.setIfInBounds_toArray, List.set_cons_zero, List.set_cons_succ, List.getElem_toArray, List.getElem_cons_succ, List.getElem_cons_zero]
   refine wpAnyH_ready (rs := [6, 7]) (by kernel_rfl) (by simp) ?_
   refine AllReadyH.cons rfl (fun K hK => ?_) (AllReadyH.cons rfl (fun K hK => ?_) AllReadyH.nil)
   · refine held_store_row rfl rfl _ _ rfl (g := g) (n := n) rfl y HN.out rfl o2 hxl ?_
     intro w3 o3 g3
     have hHeld3 : w3.heap[N0]? = some (.cells (ndC y).toArray 25) := (g3.block N0 (Array.getElem?_eq_some_iff.1 hHeld).1 (fun e => hNg (Option.some.inj e))).trans hHeld
     refine hK.out _ _ hHeld3 (fun hHeld => ?_)
     clear hK K
     try simp only [Act.put, List.setIfInBounds_toArray, List.set_cons_zero, List.set_cons_succ, List.getElem_toArray, List.getElem_cons_succ, List.getElem_cons_zero]
     have hone3 := hone2.grown g3 (fun e => hBg (Option.some.inj e))
     have c3 := hone3.cell
     have c4 := hone3.frz
     refine wpAnyH_ready (rs := [7]) (by kernel_rfl) (by simp) ?_
     refine AllReadyH.cons rfl (fun K hK => ?_) AllReadyH.nil
     go_simp
     refine hK.out _ _ ((Below.heap_setCell w3 ⟨B, 0, none⟩ _ N0 hNB).trans hHeld3) (fun hHeld => ?_)
     clear hK K
     try simp only [Act.put, List.setIfInBounds_toArray, List.set_cons_zero, List.set_cons_succ, List.getElem_toArray, List.getElem_cons_succ, List.getElem_cons_zero]
     refine wpAnyH_done (by kernel_rfl) ?_ _
     clear c3 c4
     go_wp2_with fail
     go_ret
     rw [← hN] at *
     exact nodes_done HB1.out hlt g2' ha ⟨hone3.set _, ownsRow_heap o3 fun q hq => Below.heap_setCell w3 ⟨B, 0, none⟩ _ q (fun e => by have e : q = B := e; have hq : g = q := Option.some.inj hq; omega), g3.os, g3.tape, g3.output, by rw [World.size_setCell]; exact g3.size, fun q hq n1 n2 => (Below.heap_setCell w3 ⟨B, 0, none⟩ _ q n1).trans (g3.block q hq (fun e => n2 (Option.some.inj e)))⟩
   · have c3 := hone2.cell
     have c4 := hone2.frz
     go_simp
     refine hK.out _ _ ((Below.heap_setCell w2 ⟨B, 0, none⟩ _ N0 hNB).trans hHeld) (fun hHeld => ?_)
     clear hK K c3 c4
     try simp only [Act.put, List.setIfInBounds_toArray, List.set_cons_zero, List.set_cons_succ, List.getElem_toArray, List.getElem_cons_succ, List.getElem_cons_zero]
     have o2' := ownsRow_heap (w' := w2.setCell ⟨B, 0, none⟩ (.slice (some ⟨g, 0, none⟩) (n + 1) cap)) o2 fun q hq => Below.heap_setCell w2 ⟨B, 0, none⟩ _ q (fun e => by have e : q = B := e; have hq : g = q := Option.some.inj hq; omega)
     refine wpAnyH_ready (rs := [6]) (by kernel_rfl) (by simp) ?_
     refine AllReadyH.cons rfl (fun K hK => ?_) AllReadyH.nil
     refine held_store_row rfl rfl _ _ rfl (g := g) (n := n) rfl y HN.out rfl o2' hxl ?_
     intro w3 o3 g3
     have hHeld3 : w3.heap[N0]? = some (.cells (ndC y).toArray 25) := (g3.block N0 (Array.getElem?_eq_some_iff.1 hHeld).1 (fun e => hNg (Option.some.inj e))).trans hHeld
     refine hK.out _ _ hHeld3 (fun hHeld => ?_)
     clear hK K
     try simp only [Act.put, List.setIfInBounds_toArray, List.set_cons_zero, List.set_cons_succ, List.getElem_toArray, List.getElem_cons_succ, List.getElem_cons_zero]
     refine wpAnyH_done (by kernel_rfl) ?_ _
     have hone3 := (hone2.set (.slice (some ⟨g, 0, none⟩) (n + 1) cap)).grown g3 (fun e => hBg (Option.some.inj e))
     go_wp2_with fail
     go_ret
     rw [← hN] at *
     exact nodes_done HB1.out hlt g2' ha ⟨hone3, o3, g3.os, g3.tape, g3.output, by have := g3.size; rw [World.size_setCell] at this; exact this, fun q hq n1 n2 => (g3.block q (by rw [World.size_setCell]; exact hq) (fun e => n2 (Option.some.inj e))).trans (Below.heap_setCell w2 ⟨B, 0, none⟩ _ q n1)⟩
 · go_simp
   refine hK.out _ _ ((Below.heap_alloc w1.drew _ N0 hN0).trans hHeld) (fun hHeld => ?_)
   clear hK K
   try simp only [Act.put, List.setIfInBounds_toArray, List.set_cons_zero, List.set_cons_succ, List.getElem_toArray, List.getElem_cons_succ, List.getElem_cons_zero]
   refine wpAnyH_ready (rs := [0]) (by kernel_rfl) (by simp) ?_
   refine AllReadyH.cons rfl (fun K hK => ?_) AllReadyH.nil
   have c0' := (One.below HOn.out (below_alloc w1 (.cells zC.toArray 25))).cell
   unfold zC at c0'
   go_simp
   clear c0'
   refine hK.out _ _ hHeld (fun hHeld => ?_)
   clear hK K
   try simp only [Act.put, List.setIfInBounds_toArray, List.set_cons_zero, List.set_cons_succ, List.getElem_toArray, List.getElem_cons_succ, List.getElem_cons_zero]
   refine wpAnyH_take (i := 2) (v := ?_) rfl (by kernel_rfl) (by kernel_rfl) (by kernel_rfl) (fun _ _ _ h => h) (Or.inl ⟨by rfl, ?_⟩) (by assumption) ?_
   rotate_left
   · intro w' hSw
     go_simp
     try rfl
   simp only [Act.put, List.setIfInBounds_toArray, List.set_cons_zero, List.set_cons_succ, List.getElem_toArray, List.getElem_cons_succ, List.getElem_cons_zero]
   refine wpAnyH_ready (rs := [4]) (by kernel_rfl) (by simp) ?_
   refine AllReadyH.cons rfl (fun K hK => ?_) AllReadyH.nil
   refine held_append_nd (w := w1.drew) rfl _ _ rfl base _ n xs rfl HOw.out _ rfl rfl rfl (by omega) hbs ?_
   intro g cap w2 o2 g2' ha
   have g2' : w1.grownBy w2 (Value.slice sx n sy).ownBlock := ⟨g2'.os, g2'.tape, g2'.output, g2'.size, g2'.block⟩
   have ha : (Value.slice sx n sy).ownBlock = some g ∨ w1.heap.size ≤ g := ha
   have hNg : N0 ≠ g := fun e => by
     rcases ha with h | h
     · exact HNs.out (by rw [h, e])
     · omega
   have hone2 := HOn.out.grown g2' (fun e => HAp.out e.symm)
   have hBg : B ≠ g := fun e => by
     rcases ha with h | h
     · exact HAp.out (by rw [h, e])
     · have := HB1.out.size
       omega
   have hHeld2 : w2.heap[N0]? = some (.cells (ndC y).toArray 25) := (g2'.block N0 hN0 (fun e => HNs.out e.symm)).trans hr1
   refine hK.out _ _ hHeld2 (fun hHeld => ?_)
   clear hK K
   try simp only [Act.put, List.setIfInBounds_toArray, List.set_cons_zero, List.set_cons_succ, List.getElem_toArray, List.getElem_cons_succ, List.getElem_cons_zero]
   have hidx : (n : Int) < (n : Int) + 1 := by omega
   have hadd : (⟨g, 0, none⟩ : Addr).add (n * 12) = ⟨g, n * 12, none⟩ := by rw [add_plain, Nat.zero_add]
   refine wpAnyH_take (i := 5) (v := ?_) rfl (by kernel_rfl) (by kernel_rfl) (by kernel_rfl) (fun _ _ _ h => h) (Or.inl ⟨by rfl, ?_⟩) (by assumption) ?_
   rotate_left
   · intro w' hSw
     go_simp
     try rfl
   simp only [Act.put, List.setIfInBounds_toArray, List.set_cons_zero, List.set_cons_succ, List.getElem_toArray, List.getElem_cons_succ, List.getElem_cons_zero]
   refine wpAnyH_ready (rs := [6, 7]) (by kernel_rfl) (by simp) ?_
   refine AllReadyH.cons rfl (fun K hK => ?_) (AllReadyH.cons rfl (fun K hK => ?_) AllReadyH.nil)
   · refine held_store_row rfl rfl _ _ rfl (g := g) (n := n) rfl y HN.out rfl o2 hxl ?_
     intro w3 o3 g3
     have hHeld3 : w3.heap[N0]? = some (.cells (ndC y).toArray 25) := (g3.block N0 (Array.getElem?_eq_some_iff.1 hHeld).1 (fun e => hNg (Option.some.inj e))).trans hHeld
     refine hK.out _ _ hHeld3 (fun hHeld => ?_)
     clear hK K
     try simp only [Act.put, List.setIfInBounds_toArray, List.set_cons_zero, List.set_cons_succ, List.getElem_toArray, List.getElem_cons_succ, List.getElem_cons_zero]
     have hone3 := hone2.grown g3 (fun e => hBg (Option.some.inj e))
     have c3 := hone3.cell
     have c4 := hone3.frz
     refine wpAnyH_ready (rs := [7]) (by kernel_rfl) (by simp) ?_
     refine AllReadyH.cons rfl (fun K hK => ?_) AllReadyH.nil
     go_simp
     refine hK.out _ _ ((Below.heap_setCell w3 ⟨B, 0, none⟩ _ N0 hNB).trans hHeld3) (fun hHeld => ?_)
     clear hK K
     try simp only [Act.put, List.setIfInBounds_toArray, List.set_cons_zero, List.set_cons_succ, List.getElem_toArray, List.getElem_cons_succ, List.getElem_cons_zero]
     refine wpAnyH_done (by kernel_rfl) ?_ _
     clear c3 c4
     go_wp2_with fail
     go_ret
     rw [← hN] at *
     exact nodes_done HB1.out hlt g2' ha ⟨hone3.set _, ownsRow_heap o3 fun q hq => Below.heap_setCell w3 ⟨B, 0, none⟩ _ q (fun e => by have e : q = B := e; have hq : g = q := Option.some.inj hq; omega), g3.os, g3.tape, g3.output, by rw [World.size_setCell]; exact g3.size, fun q hq n1 n2 => (Below.heap_setCell w3 ⟨B, 0, none⟩ _ q n1).trans (g3.block q hq (fun e => n2 (Option.some.inj e)))⟩
   · have c3 := hone2.cell
     have c4 := hone2.frz
     go_simp
     refine hK.out _ _ ((Below.heap_setCell w2 ⟨B, 0, none⟩ _ N0 hNB).trans hHeld) (fun hHeld => ?_)
     clear hK K c3 c4
     try simp only [Act.put, List.setIfInBounds_toArray, List.set_cons_zero, List.set_cons_succ, List.getElem_toArray, List.getElem_cons_succ, List.getElem_cons_zero]
     have o2' := ownsRow_heap (w' := w2.setCell ⟨B, 0, none⟩ (.slice (some ⟨g, 0, none⟩) (n + 1) cap)) o2 fun q hq => Below.heap_setCell w2 ⟨B, 0, none⟩ _ q (fun e => by have e : q = B := e; have hq : g = q := Option.some.inj hq; omega)
     refine wpAnyH_ready (rs := [6]) (by kernel_rfl) (by simp) ?_
     refine AllReadyH.cons rfl (fun K hK => ?_) AllReadyH.nil
     refine held_store_row rfl rfl _ _ rfl (g := g) (n := n) rfl y HN.out rfl o2' hxl ?_
     intro w3 o3 g3
     have hHeld3 : w3.heap[N0]? = some (.cells (ndC y).toArray 25) := (g3.block N0 (Array.getElem?_eq_some_iff.1 hHeld).1 (fun e => hNg (Option.some.inj e))).trans hHeld
     refine hK.out _ _ hHeld3 (fun hHeld => ?_)
     clear hK K
     try simp only [Act.put, List.setIfInBounds_toArray, List.set_cons_zero, List.set_cons_succ, List.getElem_toArray, List.getElem_cons_succ, List.getElem_cons_zero]
     refine wpAnyH_done (by kernel_rfl) ?_ _
     have hone3 := (hone2.set (.slice (some ⟨g, 0, none⟩) (n + 1) cap)).grown g3 (fun e => hBg (Option.some.inj e))
     go_wp2_with fail
     go_ret
     rw [← hN] at *
     exact nodes_done HB1.out hlt g2' ha ⟨hone3, o3, g3.os, g3.tape, g3.output, by have := g3.size; rw [World.size_setCell] at this; exact this, fun q hq n1 n2 => (g3.block q (by rw [World.size_setCell]; exact hq) (fun e => n2 (Option.some.inj e))).trans (Below.heap_setCell w2 ⟨B, 0, none⟩ _ q n1)⟩
end Go.Proofs.Ytpjaahojoabgjaa.trw
end
