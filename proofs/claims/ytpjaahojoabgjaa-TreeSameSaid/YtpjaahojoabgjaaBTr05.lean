/- Texts that TreeCountsLaw leans on, merged: what the functions of the program answer. -/
import Derived.Test.YtpjaahojoabgjaaBTr04
section
namespace Go.Proofs.Ytpjaahojoabgjaa.trw
open Go.Sort Go Go.RowKit trp
set_option maxHeartbeats 400000 in
theorem srange_any (a b c d : Int) (w : World) : Calls Try.prog 41 #[.agg #[.int .i64 a, .int .i64 b], .agg #[.int .i64 c, .int .i64 d]] w (BoolB (decide ((a, b) = (c, d))) w) := by
 by_cases h1 : a = c
 · subst h1
   by_cases h2 : b = d
   · subst h2
     rw [decide_eq_true rfl]
     go_enter Try.func41, Try.ntmps41
     go_wp2_with fail
     go_ret
     exact ⟨rfl, (below_alloc w _).alloc (by simp) _⟩
   · rw [decide_eq_false (by simp [h2])]
     go_enter Try.func41, Try.ntmps41
     go_wp2_with fail
     go_ret
     exact ⟨rfl, (below_alloc w _).alloc (by simp) _⟩
 · rw [decide_eq_false (by simp [h1])]
   go_enter Try.func41, Try.ntmps41
   go_wp2_with fail
   go_ret
   exact ⟨rfl, (below_alloc w _).alloc (by simp) _⟩
def eqRs : List (Int × Int) → List (Int × Int) → Bool
 | [], [] => true
 | a :: l, b :: m => decide (a = b) && eqRs l m
 | _, _ => false
theorem eqRs_eq : ∀ l m, eqRs l m = decide (l = m)
 | [], [] => rfl
 | [], _ :: _ => by simp [eqRs]
 | _ :: _, [] => by simp [eqRs]
 | a :: l, b :: m => by simp [eqRs, eqRs_eq l m]
theorem eqRs_drop {l m : List (Int × Int)} {i : Nat} {a b : Int × Int} (ha : l[i]? = some a) (hb : m[i]? = some b) : eqRs (l.drop i) (m.drop i) = (decide (a = b) && eqRs (l.drop (i + 1)) (m.drop (i + 1))) := by
 obtain ⟨h1, rfl⟩ := List.getElem?_eq_some_iff.1 ha
 obtain ⟨h2, rfl⟩ := List.getElem?_eq_some_iff.1 hb
 rw [List.drop_eq_getElem_cons h1, List.drop_eq_getElem_cons h2, eqRs]
theorem rg_below {w w' : World} {v : Value} {l : List (Int × Int)} (h : RgAt w v l) (hb : Below w.heap.size w w') : RgAt w' v l := rgAt_mono (fun _ _ hc => below_cell hb hc) h
set_option maxRecDepth 100000 in
set_option maxHeartbeats 4000000 in
theorem eqr_any (v1 v2 : Value) (l m : List (Int × Int)) (w : World) (h1 : RgAt w v1 l) (h2 : RgAt w v2 m) : Calls Try.prog 40 #[v1, v2, .func (.func 41) #[] #[]] w (BoolB (decide (l = m)) w) := by
 have eg : ∀ args w, (callFunc 41 args).run Try.prog w = .ok (.enter 41 args) w := enters_of Try.func41 (by kernel_rfl) rfl
 obtain ⟨a1, c1, rfl, p1, p2, p3⟩ := h1
 obtain ⟨a2, c2, rfl, q1, q2, q3⟩ := h2
 have P3 := Lib.hid p3
 have Q3 := Lib.hid q3
 clear p3 q3
 obtain ⟨R, hR⟩ : ∃ R, eqRs l m = R := ⟨_, rfl⟩
 rw [← eqRs_eq, hR]
 by_cases hl : l.length = m.length
 · have HR := Lib.hid hR
   clear hR
   rw [← hl] at q1 ⊢
   have HLn := Lib.hid hl
   clear hl
   go_enter Try.func40, Try.ntmps40
   go_wp2_with fail
   go_loopw [7, 15] (fun _ iv wr => ∃ i : Nat, iv = .int .i64 i ∧ i ≤ l.length ∧ Hid (eqRs (l.drop i) (m.drop i) = R) ∧ Below w.heap.size w wr) (fun _ iv _ => l.length - (intOf iv).toNat)
   case atStart => exact ⟨0, rfl, Nat.zero_le _, HR, Below.refl _ _⟩
   case round =>
     obtain ⟨i, rfl, hi, HA, hb⟩ := hrel
     by_cases hend : i = l.length
     · have HRes := Lib.hid (show true = R by rw [← HA.out, List.drop_eq_nil_of_le (by omega), List.drop_eq_nil_of_le (by have := HLn.out; omega)]; rfl)
       subst hend
       go_wp2_with fail
       go_ret
       exact ⟨by rw [← HRes.out]; rfl, hb⟩
     · have hlt : i < l.length := by omega
       have hl := HLn.out
       rcases P3.out with h0 | ⟨b1, o1, rfl, k1⟩
       · rw [h0] at hlt
         simp at hlt
       rcases Q3.out with h0 | ⟨b2, o2, rfl, k2⟩
       · rw [h0] at hl
         simp at hl
         rw [hl] at hlt
         simp at hlt
       have hx1 := List.getElem?_eq_getElem hlt
       have hx2 := List.getElem?_eq_getElem (show i < m.length by omega)
       obtain ⟨x1, y1⟩ : ∃ x, l[i]'hlt = x := ⟨_, rfl⟩
       obtain ⟨x2, y2⟩ : ∃ x, m[i]'(by omega) = x := ⟨_, rfl⟩
       rw [y1] at hx1
       rw [y2] at hx2
       obtain ⟨e1, e2, _, _⟩ := k1 i x1 hx1
       obtain ⟨e3, e4, _, _⟩ := k2 i x2 hx2
       obtain ⟨x1, z1⟩ := x1
       obtain ⟨x2, z2⟩ := x2
       simp only at e1 e2 e3 e4
       have hstep := eqRs_drop hx1 hx2
       rw [HA.out] at hstep
       obtain ⟨q, hqq⟩ : ∃ q, decide ((x1, z1) = (x2, z2)) = q := ⟨_, rfl⟩
       rw [hqq] at hstep
       have HN := Lib.hid hstep.symm
       have HC := Lib.hid (fun w1 => by have := srange_any x1 z1 x2 z2 w1; rw [hqq] at this; exact this)
       have E1 := Lib.hid (below_cell hb e1)
       have E2 := Lib.hid (below_cell hb e2)
       have E3 := Lib.hid (below_cell hb e3)
       have E4 := Lib.hid (below_cell hb e4)
       have a1 := add_row b1 o1 i 2
       have a2 := add_row b2 o2 i 2
       clear hl hx1 hx2 y1 y2 e1 e2 e3 e4 hstep hqq k1 k2 HA
       have i1 : (i : Int) < (l.length : Int) := by omega
       go_wp2_with fail
       refine wp_region_held_drew (S := fun w' => Below wr.heap.size wr w') (by kernel_rfl) (below_drew wr) (fun hHeld => ?_)
       refine wpAnyH_take (i := 0) (v := ?_) rfl (by kernel_rfl) (by kernel_rfl) (by kernel_rfl) (fun _ _ _ h => h) (Or.inl ⟨by rfl, ?_⟩) (by assumption) ?_
       rotate_left
       · intro w' hSw
         have e1 := below_cell hSw E1.out
         have e2 := below_cell hSw E2.out
         have e3 := below_cell hSw E3.out
         have e4 := below_cell hSw E4.out
         go_simp
         try rfl
       simp only [Act.put, List.setIfInBounds_toArray, List.set_cons_zero, List.set_cons_succ, List.getElem_toArray, List.getElem_cons_zero]
       refine wpAnyH_take (i := 1) (v := ?_) rfl (by kernel_rfl) (by kernel_rfl) (by kernel_rfl) (fun _ _ _ h => h) (Or.inl ⟨by rfl, ?_⟩) (by assumption) ?_
       rotate_left
       · intro w' hSw
         have e1 := below_cell hSw E1.out
         have e2 := below_cell hSw E2.out
         have e3 := below_cell hSw E3.out
         have e4 := below_cell hSw E4.out
         go_simp
         try rfl
       simp only [Act.put, List.setIfInBounds_toArray, List.set_cons_zero, List.set_cons_succ, List.getElem_toArray, List.getElem_cons_succ, List.getElem_cons_zero]
       refine wpAnyH_take (i := 2) (v := ?_) rfl (by kernel_rfl) (by kernel_rfl) (by kernel_rfl) (fun _ _ _ h => h) (Or.inl ⟨by rfl, ?_⟩) (by assumption) ?_
       rotate_left
       · intro w' hSw
         have e1 := below_cell hSw E1.out
         have e2 := below_cell hSw E2.out
         have e3 := below_cell hSw E3.out
         have e4 := below_cell hSw E4.out
         go_simp
         try rfl
       simp only [Act.put, List.setIfInBounds_toArray, List.set_cons_zero, List.set_cons_succ, List.getElem_toArray, List.getElem_cons_succ, List.getElem_cons_zero]
       refine wpAnyH_take (i := 3) (v := ?_) rfl (by kernel_rfl) (by kernel_rfl) (by kernel_rfl) (fun _ _ _ h => h) (Or.inl ⟨by rfl, ?_⟩) (by assumption) ?_
       rotate_left
       · intro w' hSw
         have e1 := below_cell hSw E1.out
         have e2 := below_cell hSw E2.out
         have e3 := below_cell hSw E3.out
         have e4 := below_cell hSw E4.out
         go_simp
         try rfl
       simp only [Act.put, List.setIfInBounds_toArray, List.set_cons_zero, List.set_cons_succ, List.getElem_toArray, List.getElem_cons_succ, List.getElem_cons_zero]
       refine wpAnyH_take (i := 4) (v := ?_) rfl (by kernel_rfl) (by kernel_rfl) (by kernel_rfl) (fun _ _ _ h => h) (Or.inl ⟨by rfl, ?_⟩) (by assumption) ?_
       rotate_left
       · intro w' hSw
         have e1 := below_cell hSw E1.out
         have e2 := below_cell hSw E2.out
         have e3 := below_cell hSw E3.out
         have e4 := below_cell hSw E4.out
         go_simp
         try rfl
       simp only [Act.put, List.setIfInBounds_toArray, List.set_cons_zero, List.set_cons_succ, List.getElem_toArray, List.getElem_cons_succ, List.getElem_cons_zero]
       refine wpAnyH_take (i := 5) (v := ?_) rfl (by kernel_rfl) (by kernel_rfl) (by kernel_rfl) (fun _ _ _ h => h) (Or.inl ⟨by rfl, ?_⟩) (by assumption) ?_
       rotate_left
       · intro w' hSw
         have e1 := below_cell hSw E1.out
         have e2 := below_cell hSw E2.out
         have e3 := below_cell hSw E3.out
         have e4 := below_cell hSw E4.out
         go_simp
         try rfl
       simp only [Act.put, List.setIfInBounds_toArray, List.set_cons_zero, List.set_cons_succ, List.getElem_toArray, List.getElem_cons_succ, List.getElem_cons_zero]
       refine wpAnyH_take (i := 6) (v := ?_) rfl (by kernel_rfl) (by kernel_rfl) (by kernel_rfl) (fun _ _ _ h => h) (Or.inl ⟨by rfl, ?_⟩) (by assumption) ?_
       rotate_left
       · intro w' hSw
         have e1 := below_cell hSw E1.out
         have e2 := below_cell hSw E2.out
         have e3 := below_cell hSw E3.out
         have e4 := below_cell hSw E4.out
         go_simp
         try rfl
       simp only [Act.put, List.setIfInBounds_toArray, List.set_cons_zero, List.set_cons_succ, List.getElem_toArray, List.getElem_cons_succ, List.getElem_cons_zero]
       refine wpAnyH_take (i := 7) (v := ?_) rfl (by kernel_rfl) (by kernel_rfl) (by kernel_rfl) (fun _ _ _ h => h) (Or.inl ⟨by rfl, ?_⟩) (by assumption) ?_
       rotate_left
       · intro w' hSw
         have e1 := below_cell hSw E1.out
         have e2 := below_cell hSw E2.out
         have e3 := below_cell hSw E3.out
         have e4 := below_cell hSw E4.out
         go_simp
         try rfl
       simp only [Act.put, List.setIfInBounds_toArray, List.set_cons_zero, List.set_cons_succ, List.getElem_toArray, List.getElem_cons_succ, List.getElem_cons_zero]
       refine wpAnyH_take (i := 8) (v := ?_) rfl (by kernel_rfl) (by kernel_rfl) (by kernel_rfl) (fun _ _ _ h => h) (Or.inl ⟨by rfl, ?_⟩) (by assumption) ?_
       rotate_left
       · intro w' hSw
         have e1 := below_cell hSw E1.out
         have e2 := below_cell hSw E2.out
         have e3 := below_cell hSw E3.out
         have e4 := below_cell hSw E4.out
         go_simp
         try rfl
       simp only [Act.put, List.setIfInBounds_toArray, List.set_cons_zero, List.set_cons_succ, List.getElem_toArray, List.getElem_cons_succ, List.getElem_cons_zero]
       refine wpAnyH_ready (rs := [9]) (by kernel_rfl) (by simp) ?_
       refine AllReadyH.cons rfl (fun K hK => ?_) AllReadyH.nil
       go_simp
       refine (HC.out _).mono ?_
       rintro e w4 ⟨rfl, hb5⟩
       have hb4 : Below wr.heap.size wr w4 := hHeld.trans (hb5.mono hHeld.size)
       refine hK.out _ _ hb4 (fun hHeld => ?_)
       clear hK K
       try simp only [Act.put, List.setIfInBounds_toArray, List.set_cons_zero, List.set_cons_succ, List.getElem_toArray, List.getElem_cons_succ, List.getElem_cons_zero]
       refine wpAnyH_take (i := 10) (v := ?_) rfl (by kernel_rfl) (by kernel_rfl) (by kernel_rfl) (fun _ _ _ h => h) (Or.inl ⟨by rfl, ?_⟩) (by assumption) ?_
       rotate_left
       · intro w' hSw
         go_simp
         try rfl
       simp only [Act.put, List.setIfInBounds_toArray, List.set_cons_zero, List.set_cons_succ, List.getElem_toArray, List.getElem_cons_succ, List.getElem_cons_zero]
       refine wpAnyH_done (by kernel_rfl) ?_ _
       cases hq : q with
       | false =>
         rw [hq] at HN
         go_wp2_with fail
         go_ret
         exact ⟨by rw [← HN.out]; rfl, hb.trans (hb4.mono hb.size)⟩
       | true =>
         rw [hq] at HN
         have HN2 := Lib.hid (show eqRs (l.drop (i + 1)) (m.drop (i + 1)) = R by rw [← HN.out]; rfl)
         go_wp2_with fail
         go_roundw
         case rel => exact ⟨i + 1, by go_num, by omega, HN2, hb.trans (hb4.mono hb.size)⟩
         case measure => simp [intOf]; omega
 · have hlI : ((l.length : Int) == (m.length : Int)) = false := by simp; omega
   have hR2 := Lib.hid (show R = false by rw [← hR]; rw [eqRs_eq]; exact decide_eq_false (fun e => hl (by rw [e])))
   clear hR
   go_enter Try.func40, Try.ntmps40
   go_wp2_with fail
   go_ret
   exact ⟨by rw [hR2.out]; rfl, Below.refl _ _⟩
end Go.Proofs.Ytpjaahojoabgjaa.trw
end
section
namespace Go.Proofs.Ytpjaahojoabgjaa.trw
open Go Go.RowKit trp
theorem bytes_list {a b : ByteArray} (h : a.toList = b.toList) : a = b := by
 rw [ByteArray.toList_eq, ByteArray.toList_eq] at h
 exact WideShapes.bytes_inj h
set_option maxRecDepth 100000 in
set_option maxHeartbeats 8000000 in
theorem alike_any (a b : Nd) (w : World) (ha : NdAt w a) (hb : NdAt w b) : Calls Try.prog 32 #[ndV a.1, ndV b.1] w (BoolB (alikeP a b) w) := by
 have eg : ∀ args w, (callFunc 40 args).run Try.prog w = .ok (.enter 40 args) w := enters_of Try.func40 (by kernel_rfl) rfl
 have HC := Lib.hid (fun w1 (h : Below w.heap.size w w1) => eqr_any a.1.sv b.1.sv a.1.set b.1.set w1 (rg_below ha.2.1 h) (rg_below hb.2.1 h))
 obtain ⟨sa, sc, hsv, _⟩ := ha.2.1
 obtain ⟨ka, kc, hkv, _⟩ := ha.2.2
 obtain ⟨ta, tc, htv, _⟩ := hb.2.1
 obtain ⟨la, lc, hlv, _⟩ := hb.2.2
 clear ha hb
 obtain ⟨x, k⟩ := a
 obtain ⟨y, k2⟩ := b
 obtain ⟨xk, xa, xc, xs, xset, xneg, xn, xm, xmode, xname, xon, xoff, xkv⟩ := x
 obtain ⟨yk, ya, yc, ys, yset, yneg, yn, ym, ymode, yname, yon, yoff, ykv⟩ := y
 simp only at hsv hkv htv hlv
 subst hsv hkv htv hlv
 have HB2 := Lib.hid ((below_alloc w (.cells (ndC (⟨xk, xa, xc, .slice sa xset.length sc, xset, xneg, xn, xm, xmode, xname, xon, xoff, .slice ka k.len kc⟩ : Lab)).toArray 25)).alloc (by simp) (.cells (ndC (⟨yk, ya, yc, .slice ta yset.length tc, yset, yneg, yn, ym, ymode, yname, yon, yoff, .slice la k2.len lc⟩ : Lab)).toArray 25))
 have HR0 := Lib.hid (show ((w.alloc (.cells (ndC (⟨xk, xa, xc, .slice sa xset.length sc, xset, xneg, xn, xm, xmode, xname, xon, xoff, .slice ka k.len kc⟩ : Lab)).toArray 25)).alloc (.cells (ndC (⟨yk, ya, yc, .slice ta yset.length tc, yset, yneg, yn, ym, ymode, yname, yon, yoff, .slice la k2.len lc⟩ : Lab)).toArray 25)).heap[w.heap.size]? = some (.cells (ndC (⟨xk, xa, xc, .slice sa xset.length sc, xset, xneg, xn, xm, xmode, xname, xon, xoff, .slice ka k.len kc⟩ : Lab)).toArray 25) by rw [heap_alloc_old _ _ (by simp)]; exact heap_alloc_new _ _)
 have HR1 := Lib.hid (show ((w.alloc (.cells (ndC (⟨xk, xa, xc, .slice sa xset.length sc, xset, xneg, xn, xm, xmode, xname, xon, xoff, .slice ka k.len kc⟩ : Lab)).toArray 25)).alloc (.cells (ndC (⟨yk, ya, yc, .slice ta yset.length tc, yset, yneg, yn, ym, ymode, yname, yon, yoff, .slice la k2.len lc⟩ : Lab)).toArray 25)).heap[w.heap.size + 1]? = some (.cells (ndC (⟨yk, ya, yc, .slice ta yset.length tc, yset, yneg, yn, ym, ymode, yname, yon, yoff, .slice la k2.len lc⟩ : Lab)).toArray 25) by have := heap_alloc_new (w.alloc (.cells (ndC (⟨xk, xa, xc, .slice sa xset.length sc, xset, xneg, xn, xm, xmode, xname, xon, xoff, .slice ka k.len kc⟩ : Lab)).toArray 25)) (.cells (ndC (⟨yk, ya, yc, .slice ta yset.length tc, yset, yneg, yn, ym, ymode, yname, yon, yoff, .slice la k2.len lc⟩ : Lab)).toArray 25); simpa using this)
 unfold ndC at HB2 HR0 HR1
 by_cases h_kind : xk = yk
 rotate_left
 · have e_kind : (xk == yk) = false := by simpa using h_kind
   have HR := Lib.hid (show alikeP ((⟨xk, xa, xc, .slice sa xset.length sc, xset, xneg, xn, xm, xmode, xname, xon, xoff, .slice ka k.len kc⟩ : Lab), k) ((⟨yk, ya, yc, .slice ta yset.length tc, yset, yneg, yn, ym, ymode, yname, yon, yoff, .slice la k2.len lc⟩ : Lab), k2) = false by simp [alikeP, labEq, h_kind])
   clear h_kind
   unfold ndV
   rw [HR.out]
   go_enter Try.func32, Try.ntmps32
   go_wp2_with fail
   go_ret
   exact ⟨rfl, HB2.out⟩
 by_cases h_c : xc = yc
 rotate_left
 · have e_kind : (xk == yk) = true := by simp [h_kind]
   have e_c : (xc == yc) = false := by simpa using h_c
   have HR := Lib.hid (show alikeP ((⟨xk, xa, xc, .slice sa xset.length sc, xset, xneg, xn, xm, xmode, xname, xon, xoff, .slice ka k.len kc⟩ : Lab), k) ((⟨yk, ya, yc, .slice ta yset.length tc, yset, yneg, yn, ym, ymode, yname, yon, yoff, .slice la k2.len lc⟩ : Lab), k2) = false by simp [alikeP, labEq, h_kind, h_c])
   clear h_kind h_c
   unfold ndV
   rw [HR.out]
   go_enter Try.func32, Try.ntmps32
   go_wp2_with fail
   go_ret
   exact ⟨rfl, HB2.out⟩
 by_cases h_set : xset = yset
 rotate_left
 · have e_kind : (xk == yk) = true := by simp [h_kind]
   have e_c : (xc == yc) = true := by simp [h_c]
   have HS := Lib.hid (fun w1 (hb : Below w.heap.size w w1) => by have := HC.out w1 hb; rw [show decide (xset = yset) = false from decide_eq_false h_set] at this; exact this)
   have HR := Lib.hid (show alikeP ((⟨xk, xa, xc, .slice sa xset.length sc, xset, xneg, xn, xm, xmode, xname, xon, xoff, .slice ka k.len kc⟩ : Lab), k) ((⟨yk, ya, yc, .slice ta yset.length tc, yset, yneg, yn, ym, ymode, yname, yon, yoff, .slice la k2.len lc⟩ : Lab), k2) = false by simp [alikeP, labEq, h_kind, h_c, h_set])
   clear h_kind h_c h_set
   unfold ndV
   rw [HR.out]
   go_enter Try.func32, Try.ntmps32
   go_wp2_with fail
   refine (HS.out _ HB2.out).mono ?_
   rintro e w2 ⟨rfl, hb2⟩
   have r0 := Lib.hid ((hb2.block w.heap.size (by simp; omega)).trans HR0.out)
   have r1 := Lib.hid ((hb2.block (w.heap.size + 1) (by simp)).trans HR1.out)
   have HX := Lib.hid (cells12 (x := (⟨xk, xa, xc, .slice sa xset.length sc, xset, xneg, xn, xm, xmode, xname, xon, xoff, .slice ka k.len kc⟩ : Lab)) r0.out)
   have HY := Lib.hid (cells12 (x := (⟨yk, ya, yc, .slice ta yset.length tc, yset, yneg, yn, ym, ymode, yname, yon, yoff, .slice la k2.len lc⟩ : Lab)) r1.out)
   have f4 : w2.cell? ⟨w.heap.size, 4, none⟩ = some (.bool xneg) := HX.out 4 _ rfl
   have g4 : w2.cell? ⟨w.heap.size + 1, 4, none⟩ = some (.bool yneg) := HY.out 4 _ rfl
   have f5 : w2.cell? ⟨w.heap.size, 5, none⟩ = some (.int .i64 xn) := HX.out 5 _ rfl
   have g5 : w2.cell? ⟨w.heap.size + 1, 5, none⟩ = some (.int .i64 yn) := HY.out 5 _ rfl
   have f6 : w2.cell? ⟨w.heap.size, 6, none⟩ = some (.int .i64 xm) := HX.out 6 _ rfl
   have g6 : w2.cell? ⟨w.heap.size + 1, 6, none⟩ = some (.int .i64 ym) := HY.out 6 _ rfl
   have f7 : w2.cell? ⟨w.heap.size, 7, none⟩ = some (.int .i64 xmode) := HX.out 7 _ rfl
   have g7 : w2.cell? ⟨w.heap.size + 1, 7, none⟩ = some (.int .i64 ymode) := HY.out 7 _ rfl
   have f8 : w2.cell? ⟨w.heap.size, 8, none⟩ = some (.string xname) := HX.out 8 _ rfl
   have g8 : w2.cell? ⟨w.heap.size + 1, 8, none⟩ = some (.string yname) := HY.out 8 _ rfl
   have f9 : w2.cell? ⟨w.heap.size, 9, none⟩ = some (.int .i64 xon) := HX.out 9 _ rfl
   have g9 : w2.cell? ⟨w.heap.size + 1, 9, none⟩ = some (.int .i64 yon) := HY.out 9 _ rfl
   have f10 : w2.cell? ⟨w.heap.size, 10, none⟩ = some (.int .i64 xoff) := HX.out 10 _ rfl
   have g10 : w2.cell? ⟨w.heap.size + 1, 10, none⟩ = some (.int .i64 yoff) := HY.out 10 _ rfl
   have f11 : w2.cell? ⟨w.heap.size, 11, none⟩ = some (.slice ka k.len kc) := HX.out 11 _ rfl
   have g11 : w2.cell? ⟨w.heap.size + 1, 11, none⟩ = some (.slice la k2.len lc) := HY.out 11 _ rfl
   go_wp2_with fail
   go_ret
   exact ⟨rfl, HB2.out.trans (hb2.mono HB2.out.size)⟩
 by_cases h_neg : xneg = yneg
 rotate_left
 · have e_kind : (xk == yk) = true := by simp [h_kind]
   have e_c : (xc == yc) = true := by simp [h_c]
   have e_neg : (xneg == yneg) = false := by simpa using h_neg
   have HS := Lib.hid (fun w1 (hb : Below w.heap.size w w1) => by have := HC.out w1 hb; rw [show decide (xset = yset) = true from decide_eq_true h_set] at this; exact this)
   have HR := Lib.hid (show alikeP ((⟨xk, xa, xc, .slice sa xset.length sc, xset, xneg, xn, xm, xmode, xname, xon, xoff, .slice ka k.len kc⟩ : Lab), k) ((⟨yk, ya, yc, .slice ta yset.length tc, yset, yneg, yn, ym, ymode, yname, yon, yoff, .slice la k2.len lc⟩ : Lab), k2) = false by simp [alikeP, labEq, h_kind, h_c, h_set, h_neg])
   clear h_kind h_c h_set h_neg
   unfold ndV
   rw [HR.out]
   go_enter Try.func32, Try.ntmps32
   go_wp2_with fail
   refine (HS.out _ HB2.out).mono ?_
   rintro e w2 ⟨rfl, hb2⟩
   have r0 := Lib.hid ((hb2.block w.heap.size (by simp; omega)).trans HR0.out)
   have r1 := Lib.hid ((hb2.block (w.heap.size + 1) (by simp)).trans HR1.out)
   have HX := Lib.hid (cells12 (x := (⟨xk, xa, xc, .slice sa xset.length sc, xset, xneg, xn, xm, xmode, xname, xon, xoff, .slice ka k.len kc⟩ : Lab)) r0.out)
   have HY := Lib.hid (cells12 (x := (⟨yk, ya, yc, .slice ta yset.length tc, yset, yneg, yn, ym, ymode, yname, yon, yoff, .slice la k2.len lc⟩ : Lab)) r1.out)
   have f4 : w2.cell? ⟨w.heap.size, 4, none⟩ = some (.bool xneg) := HX.out 4 _ rfl
   have g4 : w2.cell? ⟨w.heap.size + 1, 4, none⟩ = some (.bool yneg) := HY.out 4 _ rfl
   have f5 : w2.cell? ⟨w.heap.size, 5, none⟩ = some (.int .i64 xn) := HX.out 5 _ rfl
   have g5 : w2.cell? ⟨w.heap.size + 1, 5, none⟩ = some (.int .i64 yn) := HY.out 5 _ rfl
   have f6 : w2.cell? ⟨w.heap.size, 6, none⟩ = some (.int .i64 xm) := HX.out 6 _ rfl
   have g6 : w2.cell? ⟨w.heap.size + 1, 6, none⟩ = some (.int .i64 ym) := HY.out 6 _ rfl
   have f7 : w2.cell? ⟨w.heap.size, 7, none⟩ = some (.int .i64 xmode) := HX.out 7 _ rfl
   have g7 : w2.cell? ⟨w.heap.size + 1, 7, none⟩ = some (.int .i64 ymode) := HY.out 7 _ rfl
   have f8 : w2.cell? ⟨w.heap.size, 8, none⟩ = some (.string xname) := HX.out 8 _ rfl
   have g8 : w2.cell? ⟨w.heap.size + 1, 8, none⟩ = some (.string yname) := HY.out 8 _ rfl
   have f9 : w2.cell? ⟨w.heap.size, 9, none⟩ = some (.int .i64 xon) := HX.out 9 _ rfl
   have g9 : w2.cell? ⟨w.heap.size + 1, 9, none⟩ = some (.int .i64 yon) := HY.out 9 _ rfl
   have f10 : w2.cell? ⟨w.heap.size, 10, none⟩ = some (.int .i64 xoff) := HX.out 10 _ rfl
   have g10 : w2.cell? ⟨w.heap.size + 1, 10, none⟩ = some (.int .i64 yoff) := HY.out 10 _ rfl
   have f11 : w2.cell? ⟨w.heap.size, 11, none⟩ = some (.slice ka k.len kc) := HX.out 11 _ rfl
   have g11 : w2.cell? ⟨w.heap.size + 1, 11, none⟩ = some (.slice la k2.len lc) := HY.out 11 _ rfl
   go_wp2_with fail
   go_ret
   exact ⟨rfl, HB2.out.trans (hb2.mono HB2.out.size)⟩
 by_cases h_n : xn = yn
 rotate_left
 · have e_kind : (xk == yk) = true := by simp [h_kind]
   have e_c : (xc == yc) = true := by simp [h_c]
   have e_neg : (xneg == yneg) = true := by simp [h_neg]
   have e_n : (xn == yn) = false := by simpa using h_n
   have HS := Lib.hid (fun w1 (hb : Below w.heap.size w w1) => by have := HC.out w1 hb; rw [show decide (xset = yset) = true from decide_eq_true h_set] at this; exact this)
   have HR := Lib.hid (show alikeP ((⟨xk, xa, xc, .slice sa xset.length sc, xset, xneg, xn, xm, xmode, xname, xon, xoff, .slice ka k.len kc⟩ : Lab), k) ((⟨yk, ya, yc, .slice ta yset.length tc, yset, yneg, yn, ym, ymode, yname, yon, yoff, .slice la k2.len lc⟩ : Lab), k2) = false by simp [alikeP, labEq, h_kind, h_c, h_set, h_neg, h_n])
   clear h_kind h_c h_set h_neg h_n
   unfold ndV
   rw [HR.out]
   go_enter Try.func32, Try.ntmps32
   go_wp2_with fail
   refine (HS.out _ HB2.out).mono ?_
   rintro e w2 ⟨rfl, hb2⟩
   have r0 := Lib.hid ((hb2.block w.heap.size (by simp; omega)).trans HR0.out)
   have r1 := Lib.hid ((hb2.block (w.heap.size + 1) (by simp)).trans HR1.out)
   have HX := Lib.hid (cells12 (x := (⟨xk, xa, xc, .slice sa xset.length sc, xset, xneg, xn, xm, xmode, xname, xon, xoff, .slice ka k.len kc⟩ : Lab)) r0.out)
   have HY := Lib.hid (cells12 (x := (⟨yk, ya, yc, .slice ta yset.length tc, yset, yneg, yn, ym, ymode, yname, yon, yoff, .slice la k2.len lc⟩ : Lab)) r1.out)
   have f4 : w2.cell? ⟨w.heap.size, 4, none⟩ = some (.bool xneg) := HX.out 4 _ rfl
   have g4 : w2.cell? ⟨w.heap.size + 1, 4, none⟩ = some (.bool yneg) := HY.out 4 _ rfl
   have f5 : w2.cell? ⟨w.heap.size, 5, none⟩ = some (.int .i64 xn) := HX.out 5 _ rfl
   have g5 : w2.cell? ⟨w.heap.size + 1, 5, none⟩ = some (.int .i64 yn) := HY.out 5 _ rfl
   have f6 : w2.cell? ⟨w.heap.size, 6, none⟩ = some (.int .i64 xm) := HX.out 6 _ rfl
   have g6 : w2.cell? ⟨w.heap.size + 1, 6, none⟩ = some (.int .i64 ym) := HY.out 6 _ rfl
   have f7 : w2.cell? ⟨w.heap.size, 7, none⟩ = some (.int .i64 xmode) := HX.out 7 _ rfl
   have g7 : w2.cell? ⟨w.heap.size + 1, 7, none⟩ = some (.int .i64 ymode) := HY.out 7 _ rfl
   have f8 : w2.cell? ⟨w.heap.size, 8, none⟩ = some (.string xname) := HX.out 8 _ rfl
   have g8 : w2.cell? ⟨w.heap.size + 1, 8, none⟩ = some (.string yname) := HY.out 8 _ rfl
   have f9 : w2.cell? ⟨w.heap.size, 9, none⟩ = some (.int .i64 xon) := HX.out 9 _ rfl
   have g9 : w2.cell? ⟨w.heap.size + 1, 9, none⟩ = some (.int .i64 yon) := HY.out 9 _ rfl
   have f10 : w2.cell? ⟨w.heap.size, 10, none⟩ = some (.int .i64 xoff) := HX.out 10 _ rfl
   have g10 : w2.cell? ⟨w.heap.size + 1, 10, none⟩ = some (.int .i64 yoff) := HY.out 10 _ rfl
   have f11 : w2.cell? ⟨w.heap.size, 11, none⟩ = some (.slice ka k.len kc) := HX.out 11 _ rfl
   have g11 : w2.cell? ⟨w.heap.size + 1, 11, none⟩ = some (.slice la k2.len lc) := HY.out 11 _ rfl
   go_wp2_with fail
   go_ret
   exact ⟨rfl, HB2.out.trans (hb2.mono HB2.out.size)⟩
 by_cases h_m : xm = ym
 rotate_left
 · have e_kind : (xk == yk) = true := by simp [h_kind]
   have e_c : (xc == yc) = true := by simp [h_c]
   have e_neg : (xneg == yneg) = true := by simp [h_neg]
   have e_n : (xn == yn) = true := by simp [h_n]
   have e_m : (xm == ym) = false := by simpa using h_m
   have HS := Lib.hid (fun w1 (hb : Below w.heap.size w w1) => by have := HC.out w1 hb; rw [show decide (xset = yset) = true from decide_eq_true h_set] at this; exact this)
   have HR := Lib.hid (show alikeP ((⟨xk, xa, xc, .slice sa xset.length sc, xset, xneg, xn, xm, xmode, xname, xon, xoff, .slice ka k.len kc⟩ : Lab), k) ((⟨yk, ya, yc, .slice ta yset.length tc, yset, yneg, yn, ym, ymode, yname, yon, yoff, .slice la k2.len lc⟩ : Lab), k2) = false by simp [alikeP, labEq, h_kind, h_c, h_set, h_neg, h_n, h_m])
   clear h_kind h_c h_set h_neg h_n h_m
   unfold ndV
   rw [HR.out]
   go_enter Try.func32, Try.ntmps32
   go_wp2_with fail
   refine (HS.out _ HB2.out).mono ?_
   rintro e w2 ⟨rfl, hb2⟩
   have r0 := Lib.hid ((hb2.block w.heap.size (by simp; omega)).trans HR0.out)
   have r1 := Lib.hid ((hb2.block (w.heap.size + 1) (by simp)).trans HR1.out)
   have HX := Lib.hid (cells12 (x := (⟨xk, xa, xc, .slice sa xset.length sc, xset, xneg, xn, xm, xmode, xname, xon, xoff, .slice ka k.len kc⟩ : Lab)) r0.out)
   have HY := Lib.hid (cells12 (x := (⟨yk, ya, yc, .slice ta yset.length tc, yset, yneg, yn, ym, ymode, yname, yon, yoff, .slice la k2.len lc⟩ : Lab)) r1.out)
   have f4 : w2.cell? ⟨w.heap.size, 4, none⟩ = some (.bool xneg) := HX.out 4 _ rfl
   have g4 : w2.cell? ⟨w.heap.size + 1, 4, none⟩ = some (.bool yneg) := HY.out 4 _ rfl
   have f5 : w2.cell? ⟨w.heap.size, 5, none⟩ = some (.int .i64 xn) := HX.out 5 _ rfl
   have g5 : w2.cell? ⟨w.heap.size + 1, 5, none⟩ = some (.int .i64 yn) := HY.out 5 _ rfl
   have f6 : w2.cell? ⟨w.heap.size, 6, none⟩ = some (.int .i64 xm) := HX.out 6 _ rfl
   have g6 : w2.cell? ⟨w.heap.size + 1, 6, none⟩ = some (.int .i64 ym) := HY.out 6 _ rfl
   have f7 : w2.cell? ⟨w.heap.size, 7, none⟩ = some (.int .i64 xmode) := HX.out 7 _ rfl
   have g7 : w2.cell? ⟨w.heap.size + 1, 7, none⟩ = some (.int .i64 ymode) := HY.out 7 _ rfl
   have f8 : w2.cell? ⟨w.heap.size, 8, none⟩ = some (.string xname) := HX.out 8 _ rfl
   have g8 : w2.cell? ⟨w.heap.size + 1, 8, none⟩ = some (.string yname) := HY.out 8 _ rfl
   have f9 : w2.cell? ⟨w.heap.size, 9, none⟩ = some (.int .i64 xon) := HX.out 9 _ rfl
   have g9 : w2.cell? ⟨w.heap.size + 1, 9, none⟩ = some (.int .i64 yon) := HY.out 9 _ rfl
   have f10 : w2.cell? ⟨w.heap.size, 10, none⟩ = some (.int .i64 xoff) := HX.out 10 _ rfl
   have g10 : w2.cell? ⟨w.heap.size + 1, 10, none⟩ = some (.int .i64 yoff) := HY.out 10 _ rfl
   have f11 : w2.cell? ⟨w.heap.size, 11, none⟩ = some (.slice ka k.len kc) := HX.out 11 _ rfl
   have g11 : w2.cell? ⟨w.heap.size + 1, 11, none⟩ = some (.slice la k2.len lc) := HY.out 11 _ rfl
   go_wp2_with fail
   go_ret
   exact ⟨rfl, HB2.out.trans (hb2.mono HB2.out.size)⟩
 by_cases h_mode : xmode = ymode
 rotate_left
 · have e_kind : (xk == yk) = true := by simp [h_kind]
   have e_c : (xc == yc) = true := by simp [h_c]
   have e_neg : (xneg == yneg) = true := by simp [h_neg]
   have e_n : (xn == yn) = true := by simp [h_n]
   have e_m : (xm == ym) = true := by simp [h_m]
   have e_mode : (xmode == ymode) = false := by simpa using h_mode
   have HS := Lib.hid (fun w1 (hb : Below w.heap.size w w1) => by have := HC.out w1 hb; rw [show decide (xset = yset) = true from decide_eq_true h_set] at this; exact this)
   have HR := Lib.hid (show alikeP ((⟨xk, xa, xc, .slice sa xset.length sc, xset, xneg, xn, xm, xmode, xname, xon, xoff, .slice ka k.len kc⟩ : Lab), k) ((⟨yk, ya, yc, .slice ta yset.length tc, yset, yneg, yn, ym, ymode, yname, yon, yoff, .slice la k2.len lc⟩ : Lab), k2) = false by simp [alikeP, labEq, h_kind, h_c, h_set, h_neg, h_n, h_m, h_mode])
   clear h_kind h_c h_set h_neg h_n h_m h_mode
   unfold ndV
   rw [HR.out]
   go_enter Try.func32, Try.ntmps32
   go_wp2_with fail
   refine (HS.out _ HB2.out).mono ?_
   rintro e w2 ⟨rfl, hb2⟩
   have r0 := Lib.hid ((hb2.block w.heap.size (by simp; omega)).trans HR0.out)
   have r1 := Lib.hid ((hb2.block (w.heap.size + 1) (by simp)).trans HR1.out)
   have HX := Lib.hid (cells12 (x := (⟨xk, xa, xc, .slice sa xset.length sc, xset, xneg, xn, xm, xmode, xname, xon, xoff, .slice ka k.len kc⟩ : Lab)) r0.out)
   have HY := Lib.hid (cells12 (x := (⟨yk, ya, yc, .slice ta yset.length tc, yset, yneg, yn, ym, ymode, yname, yon, yoff, .slice la k2.len lc⟩ : Lab)) r1.out)
   have f4 : w2.cell? ⟨w.heap.size, 4, none⟩ = some (.bool xneg) := HX.out 4 _ rfl
   have g4 : w2.cell? ⟨w.heap.size + 1, 4, none⟩ = some (.bool yneg) := HY.out 4 _ rfl
   have f5 : w2.cell? ⟨w.heap.size, 5, none⟩ = some (.int .i64 xn) := HX.out 5 _ rfl
   have g5 : w2.cell? ⟨w.heap.size + 1, 5, none⟩ = some (.int .i64 yn) := HY.out 5 _ rfl
   have f6 : w2.cell? ⟨w.heap.size, 6, none⟩ = some (.int .i64 xm) := HX.out 6 _ rfl
   have g6 : w2.cell? ⟨w.heap.size + 1, 6, none⟩ = some (.int .i64 ym) := HY.out 6 _ rfl
   have f7 : w2.cell? ⟨w.heap.size, 7, none⟩ = some (.int .i64 xmode) := HX.out 7 _ rfl
   have g7 : w2.cell? ⟨w.heap.size + 1, 7, none⟩ = some (.int .i64 ymode) := HY.out 7 _ rfl
   have f8 : w2.cell? ⟨w.heap.size, 8, none⟩ = some (.string xname) := HX.out 8 _ rfl
   have g8 : w2.cell? ⟨w.heap.size + 1, 8, none⟩ = some (.string yname) := HY.out 8 _ rfl
   have f9 : w2.cell? ⟨w.heap.size, 9, none⟩ = some (.int .i64 xon) := HX.out 9 _ rfl
   have g9 : w2.cell? ⟨w.heap.size + 1, 9, none⟩ = some (.int .i64 yon) := HY.out 9 _ rfl
   have f10 : w2.cell? ⟨w.heap.size, 10, none⟩ = some (.int .i64 xoff) := HX.out 10 _ rfl
   have g10 : w2.cell? ⟨w.heap.size + 1, 10, none⟩ = some (.int .i64 yoff) := HY.out 10 _ rfl
   have f11 : w2.cell? ⟨w.heap.size, 11, none⟩ = some (.slice ka k.len kc) := HX.out 11 _ rfl
   have g11 : w2.cell? ⟨w.heap.size + 1, 11, none⟩ = some (.slice la k2.len lc) := HY.out 11 _ rfl
   go_wp2_with fail
   go_ret
   exact ⟨rfl, HB2.out.trans (hb2.mono HB2.out.size)⟩
 by_cases h_name : xname = yname
 rotate_left
 · have e_kind : (xk == yk) = true := by simp [h_kind]
   have e_c : (xc == yc) = true := by simp [h_c]
   have e_neg : (xneg == yneg) = true := by simp [h_neg]
   have e_n : (xn == yn) = true := by simp [h_n]
   have e_m : (xm == ym) = true := by simp [h_m]
   have e_mode : (xmode == ymode) = true := by simp [h_mode]
   have e_name3 : (xname.toList == yname.toList) = false := by simpa using fun e => h_name (bytes_list e)
   have HS := Lib.hid (fun w1 (hb : Below w.heap.size w w1) => by have := HC.out w1 hb; rw [show decide (xset = yset) = true from decide_eq_true h_set] at this; exact this)
   have HR := Lib.hid (show alikeP ((⟨xk, xa, xc, .slice sa xset.length sc, xset, xneg, xn, xm, xmode, xname, xon, xoff, .slice ka k.len kc⟩ : Lab), k) ((⟨yk, ya, yc, .slice ta yset.length tc, yset, yneg, yn, ym, ymode, yname, yon, yoff, .slice la k2.len lc⟩ : Lab), k2) = false by simp [alikeP, labEq, h_kind, h_c, h_set, h_neg, h_n, h_m, h_mode, h_name])
   clear h_kind h_c h_set h_neg h_n h_m h_mode h_name
   unfold ndV
   rw [HR.out]
   go_enter Try.func32, Try.ntmps32
   go_wp2_with fail
   refine (HS.out _ HB2.out).mono ?_
   rintro e w2 ⟨rfl, hb2⟩
   have r0 := Lib.hid ((hb2.block w.heap.size (by simp; omega)).trans HR0.out)
   have r1 := Lib.hid ((hb2.block (w.heap.size + 1) (by simp)).trans HR1.out)
   have HX := Lib.hid (cells12 (x := (⟨xk, xa, xc, .slice sa xset.length sc, xset, xneg, xn, xm, xmode, xname, xon, xoff, .slice ka k.len kc⟩ : Lab)) r0.out)
   have HY := Lib.hid (cells12 (x := (⟨yk, ya, yc, .slice ta yset.length tc, yset, yneg, yn, ym, ymode, yname, yon, yoff, .slice la k2.len lc⟩ : Lab)) r1.out)
   have f4 : w2.cell? ⟨w.heap.size, 4, none⟩ = some (.bool xneg) := HX.out 4 _ rfl
   have g4 : w2.cell? ⟨w.heap.size + 1, 4, none⟩ = some (.bool yneg) := HY.out 4 _ rfl
   have f5 : w2.cell? ⟨w.heap.size, 5, none⟩ = some (.int .i64 xn) := HX.out 5 _ rfl
   have g5 : w2.cell? ⟨w.heap.size + 1, 5, none⟩ = some (.int .i64 yn) := HY.out 5 _ rfl
   have f6 : w2.cell? ⟨w.heap.size, 6, none⟩ = some (.int .i64 xm) := HX.out 6 _ rfl
   have g6 : w2.cell? ⟨w.heap.size + 1, 6, none⟩ = some (.int .i64 ym) := HY.out 6 _ rfl
   have f7 : w2.cell? ⟨w.heap.size, 7, none⟩ = some (.int .i64 xmode) := HX.out 7 _ rfl
   have g7 : w2.cell? ⟨w.heap.size + 1, 7, none⟩ = some (.int .i64 ymode) := HY.out 7 _ rfl
   have f8 : w2.cell? ⟨w.heap.size, 8, none⟩ = some (.string xname) := HX.out 8 _ rfl
   have g8 : w2.cell? ⟨w.heap.size + 1, 8, none⟩ = some (.string yname) := HY.out 8 _ rfl
   have f9 : w2.cell? ⟨w.heap.size, 9, none⟩ = some (.int .i64 xon) := HX.out 9 _ rfl
   have g9 : w2.cell? ⟨w.heap.size + 1, 9, none⟩ = some (.int .i64 yon) := HY.out 9 _ rfl
   have f10 : w2.cell? ⟨w.heap.size, 10, none⟩ = some (.int .i64 xoff) := HX.out 10 _ rfl
   have g10 : w2.cell? ⟨w.heap.size + 1, 10, none⟩ = some (.int .i64 yoff) := HY.out 10 _ rfl
   have f11 : w2.cell? ⟨w.heap.size, 11, none⟩ = some (.slice ka k.len kc) := HX.out 11 _ rfl
   have g11 : w2.cell? ⟨w.heap.size + 1, 11, none⟩ = some (.slice la k2.len lc) := HY.out 11 _ rfl
   go_wp2_with fail
   go_ret
   exact ⟨rfl, HB2.out.trans (hb2.mono HB2.out.size)⟩
 by_cases h_on : xon = yon
 rotate_left
 · have e_kind : (xk == yk) = true := by simp [h_kind]
   have e_c : (xc == yc) = true := by simp [h_c]
   have e_neg : (xneg == yneg) = true := by simp [h_neg]
   have e_n : (xn == yn) = true := by simp [h_n]
   have e_m : (xm == ym) = true := by simp [h_m]
   have e_mode : (xmode == ymode) = true := by simp [h_mode]
   have e_name3 : (xname.toList == yname.toList) = true := by rw [h_name]; exact beq_self_eq_true _
   have e_on : (xon == yon) = false := by simpa using h_on
   have HS := Lib.hid (fun w1 (hb : Below w.heap.size w w1) => by have := HC.out w1 hb; rw [show decide (xset = yset) = true from decide_eq_true h_set] at this; exact this)
   have HR := Lib.hid (show alikeP ((⟨xk, xa, xc, .slice sa xset.length sc, xset, xneg, xn, xm, xmode, xname, xon, xoff, .slice ka k.len kc⟩ : Lab), k) ((⟨yk, ya, yc, .slice ta yset.length tc, yset, yneg, yn, ym, ymode, yname, yon, yoff, .slice la k2.len lc⟩ : Lab), k2) = false by simp [alikeP, labEq, h_kind, h_c, h_set, h_neg, h_n, h_m, h_mode, h_name, h_on])
   clear h_kind h_c h_set h_neg h_n h_m h_mode h_name h_on
   unfold ndV
   rw [HR.out]
   go_enter Try.func32, Try.ntmps32
   go_wp2_with fail
   refine (HS.out _ HB2.out).mono ?_
   rintro e w2 ⟨rfl, hb2⟩
   have r0 := Lib.hid ((hb2.block w.heap.size (by simp; omega)).trans HR0.out)
   have r1 := Lib.hid ((hb2.block (w.heap.size + 1) (by simp)).trans HR1.out)
   have HX := Lib.hid (cells12 (x := (⟨xk, xa, xc, .slice sa xset.length sc, xset, xneg, xn, xm, xmode, xname, xon, xoff, .slice ka k.len kc⟩ : Lab)) r0.out)
   have HY := Lib.hid (cells12 (x := (⟨yk, ya, yc, .slice ta yset.length tc, yset, yneg, yn, ym, ymode, yname, yon, yoff, .slice la k2.len lc⟩ : Lab)) r1.out)
   have f4 : w2.cell? ⟨w.heap.size, 4, none⟩ = some (.bool xneg) := HX.out 4 _ rfl
   have g4 : w2.cell? ⟨w.heap.size + 1, 4, none⟩ = some (.bool yneg) := HY.out 4 _ rfl
   have f5 : w2.cell? ⟨w.heap.size, 5, none⟩ = some (.int .i64 xn) := HX.out 5 _ rfl
   have g5 : w2.cell? ⟨w.heap.size + 1, 5, none⟩ = some (.int .i64 yn) := HY.out 5 _ rfl
   have f6 : w2.cell? ⟨w.heap.size, 6, none⟩ = some (.int .i64 xm) := HX.out 6 _ rfl
   have g6 : w2.cell? ⟨w.heap.size + 1, 6, none⟩ = some (.int .i64 ym) := HY.out 6 _ rfl
   have f7 : w2.cell? ⟨w.heap.size, 7, none⟩ = some (.int .i64 xmode) := HX.out 7 _ rfl
   have g7 : w2.cell? ⟨w.heap.size + 1, 7, none⟩ = some (.int .i64 ymode) := HY.out 7 _ rfl
   have f8 : w2.cell? ⟨w.heap.size, 8, none⟩ = some (.string xname) := HX.out 8 _ rfl
   have g8 : w2.cell? ⟨w.heap.size + 1, 8, none⟩ = some (.string yname) := HY.out 8 _ rfl
   have f9 : w2.cell? ⟨w.heap.size, 9, none⟩ = some (.int .i64 xon) := HX.out 9 _ rfl
   have g9 : w2.cell? ⟨w.heap.size + 1, 9, none⟩ = some (.int .i64 yon) := HY.out 9 _ rfl
   have f10 : w2.cell? ⟨w.heap.size, 10, none⟩ = some (.int .i64 xoff) := HX.out 10 _ rfl
   have g10 : w2.cell? ⟨w.heap.size + 1, 10, none⟩ = some (.int .i64 yoff) := HY.out 10 _ rfl
   have f11 : w2.cell? ⟨w.heap.size, 11, none⟩ = some (.slice ka k.len kc) := HX.out 11 _ rfl
   have g11 : w2.cell? ⟨w.heap.size + 1, 11, none⟩ = some (.slice la k2.len lc) := HY.out 11 _ rfl
   go_wp2_with fail
   go_ret
   exact ⟨rfl, HB2.out.trans (hb2.mono HB2.out.size)⟩
 by_cases h_off : xoff = yoff
 rotate_left
 · have e_kind : (xk == yk) = true := by simp [h_kind]
   have e_c : (xc == yc) = true := by simp [h_c]
   have e_neg : (xneg == yneg) = true := by simp [h_neg]
   have e_n : (xn == yn) = true := by simp [h_n]
   have e_m : (xm == ym) = true := by simp [h_m]
   have e_mode : (xmode == ymode) = true := by simp [h_mode]
   have e_name3 : (xname.toList == yname.toList) = true := by rw [h_name]; exact beq_self_eq_true _
   have e_on : (xon == yon) = true := by simp [h_on]
   have e_off : (xoff == yoff) = false := by simpa using h_off
   have HS := Lib.hid (fun w1 (hb : Below w.heap.size w w1) => by have := HC.out w1 hb; rw [show decide (xset = yset) = true from decide_eq_true h_set] at this; exact this)
   have HR := Lib.hid (show alikeP ((⟨xk, xa, xc, .slice sa xset.length sc, xset, xneg, xn, xm, xmode, xname, xon, xoff, .slice ka k.len kc⟩ : Lab), k) ((⟨yk, ya, yc, .slice ta yset.length tc, yset, yneg, yn, ym, ymode, yname, yon, yoff, .slice la k2.len lc⟩ : Lab), k2) = false by simp [alikeP, labEq, h_kind, h_c, h_set, h_neg, h_n, h_m, h_mode, h_name, h_on, h_off])
   clear h_kind h_c h_set h_neg h_n h_m h_mode h_name h_on h_off
   unfold ndV
   rw [HR.out]
   go_enter Try.func32, Try.ntmps32
   go_wp2_with fail
   refine (HS.out _ HB2.out).mono ?_
   rintro e w2 ⟨rfl, hb2⟩
   have r0 := Lib.hid ((hb2.block w.heap.size (by simp; omega)).trans HR0.out)
   have r1 := Lib.hid ((hb2.block (w.heap.size + 1) (by simp)).trans HR1.out)
   have HX := Lib.hid (cells12 (x := (⟨xk, xa, xc, .slice sa xset.length sc, xset, xneg, xn, xm, xmode, xname, xon, xoff, .slice ka k.len kc⟩ : Lab)) r0.out)
   have HY := Lib.hid (cells12 (x := (⟨yk, ya, yc, .slice ta yset.length tc, yset, yneg, yn, ym, ymode, yname, yon, yoff, .slice la k2.len lc⟩ : Lab)) r1.out)
   have f4 : w2.cell? ⟨w.heap.size, 4, none⟩ = some (.bool xneg) := HX.out 4 _ rfl
   have g4 : w2.cell? ⟨w.heap.size + 1, 4, none⟩ = some (.bool yneg) := HY.out 4 _ rfl
   have f5 : w2.cell? ⟨w.heap.size, 5, none⟩ = some (.int .i64 xn) := HX.out 5 _ rfl
   have g5 : w2.cell? ⟨w.heap.size + 1, 5, none⟩ = some (.int .i64 yn) := HY.out 5 _ rfl
   have f6 : w2.cell? ⟨w.heap.size, 6, none⟩ = some (.int .i64 xm) := HX.out 6 _ rfl
   have g6 : w2.cell? ⟨w.heap.size + 1, 6, none⟩ = some (.int .i64 ym) := HY.out 6 _ rfl
   have f7 : w2.cell? ⟨w.heap.size, 7, none⟩ = some (.int .i64 xmode) := HX.out 7 _ rfl
   have g7 : w2.cell? ⟨w.heap.size + 1, 7, none⟩ = some (.int .i64 ymode) := HY.out 7 _ rfl
   have f8 : w2.cell? ⟨w.heap.size, 8, none⟩ = some (.string xname) := HX.out 8 _ rfl
   have g8 : w2.cell? ⟨w.heap.size + 1, 8, none⟩ = some (.string yname) := HY.out 8 _ rfl
   have f9 : w2.cell? ⟨w.heap.size, 9, none⟩ = some (.int .i64 xon) := HX.out 9 _ rfl
   have g9 : w2.cell? ⟨w.heap.size + 1, 9, none⟩ = some (.int .i64 yon) := HY.out 9 _ rfl
   have f10 : w2.cell? ⟨w.heap.size, 10, none⟩ = some (.int .i64 xoff) := HX.out 10 _ rfl
   have g10 : w2.cell? ⟨w.heap.size + 1, 10, none⟩ = some (.int .i64 yoff) := HY.out 10 _ rfl
   have f11 : w2.cell? ⟨w.heap.size, 11, none⟩ = some (.slice ka k.len kc) := HX.out 11 _ rfl
   have g11 : w2.cell? ⟨w.heap.size + 1, 11, none⟩ = some (.slice la k2.len lc) := HY.out 11 _ rfl
   go_wp2_with fail
   go_ret
   exact ⟨rfl, HB2.out.trans (hb2.mono HB2.out.size)⟩
 by_cases h_kids : k.len = k2.len
 rotate_left
 · have e_kind : (xk == yk) = true := by simp [h_kind]
   have e_c : (xc == yc) = true := by simp [h_c]
   have e_neg : (xneg == yneg) = true := by simp [h_neg]
   have e_n : (xn == yn) = true := by simp [h_n]
   have e_m : (xm == ym) = true := by simp [h_m]
   have e_mode : (xmode == ymode) = true := by simp [h_mode]
   have e_name3 : (xname.toList == yname.toList) = true := by rw [h_name]; exact beq_self_eq_true _
   have e_on : (xon == yon) = true := by simp [h_on]
   have e_off : (xoff == yoff) = true := by simp [h_off]
   have e_kids : ((k.len : Int) == (k2.len : Int)) = false := by simp; omega
   have HS := Lib.hid (fun w1 (hb : Below w.heap.size w w1) => by have := HC.out w1 hb; rw [show decide (xset = yset) = true from decide_eq_true h_set] at this; exact this)
   have HR := Lib.hid (show alikeP ((⟨xk, xa, xc, .slice sa xset.length sc, xset, xneg, xn, xm, xmode, xname, xon, xoff, .slice ka k.len kc⟩ : Lab), k) ((⟨yk, ya, yc, .slice ta yset.length tc, yset, yneg, yn, ym, ymode, yname, yon, yoff, .slice la k2.len lc⟩ : Lab), k2) = false by simp [alikeP, labEq, h_kind, h_c, h_set, h_neg, h_n, h_m, h_mode, h_name, h_on, h_off, h_kids])
   clear h_kind h_c h_set h_neg h_n h_m h_mode h_name h_on h_off h_kids
   unfold ndV
   rw [HR.out]
   go_enter Try.func32, Try.ntmps32
   go_wp2_with fail
   refine (HS.out _ HB2.out).mono ?_
   rintro e w2 ⟨rfl, hb2⟩
   have r0 := Lib.hid ((hb2.block w.heap.size (by simp; omega)).trans HR0.out)
   have r1 := Lib.hid ((hb2.block (w.heap.size + 1) (by simp)).trans HR1.out)
   have HX := Lib.hid (cells12 (x := (⟨xk, xa, xc, .slice sa xset.length sc, xset, xneg, xn, xm, xmode, xname, xon, xoff, .slice ka k.len kc⟩ : Lab)) r0.out)
   have HY := Lib.hid (cells12 (x := (⟨yk, ya, yc, .slice ta yset.length tc, yset, yneg, yn, ym, ymode, yname, yon, yoff, .slice la k2.len lc⟩ : Lab)) r1.out)
   have f4 : w2.cell? ⟨w.heap.size, 4, none⟩ = some (.bool xneg) := HX.out 4 _ rfl
   have g4 : w2.cell? ⟨w.heap.size + 1, 4, none⟩ = some (.bool yneg) := HY.out 4 _ rfl
   have f5 : w2.cell? ⟨w.heap.size, 5, none⟩ = some (.int .i64 xn) := HX.out 5 _ rfl
   have g5 : w2.cell? ⟨w.heap.size + 1, 5, none⟩ = some (.int .i64 yn) := HY.out 5 _ rfl
   have f6 : w2.cell? ⟨w.heap.size, 6, none⟩ = some (.int .i64 xm) := HX.out 6 _ rfl
   have g6 : w2.cell? ⟨w.heap.size + 1, 6, none⟩ = some (.int .i64 ym) := HY.out 6 _ rfl
   have f7 : w2.cell? ⟨w.heap.size, 7, none⟩ = some (.int .i64 xmode) := HX.out 7 _ rfl
   have g7 : w2.cell? ⟨w.heap.size + 1, 7, none⟩ = some (.int .i64 ymode) := HY.out 7 _ rfl
   have f8 : w2.cell? ⟨w.heap.size, 8, none⟩ = some (.string xname) := HX.out 8 _ rfl
   have g8 : w2.cell? ⟨w.heap.size + 1, 8, none⟩ = some (.string yname) := HY.out 8 _ rfl
   have f9 : w2.cell? ⟨w.heap.size, 9, none⟩ = some (.int .i64 xon) := HX.out 9 _ rfl
   have g9 : w2.cell? ⟨w.heap.size + 1, 9, none⟩ = some (.int .i64 yon) := HY.out 9 _ rfl
   have f10 : w2.cell? ⟨w.heap.size, 10, none⟩ = some (.int .i64 xoff) := HX.out 10 _ rfl
   have g10 : w2.cell? ⟨w.heap.size + 1, 10, none⟩ = some (.int .i64 yoff) := HY.out 10 _ rfl
   have f11 : w2.cell? ⟨w.heap.size, 11, none⟩ = some (.slice ka k.len kc) := HX.out 11 _ rfl
   have g11 : w2.cell? ⟨w.heap.size + 1, 11, none⟩ = some (.slice la k2.len lc) := HY.out 11 _ rfl
   go_wp2_with fail
   go_ret
   exact ⟨rfl, HB2.out.trans (hb2.mono HB2.out.size)⟩
 have e_kind : (xk == yk) = true := by simp [h_kind]
 have e_c : (xc == yc) = true := by simp [h_c]
 have e_neg : (xneg == yneg) = true := by simp [h_neg]
 have e_n : (xn == yn) = true := by simp [h_n]
 have e_m : (xm == ym) = true := by simp [h_m]
 have e_mode : (xmode == ymode) = true := by simp [h_mode]
 have e_name3 : (xname.toList == yname.toList) = true := by rw [h_name]; exact beq_self_eq_true _
 have e_on : (xon == yon) = true := by simp [h_on]
 have e_off : (xoff == yoff) = true := by simp [h_off]
 have e_kids : ((k.len : Int) == (k2.len : Int)) = true := by simp [h_kids]
 have HS := Lib.hid (fun w1 (hb : Below w.heap.size w w1) => by have := HC.out w1 hb; rw [show decide (xset = yset) = true from decide_eq_true h_set] at this; exact this)
 have HR := Lib.hid (show alikeP ((⟨xk, xa, xc, .slice sa xset.length sc, xset, xneg, xn, xm, xmode, xname, xon, xoff, .slice ka k.len kc⟩ : Lab), k) ((⟨yk, ya, yc, .slice ta yset.length tc, yset, yneg, yn, ym, ymode, yname, yon, yoff, .slice la k2.len lc⟩ : Lab), k2) = true by simp [alikeP, labEq, h_kind, h_c, h_set, h_neg, h_n, h_m, h_mode, h_name, h_on, h_off, h_kids])
 clear h_kind h_c h_set h_neg h_n h_m h_mode h_name h_on h_off h_kids
 unfold ndV
 rw [HR.out]
 go_enter Try.func32, Try.ntmps32
 go_wp2_with fail
 refine (HS.out _ HB2.out).mono ?_
 rintro e w2 ⟨rfl, hb2⟩
 have r0 := Lib.hid ((hb2.block w.heap.size (by simp; omega)).trans HR0.out)
 have r1 := Lib.hid ((hb2.block (w.heap.size + 1) (by simp)).trans HR1.out)
 have HX := Lib.hid (cells12 (x := (⟨xk, xa, xc, .slice sa xset.length sc, xset, xneg, xn, xm, xmode, xname, xon, xoff, .slice ka k.len kc⟩ : Lab)) r0.out)
 have HY := Lib.hid (cells12 (x := (⟨yk, ya, yc, .slice ta yset.length tc, yset, yneg, yn, ym, ymode, yname, yon, yoff, .slice la k2.len lc⟩ : Lab)) r1.out)
 have f4 : w2.cell? ⟨w.heap.size, 4, none⟩ = some (.bool xneg) := HX.out 4 _ rfl
 have g4 : w2.cell? ⟨w.heap.size + 1, 4, none⟩ = some (.bool yneg) := HY.out 4 _ rfl
 have f5 : w2.cell? ⟨w.heap.size, 5, none⟩ = some (.int .i64 xn) := HX.out 5 _ rfl
 have g5 : w2.cell? ⟨w.heap.size + 1, 5, none⟩ = some (.int .i64 yn) := HY.out 5 _ rfl
 have f6 : w2.cell? ⟨w.heap.size, 6, none⟩ = some (.int .i64 xm) := HX.out 6 _ rfl
 have g6 : w2.cell? ⟨w.heap.size + 1, 6, none⟩ = some (.int .i64 ym) := HY.out 6 _ rfl
 have f7 : w2.cell? ⟨w.heap.size, 7, none⟩ = some (.int .i64 xmode) := HX.out 7 _ rfl
 have g7 : w2.cell? ⟨w.heap.size + 1, 7, none⟩ = some (.int .i64 ymode) := HY.out 7 _ rfl
 have f8 : w2.cell? ⟨w.heap.size, 8, none⟩ = some (.string xname) := HX.out 8 _ rfl
 have g8 : w2.cell? ⟨w.heap.size + 1, 8, none⟩ = some (.string yname) := HY.out 8 _ rfl
 have f9 : w2.cell? ⟨w.heap.size, 9, none⟩ = some (.int .i64 xon) := HX.out 9 _ rfl
 have g9 : w2.cell? ⟨w.heap.size + 1, 9, none⟩ = some (.int .i64 yon) := HY.out 9 _ rfl
 have f10 : w2.cell? ⟨w.heap.size, 10, none⟩ = some (.int .i64 xoff) := HX.out 10 _ rfl
 have g10 : w2.cell? ⟨w.heap.size + 1, 10, none⟩ = some (.int .i64 yoff) := HY.out 10 _ rfl
 have f11 : w2.cell? ⟨w.heap.size, 11, none⟩ = some (.slice ka k.len kc) := HX.out 11 _ rfl
 have g11 : w2.cell? ⟨w.heap.size + 1, 11, none⟩ = some (.slice la k2.len lc) := HY.out 11 _ rfl
 go_wp2_with fail
 go_ret
 exact ⟨rfl, HB2.out.trans (hb2.mono HB2.out.size)⟩
end Go.Proofs.Ytpjaahojoabgjaa.trw
end
