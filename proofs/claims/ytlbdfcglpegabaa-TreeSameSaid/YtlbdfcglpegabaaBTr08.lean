/- Texts that TreeChecksLaw leans on, merged: what the functions of the program answer. -/
import Derived.ChangeSame
import Derived.Deep.Cut
import Derived.Deep.SlicePairs
import Derived.Lib.SmallJoins
import Derived.SizedLaws
import Derived.Test.YtlbdfcglpegabaaBTr07
section
namespace Go.Proofs.Ytlbdfcglpegabaa.trw
open Go Go.RowKit trp
set_option maxRecDepth 100000 in
set_option maxHeartbeats 2000000 in
theorem all_any : ∀ (n : Nat) (x : Lab) (k : F) (w : World), k.size < n → NdAt w (x, k) → Calls Try.prog 29 #[ndV x] w (BoolB (mayP (x, k) && allP k) w) := by
 intro n
 induction n with
 | zero => intro x k w hn; omega
 | succ n ih =>
   intro x k w hn hd
   have HMy := Lib.hid (fun w1 (hb : Below w.heap.size w w1) => may_any x k w1 (below_nd hb hd))
   obtain ⟨R, hR⟩ : ∃ R, (mayP (x, k) && allP k) = R := ⟨_, rfl⟩
   rw [hR]
   obtain ⟨my, hmy⟩ : ∃ my, mayP (x, k) = my := ⟨_, rfl⟩
   rw [hmy] at HMy hR
   clear hmy
   obtain ⟨hlab, hrg, hk⟩ := hd
   obtain ⟨a, cap, hkv⟩ := kids_len hk
   obtain ⟨xk, xa, xc, xs, xset, xneg, xn, xm, xmode, xname, xon, xoff, xkv⟩ := x
   simp only at hk hkv hrg hlab
   subst hkv
   have HK := Lib.hid hk
   have HR := Lib.hid hR
   clear hk hlab hrg hR
   unfold ndV at HMy ⊢
   have HM1 := Lib.hid (HMy.out _ (below_alloc w (.cells #[.int .i64 xk, .int .i64 xa, .int .i64 xc, xs, .bool xneg, .int .i64 xn, .int .i64 xm, .int .i64 xmode, .string xname, .int .i64 xon, .int .i64 xoff, .slice a k.len cap] 25)))
   clear HMy
   go_enter Try.func29, Try.ntmps29
   go_wp2_with fail
   refine HM1.out.mono ?_
   rintro e w1 ⟨rfl, hb1⟩
   have hc11 := below_cell hb1 (a := ⟨w.heap.size, 11, none⟩) (v := .slice a k.len cap) (by simp)
   have HB := Lib.hid (below_trans (below_alloc w _) hb1)
   obtain ⟨B, hB⟩ : ∃ B, w.heap.size = B := ⟨_, rfl⟩
   rw [hB] at hc11 ⊢
   have HC := Lib.hid hc11
   clear hb1 hc11
   cases my with
   | false =>
     go_wp2_with fail
     go_ret
     exact ⟨by rw [← HR.out]; rfl, HB.out⟩
   | true =>
     have HR := Lib.hid (show allP k = R by rw [← HR.out]; rfl)
     go_wp2_with fail
     go_loopw [4, 5] (fun iv _ wr => ∃ i : Nat, iv = .int .i64 i ∧ i ≤ k.len ∧ Hid (allP (k.drop i) = R) ∧ Below w1.heap.size w1 wr) (fun iv _ _ => k.len - (intOf iv).toNat)
     case atStart => exact ⟨0, rfl, Nat.zero_le _, Lib.hid (by rw [drop_zero]; exact HR.out), Below.refl _ _⟩
     case round =>
       obtain ⟨i, rfl, hi, HA, hb⟩ := hrel
       have hcell : wr.cell? ⟨B, 11, none⟩ = some (.slice a k.len cap) := below_cell hb HC.out
       by_cases hend : i = k.len
       · have HRes := Lib.hid (show true = R by have := HA.out; rw [drop_end (by omega)] at this; exact this)
         subst hend
         go_wp2_with fail
         go_ret
         exact ⟨by rw [← HRes.out]; rfl, below_trans HB.out hb⟩
       · have hlt0 : i < k.len := by omega
         obtain ⟨y, k', r, hdr⟩ := drop_lt (f := k) (i := i) (by omega)
         obtain ⟨b, o, cap', hv2, hcap, hcap2, hlt, hf⟩ := kid_at (below_kids (below_trans HB.out hb) HK.out) hdr
         obtain ⟨rfl, rfl⟩ : a = some ⟨b, o, none⟩ ∧ cap = cap' := by
           have := hv2
           simp only [Value.slice.injEq] at this
           exact ⟨this.1, this.2.2⟩
         have hnd := fAt_head hf
         have hcs := Lib.hid hf.1
         have hsz := size_lt hdr
         have hadd := add_row b o i 12
         have HI := Lib.hid (ih y k' wr (by omega) hnd)
         have HN := Lib.hid (show (mayP (y, k') && allP k' && allP (k.drop (i + 1))) = R by
           rw [drop_succ hdr, ← HA.out, hdr]
           rfl)
         obtain ⟨q, hq⟩ : ∃ q, (mayP (y, k') && allP k') = q := ⟨_, rfl⟩
         rw [hq] at HI HN
         clear hf hnd hdr hq hv2
         cases q with
         | false =>
           go_wp2_with (refine wpList_load_nd rfl _ rfl b (o + i * 12) rfl y hcs.out ?_)
           refine HI.out.mono ?_
           rintro e w2 ⟨rfl, hb2⟩
           go_wp2_with fail
           go_ret
           exact ⟨by rw [← HN.out]; rfl, below_trans (below_trans HB.out hb) hb2⟩
         | true =>
           go_wp2_with (refine wpList_load_nd rfl _ rfl b (o + i * 12) rfl y hcs.out ?_)
           refine HI.out.mono ?_
           rintro e w2 ⟨rfl, hb2⟩
           go_wp2_with fail
           go_roundw
           case rel => exact ⟨i + 1, by go_num, hlt, Lib.hid (by rw [← HN.out]; rfl), below_trans hb hb2⟩
           case measure => simp [intOf]; omega
set_option maxHeartbeats 400000 in
theorem rdepth_any (x : Lab) (k : F) (w : World) (hd : NdAt w (x, k)) : Calls Try.prog 17 #[ndV x] w (IntB (min 301 (k.deep + 1) : Nat) w) := by
 have HC := Lib.hid (fun w1 (hb : Below w.heap.size w w1) => deep_any (k.size + 1) x k 301 w1 (Nat.lt_succ_self _) (below_nd hb hd) (by omega) (by omega))
 clear hd
 unfold ndV at *
 go_enter Try.func17, Try.ntmps17
 go_wp2_with fail
 refine (HC.out _ (below_alloc w _)).mono ?_
 rintro e w2 ⟨rfl, hb2⟩
 go_wp2_with fail
 go_ret
 exact ⟨rfl, below_box hb2⟩
set_option maxHeartbeats 1000000 in
theorem rcheck_any (x : Lab) (k : F) (w : World) (hd : NdAt w (x, k)) : Calls Try.prog 13 #[ndV x] w (BoolB (checkP (x, k)) w) := by
 have H1 := Lib.hid (fun w1 (hb : Below w.heap.size w w1) => small_any x k w1 (below_nd hb hd))
 have H2 := Lib.hid (fun w1 (hb : Below w.heap.size w w1) => rdepth_any x k w1 (below_nd hb hd))
 have H3 := Lib.hid (fun w1 (hb : Below w.heap.size w w1) => all_any (k.size + 1) x k w1 (Nat.lt_succ_self _) (below_nd hb hd))
 obtain ⟨R, hR⟩ : ∃ R, checkP (x, k) = R := ⟨_, rfl⟩
 rw [hR]
 have HR := Lib.hid (show (decide (k.size + 1 ≤ 4000) && decide (k.deep + 1 ≤ 300) && (mayP (x, k) && allP k)) = R by rw [← hR]; rfl)
 clear hd hR
 generalize decide (k.size + 1 ≤ 4000) = s at *
 generalize (mayP (x, k) && allP k) = q at *
 obtain ⟨d, hd1, hd2⟩ : ∃ d, min 301 (k.deep + 1) = d ∧ (decide (k.deep + 1 ≤ 300) = decide (d ≤ 300)) := ⟨_, rfl, decide_eq_decide.2 (by omega)⟩
 rw [hd1] at H2
 rw [hd2] at HR
 clear hd1 hd2
 have hcx : ∀ (w1 : World), (w1.heap[w.heap.size]? = some (.cells (ndC x).toArray 25)) → ∀ j v, (ndC x)[j]? = some v → w1.cell? ⟨w.heap.size, 0 + j, none⟩ = some v := fun w1 h j v hj => by
   rw [cell_of_row _ _ _ _ _ _ h, Nat.zero_add]
   simpa using hj
 have HX := Lib.hid hcx
 clear hcx
 have hb0 := below_alloc w (.cells (ndC x).toArray 25)
 have h0 := heap_alloc_new w (.cells (ndC x).toArray 25)
 unfold ndC at hb0 h0
 have hk1 : ∀ w1, Below (w.alloc (.cells (ndC x).toArray 25)).heap.size (w.alloc (.cells (ndC x).toArray 25)) w1 → w1.heap[w.heap.size]? = some (.cells (ndC x).toArray 25) := fun w1 hb => by
   rw [hb.block w.heap.size (by simp)]
   exact heap_alloc_new w _
 unfold ndC at hk1
 have HK1 := Lib.hid hk1
 clear hk1 h0
 cases s with
 | false =>
   have HR := Lib.hid (show false = R by rw [← HR.out]; rfl)
   unfold ndV at *
   go_enter Try.func13, Try.ntmps13
   go_wp2_with fail
   refine (H1.out _ (below_alloc w _)).mono ?_
   rintro e w2 ⟨rfl, hb2⟩
   go_wp2_with fail
   go_ret
   exact ⟨by rw [← HR.out]; rfl, below_box hb2⟩
 | true =>
   by_cases hd : d ≤ 300
   · have HR := Lib.hid (show q = R by rw [← HR.out]; simp [hd])
     have hdi : (d : Int) ≤ 300 := by omega
     have edd : decide ((d : Int) ≤ 300) = true := by simpa using hdi
     go_enter Try.func13, Try.ntmps13
     unfold ndV
     go_wp2_with fail
     refine (H1.out _ (below_alloc w _)).mono ?_
     rintro e w2 ⟨rfl, hb2⟩
     have hx2 := Lib.hid (HX.out w2 (HK1.out w2 hb2))
     have hx2b := HK1.out w2 hb2
     have f0 : w2.cell? ⟨w.heap.size, 0, none⟩ = some (.int .i64 x.kind) := by have := hx2.out 0 _ rfl; rwa [Nat.zero_add] at this
     have f1 : w2.cell? ⟨w.heap.size, 1, none⟩ = some (.int .i64 x.at_) := by have := hx2.out 1 _ rfl; rwa [Nat.zero_add] at this
     have f2 : w2.cell? ⟨w.heap.size, 2, none⟩ = some (.int .i64 x.c) := by have := hx2.out 2 _ rfl; rwa [Nat.zero_add] at this
     have f3 : w2.cell? ⟨w.heap.size, 3, none⟩ = some (x.sv) := by have := hx2.out 3 _ rfl; rwa [Nat.zero_add] at this
     have f4 : w2.cell? ⟨w.heap.size, 4, none⟩ = some (.bool x.neg) := by have := hx2.out 4 _ rfl; rwa [Nat.zero_add] at this
     have f5 : w2.cell? ⟨w.heap.size, 5, none⟩ = some (.int .i64 x.n) := by have := hx2.out 5 _ rfl; rwa [Nat.zero_add] at this
     have f6 : w2.cell? ⟨w.heap.size, 6, none⟩ = some (.int .i64 x.m) := by have := hx2.out 6 _ rfl; rwa [Nat.zero_add] at this
     have f7 : w2.cell? ⟨w.heap.size, 7, none⟩ = some (.int .i64 x.mode) := by have := hx2.out 7 _ rfl; rwa [Nat.zero_add] at this
     have f8 : w2.cell? ⟨w.heap.size, 8, none⟩ = some (.string x.name) := by have := hx2.out 8 _ rfl; rwa [Nat.zero_add] at this
     have f9 : w2.cell? ⟨w.heap.size, 9, none⟩ = some (.int .i64 x.on) := by have := hx2.out 9 _ rfl; rwa [Nat.zero_add] at this
     have f10 : w2.cell? ⟨w.heap.size, 10, none⟩ = some (.int .i64 x.off) := by have := hx2.out 10 _ rfl; rwa [Nat.zero_add] at this
     have f11 : w2.cell? ⟨w.heap.size, 11, none⟩ = some (x.kv) := by have := hx2.out 11 _ rfl; rwa [Nat.zero_add] at this
     go_wp2_with fail
     refine (H2.out w2 (below_box hb2)).mono ?_
     rintro e w3 ⟨rfl, hb3⟩
     have hx3 := Lib.hid (HX.out w3 (by rw [hb3.block w.heap.size (by have := hb2.size; simp at this; omega)]; exact hx2b))
     clear hx2b
     clear f0 f1 f2 f3 f4 f5 f6 f7 f8 f9 f10 f11
     have f0 : w3.cell? ⟨w.heap.size, 0, none⟩ = some (.int .i64 x.kind) := by have := hx3.out 0 _ rfl; rwa [Nat.zero_add] at this
     have f1 : w3.cell? ⟨w.heap.size, 1, none⟩ = some (.int .i64 x.at_) := by have := hx3.out 1 _ rfl; rwa [Nat.zero_add] at this
     have f2 : w3.cell? ⟨w.heap.size, 2, none⟩ = some (.int .i64 x.c) := by have := hx3.out 2 _ rfl; rwa [Nat.zero_add] at this
     have f3 : w3.cell? ⟨w.heap.size, 3, none⟩ = some (x.sv) := by have := hx3.out 3 _ rfl; rwa [Nat.zero_add] at this
     have f4 : w3.cell? ⟨w.heap.size, 4, none⟩ = some (.bool x.neg) := by have := hx3.out 4 _ rfl; rwa [Nat.zero_add] at this
     have f5 : w3.cell? ⟨w.heap.size, 5, none⟩ = some (.int .i64 x.n) := by have := hx3.out 5 _ rfl; rwa [Nat.zero_add] at this
     have f6 : w3.cell? ⟨w.heap.size, 6, none⟩ = some (.int .i64 x.m) := by have := hx3.out 6 _ rfl; rwa [Nat.zero_add] at this
     have f7 : w3.cell? ⟨w.heap.size, 7, none⟩ = some (.int .i64 x.mode) := by have := hx3.out 7 _ rfl; rwa [Nat.zero_add] at this
     have f8 : w3.cell? ⟨w.heap.size, 8, none⟩ = some (.string x.name) := by have := hx3.out 8 _ rfl; rwa [Nat.zero_add] at this
     have f9 : w3.cell? ⟨w.heap.size, 9, none⟩ = some (.int .i64 x.on) := by have := hx3.out 9 _ rfl; rwa [Nat.zero_add] at this
     have f10 : w3.cell? ⟨w.heap.size, 10, none⟩ = some (.int .i64 x.off) := by have := hx3.out 10 _ rfl; rwa [Nat.zero_add] at this
     have f11 : w3.cell? ⟨w.heap.size, 11, none⟩ = some (x.kv) := by have := hx3.out 11 _ rfl; rwa [Nat.zero_add] at this
     go_wp2_with fail
     refine (H3.out w3 (below_trans (below_box hb2) hb3)).mono ?_
     rintro e w4 ⟨rfl, hb4⟩
     go_wp2_with fail
     go_ret
     exact ⟨by rw [← HR.out]; rfl, below_trans (below_trans (below_box hb2) hb3) hb4⟩
   · have HR := Lib.hid (show false = R by rw [← HR.out]; simp [hd])
     have hdi : (300 : Int) < (d : Int) := by omega
     go_enter Try.func13, Try.ntmps13
     unfold ndV
     go_wp2_with fail
     refine (H1.out _ (below_alloc w _)).mono ?_
     rintro e w2 ⟨rfl, hb2⟩
     have hx2 := Lib.hid (HX.out w2 (HK1.out w2 hb2))
     have f0 : w2.cell? ⟨w.heap.size, 0, none⟩ = some (.int .i64 x.kind) := by have := hx2.out 0 _ rfl; rwa [Nat.zero_add] at this
     have f1 : w2.cell? ⟨w.heap.size, 1, none⟩ = some (.int .i64 x.at_) := by have := hx2.out 1 _ rfl; rwa [Nat.zero_add] at this
     have f2 : w2.cell? ⟨w.heap.size, 2, none⟩ = some (.int .i64 x.c) := by have := hx2.out 2 _ rfl; rwa [Nat.zero_add] at this
     have f3 : w2.cell? ⟨w.heap.size, 3, none⟩ = some (x.sv) := by have := hx2.out 3 _ rfl; rwa [Nat.zero_add] at this
     have f4 : w2.cell? ⟨w.heap.size, 4, none⟩ = some (.bool x.neg) := by have := hx2.out 4 _ rfl; rwa [Nat.zero_add] at this
     have f5 : w2.cell? ⟨w.heap.size, 5, none⟩ = some (.int .i64 x.n) := by have := hx2.out 5 _ rfl; rwa [Nat.zero_add] at this
     have f6 : w2.cell? ⟨w.heap.size, 6, none⟩ = some (.int .i64 x.m) := by have := hx2.out 6 _ rfl; rwa [Nat.zero_add] at this
     have f7 : w2.cell? ⟨w.heap.size, 7, none⟩ = some (.int .i64 x.mode) := by have := hx2.out 7 _ rfl; rwa [Nat.zero_add] at this
     have f8 : w2.cell? ⟨w.heap.size, 8, none⟩ = some (.string x.name) := by have := hx2.out 8 _ rfl; rwa [Nat.zero_add] at this
     have f9 : w2.cell? ⟨w.heap.size, 9, none⟩ = some (.int .i64 x.on) := by have := hx2.out 9 _ rfl; rwa [Nat.zero_add] at this
     have f10 : w2.cell? ⟨w.heap.size, 10, none⟩ = some (.int .i64 x.off) := by have := hx2.out 10 _ rfl; rwa [Nat.zero_add] at this
     have f11 : w2.cell? ⟨w.heap.size, 11, none⟩ = some (x.kv) := by have := hx2.out 11 _ rfl; rwa [Nat.zero_add] at this
     go_wp2_with fail
     refine (H2.out w2 (below_box hb2)).mono ?_
     rintro e w3 ⟨rfl, hb3⟩
     go_wp2_with fail
     go_ret
     exact ⟨by rw [← HR.out]; rfl, below_trans (below_box hb2) hb3⟩
end Go.Proofs.Ytlbdfcglpegabaa.trw
end
section
namespace Go.Proofs.Ytlbdfcglpegabaa.trw
open Go Go.RowKit trp
theorem cells0 {w : World} {B : Nat} {x : Lab} {t : TypeId} (h : w.heap[B]? = some (.cells (ndC x).toArray t)) : ∀ (j : Nat) v, (ndC x)[j]? = some v → w.cell? ⟨B, 0 + j, none⟩ = some v := fun j v hj => by
 rw [Nat.zero_add]
 exact cells12 h j v hj
set_option maxRecDepth 100000 in
set_option maxHeartbeats 4000000 in
theorem checks_law (x : Lab) (k : F) (w : World) (hn : NdAt w (x, k)) : Calls Try.prog 3 #[ndV x] w (BoolB true w) := by
 by_cases h4 : k.size + 1 ≤ 4000
 · go_enter Try.func3, Try.ntmps3
   go_upto_region 1 with (refine wpList_box_nd rfl _ rfl x rfl ?_)
   generalize hg : w.alloc _ = W
   have HB : Hid (Below w.heap.size w W) := Lib.hid (by rw [← hg]; exact below_alloc _ _)
   have hr : W.heap[w.heap.size]? = some (.cells (ndC x).toArray 25) := by rw [← hg]; exact heap_alloc_new _ _
   have hlt := (Array.getElem?_eq_some_iff.1 hr).1
   have R0 := Lib.hid (fun w1 (hb : Below W.heap.size W w1) => cells0 ((hb.block _ hlt).trans hr))
   have HN := Lib.hid (fun w1 (hb : Below W.heap.size W w1) => below_nd hb (below_nd HB.out hn))
   clear hg hr hlt hn
   obtain ⟨B0, hB0⟩ : ∃ B0, w.heap.size = B0 := ⟨_, rfl⟩
   rw [hB0] at R0 ⊢
   go_wp2_with fail
   refine (awake_any W).mono ?_
   rintro e w1 ⟨rfl, hb⟩
   have H1 := Lib.hid hb
   clear hb
   have HS : Hid (∀ w1, Below W.heap.size W w1 → Calls Try.prog 11 #[ndV x] w1 (BoolB true w1)) := Lib.hid (fun w1 hb => by have := small_any x k w1 (HN.out w1 hb); rw [decide_eq_true h4] at this; exact this)
   obtain ⟨r, hr⟩ : ∃ r, checkP (x, k) = r := ⟨_, rfl⟩
   have HC : Hid (∀ w1, Below W.heap.size W w1 → Calls Try.prog 12 #[ndV x] w1 (BoolB r w1)) := Lib.hid (fun w1 hb => by have := pcheck_any x k w1 (HN.out w1 hb); rw [hr] at this; exact this)
   have HD : Hid (∀ w1, Below W.heap.size W w1 → Calls Try.prog 13 #[ndV x] w1 (BoolB r w1)) := Lib.hid (fun w1 hb => by have := rcheck_any x k w1 (HN.out w1 hb); rw [hr] at this; exact this)
   clear hr HN h4
   go_wp2_with (first | (refine wpList_load_nd rfl _ rfl B0 0 rfl x (R0.out w1 H1.out) ?_))
   refine (HS.out w1 H1.out).mono ?_
   rintro e w2 ⟨rfl, hb⟩
   have H2 := Lib.hid (H1.out.trans (hb.mono H1.out.size))
   clear hb
   go_wp2_with fail
   refine wp_region_held_drew (S := fun w' => Below W.heap.size W w') (by kernel_rfl) H2.out.drew (fun hHeld => ?_)
   first
     | (refine wpAnyH_take (i := 0) (v := ?_) rfl (by kernel_rfl) (by kernel_rfl) (by kernel_rfl) (fun _ _ _ h => h) (Or.inl ⟨by rfl, ?_⟩) (by assumption) ?_; rotate_left; · (intro w' hSw; refine exec_load_nd (x := .tmp 1) (b := B0) (off := 0) (l := x) ?_ ?_ (R0.out w' hSw) <;> rfl))
     | (refine wpAnyH_take (i := 0) rfl (by kernel_rfl) (by kernel_rfl) (by kernel_rfl) (fun _ _ _ h => h) (Or.inr ⟨by rfl, rfl⟩) (by assumption) ?_)
   simp only [Act.put, List.setIfInBounds_toArray, List.set_cons_zero, List.set_cons_succ, List.getElem_toArray, List.getElem_cons_zero]
   first
     | (refine wpAnyH_take (i := 2) (v := ?_) rfl (by kernel_rfl) (by kernel_rfl) (by kernel_rfl) (fun _ _ _ h => h) (Or.inl ⟨by rfl, ?_⟩) (by assumption) ?_; rotate_left; · (intro w' hSw; refine exec_load_nd (x := .tmp 1) (b := B0) (off := 0) (l := x) ?_ ?_ (R0.out w' hSw) <;> rfl))
     | (refine wpAnyH_take (i := 2) rfl (by kernel_rfl) (by kernel_rfl) (by kernel_rfl) (fun _ _ _ h => h) (Or.inr ⟨by rfl, rfl⟩) (by assumption) ?_)
   simp only [Act.put, List.setIfInBounds_toArray, List.set_cons_zero, List.set_cons_succ, List.getElem_toArray, List.getElem_cons_succ, List.getElem_cons_zero]
   refine wpAnyH_ready (rs := [1]) (by kernel_rfl) (by simp) ?_
   refine AllReadyH.cons rfl (fun K hK => ?_) AllReadyH.nil
   go_simp
   refine (HC.out _ hHeld).mono ?_
   rintro e w3 ⟨rfl, hb⟩
   have hHeld : Below W.heap.size W w3 := hHeld.trans (hb.mono hHeld.size)
   refine hK.out _ _ hHeld (fun hHeld => ?_)
   clear hK K hb
   try simp only [Act.put, List.setIfInBounds_toArray, List.set_cons_zero, List.set_cons_succ, List.getElem_toArray, List.getElem_cons_succ, List.getElem_cons_zero]
   refine wpAnyH_ready (rs := [3]) (by kernel_rfl) (by simp) ?_
   refine AllReadyH.cons rfl (fun K hK => ?_) AllReadyH.nil
   go_simp
   refine (HD.out _ hHeld).mono ?_
   rintro e w4 ⟨rfl, hb⟩
   have hHeld : Below W.heap.size W w4 := hHeld.trans (hb.mono hHeld.size)
   refine hK.out _ _ hHeld (fun hHeld => ?_)
   clear hK K hb
   try simp only [Act.put, List.setIfInBounds_toArray, List.set_cons_zero, List.set_cons_succ, List.getElem_toArray, List.getElem_cons_succ, List.getElem_cons_zero]
   first
     | (refine wpAnyH_take (i := 4) (v := ?_) rfl (by kernel_rfl) (by kernel_rfl) (by kernel_rfl) (fun _ _ _ h => h) (Or.inl ⟨by rfl, ?_⟩) (by assumption) ?_; rotate_left; · (intro w' hSw; go_simp; try rfl))
     | (refine wpAnyH_take (i := 4) rfl (by kernel_rfl) (by kernel_rfl) (by kernel_rfl) (fun _ _ _ h => h) (Or.inr ⟨by rfl, rfl⟩) (by assumption) ?_)
   simp only [Act.put, List.setIfInBounds_toArray, List.set_cons_zero, List.set_cons_succ, List.getElem_toArray, List.getElem_cons_succ, List.getElem_cons_zero]
   first
     | (refine wpAnyH_take (i := 5) (v := ?_) rfl (by kernel_rfl) (by kernel_rfl) (by kernel_rfl) (fun _ _ _ h => h) (Or.inl ⟨by rfl, ?_⟩) (by assumption) ?_; rotate_left; · (intro w' hSw; go_simp; try rfl))
     | (refine wpAnyH_take (i := 5) rfl (by kernel_rfl) (by kernel_rfl) (by kernel_rfl) (fun _ _ _ h => h) (Or.inr ⟨by rfl, rfl⟩) (by assumption) ?_)
   simp only [Act.put, List.setIfInBounds_toArray, List.set_cons_zero, List.set_cons_succ, List.getElem_toArray, List.getElem_cons_succ, List.getElem_cons_zero]
   refine wpAnyH_done (by kernel_rfl) ?_ _
   go_wp2_with fail
   go_ret
   exact ⟨by cases r <;> rfl, HB.out.trans (hHeld.mono HB.out.size)⟩
 · go_enter Try.func3, Try.ntmps3
   go_upto_region 1 with (refine wpList_box_nd rfl _ rfl x rfl ?_)
   generalize hg : w.alloc _ = W
   have HB : Hid (Below w.heap.size w W) := Lib.hid (by rw [← hg]; exact below_alloc _ _)
   have hr : W.heap[w.heap.size]? = some (.cells (ndC x).toArray 25) := by rw [← hg]; exact heap_alloc_new _ _
   have hlt := (Array.getElem?_eq_some_iff.1 hr).1
   have R0 := Lib.hid (fun w1 (hb : Below W.heap.size W w1) => cells0 ((hb.block _ hlt).trans hr))
   have HN := Lib.hid (fun w1 (hb : Below W.heap.size W w1) => below_nd hb (below_nd HB.out hn))
   clear hg hr hlt hn
   obtain ⟨B0, hB0⟩ : ∃ B0, w.heap.size = B0 := ⟨_, rfl⟩
   rw [hB0] at R0 ⊢
   go_wp2_with fail
   refine (awake_any W).mono ?_
   rintro e w1 ⟨rfl, hb⟩
   have H1 := Lib.hid hb
   clear hb
   have HS : Hid (∀ w1, Below W.heap.size W w1 → Calls Try.prog 11 #[ndV x] w1 (BoolB false w1)) := Lib.hid (fun w1 hb => by have := small_any x k w1 (HN.out w1 hb); rw [decide_eq_false h4] at this; exact this)
   have HC : Hid (∀ w1, Below W.heap.size W w1 → Calls Try.prog 12 #[ndV x] w1 (BoolB false w1)) := Lib.hid (fun w1 hb => by have := pcheck_any x k w1 (HN.out w1 hb); rw [show checkP (x, k) = false by unfold checkP; simp only [h4, decide_false, Bool.false_and]] at this; exact this)
   clear HN h4
   go_wp2_with (first | (refine wpList_load_nd rfl _ rfl B0 0 rfl x (R0.out w1 H1.out) ?_))
   refine (HS.out w1 H1.out).mono ?_
   rintro e w2 ⟨rfl, hb⟩
   have H2 := Lib.hid (H1.out.trans (hb.mono H1.out.size))
   clear hb
   go_wp2_with (first | (refine wpList_load_nd rfl _ rfl B0 0 rfl x (R0.out w2 H2.out) ?_))
   refine (HC.out w2 H2.out).mono ?_
   rintro e w3 ⟨rfl, hb⟩
   have H3 := Lib.hid (H2.out.trans (hb.mono H2.out.size))
   clear hb
   go_wp2_with fail
   go_ret
   exact ⟨rfl, HB.out.trans (H3.out.mono HB.out.size)⟩
end Go.Proofs.Ytlbdfcglpegabaa.trw
end
section
namespace Go.Proofs.Ytlbdfcglpegabaa.trw
open Go Go.RowKit Go.ChangeShapes Go.WideShapes trp
theorem wf_int {n : Int} (h : (Lit.int .i64 n).wf = true) : I64 n := by
 have h2 : IntKind.i64.min ≤ n ∧ n ≤ IntKind.i64.max := by simpa [Lit.wf] using h
 rw [show IntKind.i64.min = -9223372036854775808 by decide, show IntKind.i64.max = 9223372036854775807 by decide] at h2
 exact h2
theorem cellsNode : Try.prog.cellsOf 25 = 12 := by kernel_rfl
theorem cellsRange : Try.prog.cellsOf 43 = 2 := by kernel_rfl
theorem cellsInt : Try.prog.cellsOf 3 = 1 := by kernel_rfl
theorem cellsBool : Try.prog.cellsOf 4 = 1 := by kernel_rfl
theorem cellsStr : Try.prog.cellsOf 9 = 1 := by kernel_rfl
theorem cellsRs : Try.prog.cellsOf 22 = 1 := by kernel_rfl
theorem cellsNs : Try.prog.cellsOf 23 = 1 := by kernel_rfl
theorem bytesNode : 1 ≤ Try.prog.bytesOf 25 := of_decide_eq_true (by kernel_rfl)
theorem bytesRange : 1 ≤ Try.prog.bytesOf 43 := of_decide_eq_true (by kernel_rfl)
theorem own : ownKnob Try.prog.godebug = none := by kernel_rfl
theorem laidOut : laidOutB Try.prog = true := by kernel_rfl
theorem recNode : Try.prog.readableRec 25 = true := by kernel_rfl
theorem rowNode : (25 : TypeId) < Try.prog.types.size := of_decide_eq_true (by kernel_rfl)
instance : Inhabited Lab := ⟨⟨0, 0, 0, .bool false, [], false, 0, 0, 0, ⟨#[]⟩, 0, 0, .bool false⟩⟩
instance : Inhabited F := ⟨.nil⟩
def mkF : List Nd → F
 | [] => .nil
 | t :: l => .cons t.1 t.2 (mkF l)
theorem mkF_len : ∀ l : List Nd, (mkF l).len = l.length
 | [] => rfl
 | t :: l => by simp [mkF, F.len, mkF_len l]
theorem fAt_mk {W : World} {b : Nat} : ∀ (l : List Nd) (o : Nat), (∀ i t, l[i]? = some t → (∀ j v, (ndC t.1)[j]? = some v → W.cell? ⟨b, o + i * 12 + j, none⟩ = some v) ∧ NdAt W t) → FAt W b o (mkF l)
 | [], _, _ => trivial
 | t :: l, o, h => by
   have h0 := h 0 t rfl
   refine ⟨fun j v hj => ?_, ⟨h0.2.1, h0.2.2.1⟩, h0.2.2.2, fAt_mk l (o + 12) fun i s hi => ?_⟩
   · have := h0.1 j v hj
     rwa [Nat.zero_mul, Nat.add_zero] at this
   · have := h (i + 1) s hi
     rw [show o + 12 + i * 12 = o + (i + 1) * 12 by omega]
     exact this
theorem plain_cell {w : World} {a : Addr} {v : Value} (h : w.cell? (a.add 0) = some v) : a.spot = none := by
 obtain ⟨b, off, spot⟩ := a
 cases spot with
 | none => rfl
 | some s =>
   exfalso
   have : ((⟨b, off, some s⟩ : Addr).add 0).spot.isSome = true := by unfold Addr.add; split <;> simp_all
   unfold World.cell? at h
   split at h
   · simp [this] at h
   · simp at h
theorem wAll_mem {H : Type} {P : Program} {e : TypeId} : ∀ {l : List (DataW H)} {d : DataW H}, d ∈ l → ∀ n ∈ d.weights P e, n ∈ DataW.weightsAll P e l
 | x :: l, d, hd, n, hn => by
   simp only [DataW.weightsAll, List.mem_append]
   rcases List.mem_cons.1 hd with rfl | hd
   · exact Or.inl hn
   · exact Or.inr (wAll_mem hd n hn)
theorem cap_le {len rest cap B : Nat} (h : (len + rest) * B ≤ reachBytes) (hr : rest = cap - len) (hl : len ≤ cap) (hB : 1 ≤ B) : cap ≤ 140737488355328 := by
 have h1 : len + rest ≤ (len + rest) * B := Nat.le_mul_of_pos_right _ hB
 have h2 := reachBytes_lt
 omega
section
variable {H : Type} {enc : TypeId × Value → H} {W : World}
theorem open_rg {fuel : Nat} {cs : List Value} {x : DataW H × List MemPlace} (h : DataW.trod enc Try.prog W 0 (fun _ => true) true fuel 22 cs = some x)
   (hw : (x.1.weights Try.prog 22).all (· ≤ reachBytes) = true) : ∃ v l, cs = [v] ∧ RgAt W v l := by
 rcases Go.Deep.open_slice_pairs Try.underlying22 Try.underlying43 cellsRange rfl rfl cellsInt cellsInt h with ⟨rfl, _⟩ | ⟨a, len, cap, m, n, V0, V1, D0, D1, P0, P1, rfl, _, hl, hm, hmm, rfl, hcell⟩
 · exact ⟨_, [], rfl, none, 0, rfl, Nat.le_refl _, by omega, Or.inl rfl⟩
 · simp only [if_true] at hmm
   subst hmm
   simp only [DataW.weights, Try.underlying22, List.all_cons, Bool.and_eq_true, decide_eq_true_eq, List.length_map, List.length_range] at hw
   have hc := cap_le hw.1 rfl hl bytesRange
   by_cases h0 : len = 0
   · subst h0
     exact ⟨_, [], rfl, some a, m, rfl, Nat.zero_le _, hc, Or.inl rfl⟩
   · have hp := plain_cell (by simpa using (hcell 0 (by omega)).1)
     obtain ⟨b, off, spot⟩ := a
     simp only at hp
     subst hp
     have each : ∀ i, i < len → ∃ r : Int × Int, W.cell? ⟨b, off + i * 2, none⟩ = some (.int .i64 r.1) ∧ W.cell? ⟨b, off + i * 2 + 1, none⟩ = some (.int .i64 r.2) ∧ I64 r.1 ∧ I64 r.2 := by
       intro i hi
       obtain ⟨c1, c2, t1, t2⟩ := hcell i (by omega)
       obtain ⟨p, hx1, _, hw1⟩ := DataW.trod_int Try.underlying3 t1
       obtain ⟨q, hy1, _, hw2⟩ := DataW.trod_int Try.underlying3 t2
       rw [add_plain] at c1 c2
       have v1 : V0 i = .int .i64 p := by simpa using hx1
       have v2 : V1 i = .int .i64 q := by simpa using hy1
       exact ⟨(p, q), by rw [c1, v1], by rw [Nat.add_assoc, c2, v2], wf_int hw1, wf_int hw2⟩
     obtain ⟨q, hq⟩ := Go.Deep.choose_lt each
     refine ⟨_, (List.range len).map q, rfl, some ⟨b, off, none⟩, m, by simp, by simpa using hl, hc, Or.inr ⟨b, off, rfl, fun i r hi => ?_⟩⟩
     obtain ⟨hi1, hi2⟩ := List.getElem?_eq_some_iff.1 hi
     simp only [List.length_map, List.length_range] at hi1
     simp only [List.getElem_map, List.getElem_range] at hi2
     subst hi2
     exact hq i hi1
set_option maxRecDepth 100000 in
theorem open_nd : ∀ (fuel : Nat) (cs : List Value) (x : DataW H × List MemPlace), DataW.trod enc Try.prog W 0 (fun _ => true) true fuel 25 cs = some x →
   (x.1.weights Try.prog 25).all (· ≤ reachBytes) = true → ∃ t : Nd, cs = ndC t.1 ∧ NdAt W t := by
 intro fuel
 induction fuel using Nat.strongRecOn with
 | ind fuel ih =>
   intro cs x h hw
   obtain ⟨xs, n, hfu, rfl, hl, hxl, hf⟩ := DataW.trod_struct Try.underlying25 h
   rw [cellsNode] at hl
   match xs, hxl, cs, hl, hf, hw with
   | [y0, y1, y2, y3, y4, y5, y6, y7, y8, y9, y10, y11], _, [c0, c1, c2, c3, c4, c5, c6, c7, c8, c9, c10, c11], _, hf, hw =>
     have g0 : DataW.trod enc Try.prog W 0 (fun _ => true) true n 3 [c0] = some y0 := by simpa [cellsInt] using hf 0 _ rfl
     have g1 : DataW.trod enc Try.prog W 0 (fun _ => true) true n 3 [c1] = some y1 := by simpa [cellsInt] using hf 1 _ rfl
     have g2 : DataW.trod enc Try.prog W 0 (fun _ => true) true n 3 [c2] = some y2 := by simpa [cellsInt] using hf 2 _ rfl
     have g3 : DataW.trod enc Try.prog W 0 (fun _ => true) true n 22 [c3] = some y3 := by simpa [cellsRs] using hf 3 _ rfl
     have g4 : DataW.trod enc Try.prog W 0 (fun _ => true) true n 4 [c4] = some y4 := by simpa [cellsBool] using hf 4 _ rfl
     have g5 : DataW.trod enc Try.prog W 0 (fun _ => true) true n 3 [c5] = some y5 := by simpa [cellsInt] using hf 5 _ rfl
     have g6 : DataW.trod enc Try.prog W 0 (fun _ => true) true n 3 [c6] = some y6 := by simpa [cellsInt] using hf 6 _ rfl
     have g7 : DataW.trod enc Try.prog W 0 (fun _ => true) true n 3 [c7] = some y7 := by simpa [cellsInt] using hf 7 _ rfl
     have g8 : DataW.trod enc Try.prog W 0 (fun _ => true) true n 9 [c8] = some y8 := by simpa [cellsStr] using hf 8 _ rfl
     have g9 : DataW.trod enc Try.prog W 0 (fun _ => true) true n 3 [c9] = some y9 := by simpa [cellsInt] using hf 9 _ rfl
     have g10 : DataW.trod enc Try.prog W 0 (fun _ => true) true n 3 [c10] = some y10 := by simpa [cellsInt] using hf 10 _ rfl
     have g11 : DataW.trod enc Try.prog W 0 (fun _ => true) true n 23 [c11] = some y11 := by simpa [cellsNs] using hf 11 _ rfl
     clear hf
     obtain ⟨k0, e0, _, w0⟩ := DataW.trod_int Try.underlying3 g0
     obtain rfl : c0 = .int .i64 k0 := by simpa using e0
     obtain ⟨k1, e1, _, w1⟩ := DataW.trod_int Try.underlying3 g1
     obtain rfl : c1 = .int .i64 k1 := by simpa using e1
     obtain ⟨k2, e2, _, w2⟩ := DataW.trod_int Try.underlying3 g2
     obtain rfl : c2 = .int .i64 k2 := by simpa using e2
     obtain ⟨k5, e5, _, w5⟩ := DataW.trod_int Try.underlying3 g5
     obtain rfl : c5 = .int .i64 k5 := by simpa using e5
     obtain ⟨k6, e6, _, w6⟩ := DataW.trod_int Try.underlying3 g6
     obtain rfl : c6 = .int .i64 k6 := by simpa using e6
     obtain ⟨k7, e7, _, w7⟩ := DataW.trod_int Try.underlying3 g7
     obtain rfl : c7 = .int .i64 k7 := by simpa using e7
     obtain ⟨k9, e9, _, w9⟩ := DataW.trod_int Try.underlying3 g9
     obtain rfl : c9 = .int .i64 k9 := by simpa using e9
     obtain ⟨k10, e10, _, w10⟩ := DataW.trod_int Try.underlying3 g10
     obtain rfl : c10 = .int .i64 k10 := by simpa using e10
     obtain ⟨k4, e4, _⟩ := DataW.trod_bool Try.underlying4 g4
     obtain rfl : c4 = .bool k4 := by simpa using e4
     obtain ⟨k8, e8, _, _⟩ := DataW.trod_string Try.underlying9 g8
     obtain rfl : c8 = .string k8 := by simpa using e8
     simp only [DataW.weights, Try.underlying25] at hw
     have hm := fun (j : Nat) t d ht hd => List.all_eq_true.2 fun n hn => List.all_eq_true.1 hw n (DataW.weights_mem_each (j := j) (t := t) (d := d) ht hd n hn)
     obtain ⟨v3, l3, e3, r3⟩ := open_rg g3 (hm 3 _ _ rfl rfl)
     obtain rfl : c3 = v3 := by simpa using e3
     have kid : ∃ k, KidsAt W c11 k := by
       have hw11 := hm 11 23 y11.1 rfl rfl
       rcases DataW.trod_slice Try.underlying23 g11 with ⟨hc, _⟩ | ⟨a, len, cap, elems, rest, n', hn', hc, rfl, _, hlc, _, hel, helem, hsp, _⟩
       · obtain rfl : c11 = .slice none 0 0 := by simpa using hc
         exact ⟨.nil, none, 0, rfl, Nat.le_refl _, by omega, Or.inl rfl⟩
       · obtain rfl : c11 = .slice (some a) len cap := by simpa using hc
         simp only [DataW.weights, Try.underlying23, List.all_cons, List.all_append, Bool.and_eq_true, decide_eq_true_eq, List.length_map] at hw11
         rw [hel] at hw11
         have hcap := cap_le hw11.1 (hsp rfl).1 hlc bytesNode
         by_cases h0 : len = 0
         · subst h0
           exact ⟨.nil, some a, cap, rfl, Nat.zero_le _, hcap, Or.inl rfl⟩
         have each : ∀ i, i < len → ∃ t : Nd, (∀ j v, (ndC t.1)[j]? = some v → W.cell? (a.add (i * 12 + j)) = some v) ∧ NdAt W t := by
           intro i hi
           have h1 := helem i hi
           rw [cellsNode, List.getElem?_eq_getElem (by omega)] at h1
           obtain ⟨cs', h2, h3⟩ := Option.bind_eq_some_iff.1 h1
           obtain ⟨t, rfl, ht⟩ := ih n' (by omega) cs' _ h3 (List.all_eq_true.2 fun n hn => List.all_eq_true.1 hw11.2.1 n (wAll_mem (List.mem_map.2 ⟨_, List.getElem_mem (by omega), rfl⟩) n hn))
           obtain ⟨_, _, h4⟩ := World.cells?_some h2
           refine ⟨t, fun j v hj => ?_, ht⟩
           have hj2 : j < 12 := (List.getElem?_eq_some_iff.1 hj).1
           rw [← Go.Deep.add_add, h4 j hj2, hj]
         obtain ⟨q, hq⟩ := Go.Deep.choose_lt each
         have hp := plain_cell (by have := (hq 0 (by omega)).1 0 _ rfl; simpa using this)
         obtain ⟨b, off, spot⟩ := a
         simp only at hp
         subst hp
         refine ⟨mkF ((List.range len).map q), some ⟨b, off, none⟩, cap, by simp [mkF_len], by simpa [mkF_len] using hlc, hcap, Or.inr ⟨b, off, rfl, fAt_mk _ off fun i t hi => ?_⟩⟩
         obtain ⟨hi1, hi2⟩ := List.getElem?_eq_some_iff.1 hi
         simp only [List.length_map, List.length_range] at hi1
         simp only [List.getElem_map, List.getElem_range] at hi2
         subst hi2
         refine ⟨fun j v hj => ?_, (hq i hi1).2⟩
         have := (hq i hi1).1 j v hj
         rwa [add_plain, ← Nat.add_assoc] at this
     obtain ⟨k, hk⟩ := kid
     exact ⟨(⟨k0, k1, k2, c3, l3, k4, k5, k6, k7, k8, k9, k10, c11⟩, k), rfl, ⟨wf_int w0, wf_int w1, wf_int w2, wf_int w5, wf_int w6, wf_int w7, wf_int w9, wf_int w10⟩, r3, hk⟩
theorem open_arg {base : Nat} {v : Value} {d : DataW H} {ps : List MemPlace} (hval : Value.okWide Try.prog W .any base 25 v) (h : DataW.Trod enc Try.prog W 0 (fun _ => true) true 25 v d ps)
   (hw : (d.weights Try.prog 25).all (· ≤ reachBytes) = true) : ∃ t : Nd, v = ndV t.1 ∧ NdAt W t := by
 obtain ⟨cs, rfl, _⟩ := okWide_struct Try.underlying25 hval
 obtain ⟨fuel, hf⟩ := h
 obtain ⟨t, ht, hn⟩ := open_nd fuel _ _ hf hw
 refine ⟨t, ?_, hn⟩
 have : cs.toList = ndC t.1 := by simpa [Value.cells] using ht
 unfold ndV
 congr 1
 apply Array.ext'
 exact this
end
end Go.Proofs.Ytlbdfcglpegabaa.trw
end
