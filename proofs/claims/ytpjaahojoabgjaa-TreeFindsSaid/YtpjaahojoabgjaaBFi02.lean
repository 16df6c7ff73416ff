/- Texts that TreeFindsLaw leans on, merged: what the functions of the program answer. -/
import Derived.BigQuiet
import Derived.ChangeSame
import Derived.Deep.Cut
import Derived.Deep.RegionHeld3
import Derived.Deep.SlicePairs
import Derived.Laws.BytesArg
import Derived.Laws.CopyRow
import Derived.Laws.OwnMore
import Derived.Laws.Rows
import Derived.Lib.Hide
import Derived.Lib.QuietBelow
import Derived.Lib.SmallJoins
import Derived.Maps.AppendAt
import Derived.OwnWalk
import Derived.Shelf.Abstract
import Derived.SizedLaws
import Derived.Test.YtpjaahojoabgjaaRows
import Derived.WalkKit
import Derived.WalkMore
import Derived.Test.YtpjaahojoabgjaaBFi01
section
namespace Go.Proofs.Ytpjaahojoabgjaa.trw
open Go Go.RowKit trp
set_option maxRecDepth 100000 in
set_option maxHeartbeats 2000000 in
theorem all_any : ∀ (n : Nat) (x : Lab) (k : F) (w : World), k.size < n → NdAt w (x, k) → Calls Try.prog 33 #[ndV x] w (BoolB (mayP (x, k) && allP k) w) := by
 intro n
 induction n with
 | zero => intro x k w hn; omega
 | succ n ih =>
   intro x k w hn hd
   have HMy := Lib.hid (fun w1 (hb : Below w.heap.size w w1) => may_any x k w1 (below_nd hb hd))
   obtain ⟨R, hR⟩ : ∃ R, (mayP (x, k) && allP k) = R := ⟨_, rfl⟩
   rw [hR]
   obtain ⟨my, hmy⟩ : ∃ my, mayP (x, k) = my := ⟨_, rfl⟩
   rw [hmy] at HMy hR
   clear hmy
   obtain ⟨hlab, hrg, hk⟩ := hd
   obtain ⟨a, cap, hkv⟩ := kids_len hk
   obtain ⟨xk, xa, xc, xs, xset, xneg, xn, xm, xmode, xname, xon, xoff, xkv⟩ := x
   simp only at hk hkv hrg hlab
   subst hkv
   have HK := Lib.hid hk
   have HR := Lib.hid hR
   clear hk hlab hrg hR
   unfold ndV at HMy ⊢
   have HM1 := Lib.hid (HMy.out _ (below_alloc w (.cells #[.int .i64 xk, .int .i64 xa, .int .i64 xc, xs, .bool xneg, .int .i64 xn, .int .i64 xm, .int .i64 xmode, .string xname, .int .i64 xon, .int .i64 xoff, .slice a k.len cap] 25)))
   clear HMy
   go_enter Try.func33, Try.ntmps33
   go_wp2_with fail
   refine HM1.out.mono ?_
   rintro e w1 ⟨rfl, hb1⟩
   have hc11 := below_cell hb1 (a := ⟨w.heap.size, 11, none⟩) (v := .slice a k.len cap) (by simp)
   have HB := Lib.hid (below_trans (below_alloc w _) hb1)
   obtain ⟨B, hB⟩ : ∃ B, w.heap.size = B := ⟨_, rfl⟩
   rw [hB] at hc11 ⊢
   have HC := Lib.hid hc11
   clear hb1 hc11
   cases my with
   | false =>
     go_wp2_with fail
     go_ret
     exact ⟨by rw [← HR.out]; rfl, HB.out⟩
   | true =>
     have HR := Lib.hid (show allP k = R by rw [← HR.out]; rfl)
     go_wp2_with fail
     go_loopw [4, 5] (fun iv _ wr => ∃ i : Nat, iv = .int .i64 i ∧ i ≤ k.len ∧ Hid (allP (k.drop i) = R) ∧ Below w1.heap.size w1 wr) (fun iv _ _ => k.len - (intOf iv).toNat)
     case atStart => exact ⟨0, rfl, Nat.zero_le _, Lib.hid (by rw [drop_zero]; exact HR.out), Below.refl _ _⟩
     case round =>
       obtain ⟨i, rfl, hi, HA, hb⟩ := hrel
       have hcell : wr.cell? ⟨B, 11, none⟩ = some (.slice a k.len cap) := below_cell hb HC.out
       by_cases hend : i = k.len
       · have HRes := Lib.hid (show true = R by have := HA.out; rw [drop_end (by omega)] at this; exact this)
         subst hend
         go_wp2_with fail
         go_ret
         exact ⟨by rw [← HRes.out]; rfl, below_trans HB.out hb⟩
       · have hlt0 : i < k.len := by omega
         obtain ⟨y, k', r, hdr⟩ := drop_lt (f := k) (i := i) (by omega)
         obtain ⟨b, o, cap', hv2, hcap, hcap2, hlt, hf⟩ := kid_at (below_kids (below_trans HB.out hb) HK.out) hdr
         obtain ⟨rfl, rfl⟩ : a = some ⟨b, o, none⟩ ∧ cap = cap' := by
           have := hv2
           simp only [Value.slice.injEq] at this
           exact ⟨this.1, this.2.2⟩
         have hnd := fAt_head hf
         have hcs := Lib.hid hf.1
         have hsz := size_lt hdr
         have hadd := add_row b o i 12
         have HI := Lib.hid (ih y k' wr (by omega) hnd)
         have HN := Lib.hid (show (mayP (y, k') && allP k' && allP (k.drop (i + 1))) = R by
           rw [drop_succ hdr, ← HA.out, hdr]
           rfl)
         obtain ⟨q, hq⟩ : ∃ q, (mayP (y, k') && allP k') = q := ⟨_, rfl⟩
         rw [hq] at HI HN
         clear hf hnd hdr hq hv2
         cases q with
         | false =>
           go_wp2_with (refine wpList_load_nd rfl _ rfl b (o + i * 12) rfl y hcs.out ?_)
           refine HI.out.mono ?_
           rintro e w2 ⟨rfl, hb2⟩
           go_wp2_with fail
           go_ret
           exact ⟨by rw [← HN.out]; rfl, below_trans (below_trans HB.out hb) hb2⟩
         | true =>
           go_wp2_with (refine wpList_load_nd rfl _ rfl b (o + i * 12) rfl y hcs.out ?_)
           refine HI.out.mono ?_
           rintro e w2 ⟨rfl, hb2⟩
           go_wp2_with fail
           go_roundw
           case rel => exact ⟨i + 1, by go_num, hlt, Lib.hid (by rw [← HN.out]; rfl), below_trans hb hb2⟩
           case measure => simp [intOf]; omega
theorem caps_size : ∀ f : F, caps f ≤ f.size
 | .nil => Nat.le_refl _
 | .cons x k r => by
   have := caps_size k
   have := caps_size r
   simp only [caps, F.size]
   split <;> omega
set_option maxRecDepth 100000 in
set_option maxHeartbeats 2000000 in
theorem rcaps_any : ∀ (n : Nat) (x : Lab) (k : F) (w : World), k.size < n → n ≤ 5000 → NdAt w (x, k) → Calls Try.prog 21 #[ndV x] w (IntB (capsT (x, k) : Nat) w) := by
 intro n
 induction n with
 | zero => intro x k w hn; omega
 | succ n ih =>
   intro x k w hn hn5 hd
   obtain ⟨R, hR⟩ : ∃ R, capsT (x, k) = R := ⟨_, rfl⟩
   rw [hR]
   obtain ⟨hlab, hrg, hk⟩ := hd
   obtain ⟨a, cap, hkv⟩ := kids_len hk
   obtain ⟨xk, xa, xc, xs, xset, xneg, xn, xm, xmode, xname, xon, xoff, xkv⟩ := x
   simp only at hk hkv hrg hlab
   subst hkv
   have HK := Lib.hid hk
   unfold capsT at hR
   simp only at hR
   have hcs0 := caps_size k
   have hR5 : R ≤ 5000 := by rw [← hR]; split <;> omega
   clear hk hlab hrg
   unfold ndV
   by_cases h14 : xk = 14
   · subst h14
     have HR := Lib.hid (show 1 + caps k = R by rw [← hR]; rfl)
     clear hR
     go_enter Try.func21, Try.ntmps21
     go_wp2_with fail
     have hbl := below_alloc w (.cells #[.int .i64 14, .int .i64 xa, .int .i64 xc, xs, .bool xneg, .int .i64 xn, .int .i64 xm, .int .i64 xmode, .string xname, .int .i64 xon, .int .i64 xoff, .slice a k.len cap] 25)
     have hc11 : (w.alloc (.cells #[.int .i64 14, .int .i64 xa, .int .i64 xc, xs, .bool xneg, .int .i64 xn, .int .i64 xm, .int .i64 xmode, .string xname, .int .i64 xon, .int .i64 xoff, .slice a k.len cap] 25)).cell? ⟨w.heap.size, 11, none⟩ = some (.slice a k.len cap) := by simp
     obtain ⟨B, hB⟩ : ∃ B, w.heap.size = B := ⟨_, rfl⟩
     rw [hB] at hc11 ⊢
     generalize w.alloc _ = w1 at *
     have HB := Lib.hid hbl
     have HC := Lib.hid hc11
     clear hbl hc11
     go_loopw [3, 4] (fun cv iv wr => ∃ i c : Nat, cv = .int .i64 c ∧ iv = .int .i64 i ∧ i ≤ k.len ∧ c ≤ 5000 ∧ Hid (c + caps (k.drop i) = R) ∧ Below w1.heap.size w1 wr) (fun _ iv _ => k.len - (intOf iv).toNat)
     case atStart => exact ⟨0, 1, rfl, rfl, Nat.zero_le _, by omega, Lib.hid (by rw [drop_zero]; exact HR.out), Below.refl _ _⟩
     case round =>
       obtain ⟨i, c, rfl, rfl, hi, hc5, HA, hb⟩ := hrel
       have hcell : wr.cell? ⟨B, 11, none⟩ = some (.slice a k.len cap) := below_cell hb HC.out
       by_cases hend : i = k.len
       · have HRes := Lib.hid (show c = R by have := HA.out; rw [drop_end (by omega)] at this; exact this)
         subst hend
         go_wp2_with fail
         go_ret
         exact ⟨by rw [← HRes.out]; rfl, below_trans HB.out hb⟩
       · have hlt0 : i < k.len := by omega
         obtain ⟨y, k', r, hdr⟩ := drop_lt (f := k) (i := i) (by omega)
         obtain ⟨b, o, cap', hv2, hcap, hcap2, hlt, hf⟩ := kid_at (below_kids (below_trans HB.out hb) HK.out) hdr
         obtain ⟨rfl, rfl⟩ : a = some ⟨b, o, none⟩ ∧ cap = cap' := by
           have := hv2
           simp only [Value.slice.injEq] at this
           exact ⟨this.1, this.2.2⟩
         have hnd := fAt_head hf
         have hcs := Lib.hid hf.1
         have hsz := size_lt hdr
         have hadd := add_row b o i 12
         have HI := Lib.hid (ih y k' wr (by omega) (by omega) hnd)
         have hsum : c + (capsT (y, k') + caps (k.drop (i + 1))) = R := by
           rw [drop_succ hdr, ← HA.out, hdr]
           rfl
         obtain ⟨q, hq⟩ : ∃ q, capsT (y, k') = q := ⟨_, rfl⟩
         rw [hq] at HI hsum
         have hq5 : c + q ≤ 5000 := by omega
         have HN := Lib.hid (show c + q + caps (k.drop (i + 1)) = R by omega)
         clear hf hnd hdr hq hv2 hsum
         go_wp2_with (refine wpList_load_nd rfl _ rfl b (o + i * 12) rfl y hcs.out ?_)
         refine HI.out.mono ?_
         rintro e w2 ⟨rfl, hb2⟩
         go_wp2_with fail
         go_roundw
         case rel => exact ⟨i + 1, c + q, by go_num, by go_num, hlt, hq5, HN, below_trans hb hb2⟩
         case measure => simp [intOf]; omega
   · have HR := Lib.hid (show 0 + caps k = R by rw [← hR, if_neg h14])
     clear hR
     have e14 : (xk == 14) = false := by simp; omega
     go_enter Try.func21, Try.ntmps21
     go_wp2_with fail
     have hbl := below_alloc w (.cells #[.int .i64 xk, .int .i64 xa, .int .i64 xc, xs, .bool xneg, .int .i64 xn, .int .i64 xm, .int .i64 xmode, .string xname, .int .i64 xon, .int .i64 xoff, .slice a k.len cap] 25)
     have hc11 : (w.alloc (.cells #[.int .i64 xk, .int .i64 xa, .int .i64 xc, xs, .bool xneg, .int .i64 xn, .int .i64 xm, .int .i64 xmode, .string xname, .int .i64 xon, .int .i64 xoff, .slice a k.len cap] 25)).cell? ⟨w.heap.size, 11, none⟩ = some (.slice a k.len cap) := by simp
     obtain ⟨B, hB⟩ : ∃ B, w.heap.size = B := ⟨_, rfl⟩
     rw [hB] at hc11 ⊢
     generalize w.alloc _ = w1 at *
     have HB := Lib.hid hbl
     have HC := Lib.hid hc11
     clear hbl hc11
     go_loopw [3, 4] (fun cv iv wr => ∃ i c : Nat, cv = .int .i64 c ∧ iv = .int .i64 i ∧ i ≤ k.len ∧ c ≤ 5000 ∧ Hid (c + caps (k.drop i) = R) ∧ Below w1.heap.size w1 wr) (fun _ iv _ => k.len - (intOf iv).toNat)
     case atStart => exact ⟨0, 0, rfl, rfl, Nat.zero_le _, by omega, Lib.hid (by rw [drop_zero]; exact HR.out), Below.refl _ _⟩
     case round =>
       obtain ⟨i, c, rfl, rfl, hi, hc5, HA, hb⟩ := hrel
       have hcell : wr.cell? ⟨B, 11, none⟩ = some (.slice a k.len cap) := below_cell hb HC.out
       by_cases hend : i = k.len
       · have HRes := Lib.hid (show c = R by have := HA.out; rw [drop_end (by omega)] at this; exact this)
         subst hend
         go_wp2_with fail
         go_ret
         exact ⟨by rw [← HRes.out]; rfl, below_trans HB.out hb⟩
       · have hlt0 : i < k.len := by omega
         obtain ⟨y, k', r, hdr⟩ := drop_lt (f := k) (i := i) (by omega)
         obtain ⟨b, o, cap', hv2, hcap, hcap2, hlt, hf⟩ := kid_at (below_kids (below_trans HB.out hb) HK.out) hdr
         obtain ⟨rfl, rfl⟩ : a = some ⟨b, o, none⟩ ∧ cap = cap' := by
           have := hv2
           simp only [Value.slice.injEq] at this
           exact ⟨this.1, this.2.2⟩
         have hnd := fAt_head hf
         have hcs := Lib.hid hf.1
         have hsz := size_lt hdr
         have hadd := add_row b o i 12
         have HI := Lib.hid (ih y k' wr (by omega) (by omega) hnd)
         have hsum : c + (capsT (y, k') + caps (k.drop (i + 1))) = R := by
           rw [drop_succ hdr, ← HA.out, hdr]
           rfl
         obtain ⟨q, hq⟩ : ∃ q, capsT (y, k') = q := ⟨_, rfl⟩
         rw [hq] at HI hsum
         have hq5 : c + q ≤ 5000 := by omega
         have HN := Lib.hid (show c + q + caps (k.drop (i + 1)) = R by omega)
         clear hf hnd hdr hq hv2 hsum
         go_wp2_with (refine wpList_load_nd rfl _ rfl b (o + i * 12) rfl y hcs.out ?_)
         refine HI.out.mono ?_
         rintro e w2 ⟨rfl, hb2⟩
         go_wp2_with fail
         go_roundw
         case rel => exact ⟨i + 1, c + q, by go_num, by go_num, hlt, hq5, HN, below_trans hb hb2⟩
         case measure => simp [intOf]; omega
set_option maxHeartbeats 1000000 in
theorem rcheck_any (x : Lab) (k : F) (w : World) (hd : NdAt w (x, k)) : Calls Try.prog 17 #[ndV x] w (BoolB (checkP (x, k)) w) := by
 have H1 := Lib.hid (fun w1 (hb : Below w.heap.size w w1) => small_any x k w1 (below_nd hb hd))
 have H2 := Lib.hid (fun w1 (hb : Below w.heap.size w w1) => rdepth_any x k w1 (below_nd hb hd))
 have H3 := Lib.hid (fun w1 (hb : Below w.heap.size w w1) => all_any (k.size + 1) x k w1 (Nat.lt_succ_self _) (below_nd hb hd))
 obtain ⟨R, hR⟩ : ∃ R, checkP (x, k) = R := ⟨_, rfl⟩
 rw [hR]
 have HR := Lib.hid (show (decide (k.size + 1 ≤ 4000) && decide (k.deep + 1 ≤ 300) && (mayP (x, k) && allP k)) = R by rw [← hR]; rfl)
 clear hd hR
 generalize decide (k.size + 1 ≤ 4000) = s at *
 generalize (mayP (x, k) && allP k) = q at *
 obtain ⟨d, hd1, hd2⟩ : ∃ d, min 301 (k.deep + 1) = d ∧ (decide (k.deep + 1 ≤ 300) = decide (d ≤ 300)) := ⟨_, rfl, decide_eq_decide.2 (by omega)⟩
 rw [hd1] at H2
 rw [hd2] at HR
 clear hd1 hd2
 have hcx : ∀ (w1 : World), (w1.heap[w.heap.size]? = some (.cells (ndC x).toArray 25)) → ∀ j v, (ndC x)[j]? = some v → w1.cell? ⟨w.heap.size, 0 + j, none⟩ = some v := fun w1 h j v hj => by
   rw [cell_of_row _ _ _ _ _ _ h, Nat.zero_add]
   simpa using hj
 have HX := Lib.hid hcx
 clear hcx
 have hb0 := below_alloc w (.cells (ndC x).toArray 25)
 have h0 := heap_alloc_new w (.cells (ndC x).toArray 25)
 unfold ndC at hb0 h0
 have hk1 : ∀ w1, Below (w.alloc (.cells (ndC x).toArray 25)).heap.size (w.alloc (.cells (ndC x).toArray 25)) w1 → w1.heap[w.heap.size]? = some (.cells (ndC x).toArray 25) := fun w1 hb => by
   rw [hb.block w.heap.size (by simp)]
   exact heap_alloc_new w _
 unfold ndC at hk1
 have HK1 := Lib.hid hk1
 clear hk1 h0
 cases s with
 | false =>
   have HR := Lib.hid (show false = R by rw [← HR.out]; rfl)
   unfold ndV at *
   go_enter Try.func17, Try.ntmps17
   go_wp2_with fail
   refine (H1.out _ (below_alloc w _)).mono ?_
   rintro e w2 ⟨rfl, hb2⟩
   go_wp2_with fail
   go_ret
   exact ⟨by rw [← HR.out]; rfl, below_box hb2⟩
 | true =>
   by_cases hd : d ≤ 300
   · have HR := Lib.hid (show q = R by rw [← HR.out]; simp [hd])
     have hdi : (d : Int) ≤ 300 := by omega
     have edd : decide ((d : Int) ≤ 300) = true := by simpa using hdi
     go_enter Try.func17, Try.ntmps17
     unfold ndV
     go_wp2_with fail
     refine (H1.out _ (below_alloc w _)).mono ?_
     rintro e w2 ⟨rfl, hb2⟩
     have hx2 := Lib.hid (HX.out w2 (HK1.out w2 hb2))
     have hx2b := HK1.out w2 hb2
     have f0 : w2.cell? ⟨w.heap.size, 0, none⟩ = some (.int .i64 x.kind) := by have := hx2.out 0 _ rfl; rwa [Nat.zero_add] at this
     have f1 : w2.cell? ⟨w.heap.size, 1, none⟩ = some (.int .i64 x.at_) := by have := hx2.out 1 _ rfl; rwa [Nat.zero_add] at this
     have f2 : w2.cell? ⟨w.heap.size, 2, none⟩ = some (.int .i64 x.c) := by have := hx2.out 2 _ rfl; rwa [Nat.zero_add] at this
     have f3 : w2.cell? ⟨w.heap.size, 3, none⟩ = some (x.sv) := by have := hx2.out 3 _ rfl; rwa [Nat.zero_add] at this
     have f4 : w2.cell? ⟨w.heap.size, 4, none⟩ = some (.bool x.neg) := by have := hx2.out 4 _ rfl; rwa [Nat.zero_add] at this
     have f5 : w2.cell? ⟨w.heap.size, 5, none⟩ = some (.int .i64 x.n) := by have := hx2.out 5 _ rfl; rwa [Nat.zero_add] at this
     have f6 : w2.cell? ⟨w.heap.size, 6, none⟩ = some (.int .i64 x.m) := by have := hx2.out 6 _ rfl; rwa [Nat.zero_add] at this
     have f7 : w2.cell? ⟨w.heap.size, 7, none⟩ = some (.int .i64 x.mode) := by have := hx2.out 7 _ rfl; rwa [Nat.zero_add] at this
     have f8 : w2.cell? ⟨w.heap.size, 8, none⟩ = some (.string x.name) := by have := hx2.out 8 _ rfl; rwa [Nat.zero_add] at this
     have f9 : w2.cell? ⟨w.heap.size, 9, none⟩ = some (.int .i64 x.on) := by have := hx2.out 9 _ rfl; rwa [Nat.zero_add] at this
     have f10 : w2.cell? ⟨w.heap.size, 10, none⟩ = some (.int .i64 x.off) := by have := hx2.out 10 _ rfl; rwa [Nat.zero_add] at this
     have f11 : w2.cell? ⟨w.heap.size, 11, none⟩ = some (x.kv) := by have := hx2.out 11 _ rfl; rwa [Nat.zero_add] at this
     go_wp2_with fail
     refine (H2.out w2 (below_box hb2)).mono ?_
     rintro e w3 ⟨rfl, hb3⟩
     have hx3 := Lib.hid (HX.out w3 (by rw [hb3.block w.heap.size (by have := hb2.size; simp at this; omega)]; exact hx2b))
     clear hx2b
     clear f0 f1 f2 f3 f4 f5 f6 f7 f8 f9 f10 f11
     have f0 : w3.cell? ⟨w.heap.size, 0, none⟩ = some (.int .i64 x.kind) := by have := hx3.out 0 _ rfl; rwa [Nat.zero_add] at this
     have f1 : w3.cell? ⟨w.heap.size, 1, none⟩ = some (.int .i64 x.at_) := by have := hx3.out 1 _ rfl; rwa [Nat.zero_add] at this
     have f2 : w3.cell? ⟨w.heap.size, 2, none⟩ = some (.int .i64 x.c) := by have := hx3.out 2 _ rfl; rwa [Nat.zero_add] at this
     have f3 : w3.cell? ⟨w.heap.size, 3, none⟩ = some (x.sv) := by have := hx3.out 3 _ rfl; rwa [Nat.zero_add] at this
     have f4 : w3.cell? ⟨w.heap.size, 4, none⟩ = some (.bool x.neg) := by have := hx3.out 4 _ rfl; rwa [Nat.zero_add] at this
     have f5 : w3.cell? ⟨w.heap.size, 5, none⟩ = some (.int .i64 x.n) := by have := hx3.out 5 _ rfl; rwa [Nat.zero_add] at this
     have f6 : w3.cell? ⟨w.heap.size, 6, none⟩ = some (.int .i64 x.m) := by have := hx3.out 6 _ rfl; rwa [Nat.zero_add] at this
     have f7 : w3.cell? ⟨w.heap.size, 7, none⟩ = some (.int .i64 x.mode) := by have := hx3.out 7 _ rfl; rwa [Nat.zero_add] at this
     have f8 : w3.cell? ⟨w.heap.size, 8, none⟩ = some (.string x.name) := by have := hx3.out 8 _ rfl; rwa [Nat.zero_add] at this
     have f9 : w3.cell? ⟨w.heap.size, 9, none⟩ = some (.int .i64 x.on) := by have := hx3.out 9 _ rfl; rwa [Nat.zero_add] at this
     have f10 : w3.cell? ⟨w.heap.size, 10, none⟩ = some (.int .i64 x.off) := by have := hx3.out 10 _ rfl; rwa [Nat.zero_add] at this
     have f11 : w3.cell? ⟨w.heap.size, 11, none⟩ = some (x.kv) := by have := hx3.out 11 _ rfl; rwa [Nat.zero_add] at this
     go_wp2_with fail
     refine (H3.out w3 (below_trans (below_box hb2) hb3)).mono ?_
     rintro e w4 ⟨rfl, hb4⟩
     go_wp2_with fail
     go_ret
     exact ⟨by rw [← HR.out]; rfl, below_trans (below_trans (below_box hb2) hb3) hb4⟩
   · have HR := Lib.hid (show false = R by rw [← HR.out]; simp [hd])
     have hdi : (300 : Int) < (d : Int) := by omega
     go_enter Try.func17, Try.ntmps17
     unfold ndV
     go_wp2_with fail
     refine (H1.out _ (below_alloc w _)).mono ?_
     rintro e w2 ⟨rfl, hb2⟩
     have hx2 := Lib.hid (HX.out w2 (HK1.out w2 hb2))
     have f0 : w2.cell? ⟨w.heap.size, 0, none⟩ = some (.int .i64 x.kind) := by have := hx2.out 0 _ rfl; rwa [Nat.zero_add] at this
     have f1 : w2.cell? ⟨w.heap.size, 1, none⟩ = some (.int .i64 x.at_) := by have := hx2.out 1 _ rfl; rwa [Nat.zero_add] at this
     have f2 : w2.cell? ⟨w.heap.size, 2, none⟩ = some (.int .i64 x.c) := by have := hx2.out 2 _ rfl; rwa [Nat.zero_add] at this
     have f3 : w2.cell? ⟨w.heap.size, 3, none⟩ = some (x.sv) := by have := hx2.out 3 _ rfl; rwa [Nat.zero_add] at this
     have f4 : w2.cell? ⟨w.heap.size, 4, none⟩ = some (.bool x.neg) := by have := hx2.out 4 _ rfl; rwa [Nat.zero_add] at this
     have f5 : w2.cell? ⟨w.heap.size, 5, none⟩ = some (.int .i64 x.n) := by have := hx2.out 5 _ rfl; rwa [Nat.zero_add] at this
     have f6 : w2.cell? ⟨w.heap.size, 6, none⟩ = some (.int .i64 x.m) := by have := hx2.out 6 _ rfl; rwa [Nat.zero_add] at this
     have f7 : w2.cell? ⟨w.heap.size, 7, none⟩ = some (.int .i64 x.mode) := by have := hx2.out 7 _ rfl; rwa [Nat.zero_add] at this
     have f8 : w2.cell? ⟨w.heap.size, 8, none⟩ = some (.string x.name) := by have := hx2.out 8 _ rfl; rwa [Nat.zero_add] at this
     have f9 : w2.cell? ⟨w.heap.size, 9, none⟩ = some (.int .i64 x.on) := by have := hx2.out 9 _ rfl; rwa [Nat.zero_add] at this
     have f10 : w2.cell? ⟨w.heap.size, 10, none⟩ = some (.int .i64 x.off) := by have := hx2.out 10 _ rfl; rwa [Nat.zero_add] at this
     have f11 : w2.cell? ⟨w.heap.size, 11, none⟩ = some (x.kv) := by have := hx2.out 11 _ rfl; rwa [Nat.zero_add] at this
     go_wp2_with fail
     refine (H2.out w2 (below_box hb2)).mono ?_
     rintro e w3 ⟨rfl, hb3⟩
     go_wp2_with fail
     go_ret
     exact ⟨by rw [← HR.out]; rfl, below_trans (below_box hb2) hb3⟩
end Go.Proofs.Ytpjaahojoabgjaa.trw
end
section
namespace Go.Proofs.Ytpjaahojoabgjaa.trw
open Go.Sort Go Go.RowKit trp
theorem findK_len {kd : Int} : ∀ {f : F} {i : Nat} {l : List Nat}, findK kd i f = some l → l.length ≤ f.size
 | .nil, _, _, h => by simp [findK] at h
 | .cons x k r, i, l, h => by
   unfold findK at h
   split at h
   · cases h
     simp [F.size]
   · split at h
     · rename_i l' hl
       cases h
       have := findK_len hl
       simp only [List.length_cons, F.size]
       omega
     · have := findK_len h
       simp only [F.size]
       omega
theorem findT_len {kd : Int} {t : Nd} {l : List Nat} (h : findT kd t = some l) : l.length ≤ t.2.size := by
 unfold findT at h
 split at h
 · cases h
   simp
 · exact findK_len h
def WayAt (w : World) (v : Value) (l : List Nat) : Prop := PathAt w v l ∧ ∀ n c, v = .slice none n c → c = 0
theorem way_of {w : World} {base : Nat} {v : Value} {l : List Nat} (h : w.ownsRow base 3 1 v l.length (l.map fun n : Nat => Value.int .i64 n)) : WayAt w v l := by
 refine ⟨path_of h, fun n c e => ?_⟩
 rcases h.2 with ⟨hv, _⟩ | ⟨g, cap, _, hv, _⟩
 · rw [e] at hv
   cases hv
   rfl
 · rw [e] at hv
   cases hv
theorem way_nil (w : World) : WayAt w (.slice none 0 0) [] := ⟨path_nil w, fun n c e => by cases e; rfl⟩
def WayB (o : Option (List Nat)) (w : World) (e : Ending) (w' : World) : Prop := ∃ v, e = .returned (.tuple #[v, .bool o.isSome]) ∧ WayAt w' v (o.getD []) ∧ Below w.heap.size w w'
theorem wpList_append_way {ops : Array Oper} {rest : List Oper} {o : Oper} {a : Act} {w : World} {Q : Exit → Act → World → Prop} (hgd : o.guard = none) (s x : Operand)
   (ho : o.op = .call { callee := .builtin .append, args := #[s, x], argTypes := #[31, 31] }) (i B : Nat) (hs : a.eval s = .slice (some ⟨B, 0, none⟩) 1 1) (hB : B = w.heap.size) (v : Value) (l : List Nat) (hx : a.eval x = v) (hl : l.length ≤ 5000) (hp : WayAt w v l)
   (h : ∀ v' w', WayAt w' v' (i :: l) → Below w.heap.size w w' → wpList Try.prog ops Q rest (a.put o.dst v') w') : wpList Try.prog ops Q (o :: rest) a (w.alloc (.cells #[.int .i64 i] 3)) := by
 subst hB
 have hb := below_alloc w (.cells #[.int .i64 (i : Int)] 3)
 have hown : (w.alloc (.cells #[.int .i64 (i : Int)] 3)).ownsRow w.heap.size 3 1 (.slice (some ⟨w.heap.size, 0, none⟩) 1 1) 1 [.int .i64 i] := World.ownsRow_lit w #[.int .i64 (i : Int)] 1 (Nat.le_refl _) (by decide) rfl
 obtain ⟨i0, hi0, hz0, hz1, hz2⟩ := info_parts infoInt
 obtain ⟨hp1, hp2⟩ := hp
 obtain ⟨pa, pc, rfl, p1, p2, p3⟩ := path_below hp1 hb
 cases pa with
 | none =>
   have hl0 : l = [] := by
     rcases p3 with h0 | ⟨_, _, h0, _⟩
     · exact h0
     · cases h0
   subst hl0
   obtain rfl := hp2 _ _ rfl
   have hr := run_append_owned_none (P := Try.prog) (w.alloc (.cells #[.int .i64 (i : Int)] 3)) w.heap.size 31 o.type 3 i0 1 Try.underlying31 hi0 _ 1 _ hown
   refine wpList_plain hgd fun K hK => ?_
   have hx' : a.eval x = .slice none 0 0 := hx
   unfold Oper.wp execOp
   simp only [ho, resolve, invoke, builtin, Sem.run_bind, Sem.run_pure, Result.andThen_ok, List.map_toArray, List.map_cons, List.map_nil, hs, hx', hr]
   exact hK _ _ (h _ _ (way_of (l := [i]) hown) hb)
 | some ad =>
   refine wpList_append_own_at _ hgd s x 31 ho w.heap.size 3 i0 (.int .i64 0) 1 8 Try.underlying31 hi0 hz0 hz1 hz2 rfl (by decide) _ 1 _ hs hown ad l.length pc (l.map fun n : Nat => Value.int .i64 n) hx (by simp) (fun j u hj => ?_) (fun u hu => ?_) (by unfold maxLen; omega) (by omega) hb.size ?_
   · rcases p3 with rfl | ⟨pb, po, h0, hc⟩
     · simp at hj
     · cases h0
       rw [List.getElem?_map] at hj
       obtain ⟨n, hn, rfl⟩ := Option.map_eq_some_iff.1 hj
       rw [add_plain]
       exact hc j n hn
   · obtain ⟨n, _, rfl⟩ := List.mem_map.1 hu
     rfl
   · intro v' w2 ho2 hg _ _
     refine h v' w2 (way_of (l := i :: l) (by simpa [Nat.add_comm] using ho2)) ?_
     exact hb.grown hg hb.size (fun k hk => by simp only [Value.ownBlock, Option.some.injEq] at hk; omega)
set_option maxRecDepth 100000 in
set_option maxHeartbeats 2000000 in
theorem rfind_any (kd : Int) : ∀ (n : Nat) (x : Lab) (k : F) (w : World), k.size < n → n ≤ 5000 → NdAt w (x, k) → Calls Try.prog 19 #[ndV x, .int .i64 kd] w (WayB (findT kd (x, k)) w) := by
 intro n
 induction n with
 | zero => intro x k w hn; omega
 | succ n ih =>
   intro x k w hn hn5 hd
   obtain ⟨hlab, hrg, hk⟩ := hd
   obtain ⟨a, cap, hkv⟩ := kids_len hk
   obtain ⟨xk, xa, xc, xs, xset, xneg, xn, xm, xmode, xname, xon, xoff, xkv⟩ := x
   simp only at hk hkv hrg hlab
   subst hkv
   have HK := Lib.hid hk
   clear hk hlab hrg
   unfold findT
   simp only
   unfold ndV
   by_cases hkd : xk = kd
   · subst hkd
     rw [if_pos rfl]
     clear HK
     go_enter Try.func19, Try.ntmps19
     go_wp2_with fail
     go_ret2
     exact ⟨_, rfl, way_nil _, below_alloc w _⟩
   · rw [if_neg hkd]
     have ekd : (xk == kd) = false := by simp; omega
     obtain ⟨R, hR⟩ : ∃ R, findK kd 0 k = R := ⟨_, rfl⟩
     rw [hR]
     have HR := Lib.hid hR
     clear hR
     go_enter Try.func19, Try.ntmps19
     go_wp2_with fail
     have hbl := below_alloc w (.cells #[.int .i64 xk, .int .i64 xa, .int .i64 xc, xs, .bool xneg, .int .i64 xn, .int .i64 xm, .int .i64 xmode, .string xname, .int .i64 xon, .int .i64 xoff, .slice a k.len cap] 25)
     have hc11 : (w.alloc (.cells #[.int .i64 xk, .int .i64 xa, .int .i64 xc, xs, .bool xneg, .int .i64 xn, .int .i64 xm, .int .i64 xmode, .string xname, .int .i64 xon, .int .i64 xoff, .slice a k.len cap] 25)).cell? ⟨w.heap.size, 11, none⟩ = some (.slice a k.len cap) := by simp
     obtain ⟨B, hB⟩ : ∃ B, w.heap.size = B := ⟨_, rfl⟩
     rw [hB] at hc11 ⊢
     generalize w.alloc _ = w1 at *
     have HB := Lib.hid hbl
     have HC := Lib.hid hc11
     clear hbl hc11 hB ekd
     go_loopw [6] (fun iv wr => ∃ i : Nat, iv = .int .i64 i ∧ i ≤ k.len ∧ Hid (findK kd i (k.drop i) = R) ∧ Below w1.heap.size w1 wr) (fun iv _ => k.len - (intOf iv).toNat)
     case atStart => exact ⟨0, rfl, Nat.zero_le _, Lib.hid (by rw [drop_zero]; exact HR.out), Below.refl _ _⟩
     case round =>
       obtain ⟨i, rfl, hi, HA, hb⟩ := hrel
       have hcell : wr.cell? ⟨B, 11, none⟩ = some (.slice a k.len cap) := below_cell hb HC.out
       by_cases hend : i = k.len
       · have HRes := Lib.hid (show R = none by have := HA.out; rw [drop_end (by omega)] at this; exact this.symm)
         subst hend
         go_wp2_with fail
         go_ret2
         exact ⟨_, by rw [HRes.out]; rfl, by rw [HRes.out]; exact way_nil _, below_trans HB.out hb⟩
       · have hlt0 : i < k.len := by omega
         obtain ⟨y, k', r, hdr⟩ := drop_lt (f := k) (i := i) (by omega)
         obtain ⟨b, o, cap', hv2, hcap, hcap2, hlt, hf⟩ := kid_at (below_kids (below_trans HB.out hb) HK.out) hdr
         obtain ⟨rfl, rfl⟩ : a = some ⟨b, o, none⟩ ∧ cap = cap' := by
           have := hv2
           simp only [Value.slice.injEq] at this
           exact ⟨this.1, this.2.2⟩
         have hnd := fAt_head hf
         have hcs := Lib.hid hf.1
         have hsz := size_lt hdr
         have hadd := add_row b o i 12
         have HI := Lib.hid (ih y k' wr (by omega) (by omega) hnd)
         have hstep := HA.out
         rw [hdr, findK_cons] at hstep
         have hlen := fun l (h : findT kd (y, k') = some l) => findT_len h
         simp only at hlen
         obtain ⟨q, hq⟩ : ∃ q, findT kd (y, k') = q := ⟨_, rfl⟩
         rw [hq] at HI hstep hlen
         have hdr1 := drop_succ hdr
         clear hf hnd hdr hq hv2 HA
         cases q with
         | none =>
           have HN := Lib.hid (show findK kd (i + 1) (k.drop (i + 1)) = R by rw [hdr1]; exact hstep)
           clear hstep hlen hdr1
           go_wp2_with (refine wpList_load_nd rfl _ rfl b (o + i * 12) rfl y hcs.out ?_)
           refine HI.out.mono ?_
           rintro e w2 ⟨v, rfl, hp, hb2⟩
           clear hp
           simp only [Option.isSome_none]
           go_wp2_with fail
           go_roundw
           case rel => exact ⟨i + 1, by go_num, hlt, HN, below_trans hb hb2⟩
           case measure => simp [intOf]; omega
         | some l =>
           have HN := Lib.hid (show R = some (i :: l) from hstep.symm)
           have hl5 : l.length ≤ 5000 := by have := hlen l rfl; omega
           clear hstep hlen hdr1
           go_wp2_with (refine wpList_load_nd rfl _ rfl b (o + i * 12) rfl y hcs.out ?_)
           refine HI.out.mono ?_
           rintro e w2 ⟨v, rfl, hp, hb2⟩
           have HP := Lib.hid (show WayAt w2 v l from hp)
           have HB2 := Lib.hid (below_trans hb hb2)
           clear hp hb2
           simp only [Option.isSome_some]
           go_wp2_with (at_builtin; refine wpList_append_way rfl _ _ rfl i _ rfl rfl v l rfl hl5 HP.out ?_; intro v' w3 hp3 hb3; have HP3 := Lib.hid hp3; have HB3 := Lib.hid hb3; clear hp3 hb3)
           go_ret2
           exact ⟨v', by rw [HN.out]; rfl, by rw [HN.out]; exact HP3.out, below_trans (below_trans HB.out HB2.out) HB3.out⟩
set_option maxRecDepth 100000 in
set_option maxHeartbeats 2000000 in
theorem nsame_any (v1 v2 : Value) (l : List Nat) (w : World) (h1 : PathAt w v1 l) (h2 : PathAt w v2 l) : Calls Try.prog 22 #[v1, v2] w (BoolB true w) := by
 obtain ⟨a1, c1, rfl, p1, p2, p3⟩ := h1
 obtain ⟨a2, c2, rfl, q1, q2, q3⟩ := h2
 have P3 := Lib.hid p3
 have Q3 := Lib.hid q3
 clear p3 q3
 go_enter Try.func22, Try.ntmps22
 go_wp2_with fail
 go_loopw [5] (fun iv wr => ∃ i : Nat, iv = .int .i64 i ∧ i ≤ l.length ∧ Below w.heap.size w wr) (fun iv _ => l.length - (intOf iv).toNat)
 case atStart => exact ⟨0, rfl, Nat.zero_le _, Below.refl _ _⟩
 case round =>
   obtain ⟨i, rfl, hi, hb⟩ := hrel
   by_cases hend : i = l.length
   · subst hend
     go_wp2_with fail
     go_ret
     exact ⟨rfl, hb⟩
   · have hlt : i < l.length := by omega
     rcases P3.out with h0 | ⟨b1, o1, rfl, k1⟩
     · rw [h0] at hlt
       simp at hlt
     rcases Q3.out with h0 | ⟨b2, o2, rfl, k2⟩
     · rw [h0] at hlt
       simp at hlt
     have hx := List.getElem?_eq_getElem hlt
     obtain ⟨n, hn⟩ : ∃ n, l[i] = n := ⟨_, rfl⟩
     rw [hn] at hx
     have e1 := cell_regrown (below_cell hb (k1 i n hx))
     have e2 := cell_regrown (below_cell hb (k2 i n hx))
     have a1 := add_plain b1 o1 i
     have a2 := add_plain b2 o2 i
     have i1 : (i : Int) < (l.length : Int) := by omega
     have i0 : (0 : Int) ≤ (i : Int) := by omega
     have en : ((n : Int) == (n : Int)) = true := by simp
     clear hx hn k1 k2
     go_wp2_with fail
     refine wp_region_quiet_below (by kernel_rfl) (by kernel_rfl) ?_
     repeat (go_big_quiet_step (fail))
     refine wpQuiet_nil ?_
     intro _ hw'
     obtain ⟨⟨dq, osq⟩, hw''⟩ := hw'
     subst hw''
     have hbq := hb.trans ((below_regrown wr dq osq).mono hb.size)
     go_wp2_with fail
     go_roundw
     case rel => exact ⟨i + 1, by go_num, by omega, hbq⟩
     case measure => simp [intOf]; omega
end Go.Proofs.Ytpjaahojoabgjaa.trw
end
section
namespace Go.Proofs.Ytpjaahojoabgjaa.trw
open Go Go.RowKit trp
set_option maxRecDepth 100000 in
set_option maxHeartbeats 4000000 in
theorem finds_law (x : Lab) (k : F) (kd : Int) (w : World) (hn : NdAt w (x, k)) (_hk : I64 kd) : Calls Try.prog 5 #[ndV x, .int .i64 kd] w (BoolB true w) := by
 by_cases h4 : k.size + 1 ≤ 4000
 rotate_left
 · go_enter Try.func5, Try.ntmps5
   go_upto_region 1 with (refine wpList_box_nd rfl _ rfl x rfl ?_)
   generalize hg : w.alloc _ = W
   have HB : Hid (Below w.heap.size w W) := Lib.hid (by rw [← hg]; exact below_alloc _ _)
   have hr : W.heap[w.heap.size]? = some (.cells (ndC x).toArray 25) := by rw [← hg]; exact heap_alloc_new _ _
   have hlt := (Array.getElem?_eq_some_iff.1 hr).1
   have R0 := Lib.hid (fun w1 (hb : Below W.heap.size W w1) => cells0 ((hb.block _ hlt).trans hr))
   have HN := Lib.hid (fun w1 (hb : Below W.heap.size W w1) => below_nd hb (below_nd HB.out hn))
   clear hg hr hlt hn
   obtain ⟨B0, hB0⟩ : ∃ B0, w.heap.size = B0 := ⟨_, rfl⟩
   rw [hB0] at R0 ⊢
   go_wp2_with fail
   refine (awake_any W).mono ?_
   rintro e w1 ⟨rfl, hb⟩
   have H1 := Lib.hid hb
   clear hb
   have HS : Hid (∀ w1, Below W.heap.size W w1 → Calls Try.prog 12 #[ndV x] w1 (BoolB false w1)) := Lib.hid (fun w1 hb => by have := small_any x k w1 (HN.out w1 hb); rw [decide_eq_false h4] at this; exact this)
   clear HN h4
   go_wp2_with (first | (refine wpList_load_nd rfl _ rfl B0 0 rfl x (R0.out w1 H1.out) ?_))
   refine (HS.out w1 H1.out).mono ?_
   rintro e w2 ⟨rfl, hb⟩
   have H2 := Lib.hid (H1.out.trans (hb.mono H1.out.size))
   clear hb
   go_wp2_with fail
   go_ret
   exact ⟨rfl, HB.out.trans (H2.out.mono HB.out.size)⟩
 cases hc : checkP (x, k) with
 | false =>
   go_enter Try.func5, Try.ntmps5
   go_upto_region 1 with (refine wpList_box_nd rfl _ rfl x rfl ?_)
   generalize hg : w.alloc _ = W
   have HB : Hid (Below w.heap.size w W) := Lib.hid (by rw [← hg]; exact below_alloc _ _)
   have hr : W.heap[w.heap.size]? = some (.cells (ndC x).toArray 25) := by rw [← hg]; exact heap_alloc_new _ _
   have hlt := (Array.getElem?_eq_some_iff.1 hr).1
   have R0 := Lib.hid (fun w1 (hb : Below W.heap.size W w1) => cells0 ((hb.block _ hlt).trans hr))
   have HN := Lib.hid (fun w1 (hb : Below W.heap.size W w1) => below_nd hb (below_nd HB.out hn))
   clear hg hr hlt hn
   obtain ⟨B0, hB0⟩ : ∃ B0, w.heap.size = B0 := ⟨_, rfl⟩
   rw [hB0] at R0 ⊢
   go_wp2_with fail
   refine (awake_any W).mono ?_
   rintro e w1 ⟨rfl, hb⟩
   have H1 := Lib.hid hb
   clear hb
   have HS : Hid (∀ w1, Below W.heap.size W w1 → Calls Try.prog 12 #[ndV x] w1 (BoolB true w1)) := Lib.hid (fun w1 hb => by have := small_any x k w1 (HN.out w1 hb); rw [decide_eq_true h4] at this; exact this)
   have HC : Hid (∀ w1, Below W.heap.size W w1 → Calls Try.prog 17 #[ndV x] w1 (BoolB false w1)) := Lib.hid (fun w1 hb => by have := rcheck_any x k w1 (HN.out w1 hb); rw [hc] at this; exact this)
   clear HN h4 hc
   go_wp2_with (first | (refine wpList_load_nd rfl _ rfl B0 0 rfl x (R0.out w1 H1.out) ?_))
   refine (HS.out w1 H1.out).mono ?_
   rintro e w2 ⟨rfl, hb⟩
   have H2 := Lib.hid (H1.out.trans (hb.mono H1.out.size))
   clear hb
   have f0 : w2.cell? ⟨B0, 0, none⟩ = some (.int .i64 x.kind) := by have := R0.out w2 H2.out 0 _ rfl; rwa [Nat.zero_add] at this
   have f1 : w2.cell? ⟨B0, 1, none⟩ = some (.int .i64 x.at_) := by have := R0.out w2 H2.out 1 _ rfl; rwa [Nat.zero_add] at this
   have f2 : w2.cell? ⟨B0, 2, none⟩ = some (.int .i64 x.c) := by have := R0.out w2 H2.out 2 _ rfl; rwa [Nat.zero_add] at this
   have f3 : w2.cell? ⟨B0, 3, none⟩ = some (x.sv) := by have := R0.out w2 H2.out 3 _ rfl; rwa [Nat.zero_add] at this
   have f4 : w2.cell? ⟨B0, 4, none⟩ = some (.bool x.neg) := by have := R0.out w2 H2.out 4 _ rfl; rwa [Nat.zero_add] at this
   have f5 : w2.cell? ⟨B0, 5, none⟩ = some (.int .i64 x.n) := by have := R0.out w2 H2.out 5 _ rfl; rwa [Nat.zero_add] at this
   have f6 : w2.cell? ⟨B0, 6, none⟩ = some (.int .i64 x.m) := by have := R0.out w2 H2.out 6 _ rfl; rwa [Nat.zero_add] at this
   have f7 : w2.cell? ⟨B0, 7, none⟩ = some (.int .i64 x.mode) := by have := R0.out w2 H2.out 7 _ rfl; rwa [Nat.zero_add] at this
   have f8 : w2.cell? ⟨B0, 8, none⟩ = some (.string x.name) := by have := R0.out w2 H2.out 8 _ rfl; rwa [Nat.zero_add] at this
   have f9 : w2.cell? ⟨B0, 9, none⟩ = some (.int .i64 x.on) := by have := R0.out w2 H2.out 9 _ rfl; rwa [Nat.zero_add] at this
   have f10 : w2.cell? ⟨B0, 10, none⟩ = some (.int .i64 x.off) := by have := R0.out w2 H2.out 10 _ rfl; rwa [Nat.zero_add] at this
   have f11 : w2.cell? ⟨B0, 11, none⟩ = some (x.kv) := by have := R0.out w2 H2.out 11 _ rfl; rwa [Nat.zero_add] at this
   go_wp2_with fail
   refine (HC.out w2 H2.out).mono ?_
   rintro e w3 ⟨rfl, hb⟩
   have H3 := Lib.hid (H2.out.trans (hb.mono H2.out.size))
   clear hb
   clear f0 f1 f2 f3 f4 f5 f6 f7 f8 f9 f10 f11
   go_wp2_with fail
   go_ret
   exact ⟨rfl, HB.out.trans (H3.out.mono HB.out.size)⟩
 | true =>
   go_enter Try.func5, Try.ntmps5
   go_upto_region 1 with (refine wpList_box_nd rfl _ rfl x rfl ?_)
   generalize hg : w.alloc _ = W
   have HB : Hid (Below w.heap.size w W) := Lib.hid (by rw [← hg]; exact below_alloc _ _)
   have hr : W.heap[w.heap.size]? = some (.cells (ndC x).toArray 25) := by rw [← hg]; exact heap_alloc_new _ _
   have hlt := (Array.getElem?_eq_some_iff.1 hr).1
   have R0 := Lib.hid (fun w1 (hb : Below W.heap.size W w1) => cells0 ((hb.block _ hlt).trans hr))
   have HN := Lib.hid (fun w1 (hb : Below W.heap.size W w1) => below_nd hb (below_nd HB.out hn))
   clear hg hr hlt hn
   obtain ⟨B0, hB0⟩ : ∃ B0, w.heap.size = B0 := ⟨_, rfl⟩
   rw [hB0] at R0 ⊢
   go_wp2_with fail
   refine (awake_any W).mono ?_
   rintro e w1 ⟨rfl, hb⟩
   have H1 := Lib.hid hb
   clear hb
   have HS : Hid (∀ w1, Below W.heap.size W w1 → Calls Try.prog 12 #[ndV x] w1 (BoolB true w1)) := Lib.hid (fun w1 hb => by have := small_any x k w1 (HN.out w1 hb); rw [decide_eq_true h4] at this; exact this)
   have HC : Hid (∀ w1, Below W.heap.size W w1 → Calls Try.prog 17 #[ndV x] w1 (BoolB true w1)) := Lib.hid (fun w1 hb => by have := rcheck_any x k w1 (HN.out w1 hb); rw [hc] at this; exact this)
   obtain ⟨L, hL⟩ : ∃ L, findT kd (x, k) = L := ⟨_, rfl⟩
   have HF := Lib.hid (fun w1 (hb : Below W.heap.size W w1) => pfind_any x k kd w1 (HN.out w1 hb) h4)
   have HG := Lib.hid (fun w1 (hb : Below W.heap.size W w1) => rfind_any kd (k.size + 1) x k w1 (Nat.lt_succ_self _) (by omega) (HN.out w1 hb))
   rw [hL] at HF HG
   obtain ⟨M, hM⟩ : ∃ M, L.getD [] = M := ⟨_, rfl⟩
   obtain ⟨s, hs⟩ : ∃ s, L.isSome = s := ⟨_, rfl⟩
   unfold FindB at HF
   unfold WayB at HG
   rw [hM, hs] at HF HG
   clear hL hM hs hc
   go_wp2_with (first | (refine wpList_load_nd rfl _ rfl B0 0 rfl x (R0.out w1 H1.out) ?_))
   refine (HS.out w1 H1.out).mono ?_
   rintro e w2 ⟨rfl, hb⟩
   have H2 := Lib.hid (H1.out.trans (hb.mono H1.out.size))
   clear hb
   have f0 : w2.cell? ⟨B0, 0, none⟩ = some (.int .i64 x.kind) := by have := R0.out w2 H2.out 0 _ rfl; rwa [Nat.zero_add] at this
   have f1 : w2.cell? ⟨B0, 1, none⟩ = some (.int .i64 x.at_) := by have := R0.out w2 H2.out 1 _ rfl; rwa [Nat.zero_add] at this
   have f2 : w2.cell? ⟨B0, 2, none⟩ = some (.int .i64 x.c) := by have := R0.out w2 H2.out 2 _ rfl; rwa [Nat.zero_add] at this
   have f3 : w2.cell? ⟨B0, 3, none⟩ = some (x.sv) := by have := R0.out w2 H2.out 3 _ rfl; rwa [Nat.zero_add] at this
   have f4 : w2.cell? ⟨B0, 4, none⟩ = some (.bool x.neg) := by have := R0.out w2 H2.out 4 _ rfl; rwa [Nat.zero_add] at this
   have f5 : w2.cell? ⟨B0, 5, none⟩ = some (.int .i64 x.n) := by have := R0.out w2 H2.out 5 _ rfl; rwa [Nat.zero_add] at this
   have f6 : w2.cell? ⟨B0, 6, none⟩ = some (.int .i64 x.m) := by have := R0.out w2 H2.out 6 _ rfl; rwa [Nat.zero_add] at this
   have f7 : w2.cell? ⟨B0, 7, none⟩ = some (.int .i64 x.mode) := by have := R0.out w2 H2.out 7 _ rfl; rwa [Nat.zero_add] at this
   have f8 : w2.cell? ⟨B0, 8, none⟩ = some (.string x.name) := by have := R0.out w2 H2.out 8 _ rfl; rwa [Nat.zero_add] at this
   have f9 : w2.cell? ⟨B0, 9, none⟩ = some (.int .i64 x.on) := by have := R0.out w2 H2.out 9 _ rfl; rwa [Nat.zero_add] at this
   have f10 : w2.cell? ⟨B0, 10, none⟩ = some (.int .i64 x.off) := by have := R0.out w2 H2.out 10 _ rfl; rwa [Nat.zero_add] at this
   have f11 : w2.cell? ⟨B0, 11, none⟩ = some (x.kv) := by have := R0.out w2 H2.out 11 _ rfl; rwa [Nat.zero_add] at this
   go_wp2_with fail
   refine (HC.out w2 H2.out).mono ?_
   rintro e w3 ⟨rfl, hb⟩
   have H3 := Lib.hid (H2.out.trans (hb.mono H2.out.size))
   clear hb
   clear f0 f1 f2 f3 f4 f5 f6 f7 f8 f9 f10 f11
   go_wp2_with (first | (refine wpList_load_nd rfl _ rfl B0 0 rfl x (R0.out w3 H3.out) ?_))
   refine (HF.out w3 H3.out).mono ?_
   rintro e w4 ⟨v1, rfl, hp, hb⟩
   have H4 := Lib.hid (H3.out.trans (hb.mono H3.out.size))
   have P1 := Lib.hid hp
   clear hp hb
   go_wp2_with (first | (refine wpList_load_nd rfl _ rfl B0 0 rfl x (R0.out w4 H4.out) ?_))
   refine (HG.out w4 H4.out).mono ?_
   rintro e w5 ⟨v2, rfl, hp, hb⟩
   have H5 := Lib.hid (H4.out.trans (hb.mono H4.out.size))
   have P2 := Lib.hid hp.1
   have P1b := Lib.hid (path_below P1.out hb)
   clear hp hb P1
   have RA := Lib.hid (fun w' (h : Below w5.heap.size w5 w') => R0.out w' (H5.out.trans (h.mono H5.out.size)))
   have NA := Lib.hid (fun w' (h : Below w5.heap.size w5 w') => HN.out w' (H5.out.trans (h.mono H5.out.size)))
   obtain ⟨q, hq⟩ : ∃ q, capsT (x, k) = q := ⟨_, rfl⟩
   have HQ : Hid (∀ w1, Below w5.heap.size w5 w1 → Calls Try.prog 20 #[ndV x] w1 (IntB (q : Nat) w1)) := Lib.hid (fun w1 hb => by have := pcaps_any x k w1 (NA.out w1 hb) h4; rw [hq] at this; exact this)
   have HQ2 : Hid (∀ w1, Below w5.heap.size w5 w1 → Calls Try.prog 21 #[ndV x] w1 (IntB (q : Nat) w1)) := Lib.hid (fun w1 hb => by have := rcaps_any (k.size + 1) x k w1 (Nat.lt_succ_self _) (by omega) (NA.out w1 hb); rw [hq] at this; exact this)
   have HV : Hid (∀ w1, Below w5.heap.size w5 w1 → Calls Try.prog 22 #[v1, v2] w1 (BoolB true w1)) := Lib.hid (fun w1 hb => by have := nsame_any v1 v2 M w1 (path_below P1b.out hb) (path_below P2.out hb); exact this)
   have eq : ((q : Int) == (q : Int)) = true := by simp
   have es : (s == s) = true := by simp
   clear hq NA HN h4 P1b P2
   go_wp2_with fail
   refine wp_region_held_drew (S := fun w' => Below w5.heap.size w5 w') (by kernel_rfl) (below_drew w5) (fun hHeld => ?_)
   first
     | (refine wpAnyH_take (i := 0) (v := ?_) rfl (by kernel_rfl) (by kernel_rfl) (by kernel_rfl) (fun _ _ _ h => h) (Or.inl ⟨by rfl, ?_⟩) (by assumption) ?_; rotate_left; · (intro w' hSw; refine exec_load_nd (x := .tmp 2) (b := B0) (off := 0) (l := x) ?_ ?_ (RA.out w' hSw) <;> rfl))
     | (refine wpAnyH_take (i := 0) rfl (by kernel_rfl) (by kernel_rfl) (by kernel_rfl) (fun _ _ _ h => h) (Or.inr ⟨by rfl, rfl⟩) (by assumption) ?_)
   simp only [Act.put, List.setIfInBounds_toArray, List.set_cons_zero, List.set_cons_succ, List.getElem_toArray, List.getElem_cons_zero]
   first
     | (refine wpAnyH_take (i := 2) (v := ?_) rfl (by kernel_rfl) (by kernel_rfl) (by kernel_rfl) (fun _ _ _ h => h) (Or.inl ⟨by rfl, ?_⟩) (by assumption) ?_; rotate_left; · (intro w' hSw; refine exec_load_nd (x := .tmp 2) (b := B0) (off := 0) (l := x) ?_ ?_ (RA.out w' hSw) <;> rfl))
     | (refine wpAnyH_take (i := 2) rfl (by kernel_rfl) (by kernel_rfl) (by kernel_rfl) (fun _ _ _ h => h) (Or.inr ⟨by rfl, rfl⟩) (by assumption) ?_)
   simp only [Act.put, List.setIfInBounds_toArray, List.set_cons_zero, List.set_cons_succ, List.getElem_toArray, List.getElem_cons_succ, List.getElem_cons_zero]
   refine wpAnyH_ready (rs := [1]) (by kernel_rfl) (by simp) ?_
   refine AllReadyH.cons rfl (fun K hK => ?_) AllReadyH.nil
   go_simp
   refine (HQ.out _ hHeld).mono ?_
   rintro e w6 ⟨rfl, hb⟩
   have hHeld : Below w5.heap.size w5 w6 := hHeld.trans (hb.mono hHeld.size)
   refine hK.out _ _ hHeld (fun hHeld => ?_)
   clear hK K hb
   try simp only [Act.put, List.setIfInBounds_toArray, List.set_cons_zero, List.set_cons_succ, List.getElem_toArray, List.getElem_cons_succ, List.getElem_cons_zero]
   refine wpAnyH_ready (rs := [3]) (by kernel_rfl) (by simp) ?_
   refine AllReadyH.cons rfl (fun K hK => ?_) AllReadyH.nil
   go_simp
   refine (HQ2.out _ hHeld).mono ?_
   rintro e w7 ⟨rfl, hb⟩
   have hHeld : Below w5.heap.size w5 w7 := hHeld.trans (hb.mono hHeld.size)
   refine hK.out _ _ hHeld (fun hHeld => ?_)
   clear hK K hb
   try simp only [Act.put, List.setIfInBounds_toArray, List.set_cons_zero, List.set_cons_succ, List.getElem_toArray, List.getElem_cons_succ, List.getElem_cons_zero]
   first
     | (refine wpAnyH_take (i := 4) (v := ?_) rfl (by kernel_rfl) (by kernel_rfl) (by kernel_rfl) (fun _ _ _ h => h) (Or.inl ⟨by rfl, ?_⟩) (by assumption) ?_; rotate_left; · (intro w' hSw; go_simp; try rfl))
     | (refine wpAnyH_take (i := 4) rfl (by kernel_rfl) (by kernel_rfl) (by kernel_rfl) (fun _ _ _ h => h) (Or.inr ⟨by rfl, rfl⟩) (by assumption) ?_)
   simp only [Act.put, List.setIfInBounds_toArray, List.set_cons_zero, List.set_cons_succ, List.getElem_toArray, List.getElem_cons_succ, List.getElem_cons_zero]
   first
     | (refine wpAnyH_take (i := 5) (v := ?_) rfl (by kernel_rfl) (by kernel_rfl) (by kernel_rfl) (fun _ _ _ h => h) (Or.inl ⟨by rfl, ?_⟩) (by assumption) ?_; rotate_left; · (intro w' hSw; go_simp; try rfl))
     | (refine wpAnyH_take (i := 5) rfl (by kernel_rfl) (by kernel_rfl) (by kernel_rfl) (fun _ _ _ h => h) (Or.inr ⟨by rfl, rfl⟩) (by assumption) ?_)
   simp only [Act.put, List.setIfInBounds_toArray, List.set_cons_zero, List.set_cons_succ, List.getElem_toArray, List.getElem_cons_succ, List.getElem_cons_zero]
   first
     | (refine wpAnyH_take (i := 6) (v := ?_) rfl (by kernel_rfl) (by kernel_rfl) (by kernel_rfl) (fun _ _ _ h => h) (Or.inl ⟨by rfl, ?_⟩) (by assumption) ?_; rotate_left; · (intro w' hSw; go_simp; try rfl))
     | (refine wpAnyH_take (i := 6) rfl (by kernel_rfl) (by kernel_rfl) (by kernel_rfl) (fun _ _ _ h => h) (Or.inr ⟨by rfl, rfl⟩) (by assumption) ?_)
   simp only [Act.put, List.setIfInBounds_toArray, List.set_cons_zero, List.set_cons_succ, List.getElem_toArray, List.getElem_cons_succ, List.getElem_cons_zero]
   first
     | (refine wpAnyH_take (i := 7) (v := ?_) rfl (by kernel_rfl) (by kernel_rfl) (by kernel_rfl) (fun _ _ _ h => h) (Or.inl ⟨by rfl, ?_⟩) (by assumption) ?_; rotate_left; · (intro w' hSw; go_simp; try rfl))
     | (refine wpAnyH_take (i := 7) rfl (by kernel_rfl) (by kernel_rfl) (by kernel_rfl) (fun _ _ _ h => h) (Or.inr ⟨by rfl, rfl⟩) (by assumption) ?_)
   simp only [Act.put, List.setIfInBounds_toArray, List.set_cons_zero, List.set_cons_succ, List.getElem_toArray, List.getElem_cons_succ, List.getElem_cons_zero]
   first
     | (refine wpAnyH_take (i := 8) (v := ?_) rfl (by kernel_rfl) (by kernel_rfl) (by kernel_rfl) (fun _ _ _ h => h) (Or.inl ⟨by rfl, ?_⟩) (by assumption) ?_; rotate_left; · (intro w' hSw; go_simp; try rfl))
     | (refine wpAnyH_take (i := 8) rfl (by kernel_rfl) (by kernel_rfl) (by kernel_rfl) (fun _ _ _ h => h) (Or.inr ⟨by rfl, rfl⟩) (by assumption) ?_)
   simp only [Act.put, List.setIfInBounds_toArray, List.set_cons_zero, List.set_cons_succ, List.getElem_toArray, List.getElem_cons_succ, List.getElem_cons_zero]
   first
     | (refine wpAnyH_take (i := 9) (v := ?_) rfl (by kernel_rfl) (by kernel_rfl) (by kernel_rfl) (fun _ _ _ h => h) (Or.inl ⟨by rfl, ?_⟩) (by assumption) ?_; rotate_left; · (intro w' hSw; go_simp; try rfl))
     | (refine wpAnyH_take (i := 9) rfl (by kernel_rfl) (by kernel_rfl) (by kernel_rfl) (fun _ _ _ h => h) (Or.inr ⟨by rfl, rfl⟩) (by assumption) ?_)
   simp only [Act.put, List.setIfInBounds_toArray, List.set_cons_zero, List.set_cons_succ, List.getElem_toArray, List.getElem_cons_succ, List.getElem_cons_zero]
   first
     | (refine wpAnyH_take (i := 10) (v := ?_) rfl (by kernel_rfl) (by kernel_rfl) (by kernel_rfl) (fun _ _ _ h => h) (Or.inl ⟨by rfl, ?_⟩) (by assumption) ?_; rotate_left; · (intro w' hSw; go_simp; try rfl))
     | (refine wpAnyH_take (i := 10) rfl (by kernel_rfl) (by kernel_rfl) (by kernel_rfl) (fun _ _ _ h => h) (Or.inr ⟨by rfl, rfl⟩) (by assumption) ?_)
   simp only [Act.put, List.setIfInBounds_toArray, List.set_cons_zero, List.set_cons_succ, List.getElem_toArray, List.getElem_cons_succ, List.getElem_cons_zero]
   first
     | (refine wpAnyH_take (i := 11) (v := ?_) rfl (by kernel_rfl) (by kernel_rfl) (by kernel_rfl) (fun _ _ _ h => h) (Or.inl ⟨by rfl, ?_⟩) (by assumption) ?_; rotate_left; · (intro w' hSw; go_simp; try rfl))
     | (refine wpAnyH_take (i := 11) rfl (by kernel_rfl) (by kernel_rfl) (by kernel_rfl) (fun _ _ _ h => h) (Or.inr ⟨by rfl, rfl⟩) (by assumption) ?_)
   simp only [Act.put, List.setIfInBounds_toArray, List.set_cons_zero, List.set_cons_succ, List.getElem_toArray, List.getElem_cons_succ, List.getElem_cons_zero]
   first
     | (refine wpAnyH_take (i := 12) (v := ?_) rfl (by kernel_rfl) (by kernel_rfl) (by kernel_rfl) (fun _ _ _ h => h) (Or.inl ⟨by rfl, ?_⟩) (by assumption) ?_; rotate_left; · (intro w' hSw; go_simp; try rfl))
     | (refine wpAnyH_take (i := 12) rfl (by kernel_rfl) (by kernel_rfl) (by kernel_rfl) (fun _ _ _ h => h) (Or.inr ⟨by rfl, rfl⟩) (by assumption) ?_)
   simp only [Act.put, List.setIfInBounds_toArray, List.set_cons_zero, List.set_cons_succ, List.getElem_toArray, List.getElem_cons_succ, List.getElem_cons_zero]
   refine wpAnyH_ready (rs := [13]) (by kernel_rfl) (by simp) ?_
   refine AllReadyH.cons rfl (fun K hK => ?_) AllReadyH.nil
   go_simp
   refine (HV.out _ hHeld).mono ?_
   rintro e w8 ⟨rfl, hb⟩
   have hHeld : Below w5.heap.size w5 w8 := hHeld.trans (hb.mono hHeld.size)
   refine hK.out _ _ hHeld (fun hHeld => ?_)
   clear hK K hb
   try simp only [Act.put, List.setIfInBounds_toArray, List.set_cons_zero, List.set_cons_succ, List.getElem_toArray, List.getElem_cons_succ, List.getElem_cons_zero]
   first
     | (refine wpAnyH_take (i := 14) (v := ?_) rfl (by kernel_rfl) (by kernel_rfl) (by kernel_rfl) (fun _ _ _ h => h) (Or.inl ⟨by rfl, ?_⟩) (by assumption) ?_; rotate_left; · (intro w' hSw; go_simp; try rfl))
     | (refine wpAnyH_take (i := 14) rfl (by kernel_rfl) (by kernel_rfl) (by kernel_rfl) (fun _ _ _ h => h) (Or.inr ⟨by rfl, rfl⟩) (by assumption) ?_)
   simp only [Act.put, List.setIfInBounds_toArray, List.set_cons_zero, List.set_cons_succ, List.getElem_toArray, List.getElem_cons_succ, List.getElem_cons_zero]
   first
     | (refine wpAnyH_take (i := 15) (v := ?_) rfl (by kernel_rfl) (by kernel_rfl) (by kernel_rfl) (fun _ _ _ h => h) (Or.inl ⟨by rfl, ?_⟩) (by assumption) ?_; rotate_left; · (intro w' hSw; go_simp; try rfl))
     | (refine wpAnyH_take (i := 15) rfl (by kernel_rfl) (by kernel_rfl) (by kernel_rfl) (fun _ _ _ h => h) (Or.inr ⟨by rfl, rfl⟩) (by assumption) ?_)
   simp only [Act.put, List.setIfInBounds_toArray, List.set_cons_zero, List.set_cons_succ, List.getElem_toArray, List.getElem_cons_succ, List.getElem_cons_zero]
   refine wpAnyH_done (by kernel_rfl) ?_ _
   go_wp2_with fail
   go_ret
   exact ⟨rfl, HB.out.trans ((H5.out.trans (hHeld.mono H5.out.size)).mono HB.out.size)⟩
end Go.Proofs.Ytpjaahojoabgjaa.trw
end
section
namespace Go.Proofs.Ytpjaahojoabgjaa.trw
open Go Go.RowKit Go.ChangeShapes Go.WideShapes trp
instance : Inhabited Lab := ⟨⟨0, 0, 0, .bool false, [], false, 0, 0, 0, ⟨#[]⟩, 0, 0, .bool false⟩⟩
instance : Inhabited F := ⟨.nil⟩
section
variable {H : Type} {enc : TypeId × Value → H} {W : World}
end
end Go.Proofs.Ytpjaahojoabgjaa.trw
end
