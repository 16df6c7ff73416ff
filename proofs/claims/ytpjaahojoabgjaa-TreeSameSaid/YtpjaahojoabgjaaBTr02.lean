/- Texts that TreeCountsLaw leans on, merged: what the functions of the program answer. -/
import Derived.Deep.RegionHeld3
import Derived.Laws.OwnMore
import Derived.Maps.AppendAt
import Derived.OwnWalk
import Derived.Test.YtpjaahojoabgjaaBTr01
section
namespace Go.Proofs.Ytpjaahojoabgjaa.trw
open Go Go.RowKit trp
set_option maxRecDepth 100000 in
set_option maxHeartbeats 4000000 in
theorem rep_any (x : Lab) (k : F) (w : World) (hd : NdAt w (x, k)) (hl : k.len = 1) : Calls Try.prog 45 #[ndV x] w (BoolB (repP x k) w) := by
 obtain ⟨hlab, hrg, hkd⟩ := hd
 obtain ⟨a, cap, hkv⟩ := kids_len hkd
 obtain ⟨xk, xa, xc, xs, xset, xneg, xn, xm, xmode, xname, xon, xoff, xkv⟩ := x
 simp only at hkd hkv hrg hlab
 subst hkv
 obtain ⟨R, hR⟩ : ∃ R, repP (⟨xk, xa, xc, xs, xset, xneg, xn, xm, xmode, xname, xon, xoff, .slice a k.len cap⟩) k = R := ⟨_, rfl⟩
 rw [hR]
 have HM := Lib.hid (show (wi xn 0 255 && (decide (xm = -1) || wi xm xn 255) && wi xmode 0 2 && repK k.hd) = R by rw [← hR]; rfl)
 obtain ⟨b, o, rfl, hc⟩ := hd_at hkd (by omega)
 clear hkd hrg hlab hR
 rw [hl]
 generalize k.hd = q at *
 unfold ndV
 go_enter Try.func45, Try.ntmps45
 go_wp2_with fail
 refine (within_any _ _ _ _).mono ?_
 rintro e w2 ⟨rfl, hb2⟩
 have c5 := below_cell hb2 (a := ⟨w.heap.size, 5, none⟩) (v := .int .i64 xn) (by simp)
 have c6 := below_cell hb2 (a := ⟨w.heap.size, 6, none⟩) (v := .int .i64 xm) (by simp)
 have c7 := below_cell hb2 (a := ⟨w.heap.size, 7, none⟩) (v := .int .i64 xmode) (by simp)
 have c11 := below_cell hb2 (a := ⟨w.heap.size, 11, none⟩) (v := .slice (some ⟨b, o, none⟩) 1 cap) (by simp)
 have hc := below_cell (below_box hb2) hc
 have HB := Lib.hid (below_box hb2)
 clear hb2
 cases h1 : wi xn 0 255 with
 | false =>
   rw [h1] at HM
   clear h1
   go_wp2_with fail
   go_ret
   exact ⟨by rw [← HM.out]; rfl, HB.out⟩
 | true =>
   rw [h1] at HM
   simp only [Bool.true_and] at HM
   clear h1
   obtain ⟨M, hM⟩ : ∃ M, w.heap.size = M := ⟨_, rfl⟩
   rw [hM] at c5 c6 c7 c11 ⊢
   clear hM
   have FIN : ∀ w3, Below w.heap.size w w3 → w3.cell? ⟨M, 7, none⟩ = some (.int .i64 xmode) → w3.cell? ⟨M, 11, none⟩ = some (.slice (some ⟨b, o, none⟩) 1 cap) → w3.cell? ⟨b, o, none⟩ = some (.int .i64 q) → True := fun _ _ _ _ _ => trivial
   clear FIN
   by_cases h2 : xm = -1
   · subst h2
     have HM := Lib.hid (show (wi xmode 0 2 && repK q) = R by rw [← HM.out]; rfl)
     go_wp2_with fail
     refine (within_any _ _ _ _).mono ?_
     rintro e w3 ⟨rfl, hb3⟩
     have c11 := below_cell hb3 c11
     have hc := below_cell hb3 hc
     cases h4 : wi xmode 0 2 with
     | false =>
       rw [h4] at HM
       clear h4
       go_wp2_with fail
       go_ret
       exact ⟨by rw [← HM.out]; rfl, below_trans HB.out hb3⟩
     | true =>
       rw [h4] at HM
       clear h4
       go_wp2_with fail
       refine (repeatable_any _ _).mono ?_
       rintro e w4 ⟨rfl, hb4⟩
       go_wp2_with fail
       go_ret
       exact ⟨by rw [← HM.out]; rfl, below_trans (below_trans HB.out hb3) hb4⟩
   · have e1 : (xm == -1) = false := by simp; omega
     have HM := Lib.hid (show (wi xm xn 255 && wi xmode 0 2 && repK q) = R by rw [← HM.out]; simp [h2])
     go_wp2_with fail
     refine (within_any _ _ _ _).mono ?_
     rintro e w3 ⟨rfl, hb3⟩
     have c7 := below_cell hb3 c7
     have c11 := below_cell hb3 c11
     have hc := below_cell hb3 hc
     cases h3 : wi xm xn 255 with
     | false =>
       rw [h3] at HM
       clear h3
       go_wp2_with fail
       go_ret
       exact ⟨by rw [← HM.out]; rfl, below_trans HB.out hb3⟩
     | true =>
       rw [h3] at HM
       clear h3
       go_wp2_with fail
       refine (within_any _ _ _ _).mono ?_
       rintro e w4 ⟨rfl, hb4⟩
       have c11 := below_cell hb4 c11
       have hc := below_cell hb4 hc
       cases h4 : wi xmode 0 2 with
       | false =>
         rw [h4] at HM
         clear h4
         go_wp2_with fail
         go_ret
         exact ⟨by rw [← HM.out]; rfl, below_trans (below_trans HB.out hb3) hb4⟩
       | true =>
         rw [h4] at HM
         clear h4
         go_wp2_with fail
         refine (repeatable_any _ _).mono ?_
         rintro e w5 ⟨rfl, hb5⟩
         go_wp2_with fail
         go_ret
         exact ⟨by rw [← HM.out]; rfl, below_trans (below_trans (below_trans HB.out hb3) hb4) hb5⟩
end Go.Proofs.Ytpjaahojoabgjaa.trw
end
section
namespace Go.Proofs.Ytpjaahojoabgjaa.trw
open Go Go.RowKit trp
set_option maxRecDepth 100000 in
set_option maxHeartbeats 4000000 in
theorem fits_12 (x : Lab) (k : F) (w : World) (hd : NdAt w (x, k)) (hk : x.kind = 12) : Calls Try.prog 37 #[ndV x] w (BoolB (mayP (x, k)) w) := by
 obtain ⟨hlab, hrg, hkd⟩ := hd
 obtain ⟨a, cap, hkv⟩ := kids_len hkd
 obtain ⟨xk, xa, xc, xs, xset, xneg, xn, xm, xmode, xname, xon, xoff, xkv⟩ := x
 simp only at hkd hkv hrg hlab hk
 subst hkv
 subst hk
 obtain ⟨R, hR⟩ : ∃ R, mayP (⟨12, xa, xc, xs, xset, xneg, xn, xm, xmode, xname, xon, xoff, .slice a k.len cap⟩, k) = R := ⟨_, rfl⟩
 rw [hR]
 have HM := Lib.hid (show (decide (k.len ≠ 1)) = R by rw [← hR]; rfl)
 obtain ⟨n, hn⟩ : ∃ n, k.len = n := ⟨_, rfl⟩
 rw [hn] at HM ⊢
 clear hkd hrg hlab hn hR
 unfold ndV
 go_enter Try.func37, Try.ntmps37
 go_wp2_with fail
 all_goals go_ret
 all_goals refine ⟨?_, below_alloc w _⟩
 all_goals
   rw [← HM.out]
   first
     | rfl
     | (refine congrArg (fun b => Ending.returned (Value.bool b)) ?_; rw [Bool.eq_iff_iff]; simp; done)
     | (refine congrArg (fun b => Ending.returned (Value.bool b)) ?_; rw [Bool.eq_iff_iff]; simp; omega)
set_option maxRecDepth 100000 in
set_option maxHeartbeats 4000000 in
theorem fits_13 (x : Lab) (k : F) (w : World) (hd : NdAt w (x, k)) (hk : x.kind = 13) : Calls Try.prog 37 #[ndV x] w (BoolB (mayP (x, k)) w) := by
 obtain ⟨hlab, hrg, hkd⟩ := hd
 obtain ⟨a, cap, hkv⟩ := kids_len hkd
 obtain ⟨xk, xa, xc, xs, xset, xneg, xn, xm, xmode, xname, xon, xoff, xkv⟩ := x
 simp only at hkd hkv hrg hlab hk
 subst hkv
 subst hk
 obtain ⟨R, hR⟩ : ∃ R, mayP (⟨13, xa, xc, xs, xset, xneg, xn, xm, xmode, xname, xon, xoff, .slice a k.len cap⟩, k) = R := ⟨_, rfl⟩
 rw [hR]
 have HM := Lib.hid (show (decide (2 ≤ k.len)) = R by rw [← hR]; rfl)
 obtain ⟨n, hn⟩ : ∃ n, k.len = n := ⟨_, rfl⟩
 rw [hn] at HM ⊢
 clear hkd hrg hlab hn hR
 unfold ndV
 go_enter Try.func37, Try.ntmps37
 go_wp2_with fail
 all_goals go_ret
 all_goals refine ⟨?_, below_alloc w _⟩
 all_goals
   rw [← HM.out]
   first
     | rfl
     | (refine congrArg (fun b => Ending.returned (Value.bool b)) ?_; rw [Bool.eq_iff_iff]; simp; done)
     | (refine congrArg (fun b => Ending.returned (Value.bool b)) ?_; rw [Bool.eq_iff_iff]; simp; omega)
set_option maxRecDepth 100000 in
set_option maxHeartbeats 4000000 in
theorem fits_16 (x : Lab) (k : F) (w : World) (hd : NdAt w (x, k)) (hk : x.kind = 16) : Calls Try.prog 37 #[ndV x] w (BoolB (mayP (x, k)) w) := by
 obtain ⟨hlab, hrg, hkd⟩ := hd
 obtain ⟨a, cap, hkv⟩ := kids_len hkd
 obtain ⟨xk, xa, xc, xs, xset, xneg, xn, xm, xmode, xname, xon, xoff, xkv⟩ := x
 simp only at hkd hkv hrg hlab hk
 subst hkv
 subst hk
 obtain ⟨R, hR⟩ : ∃ R, mayP (⟨16, xa, xc, xs, xset, xneg, xn, xm, xmode, xname, xon, xoff, .slice a k.len cap⟩, k) = R := ⟨_, rfl⟩
 rw [hR]
 have HM := Lib.hid (show (decide (1 ≤ k.len)) = R by rw [← hR]; rfl)
 obtain ⟨n, hn⟩ : ∃ n, k.len = n := ⟨_, rfl⟩
 rw [hn] at HM ⊢
 clear hkd hrg hlab hn hR
 unfold ndV
 go_enter Try.func37, Try.ntmps37
 go_wp2_with fail
 all_goals go_ret
 all_goals refine ⟨?_, below_alloc w _⟩
 all_goals
   rw [← HM.out]
   first
     | rfl
     | (refine congrArg (fun b => Ending.returned (Value.bool b)) ?_; rw [Bool.eq_iff_iff]; simp; done)
     | (refine congrArg (fun b => Ending.returned (Value.bool b)) ?_; rw [Bool.eq_iff_iff]; simp; omega)
set_option maxRecDepth 100000 in
set_option maxHeartbeats 4000000 in
theorem fits_14 (x : Lab) (k : F) (w : World) (hd : NdAt w (x, k)) (hk : x.kind = 14) : Calls Try.prog 37 #[ndV x] w (BoolB (mayP (x, k)) w) := by
 obtain ⟨hlab, hrg, hkd⟩ := hd
 obtain ⟨a, cap, hkv⟩ := kids_len hkd
 obtain ⟨xk, xa, xc, xs, xset, xneg, xn, xm, xmode, xname, xon, xoff, xkv⟩ := x
 simp only at hkd hkv hrg hlab hk
 subst hkv
 subst hk
 obtain ⟨R, hR⟩ : ∃ R, mayP (⟨14, xa, xc, xs, xset, xneg, xn, xm, xmode, xname, xon, xoff, .slice a k.len cap⟩, k) = R := ⟨_, rfl⟩
 rw [hR]
 have HM := Lib.hid (show (decide (k.len = 1)) = R by rw [← hR]; rfl)
 obtain ⟨n, hn⟩ : ∃ n, k.len = n := ⟨_, rfl⟩
 rw [hn] at HM ⊢
 clear hkd hrg hlab hn hR
 unfold ndV
 go_enter Try.func37, Try.ntmps37
 go_wp2_with fail
 all_goals go_ret
 all_goals refine ⟨?_, below_alloc w _⟩
 all_goals
   rw [← HM.out]
   first
     | rfl
     | (refine congrArg (fun b => Ending.returned (Value.bool b)) ?_; rw [Bool.eq_iff_iff]; simp; done)
     | (refine congrArg (fun b => Ending.returned (Value.bool b)) ?_; rw [Bool.eq_iff_iff]; simp; omega)
set_option maxRecDepth 100000 in
set_option maxHeartbeats 4000000 in
theorem fits_15 (x : Lab) (k : F) (w : World) (hd : NdAt w (x, k)) (hk : x.kind = 15) : Calls Try.prog 37 #[ndV x] w (BoolB (mayP (x, k)) w) := by
 obtain ⟨hlab, hrg, hkd⟩ := hd
 obtain ⟨a, cap, hkv⟩ := kids_len hkd
 obtain ⟨xk, xa, xc, xs, xset, xneg, xn, xm, xmode, xname, xon, xoff, xkv⟩ := x
 simp only at hkd hkv hrg hlab hk
 subst hkv
 subst hk
 obtain ⟨R, hR⟩ : ∃ R, mayP (⟨15, xa, xc, xs, xset, xneg, xn, xm, xmode, xname, xon, xoff, .slice a k.len cap⟩, k) = R := ⟨_, rfl⟩
 rw [hR]
 have HM := Lib.hid (show (decide (k.len = 1)) = R by rw [← hR]; rfl)
 obtain ⟨n, hn⟩ : ∃ n, k.len = n := ⟨_, rfl⟩
 rw [hn] at HM ⊢
 clear hkd hrg hlab hn hR
 unfold ndV
 go_enter Try.func37, Try.ntmps37
 go_wp2_with fail
 all_goals go_ret
 all_goals refine ⟨?_, below_alloc w _⟩
 all_goals
   rw [← HM.out]
   first
     | rfl
     | (refine congrArg (fun b => Ending.returned (Value.bool b)) ?_; rw [Bool.eq_iff_iff]; simp; done)
     | (refine congrArg (fun b => Ending.returned (Value.bool b)) ?_; rw [Bool.eq_iff_iff]; simp; omega)
set_option maxRecDepth 100000 in
set_option maxHeartbeats 4000000 in
theorem fits_17 (x : Lab) (k : F) (w : World) (hd : NdAt w (x, k)) (hk : x.kind = 17) : Calls Try.prog 37 #[ndV x] w (BoolB (mayP (x, k)) w) := by
 obtain ⟨hlab, hrg, hkd⟩ := hd
 obtain ⟨a, cap, hkv⟩ := kids_len hkd
 obtain ⟨xk, xa, xc, xs, xset, xneg, xn, xm, xmode, xname, xon, xoff, xkv⟩ := x
 simp only at hkd hkv hrg hlab hk
 subst hkv
 subst hk
 obtain ⟨R, hR⟩ : ∃ R, mayP (⟨17, xa, xc, xs, xset, xneg, xn, xm, xmode, xname, xon, xoff, .slice a k.len cap⟩, k) = R := ⟨_, rfl⟩
 rw [hR]
 have HM := Lib.hid (show (decide (k.len = 1)) = R by rw [← hR]; rfl)
 obtain ⟨n, hn⟩ : ∃ n, k.len = n := ⟨_, rfl⟩
 rw [hn] at HM ⊢
 clear hkd hrg hlab hn hR
 unfold ndV
 go_enter Try.func37, Try.ntmps37
 go_wp2_with fail
 all_goals go_ret
 all_goals refine ⟨?_, below_alloc w _⟩
 all_goals
   rw [← HM.out]
   first
     | rfl
     | (refine congrArg (fun b => Ending.returned (Value.bool b)) ?_; rw [Bool.eq_iff_iff]; simp; done)
     | (refine congrArg (fun b => Ending.returned (Value.bool b)) ?_; rw [Bool.eq_iff_iff]; simp; omega)
set_option maxRecDepth 100000 in
set_option maxHeartbeats 4000000 in
theorem fits_18 (x : Lab) (k : F) (w : World) (hd : NdAt w (x, k)) (hk : x.kind = 18) : Calls Try.prog 37 #[ndV x] w (BoolB (mayP (x, k)) w) := by
 obtain ⟨hlab, hrg, hkd⟩ := hd
 obtain ⟨a, cap, hkv⟩ := kids_len hkd
 obtain ⟨xk, xa, xc, xs, xset, xneg, xn, xm, xmode, xname, xon, xoff, xkv⟩ := x
 simp only at hkd hkv hrg hlab hk
 subst hkv
 subst hk
 obtain ⟨R, hR⟩ : ∃ R, mayP (⟨18, xa, xc, xs, xset, xneg, xn, xm, xmode, xname, xon, xoff, .slice a k.len cap⟩, k) = R := ⟨_, rfl⟩
 rw [hR]
 have HM := Lib.hid (show (decide (k.len = 1) && wi xn 5 8) = R by rw [← hR]; rfl)
 obtain ⟨n, hn⟩ : ∃ n, k.len = n := ⟨_, rfl⟩
 rw [hn] at HM ⊢
 clear hkd hrg hlab hn hR
 unfold ndV
 go_enter Try.func37, Try.ntmps37
 by_cases h1 : n = 1
 · subst h1
   go_wp2_with fail
   refine (within_any _ _ _ _).mono ?_
   rintro e w2 ⟨rfl, hb2⟩
   go_wp2_with fail
   go_ret
   exact ⟨by rw [← HM.out]; rfl, below_box hb2⟩
 · have e1 : ((n : Int) == 1) = false := by simp; omega
   go_wp2_with fail
   go_ret
   refine ⟨?_, below_alloc w _⟩
   rw [← HM.out]
   simp [h1]
set_option maxRecDepth 100000 in
set_option maxHeartbeats 4000000 in
theorem fits_19 (x : Lab) (k : F) (w : World) (hd : NdAt w (x, k)) (hk : x.kind = 19) : Calls Try.prog 37 #[ndV x] w (BoolB (mayP (x, k)) w) := by
 have HC := Lib.hid (fun w1 (hb : Below w.heap.size w w1) => cond_any x k w1 (below_nd hb hd))
 obtain ⟨hlab, hrg, hkd⟩ := hd
 obtain ⟨a, cap, hkv⟩ := kids_len hkd
 obtain ⟨xk, xa, xc, xs, xset, xneg, xn, xm, xmode, xname, xon, xoff, xkv⟩ := x
 simp only at hkd hkv hrg hlab hk
 subst hkv
 subst hk
 obtain ⟨R, hR⟩ : ∃ R, mayP (⟨19, xa, xc, xs, xset, xneg, xn, xm, xmode, xname, xon, xoff, .slice a k.len cap⟩, k) = R := ⟨_, rfl⟩
 rw [hR]
 have HM := Lib.hid (show (condP ⟨19, xa, xc, xs, xset, xneg, xn, xm, xmode, xname, xon, xoff, .slice a k.len cap⟩ k) = R by rw [← hR]; rfl)
 clear hkd hrg hlab hR
 unfold ndV at HC ⊢
 go_enter Try.func37, Try.ntmps37
 go_wp2_with fail
 refine (HC.out _ (below_alloc w _)).mono ?_
 rintro e w2 ⟨rfl, hb2⟩
 go_wp2_with fail
 go_ret
 exact ⟨by rw [← HM.out]; rfl, below_box hb2⟩
set_option maxRecDepth 100000 in
set_option maxHeartbeats 4000000 in
theorem fits_20 (x : Lab) (k : F) (w : World) (hd : NdAt w (x, k)) (hk : x.kind = 20) : Calls Try.prog 37 #[ndV x] w (BoolB (mayP (x, k)) w) := by
 have HC := Lib.hid (fun w1 (hb : Below w.heap.size w w1) (hl : k.len = 1) => rep_any x k w1 (below_nd hb hd) hl)
 obtain ⟨hlab, hrg, hkd⟩ := hd
 obtain ⟨a, cap, hkv⟩ := kids_len hkd
 obtain ⟨xk, xa, xc, xs, xset, xneg, xn, xm, xmode, xname, xon, xoff, xkv⟩ := x
 simp only at hkd hkv hrg hlab hk
 subst hkv
 subst hk
 obtain ⟨R, hR⟩ : ∃ R, mayP (⟨20, xa, xc, xs, xset, xneg, xn, xm, xmode, xname, xon, xoff, .slice a k.len cap⟩, k) = R := ⟨_, rfl⟩
 rw [hR]
 have HM := Lib.hid (show (decide (k.len = 1) && repP ⟨20, xa, xc, xs, xset, xneg, xn, xm, xmode, xname, xon, xoff, .slice a k.len cap⟩ k) = R by rw [← hR]; rfl)
 clear hkd hrg hlab hR
 unfold ndV at HC ⊢
 by_cases h1 : k.len = 1
 · have HC1 := Lib.hid (HC.out _ (below_alloc w (.cells #[.int .i64 20, .int .i64 xa, .int .i64 xc, xs, .bool xneg, .int .i64 xn, .int .i64 xm, .int .i64 xmode, .string xname, .int .i64 xon, .int .i64 xoff, .slice a k.len cap] 25)) h1)
   have HM1 := Lib.hid (show repP ⟨20, xa, xc, xs, xset, xneg, xn, xm, xmode, xname, xon, xoff, .slice a k.len cap⟩ k = R by rw [← HM.out, h1]; simp)
   rw [h1] at HC1 HM1 ⊢
   clear HC HM
   go_enter Try.func37, Try.ntmps37
   go_wp2_with fail
   refine HC1.out.mono ?_
   rintro e w2 ⟨rfl, hb2⟩
   go_wp2_with fail
   go_ret
   exact ⟨by rw [← HM1.out]; rfl, below_box hb2⟩
 · have HM1 := Lib.hid (show false = R by rw [← HM.out]; simp [h1])
   obtain ⟨n, hn⟩ : ∃ n, k.len = n := ⟨_, rfl⟩
   rw [hn] at h1 ⊢
   have e1 : ((n : Int) == 1) = false := by simp; omega
   clear HC HM hn
   go_enter Try.func37, Try.ntmps37
   go_wp2_with fail
   go_ret
   exact ⟨by rw [← HM1.out]; rfl, below_alloc w _⟩
set_option maxRecDepth 100000 in
set_option maxHeartbeats 4000000 in
theorem fits_leaf (x : Lab) (k : F) (w : World) (hd : NdAt w (x, k)) (hk : x.kind < 12 ∨ 20 < x.kind) : Calls Try.prog 37 #[ndV x] w (BoolB (mayP (x, k)) w) := by
 have HC := Lib.hid (fun w1 (hb : Below w.heap.size w w1) => leaf_any x k w1 (below_nd hb hd))
 obtain ⟨hlab, hrg, hkd⟩ := hd
 obtain ⟨a, cap, hkv⟩ := kids_len hkd
 obtain ⟨xk, xa, xc, xs, xset, xneg, xn, xm, xmode, xname, xon, xoff, xkv⟩ := x
 simp only at hkd hkv hrg hlab hk
 subst hkv
 obtain ⟨R, hR⟩ : ∃ R, mayP (⟨xk, xa, xc, xs, xset, xneg, xn, xm, xmode, xname, xon, xoff, .slice a k.len cap⟩, k) = R := ⟨_, rfl⟩
 rw [hR]
 have HM := Lib.hid (show (decide (k.len = 0) && leafP ⟨xk, xa, xc, xs, xset, xneg, xn, xm, xmode, xname, xon, xoff, .slice a k.len cap⟩) = R by
   rw [← hR]
   unfold mayP
   simp only
   rw [if_neg (by omega), if_neg (by omega), if_neg (by omega), if_neg (by omega), if_neg (by omega), if_neg (by omega), if_neg (by omega)])
 have n12 : (xk == 12) = false := by simp; omega
 have n13 : (xk == 13) = false := by simp; omega
 have n14 : (xk == 14) = false := by simp; omega
 have n15 : (xk == 15) = false := by simp; omega
 have n16 : (xk == 16) = false := by simp; omega
 have n17 : (xk == 17) = false := by simp; omega
 have n18 : (xk == 18) = false := by simp; omega
 have n19 : (xk == 19) = false := by simp; omega
 have n20 : (xk == 20) = false := by simp; omega
 clear hkd hrg hlab hR hk
 unfold ndV at HC ⊢
 by_cases h1 : k.len = 0
 · have HC1 := Lib.hid (HC.out _ (below_alloc w (.cells #[.int .i64 xk, .int .i64 xa, .int .i64 xc, xs, .bool xneg, .int .i64 xn, .int .i64 xm, .int .i64 xmode, .string xname, .int .i64 xon, .int .i64 xoff, .slice a k.len cap] 25)))
   have HM1 := Lib.hid (show leafP ⟨xk, xa, xc, xs, xset, xneg, xn, xm, xmode, xname, xon, xoff, .slice a k.len cap⟩ = R by rw [← HM.out, h1]; simp)
   rw [h1] at HC1 HM1 ⊢
   clear HC HM
   go_enter Try.func37, Try.ntmps37
   go_wp2_with fail
   refine HC1.out.mono ?_
   rintro e w2 ⟨rfl, hb2⟩
   go_wp2_with fail
   go_ret
   exact ⟨by rw [← HM1.out]; rfl, below_box hb2⟩
 · have HM1 := Lib.hid (show false = R by rw [← HM.out]; simp [h1])
   obtain ⟨n, hn⟩ : ∃ n, k.len = n := ⟨_, rfl⟩
   rw [hn] at h1 ⊢
   have e1 : ((n : Int) == 0) = false := by simp; omega
   clear HC HM hn
   go_enter Try.func37, Try.ntmps37
   go_wp2_with fail
   go_ret
   exact ⟨by rw [← HM1.out]; rfl, below_alloc w _⟩
theorem fits_any (x : Lab) (k : F) (w : World) (hd : NdAt w (x, k)) : Calls Try.prog 37 #[ndV x] w (BoolB (mayP (x, k)) w) := by
 by_cases hno : x.kind < 12 ∨ 20 < x.kind
 · exact fits_leaf x k w hd hno
 by_cases k12 : x.kind = 12
 · exact fits_12 x k w hd k12
 by_cases k13 : x.kind = 13
 · exact fits_13 x k w hd k13
 by_cases k14 : x.kind = 14
 · exact fits_14 x k w hd k14
 by_cases k15 : x.kind = 15
 · exact fits_15 x k w hd k15
 by_cases k16 : x.kind = 16
 · exact fits_16 x k w hd k16
 by_cases k17 : x.kind = 17
 · exact fits_17 x k w hd k17
 by_cases k18 : x.kind = 18
 · exact fits_18 x k w hd k18
 by_cases k19 : x.kind = 19
 · exact fits_19 x k w hd k19
 exact fits_20 x k w hd (by omega)
end Go.Proofs.Ytpjaahojoabgjaa.trw
end
section
namespace Go.Proofs.Ytpjaahojoabgjaa.trw
open Go Go.RowKit trp
structure Fr where
 kv : Value
 f : F
 i : Nat
def ways (lo : List Fr) : List Nat := (lo.map (·.i)).reverse
def remLow : List Fr → List (Nd × List Nat)
 | [] => []
 | x :: lo => pre (ways lo) (x.i + 1) (x.f.drop (x.i + 1)) ++ remLow lo
def remTop : List Fr → List (Nd × List Nat)
 | [] => []
 | x :: lo => pre (ways lo) x.i (x.f.drop x.i) ++ remLow lo
theorem ways_cons (x : Fr) (lo : List Fr) : ways (x :: lo) = ways lo ++ [x.i] := by simp [ways]
theorem remTop_cons {x : Fr} {lo : List Fr} {y : Lab} {k r : F} (h : x.f.drop x.i = .cons y k r) : remTop (x :: lo) = ((y, k), ways (x :: lo)) :: (pre (ways (x :: lo)) 0 k ++ remLow (x :: lo)) := by
 show pre (ways lo) x.i (x.f.drop x.i) ++ remLow lo = _
 rw [h, pre, ways_cons]
 simp only [List.cons_append, List.append_assoc, remLow]
 rw [drop_succ h]
theorem remTop_push {x : Fr} {lo : List Fr} (kv : Value) (k : F) : remTop (⟨kv, k, 0⟩ :: x :: lo) = pre (ways (x :: lo)) 0 k ++ remLow (x :: lo) := by
 unfold remTop
 simp only [drop_zero]
theorem remLow_end {x : Fr} {lo : List Fr} (h : x.i + 1 = x.f.len) : remLow (x :: lo) = remLow lo := by
 show pre (ways lo) (x.i + 1) (x.f.drop (x.i + 1)) ++ remLow lo = _
 rw [drop_end (by omega), pre, List.nil_append]
theorem remLow_next {x : Fr} {lo : List Fr} : remLow (x :: lo) = remTop ({ x with i := x.i + 1 } :: lo) := rfl
structure Lk (S : Type) where
 P : List (Nd × List Nat)
 g : Nat
 lb : Array Value
 ans : Nat → Bool
 Inv : Nat → S → World → Prop
 Own : S → Nat → Prop
structure Chg {S : Type} (Own : S → Nat → Prop) (s s' : S) (w w' : World) : Prop where
 os : w'.os = w.os
 tape : w'.tape = w.tape
 output : w'.output = w.output
 size : w.heap.size ≤ w'.heap.size
 block : ∀ k, k < w.heap.size → ¬ Own s k → w'.heap[k]? = w.heap[k]?
 own : ∀ k, k < w.heap.size → Own s' k → Own s k
def NsAt (w : World) (v : Value) (l : List Nat) : Prop :=
 ∃ b o cap, v = .slice (some ⟨b, o, none⟩) l.length cap ∧ l.length ≤ cap ∧ cap ≤ 9223372036854775807 ∧ ∀ (i n : Nat), l[i]? = some n → w.cell? ⟨b, o + i, none⟩ = some (.int .i64 n)
def LookPost {S : Type} (L : Lk S) (i : Nat) (s : S) (w : World) (e : Ending) (w' : World) : Prop := e = .returned (.bool (L.ans i)) ∧ ∃ s', L.Inv (i + 1) s' w' ∧ Chg L.Own s s' w w'
structure LookOk {S : Type} (w0 : World) (L : Lk S) : Prop where
 eg : ∀ args w, (callFunc L.g args).run Try.prog w = .ok (.enter L.g args) w
 low : ∀ i s w k, L.Inv i s w → L.Own s k → w0.heap.size ≤ k ∧ k < w.heap.size
 stable : ∀ i s w w', L.Inv i s w → (∀ k, L.Own s k → w'.heap[k]? = w.heap[k]?) → w.heap.size ≤ w'.heap.size → L.Inv i s w'
 call : ∀ i q s w pv, L.P[i]? = some q → i < 4001 → (∀ j, j < i → L.ans j = true) → L.Inv i s w → Below w0.heap.size w0 w → NdAt w q.1 → NsAt w pv q.2.tail → Calls Try.prog L.g (#[ndV q.1.1, pv] ++ L.lb) w (LookPost L i s w)
def Stopped {S : Type} (L : Lk S) (m : Nat) : Prop := 1 ≤ m ∧ m ≤ 4001 ∧ m ≤ L.P.length ∧ (∀ i, i + 1 < m → L.ans i = true) ∧ (L.ans (m - 1) = false ∨ m = 4001 ∨ m = L.P.length)
def WalkPost {S : Type} (w0 : World) (L : Lk S) (s0 : S) (w : World) (e : Ending) (w' : World) : Prop := e = .returned (.tuple #[]) ∧ ∃ m s', Stopped L m ∧ L.Inv m s' w' ∧ Chg L.Own s0 s' w w' ∧ Below w0.heap.size w0 w'
theorem chg_trans {S : Type} {Own : S → Nat → Prop} {s0 s s' : S} {a w w' : World} (h : Chg Own s0 s a w) (k : Chg Own s s' w w') : Chg Own s0 s' a w' :=
 ⟨k.os.trans h.os, k.tape.trans h.tape, k.output.trans h.output, Nat.le_trans h.size k.size, fun b hb hn => (k.block b (Nat.lt_of_lt_of_le hb h.size) (fun ho => hn (h.own b hb ho))).trans (h.block b hb hn), fun b hb ho => h.own b hb (k.own b (Nat.lt_of_lt_of_le hb h.size) ho)⟩
theorem chg_step {S : Type} {Own : S → Nat → Prop} {s0 s : S} {a w w' : World} (h : Chg Own s0 s a w) (hb : Below a.heap.size w w') (_hs : a.heap.size ≤ w.heap.size) : Chg Own s0 s a w' :=
 ⟨hb.os.trans h.os, hb.tape.trans h.tape, hb.output.trans h.output, Nat.le_trans h.size hb.size, fun b hl hn => (hb.block b hl).trans (h.block b hl hn), h.own⟩
def RowAt (w0 : World) (N1 : Nat) (w : World) (kv : Value) (f : F) : Prop :=
 ∃ b o cap, kv = .slice (some ⟨b, o, none⟩) f.len cap ∧ f.len ≤ cap ∧ cap ≤ 140737488355328 ∧ (b < w0.heap.size ∨ b = N1) ∧ ∀ i y k r, f.drop i = .cons y k r → (∀ j v, (ndC y)[j]? = some v → w.cell? ⟨b, o + i * 12 + j, none⟩ = some v) ∧ NdAt w0 (y, k)
theorem rowAt_stay {w0 w w' : World} {N1 : Nat} {kv : Value} {f : F} (h : RowAt w0 N1 w kv f) (hs : ∀ b, b < w0.heap.size ∨ b = N1 → w'.heap[b]? = w.heap[b]?) : RowAt w0 N1 w' kv f := by
 obtain ⟨b, o, cap, h1, h2, h3, h4, h5⟩ := h
 refine ⟨b, o, cap, h1, h2, h3, h4, fun i y k r hd => ⟨fun j v hj => ?_, (h5 i y k r hd).2⟩⟩
 rw [World.cell?_of_block (a := ⟨b, o + i * 12 + j, none⟩) (hs b h4)]
 exact (h5 i y k r hd).1 j v hj
structure Open (w0 : World) (N1 base : Nat) (w : World) (rv av : Value) (fs : List Fr) : Prop where
 row : ∀ x ∈ fs, RowAt w0 N1 w x.kv x.f ∧ x.i < x.f.len
 rows : w.ownsRow base 23 1 rv fs.length (fs.map (·.kv)).reverse
 at_ : w.ownsRow base 3 1 av fs.length (fs.map fun x => Value.int .i64 x.i).reverse
theorem own_cut {w : World} {base : Nat} {e : TypeId} {g n cap : Nat} {xs : List Value} {x : Value} (h : w.ownsRow base e 1 (.slice (some ⟨g, 0, none⟩) (n + 1) cap) (n + 1) (xs ++ [x])) : w.ownsRow base e 1 (.slice (some ⟨g, 0, none⟩) n cap) n xs := by
 obtain ⟨h1, ⟨h, _⟩ | ⟨g', cap', cur, hv, hg, hh, hc, hm, hs, ht⟩⟩ := h
 · cases h
 · simp only [Value.slice.injEq, Option.some.injEq, Addr.mk.injEq, and_true, true_and] at hv
   obtain ⟨rfl, rfl⟩ := hv
   simp only [List.length_append, List.length_cons, List.length_nil] at h1
   refine ⟨by omega, Or.inr ⟨g, cap, cur, rfl, hg, hh, by omega, hm, hs, ?_⟩⟩
   have h2 : (cur.toList.take ((n + 1) * 1)).take n = (xs ++ [x]).take n := by rw [ht]
   rw [List.take_take] at h2
   rw [show n * 1 = min n ((n + 1) * 1) by omega, h2, List.take_append_of_le_length (by omega), List.take_of_length_le (by omega)]
theorem own_form {w : World} {base : Nat} {e : TypeId} {v : Value} {n : Nat} {xs : List Value} (h : w.ownsRow base e 1 v (n + 1) xs) : ∃ g cap, v = .slice (some ⟨g, 0, none⟩) (n + 1) cap ∧ base ≤ g ∧ g < w.heap.size ∧ n + 1 ≤ cap ∧ cap ≤ 9223372036854775807 := by
 obtain ⟨h1, ⟨_, h⟩ | ⟨g', cap', cur, hv, hg, hh, hc, hm, hs, ht⟩⟩ := h
 · omega
 · refine ⟨g', cap', hv, hg, ?_, hc, by unfold maxLen at hm; omega⟩
   apply Classical.byContradiction
   intro hn
   rw [Array.getElem?_eq_none (by omega)] at hh
   cases hh
end Go.Proofs.Ytpjaahojoabgjaa.trw
end
section
namespace Go.Proofs.Ytpjaahojoabgjaa.trw
open Go Go.RowKit trp
theorem node_one {w : World} {x : Lab} {k : F} (h : NdAt w (x, k)) : ∀ u ∈ (ndC x), u.oneCell' = true := by
 obtain ⟨a, c, h1, _⟩ := h.2.1
 obtain ⟨a', c', h2, _⟩ := h.2.2
 intro u hu
 simp only at h1 h2
 simp only [ndC, h1, h2, List.mem_cons, List.not_mem_nil, or_false] at hu
 rcases hu with rfl | rfl | rfl | rfl | rfl | rfl | rfl | rfl | rfl | rfl | rfl | rfl <;> rfl
theorem ownsRow_heap {w w' : World} {base : Nat} {e : TypeId} {size : Nat} {v : Value} {n : Nat} {xs : List Value} (h : w.ownsRow base e size v n xs) (hb : ∀ k, v.ownBlock = some k → w'.heap[k]? = w.heap[k]?) : w'.ownsRow base e size v n xs := by
 obtain ⟨h1, h2 | ⟨g, cap, cur, hv, hg, hh, r⟩⟩ := h
 · exact ⟨h1, Or.inl h2⟩
 · exact ⟨h1, Or.inr ⟨g, cap, cur, hv, hg, (hb g (by rw [hv]; rfl)).trans hh, r⟩⟩
theorem ob_apart {w : World} {b1 b2 : Nat} {e1 e2 : TypeId} {s1 s2 : Nat} {v1 v2 : Value} {n1 n2 : Nat} {x1 x2 : List Value} (h1 : w.ownsRow b1 e1 s1 v1 n1 x1) (h2 : w.ownsRow b2 e2 s2 v2 n2 x2) (he : e1 ≠ e2) : ∀ k, v1.ownBlock = some k → v2.ownBlock ≠ some k := by
 intro k h h'
 rcases h1.2 with ⟨rfl, _⟩ | ⟨g, _, _, rfl, _, hg, _⟩
 · cases h
 rcases h2.2 with ⟨rfl, _⟩ | ⟨g', _, _, rfl, _, hg', _⟩
 · cases h'
 simp only [Value.ownBlock, Option.some.injEq] at h h'
 subst h
 subst h'
 rw [hg] at hg'
 simp only [Option.some.injEq, Obj.cells.injEq] at hg'
 exact he hg'.2.1
theorem wpList_append_1 {ops : Array Oper} {rest : List Oper} {o : Oper} {a : Act} {w : World} {Q : Exit → Act → World → Prop} (hgd : o.guard = none) (s x : Operand) (t e : TypeId) (z : Value) (bytes : Nat)
   (ht : Try.prog.underlying t = some (.slice e)) (hinfo : (Try.prog.info? e).map (fun i => (i.zero, i.size, i.bytes)) = some (some z, 1, bytes)) (hz : z.cells.size = 1) (hby : bytes ≤ 100)
   (ho : o.op = .call { callee := .builtin .append, args := #[s, x], argTypes := #[t, t] }) (base : Nat) (v : Value) (n : Nat) (xs : List Value) (hs : a.eval s = v) (hown : w.ownsRow base e 1 v n xs)
   (u : Value) (hu : u.oneCell' = true) (B : Nat) (hx : a.eval x = .slice (some ⟨B, 0, none⟩) 1 1) (hB : B = w.heap.size) (hn : n ≤ 10000) (hbase : base ≤ w.heap.size)
   (h : ∀ v' w', w'.ownsRow base e 1 v' (n + 1) (xs ++ [u]) → w.grownBy w' v.ownBlock → (v'.ownBlock = v.ownBlock ∨ ∃ g, v'.ownBlock = some g ∧ w.heap.size ≤ g) → wpList Try.prog ops Q rest (a.put o.dst v') w') :
   wpList Try.prog ops Q (o :: rest) a (w.alloc (.cells #[u] e)) := by
 subst hB
 obtain ⟨i0, hi, hz0, hz1, hz2⟩ := info_parts hinfo
 refine wpList_append_own_at _ hgd s x t ho base e i0 z 1 bytes ht hi hz0 hz1 hz2 hz (by decide) v _ _ hs (World.ownsRow.alloc hown _) ⟨w.heap.size, 0, none⟩ 1 1 [u] hx rfl ?_ ?_ (by unfold maxLen; omega) ?_ (by rw [World.size_alloc]; omega) ?_
 · intro j q hj
   have hj0 : j = 0 := by
     cases j with
     | zero => rfl
     | succ j => simp at hj
   subst hj0
   simp only [List.getElem?_cons_zero, Option.some.injEq] at hj
   subst hj
   rw [add_plain, World.cell?_alloc_new]
   rfl
 · intro q hq
   simp only [List.mem_cons, List.not_mem_nil, or_false] at hq
   subst hq
   exact hu
 · have := Nat.mul_le_mul (show n + 1 ≤ 10001 by omega) hby
   omega
 · intro v' w' hown' hgr _ hat
   refine h v' w' (by simpa using hown') ((World.grownBy_alloc w _ _).trans hgr) ?_
   rcases hat with hat | hat
   · exact Or.inl hat
   · exact Or.inr ⟨_, hat, by simp⟩
theorem rowAt_old {w0 w' : World} {N1 : Nat} {kv : Value} {f : F} (h : KidsAt w0 kv f) (hl : 1 ≤ f.len) (hb : Below w0.heap.size w0 w') : RowAt w0 N1 w' kv f := by
 obtain ⟨a, cap, h1, h2, h3, h4 | ⟨b, o, h4, h5⟩⟩ := h
 · omega
 · subst h4
   refine ⟨b, o, cap, h1, h2, h3, Or.inl ?_, fun i y k r hd => ?_⟩
   · obtain ⟨x, k, r, hx⟩ := len_one hl
     subst hx
     exact cell_lt (h5.1 0 _ rfl)
   · have := fAt_drop i h5
     rw [hd] at this
     exact ⟨fun j v hj => below_cell hb (this.1 j v hj), fAt_head this⟩
structure Rel {S : Type} (w0 : World) (L : Lk S) (s0 : S) (w : World) (N1 j : Nat) (fs : List Fr) (s : S) (rv av : Value) (wr : World) : Prop where
 yes : ∀ i, i < j → L.ans i = true
 op : Open w0 N1 w.heap.size wr rv av fs
 inv : L.Inv j s wr
 bel : Below w0.heap.size w0 wr
 chg : Chg L.Own s0 s w wr
 na : ∀ b, rv.ownBlock = some b → ¬ L.Own s b ∧ b ≠ N1
 nb : ∀ b, av.ownBlock = some b → ¬ L.Own s b ∧ b ≠ N1
 nc : ¬ L.Own s N1
 n1 : w.heap.size ≤ N1 ∧ N1 < wr.heap.size
 w0w : w0.heap.size ≤ w.heap.size
section
variable {S : Type} {w0 w wr : World} {L : Lk S} {s0 s : S} {N1 j : Nat} {fs lo : List Fr} {X : Fr} {rv av : Value}
theorem rel_move (hL : LookOk w0 L) (h : Rel w0 L s0 w N1 j fs s rv av wr) {w' : World} {fs' : List Fr} {rv' av' : Value} (os : w'.os = wr.os) (tp : w'.tape = wr.tape) (ot : w'.output = wr.output) (sz : wr.heap.size ≤ w'.heap.size)
   (hb : ∀ k, k < wr.heap.size → rv.ownBlock ≠ some k → av.ownBlock ≠ some k → w'.heap[k]? = wr.heap[k]?) (ho : Open w0 N1 w.heap.size w' rv' av' fs')
   (ha : rv'.ownBlock = rv.ownBlock ∨ ∃ g, rv'.ownBlock = some g ∧ wr.heap.size ≤ g) (hb' : av'.ownBlock = av.ownBlock ∨ ∃ g, av'.ownBlock = some g ∧ wr.heap.size ≤ g) : Rel w0 L s0 w N1 j fs' s rv' av' w' := by
 have hsz := h.chg.size
 have lr := World.ownsRow.lt h.op.rows
 have la := World.ownsRow.lt h.op.at_
 have hbw : Below w.heap.size wr w' := ⟨os, tp, ot, sz, fun k hk => hb k (by omega) (fun e => by have := (lr k e).1; omega) (fun e => by have := (la k e).1; omega)⟩
 refine ⟨h.yes, ho, hL.stable j s wr w' h.inv (fun k hk => hb k (hL.low j s wr k h.inv hk).2 (fun e => (h.na k e).1 hk) (fun e => (h.nb k e).1 hk)) sz, h.bel.trans (hbw.mono h.w0w), chg_step h.chg hbw hsz, ?_, ?_, h.nc, ⟨h.n1.1, Nat.lt_of_lt_of_le h.n1.2 sz⟩, h.w0w⟩
 · intro b hb
   rcases ha with e | ⟨g, e, hg⟩
   · exact h.na b (e ▸ hb)
   · rw [e] at hb
     obtain rfl : g = b := Option.some.inj hb
     exact ⟨fun ho => by have := (hL.low j s wr g h.inv ho).2; omega, by have := h.n1.2; omega⟩
 · intro b hb
   rcases hb' with e | ⟨g, e, hg⟩
   · exact h.nb b (e ▸ hb)
   · rw [e] at hb
     obtain rfl : g = b := Option.some.inj hb
     exact ⟨fun ho => by have := (hL.low j s wr g h.inv ho).2; omega, by have := h.n1.2; omega⟩
theorem rel_below (hL : LookOk w0 L) (h : Rel w0 L s0 w N1 j fs s rv av wr) {w' : World} (hb : Below wr.heap.size wr w') : Rel w0 L s0 w N1 j fs s rv av w' := by
 have hs := h.bel.size
 have hn := h.n1.2
 refine rel_move hL h hb.os hb.tape hb.output hb.size (fun k hk _ _ => hb.block k hk) ⟨fun x hx => ⟨rowAt_stay (h.op.row x hx).1 fun b hb' => hb.block b ?_, (h.op.row x hx).2⟩, ownsRow_heap h.op.rows fun k hk => hb.block k (World.ownsRow.lt h.op.rows k hk).2, ownsRow_heap h.op.at_ fun k hk => hb.block k (World.ownsRow.lt h.op.at_ k hk).2⟩ (Or.inl rfl) (Or.inl rfl)
 omega
theorem rel_call (hL : LookOk w0 L) (h : Rel w0 L s0 w N1 j fs s rv av wr) {s' : S} {w' : World} (hi : L.Inv (j + 1) s' w') (hc : Chg L.Own s s' wr w') (ha : L.ans j = true) : Rel w0 L s0 w N1 (j + 1) fs s' rv av w' := by
 have hs := h.bel.size
 have hn := h.n1.2
 have hlow := fun k => hL.low j s wr k h.inv
 refine ⟨fun i hi' => ?_, ⟨fun x hx => ⟨rowAt_stay (h.op.row x hx).1 fun b hb' => hc.block b (by omega) (fun ho => ?_), (h.op.row x hx).2⟩, ownsRow_heap h.op.rows fun k hk => hc.block k (World.ownsRow.lt h.op.rows k hk).2 (h.na k hk).1, ownsRow_heap h.op.at_ fun k hk => hc.block k (World.ownsRow.lt h.op.at_ k hk).2 (h.nb k hk).1⟩, hi,
   h.bel.trans ⟨hc.os, hc.tape, hc.output, hc.size, fun k hk => hc.block k (by omega) (fun ho => by have := (hlow k ho).1; omega)⟩, chg_trans h.chg hc,
   fun b hb => ⟨fun ho => (h.na b hb).1 (hc.own b (World.ownsRow.lt h.op.rows b hb).2 ho), (h.na b hb).2⟩, fun b hb => ⟨fun ho => (h.nb b hb).1 (hc.own b (World.ownsRow.lt h.op.at_ b hb).2 ho), (h.nb b hb).2⟩, fun ho => h.nc (hc.own N1 hn ho), ⟨h.n1.1, Nat.lt_of_lt_of_le hn hc.size⟩, h.w0w⟩
 · rcases Nat.lt_or_ge i j with h' | h'
   · exact h.yes i h'
   · obtain rfl : i = j := by omega
     exact ha
 · rcases hb' with hb' | rfl
   · have := (hlow b ho).1; omega
   · exact h.nc ho
theorem rel_push (hL : LookOk w0 L) (h : Rel w0 L s0 w N1 j (X :: lo) s rv av wr) {y : Lab} {k r : F} (hd : X.f.drop X.i = .cons y k r) (hk : 1 ≤ k.len) {v1 v2 : Value} {w1 w2 : World}
   (o1 : w1.ownsRow w.heap.size 23 1 v1 ((X :: lo).length + 1) (((X :: lo).map (·.kv)).reverse ++ [y.kv])) (g1 : wr.grownBy w1 rv.ownBlock) (a1 : v1.ownBlock = rv.ownBlock ∨ ∃ g, v1.ownBlock = some g ∧ wr.heap.size ≤ g)
   (o2 : w2.ownsRow w.heap.size 3 1 v2 ((X :: lo).length + 1) (((X :: lo).map fun x => Value.int .i64 x.i).reverse ++ [.int .i64 (0 : Nat)])) (g2 : w1.grownBy w2 av.ownBlock) (a2 : v2.ownBlock = av.ownBlock ∨ ∃ g, v2.ownBlock = some g ∧ w1.heap.size ≤ g) :
   Rel w0 L s0 w N1 j (⟨y.kv, k, 0⟩ :: X :: lo) s v1 v2 w2 := by
 have hs := h.bel.size
 have hn := h.n1.2
 have hww := h.w0w
 have lr := World.ownsRow.lt h.op.rows
 have la := World.ownsRow.lt h.op.at_
 have hb : ∀ q, q < wr.heap.size → rv.ownBlock ≠ some q → av.ownBlock ≠ some q → w2.heap[q]? = wr.heap[q]? := fun q hq n1 n2 => (g2.block q (Nat.lt_of_lt_of_le hq g1.size) (fun e => n2 e.symm)).trans (g1.block q hq (fun e => n1 e.symm))
 have hold : ∀ b, b < w0.heap.size ∨ b = N1 → w2.heap[b]? = wr.heap[b]? := fun b hb' => by
   refine hb b (by omega) (fun e => ?_) (fun e => ?_)
   · have h1 := (lr b e).1
     have h2 := (h.na b e).2
     omega
   · have h1 := (la b e).1
     have h2 := (h.nb b e).2
     omega
 have hnd : NdAt w0 (y, k) := by
   obtain ⟨b, o, cap, _, _, _, _, h5⟩ := (h.op.row X (by simp)).1
   exact (h5 _ _ _ _ hd).2
 have hbw : Below w0.heap.size w0 w2 := h.bel.trans ⟨g2.os.trans g1.os, g2.tape.trans g1.tape, g2.output.trans g1.output, Nat.le_trans g1.size g2.size, fun q hq => hold q (Or.inl hq)⟩
 have ap : ∀ q, v1.ownBlock = some q → w2.heap[q]? = w1.heap[q]? := fun q hq => by
   refine g2.block q (World.ownsRow.lt o1 q hq).2 (fun e => ?_)
   have hav : av.ownBlock = some q := e.symm
   have h3 := la q hav
   rcases a1 with e1 | ⟨g, e1, hg⟩
   · exact ob_apart h.op.rows h.op.at_ (by decide) q (e1 ▸ hq) hav
   · rw [e1] at hq
     obtain rfl : g = q := Option.some.inj hq
     omega
 refine rel_move hL h (g2.os.trans g1.os) (g2.tape.trans g1.tape) (g2.output.trans g1.output) (Nat.le_trans g1.size g2.size) hb ⟨fun x hx => ?_, ?_, ?_⟩ a1 ?_
 · rcases List.mem_cons.1 hx with rfl | hx
   · exact ⟨rowAt_old hnd.2.2 hk hbw, hk⟩
   · exact ⟨rowAt_stay (h.op.row x hx).1 hold, (h.op.row x hx).2⟩
 · have := ownsRow_heap o1 ap
   simpa using this
 · simpa using o2
 · rcases a2 with e | ⟨g, e, hg⟩
   · exact Or.inl e
   · exact Or.inr ⟨g, e, Nat.le_trans g1.size hg⟩
theorem rel_cut (hL : LookOk w0 L) {Y : Fr} {g g2 cap cap2 : Nat} (h : Rel w0 L s0 w N1 j (X :: Y :: lo) s (.slice (some ⟨g, 0, none⟩) (lo.length + 1 + 1) cap) (.slice (some ⟨g2, 0, none⟩) (lo.length + 1 + 1) cap2) wr) :
   Rel w0 L s0 w N1 j (Y :: lo) s (.slice (some ⟨g, 0, none⟩) (lo.length + 1) cap) (.slice (some ⟨g2, 0, none⟩) (lo.length + 1) cap2) wr := by
 have h1 := h.op.rows
 have h2 := h.op.at_
 rw [List.map_cons, List.reverse_cons] at h1 h2
 refine rel_move hL h rfl rfl rfl (Nat.le_refl _) (fun _ _ _ _ => rfl) ⟨fun x hx => h.op.row x (List.mem_cons_of_mem _ hx), own_cut h1, own_cut h2⟩ (Or.inl rfl) (Or.inl rfl)
theorem rel_next (hL : LookOk w0 L) {g2 cap2 : Nat} (h : Rel w0 L s0 w N1 j (X :: lo) s rv (.slice (some ⟨g2, 0, none⟩) (lo.length + 1) cap2) wr) (hlt : X.i + 1 < X.f.len) :
   Rel w0 L s0 w N1 j ({ X with i := X.i + 1 } :: lo) s rv (.slice (some ⟨g2, 0, none⟩) (lo.length + 1) cap2) (wr.setCell ⟨g2, lo.length, none⟩ (.int .i64 ((X.i + 1 : Nat) : Int))) := by
 have hst := World.ownsRow.stored h.op.at_ lo.length (.int .i64 ((X.i + 1 : Nat) : Int))
 have hap := ob_apart h.op.rows h.op.at_ (by decide)
 have hblk : ∀ q, q ≠ g2 → (wr.setCell ⟨g2, lo.length, none⟩ (.int .i64 ((X.i + 1 : Nat) : Int))).heap[q]? = wr.heap[q]? := fun q hq => Below.heap_setCell wr ⟨g2, lo.length, none⟩ _ q hq
 have hg2 := World.ownsRow.lt h.op.at_ g2 rfl
 have hww := h.w0w
 have hold : ∀ b, b < w0.heap.size ∨ b = N1 → (wr.setCell ⟨g2, lo.length, none⟩ (.int .i64 ((X.i + 1 : Nat) : Int))).heap[b]? = wr.heap[b]? := fun b hb' => hblk b (by
   have := (h.nb g2 rfl).2
   omega)
 refine rel_move hL h hst.2.os hst.2.tape hst.2.output hst.2.size (fun k _ _ h2 => hblk k (fun e => h2 (by rw [e]; rfl))) ⟨fun x hx => ?_, ownsRow_heap h.op.rows fun k hk => hblk k (fun e => hap k hk (by rw [e]; rfl)), ?_⟩ (Or.inl rfl) (Or.inl rfl)
 · rcases List.mem_cons.1 hx with rfl | hx
   · exact ⟨rowAt_stay (h.op.row X (by simp)).1 hold, hlt⟩
   · exact ⟨rowAt_stay (h.op.row x (List.mem_cons_of_mem _ hx)).1 hold, (h.op.row x (List.mem_cons_of_mem _ hx)).2⟩
 · have := hst.1
   rw [List.map_cons, List.reverse_cons, List.set_append_right _ _ (by simp)] at this
   simpa using this
end
end Go.Proofs.Ytpjaahojoabgjaa.trw
end
