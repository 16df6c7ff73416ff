/- Texts that TreeChecksLaw leans on, merged: what the functions of the program answer. -/
import Derived.Test.YtlbdfcglpegabaaBTr01
section
namespace Go.Proofs.Ytlbdfcglpegabaa.trw
open Go Go.RowKit trp
theorem below_box {w w2 : World} {o : Obj} (h : Below (w.alloc o).heap.size (w.alloc o) w2) : Below w.heap.size w w2 := below_trans (below_alloc w o) h
set_option maxRecDepth 100000 in
set_option maxHeartbeats 2000000 in
theorem may_1 (x : Lab) (k : F) (w : World) (hd : NdAt w (x, k)) (hk : x.kind = 1) : Calls Try.prog 43 #[ndV x] w (BoolB (mayP (x, k)) w) := by
 obtain ⟨hlab, hrg, hkd⟩ := hd
 obtain ⟨a, cap, hkv⟩ := kids_len hkd
 obtain ⟨xk, xa, xc, xs, xset, xneg, xn, xm, xmode, xname, xon, xoff, xkv⟩ := x
 simp only at hkd hkv hrg hlab hk
 subst hkv hk
 obtain ⟨R, hR⟩ : ∃ R, mayP (⟨1, xa, xc, xs, xset, xneg, xn, xm, xmode, xname, xon, xoff, .slice a k.len cap⟩, k) = R := ⟨_, rfl⟩
 rw [hR]
 have HM := Lib.hid (show (decide (k.len = 0) && wi xc 0 1114111) = R by rw [← hR]; rfl)
 obtain ⟨n, hn⟩ : ∃ n, k.len = n := ⟨_, rfl⟩
 rw [hn] at HM ⊢
 clear hkd hrg hlab hn hR
 unfold ndV
 go_enter Try.func43, Try.ntmps43
 go_wp2_with fail
 all_goals go_ret
 all_goals refine ⟨?_, below_alloc w _⟩
 all_goals
   rw [← HM.out]
   first
     | rfl
     | (refine congrArg (fun b => Ending.returned (Value.bool b)) ?_; rw [Bool.eq_iff_iff]; simp [wi]; done)
     | (refine congrArg (fun b => Ending.returned (Value.bool b)) ?_; rw [Bool.eq_iff_iff]; simp [wi]; omega)
set_option maxRecDepth 100000 in
set_option maxHeartbeats 2000000 in
theorem may_3 (x : Lab) (k : F) (w : World) (hd : NdAt w (x, k)) (hk : x.kind = 3) : Calls Try.prog 43 #[ndV x] w (BoolB (mayP (x, k)) w) := by
 obtain ⟨hlab, hrg, hkd⟩ := hd
 obtain ⟨a, cap, hkv⟩ := kids_len hkd
 obtain ⟨xk, xa, xc, xs, xset, xneg, xn, xm, xmode, xname, xon, xoff, xkv⟩ := x
 simp only at hkd hkv hrg hlab hk
 subst hkv hk
 obtain ⟨R, hR⟩ : ∃ R, mayP (⟨3, xa, xc, xs, xset, xneg, xn, xm, xmode, xname, xon, xoff, .slice a k.len cap⟩, k) = R := ⟨_, rfl⟩
 rw [hR]
 have HM := Lib.hid (show (decide (k.len = 0) && true) = R by rw [← hR]; rfl)
 obtain ⟨n, hn⟩ : ∃ n, k.len = n := ⟨_, rfl⟩
 rw [hn] at HM ⊢
 clear hkd hrg hlab hn hR
 unfold ndV
 go_enter Try.func43, Try.ntmps43
 go_wp2_with fail
 all_goals go_ret
 all_goals refine ⟨?_, below_alloc w _⟩
 all_goals
   rw [← HM.out]
   first
     | rfl
     | (refine congrArg (fun b => Ending.returned (Value.bool b)) ?_; rw [Bool.eq_iff_iff]; simp []; done)
     | (refine congrArg (fun b => Ending.returned (Value.bool b)) ?_; rw [Bool.eq_iff_iff]; simp [wi]; omega)
set_option maxRecDepth 100000 in
set_option maxHeartbeats 2000000 in
theorem may_5 (x : Lab) (k : F) (w : World) (hd : NdAt w (x, k)) (hk : x.kind = 5) : Calls Try.prog 43 #[ndV x] w (BoolB (mayP (x, k)) w) := by
 obtain ⟨hlab, hrg, hkd⟩ := hd
 obtain ⟨a, cap, hkv⟩ := kids_len hkd
 obtain ⟨xk, xa, xc, xs, xset, xneg, xn, xm, xmode, xname, xon, xoff, xkv⟩ := x
 simp only at hkd hkv hrg hlab hk
 subst hkv hk
 obtain ⟨R, hR⟩ : ∃ R, mayP (⟨5, xa, xc, xs, xset, xneg, xn, xm, xmode, xname, xon, xoff, .slice a k.len cap⟩, k) = R := ⟨_, rfl⟩
 rw [hR]
 have HM := Lib.hid (show (decide (k.len = 0) && true) = R by rw [← hR]; rfl)
 obtain ⟨n, hn⟩ : ∃ n, k.len = n := ⟨_, rfl⟩
 rw [hn] at HM ⊢
 clear hkd hrg hlab hn hR
 unfold ndV
 go_enter Try.func43, Try.ntmps43
 go_wp2_with fail
 all_goals go_ret
 all_goals refine ⟨?_, below_alloc w _⟩
 all_goals
   rw [← HM.out]
   first
     | rfl
     | (refine congrArg (fun b => Ending.returned (Value.bool b)) ?_; rw [Bool.eq_iff_iff]; simp []; done)
     | (refine congrArg (fun b => Ending.returned (Value.bool b)) ?_; rw [Bool.eq_iff_iff]; simp [wi]; omega)
set_option maxRecDepth 100000 in
set_option maxHeartbeats 2000000 in
theorem may_6 (x : Lab) (k : F) (w : World) (hd : NdAt w (x, k)) (hk : x.kind = 6) : Calls Try.prog 43 #[ndV x] w (BoolB (mayP (x, k)) w) := by
 obtain ⟨hlab, hrg, hkd⟩ := hd
 obtain ⟨a, cap, hkv⟩ := kids_len hkd
 obtain ⟨xk, xa, xc, xs, xset, xneg, xn, xm, xmode, xname, xon, xoff, xkv⟩ := x
 simp only at hkd hkv hrg hlab hk
 subst hkv hk
 obtain ⟨R, hR⟩ : ∃ R, mayP (⟨6, xa, xc, xs, xset, xneg, xn, xm, xmode, xname, xon, xoff, .slice a k.len cap⟩, k) = R := ⟨_, rfl⟩
 rw [hR]
 have HM := Lib.hid (show (decide (k.len = 0) && true) = R by rw [← hR]; rfl)
 obtain ⟨n, hn⟩ : ∃ n, k.len = n := ⟨_, rfl⟩
 rw [hn] at HM ⊢
 clear hkd hrg hlab hn hR
 unfold ndV
 go_enter Try.func43, Try.ntmps43
 go_wp2_with fail
 all_goals go_ret
 all_goals refine ⟨?_, below_alloc w _⟩
 all_goals
   rw [← HM.out]
   first
     | rfl
     | (refine congrArg (fun b => Ending.returned (Value.bool b)) ?_; rw [Bool.eq_iff_iff]; simp []; done)
     | (refine congrArg (fun b => Ending.returned (Value.bool b)) ?_; rw [Bool.eq_iff_iff]; simp [wi]; omega)
set_option maxRecDepth 100000 in
set_option maxHeartbeats 2000000 in
theorem may_11 (x : Lab) (k : F) (w : World) (hd : NdAt w (x, k)) (hk : x.kind = 11) : Calls Try.prog 43 #[ndV x] w (BoolB (mayP (x, k)) w) := by
 obtain ⟨hlab, hrg, hkd⟩ := hd
 obtain ⟨a, cap, hkv⟩ := kids_len hkd
 obtain ⟨xk, xa, xc, xs, xset, xneg, xn, xm, xmode, xname, xon, xoff, xkv⟩ := x
 simp only at hkd hkv hrg hlab hk
 subst hkv hk
 obtain ⟨R, hR⟩ : ∃ R, mayP (⟨11, xa, xc, xs, xset, xneg, xn, xm, xmode, xname, xon, xoff, .slice a k.len cap⟩, k) = R := ⟨_, rfl⟩
 rw [hR]
 have HM := Lib.hid (show (decide (k.len = 0) && true) = R by rw [← hR]; rfl)
 obtain ⟨n, hn⟩ : ∃ n, k.len = n := ⟨_, rfl⟩
 rw [hn] at HM ⊢
 clear hkd hrg hlab hn hR
 unfold ndV
 go_enter Try.func43, Try.ntmps43
 go_wp2_with fail
 all_goals go_ret
 all_goals refine ⟨?_, below_alloc w _⟩
 all_goals
   rw [← HM.out]
   first
     | rfl
     | (refine congrArg (fun b => Ending.returned (Value.bool b)) ?_; rw [Bool.eq_iff_iff]; simp []; done)
     | (refine congrArg (fun b => Ending.returned (Value.bool b)) ?_; rw [Bool.eq_iff_iff]; simp [wi]; omega)
set_option maxRecDepth 100000 in
set_option maxHeartbeats 2000000 in
theorem may_4 (x : Lab) (k : F) (w : World) (hd : NdAt w (x, k)) (hk : x.kind = 4) : Calls Try.prog 43 #[ndV x] w (BoolB (mayP (x, k)) w) := by
 obtain ⟨hlab, hrg, hkd⟩ := hd
 obtain ⟨a, cap, hkv⟩ := kids_len hkd
 obtain ⟨xk, xa, xc, xs, xset, xneg, xn, xm, xmode, xname, xon, xoff, xkv⟩ := x
 simp only at hkd hkv hrg hlab hk
 subst hkv hk
 obtain ⟨R, hR⟩ : ∃ R, mayP (⟨4, xa, xc, xs, xset, xneg, xn, xm, xmode, xname, xon, xoff, .slice a k.len cap⟩, k) = R := ⟨_, rfl⟩
 rw [hR]
 have HM := Lib.hid (show (decide (k.len = 0) && wi xn 1 10) = R by rw [← hR]; rfl)
 obtain ⟨n, hn⟩ : ∃ n, k.len = n := ⟨_, rfl⟩
 rw [hn] at HM ⊢
 clear hkd hrg hlab hn hR
 unfold ndV
 go_enter Try.func43, Try.ntmps43
 go_wp2_with fail
 all_goals go_ret
 all_goals refine ⟨?_, below_alloc w _⟩
 all_goals
   rw [← HM.out]
   first
     | rfl
     | (refine congrArg (fun b => Ending.returned (Value.bool b)) ?_; rw [Bool.eq_iff_iff]; simp [wi]; done)
     | (refine congrArg (fun b => Ending.returned (Value.bool b)) ?_; rw [Bool.eq_iff_iff]; simp [wi]; omega)
set_option maxRecDepth 100000 in
set_option maxHeartbeats 2000000 in
theorem may_7 (x : Lab) (k : F) (w : World) (hd : NdAt w (x, k)) (hk : x.kind = 7) : Calls Try.prog 43 #[ndV x] w (BoolB (mayP (x, k)) w) := by
 obtain ⟨hlab, hrg, hkd⟩ := hd
 obtain ⟨a, cap, hkv⟩ := kids_len hkd
 obtain ⟨xk, xa, xc, xs, xset, xneg, xn, xm, xmode, xname, xon, xoff, xkv⟩ := x
 simp only at hkd hkv hrg hlab hk
 subst hkv hk
 obtain ⟨R, hR⟩ : ∃ R, mayP (⟨7, xa, xc, xs, xset, xneg, xn, xm, xmode, xname, xon, xoff, .slice a k.len cap⟩, k) = R := ⟨_, rfl⟩
 rw [hR]
 have HM := Lib.hid (show (decide (k.len = 0) && (wi xm 0 3 && wi xn 0 255)) = R by rw [← hR]; rfl)
 obtain ⟨n, hn⟩ : ∃ n, k.len = n := ⟨_, rfl⟩
 rw [hn] at HM ⊢
 clear hkd hrg hlab hn hR
 unfold ndV
 go_enter Try.func43, Try.ntmps43
 go_wp2_with fail
 all_goals go_ret
 all_goals refine ⟨?_, below_alloc w _⟩
 all_goals
   rw [← HM.out]
   first
     | rfl
     | (refine congrArg (fun b => Ending.returned (Value.bool b)) ?_; rw [Bool.eq_iff_iff]; simp [wi]; done)
     | (refine congrArg (fun b => Ending.returned (Value.bool b)) ?_; rw [Bool.eq_iff_iff]; simp [wi]; omega)
set_option maxRecDepth 100000 in
set_option maxHeartbeats 2000000 in
theorem may_8 (x : Lab) (k : F) (w : World) (hd : NdAt w (x, k)) (hk : x.kind = 8) : Calls Try.prog 43 #[ndV x] w (BoolB (mayP (x, k)) w) := by
 obtain ⟨hlab, hrg, hkd⟩ := hd
 obtain ⟨a, cap, hkv⟩ := kids_len hkd
 obtain ⟨xk, xa, xc, xs, xset, xneg, xn, xm, xmode, xname, xon, xoff, xkv⟩ := x
 simp only at hkd hkv hrg hlab hk
 subst hkv hk
 obtain ⟨R, hR⟩ : ∃ R, mayP (⟨8, xa, xc, xs, xset, xneg, xn, xm, xmode, xname, xon, xoff, .slice a k.len cap⟩, k) = R := ⟨_, rfl⟩
 rw [hR]
 have HM := Lib.hid (show (decide (k.len = 0) && (wi xm 0 3 && wi xn 0 255)) = R by rw [← hR]; rfl)
 obtain ⟨n, hn⟩ : ∃ n, k.len = n := ⟨_, rfl⟩
 rw [hn] at HM ⊢
 clear hkd hrg hlab hn hR
 unfold ndV
 go_enter Try.func43, Try.ntmps43
 go_wp2_with fail
 all_goals go_ret
 all_goals refine ⟨?_, below_alloc w _⟩
 all_goals
   rw [← HM.out]
   first
     | rfl
     | (refine congrArg (fun b => Ending.returned (Value.bool b)) ?_; rw [Bool.eq_iff_iff]; simp [wi]; done)
     | (refine congrArg (fun b => Ending.returned (Value.bool b)) ?_; rw [Bool.eq_iff_iff]; simp [wi]; omega)
set_option maxRecDepth 100000 in
set_option maxHeartbeats 2000000 in
theorem may_9 (x : Lab) (k : F) (w : World) (hd : NdAt w (x, k)) (hk : x.kind = 9) : Calls Try.prog 43 #[ndV x] w (BoolB (mayP (x, k)) w) := by
 obtain ⟨hlab, hrg, hkd⟩ := hd
 obtain ⟨a, cap, hkv⟩ := kids_len hkd
 obtain ⟨xk, xa, xc, xs, xset, xneg, xn, xm, xmode, xname, xon, xoff, xkv⟩ := x
 simp only at hkd hkv hrg hlab hk
 subst hkv hk
 obtain ⟨R, hR⟩ : ∃ R, mayP (⟨9, xa, xc, xs, xset, xneg, xn, xm, xmode, xname, xon, xoff, .slice a k.len cap⟩, k) = R := ⟨_, rfl⟩
 rw [hR]
 have HM := Lib.hid (show (decide (k.len = 0) && wi xn 1 7) = R by rw [← hR]; rfl)
 obtain ⟨n, hn⟩ : ∃ n, k.len = n := ⟨_, rfl⟩
 rw [hn] at HM ⊢
 clear hkd hrg hlab hn hR
 unfold ndV
 go_enter Try.func43, Try.ntmps43
 go_wp2_with fail
 all_goals go_ret
 all_goals refine ⟨?_, below_alloc w _⟩
 all_goals
   rw [← HM.out]
   first
     | rfl
     | (refine congrArg (fun b => Ending.returned (Value.bool b)) ?_; rw [Bool.eq_iff_iff]; simp [wi]; done)
     | (refine congrArg (fun b => Ending.returned (Value.bool b)) ?_; rw [Bool.eq_iff_iff]; simp [wi]; omega)
set_option maxRecDepth 100000 in
set_option maxHeartbeats 2000000 in
theorem may_10 (x : Lab) (k : F) (w : World) (hd : NdAt w (x, k)) (hk : x.kind = 10) : Calls Try.prog 43 #[ndV x] w (BoolB (mayP (x, k)) w) := by
 obtain ⟨hlab, hrg, hkd⟩ := hd
 obtain ⟨a, cap, hkv⟩ := kids_len hkd
 obtain ⟨xk, xa, xc, xs, xset, xneg, xn, xm, xmode, xname, xon, xoff, xkv⟩ := x
 simp only at hkd hkv hrg hlab hk
 subst hkv hk
 obtain ⟨R, hR⟩ : ∃ R, mayP (⟨10, xa, xc, xs, xset, xneg, xn, xm, xmode, xname, xon, xoff, .slice a k.len cap⟩, k) = R := ⟨_, rfl⟩
 rw [hR]
 have HM := Lib.hid (show (decide (k.len = 0) && wi xn 0 255) = R by rw [← hR]; rfl)
 obtain ⟨n, hn⟩ : ∃ n, k.len = n := ⟨_, rfl⟩
 rw [hn] at HM ⊢
 clear hkd hrg hlab hn hR
 unfold ndV
 go_enter Try.func43, Try.ntmps43
 go_wp2_with fail
 all_goals go_ret
 all_goals refine ⟨?_, below_alloc w _⟩
 all_goals
   rw [← HM.out]
   first
     | rfl
     | (refine congrArg (fun b => Ending.returned (Value.bool b)) ?_; rw [Bool.eq_iff_iff]; simp [wi]; done)
     | (refine congrArg (fun b => Ending.returned (Value.bool b)) ?_; rw [Bool.eq_iff_iff]; simp [wi]; omega)
set_option maxRecDepth 100000 in
set_option maxHeartbeats 2000000 in
theorem may_12 (x : Lab) (k : F) (w : World) (hd : NdAt w (x, k)) (hk : x.kind = 12) : Calls Try.prog 43 #[ndV x] w (BoolB (mayP (x, k)) w) := by
 obtain ⟨hlab, hrg, hkd⟩ := hd
 obtain ⟨a, cap, hkv⟩ := kids_len hkd
 obtain ⟨xk, xa, xc, xs, xset, xneg, xn, xm, xmode, xname, xon, xoff, xkv⟩ := x
 simp only at hkd hkv hrg hlab hk
 subst hkv hk
 obtain ⟨R, hR⟩ : ∃ R, mayP (⟨12, xa, xc, xs, xset, xneg, xn, xm, xmode, xname, xon, xoff, .slice a k.len cap⟩, k) = R := ⟨_, rfl⟩
 rw [hR]
 have HM := Lib.hid (show (decide (k.len ≠ 1)) = R by rw [← hR]; rfl)
 obtain ⟨n, hn⟩ : ∃ n, k.len = n := ⟨_, rfl⟩
 rw [hn] at HM ⊢
 clear hkd hrg hlab hn hR
 unfold ndV
 go_enter Try.func43, Try.ntmps43
 go_wp2_with fail
 all_goals go_ret
 all_goals refine ⟨?_, below_alloc w _⟩
 all_goals
   rw [← HM.out]
   first
     | rfl
     | (refine congrArg (fun b => Ending.returned (Value.bool b)) ?_; rw [Bool.eq_iff_iff]; simp []; done)
     | (refine congrArg (fun b => Ending.returned (Value.bool b)) ?_; rw [Bool.eq_iff_iff]; simp []; omega)
set_option maxRecDepth 100000 in
set_option maxHeartbeats 2000000 in
theorem may_13 (x : Lab) (k : F) (w : World) (hd : NdAt w (x, k)) (hk : x.kind = 13) : Calls Try.prog 43 #[ndV x] w (BoolB (mayP (x, k)) w) := by
 obtain ⟨hlab, hrg, hkd⟩ := hd
 obtain ⟨a, cap, hkv⟩ := kids_len hkd
 obtain ⟨xk, xa, xc, xs, xset, xneg, xn, xm, xmode, xname, xon, xoff, xkv⟩ := x
 simp only at hkd hkv hrg hlab hk
 subst hkv hk
 obtain ⟨R, hR⟩ : ∃ R, mayP (⟨13, xa, xc, xs, xset, xneg, xn, xm, xmode, xname, xon, xoff, .slice a k.len cap⟩, k) = R := ⟨_, rfl⟩
 rw [hR]
 have HM := Lib.hid (show (decide (2 ≤ k.len)) = R by rw [← hR]; rfl)
 obtain ⟨n, hn⟩ : ∃ n, k.len = n := ⟨_, rfl⟩
 rw [hn] at HM ⊢
 clear hkd hrg hlab hn hR
 unfold ndV
 go_enter Try.func43, Try.ntmps43
 go_wp2_with fail
 all_goals go_ret
 all_goals refine ⟨?_, below_alloc w _⟩
 all_goals
   rw [← HM.out]
   first
     | rfl
     | (refine congrArg (fun b => Ending.returned (Value.bool b)) ?_; rw [Bool.eq_iff_iff]; simp []; done)
     | (refine congrArg (fun b => Ending.returned (Value.bool b)) ?_; rw [Bool.eq_iff_iff]; simp []; omega)
set_option maxRecDepth 100000 in
set_option maxHeartbeats 2000000 in
theorem may_16 (x : Lab) (k : F) (w : World) (hd : NdAt w (x, k)) (hk : x.kind = 16) : Calls Try.prog 43 #[ndV x] w (BoolB (mayP (x, k)) w) := by
 obtain ⟨hlab, hrg, hkd⟩ := hd
 obtain ⟨a, cap, hkv⟩ := kids_len hkd
 obtain ⟨xk, xa, xc, xs, xset, xneg, xn, xm, xmode, xname, xon, xoff, xkv⟩ := x
 simp only at hkd hkv hrg hlab hk
 subst hkv hk
 obtain ⟨R, hR⟩ : ∃ R, mayP (⟨16, xa, xc, xs, xset, xneg, xn, xm, xmode, xname, xon, xoff, .slice a k.len cap⟩, k) = R := ⟨_, rfl⟩
 rw [hR]
 have HM := Lib.hid (show (decide (1 ≤ k.len)) = R by rw [← hR]; rfl)
 obtain ⟨n, hn⟩ : ∃ n, k.len = n := ⟨_, rfl⟩
 rw [hn] at HM ⊢
 clear hkd hrg hlab hn hR
 unfold ndV
 go_enter Try.func43, Try.ntmps43
 go_wp2_with fail
 all_goals go_ret
 all_goals refine ⟨?_, below_alloc w _⟩
 all_goals
   rw [← HM.out]
   first
     | rfl
     | (refine congrArg (fun b => Ending.returned (Value.bool b)) ?_; rw [Bool.eq_iff_iff]; simp []; done)
     | (refine congrArg (fun b => Ending.returned (Value.bool b)) ?_; rw [Bool.eq_iff_iff]; simp []; omega)
set_option maxRecDepth 100000 in
set_option maxHeartbeats 2000000 in
theorem may_14 (x : Lab) (k : F) (w : World) (hd : NdAt w (x, k)) (hk : x.kind = 14) : Calls Try.prog 43 #[ndV x] w (BoolB (mayP (x, k)) w) := by
 obtain ⟨hlab, hrg, hkd⟩ := hd
 obtain ⟨a, cap, hkv⟩ := kids_len hkd
 obtain ⟨xk, xa, xc, xs, xset, xneg, xn, xm, xmode, xname, xon, xoff, xkv⟩ := x
 simp only at hkd hkv hrg hlab hk
 subst hkv hk
 obtain ⟨R, hR⟩ : ∃ R, mayP (⟨14, xa, xc, xs, xset, xneg, xn, xm, xmode, xname, xon, xoff, .slice a k.len cap⟩, k) = R := ⟨_, rfl⟩
 rw [hR]
 have HM := Lib.hid (show (decide (k.len = 1)) = R by rw [← hR]; rfl)
 obtain ⟨n, hn⟩ : ∃ n, k.len = n := ⟨_, rfl⟩
 rw [hn] at HM ⊢
 clear hkd hrg hlab hn hR
 unfold ndV
 go_enter Try.func43, Try.ntmps43
 go_wp2_with fail
 all_goals go_ret
 all_goals refine ⟨?_, below_alloc w _⟩
 all_goals
   rw [← HM.out]
   first
     | rfl
     | (refine congrArg (fun b => Ending.returned (Value.bool b)) ?_; rw [Bool.eq_iff_iff]; simp []; done)
     | (refine congrArg (fun b => Ending.returned (Value.bool b)) ?_; rw [Bool.eq_iff_iff]; simp []; omega)
set_option maxRecDepth 100000 in
set_option maxHeartbeats 2000000 in
theorem may_15 (x : Lab) (k : F) (w : World) (hd : NdAt w (x, k)) (hk : x.kind = 15) : Calls Try.prog 43 #[ndV x] w (BoolB (mayP (x, k)) w) := by
 obtain ⟨hlab, hrg, hkd⟩ := hd
 obtain ⟨a, cap, hkv⟩ := kids_len hkd
 obtain ⟨xk, xa, xc, xs, xset, xneg, xn, xm, xmode, xname, xon, xoff, xkv⟩ := x
 simp only at hkd hkv hrg hlab hk
 subst hkv hk
 obtain ⟨R, hR⟩ : ∃ R, mayP (⟨15, xa, xc, xs, xset, xneg, xn, xm, xmode, xname, xon, xoff, .slice a k.len cap⟩, k) = R := ⟨_, rfl⟩
 rw [hR]
 have HM := Lib.hid (show (decide (k.len = 1)) = R by rw [← hR]; rfl)
 obtain ⟨n, hn⟩ : ∃ n, k.len = n := ⟨_, rfl⟩
 rw [hn] at HM ⊢
 clear hkd hrg hlab hn hR
 unfold ndV
 go_enter Try.func43, Try.ntmps43
 go_wp2_with fail
 all_goals go_ret
 all_goals refine ⟨?_, below_alloc w _⟩
 all_goals
   rw [← HM.out]
   first
     | rfl
     | (refine congrArg (fun b => Ending.returned (Value.bool b)) ?_; rw [Bool.eq_iff_iff]; simp []; done)
     | (refine congrArg (fun b => Ending.returned (Value.bool b)) ?_; rw [Bool.eq_iff_iff]; simp []; omega)
set_option maxRecDepth 100000 in
set_option maxHeartbeats 2000000 in
theorem may_17 (x : Lab) (k : F) (w : World) (hd : NdAt w (x, k)) (hk : x.kind = 17) : Calls Try.prog 43 #[ndV x] w (BoolB (mayP (x, k)) w) := by
 obtain ⟨hlab, hrg, hkd⟩ := hd
 obtain ⟨a, cap, hkv⟩ := kids_len hkd
 obtain ⟨xk, xa, xc, xs, xset, xneg, xn, xm, xmode, xname, xon, xoff, xkv⟩ := x
 simp only at hkd hkv hrg hlab hk
 subst hkv hk
 obtain ⟨R, hR⟩ : ∃ R, mayP (⟨17, xa, xc, xs, xset, xneg, xn, xm, xmode, xname, xon, xoff, .slice a k.len cap⟩, k) = R := ⟨_, rfl⟩
 rw [hR]
 have HM := Lib.hid (show (decide (k.len = 1)) = R by rw [← hR]; rfl)
 obtain ⟨n, hn⟩ : ∃ n, k.len = n := ⟨_, rfl⟩
 rw [hn] at HM ⊢
 clear hkd hrg hlab hn hR
 unfold ndV
 go_enter Try.func43, Try.ntmps43
 go_wp2_with fail
 all_goals go_ret
 all_goals refine ⟨?_, below_alloc w _⟩
 all_goals
   rw [← HM.out]
   first
     | rfl
     | (refine congrArg (fun b => Ending.returned (Value.bool b)) ?_; rw [Bool.eq_iff_iff]; simp []; done)
     | (refine congrArg (fun b => Ending.returned (Value.bool b)) ?_; rw [Bool.eq_iff_iff]; simp []; omega)
set_option maxRecDepth 100000 in
set_option maxHeartbeats 2000000 in
theorem may_18 (x : Lab) (k : F) (w : World) (hd : NdAt w (x, k)) (hk : x.kind = 18) : Calls Try.prog 43 #[ndV x] w (BoolB (mayP (x, k)) w) := by
 obtain ⟨hlab, hrg, hkd⟩ := hd
 obtain ⟨a, cap, hkv⟩ := kids_len hkd
 obtain ⟨xk, xa, xc, xs, xset, xneg, xn, xm, xmode, xname, xon, xoff, xkv⟩ := x
 simp only at hkd hkv hrg hlab hk
 subst hkv hk
 obtain ⟨R, hR⟩ : ∃ R, mayP (⟨18, xa, xc, xs, xset, xneg, xn, xm, xmode, xname, xon, xoff, .slice a k.len cap⟩, k) = R := ⟨_, rfl⟩
 rw [hR]
 have HM := Lib.hid (show (decide (k.len = 1) && wi xn 5 8) = R by rw [← hR]; rfl)
 obtain ⟨n, hn⟩ : ∃ n, k.len = n := ⟨_, rfl⟩
 rw [hn] at HM ⊢
 clear hkd hrg hlab hn hR
 unfold ndV
 go_enter Try.func43, Try.ntmps43
 go_wp2_with fail
 all_goals go_ret
 all_goals refine ⟨?_, below_alloc w _⟩
 all_goals
   rw [← HM.out]
   first
     | rfl
     | (refine congrArg (fun b => Ending.returned (Value.bool b)) ?_; rw [Bool.eq_iff_iff]; simp [wi]; done)
     | (refine congrArg (fun b => Ending.returned (Value.bool b)) ?_; rw [Bool.eq_iff_iff]; simp [wi]; omega)
end Go.Proofs.Ytlbdfcglpegabaa.trw
end
section
namespace Go.Proofs.Ytlbdfcglpegabaa.trw
open Go Go.RowKit trp
theorem len_one {k : F} (h : 1 ≤ k.len) : ∃ x k' r, k = .cons x k' r := by
 cases k with
 | nil => simp [F.len] at h
 | cons x k' r => exact ⟨x, k', r, rfl⟩
theorem hd_at {w : World} {a : Option Addr} {n cap : Nat} {k : F} (h : KidsAt w (.slice a n cap) k) (h1 : 1 ≤ k.len) : ∃ b o, a = some ⟨b, o, none⟩ ∧ w.cell? ⟨b, o, none⟩ = some (.int .i64 k.hd) := by
 obtain ⟨a', cap', e1, _, _, e4 | ⟨b, o, e4, e5⟩⟩ := h
 · omega
 · simp only [Value.slice.injEq] at e1
   obtain ⟨rfl, rfl, rfl⟩ := e1
   obtain ⟨x, k', r, rfl⟩ := len_one h1
   exact ⟨b, o, e4, e5.1 0 _ rfl⟩
set_option maxRecDepth 100000 in
set_option maxHeartbeats 4000000 in
theorem may_2 (x : Lab) (k : F) (w : World) (hd : NdAt w (x, k)) (hk : x.kind = 2) : Calls Try.prog 43 #[ndV x] w (BoolB (mayP (x, k)) w) := by
 obtain ⟨hlab, hrg, hkd⟩ := hd
 obtain ⟨a, cap, hkv⟩ := kids_len hkd
 obtain ⟨xk, xa, xc, xs, xset, xneg, xn, xm, xmode, xname, xon, xoff, xkv⟩ := x
 simp only at hkd hkv hrg hlab hk
 subst hkv
 subst hk
 obtain ⟨R, hR⟩ : ∃ R, mayP (⟨2, xa, xc, xs, xset, xneg, xn, xm, xmode, xname, xon, xoff, .slice a k.len cap⟩, k) = R := ⟨_, rfl⟩
 rw [hR]
 have HM := Lib.hid (show (decide (k.len = 0) && rises 0 xset) = R by rw [← hR]; rfl)
 obtain ⟨n, hn⟩ : ∃ n, k.len = n := ⟨_, rfl⟩
 rw [hn] at HM ⊢
 have HS := Lib.hid (rrises_any xs xset (w.alloc (.cells #[.int .i64 2, .int .i64 xa, .int .i64 xc, xs, .bool xneg, .int .i64 xn, .int .i64 xm, .int .i64 xmode, .string xname, .int .i64 xon, .int .i64 xoff, .slice a n cap] 25)) (rgAt_mono (fun _ _ hc => below_cell (below_alloc w _) hc) hrg))
 clear hkd hrg hlab hn hR
 generalize rises 0 xset = q at *
 unfold ndV
 go_enter Try.func43, Try.ntmps43
 by_cases hn0 : n = 0
 · subst hn0
   go_wp2_with fail
   refine HS.out.mono ?_
   rintro e w2 ⟨rfl, hb2⟩
   go_wp2_with fail
   go_ret
   refine ⟨?_, below_box hb2⟩
   rw [← HM.out]
   rfl
 · have hn1 : ((n : Int) == 0) = false := by simp; omega
   go_wp2_with fail
   go_ret
   refine ⟨?_, below_alloc w _⟩
   rw [← HM.out]
   simp [hn0]
set_option maxRecDepth 100000 in
set_option maxHeartbeats 4000000 in
theorem may_19 (x : Lab) (k : F) (w : World) (hd : NdAt w (x, k)) (hk : x.kind = 19) : Calls Try.prog 43 #[ndV x] w (BoolB (mayP (x, k)) w) := by
 obtain ⟨hlab, hrg, hkd⟩ := hd
 obtain ⟨a, cap, hkv⟩ := kids_len hkd
 obtain ⟨xk, xa, xc, xs, xset, xneg, xn, xm, xmode, xname, xon, xoff, xkv⟩ := x
 simp only at hkd hkv hrg hlab hk
 subst hkv
 subst hk
 obtain ⟨R, hR⟩ : ∃ R, mayP (⟨19, xa, xc, xs, xset, xneg, xn, xm, xmode, xname, xon, xoff, .slice a k.len cap⟩, k) = R := ⟨_, rfl⟩
 rw [hR]
 have HM := Lib.hid (show (wi xmode (-1) 255 && wi xm 0 3 && (if xn = 9 ∨ xn = 10 ∨ xn = 11 then wi k.len 1 2 else if xn = 12 then decide (k.len = 1) else if xn = 13 then wi k.len 2 3 && decide (k.hd = 18) else false)) = R by rw [← hR]; rfl)
 clear hR hrg hlab
 by_cases hin : xmode < -1 ∨ 255 < xmode ∨ xm < 0 ∨ 3 < xm ∨ xn < 9 ∨ 13 < xn
 · have HF := Lib.hid (show false = R by
     rw [← HM.out]
     symm
     rw [Bool.eq_false_iff]
     intro hh
     simp only [Bool.and_eq_true, wi, decide_eq_true_eq] at hh
     obtain ⟨⟨⟨h1, h2⟩, h3, h4⟩, h5⟩ := hh
     rw [if_neg (by omega), if_neg (by omega), if_neg (by omega)] at h5
     cases h5)
   clear hkd HM
   unfold ndV
   go_enter Try.func43, Try.ntmps43
   rcases (show xmode < -1 ∨ (-1 ≤ xmode ∧ 255 < xmode) ∨ (-1 ≤ xmode ∧ xmode ≤ 255 ∧ xm < 0) ∨ (-1 ≤ xmode ∧ xmode ≤ 255 ∧ 0 ≤ xm ∧ 3 < xm) ∨ (-1 ≤ xmode ∧ xmode ≤ 255 ∧ 0 ≤ xm ∧ xm ≤ 3 ∧ xn < 9) ∨ (-1 ≤ xmode ∧ xmode ≤ 255 ∧ 0 ≤ xm ∧ xm ≤ 3 ∧ 9 ≤ xn ∧ 13 < xn) by omega) with h | ⟨h, h2⟩ | ⟨h, h2, h3⟩ | ⟨h, h2, h3, h4⟩ | ⟨h, h2, h3, h4, h5⟩ | ⟨h, h2, h3, h4, h5, h6⟩
   all_goals
     clear hin
     go_wp2_with fail
     go_ret
     exact ⟨by rw [← HF.out]; rfl, below_alloc w _⟩
 · simp only [not_or] at hin
   obtain ⟨h1, h2, h3, h4, h5, h6⟩ := hin
   have h1 : -1 ≤ xmode := by omega
   have h2 : xmode ≤ 255 := by omega
   have h3 : 0 ≤ xm := by omega
   have h4 : xm ≤ 3 := by omega
   have HM2 := Lib.hid (show (if xn = 9 ∨ xn = 10 ∨ xn = 11 then wi k.len 1 2 else if xn = 12 then decide (k.len = 1) else if xn = 13 then wi k.len 2 3 && decide (k.hd = 18) else false) = R by rw [← HM.out]; simp [wi, h1, h2, h3, h4])
   clear HM
   by_cases h13 : xn = 13
   · subst h13
     have HM3 := Lib.hid (show (wi k.len 2 3 && decide (k.hd = 18)) = R by rw [← HM2.out, if_neg (by omega), if_neg (by omega), if_pos rfl])
     clear HM2
     by_cases h23 : k.len = 2 ∨ k.len = 3
     · obtain ⟨b, o, rfl, hc⟩ := hd_at hkd (by omega)
       have hcb := below_cell (below_alloc w (.cells #[.int .i64 19, .int .i64 xa, .int .i64 xc, xs, .bool xneg, .int .i64 13, .int .i64 xm, .int .i64 xmode, .string xname, .int .i64 xon, .int .i64 xoff, .slice (some ⟨b, o, none⟩) k.len cap] 25)) hc
       have HM := Lib.hid (show decide (k.hd = 18) = R by rw [← HM3.out]; rcases h23 with h | h <;> simp [wi, h])
       clear HM3 hkd hc
       rcases h23 with h | h
       all_goals
         simp only [h] at hcb
         rw [h]
         generalize k.hd = q at *
         clear h
         unfold ndV
         go_enter Try.func43, Try.ntmps43
         go_wp2_with fail
         all_goals go_ret
         all_goals refine ⟨?_, below_alloc w _⟩
         all_goals
           rw [← HM.out]
           first
             | rfl
             | (refine congrArg (fun b => Ending.returned (Value.bool b)) ?_; rw [Bool.eq_iff_iff]; simp; done)
     · have HM := Lib.hid (show false = R by rw [← HM3.out]; symm; rw [Bool.eq_false_iff]; intro hh; simp [wi] at hh; omega)
       obtain ⟨n, hn⟩ : ∃ n, k.len = n := ⟨_, rfl⟩
       rw [hn] at h23 ⊢
       have e2 : ((n : Int) == 2) = false := by simp; omega
       have e3 : ((n : Int) == 3) = false := by simp; omega
       clear hkd hn HM3 h23
       unfold ndV
       go_enter Try.func43, Try.ntmps43
       go_wp2_with fail
       go_ret
       exact ⟨by rw [← HM.out]; rfl, below_alloc w _⟩
   · by_cases h12 : xn = 12
     · subst h12
       have HM := Lib.hid (show decide (k.len = 1) = R by rw [← HM2.out, if_neg (by omega), if_pos rfl])
       obtain ⟨n, hn⟩ : ∃ n, k.len = n := ⟨_, rfl⟩
       rw [hn] at HM ⊢
       clear hkd hn HM2
       unfold ndV
       go_enter Try.func43, Try.ntmps43
       go_wp2_with fail
       all_goals go_ret
       all_goals refine ⟨?_, below_alloc w _⟩
       all_goals
         rw [← HM.out]
         first
           | rfl
           | (refine congrArg (fun b => Ending.returned (Value.bool b)) ?_; rw [Bool.eq_iff_iff]; simp; done)
           | (refine congrArg (fun b => Ending.returned (Value.bool b)) ?_; rw [Bool.eq_iff_iff]; simp; omega)
     · have HM := Lib.hid (show wi k.len 1 2 = R by rw [← HM2.out, if_pos (by omega)])
       obtain ⟨n, hn⟩ : ∃ n, k.len = n := ⟨_, rfl⟩
       rw [hn] at HM ⊢
       have e1 : (xn == 13) = false := by simp; omega
       have e2 : (xn == 12) = false := by simp; omega
       clear hkd hn HM2
       unfold ndV
       go_enter Try.func43, Try.ntmps43
       go_wp2_with fail
       all_goals go_ret
       all_goals refine ⟨?_, below_alloc w _⟩
       all_goals
         rw [← HM.out]
         first
           | rfl
           | (refine congrArg (fun b => Ending.returned (Value.bool b)) ?_; rw [Bool.eq_iff_iff]; simp [wi]; done)
           | (refine congrArg (fun b => Ending.returned (Value.bool b)) ?_; rw [Bool.eq_iff_iff]; simp [wi]; omega)
set_option maxRecDepth 100000 in
set_option maxHeartbeats 4000000 in
theorem may_no (x : Lab) (k : F) (w : World) (hd : NdAt w (x, k)) (hk : x.kind < 1 ∨ 20 < x.kind) : Calls Try.prog 43 #[ndV x] w (BoolB (mayP (x, k)) w) := by
 obtain ⟨hlab, hrg, hkd⟩ := hd
 obtain ⟨a, cap, hkv⟩ := kids_len hkd
 obtain ⟨xk, xa, xc, xs, xset, xneg, xn, xm, xmode, xname, xon, xoff, xkv⟩ := x
 simp only at hkd hkv hrg hlab hk
 subst hkv
 have HF := Lib.hid (show mayP (⟨xk, xa, xc, xs, xset, xneg, xn, xm, xmode, xname, xon, xoff, .slice a k.len cap⟩, k) = false by
   unfold mayP leafP
   simp only
   rw [if_neg (by omega), if_neg (by omega), if_neg (by omega), if_neg (by omega), if_neg (by omega), if_neg (by omega), if_neg (by omega), if_neg (by omega), if_neg (by omega), if_neg (by omega), if_neg (by omega), if_neg (by omega), if_neg (by omega), if_neg (by omega)]
   exact Bool.and_false _)
 have n1 : (xk == 1) = false := by simp; omega
 have n2 : (xk == 2) = false := by simp; omega
 have n3 : (xk == 3) = false := by simp; omega
 have n4 : (xk == 4) = false := by simp; omega
 have n5 : (xk == 5) = false := by simp; omega
 have n6 : (xk == 6) = false := by simp; omega
 have n7 : (xk == 7) = false := by simp; omega
 have n8 : (xk == 8) = false := by simp; omega
 have n9 : (xk == 9) = false := by simp; omega
 have n10 : (xk == 10) = false := by simp; omega
 have n11 : (xk == 11) = false := by simp; omega
 have n12 : (xk == 12) = false := by simp; omega
 have n13 : (xk == 13) = false := by simp; omega
 have n14 : (xk == 14) = false := by simp; omega
 have n15 : (xk == 15) = false := by simp; omega
 have n16 : (xk == 16) = false := by simp; omega
 have n17 : (xk == 17) = false := by simp; omega
 have n18 : (xk == 18) = false := by simp; omega
 have n19 : (xk == 19) = false := by simp; omega
 have n20 : (xk == 20) = false := by simp; omega
 clear hkd hrg hlab hk
 unfold ndV
 go_enter Try.func43, Try.ntmps43
 go_wp2_with fail
 go_ret
 exact ⟨by rw [HF.out]; rfl, below_alloc w _⟩
end Go.Proofs.Ytlbdfcglpegabaa.trw
end
section
namespace Go.Proofs.Ytlbdfcglpegabaa.trw
open Go Go.RowKit trp
set_option maxRecDepth 100000 in
set_option maxHeartbeats 4000000 in
theorem leaf_1 (x : Lab) (k : F) (w : World) (hd : NdAt w (x, k)) (hk : x.kind = 1) : Calls Try.prog 42 #[ndV x] w (BoolB (leafP x) w) := by
 obtain ⟨hlab, hrg, hkd⟩ := hd
 obtain ⟨a, cap, hkv⟩ := kids_len hkd
 obtain ⟨xk, xa, xc, xs, xset, xneg, xn, xm, xmode, xname, xon, xoff, xkv⟩ := x
 simp only at hkd hkv hrg hlab hk
 subst hkv
 subst hk
 have HM := Lib.hid (show leafP (⟨1, xa, xc, xs, xset, xneg, xn, xm, xmode, xname, xon, xoff, .slice a k.len cap⟩) = (wi xc 0 1114111) by rfl)
 clear hkd hrg hlab
 unfold ndV
 go_enter Try.func42, Try.ntmps42
 go_wp2_with fail
 refine (within_any _ _ _ _).mono ?_
 rintro e w2 ⟨rfl, hb2⟩
 go_wp2_with fail
 go_ret
 exact ⟨by rw [HM.out]; rfl, below_box hb2⟩
set_option maxRecDepth 100000 in
set_option maxHeartbeats 4000000 in
theorem leaf_4 (x : Lab) (k : F) (w : World) (hd : NdAt w (x, k)) (hk : x.kind = 4) : Calls Try.prog 42 #[ndV x] w (BoolB (leafP x) w) := by
 obtain ⟨hlab, hrg, hkd⟩ := hd
 obtain ⟨a, cap, hkv⟩ := kids_len hkd
 obtain ⟨xk, xa, xc, xs, xset, xneg, xn, xm, xmode, xname, xon, xoff, xkv⟩ := x
 simp only at hkd hkv hrg hlab hk
 subst hkv
 subst hk
 have HM := Lib.hid (show leafP (⟨4, xa, xc, xs, xset, xneg, xn, xm, xmode, xname, xon, xoff, .slice a k.len cap⟩) = (wi xn 1 10) by rfl)
 clear hkd hrg hlab
 unfold ndV
 go_enter Try.func42, Try.ntmps42
 go_wp2_with fail
 refine (within_any _ _ _ _).mono ?_
 rintro e w2 ⟨rfl, hb2⟩
 go_wp2_with fail
 go_ret
 exact ⟨by rw [HM.out]; rfl, below_box hb2⟩
set_option maxRecDepth 100000 in
set_option maxHeartbeats 4000000 in
theorem leaf_9 (x : Lab) (k : F) (w : World) (hd : NdAt w (x, k)) (hk : x.kind = 9) : Calls Try.prog 42 #[ndV x] w (BoolB (leafP x) w) := by
 obtain ⟨hlab, hrg, hkd⟩ := hd
 obtain ⟨a, cap, hkv⟩ := kids_len hkd
 obtain ⟨xk, xa, xc, xs, xset, xneg, xn, xm, xmode, xname, xon, xoff, xkv⟩ := x
 simp only at hkd hkv hrg hlab hk
 subst hkv
 subst hk
 have HM := Lib.hid (show leafP (⟨9, xa, xc, xs, xset, xneg, xn, xm, xmode, xname, xon, xoff, .slice a k.len cap⟩) = (wi xn 1 7) by rfl)
 clear hkd hrg hlab
 unfold ndV
 go_enter Try.func42, Try.ntmps42
 go_wp2_with fail
 refine (within_any _ _ _ _).mono ?_
 rintro e w2 ⟨rfl, hb2⟩
 go_wp2_with fail
 go_ret
 exact ⟨by rw [HM.out]; rfl, below_box hb2⟩
set_option maxRecDepth 100000 in
set_option maxHeartbeats 4000000 in
theorem leaf_10 (x : Lab) (k : F) (w : World) (hd : NdAt w (x, k)) (hk : x.kind = 10) : Calls Try.prog 42 #[ndV x] w (BoolB (leafP x) w) := by
 obtain ⟨hlab, hrg, hkd⟩ := hd
 obtain ⟨a, cap, hkv⟩ := kids_len hkd
 obtain ⟨xk, xa, xc, xs, xset, xneg, xn, xm, xmode, xname, xon, xoff, xkv⟩ := x
 simp only at hkd hkv hrg hlab hk
 subst hkv
 subst hk
 have HM := Lib.hid (show leafP (⟨10, xa, xc, xs, xset, xneg, xn, xm, xmode, xname, xon, xoff, .slice a k.len cap⟩) = (wi xn 0 255) by rfl)
 clear hkd hrg hlab
 unfold ndV
 go_enter Try.func42, Try.ntmps42
 go_wp2_with fail
 refine (within_any _ _ _ _).mono ?_
 rintro e w2 ⟨rfl, hb2⟩
 go_wp2_with fail
 go_ret
 exact ⟨by rw [HM.out]; rfl, below_box hb2⟩
set_option maxRecDepth 100000 in
set_option maxHeartbeats 4000000 in
theorem leaf_2 (x : Lab) (k : F) (w : World) (hd : NdAt w (x, k)) (hk : x.kind = 2) : Calls Try.prog 42 #[ndV x] w (BoolB (leafP x) w) := by
 obtain ⟨hlab, hrg, hkd⟩ := hd
 obtain ⟨a, cap, hkv⟩ := kids_len hkd
 obtain ⟨xk, xa, xc, xs, xset, xneg, xn, xm, xmode, xname, xon, xoff, xkv⟩ := x
 simp only at hkd hkv hrg hlab hk
 subst hkv
 subst hk
 have HM := Lib.hid (show leafP (⟨2, xa, xc, xs, xset, xneg, xn, xm, xmode, xname, xon, xoff, .slice a k.len cap⟩) = rises 0 xset by rfl)
 have HS := Lib.hid (setFits_any xs xset (w.alloc (.cells #[.int .i64 2, .int .i64 xa, .int .i64 xc, xs, .bool xneg, .int .i64 xn, .int .i64 xm, .int .i64 xmode, .string xname, .int .i64 xon, .int .i64 xoff, .slice a k.len cap] 25)) (rgAt_mono (fun _ _ hc => below_cell (below_alloc w _) hc) hrg))
 clear hkd hrg hlab
 unfold ndV
 go_enter Try.func42, Try.ntmps42
 go_wp2_with fail
 refine HS.out.mono ?_
 rintro e w2 ⟨rfl, hb2⟩
 go_wp2_with fail
 go_ret
 exact ⟨by rw [HM.out]; rfl, below_box hb2⟩
set_option maxRecDepth 100000 in
set_option maxHeartbeats 4000000 in
theorem leaf_3 (x : Lab) (k : F) (w : World) (hd : NdAt w (x, k)) (hk : x.kind = 3) : Calls Try.prog 42 #[ndV x] w (BoolB (leafP x) w) := by
 obtain ⟨hlab, hrg, hkd⟩ := hd
 obtain ⟨a, cap, hkv⟩ := kids_len hkd
 obtain ⟨xk, xa, xc, xs, xset, xneg, xn, xm, xmode, xname, xon, xoff, xkv⟩ := x
 simp only at hkd hkv hrg hlab hk
 subst hkv
 subst hk
 have HM := Lib.hid (show leafP (⟨3, xa, xc, xs, xset, xneg, xn, xm, xmode, xname, xon, xoff, .slice a k.len cap⟩) = true by rfl)
 clear hkd hrg hlab
 unfold ndV
 go_enter Try.func42, Try.ntmps42
 go_wp2_with fail
 go_ret
 exact ⟨by rw [HM.out]; rfl, below_alloc w _⟩
set_option maxRecDepth 100000 in
set_option maxHeartbeats 4000000 in
theorem leaf_5 (x : Lab) (k : F) (w : World) (hd : NdAt w (x, k)) (hk : x.kind = 5) : Calls Try.prog 42 #[ndV x] w (BoolB (leafP x) w) := by
 obtain ⟨hlab, hrg, hkd⟩ := hd
 obtain ⟨a, cap, hkv⟩ := kids_len hkd
 obtain ⟨xk, xa, xc, xs, xset, xneg, xn, xm, xmode, xname, xon, xoff, xkv⟩ := x
 simp only at hkd hkv hrg hlab hk
 subst hkv
 subst hk
 have HM := Lib.hid (show leafP (⟨5, xa, xc, xs, xset, xneg, xn, xm, xmode, xname, xon, xoff, .slice a k.len cap⟩) = true by rfl)
 clear hkd hrg hlab
 unfold ndV
 go_enter Try.func42, Try.ntmps42
 go_wp2_with fail
 go_ret
 exact ⟨by rw [HM.out]; rfl, below_alloc w _⟩
set_option maxRecDepth 100000 in
set_option maxHeartbeats 4000000 in
theorem leaf_6 (x : Lab) (k : F) (w : World) (hd : NdAt w (x, k)) (hk : x.kind = 6) : Calls Try.prog 42 #[ndV x] w (BoolB (leafP x) w) := by
 obtain ⟨hlab, hrg, hkd⟩ := hd
 obtain ⟨a, cap, hkv⟩ := kids_len hkd
 obtain ⟨xk, xa, xc, xs, xset, xneg, xn, xm, xmode, xname, xon, xoff, xkv⟩ := x
 simp only at hkd hkv hrg hlab hk
 subst hkv
 subst hk
 have HM := Lib.hid (show leafP (⟨6, xa, xc, xs, xset, xneg, xn, xm, xmode, xname, xon, xoff, .slice a k.len cap⟩) = true by rfl)
 clear hkd hrg hlab
 unfold ndV
 go_enter Try.func42, Try.ntmps42
 go_wp2_with fail
 go_ret
 exact ⟨by rw [HM.out]; rfl, below_alloc w _⟩
set_option maxRecDepth 100000 in
set_option maxHeartbeats 4000000 in
theorem leaf_11 (x : Lab) (k : F) (w : World) (hd : NdAt w (x, k)) (hk : x.kind = 11) : Calls Try.prog 42 #[ndV x] w (BoolB (leafP x) w) := by
 obtain ⟨hlab, hrg, hkd⟩ := hd
 obtain ⟨a, cap, hkv⟩ := kids_len hkd
 obtain ⟨xk, xa, xc, xs, xset, xneg, xn, xm, xmode, xname, xon, xoff, xkv⟩ := x
 simp only at hkd hkv hrg hlab hk
 subst hkv
 subst hk
 have HM := Lib.hid (show leafP (⟨11, xa, xc, xs, xset, xneg, xn, xm, xmode, xname, xon, xoff, .slice a k.len cap⟩) = true by rfl)
 clear hkd hrg hlab
 unfold ndV
 go_enter Try.func42, Try.ntmps42
 go_wp2_with fail
 go_ret
 exact ⟨by rw [HM.out]; rfl, below_alloc w _⟩
set_option maxRecDepth 100000 in
set_option maxHeartbeats 4000000 in
theorem leaf_7 (x : Lab) (k : F) (w : World) (hd : NdAt w (x, k)) (hk : x.kind = 7) : Calls Try.prog 42 #[ndV x] w (BoolB (leafP x) w) := by
 obtain ⟨hlab, hrg, hkd⟩ := hd
 obtain ⟨a, cap, hkv⟩ := kids_len hkd
 obtain ⟨xk, xa, xc, xs, xset, xneg, xn, xm, xmode, xname, xon, xoff, xkv⟩ := x
 simp only at hkd hkv hrg hlab hk
 subst hkv
 subst hk
 have HM := Lib.hid (show leafP (⟨7, xa, xc, xs, xset, xneg, xn, xm, xmode, xname, xon, xoff, .slice a k.len cap⟩) = (wi xm 0 3 && wi xn 0 255) by rfl)
 clear hkd hrg hlab
 unfold ndV
 go_enter Try.func42, Try.ntmps42
 go_wp2_with fail
 refine (within_any _ _ _ _).mono ?_
 rintro e w2 ⟨rfl, hb2⟩
 have c5 := below_cell hb2 (a := ⟨w.heap.size, 5, none⟩) (v := .int .i64 xn) (by simp)
 cases h1 : wi xm 0 3 with
 | false =>
   rw [h1] at HM
   go_wp2_with fail
   go_ret
   exact ⟨by rw [HM.out]; rfl, below_box hb2⟩
 | true =>
   rw [h1] at HM
   go_wp2_with fail
   refine (within_any _ _ _ _).mono ?_
   rintro e w3 ⟨rfl, hb3⟩
   go_wp2_with fail
   go_ret
   exact ⟨by rw [HM.out]; rfl, below_trans (below_box hb2) hb3⟩
set_option maxRecDepth 100000 in
set_option maxHeartbeats 4000000 in
theorem leaf_8 (x : Lab) (k : F) (w : World) (hd : NdAt w (x, k)) (hk : x.kind = 8) : Calls Try.prog 42 #[ndV x] w (BoolB (leafP x) w) := by
 obtain ⟨hlab, hrg, hkd⟩ := hd
 obtain ⟨a, cap, hkv⟩ := kids_len hkd
 obtain ⟨xk, xa, xc, xs, xset, xneg, xn, xm, xmode, xname, xon, xoff, xkv⟩ := x
 simp only at hkd hkv hrg hlab hk
 subst hkv
 subst hk
 have HM := Lib.hid (show leafP (⟨8, xa, xc, xs, xset, xneg, xn, xm, xmode, xname, xon, xoff, .slice a k.len cap⟩) = (wi xm 0 3 && wi xn 0 255) by rfl)
 clear hkd hrg hlab
 unfold ndV
 go_enter Try.func42, Try.ntmps42
 go_wp2_with fail
 refine (within_any _ _ _ _).mono ?_
 rintro e w2 ⟨rfl, hb2⟩
 have c5 := below_cell hb2 (a := ⟨w.heap.size, 5, none⟩) (v := .int .i64 xn) (by simp)
 cases h1 : wi xm 0 3 with
 | false =>
   rw [h1] at HM
   go_wp2_with fail
   go_ret
   exact ⟨by rw [HM.out]; rfl, below_box hb2⟩
 | true =>
   rw [h1] at HM
   go_wp2_with fail
   refine (within_any _ _ _ _).mono ?_
   rintro e w3 ⟨rfl, hb3⟩
   go_wp2_with fail
   go_ret
   exact ⟨by rw [HM.out]; rfl, below_trans (below_box hb2) hb3⟩
set_option maxRecDepth 100000 in
set_option maxHeartbeats 4000000 in
theorem leaf_no (x : Lab) (k : F) (w : World) (hd : NdAt w (x, k)) (hk : x.kind < 1 ∨ 11 < x.kind) : Calls Try.prog 42 #[ndV x] w (BoolB (leafP x) w) := by
 obtain ⟨hlab, hrg, hkd⟩ := hd
 obtain ⟨a, cap, hkv⟩ := kids_len hkd
 obtain ⟨xk, xa, xc, xs, xset, xneg, xn, xm, xmode, xname, xon, xoff, xkv⟩ := x
 simp only at hkd hkv hrg hlab hk
 subst hkv
 have HM := Lib.hid (show leafP (⟨xk, xa, xc, xs, xset, xneg, xn, xm, xmode, xname, xon, xoff, .slice a k.len cap⟩) = false by
   unfold leafP
   simp only
   rw [if_neg (by omega), if_neg (by omega), if_neg (by omega), if_neg (by omega), if_neg (by omega), if_neg (by omega), if_neg (by omega)])
 have n1 : (xk == 1) = false := by simp; omega
 have n2 : (xk == 2) = false := by simp; omega
 have n3 : (xk == 3) = false := by simp; omega
 have n4 : (xk == 4) = false := by simp; omega
 have n5 : (xk == 5) = false := by simp; omega
 have n6 : (xk == 6) = false := by simp; omega
 have n7 : (xk == 7) = false := by simp; omega
 have n8 : (xk == 8) = false := by simp; omega
 have n9 : (xk == 9) = false := by simp; omega
 have n10 : (xk == 10) = false := by simp; omega
 have n11 : (xk == 11) = false := by simp; omega
 clear hkd hrg hlab hk
 unfold ndV
 go_enter Try.func42, Try.ntmps42
 go_wp2_with fail
 go_ret
 exact ⟨by rw [HM.out]; rfl, below_alloc w _⟩
theorem leaf_any (x : Lab) (k : F) (w : World) (hd : NdAt w (x, k)) : Calls Try.prog 42 #[ndV x] w (BoolB (leafP x) w) := by
 by_cases hno : x.kind < 1 ∨ 11 < x.kind
 · exact leaf_no x k w hd hno
 by_cases k1 : x.kind = 1
 · exact leaf_1 x k w hd k1
 by_cases k2 : x.kind = 2
 · exact leaf_2 x k w hd k2
 by_cases k3 : x.kind = 3
 · exact leaf_3 x k w hd k3
 by_cases k4 : x.kind = 4
 · exact leaf_4 x k w hd k4
 by_cases k5 : x.kind = 5
 · exact leaf_5 x k w hd k5
 by_cases k6 : x.kind = 6
 · exact leaf_6 x k w hd k6
 by_cases k7 : x.kind = 7
 · exact leaf_7 x k w hd k7
 by_cases k8 : x.kind = 8
 · exact leaf_8 x k w hd k8
 by_cases k9 : x.kind = 9
 · exact leaf_9 x k w hd k9
 by_cases k10 : x.kind = 10
 · exact leaf_10 x k w hd k10
 exact leaf_11 x k w hd (by omega)
end Go.Proofs.Ytlbdfcglpegabaa.trw
end
section
namespace Go.Proofs.Ytlbdfcglpegabaa.trw
open Go Go.RowKit trp
set_option maxRecDepth 100000 in
set_option maxHeartbeats 4000000 in
theorem cond_any (x : Lab) (k : F) (w : World) (hd : NdAt w (x, k)) : Calls Try.prog 40 #[ndV x] w (BoolB (condP x k) w) := by
 obtain ⟨hlab, hrg, hkd⟩ := hd
 obtain ⟨a, cap, hkv⟩ := kids_len hkd
 obtain ⟨xk, xa, xc, xs, xset, xneg, xn, xm, xmode, xname, xon, xoff, xkv⟩ := x
 simp only at hkd hkv hrg hlab
 subst hkv
 obtain ⟨R, hR⟩ : ∃ R, condP (⟨xk, xa, xc, xs, xset, xneg, xn, xm, xmode, xname, xon, xoff, .slice a k.len cap⟩) k = R := ⟨_, rfl⟩
 rw [hR]
 have HM := Lib.hid (show (wi xmode (-1) 255 && wi xm 0 3 && (if xn = 9 ∨ xn = 10 ∨ xn = 11 then wi k.len 1 2 else if xn = 12 then decide (k.len = 1) else if xn = 13 then wi k.len 2 3 && decide (k.hd = 18) else false)) = R by rw [← hR]; rfl)
 have HK := Lib.hid hkd
 clear hkd hrg hlab hR
 unfold ndV
 go_enter Try.func40, Try.ntmps40
 go_wp2_with fail
 refine (within_any _ _ _ _).mono ?_
 rintro e w2 ⟨rfl, hb2⟩
 have c6 := below_cell hb2 (a := ⟨w.heap.size, 6, none⟩) (v := .int .i64 xm) (by simp)
 have c5 := below_cell hb2 (a := ⟨w.heap.size, 5, none⟩) (v := .int .i64 xn) (by simp)
 have c11 := below_cell hb2 (a := ⟨w.heap.size, 11, none⟩) (v := .slice a k.len cap) (by simp)
 cases h1 : wi xmode (-1) 255 with
 | false =>
   rw [h1] at HM
   go_wp2_with fail
   go_ret
   exact ⟨by rw [← HM.out]; rfl, below_box hb2⟩
 | true =>
   rw [h1] at HM
   go_wp2_with fail
   refine (within_any _ _ _ _).mono ?_
   rintro e w3 ⟨rfl, hb3⟩
   have c5 := below_cell hb3 c5
   have c11 := below_cell hb3 c11
   have hb13 := below_trans (below_box hb2) hb3
   cases h2 : wi xm 0 3 with
   | false =>
     rw [h2] at HM
     go_wp2_with fail
     go_ret
     exact ⟨by rw [← HM.out]; rfl, hb13⟩
   | true =>
     rw [h2] at HM
     simp only [Bool.true_and] at HM
     clear c6 hb2 hb3
     obtain ⟨M, hM⟩ : ∃ M, w.heap.size = M := ⟨_, rfl⟩
     rw [hM] at c5 c11 ⊢
     have HB := Lib.hid hb13
     clear hb13 hM
     by_cases h3 : xn = 9 ∨ xn = 10 ∨ xn = 11
     · have HM2 := Lib.hid (show wi k.len 1 2 = R by rw [← HM.out, if_pos h3])
       clear HM
       rcases h3 with rfl | rfl | rfl
       all_goals
         go_wp2_with fail
         refine (within_any _ _ _ _).mono ?_
         rintro e w4 ⟨rfl, hb4⟩
         go_wp2_with fail
         go_ret
         exact ⟨by rw [← HM2.out]; rfl, below_trans HB.out hb4⟩
     · by_cases h4 : xn = 12
       · subst h4
         have HM2 := Lib.hid (show decide (k.len = 1) = R by rw [← HM.out, if_neg h3, if_pos rfl])
         clear HM h3
         obtain ⟨n, hn⟩ : ∃ n, k.len = n := ⟨_, rfl⟩
         rw [hn] at HM2 c11 ⊢
         clear hn
         go_wp2_with fail
         go_ret
         refine ⟨?_, HB.out⟩
         rw [← HM2.out]
         refine congrArg (fun b => Ending.returned (Value.bool b)) ?_
         rw [Bool.eq_iff_iff]
         simp
         try omega
       · by_cases h5 : xn = 13
         · subst h5
           have HM2 := Lib.hid (show (wi k.len 2 3 && decide (k.hd = 18)) = R by rw [← HM.out, if_neg h3, if_neg h4, if_pos rfl])
           clear HM h3 h4
           cases h6 : wi k.len 2 3 with
           | false =>
             rw [h6] at HM2
             have H6 := Lib.hid h6
             clear h6
             go_wp2_with fail
             refine (within_any _ _ _ _).mono ?_
             rintro e w4 ⟨rfl, hb4⟩
             rw [H6.out]
             go_wp2_with fail
             go_ret
             exact ⟨by rw [← HM2.out]; rfl, below_trans HB.out hb4⟩
           | true =>
             rw [h6] at HM2
             have H6 := Lib.hid h6
             have hlen : 2 ≤ k.len := by
               simp only [wi, Bool.and_eq_true, decide_eq_true_eq] at h6
               omega
             obtain ⟨b, o, rfl, hc⟩ := hd_at HK.out (by omega)
             have hc := below_cell HB.out hc
             have hlz : (0 : Int) < (k.len : Int) := by omega
             clear h6
             generalize k.hd = q at *
             go_wp2_with fail
             refine (within_any _ _ _ _).mono ?_
             rintro e w4 ⟨rfl, hb4⟩
             rw [H6.out]
             have hc := below_cell hb4 hc
             have c11 := below_cell hb4 c11
             go_wp2_with fail
             go_ret
             refine ⟨?_, below_trans HB.out hb4⟩
             rw [← HM2.out]
             refine congrArg (fun b => Ending.returned (Value.bool b)) ?_
             rw [Bool.eq_iff_iff]
             simp
         · have HM2 := Lib.hid (show false = R by rw [← HM.out, if_neg h3, if_neg h4, if_neg h5])
           have e1 : (xn == 9) = false := by simp; omega
           have e2 : (xn == 10) = false := by simp; omega
           have e3 : (xn == 11) = false := by simp; omega
           have e4 : (xn == 12) = false := by simp; omega
           have e5 : (xn == 13) = false := by simp; omega
           clear HM h3 h4 h5
           go_wp2_with fail
           go_ret
           exact ⟨by rw [← HM2.out]; rfl, HB.out⟩
end Go.Proofs.Ytlbdfcglpegabaa.trw
end
section
namespace Go.Proofs.Ytlbdfcglpegabaa.trw
open Go Go.RowKit trp
set_option maxRecDepth 100000 in
set_option maxHeartbeats 4000000 in
theorem rep_any (x : Lab) (k : F) (w : World) (hd : NdAt w (x, k)) (hl : k.len = 1) : Calls Try.prog 41 #[ndV x] w (BoolB (repP x k) w) := by
 obtain ⟨hlab, hrg, hkd⟩ := hd
 obtain ⟨a, cap, hkv⟩ := kids_len hkd
 obtain ⟨xk, xa, xc, xs, xset, xneg, xn, xm, xmode, xname, xon, xoff, xkv⟩ := x
 simp only at hkd hkv hrg hlab
 subst hkv
 obtain ⟨R, hR⟩ : ∃ R, repP (⟨xk, xa, xc, xs, xset, xneg, xn, xm, xmode, xname, xon, xoff, .slice a k.len cap⟩) k = R := ⟨_, rfl⟩
 rw [hR]
 have HM := Lib.hid (show (wi xn 0 255 && (decide (xm = -1) || wi xm xn 255) && wi xmode 0 2 && repK k.hd) = R by rw [← hR]; rfl)
 obtain ⟨b, o, rfl, hc⟩ := hd_at hkd (by omega)
 clear hkd hrg hlab hR
 rw [hl]
 generalize k.hd = q at *
 unfold ndV
 go_enter Try.func41, Try.ntmps41
 go_wp2_with fail
 refine (within_any _ _ _ _).mono ?_
 rintro e w2 ⟨rfl, hb2⟩
 have c5 := below_cell hb2 (a := ⟨w.heap.size, 5, none⟩) (v := .int .i64 xn) (by simp)
 have c6 := below_cell hb2 (a := ⟨w.heap.size, 6, none⟩) (v := .int .i64 xm) (by simp)
 have c7 := below_cell hb2 (a := ⟨w.heap.size, 7, none⟩) (v := .int .i64 xmode) (by simp)
 have c11 := below_cell hb2 (a := ⟨w.heap.size, 11, none⟩) (v := .slice (some ⟨b, o, none⟩) 1 cap) (by simp)
 have hc := below_cell (below_box hb2) hc
 have HB := Lib.hid (below_box hb2)
 clear hb2
 cases h1 : wi xn 0 255 with
 | false =>
   rw [h1] at HM
   clear h1
   go_wp2_with fail
   go_ret
   exact ⟨by rw [← HM.out]; rfl, HB.out⟩
 | true =>
   rw [h1] at HM
   simp only [Bool.true_and] at HM
   clear h1
   obtain ⟨M, hM⟩ : ∃ M, w.heap.size = M := ⟨_, rfl⟩
   rw [hM] at c5 c6 c7 c11 ⊢
   clear hM
   have FIN : ∀ w3, Below w.heap.size w w3 → w3.cell? ⟨M, 7, none⟩ = some (.int .i64 xmode) → w3.cell? ⟨M, 11, none⟩ = some (.slice (some ⟨b, o, none⟩) 1 cap) → w3.cell? ⟨b, o, none⟩ = some (.int .i64 q) → True := fun _ _ _ _ _ => trivial
   clear FIN
   by_cases h2 : xm = -1
   · subst h2
     have HM := Lib.hid (show (wi xmode 0 2 && repK q) = R by rw [← HM.out]; rfl)
     go_wp2_with fail
     refine (within_any _ _ _ _).mono ?_
     rintro e w3 ⟨rfl, hb3⟩
     have c11 := below_cell hb3 c11
     have hc := below_cell hb3 hc
     cases h4 : wi xmode 0 2 with
     | false =>
       rw [h4] at HM
       clear h4
       go_wp2_with fail
       go_ret
       exact ⟨by rw [← HM.out]; rfl, below_trans HB.out hb3⟩
     | true =>
       rw [h4] at HM
       clear h4
       go_wp2_with fail
       refine (repeatable_any _ _).mono ?_
       rintro e w4 ⟨rfl, hb4⟩
       go_wp2_with fail
       go_ret
       exact ⟨by rw [← HM.out]; rfl, below_trans (below_trans HB.out hb3) hb4⟩
   · have e1 : (xm == -1) = false := by simp; omega
     have HM := Lib.hid (show (wi xm xn 255 && wi xmode 0 2 && repK q) = R by rw [← HM.out]; simp [h2])
     go_wp2_with fail
     refine (within_any _ _ _ _).mono ?_
     rintro e w3 ⟨rfl, hb3⟩
     have c7 := below_cell hb3 c7
     have c11 := below_cell hb3 c11
     have hc := below_cell hb3 hc
     cases h3 : wi xm xn 255 with
     | false =>
       rw [h3] at HM
       clear h3
       go_wp2_with fail
       go_ret
       exact ⟨by rw [← HM.out]; rfl, below_trans HB.out hb3⟩
     | true =>
       rw [h3] at HM
       clear h3
       go_wp2_with fail
       refine (within_any _ _ _ _).mono ?_
       rintro e w4 ⟨rfl, hb4⟩
       have c11 := below_cell hb4 c11
       have hc := below_cell hb4 hc
       cases h4 : wi xmode 0 2 with
       | false =>
         rw [h4] at HM
         clear h4
         go_wp2_with fail
         go_ret
         exact ⟨by rw [← HM.out]; rfl, below_trans (below_trans HB.out hb3) hb4⟩
       | true =>
         rw [h4] at HM
         clear h4
         go_wp2_with fail
         refine (repeatable_any _ _).mono ?_
         rintro e w5 ⟨rfl, hb5⟩
         go_wp2_with fail
         go_ret
         exact ⟨by rw [← HM.out]; rfl, below_trans (below_trans (below_trans HB.out hb3) hb4) hb5⟩
set_option maxRecDepth 100000 in
set_option maxHeartbeats 4000000 in
theorem may_20 (x : Lab) (k : F) (w : World) (hd : NdAt w (x, k)) (hk : x.kind = 20) : Calls Try.prog 43 #[ndV x] w (BoolB (mayP (x, k)) w) := by
 obtain ⟨hlab, hrg, hkd⟩ := hd
 obtain ⟨a, cap, hkv⟩ := kids_len hkd
 obtain ⟨xk, xa, xc, xs, xset, xneg, xn, xm, xmode, xname, xon, xoff, xkv⟩ := x
 simp only at hkd hkv hrg hlab hk
 subst hkv
 subst hk
 obtain ⟨R, hR⟩ : ∃ R, mayP (⟨20, xa, xc, xs, xset, xneg, xn, xm, xmode, xname, xon, xoff, .slice a k.len cap⟩, k) = R := ⟨_, rfl⟩
 rw [hR]
 have HM := Lib.hid (show (decide (k.len = 1) && (wi xn 0 255 && (decide (xm = -1) || wi xm xn 255) && wi xmode 0 2 && repK k.hd)) = R by rw [← hR]; rfl)
 clear hR hrg hlab
 by_cases hin : k.len ≠ 1 ∨ xn < 0 ∨ 255 < xn ∨ (xm ≠ -1 ∧ (xm < xn ∨ 255 < xm)) ∨ xmode < 0 ∨ 2 < xmode
 · have HF := Lib.hid (show false = R by
     rw [← HM.out]
     symm
     rw [Bool.eq_false_iff]
     intro hh
     simp only [Bool.and_eq_true, Bool.or_eq_true, wi, decide_eq_true_eq] at hh
     omega)
   obtain ⟨n, hn⟩ : ∃ n, k.len = n := ⟨_, rfl⟩
   rw [hn] at hin ⊢
   clear hkd HM hn
   unfold ndV
   go_enter Try.func43, Try.ntmps43
   rcases (show n ≠ 1 ∨ (n = 1 ∧ xn < 0) ∨ (n = 1 ∧ 0 ≤ xn ∧ 255 < xn) ∨ (n = 1 ∧ 0 ≤ xn ∧ xn ≤ 255 ∧ xm ≠ -1 ∧ xm < xn) ∨ (n = 1 ∧ 0 ≤ xn ∧ xn ≤ 255 ∧ xm ≠ -1 ∧ xn ≤ xm ∧ 255 < xm) ∨ (n = 1 ∧ 0 ≤ xn ∧ xn ≤ 255 ∧ xm = -1 ∧ xmode < 0) ∨ (n = 1 ∧ 0 ≤ xn ∧ xn ≤ 255 ∧ xm = -1 ∧ 0 ≤ xmode ∧ 2 < xmode) ∨ (n = 1 ∧ 0 ≤ xn ∧ xn ≤ 255 ∧ xm ≠ -1 ∧ xn ≤ xm ∧ xm ≤ 255 ∧ xmode < 0) ∨ (n = 1 ∧ 0 ≤ xn ∧ xn ≤ 255 ∧ xm ≠ -1 ∧ xn ≤ xm ∧ xm ≤ 255 ∧ 0 ≤ xmode ∧ 2 < xmode) by omega) with h | ⟨rfl, h⟩ | ⟨rfl, h, h2⟩ | ⟨rfl, h, h2, h3, h4⟩ | ⟨rfl, h, h2, h3, h4, h5⟩ | ⟨rfl, h, h2, rfl, h4⟩ | ⟨rfl, h, h2, rfl, h4, h5⟩ | ⟨rfl, h, h2, h3, h4, h5, h6⟩ | ⟨rfl, h, h2, h3, h4, h5, h6, h7⟩
   all_goals
     clear hin
     first
       | have e1 : (n == 1) = false := by simp; omega
       | skip
     go_wp2_with fail
     go_ret
     exact ⟨by rw [← HF.out]; rfl, below_alloc w _⟩
 · have hl : k.len = 1 := by omega
   have HM2 := Lib.hid (show repK k.hd = R by
     rw [← HM.out]
     have a1 : wi xn 0 255 = true := by simp only [wi, Bool.and_eq_true, decide_eq_true_eq]; omega
     have a2 : wi xmode 0 2 = true := by simp only [wi, Bool.and_eq_true, decide_eq_true_eq]; omega
     have a3 : (decide (xm = -1) || wi xm xn 255) = true := by simp only [wi, Bool.or_eq_true, Bool.and_eq_true, decide_eq_true_eq]; omega
     rw [a1, a2, a3]
     simp [hl])
   obtain ⟨b, o, rfl, hc⟩ := hd_at hkd (by omega)
   have hcb := below_cell (below_alloc w (.cells #[.int .i64 20, .int .i64 xa, .int .i64 xc, xs, .bool xneg, .int .i64 xn, .int .i64 xm, .int .i64 xmode, .string xname, .int .i64 xon, .int .i64 xoff, .slice (some ⟨b, o, none⟩) k.len cap] 25)) hc
   have h1 : 0 ≤ xn := by omega
   have h2 : xn ≤ 255 := by omega
   have h4 : 0 ≤ xmode := by omega
   have h5 : xmode ≤ 2 := by omega
   have h3 : xm = -1 ∨ (xm ≠ -1 ∧ xn ≤ xm ∧ xm ≤ 255) := by omega
   clear hin HM hkd hc
   rw [hl] at hcb ⊢
   generalize k.hd = q at *
   unfold ndV
   go_enter Try.func43, Try.ntmps43
   rcases h3 with rfl | ⟨h3, h6, h7⟩
   all_goals
     go_wp2_with fail
     all_goals go_ret
     all_goals refine ⟨?_, below_alloc w _⟩
     all_goals
       rw [← HM2.out]
       first
         | rfl
         | (refine congrArg (fun b => Ending.returned (Value.bool b)) ?_; rw [Bool.eq_iff_iff]; simp [repK]; done)
         | (refine congrArg (fun b => Ending.returned (Value.bool b)) ?_; rw [Bool.eq_iff_iff]; simp [repK]; omega)
theorem may_any (x : Lab) (k : F) (w : World) (hd : NdAt w (x, k)) : Calls Try.prog 43 #[ndV x] w (BoolB (mayP (x, k)) w) := by
 by_cases hno : x.kind < 1 ∨ 20 < x.kind
 · exact may_no x k w hd hno
 by_cases k1 : x.kind = 1
 · exact may_1 x k w hd k1
 by_cases k2 : x.kind = 2
 · exact may_2 x k w hd k2
 by_cases k3 : x.kind = 3
 · exact may_3 x k w hd k3
 by_cases k4 : x.kind = 4
 · exact may_4 x k w hd k4
 by_cases k5 : x.kind = 5
 · exact may_5 x k w hd k5
 by_cases k6 : x.kind = 6
 · exact may_6 x k w hd k6
 by_cases k7 : x.kind = 7
 · exact may_7 x k w hd k7
 by_cases k8 : x.kind = 8
 · exact may_8 x k w hd k8
 by_cases k9 : x.kind = 9
 · exact may_9 x k w hd k9
 by_cases k10 : x.kind = 10
 · exact may_10 x k w hd k10
 by_cases k11 : x.kind = 11
 · exact may_11 x k w hd k11
 by_cases k12 : x.kind = 12
 · exact may_12 x k w hd k12
 by_cases k13 : x.kind = 13
 · exact may_13 x k w hd k13
 by_cases k14 : x.kind = 14
 · exact may_14 x k w hd k14
 by_cases k15 : x.kind = 15
 · exact may_15 x k w hd k15
 by_cases k16 : x.kind = 16
 · exact may_16 x k w hd k16
 by_cases k17 : x.kind = 17
 · exact may_17 x k w hd k17
 by_cases k18 : x.kind = 18
 · exact may_18 x k w hd k18
 by_cases k19 : x.kind = 19
 · exact may_19 x k w hd k19
 exact may_20 x k w hd (by omega)
end Go.Proofs.Ytlbdfcglpegabaa.trw
end
