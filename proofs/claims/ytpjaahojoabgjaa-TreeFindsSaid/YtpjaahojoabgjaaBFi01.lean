/- Texts that TreeFindsLaw leans on, merged: what the functions of the program answer. -/
import Derived.BigQuiet
import Derived.Laws.BytesArg
import Derived.Laws.CopyRow
import Derived.Laws.Rows
import Derived.Lib.Hide
import Derived.Lib.QuietBelow
import Derived.OwnWalk
import Derived.Test.YtpjaahojoabgjaaRows
import Derived.WalkKit
import Derived.Test.YtpjaahojoabgjaaBTr01
import Derived.Test.YtpjaahojoabgjaaBTr02
import Derived.Test.YtpjaahojoabgjaaBTr03
import Derived.Test.YtpjaahojoabgjaaBTr04
import Derived.Test.YtpjaahojoabgjaaBTr05
import Derived.Test.YtpjaahojoabgjaaBTr06
import Derived.Test.YtpjaahojoabgjaaBTr07
namespace Go.Proofs.Ytpjaahojoabgjaa.lawTreeFinds
end Go.Proofs.Ytpjaahojoabgjaa.lawTreeFinds
namespace Go.Proofs.Ytpjaahojoabgjaa.trp
end Go.Proofs.Ytpjaahojoabgjaa.trp
namespace Go.Proofs.Ytpjaahojoabgjaa.trw
end Go.Proofs.Ytpjaahojoabgjaa.trw
section
namespace Go.Proofs.Ytpjaahojoabgjaa.trw
open Go.Sort Go Go.RowKit trp
set_option maxRecDepth 100000 in
set_option maxHeartbeats 4000000 in
theorem rrises_any (v : Value) (l : List (Int × Int)) (w : World) (hv : RgAt w v l) : Calls Try.prog 47 #[v] w (BoolB (rises 0 l) w) := by
 obtain ⟨a, cap, rfl⟩ := rg_len hv
 obtain ⟨R, hR⟩ : ∃ R, rises 0 l = R := ⟨_, rfl⟩
 rw [hR]
 have HR := Lib.hid hR
 have HV := Lib.hid hv
 clear hR hv
 go_enter Try.func47, Try.ntmps47
 go_wp2_with fail
 go_loopw [3] (fun iv wr => ∃ (i : Nat) (lo : Int), iv = .int .i64 i ∧ i ≤ l.length ∧ Hid ((i = 0 ∧ lo = 0) ∨ ∃ q, 0 < i ∧ l[i - 1]? = some q ∧ lo = q.2 + 2 ∧ 0 ≤ q.2 ∧ q.2 ≤ 1114111) ∧ Hid (rises lo (l.drop i) = R) ∧ Below w.heap.size w wr) (fun iv _ => l.length - (intOf iv).toNat)
 case atStart => exact ⟨0, 0, rfl, Nat.zero_le _, Lib.hid (Or.inl ⟨rfl, rfl⟩), HR, Below.refl _ _⟩
 case round =>
   obtain ⟨i, lo, rfl, hi, HP, HL, hb⟩ := hrel
   by_cases hend : i = l.length
   · have HRes := Lib.hid (show true = R by have := HL.out; rwa [hend, List.drop_length] at this)
     subst hend
     clear HP
     go_wp2_with fail
     go_ret
     exact ⟨by rw [← HRes.out]; rfl, hb⟩
   · have hlt : i < l.length := by omega
     obtain ⟨b, o, rfl, _, hcap, hcap2, hall⟩ := rg_at HV.out hlt
     obtain ⟨r, hr, hdr⟩ := get_drop hlt
     obtain ⟨c0, c1, i0, i1⟩ := hall i r hr
     have c0 := below_cell hb c0
     have c1 := below_cell hb c1
     have hadd := add_row b o i 2
     have hi0' : (0 : Int) ≤ (i : Int) := by omega
     have hiL : (i : Int) < (l.length : Int) := by omega
     have HD := Lib.hid hdr
     have hp := HP.out
     have nx : ∀ lo', lo' = r.2 + 2 → 0 ≤ r.2 → r.2 ≤ 1114111 → Hid ((i + 1 = 0 ∧ lo' = 0) ∨ ∃ q, 0 < i + 1 ∧ l[i + 1 - 1]? = some q ∧ lo' = q.2 + 2 ∧ 0 ≤ q.2 ∧ q.2 ≤ 1114111) := fun lo' e1 e2 e3 => Lib.hid (Or.inr ⟨r, Nat.succ_pos _, hr, e1, e2, e3⟩)
     have NX := Lib.hid nx
     obtain ⟨lo', hi'⟩ := r
     simp only [I64] at c0 c1 i0 i1
     clear hr hdr nx
     rcases hp with ⟨rfl, rfl⟩ | ⟨⟨pl, ph⟩, hi0, hq, rfl, hp1, hp2⟩
     · clear hall HP
       simp only [Nat.zero_mul, Nat.add_zero] at c0 c1 hadd
       have k0 := cell_regrown c0
       have k1 := cell_regrown c1
       by_cases hbad : lo' < 0 ∨ hi' < lo' ∨ 1114111 < hi'
       · have HRes := Lib.hid (show false = R by rw [← HL.out, HD.out, rises_bad hbad])
         rcases (show lo' < 0 ∨ (0 ≤ lo' ∧ hi' < lo') ∨ (0 ≤ lo' ∧ lo' ≤ hi' ∧ 1114111 < hi') by omega) with h | ⟨h, h2⟩ | ⟨h, h2, h3⟩
         all_goals
           clear hbad
           first
             | have q0 : decide (lo' < 0) = true := decide_eq_true (by omega)
             | have q0 : decide (lo' < 0) = false := decide_eq_false (by omega)
           first
             | have q1 : decide (hi' < lo') = true := decide_eq_true (by omega)
             | have q1 : decide (hi' < lo') = false := decide_eq_false (by omega)
             | skip
           first
             | have q2 : decide (1114111 < hi') = true := decide_eq_true (by omega)
             | have q2 : decide (1114111 < hi') = false := decide_eq_false (by omega)
             | skip
           first
             | have q3 : decide (lo' ≤ ph + 1) = true := decide_eq_true (by omega)
             | skip
           go_wp2_with fail
           refine wp_region_quiet_below (by kernel_rfl) (by kernel_rfl) ?_
           repeat (go_big_quiet_step (fail))
           refine wpQuiet_nil ?_
           intro _ hw'
           obtain ⟨⟨dq, osq⟩, hw''⟩ := hw'
           subst hw''
           have hbq := below_trans hb (below_regrown _ dq osq)
           go_wp2_with fail
           go_ret
           exact ⟨by rw [← HRes.out]; rfl, hbq⟩
       · simp only [not_or] at hbad
         obtain ⟨h1, h2, h3⟩ := hbad
         have HN := Lib.hid (show rises (hi' + 2) (l.drop (0 + 1)) = R by rw [← HL.out, HD.out, rises_ok (by omega) (by omega) (by omega)])
         have h1 : 0 ≤ lo' := by omega
         have h2 : lo' ≤ hi' := by omega
         have h3 : hi' ≤ 1114111 := by omega
         have q0 : decide (lo' < 0) = false := decide_eq_false (by omega)
         have q1 : decide (hi' < lo') = false := decide_eq_false (by omega)
         have q2 : decide (1114111 < hi') = false := decide_eq_false (by omega)
         go_wp2_with fail
         refine wp_region_quiet_below (by kernel_rfl) (by kernel_rfl) ?_
         repeat (go_big_quiet_step (fail))
         refine wpQuiet_nil ?_
         intro _ hw'
         obtain ⟨⟨dq, osq⟩, hw''⟩ := hw'
         subst hw''
         have hbq := below_trans hb (below_regrown _ dq osq)
         go_wp2_with fail
         go_roundw
         case rel => exact ⟨0 + 1, hi' + 2, by go_num, hlt, NX.out _ rfl (by omega) h3, HN, hbq⟩
         case measure => simp [intOf]; omega
     · obtain ⟨j, rfl⟩ : ∃ j, i = j + 1 := ⟨i - 1, by omega⟩
       obtain ⟨d0, d1, _, _⟩ := hall j (pl, ph) hq
       have d0 := below_cell hb d0
       have d1 := below_cell hb d1
       simp only at d0 d1 hp1 hp2
       have hadd2 := add_row b o j 2
       clear hall HP hq
       have k0 := cell_regrown c0
       have k1 := cell_regrown c1
       have m0 := cell_regrown d0
       have m1 := cell_regrown d1
       have q4 : decide ((0 : Int) < (j : Int) + 1) = true := decide_eq_true (by omega)
       have hj1 : (0 : Int) ≤ (j : Int) + 1 := by omega
       have hj2 : (j : Int) + 1 < (l.length : Int) := by omega
       have hj3 : (0 : Int) ≤ (j : Int) := by omega
       have hj4 : (j : Int) < (l.length : Int) := by omega
       by_cases hbad : lo' < ph + 2 ∨ hi' < lo' ∨ 1114111 < hi'
       · have HRes := Lib.hid (show false = R by rw [← HL.out, HD.out, rises_bad hbad])
         rcases (show lo' < 0 ∨ (0 ≤ lo' ∧ hi' < lo') ∨ (0 ≤ lo' ∧ lo' ≤ hi' ∧ 1114111 < hi') ∨ (0 ≤ lo' ∧ lo' ≤ hi' ∧ hi' ≤ 1114111 ∧ lo' ≤ ph + 1) by omega) with h | ⟨h, h2⟩ | ⟨h, h2, h3⟩ | ⟨h, h2, h3, h4⟩
         all_goals
           clear hbad
           first
             | have q0 : decide (lo' < 0) = true := decide_eq_true (by omega)
             | have q0 : decide (lo' < 0) = false := decide_eq_false (by omega)
           first
             | have q1 : decide (hi' < lo') = true := decide_eq_true (by omega)
             | have q1 : decide (hi' < lo') = false := decide_eq_false (by omega)
             | skip
           first
             | have q2 : decide (1114111 < hi') = true := decide_eq_true (by omega)
             | have q2 : decide (1114111 < hi') = false := decide_eq_false (by omega)
             | skip
           first
             | have q3 : decide (lo' ≤ ph + 1) = true := decide_eq_true (by omega)
             | skip
           go_wp2_with fail
           refine wp_region_quiet_below (by kernel_rfl) (by kernel_rfl) ?_
           repeat (go_big_quiet_step (fail))
           refine wpQuiet_nil ?_
           intro _ hw'
           obtain ⟨⟨dq, osq⟩, hw''⟩ := hw'
           subst hw''
           have hbq := below_trans hb (below_regrown _ dq osq)
           go_wp2_with fail
           go_ret
           exact ⟨by rw [← HRes.out]; rfl, hbq⟩
       · simp only [not_or] at hbad
         obtain ⟨h1, h2, h3⟩ := hbad
         have HN := Lib.hid (show rises (hi' + 2) (l.drop (j + 1 + 1)) = R by rw [← HL.out, HD.out, rises_ok (by omega) (by omega) (by omega)])
         have h1 : 0 ≤ lo' := by omega
         have h2 : lo' ≤ hi' := by omega
         have h3 : hi' ≤ 1114111 := by omega
         have q0 : decide (lo' < 0) = false := decide_eq_false (by omega)
         have q1 : decide (hi' < lo') = false := decide_eq_false (by omega)
         have q2 : decide (1114111 < hi') = false := decide_eq_false (by omega)
         have q3 : decide (lo' ≤ ph + 1) = false := decide_eq_false (by omega)
         go_wp2_with fail
         refine wp_region_quiet_below (by kernel_rfl) (by kernel_rfl) ?_
         repeat (go_big_quiet_step (fail))
         refine wpQuiet_nil ?_
         intro _ hw'
         obtain ⟨⟨dq, osq⟩, hw''⟩ := hw'
         subst hw''
         have hbq := below_trans hb (below_regrown _ dq osq)
         go_wp2_with fail
         go_roundw
         case rel => exact ⟨j + 1 + 1, hi' + 2, by go_num, hlt, NX.out _ rfl (by omega) h3, HN, hbq⟩
         case measure => simp [intOf]; omega
end Go.Proofs.Ytpjaahojoabgjaa.trw
end
section
namespace Go.Proofs.Ytpjaahojoabgjaa.trw
open Go Go.RowKit trp
set_option maxRecDepth 100000 in
set_option maxHeartbeats 2000000 in
theorem may_1 (x : Lab) (k : F) (w : World) (hd : NdAt w (x, k)) (hk : x.kind = 1) : Calls Try.prog 42 #[ndV x] w (BoolB (mayP (x, k)) w) := by
 obtain ⟨hlab, hrg, hkd⟩ := hd
 obtain ⟨a, cap, hkv⟩ := kids_len hkd
 obtain ⟨xk, xa, xc, xs, xset, xneg, xn, xm, xmode, xname, xon, xoff, xkv⟩ := x
 simp only at hkd hkv hrg hlab hk
 subst hkv hk
 obtain ⟨R, hR⟩ : ∃ R, mayP (⟨1, xa, xc, xs, xset, xneg, xn, xm, xmode, xname, xon, xoff, .slice a k.len cap⟩, k) = R := ⟨_, rfl⟩
 rw [hR]
 have HM := Lib.hid (show (decide (k.len = 0) && wi xc 0 1114111) = R by rw [← hR]; rfl)
 obtain ⟨n, hn⟩ : ∃ n, k.len = n := ⟨_, rfl⟩
 rw [hn] at HM ⊢
 clear hkd hrg hlab hn hR
 unfold ndV
 go_enter Try.func42, Try.ntmps42
 go_wp2_with fail
 all_goals go_ret
 all_goals refine ⟨?_, below_alloc w _⟩
 all_goals
   rw [← HM.out]
   first
     | rfl
     | (refine congrArg (fun b => Ending.returned (Value.bool b)) ?_; rw [Bool.eq_iff_iff]; simp [wi]; done)
     | (refine congrArg (fun b => Ending.returned (Value.bool b)) ?_; rw [Bool.eq_iff_iff]; simp [wi]; omega)
set_option maxRecDepth 100000 in
set_option maxHeartbeats 2000000 in
theorem may_3 (x : Lab) (k : F) (w : World) (hd : NdAt w (x, k)) (hk : x.kind = 3) : Calls Try.prog 42 #[ndV x] w (BoolB (mayP (x, k)) w) := by
 obtain ⟨hlab, hrg, hkd⟩ := hd
 obtain ⟨a, cap, hkv⟩ := kids_len hkd
 obtain ⟨xk, xa, xc, xs, xset, xneg, xn, xm, xmode, xname, xon, xoff, xkv⟩ := x
 simp only at hkd hkv hrg hlab hk
 subst hkv hk
 obtain ⟨R, hR⟩ : ∃ R, mayP (⟨3, xa, xc, xs, xset, xneg, xn, xm, xmode, xname, xon, xoff, .slice a k.len cap⟩, k) = R := ⟨_, rfl⟩
 rw [hR]
 have HM := Lib.hid (show (decide (k.len = 0) && true) = R by rw [← hR]; rfl)
 obtain ⟨n, hn⟩ : ∃ n, k.len = n := ⟨_, rfl⟩
 rw [hn] at HM ⊢
 clear hkd hrg hlab hn hR
 unfold ndV
 go_enter Try.func42, Try.ntmps42
 go_wp2_with fail
 all_goals go_ret
 all_goals refine ⟨?_, below_alloc w _⟩
 all_goals
   rw [← HM.out]
   first
     | rfl
     | (refine congrArg (fun b => Ending.returned (Value.bool b)) ?_; rw [Bool.eq_iff_iff]; simp [wi]; done)
     | (refine congrArg (fun b => Ending.returned (Value.bool b)) ?_; rw [Bool.eq_iff_iff]; simp [wi]; omega)
set_option maxRecDepth 100000 in
set_option maxHeartbeats 2000000 in
theorem may_5 (x : Lab) (k : F) (w : World) (hd : NdAt w (x, k)) (hk : x.kind = 5) : Calls Try.prog 42 #[ndV x] w (BoolB (mayP (x, k)) w) := by
 obtain ⟨hlab, hrg, hkd⟩ := hd
 obtain ⟨a, cap, hkv⟩ := kids_len hkd
 obtain ⟨xk, xa, xc, xs, xset, xneg, xn, xm, xmode, xname, xon, xoff, xkv⟩ := x
 simp only at hkd hkv hrg hlab hk
 subst hkv hk
 obtain ⟨R, hR⟩ : ∃ R, mayP (⟨5, xa, xc, xs, xset, xneg, xn, xm, xmode, xname, xon, xoff, .slice a k.len cap⟩, k) = R := ⟨_, rfl⟩
 rw [hR]
 have HM := Lib.hid (show (decide (k.len = 0) && true) = R by rw [← hR]; rfl)
 obtain ⟨n, hn⟩ : ∃ n, k.len = n := ⟨_, rfl⟩
 rw [hn] at HM ⊢
 clear hkd hrg hlab hn hR
 unfold ndV
 go_enter Try.func42, Try.ntmps42
 go_wp2_with fail
 all_goals go_ret
 all_goals refine ⟨?_, below_alloc w _⟩
 all_goals
   rw [← HM.out]
   first
     | rfl
     | (refine congrArg (fun b => Ending.returned (Value.bool b)) ?_; rw [Bool.eq_iff_iff]; simp [wi]; done)
     | (refine congrArg (fun b => Ending.returned (Value.bool b)) ?_; rw [Bool.eq_iff_iff]; simp [wi]; omega)
set_option maxRecDepth 100000 in
set_option maxHeartbeats 2000000 in
theorem may_6 (x : Lab) (k : F) (w : World) (hd : NdAt w (x, k)) (hk : x.kind = 6) : Calls Try.prog 42 #[ndV x] w (BoolB (mayP (x, k)) w) := by
 obtain ⟨hlab, hrg, hkd⟩ := hd
 obtain ⟨a, cap, hkv⟩ := kids_len hkd
 obtain ⟨xk, xa, xc, xs, xset, xneg, xn, xm, xmode, xname, xon, xoff, xkv⟩ := x
 simp only at hkd hkv hrg hlab hk
 subst hkv hk
 obtain ⟨R, hR⟩ : ∃ R, mayP (⟨6, xa, xc, xs, xset, xneg, xn, xm, xmode, xname, xon, xoff, .slice a k.len cap⟩, k) = R := ⟨_, rfl⟩
 rw [hR]
 have HM := Lib.hid (show (decide (k.len = 0) && true) = R by rw [← hR]; rfl)
 obtain ⟨n, hn⟩ : ∃ n, k.len = n := ⟨_, rfl⟩
 rw [hn] at HM ⊢
 clear hkd hrg hlab hn hR
 unfold ndV
 go_enter Try.func42, Try.ntmps42
 go_wp2_with fail
 all_goals go_ret
 all_goals refine ⟨?_, below_alloc w _⟩
 all_goals
   rw [← HM.out]
   first
     | rfl
     | (refine congrArg (fun b => Ending.returned (Value.bool b)) ?_; rw [Bool.eq_iff_iff]; simp [wi]; done)
     | (refine congrArg (fun b => Ending.returned (Value.bool b)) ?_; rw [Bool.eq_iff_iff]; simp [wi]; omega)
set_option maxRecDepth 100000 in
set_option maxHeartbeats 2000000 in
theorem may_11 (x : Lab) (k : F) (w : World) (hd : NdAt w (x, k)) (hk : x.kind = 11) : Calls Try.prog 42 #[ndV x] w (BoolB (mayP (x, k)) w) := by
 obtain ⟨hlab, hrg, hkd⟩ := hd
 obtain ⟨a, cap, hkv⟩ := kids_len hkd
 obtain ⟨xk, xa, xc, xs, xset, xneg, xn, xm, xmode, xname, xon, xoff, xkv⟩ := x
 simp only at hkd hkv hrg hlab hk
 subst hkv hk
 obtain ⟨R, hR⟩ : ∃ R, mayP (⟨11, xa, xc, xs, xset, xneg, xn, xm, xmode, xname, xon, xoff, .slice a k.len cap⟩, k) = R := ⟨_, rfl⟩
 rw [hR]
 have HM := Lib.hid (show (decide (k.len = 0) && true) = R by rw [← hR]; rfl)
 obtain ⟨n, hn⟩ : ∃ n, k.len = n := ⟨_, rfl⟩
 rw [hn] at HM ⊢
 clear hkd hrg hlab hn hR
 unfold ndV
 go_enter Try.func42, Try.ntmps42
 go_wp2_with fail
 all_goals go_ret
 all_goals refine ⟨?_, below_alloc w _⟩
 all_goals
   rw [← HM.out]
   first
     | rfl
     | (refine congrArg (fun b => Ending.returned (Value.bool b)) ?_; rw [Bool.eq_iff_iff]; simp [wi]; done)
     | (refine congrArg (fun b => Ending.returned (Value.bool b)) ?_; rw [Bool.eq_iff_iff]; simp [wi]; omega)
set_option maxRecDepth 100000 in
set_option maxHeartbeats 2000000 in
theorem may_4 (x : Lab) (k : F) (w : World) (hd : NdAt w (x, k)) (hk : x.kind = 4) : Calls Try.prog 42 #[ndV x] w (BoolB (mayP (x, k)) w) := by
 obtain ⟨hlab, hrg, hkd⟩ := hd
 obtain ⟨a, cap, hkv⟩ := kids_len hkd
 obtain ⟨xk, xa, xc, xs, xset, xneg, xn, xm, xmode, xname, xon, xoff, xkv⟩ := x
 simp only at hkd hkv hrg hlab hk
 subst hkv hk
 obtain ⟨R, hR⟩ : ∃ R, mayP (⟨4, xa, xc, xs, xset, xneg, xn, xm, xmode, xname, xon, xoff, .slice a k.len cap⟩, k) = R := ⟨_, rfl⟩
 rw [hR]
 have HM := Lib.hid (show (decide (k.len = 0) && wi xn 1 10) = R by rw [← hR]; rfl)
 obtain ⟨n, hn⟩ : ∃ n, k.len = n := ⟨_, rfl⟩
 rw [hn] at HM ⊢
 clear hkd hrg hlab hn hR
 unfold ndV
 go_enter Try.func42, Try.ntmps42
 go_wp2_with fail
 all_goals go_ret
 all_goals refine ⟨?_, below_alloc w _⟩
 all_goals
   rw [← HM.out]
   first
     | rfl
     | (refine congrArg (fun b => Ending.returned (Value.bool b)) ?_; rw [Bool.eq_iff_iff]; simp [wi]; done)
     | (refine congrArg (fun b => Ending.returned (Value.bool b)) ?_; rw [Bool.eq_iff_iff]; simp [wi]; omega)
set_option maxRecDepth 100000 in
set_option maxHeartbeats 2000000 in
theorem may_7 (x : Lab) (k : F) (w : World) (hd : NdAt w (x, k)) (hk : x.kind = 7) : Calls Try.prog 42 #[ndV x] w (BoolB (mayP (x, k)) w) := by
 obtain ⟨hlab, hrg, hkd⟩ := hd
 obtain ⟨a, cap, hkv⟩ := kids_len hkd
 obtain ⟨xk, xa, xc, xs, xset, xneg, xn, xm, xmode, xname, xon, xoff, xkv⟩ := x
 simp only at hkd hkv hrg hlab hk
 subst hkv hk
 obtain ⟨R, hR⟩ : ∃ R, mayP (⟨7, xa, xc, xs, xset, xneg, xn, xm, xmode, xname, xon, xoff, .slice a k.len cap⟩, k) = R := ⟨_, rfl⟩
 rw [hR]
 have HM := Lib.hid (show (decide (k.len = 0) && (wi xm 0 3 && wi xn 0 255)) = R by rw [← hR]; rfl)
 obtain ⟨n, hn⟩ : ∃ n, k.len = n := ⟨_, rfl⟩
 rw [hn] at HM ⊢
 clear hkd hrg hlab hn hR
 unfold ndV
 go_enter Try.func42, Try.ntmps42
 go_wp2_with fail
 all_goals go_ret
 all_goals refine ⟨?_, below_alloc w _⟩
 all_goals
   rw [← HM.out]
   first
     | rfl
     | (refine congrArg (fun b => Ending.returned (Value.bool b)) ?_; rw [Bool.eq_iff_iff]; simp [wi]; done)
     | (refine congrArg (fun b => Ending.returned (Value.bool b)) ?_; rw [Bool.eq_iff_iff]; simp [wi]; omega)
set_option maxRecDepth 100000 in
set_option maxHeartbeats 2000000 in
theorem may_8 (x : Lab) (k : F) (w : World) (hd : NdAt w (x, k)) (hk : x.kind = 8) : Calls Try.prog 42 #[ndV x] w (BoolB (mayP (x, k)) w) := by
 obtain ⟨hlab, hrg, hkd⟩ := hd
 obtain ⟨a, cap, hkv⟩ := kids_len hkd
 obtain ⟨xk, xa, xc, xs, xset, xneg, xn, xm, xmode, xname, xon, xoff, xkv⟩ := x
 simp only at hkd hkv hrg hlab hk
 subst hkv hk
 obtain ⟨R, hR⟩ : ∃ R, mayP (⟨8, xa, xc, xs, xset, xneg, xn, xm, xmode, xname, xon, xoff, .slice a k.len cap⟩, k) = R := ⟨_, rfl⟩
 rw [hR]
 have HM := Lib.hid (show (decide (k.len = 0) && (wi xm 0 3 && wi xn 0 255)) = R by rw [← hR]; rfl)
 obtain ⟨n, hn⟩ : ∃ n, k.len = n := ⟨_, rfl⟩
 rw [hn] at HM ⊢
 clear hkd hrg hlab hn hR
 unfold ndV
 go_enter Try.func42, Try.ntmps42
 go_wp2_with fail
 all_goals go_ret
 all_goals refine ⟨?_, below_alloc w _⟩
 all_goals
   rw [← HM.out]
   first
     | rfl
     | (refine congrArg (fun b => Ending.returned (Value.bool b)) ?_; rw [Bool.eq_iff_iff]; simp [wi]; done)
     | (refine congrArg (fun b => Ending.returned (Value.bool b)) ?_; rw [Bool.eq_iff_iff]; simp [wi]; omega)
set_option maxRecDepth 100000 in
set_option maxHeartbeats 2000000 in
theorem may_9 (x : Lab) (k : F) (w : World) (hd : NdAt w (x, k)) (hk : x.kind = 9) : Calls Try.prog 42 #[ndV x] w (BoolB (mayP (x, k)) w) := by
 obtain ⟨hlab, hrg, hkd⟩ := hd
 obtain ⟨a, cap, hkv⟩ := kids_len hkd
 obtain ⟨xk, xa, xc, xs, xset, xneg, xn, xm, xmode, xname, xon, xoff, xkv⟩ := x
 simp only at hkd hkv hrg hlab hk
 subst hkv hk
 obtain ⟨R, hR⟩ : ∃ R, mayP (⟨9, xa, xc, xs, xset, xneg, xn, xm, xmode, xname, xon, xoff, .slice a k.len cap⟩, k) = R := ⟨_, rfl⟩
 rw [hR]
 have HM := Lib.hid (show (decide (k.len = 0) && wi xn 1 7) = R by rw [← hR]; rfl)
 obtain ⟨n, hn⟩ : ∃ n, k.len = n := ⟨_, rfl⟩
 rw [hn] at HM ⊢
 clear hkd hrg hlab hn hR
 unfold ndV
 go_enter Try.func42, Try.ntmps42
 go_wp2_with fail
 all_goals go_ret
 all_goals refine ⟨?_, below_alloc w _⟩
 all_goals
   rw [← HM.out]
   first
     | rfl
     | (refine congrArg (fun b => Ending.returned (Value.bool b)) ?_; rw [Bool.eq_iff_iff]; simp [wi]; done)
     | (refine congrArg (fun b => Ending.returned (Value.bool b)) ?_; rw [Bool.eq_iff_iff]; simp [wi]; omega)
set_option maxRecDepth 100000 in
set_option maxHeartbeats 2000000 in
theorem may_10 (x : Lab) (k : F) (w : World) (hd : NdAt w (x, k)) (hk : x.kind = 10) : Calls Try.prog 42 #[ndV x] w (BoolB (mayP (x, k)) w) := by
 obtain ⟨hlab, hrg, hkd⟩ := hd
 obtain ⟨a, cap, hkv⟩ := kids_len hkd
 obtain ⟨xk, xa, xc, xs, xset, xneg, xn, xm, xmode, xname, xon, xoff, xkv⟩ := x
 simp only at hkd hkv hrg hlab hk
 subst hkv hk
 obtain ⟨R, hR⟩ : ∃ R, mayP (⟨10, xa, xc, xs, xset, xneg, xn, xm, xmode, xname, xon, xoff, .slice a k.len cap⟩, k) = R := ⟨_, rfl⟩
 rw [hR]
 have HM := Lib.hid (show (decide (k.len = 0) && wi xn 0 255) = R by rw [← hR]; rfl)
 obtain ⟨n, hn⟩ : ∃ n, k.len = n := ⟨_, rfl⟩
 rw [hn] at HM ⊢
 clear hkd hrg hlab hn hR
 unfold ndV
 go_enter Try.func42, Try.ntmps42
 go_wp2_with fail
 all_goals go_ret
 all_goals refine ⟨?_, below_alloc w _⟩
 all_goals
   rw [← HM.out]
   first
     | rfl
     | (refine congrArg (fun b => Ending.returned (Value.bool b)) ?_; rw [Bool.eq_iff_iff]; simp [wi]; done)
     | (refine congrArg (fun b => Ending.returned (Value.bool b)) ?_; rw [Bool.eq_iff_iff]; simp [wi]; omega)
set_option maxRecDepth 100000 in
set_option maxHeartbeats 2000000 in
theorem may_12 (x : Lab) (k : F) (w : World) (hd : NdAt w (x, k)) (hk : x.kind = 12) : Calls Try.prog 42 #[ndV x] w (BoolB (mayP (x, k)) w) := by
 obtain ⟨hlab, hrg, hkd⟩ := hd
 obtain ⟨a, cap, hkv⟩ := kids_len hkd
 obtain ⟨xk, xa, xc, xs, xset, xneg, xn, xm, xmode, xname, xon, xoff, xkv⟩ := x
 simp only at hkd hkv hrg hlab hk
 subst hkv hk
 obtain ⟨R, hR⟩ : ∃ R, mayP (⟨12, xa, xc, xs, xset, xneg, xn, xm, xmode, xname, xon, xoff, .slice a k.len cap⟩, k) = R := ⟨_, rfl⟩
 rw [hR]
 have HM := Lib.hid (show (decide (k.len ≠ 1)) = R by rw [← hR]; rfl)
 obtain ⟨n, hn⟩ : ∃ n, k.len = n := ⟨_, rfl⟩
 rw [hn] at HM ⊢
 clear hkd hrg hlab hn hR
 unfold ndV
 go_enter Try.func42, Try.ntmps42
 go_wp2_with fail
 all_goals go_ret
 all_goals refine ⟨?_, below_alloc w _⟩
 all_goals
   rw [← HM.out]
   first
     | rfl
     | (refine congrArg (fun b => Ending.returned (Value.bool b)) ?_; rw [Bool.eq_iff_iff]; simp [wi]; done)
     | (refine congrArg (fun b => Ending.returned (Value.bool b)) ?_; rw [Bool.eq_iff_iff]; simp [wi]; omega)
set_option maxRecDepth 100000 in
set_option maxHeartbeats 2000000 in
theorem may_13 (x : Lab) (k : F) (w : World) (hd : NdAt w (x, k)) (hk : x.kind = 13) : Calls Try.prog 42 #[ndV x] w (BoolB (mayP (x, k)) w) := by
 obtain ⟨hlab, hrg, hkd⟩ := hd
 obtain ⟨a, cap, hkv⟩ := kids_len hkd
 obtain ⟨xk, xa, xc, xs, xset, xneg, xn, xm, xmode, xname, xon, xoff, xkv⟩ := x
 simp only at hkd hkv hrg hlab hk
 subst hkv hk
 obtain ⟨R, hR⟩ : ∃ R, mayP (⟨13, xa, xc, xs, xset, xneg, xn, xm, xmode, xname, xon, xoff, .slice a k.len cap⟩, k) = R := ⟨_, rfl⟩
 rw [hR]
 have HM := Lib.hid (show (decide (2 ≤ k.len)) = R by rw [← hR]; rfl)
 obtain ⟨n, hn⟩ : ∃ n, k.len = n := ⟨_, rfl⟩
 rw [hn] at HM ⊢
 clear hkd hrg hlab hn hR
 unfold ndV
 go_enter Try.func42, Try.ntmps42
 go_wp2_with fail
 all_goals go_ret
 all_goals refine ⟨?_, below_alloc w _⟩
 all_goals
   rw [← HM.out]
   first
     | rfl
     | (refine congrArg (fun b => Ending.returned (Value.bool b)) ?_; rw [Bool.eq_iff_iff]; simp [wi]; done)
     | (refine congrArg (fun b => Ending.returned (Value.bool b)) ?_; rw [Bool.eq_iff_iff]; simp [wi]; omega)
set_option maxRecDepth 100000 in
set_option maxHeartbeats 2000000 in
theorem may_16 (x : Lab) (k : F) (w : World) (hd : NdAt w (x, k)) (hk : x.kind = 16) : Calls Try.prog 42 #[ndV x] w (BoolB (mayP (x, k)) w) := by
 obtain ⟨hlab, hrg, hkd⟩ := hd
 obtain ⟨a, cap, hkv⟩ := kids_len hkd
 obtain ⟨xk, xa, xc, xs, xset, xneg, xn, xm, xmode, xname, xon, xoff, xkv⟩ := x
 simp only at hkd hkv hrg hlab hk
 subst hkv hk
 obtain ⟨R, hR⟩ : ∃ R, mayP (⟨16, xa, xc, xs, xset, xneg, xn, xm, xmode, xname, xon, xoff, .slice a k.len cap⟩, k) = R := ⟨_, rfl⟩
 rw [hR]
 have HM := Lib.hid (show (decide (1 ≤ k.len)) = R by rw [← hR]; rfl)
 obtain ⟨n, hn⟩ : ∃ n, k.len = n := ⟨_, rfl⟩
 rw [hn] at HM ⊢
 clear hkd hrg hlab hn hR
 unfold ndV
 go_enter Try.func42, Try.ntmps42
 go_wp2_with fail
 all_goals go_ret
 all_goals refine ⟨?_, below_alloc w _⟩
 all_goals
   rw [← HM.out]
   first
     | rfl
     | (refine congrArg (fun b => Ending.returned (Value.bool b)) ?_; rw [Bool.eq_iff_iff]; simp [wi]; done)
     | (refine congrArg (fun b => Ending.returned (Value.bool b)) ?_; rw [Bool.eq_iff_iff]; simp [wi]; omega)
set_option maxRecDepth 100000 in
set_option maxHeartbeats 2000000 in
theorem may_14 (x : Lab) (k : F) (w : World) (hd : NdAt w (x, k)) (hk : x.kind = 14) : Calls Try.prog 42 #[ndV x] w (BoolB (mayP (x, k)) w) := by
 obtain ⟨hlab, hrg, hkd⟩ := hd
 obtain ⟨a, cap, hkv⟩ := kids_len hkd
 obtain ⟨xk, xa, xc, xs, xset, xneg, xn, xm, xmode, xname, xon, xoff, xkv⟩ := x
 simp only at hkd hkv hrg hlab hk
 subst hkv hk
 obtain ⟨R, hR⟩ : ∃ R, mayP (⟨14, xa, xc, xs, xset, xneg, xn, xm, xmode, xname, xon, xoff, .slice a k.len cap⟩, k) = R := ⟨_, rfl⟩
 rw [hR]
 have HM := Lib.hid (show (decide (k.len = 1)) = R by rw [← hR]; rfl)
 obtain ⟨n, hn⟩ : ∃ n, k.len = n := ⟨_, rfl⟩
 rw [hn] at HM ⊢
 clear hkd hrg hlab hn hR
 unfold ndV
 go_enter Try.func42, Try.ntmps42
 go_wp2_with fail
 all_goals go_ret
 all_goals refine ⟨?_, below_alloc w _⟩
 all_goals
   rw [← HM.out]
   first
     | rfl
     | (refine congrArg (fun b => Ending.returned (Value.bool b)) ?_; rw [Bool.eq_iff_iff]; simp [wi]; done)
     | (refine congrArg (fun b => Ending.returned (Value.bool b)) ?_; rw [Bool.eq_iff_iff]; simp [wi]; omega)
set_option maxRecDepth 100000 in
set_option maxHeartbeats 2000000 in
theorem may_15 (x : Lab) (k : F) (w : World) (hd : NdAt w (x, k)) (hk : x.kind = 15) : Calls Try.prog 42 #[ndV x] w (BoolB (mayP (x, k)) w) := by
 obtain ⟨hlab, hrg, hkd⟩ := hd
 obtain ⟨a, cap, hkv⟩ := kids_len hkd
 obtain ⟨xk, xa, xc, xs, xset, xneg, xn, xm, xmode, xname, xon, xoff, xkv⟩ := x
 simp only at hkd hkv hrg hlab hk
 subst hkv hk
 obtain ⟨R, hR⟩ : ∃ R, mayP (⟨15, xa, xc, xs, xset, xneg, xn, xm, xmode, xname, xon, xoff, .slice a k.len cap⟩, k) = R := ⟨_, rfl⟩
 rw [hR]
 have HM := Lib.hid (show (decide (k.len = 1)) = R by rw [← hR]; rfl)
 obtain ⟨n, hn⟩ : ∃ n, k.len = n := ⟨_, rfl⟩
 rw [hn] at HM ⊢
 clear hkd hrg hlab hn hR
 unfold ndV
 go_enter Try.func42, Try.ntmps42
 go_wp2_with fail
 all_goals go_ret
 all_goals refine ⟨?_, below_alloc w _⟩
 all_goals
   rw [← HM.out]
   first
     | rfl
     | (refine congrArg (fun b => Ending.returned (Value.bool b)) ?_; rw [Bool.eq_iff_iff]; simp [wi]; done)
     | (refine congrArg (fun b => Ending.returned (Value.bool b)) ?_; rw [Bool.eq_iff_iff]; simp [wi]; omega)
set_option maxRecDepth 100000 in
set_option maxHeartbeats 2000000 in
theorem may_17 (x : Lab) (k : F) (w : World) (hd : NdAt w (x, k)) (hk : x.kind = 17) : Calls Try.prog 42 #[ndV x] w (BoolB (mayP (x, k)) w) := by
 obtain ⟨hlab, hrg, hkd⟩ := hd
 obtain ⟨a, cap, hkv⟩ := kids_len hkd
 obtain ⟨xk, xa, xc, xs, xset, xneg, xn, xm, xmode, xname, xon, xoff, xkv⟩ := x
 simp only at hkd hkv hrg hlab hk
 subst hkv hk
 obtain ⟨R, hR⟩ : ∃ R, mayP (⟨17, xa, xc, xs, xset, xneg, xn, xm, xmode, xname, xon, xoff, .slice a k.len cap⟩, k) = R := ⟨_, rfl⟩
 rw [hR]
 have HM := Lib.hid (show (decide (k.len = 1)) = R by rw [← hR]; rfl)
 obtain ⟨n, hn⟩ : ∃ n, k.len = n := ⟨_, rfl⟩
 rw [hn] at HM ⊢
 clear hkd hrg hlab hn hR
 unfold ndV
 go_enter Try.func42, Try.ntmps42
 go_wp2_with fail
 all_goals go_ret
 all_goals refine ⟨?_, below_alloc w _⟩
 all_goals
   rw [← HM.out]
   first
     | rfl
     | (refine congrArg (fun b => Ending.returned (Value.bool b)) ?_; rw [Bool.eq_iff_iff]; simp [wi]; done)
     | (refine congrArg (fun b => Ending.returned (Value.bool b)) ?_; rw [Bool.eq_iff_iff]; simp [wi]; omega)
set_option maxRecDepth 100000 in
set_option maxHeartbeats 2000000 in
theorem may_18 (x : Lab) (k : F) (w : World) (hd : NdAt w (x, k)) (hk : x.kind = 18) : Calls Try.prog 42 #[ndV x] w (BoolB (mayP (x, k)) w) := by
 obtain ⟨hlab, hrg, hkd⟩ := hd
 obtain ⟨a, cap, hkv⟩ := kids_len hkd
 obtain ⟨xk, xa, xc, xs, xset, xneg, xn, xm, xmode, xname, xon, xoff, xkv⟩ := x
 simp only at hkd hkv hrg hlab hk
 subst hkv hk
 obtain ⟨R, hR⟩ : ∃ R, mayP (⟨18, xa, xc, xs, xset, xneg, xn, xm, xmode, xname, xon, xoff, .slice a k.len cap⟩, k) = R := ⟨_, rfl⟩
 rw [hR]
 have HM := Lib.hid (show (decide (k.len = 1) && wi xn 5 8) = R by rw [← hR]; rfl)
 obtain ⟨n, hn⟩ : ∃ n, k.len = n := ⟨_, rfl⟩
 rw [hn] at HM ⊢
 clear hkd hrg hlab hn hR
 unfold ndV
 go_enter Try.func42, Try.ntmps42
 go_wp2_with fail
 all_goals go_ret
 all_goals refine ⟨?_, below_alloc w _⟩
 all_goals
   rw [← HM.out]
   first
     | rfl
     | (refine congrArg (fun b => Ending.returned (Value.bool b)) ?_; rw [Bool.eq_iff_iff]; simp [wi]; done)
     | (refine congrArg (fun b => Ending.returned (Value.bool b)) ?_; rw [Bool.eq_iff_iff]; simp [wi]; omega)
end Go.Proofs.Ytpjaahojoabgjaa.trw
end
section
namespace Go.Proofs.Ytpjaahojoabgjaa.trw
open Go Go.RowKit trp
set_option maxRecDepth 100000 in
set_option maxHeartbeats 4000000 in
theorem may_2 (x : Lab) (k : F) (w : World) (hd : NdAt w (x, k)) (hk : x.kind = 2) : Calls Try.prog 42 #[ndV x] w (BoolB (mayP (x, k)) w) := by
 obtain ⟨hlab, hrg, hkd⟩ := hd
 obtain ⟨a, cap, hkv⟩ := kids_len hkd
 obtain ⟨xk, xa, xc, xs, xset, xneg, xn, xm, xmode, xname, xon, xoff, xkv⟩ := x
 simp only at hkd hkv hrg hlab hk
 subst hkv
 subst hk
 obtain ⟨R, hR⟩ : ∃ R, mayP (⟨2, xa, xc, xs, xset, xneg, xn, xm, xmode, xname, xon, xoff, .slice a k.len cap⟩, k) = R := ⟨_, rfl⟩
 rw [hR]
 have HM := Lib.hid (show (decide (k.len = 0) && rises 0 xset) = R by rw [← hR]; rfl)
 obtain ⟨n, hn⟩ : ∃ n, k.len = n := ⟨_, rfl⟩
 rw [hn] at HM ⊢
 have HS := Lib.hid (rrises_any xs xset (w.alloc (.cells #[.int .i64 2, .int .i64 xa, .int .i64 xc, xs, .bool xneg, .int .i64 xn, .int .i64 xm, .int .i64 xmode, .string xname, .int .i64 xon, .int .i64 xoff, .slice a n cap] 25)) (rgAt_mono (fun _ _ hc => below_cell (below_alloc w _) hc) hrg))
 clear hkd hrg hlab hn hR
 generalize rises 0 xset = q at *
 unfold ndV
 go_enter Try.func42, Try.ntmps42
 by_cases hn0 : n = 0
 · subst hn0
   go_wp2_with fail
   refine HS.out.mono ?_
   rintro e w2 ⟨rfl, hb2⟩
   go_wp2_with fail
   go_ret
   refine ⟨?_, below_box hb2⟩
   rw [← HM.out]
   rfl
 · have hn1 : ((n : Int) == 0) = false := by simp; omega
   go_wp2_with fail
   go_ret
   refine ⟨?_, below_alloc w _⟩
   rw [← HM.out]
   simp [hn0]
set_option maxRecDepth 100000 in
set_option maxHeartbeats 4000000 in
theorem may_19 (x : Lab) (k : F) (w : World) (hd : NdAt w (x, k)) (hk : x.kind = 19) : Calls Try.prog 42 #[ndV x] w (BoolB (mayP (x, k)) w) := by
 obtain ⟨hlab, hrg, hkd⟩ := hd
 obtain ⟨a, cap, hkv⟩ := kids_len hkd
 obtain ⟨xk, xa, xc, xs, xset, xneg, xn, xm, xmode, xname, xon, xoff, xkv⟩ := x
 simp only at hkd hkv hrg hlab hk
 subst hkv
 subst hk
 obtain ⟨R, hR⟩ : ∃ R, mayP (⟨19, xa, xc, xs, xset, xneg, xn, xm, xmode, xname, xon, xoff, .slice a k.len cap⟩, k) = R := ⟨_, rfl⟩
 rw [hR]
 have HM := Lib.hid (show (wi xmode (-1) 255 && wi xm 0 3 && (if xn = 9 ∨ xn = 10 ∨ xn = 11 then wi k.len 1 2 else if xn = 12 then decide (k.len = 1) else if xn = 13 then wi k.len 2 3 && decide (k.hd = 18) else false)) = R by rw [← hR]; rfl)
 clear hR hrg hlab
 by_cases hin : xmode < -1 ∨ 255 < xmode ∨ xm < 0 ∨ 3 < xm ∨ xn < 9 ∨ 13 < xn
 · have HF := Lib.hid (show false = R by
     rw [← HM.out]
     symm
     rw [Bool.eq_false_iff]
     intro hh
     simp only [Bool.and_eq_true, wi, decide_eq_true_eq] at hh
     obtain ⟨⟨⟨h1, h2⟩, h3, h4⟩, h5⟩ := hh
     rw [if_neg (by omega), if_neg (by omega), if_neg (by omega)] at h5
     cases h5)
   clear hkd HM
   unfold ndV
   go_enter Try.func42, Try.ntmps42
   rcases (show xmode < -1 ∨ (-1 ≤ xmode ∧ 255 < xmode) ∨ (-1 ≤ xmode ∧ xmode ≤ 255 ∧ xm < 0) ∨ (-1 ≤ xmode ∧ xmode ≤ 255 ∧ 0 ≤ xm ∧ 3 < xm) ∨ (-1 ≤ xmode ∧ xmode ≤ 255 ∧ 0 ≤ xm ∧ xm ≤ 3 ∧ xn < 9) ∨ (-1 ≤ xmode ∧ xmode ≤ 255 ∧ 0 ≤ xm ∧ xm ≤ 3 ∧ 9 ≤ xn ∧ 13 < xn) by omega) with h | ⟨h, h2⟩ | ⟨h, h2, h3⟩ | ⟨h, h2, h3, h4⟩ | ⟨h, h2, h3, h4, h5⟩ | ⟨h, h2, h3, h4, h5, h6⟩
   all_goals
     clear hin
     go_wp2_with fail
     go_ret
     exact ⟨by rw [← HF.out]; rfl, below_alloc w _⟩
 · simp only [not_or] at hin
   obtain ⟨h1, h2, h3, h4, h5, h6⟩ := hin
   have h1 : -1 ≤ xmode := by omega
   have h2 : xmode ≤ 255 := by omega
   have h3 : 0 ≤ xm := by omega
   have h4 : xm ≤ 3 := by omega
   have HM2 := Lib.hid (show (if xn = 9 ∨ xn = 10 ∨ xn = 11 then wi k.len 1 2 else if xn = 12 then decide (k.len = 1) else if xn = 13 then wi k.len 2 3 && decide (k.hd = 18) else false) = R by rw [← HM.out]; simp [wi, h1, h2, h3, h4])
   clear HM
   by_cases h13 : xn = 13
   · subst h13
     have HM3 := Lib.hid (show (wi k.len 2 3 && decide (k.hd = 18)) = R by rw [← HM2.out, if_neg (by omega), if_neg (by omega), if_pos rfl])
     clear HM2
     by_cases h23 : k.len = 2 ∨ k.len = 3
     · obtain ⟨b, o, rfl, hc⟩ := hd_at hkd (by omega)
       have hcb := below_cell (below_alloc w (.cells #[.int .i64 19, .int .i64 xa, .int .i64 xc, xs, .bool xneg, .int .i64 13, .int .i64 xm, .int .i64 xmode, .string xname, .int .i64 xon, .int .i64 xoff, .slice (some ⟨b, o, none⟩) k.len cap] 25)) hc
       have HM := Lib.hid (show decide (k.hd = 18) = R by rw [← HM3.out]; rcases h23 with h | h <;> simp [wi, h])
       clear HM3 hkd hc
       rcases h23 with h | h
       all_goals
         simp only [h] at hcb
         rw [h]
         generalize k.hd = q at *
         clear h
         unfold ndV
         go_enter Try.func42, Try.ntmps42
         go_wp2_with fail
         all_goals go_ret
         all_goals refine ⟨?_, below_alloc w _⟩
         all_goals
           rw [← HM.out]
           first
             | rfl
             | (refine congrArg (fun b => Ending.returned (Value.bool b)) ?_; rw [Bool.eq_iff_iff]; simp; done)
     · have HM := Lib.hid (show false = R by rw [← HM3.out]; symm; rw [Bool.eq_false_iff]; intro hh; simp [wi] at hh; omega)
       obtain ⟨n, hn⟩ : ∃ n, k.len = n := ⟨_, rfl⟩
       rw [hn] at h23 ⊢
       have e2 : ((n : Int) == 2) = false := by simp; omega
       have e3 : ((n : Int) == 3) = false := by simp; omega
       clear hkd hn HM3 h23
       unfold ndV
       go_enter Try.func42, Try.ntmps42
       go_wp2_with fail
       go_ret
       exact ⟨by rw [← HM.out]; rfl, below_alloc w _⟩
   · by_cases h12 : xn = 12
     · subst h12
       have HM := Lib.hid (show decide (k.len = 1) = R by rw [← HM2.out, if_neg (by omega), if_pos rfl])
       obtain ⟨n, hn⟩ : ∃ n, k.len = n := ⟨_, rfl⟩
       rw [hn] at HM ⊢
       clear hkd hn HM2
       unfold ndV
       go_enter Try.func42, Try.ntmps42
       go_wp2_with fail
       all_goals go_ret
       all_goals refine ⟨?_, below_alloc w _⟩
       all_goals
         rw [← HM.out]
         first
           | rfl
           | (refine congrArg (fun b => Ending.returned (Value.bool b)) ?_; rw [Bool.eq_iff_iff]; simp; done)
           | (refine congrArg (fun b => Ending.returned (Value.bool b)) ?_; rw [Bool.eq_iff_iff]; simp; omega)
     · have HM := Lib.hid (show wi k.len 1 2 = R by rw [← HM2.out, if_pos (by omega)])
       obtain ⟨n, hn⟩ : ∃ n, k.len = n := ⟨_, rfl⟩
       rw [hn] at HM ⊢
       have e1 : (xn == 13) = false := by simp; omega
       have e2 : (xn == 12) = false := by simp; omega
       clear hkd hn HM2
       unfold ndV
       go_enter Try.func42, Try.ntmps42
       go_wp2_with fail
       all_goals go_ret
       all_goals refine ⟨?_, below_alloc w _⟩
       all_goals
         rw [← HM.out]
         first
           | rfl
           | (refine congrArg (fun b => Ending.returned (Value.bool b)) ?_; rw [Bool.eq_iff_iff]; simp [wi]; done)
           | (refine congrArg (fun b => Ending.returned (Value.bool b)) ?_; rw [Bool.eq_iff_iff]; simp [wi]; omega)
set_option maxRecDepth 100000 in
set_option maxHeartbeats 4000000 in
theorem may_no (x : Lab) (k : F) (w : World) (hd : NdAt w (x, k)) (hk : x.kind < 1 ∨ 20 < x.kind) : Calls Try.prog 42 #[ndV x] w (BoolB (mayP (x, k)) w) := by
 obtain ⟨hlab, hrg, hkd⟩ := hd
 obtain ⟨a, cap, hkv⟩ := kids_len hkd
 obtain ⟨xk, xa, xc, xs, xset, xneg, xn, xm, xmode, xname, xon, xoff, xkv⟩ := x
 simp only at hkd hkv hrg hlab hk
 subst hkv
 have HF := Lib.hid (show mayP (⟨xk, xa, xc, xs, xset, xneg, xn, xm, xmode, xname, xon, xoff, .slice a k.len cap⟩, k) = false by
   unfold mayP leafP
   simp only
   rw [if_neg (by omega), if_neg (by omega), if_neg (by omega), if_neg (by omega), if_neg (by omega), if_neg (by omega), if_neg (by omega), if_neg (by omega), if_neg (by omega), if_neg (by omega), if_neg (by omega), if_neg (by omega), if_neg (by omega), if_neg (by omega)]
   exact Bool.and_false _)
 have n1 : (xk == 1) = false := by simp; omega
 have n2 : (xk == 2) = false := by simp; omega
 have n3 : (xk == 3) = false := by simp; omega
 have n4 : (xk == 4) = false := by simp; omega
 have n5 : (xk == 5) = false := by simp; omega
 have n6 : (xk == 6) = false := by simp; omega
 have n7 : (xk == 7) = false := by simp; omega
 have n8 : (xk == 8) = false := by simp; omega
 have n9 : (xk == 9) = false := by simp; omega
 have n10 : (xk == 10) = false := by simp; omega
 have n11 : (xk == 11) = false := by simp; omega
 have n12 : (xk == 12) = false := by simp; omega
 have n13 : (xk == 13) = false := by simp; omega
 have n14 : (xk == 14) = false := by simp; omega
 have n15 : (xk == 15) = false := by simp; omega
 have n16 : (xk == 16) = false := by simp; omega
 have n17 : (xk == 17) = false := by simp; omega
 have n18 : (xk == 18) = false := by simp; omega
 have n19 : (xk == 19) = false := by simp; omega
 have n20 : (xk == 20) = false := by simp; omega
 clear hkd hrg hlab hk
 unfold ndV
 go_enter Try.func42, Try.ntmps42
 go_wp2_with fail
 go_ret
 exact ⟨by rw [HF.out]; rfl, below_alloc w _⟩
end Go.Proofs.Ytpjaahojoabgjaa.trw
end
section
namespace Go.Proofs.Ytpjaahojoabgjaa.trw
open Go Go.RowKit trp
set_option maxRecDepth 100000 in
set_option maxHeartbeats 4000000 in
theorem may_20 (x : Lab) (k : F) (w : World) (hd : NdAt w (x, k)) (hk : x.kind = 20) : Calls Try.prog 42 #[ndV x] w (BoolB (mayP (x, k)) w) := by
 obtain ⟨hlab, hrg, hkd⟩ := hd
 obtain ⟨a, cap, hkv⟩ := kids_len hkd
 obtain ⟨xk, xa, xc, xs, xset, xneg, xn, xm, xmode, xname, xon, xoff, xkv⟩ := x
 simp only at hkd hkv hrg hlab hk
 subst hkv
 subst hk
 obtain ⟨R, hR⟩ : ∃ R, mayP (⟨20, xa, xc, xs, xset, xneg, xn, xm, xmode, xname, xon, xoff, .slice a k.len cap⟩, k) = R := ⟨_, rfl⟩
 rw [hR]
 have HM := Lib.hid (show (decide (k.len = 1) && (wi xn 0 255 && (decide (xm = -1) || wi xm xn 255) && wi xmode 0 2 && repK k.hd)) = R by rw [← hR]; rfl)
 clear hR hrg hlab
 by_cases hin : k.len ≠ 1 ∨ xn < 0 ∨ 255 < xn ∨ (xm ≠ -1 ∧ (xm < xn ∨ 255 < xm)) ∨ xmode < 0 ∨ 2 < xmode
 · have HF := Lib.hid (show false = R by
     rw [← HM.out]
     symm
     rw [Bool.eq_false_iff]
     intro hh
     simp only [Bool.and_eq_true, Bool.or_eq_true, wi, decide_eq_true_eq] at hh
     omega)
   obtain ⟨n, hn⟩ : ∃ n, k.len = n := ⟨_, rfl⟩
   rw [hn] at hin ⊢
   clear hkd HM hn
   unfold ndV
   go_enter Try.func42, Try.ntmps42
   rcases (show n ≠ 1 ∨ (n = 1 ∧ xn < 0) ∨ (n = 1 ∧ 0 ≤ xn ∧ 255 < xn) ∨ (n = 1 ∧ 0 ≤ xn ∧ xn ≤ 255 ∧ xm ≠ -1 ∧ xm < xn) ∨ (n = 1 ∧ 0 ≤ xn ∧ xn ≤ 255 ∧ xm ≠ -1 ∧ xn ≤ xm ∧ 255 < xm) ∨ (n = 1 ∧ 0 ≤ xn ∧ xn ≤ 255 ∧ xm = -1 ∧ xmode < 0) ∨ (n = 1 ∧ 0 ≤ xn ∧ xn ≤ 255 ∧ xm = -1 ∧ 0 ≤ xmode ∧ 2 < xmode) ∨ (n = 1 ∧ 0 ≤ xn ∧ xn ≤ 255 ∧ xm ≠ -1 ∧ xn ≤ xm ∧ xm ≤ 255 ∧ xmode < 0) ∨ (n = 1 ∧ 0 ≤ xn ∧ xn ≤ 255 ∧ xm ≠ -1 ∧ xn ≤ xm ∧ xm ≤ 255 ∧ 0 ≤ xmode ∧ 2 < xmode) by omega) with h | ⟨rfl, h⟩ | ⟨rfl, h, h2⟩ | ⟨rfl, h, h2, h3, h4⟩ | ⟨rfl, h, h2, h3, h4, h5⟩ | ⟨rfl, h, h2, rfl, h4⟩ | ⟨rfl, h, h2, rfl, h4, h5⟩ | ⟨rfl, h, h2, h3, h4, h5, h6⟩ | ⟨rfl, h, h2, h3, h4, h5, h6, h7⟩
   all_goals
     clear hin
     first
       | have e1 : (n == 1) = false := by simp; omega
       | skip
     go_wp2_with fail
     go_ret
     exact ⟨by rw [← HF.out]; rfl, below_alloc w _⟩
 · have hl : k.len = 1 := by omega
   have HM2 := Lib.hid (show repK k.hd = R by
     rw [← HM.out]
     have a1 : wi xn 0 255 = true := by simp only [wi, Bool.and_eq_true, decide_eq_true_eq]; omega
     have a2 : wi xmode 0 2 = true := by simp only [wi, Bool.and_eq_true, decide_eq_true_eq]; omega
     have a3 : (decide (xm = -1) || wi xm xn 255) = true := by simp only [wi, Bool.or_eq_true, Bool.and_eq_true, decide_eq_true_eq]; omega
     rw [a1, a2, a3]
     simp [hl])
   obtain ⟨b, o, rfl, hc⟩ := hd_at hkd (by omega)
   have hcb := below_cell (below_alloc w (.cells #[.int .i64 20, .int .i64 xa, .int .i64 xc, xs, .bool xneg, .int .i64 xn, .int .i64 xm, .int .i64 xmode, .string xname, .int .i64 xon, .int .i64 xoff, .slice (some ⟨b, o, none⟩) k.len cap] 25)) hc
   have h1 : 0 ≤ xn := by omega
   have h2 : xn ≤ 255 := by omega
   have h4 : 0 ≤ xmode := by omega
   have h5 : xmode ≤ 2 := by omega
   have h3 : xm = -1 ∨ (xm ≠ -1 ∧ xn ≤ xm ∧ xm ≤ 255) := by omega
   clear hin HM hkd hc
   rw [hl] at hcb ⊢
   generalize k.hd = q at *
   unfold ndV
   go_enter Try.func42, Try.ntmps42
   rcases h3 with rfl | ⟨h3, h6, h7⟩
   all_goals
     go_wp2_with fail
     all_goals go_ret
     all_goals refine ⟨?_, below_alloc w _⟩
     all_goals
       rw [← HM2.out]
       first
         | rfl
         | (refine congrArg (fun b => Ending.returned (Value.bool b)) ?_; rw [Bool.eq_iff_iff]; simp [repK]; done)
         | (refine congrArg (fun b => Ending.returned (Value.bool b)) ?_; rw [Bool.eq_iff_iff]; simp [repK]; omega)
theorem may_any (x : Lab) (k : F) (w : World) (hd : NdAt w (x, k)) : Calls Try.prog 42 #[ndV x] w (BoolB (mayP (x, k)) w) := by
 by_cases hno : x.kind < 1 ∨ 20 < x.kind
 · exact may_no x k w hd hno
 by_cases k1 : x.kind = 1
 · exact may_1 x k w hd k1
 by_cases k2 : x.kind = 2
 · exact may_2 x k w hd k2
 by_cases k3 : x.kind = 3
 · exact may_3 x k w hd k3
 by_cases k4 : x.kind = 4
 · exact may_4 x k w hd k4
 by_cases k5 : x.kind = 5
 · exact may_5 x k w hd k5
 by_cases k6 : x.kind = 6
 · exact may_6 x k w hd k6
 by_cases k7 : x.kind = 7
 · exact may_7 x k w hd k7
 by_cases k8 : x.kind = 8
 · exact may_8 x k w hd k8
 by_cases k9 : x.kind = 9
 · exact may_9 x k w hd k9
 by_cases k10 : x.kind = 10
 · exact may_10 x k w hd k10
 by_cases k11 : x.kind = 11
 · exact may_11 x k w hd k11
 by_cases k12 : x.kind = 12
 · exact may_12 x k w hd k12
 by_cases k13 : x.kind = 13
 · exact may_13 x k w hd k13
 by_cases k14 : x.kind = 14
 · exact may_14 x k w hd k14
 by_cases k15 : x.kind = 15
 · exact may_15 x k w hd k15
 by_cases k16 : x.kind = 16
 · exact may_16 x k w hd k16
 by_cases k17 : x.kind = 17
 · exact may_17 x k w hd k17
 by_cases k18 : x.kind = 18
 · exact may_18 x k w hd k18
 by_cases k19 : x.kind = 19
 · exact may_19 x k w hd k19
 exact may_20 x k w hd (by omega)
end Go.Proofs.Ytpjaahojoabgjaa.trw
end
section
namespace Go.Proofs.Ytpjaahojoabgjaa.trp
open Go
theorem findK_cons (kd : Int) (i : Nat) (x : Lab) (k r : F) : findK kd i (.cons x k r) = match findT kd (x, k) with
   | some l => some (i :: l)
   | none => findK kd (i + 1) r := by
 rw [findK]
 unfold findT
 by_cases h : x.kind = kd
 · simp [h]
 · simp only [h, if_false]
   cases findK kd 0 k <;> rfl
end Go.Proofs.Ytpjaahojoabgjaa.trp
end
