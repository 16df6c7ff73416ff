/- T -/
import Derived.Test.YtikjhfmmfpeaoaaGreatDoorBFc08
set_option maxHeartbeats 16000000
set_option maxRecDepth 1000000
section
namespace Go.Proofs.YtikjhfmmfpeaoaaGreatDoor.rtw
open sq
open Go Go.RowKit Go.Maps utfp utfw ucdp setp setw prp tkp rtp
open tkw (sg sg_bd vJ jM qK tkR qO qM vI)
theorem run_max {p : Pt} {fits : Int → Bool} : ∀ {l k a : Nat}, (∀ i, i < l → a + i < p.n ∧ fits (p.g (a + i)) = true) → (l = k ∨ a + l = p.n ∨ fits (p.g (a + l)) = false) → l ≤ k → p.run fits k a = a + l
 | 0, k, a, h, hs, hl => by
  rcases hs with hs | hs
  ·subst hs; rfl
  ·exact run_stop h hs hl
 | l + 1, k, a, h1, h2, h3 => by obtain ⟨k, rfl⟩ : ∃ q, k = q + 1 := ⟨k - 1, by omega⟩;have h0 := h1 0 (by omega);unfold Pt.run;rw [if_pos (by simp only [Bool.and_eq_true, decide_eq_true_eq]; exact ⟨h0.1, h0.2⟩)];rw [run_max (l := l) (k := k) (a := a + 1) (fun i hi => by have := h1 (i + 1) (by omega); rwa [show a + 1 + i = a + (i + 1) by omega]) (by rcases h2 with h2 | h2 | h2; exact Or.inl (by omega); exact Or.inr (Or.inl (by omega)); exact Or.inr (Or.inr (by rwa [show a + 1 + l = a + (l + 1) by omega]))) (by omega)];omega
theorem hexV_in {c : Int} (h : zn c = true) : 0 ≤ hexV c ∧ hexV c ≤ 15 := by
 simp only [zn, isDig, Bool.or_eq_true, Bool.and_eq_true, decide_eq_true_eq] at h;unfold hexV;split
 ·omega
 ·split <;> omega
theorem hexVal_in {p : Pt} {a : Nat} : ∀ {l : Nat}, (∀ i, i < l → a + i < p.n ∧ zn (p.g (a + i)) = true) → 0 ≤ p.hexVal a l ∧ p.hexVal a l + 1 ≤ 16 ^ l
 | 0, _ => by simp [Pt.hexVal]
 | l + 1, h => by
  have ih := hexVal_in (l := l) fun i hi => h i (by omega)
  have := hexV_in (h l (by omega)).2;unfold Pt.hexVal;rw [Int.pow_succ];omega
theorem hexVal_le {p : Pt} {a l : Nat} (h : ∀ i, i < l → a + i < p.n ∧ zn (p.g (a + i)) = true) (hl : l ≤ 7) : 0 ≤ p.hexVal a l ∧ p.hexVal a l ≤ 268435455 := by
 have h1 := hexVal_in h;have h2 : (16 : Int) ^ l ≤ 268435456 := by
  obtain h | h | h | h | h | h | h | h : l = 0 ∨ l = 1 ∨ l = 2 ∨ l = 3 ∨ l = 4 ∨ l = 5 ∨ l = 6 ∨ l = 7 := by omega
  all_goals (subst h; decide)
 omega
theorem hexN_pos {c : Int} (h : zn c = true) : hexN c = hexV c := by unfold hexN; rw [if_pos h]
theorem hexN_neg {c : Int} (h : zn c = false) : hexN c = -1 := by unfold hexN; rw [if_neg (by simp [h])]
def HxB (r : Option (Int × Nat)) (w : World) (e : Ending) (w' : World) : Prop := (∃ (v : Int) (j : Nat), e = .returned (.tuple #[.int .i64 v, .int .i64 j]) ∧ j ≤ 2000 ∧ (r = none ∧ v = -1 ∨ r = some (v, j))) ∧ Below w.heap.size w w'
def HexRel (w : World) (B : Nat) (S : ByteArray) (p : Pt) (a m : Nat) (vn vi vk : Value) (wr : World) : Prop :=
 ∃ l : Nat, a + l ≤ S.size ∧ l ≤ m ∧ Hid (∀ i, i < l → a + i < p.n ∧ zn (p.g (a + i)) = true) ∧ vn = .int .i64 (p.hexVal a l) ∧ vi = .int .i64 ((a + l : Nat) : Int) ∧ vk = .int .i64 l ∧ FR w B S p wr
theorem hexd_of {p : Pt} {a l m : Nat} (h : ∀ i, i < l → a + i < p.n ∧ zn (p.g (a + i)) = true) (hs : l = m ∨ a + l = p.n ∨ zn (p.g (a + l)) = false) (hl : l ≤ m) : p.hexd m a = (p.hexVal a l, a + l) := by unfold Pt.hexd;rw [run_max h hs hl, Nat.add_sub_cancel_left]
theorem hexa_any (S : ByteArray) (p : Pt) (w : World) (hP : Pat S p) (i : Nat) (hi : i ≤ p.n) : Calls Tryz.prog 63 #[txV S p, .int .i64 i] w (HxB (hexz p i) w) := by
 have hn := hP.n;have h2 := hP.le;have HP := xH hP;have HN := xH hn;clear hP;rw [hn] at hi;clear hn;have hm1 := vH p;have hm2 := most_ge p;unfold txV txC;go_enter Tryz.func63, Tryz.ntmps63;go_upto_region 1 with (fail)
 generalize hW : (w.alloc _) = W;have F0 := xH (zG (S := S) (p := p) hW);obtain ⟨B, hB⟩ : ∃ B, w.heap.size = B := ⟨_, rfl⟩;rw [hB] at F0 ⊢;clear hW hB;obtain ⟨c0, c1, c2, c3⟩ := F0.out.c;go_wp2_with fail
 refine Calls.mono (qG S p _ HP.out (i) (by omega) [123] ⟨#[123]⟩ rfl (by decide) (Or.inl (by rw [HN.out]; exact hi))) ?_;rintro e w1 ⟨rfl, hb⟩;have F1 := xH (F0.out.step hb);clear hb c0 c1 c2 c3;obtain ⟨c0, c1, c2, c3⟩ := F1.out.c;cases h123 : p.has [123] i with
 | true =>
  have hin := qR HP.out h123;rw [HN.out] at hin;simp only [List.length_nil, Nat.zero_add] at hin;go_wp2_with fail
  go_loopw [6, 7] (fun vn vi wr => HexRel w B S p (i + 1) 7 vn vi (.int .i64 (intOf vi - (i + 1))) wr) (fun _ vi _ => S.size - (intOf vi).toNat)
  case atStart => exact ⟨0, by omega, by omega, xH (fun j h => absurd h (Nat.not_lt_zero j)), rfl, rfl, by simp [intOf], F1.out⟩
  case round =>
   obtain ⟨l, hl, hl7, hd, rfl, rfl, _, hF⟩ := hrel;have F2 := xH hF;clear hF;obtain ⟨c0, c1, c2, c3⟩ := F2.out.c;have hgb := gb HP.out;obtain ⟨hv0, hv1⟩ := hexVal_le hd.out (by omega);generalize hVV : p.hexVal (i + 1) l = V at *;have HVV := xH hVV;clear hVV;by_cases hlt : i + 1 + l < S.size
   ·obtain ⟨b0, b1⟩ := jS HP.out (i + 1 + l);go_wp2_with fail
    refine (hex_any _ _ b0 b1).mono ?_;rintro e w1 ⟨rfl, rfl⟩;cases hx : zn (p.g (i + 1 + l)) with
    | true =>
     by_cases l7 : l = 7
     ·have HD := xH (hexd_of (m := 7) hd.out (Or.inl l7) hl7);have HX := xH (show hexz p i = none by unfold hexz; rw [if_pos h123, if_pos]; rw [HD.out]; simp only; right; left; omega);have hnn := hexN_pos hx;obtain ⟨x0, x1⟩ := hexV_in hx;have hl0 : ¬ (l : Int) < 7 := by omega
      clear l7;rw [hnn];go_wp2_with fail
      go_ret2
      exact ⟨⟨-1, _, rfl, by omega, Or.inl ⟨HX.out, rfl⟩⟩, F2.out.bel⟩
     ·have hl0 : (l : Int) < 7 := by omega
      have h15 := hexV_in hx;obtain ⟨x0, x1⟩ := h15;have hnn := hexN_pos hx;have hge : (0 : Int) ≤ hexV (p.g (i + 1 + l)) := x0;rw [hnn];go_wp2_with fail
      refine (hex_any _ _ b0 b1).mono ?_;rintro e w2 ⟨rfl, rfl⟩;rw [hnn];go_wp2_with fail
      refine ⟨⟨l + 1, by omega, by omega, xH (fun j hj => by
       by_cases e : j = l
       ·subst e; exact ⟨by rw [HN.out]; exact hlt, hx⟩
       ·exact hd.out j (by omega)), ?_, ?_, ?_, F2.out⟩, by simp only [intOf]; omega⟩
      ·rw [show p.hexVal (i + 1) (l + 1) = p.hexVal (i + 1) l * 16 + hexV (p.g (i + 1 + l)) from rfl, HVV.out]
      ·congr 1
       try omega
      ·simp only [intOf]
       congr 1
       omega
    | false =>
     have hnn := hexN_neg hx;rw [hnn];have HD := xH (hexd_of (m := 7) hd.out (Or.inr (Or.inr hx)) hl7);rw [HVV.out] at HD;by_cases l0 : l = 0
     ·have HX := xH (show hexz p i = none by unfold hexz; rw [if_pos h123, if_pos]; rw [HD.out]; simp only; left; omega);have hl0 : ¬ (0 : Int) < (l : Int) := by omega
      clear l0;go_wp2_with fail
      go_ret2
      exact ⟨⟨-1, _, rfl, by omega, Or.inl ⟨HX.out, rfl⟩⟩, F2.out.bel⟩
     ·have hl1 : (0 : Int) < (l : Int) := by omega
      by_cases l7 : l = 7
      ·have HX := xH (show hexz p i = none by unfold hexz; rw [if_pos h123, if_pos]; rw [HD.out]; simp only; right; left; omega);have hl0 : ¬ (l : Int) < 7 := by omega
       clear l7;go_wp2_with fail
       go_ret2
       exact ⟨⟨-1, _, rfl, by omega, Or.inl ⟨HX.out, rfl⟩⟩, F2.out.bel⟩
      ·have hl2 : (l : Int) < 7 := by omega
       have hk : ((i : Int) + 1 + (l : Int) == (i : Int) + 1) = false := by simp; omega
       go_wp2_with fail
       refine Calls.mono (qG S p _ HP.out (i + 1 + l) (by omega) [125] ⟨#[125]⟩ rfl (by decide) (Or.inl (by rw [HN.out]; exact hl))) ?_;rintro e w3 ⟨rfl, hb⟩;have F3 := xH (F2.out.step hb);clear hb c0 c1 c2 c3;obtain ⟨c0, c1, c2, c3⟩ := F3.out.c;cases h125 : p.has [125] (i + 1 + l) with
       | false =>
        have HX := xH (show hexz p i = none by unfold hexz; rw [if_pos h123, if_pos]; rw [HD.out]; simp only; right; right; exact h125);go_wp2_with fail
        go_ret2
        exact ⟨⟨-1, _, rfl, by omega, Or.inl ⟨HX.out, rfl⟩⟩, F3.out.bel⟩
       | true =>
        have HR := xH (show hexz p i = hexC p (V, i + 1 + l + 1) by unfold hexz; rw [if_pos h123, if_neg, HD.out]; rw [HD.out]; simp only; rintro (h | h | h); omega; omega; rw [h125] at h; cases h);by_cases hm : p.most < V
        ·have HX := xH (HR.out.trans (show hexC p (V, (i + 1 + l + 1)) = none by unfold hexC; rw [if_pos]; simp only; exact Or.inl hm));go_wp2_with fail
         go_ret2
         exact ⟨⟨-1, (i + 1 + l + 1), rfl, by omega, Or.inl ⟨HX.out, rfl⟩⟩, F3.out.bel⟩
        ·have hm2 : V ≤ p.most := by omega
         cases hu : p.u with
         | false =>
          rw [hu] at c1;have HX := xH (HR.out.trans (show hexC p (V, (i + 1 + l + 1)) = some (V, (i + 1 + l + 1)) by unfold hexC; rw [if_neg]; simp only; rintro (h | ⟨h, _⟩); exact hm h; rw [hu] at h; cases h));go_wp2_with fail
          go_ret2
          exact ⟨⟨_, (i + 1 + l + 1), rfl, by omega, Or.inr HX.out⟩, F3.out.bel⟩
         | true =>
          rw [hu] at c1;by_cases h5 : 55296 ≤ V
          ·by_cases h6 : V ≤ 57343
           ·have HX := xH (HR.out.trans (show hexC p (V, (i + 1 + l + 1)) = none by unfold hexC; rw [if_pos]; simp only; exact Or.inr ⟨hu, h5, h6⟩));go_wp2_with fail
            go_ret2
            exact ⟨⟨-1, (i + 1 + l + 1), rfl, by omega, Or.inl ⟨HX.out, rfl⟩⟩, F3.out.bel⟩
           ·have HX := xH (HR.out.trans (show hexC p (V, (i + 1 + l + 1)) = some (V, (i + 1 + l + 1)) by unfold hexC; rw [if_neg]; simp only; rintro (h | ⟨_, _, h⟩); exact hm h; exact h6 h));go_wp2_with fail
            go_ret2
            exact ⟨⟨_, (i + 1 + l + 1), rfl, by omega, Or.inr HX.out⟩, F3.out.bel⟩
          ·have HX := xH (HR.out.trans (show hexC p (V, (i + 1 + l + 1)) = some (V, (i + 1 + l + 1)) by unfold hexC; rw [if_neg]; simp only; rintro (h | ⟨_, h, _⟩); exact hm h; exact h5 h));go_wp2_with fail
           go_ret2
           exact ⟨⟨_, (i + 1 + l + 1), rfl, by omega, Or.inr HX.out⟩, F3.out.bel⟩
   ·have HD := xH (hexd_of (m := 7) hd.out (Or.inr (Or.inl (by rw [HN.out]; omega))) hl7);rw [HVV.out] at HD;by_cases l0 : l = 0
    ·have HX := xH (show hexz p i = none by unfold hexz; rw [if_pos h123, if_pos]; rw [HD.out]; simp only; left; omega);have hl0 : ¬ (0 : Int) < (l : Int) := by omega
     clear l0;go_wp2_with fail
     go_ret2
     exact ⟨⟨-1, _, rfl, by omega, Or.inl ⟨HX.out, rfl⟩⟩, F2.out.bel⟩
    ·have hl1 : (0 : Int) < (l : Int) := by omega
     by_cases l7 : l = 7
     ·have HX := xH (show hexz p i = none by unfold hexz; rw [if_pos h123, if_pos]; rw [HD.out]; simp only; right; left; omega);have hl0 : ¬ (l : Int) < 7 := by omega
      clear l7;go_wp2_with fail
      go_ret2
      exact ⟨⟨-1, _, rfl, by omega, Or.inl ⟨HX.out, rfl⟩⟩, F2.out.bel⟩
     ·have hl2 : (l : Int) < 7 := by omega
      have hk : ((i : Int) + 1 + (l : Int) == (i : Int) + 1) = false := by simp; omega
      go_wp2_with fail
      refine Calls.mono (qG S p _ HP.out (i + 1 + l) (by omega) [125] ⟨#[125]⟩ rfl (by decide) (Or.inl (by rw [HN.out]; exact hl))) ?_;rintro e w3 ⟨rfl, hb⟩;have F3 := xH (F2.out.step hb);clear hb c0 c1 c2 c3;obtain ⟨c0, c1, c2, c3⟩ := F3.out.c;cases h125 : p.has [125] (i + 1 + l) with
      | false =>
       have HX := xH (show hexz p i = none by unfold hexz; rw [if_pos h123, if_pos]; rw [HD.out]; simp only; right; right; exact h125);go_wp2_with fail
       go_ret2
       exact ⟨⟨-1, _, rfl, by omega, Or.inl ⟨HX.out, rfl⟩⟩, F3.out.bel⟩
      | true =>
       have HR := xH (show hexz p i = hexC p (V, i + 1 + l + 1) by unfold hexz; rw [if_pos h123, if_neg, HD.out]; rw [HD.out]; simp only; rintro (h | h | h); omega; omega; rw [h125] at h; cases h);by_cases hm : p.most < V
       ·have HX := xH (HR.out.trans (show hexC p (V, (i + 1 + l + 1)) = none by unfold hexC; rw [if_pos]; simp only; exact Or.inl hm));go_wp2_with fail
        go_ret2
        exact ⟨⟨-1, (i + 1 + l + 1), rfl, by omega, Or.inl ⟨HX.out, rfl⟩⟩, F3.out.bel⟩
       ·have hm2 : V ≤ p.most := by omega
        cases hu : p.u with
        | false =>
         rw [hu] at c1;have HX := xH (HR.out.trans (show hexC p (V, (i + 1 + l + 1)) = some (V, (i + 1 + l + 1)) by unfold hexC; rw [if_neg]; simp only; rintro (h | ⟨h, _⟩); exact hm h; rw [hu] at h; cases h));go_wp2_with fail
         go_ret2
         exact ⟨⟨_, (i + 1 + l + 1), rfl, by omega, Or.inr HX.out⟩, F3.out.bel⟩
        | true =>
         rw [hu] at c1;by_cases h5 : 55296 ≤ V
         ·by_cases h6 : V ≤ 57343
          ·have HX := xH (HR.out.trans (show hexC p (V, (i + 1 + l + 1)) = none by unfold hexC; rw [if_pos]; simp only; exact Or.inr ⟨hu, h5, h6⟩));go_wp2_with fail
           go_ret2
           exact ⟨⟨-1, (i + 1 + l + 1), rfl, by omega, Or.inl ⟨HX.out, rfl⟩⟩, F3.out.bel⟩
          ·have HX := xH (HR.out.trans (show hexC p (V, (i + 1 + l + 1)) = some (V, (i + 1 + l + 1)) by unfold hexC; rw [if_neg]; simp only; rintro (h | ⟨_, _, h⟩); exact hm h; exact h6 h));go_wp2_with fail
           go_ret2
           exact ⟨⟨_, (i + 1 + l + 1), rfl, by omega, Or.inr HX.out⟩, F3.out.bel⟩
         ·have HX := xH (HR.out.trans (show hexC p (V, (i + 1 + l + 1)) = some (V, (i + 1 + l + 1)) by unfold hexC; rw [if_neg]; simp only; rintro (h | ⟨_, h, _⟩); exact hm h; exact h5 h));go_wp2_with fail
          go_ret2
          exact ⟨⟨_, (i + 1 + l + 1), rfl, by omega, Or.inr HX.out⟩, F3.out.bel⟩
 | false =>
  go_wp2_with fail
  go_loopw [1, 6, 8] (fun vi vn vk wr => HexRel w B S p i 2 vn vi vk wr) (fun vi _ _ _ => S.size - (intOf vi).toNat)
  case atStart => exact ⟨0, by omega, by omega, xH (fun j h => absurd h (Nat.not_lt_zero j)), rfl, rfl, rfl, F1.out⟩
  case round =>
   obtain ⟨l, hl, hl7, hd, rfl, rfl, rfl, hF⟩ := hrel;have F2 := xH hF;clear hF;obtain ⟨c0, c1, c2, c3⟩ := F2.out.c;have hgb := gb HP.out;obtain ⟨hv0, hv1⟩ := hexVal_le hd.out (by omega);generalize hVV : p.hexVal (i) l = V at *;have HVV := xH hVV;clear hVV;by_cases h2l : l = 2
   ·have HD := xH (hexd_of (m := 2) hd.out (Or.inl h2l) hl7);rw [HVV.out] at HD;have HR := xH (show hexz p i = hexC p (V, i + l) by unfold hexz; rw [if_neg (by simp [h123]), HD.out]);have hl2 : ¬ (l : Int) < 2 := by omega
    clear h2l;by_cases hm : p.most < V
    ·have HX := xH (HR.out.trans (show hexC p (V, (i + l)) = none by unfold hexC; rw [if_pos]; simp only; exact Or.inl hm));go_wp2_with fail
     go_ret2
     exact ⟨⟨-1, (i + l), rfl, by omega, Or.inl ⟨HX.out, rfl⟩⟩, F2.out.bel⟩
    ·have hm2 : V ≤ p.most := by omega
     cases hu : p.u with
     | false =>
      rw [hu] at c1;have HX := xH (HR.out.trans (show hexC p (V, (i + l)) = some (V, (i + l)) by unfold hexC; rw [if_neg]; simp only; rintro (h | ⟨h, _⟩); exact hm h; rw [hu] at h; cases h));go_wp2_with fail
      go_ret2
      exact ⟨⟨_, (i + l), rfl, by omega, Or.inr HX.out⟩, F2.out.bel⟩
     | true =>
      rw [hu] at c1;by_cases h5 : 55296 ≤ V
      ·by_cases h6 : V ≤ 57343
       ·have HX := xH (HR.out.trans (show hexC p (V, (i + l)) = none by unfold hexC; rw [if_pos]; simp only; exact Or.inr ⟨hu, h5, h6⟩));go_wp2_with fail
        go_ret2
        exact ⟨⟨-1, (i + l), rfl, by omega, Or.inl ⟨HX.out, rfl⟩⟩, F2.out.bel⟩
       ·have HX := xH (HR.out.trans (show hexC p (V, (i + l)) = some (V, (i + l)) by unfold hexC; rw [if_neg]; simp only; rintro (h | ⟨_, _, h⟩); exact hm h; exact h6 h));go_wp2_with fail
        go_ret2
        exact ⟨⟨_, (i + l), rfl, by omega, Or.inr HX.out⟩, F2.out.bel⟩
      ·have HX := xH (HR.out.trans (show hexC p (V, (i + l)) = some (V, (i + l)) by unfold hexC; rw [if_neg]; simp only; rintro (h | ⟨_, h, _⟩); exact hm h; exact h5 h));go_wp2_with fail
       go_ret2
       exact ⟨⟨_, (i + l), rfl, by omega, Or.inr HX.out⟩, F2.out.bel⟩
   ·have hl2 : (l : Int) < 2 := by omega
    by_cases hlt : i + l < S.size
    ·obtain ⟨b0, b1⟩ := jS HP.out (i + l);go_wp2_with fail
     refine (hex_any _ _ b0 b1).mono ?_;rintro e w1 ⟨rfl, rfl⟩;cases hx : zn (p.g (i + l)) with
     | true =>
      have h15 := hexV_in hx;obtain ⟨x0, x1⟩ := h15;have hnn := hexN_pos hx;have hge : (0 : Int) ≤ hexV (p.g (i + l)) := x0;rw [hnn];go_wp2_with fail
      refine (hex_any _ _ b0 b1).mono ?_;rintro e w2 ⟨rfl, rfl⟩;rw [hnn];go_wp2_with fail
      refine ⟨⟨l + 1, by omega, by omega, xH (fun j hj => by
       by_cases e : j = l
       ·subst e; exact ⟨by rw [HN.out]; exact hlt, hx⟩
       ·exact hd.out j (by omega)), ?_, ?_, rfl, F2.out⟩, by simp only [intOf]; omega⟩
      ·rw [show p.hexVal (i) (l + 1) = p.hexVal (i) l * 16 + hexV (p.g (i + l)) from rfl, HVV.out]
      ·congr 1
       try omega
     | false =>
      have hnn := hexN_neg hx;have HD := xH (hexd_of (m := 2) hd.out (Or.inr (Or.inr hx)) hl7);rw [HVV.out] at HD;have HR := xH (show hexz p i = hexC p (V, i + l) by unfold hexz; rw [if_neg (by simp [h123]), HD.out]);rw [hnn];by_cases hm : p.most < V
      ·have HX := xH (HR.out.trans (show hexC p (V, (i + l)) = none by unfold hexC; rw [if_pos]; simp only; exact Or.inl hm));go_wp2_with fail
       go_ret2
       exact ⟨⟨-1, (i + l), rfl, by omega, Or.inl ⟨HX.out, rfl⟩⟩, F2.out.bel⟩
      ·have hm2 : V ≤ p.most := by omega
       cases hu : p.u with
       | false =>
        rw [hu] at c1;have HX := xH (HR.out.trans (show hexC p (V, (i + l)) = some (V, (i + l)) by unfold hexC; rw [if_neg]; simp only; rintro (h | ⟨h, _⟩); exact hm h; rw [hu] at h; cases h));go_wp2_with fail
        go_ret2
        exact ⟨⟨_, (i + l), rfl, by omega, Or.inr HX.out⟩, F2.out.bel⟩
       | true =>
        rw [hu] at c1;by_cases h5 : 55296 ≤ V
        ·by_cases h6 : V ≤ 57343
         ·have HX := xH (HR.out.trans (show hexC p (V, (i + l)) = none by unfold hexC; rw [if_pos]; simp only; exact Or.inr ⟨hu, h5, h6⟩));go_wp2_with fail
          go_ret2
          exact ⟨⟨-1, (i + l), rfl, by omega, Or.inl ⟨HX.out, rfl⟩⟩, F2.out.bel⟩
         ·have HX := xH (HR.out.trans (show hexC p (V, (i + l)) = some (V, (i + l)) by unfold hexC; rw [if_neg]; simp only; rintro (h | ⟨_, _, h⟩); exact hm h; exact h6 h));go_wp2_with fail
          go_ret2
          exact ⟨⟨_, (i + l), rfl, by omega, Or.inr HX.out⟩, F2.out.bel⟩
        ·have HX := xH (HR.out.trans (show hexC p (V, (i + l)) = some (V, (i + l)) by unfold hexC; rw [if_neg]; simp only; rintro (h | ⟨_, h, _⟩); exact hm h; exact h5 h));go_wp2_with fail
         go_ret2
         exact ⟨⟨_, (i + l), rfl, by omega, Or.inr HX.out⟩, F2.out.bel⟩
    ·have HD := xH (hexd_of (m := 2) hd.out (Or.inr (Or.inl (by rw [HN.out]; omega))) hl7);rw [HVV.out] at HD;have HR := xH (show hexz p i = hexC p (V, i + l) by unfold hexz; rw [if_neg (by simp [h123]), HD.out]);by_cases hm : p.most < V
     ·have HX := xH (HR.out.trans (show hexC p (V, (i + l)) = none by unfold hexC; rw [if_pos]; simp only; exact Or.inl hm));go_wp2_with fail
      go_ret2
      exact ⟨⟨-1, (i + l), rfl, by omega, Or.inl ⟨HX.out, rfl⟩⟩, F2.out.bel⟩
     ·have hm2 : V ≤ p.most := by omega
      cases hu : p.u with
      | false =>
       rw [hu] at c1;have HX := xH (HR.out.trans (show hexC p (V, (i + l)) = some (V, (i + l)) by unfold hexC; rw [if_neg]; simp only; rintro (h | ⟨h, _⟩); exact hm h; rw [hu] at h; cases h));go_wp2_with fail
       go_ret2
       exact ⟨⟨_, (i + l), rfl, by omega, Or.inr HX.out⟩, F2.out.bel⟩
      | true =>
       rw [hu] at c1;by_cases h5 : 55296 ≤ V
       ·by_cases h6 : V ≤ 57343
        ·have HX := xH (HR.out.trans (show hexC p (V, (i + l)) = none by unfold hexC; rw [if_pos]; simp only; exact Or.inr ⟨hu, h5, h6⟩));go_wp2_with fail
         go_ret2
         exact ⟨⟨-1, (i + l), rfl, by omega, Or.inl ⟨HX.out, rfl⟩⟩, F2.out.bel⟩
        ·have HX := xH (HR.out.trans (show hexC p (V, (i + l)) = some (V, (i + l)) by unfold hexC; rw [if_neg]; simp only; rintro (h | ⟨_, _, h⟩); exact hm h; exact h6 h));go_wp2_with fail
         go_ret2
         exact ⟨⟨_, (i + l), rfl, by omega, Or.inr HX.out⟩, F2.out.bel⟩
       ·have HX := xH (HR.out.trans (show hexC p (V, (i + l)) = some (V, (i + l)) by unfold hexC; rw [if_neg]; simp only; rintro (h | ⟨_, h, _⟩); exact hm h; exact h5 h));go_wp2_with fail
        go_ret2
        exact ⟨⟨_, (i + l), rfl, by omega, Or.inr HX.out⟩, F2.out.bel⟩
end Go.Proofs.YtikjhfmmfpeaoaaGreatDoor.rtw
end
section
namespace Go.Proofs.YtikjhfmmfpeaoaaGreatDoor.rtw
open sq
open Go Go.RowKit Go.Maps utfp utfw ucdp setp setw prp tkp rtp
open tkw (sg sg_bd vJ jM qK tkR qO qM vI)
structure FH (w : World) (B : Nat) (S : ByteArray) (p : Pt) (W : World) : Prop extends FR w B S p W where
 g : ∃ old, W.heap[B + 2]? = some (.cells old 70 (0, 0)) ∧ old.size = 16
theorem FH.step {w W W' : World} {B : Nat} {S : ByteArray} {p : Pt} (h : FH w B S p W) (hb : Below W.heap.size W W') : FH w B S p W' :=
 ⟨h.toFR.step hb, by obtain ⟨old, h1, h2⟩ := h.g; exact ⟨old, (hb.block _ (zi h1)).trans h1, h2⟩⟩
theorem fh_start {w W : World} {S : ByteArray} {p : Pt} {cs : Array Value} (hW : ((w.alloc (.cells (txC S p) 61)).alloc (.cells cs 68)).alloc (.cells (gtC (.slice none 0 0) (.error (0, 0))) 70) = W) : FH w w.heap.size S p W ∧ W.heap[w.heap.size + 1]? = some (.cells cs 68 (0, 0)) := by
 have h1 : (w.alloc (.cells (txC S p) 61)).heap.size = w.heap.size + 1 := World.size_alloc ..;have h2 : ((w.alloc (.cells (txC S p) 61)).alloc (.cells cs 68)).heap.size = w.heap.size + 2 := by rw [World.size_alloc, h1]
 subst hW;refine ⟨⟨((zG rfl).step (qK _ _)).step (qK _ _), gtC (.slice none 0 0) (.error (0, 0)), ?_, rfl⟩, ?_⟩
 ·rw [← h2];exact heap_alloc_new _ _
 ·rw [(qK ((w.alloc (.cells (txC S p) 61)).alloc (.cells cs 68)) _).block _ (by rw [h2]; omega), ← h1];exact heap_alloc_new _ _
theorem fh_fin {w W : World} {B : Nat} {S : ByteArray} {p : Pt} {v : Value} {r r' : G} (h : FH w B S p W) (hr : r' = r) {k : Nat} (ho : OwnR W k v (gtS r)) (hk : B ≤ k) : GotB w r' (.returned (.agg (gtC v r))) (W.setRow (B + 2) (gtC v r)) := by subst hr;obtain ⟨old, h1, h2⟩ := h.g;have hB := h.hB;exact got_end h1 (qM ho (by omega)) (by rw [hB]; exact h.below) (by omega)
theorem FH.low {w W W' : World} {B : Nat} {S : ByteArray} {p : Pt} (h : FH w B S p W) (hb : Below (B + 1) W W') (hg : W'.heap[B + 2]? = W.heap[B + 2]?) : FH w B S p W' :=
 ⟨⟨h.hB, h.below.trans (hb.mono (by omega)), h.x.below hb (by omega)⟩, by obtain ⟨old, h1, h2⟩ := h.g; exact ⟨old, hg.trans h1, h2⟩⟩
theorem shut_any (S : ByteArray) (p : Pt) (w : World) (hP : Pat S p) (t : Tk) (ht : t.set = []) (f i : Nat) (hi : i ≤ p.n) (l : List UInt8) (s : ByteArray) (hs : s = ⟨l.toArray⟩) (hl : l.length ≤ 1000) (e : Int) : Calls Tryz.prog 73 #[txV S p, .agg (tkR (.slice none 0 0) t), .int .i64 f, .int .i64 i, .string s, .int .i64 e] w (GotB w (shutR p t f i l e)) := by
 have hn := hP.n;have h2 := hP.le;have HP := xH hP;have HN := xH hn;clear hP;rw [hn] at hi;clear hn;obtain ⟨tk, ta, tt, tc, tset, tneg, tn, tm, tmd, tname, ton, toff⟩ := t;subst ht;have hz : s.size = l.length := by rw [hs]; simp [ByteArray.size]
 have hz2 : s.size ≤ 1000 := by omega
 have HS := xH hs;have HZ := xH hz;clear hs hz;unfold txV txC tkR;go_enter Tryz.func73, Tryz.ntmps73;go_upto_region 1 with (fail)
 generalize hW : ((w.alloc _).alloc _).alloc _ = W;obtain ⟨hf, ht⟩ := fh_start (S := S) (p := p) (cs := tkR (.slice none 0 0) ⟨tk, ta, tt, tc, [], tneg, tn, tm, tmd, tname, ton, toff⟩) hW;have F0 := xH hf;obtain ⟨B, hB⟩ : ∃ B, w.heap.size = B := ⟨_, rfl⟩;rw [hB] at F0 ht ⊢;have HT0 := xH ht;clear hW hB hf ht;obtain ⟨c0, c1, c2, c3⟩ := F0.out.c;go_wp2_with fail
 refine Calls.mono (qG S p _ HP.out i (by omega) l s HS.out hl (Or.inl (by rw [HN.out]; exact hi))) ?_;rintro e w1 ⟨rfl, hb⟩;have F1 := xH (F0.out.step hb);have HT1 := xH ((hb.block _ (zi HT0.out)).trans HT0.out);clear hb c0 c1 c2 c3;obtain ⟨c0, c1, c2, c3⟩ := F1.out.c;cases hh : p.has l i with
 | true =>
  have HR := xH (show shutR p ⟨tk, ta, tt, tc, [], tneg, tn, tm, tmd, tname, ton, toff⟩ f i l e = gtok ⟨tk, ta, tt, tc, [], tneg, tn, tm, tmd, tname, ton, toff⟩ f (i + s.size) by unfold shutR; rw [if_pos hh, HZ.out]);go_wp2_with (refine tkw.qX rfl _ rfl (B + 1) rfl _ HT1.out rfl ?_)
  refine Calls.mono (qF (.slice none 0 0) (⟨tk, ta, tt, tc, [], tneg, tn, tm, tmd, tname, ton, toff⟩) (f) (i + s.size) _ (k := B) (qm _ _)) ?_;rintro e w2 ⟨rfl, ho, hb⟩;have F2 := xH (F1.out.step hb);have HO := xH ho;clear hb ho c0 c1 c2 c3;obtain ⟨old, hg, hz⟩ := F2.out.g;have HG := xH hg;clear hg;go_wp2_with (refine xR HG hz HO rfl rfl rfl rfl rfl ?_)
  refine bodyPost_ret (xE HG rfl rfl) rfl ?_;exact fh_fin F2.out HR.out HO.out (Nat.le_refl _)
 | false =>
  by_cases h0 : S.size ≤ i
  ·have HR := xH (show shutR p ⟨tk, ta, tt, tc, [], tneg, tn, tm, tmd, tname, ton, toff⟩ f i l e = .error (20, p.n) by unfold shutR; rw [if_neg (by simp [hh]), if_pos (by rw [HN.out]; exact h0)]);go_wp2_with fail
   refine Calls.mono (end_any S p _ HP.out) ?_;rintro e w2 ⟨v, rfl, ho, hb⟩;have HO := xO F1.out.x ho;have F2 := xH (F1.out.step hb);clear hb ho c0 c1 c2 c3;obtain ⟨old, hg, hz⟩ := F2.out.g;have HG := xH hg;clear hg;go_wp2_with (refine xR HG hz HO rfl rfl rfl rfl rfl ?_)
   refine bodyPost_ret (xE HG rfl rfl) rfl ?_;exact fh_fin F2.out HR.out HO.out (Nat.le_refl _)
  ·have HR := xH (show shutR p ⟨tk, ta, tt, tc, [], tneg, tn, tm, tmd, tname, ton, toff⟩ f i l e = .error (e, f) by unfold shutR; rw [if_neg (by simp [hh]), if_neg (by rw [HN.out]; exact h0)]);go_wp2_with fail
   refine Calls.mono (qw _ _ _) ?_;rintro e w2 ⟨v, rfl, ho, hb⟩;have HO := xO F1.out.x ho;have F2 := xH (F1.out.step hb);clear hb ho c0 c1 c2 c3;obtain ⟨old, hg, hz⟩ := F2.out.g;have HG := xH hg;clear hg;go_wp2_with (refine xR HG hz HO rfl rfl rfl rfl rfl ?_)
   refine bodyPost_ret (xE HG rfl rfl) rfl ?_;exact fh_fin F2.out HR.out HO.out (Nat.le_refl _)
theorem called_any (S : ByteArray) (p : Pt) (w : World) (hP : Pat S p) (t : Tk) (ht : t.set = []) (f i : Nat) (hi : i ≤ p.n) (l : List UInt8) (s : ByteArray) (hs : s = ⟨l.toArray⟩) (hl : l.length ≤ 1000) : Calls Tryz.prog 72 #[txV S p, .agg (tkR (.slice none 0 0) t), .int .i64 f, .int .i64 i, .string s] w (GotB w (callR p t f i l)) := by
 have hn := hP.n;have h2 := hP.le;have HP := xH hP;have HN := xH hn;clear hP;rw [hn] at hi;clear hn;obtain ⟨tk, ta, tt, tc, tset, tneg, tn, tm, tmd, tname, ton, toff⟩ := t;subst ht;have hz : s.size = l.length := by rw [hs]; simp [ByteArray.size]
 have hz2 : s.size ≤ 1000 := by omega
 have HS := xH hs;have HZ := xH hz;clear hs hz;unfold txV txC tkR;go_enter Tryz.func72, Tryz.ntmps72;go_upto_region 1 with (fail)
 generalize hW : ((w.alloc _).alloc _).alloc _ = W;obtain ⟨hf, ht⟩ := fh_start (S := S) (p := p) (cs := tkR (.slice none 0 0) ⟨tk, ta, tt, tc, [], tneg, tn, tm, tmd, tname, ton, toff⟩) hW;have F0 := xH hf;obtain ⟨B, hB⟩ : ∃ B, w.heap.size = B := ⟨_, rfl⟩;rw [hB] at F0 ht ⊢;have HT0 := xH ht;clear hW hB hf ht;obtain ⟨c0, c1, c2, c3⟩ := F0.out.c;go_wp2_with fail
 refine Calls.mono (name_any S p _ HP.out i (by rw [HN.out]; exact hi)) ?_;rintro e w1 ⟨rfl, hb⟩;have F1 := xH (F0.out.step hb);have HT1 := xH ((hb.block _ (zi HT0.out)).trans HT0.out);clear hb c0 c1 c2 c3;obtain ⟨c0, c1, c2, c3⟩ := F1.out.c;have hnb := zh (p := p) (a := i) (by rw [HN.out]; exact hi);rw [HN.out] at hnb;have HRR := xH (show callR p ⟨tk, ta, tt, tc, [], tneg, tn, tm, tmd, tname, ton, toff⟩ f i l = if p.n ≤ (p.name i).1 then .error (20, (p.n : Int)) else if (p.name i).2 = false ∨ p.has l (p.name i).1 = false then .error (27, (f : Int)) else gtok { (⟨tk, ta, tt, tc, [], tneg, tn, tm, tmd, tname, ton, toff⟩ : Tk) with name := p.sub i (p.name i).1 } f ((p.name i).1 + l.length) from rfl);generalize (p.name i).1 = z at *;generalize (p.name i).2 = ok at *;generalize p.sub i z = nm at *;obtain ⟨n1, n2⟩ := hnb;by_cases h0 : S.size ≤ z
 ·have HR := xH (HRR.out.trans (if_pos (by rw [HN.out]; exact h0)));go_wp2_with fail
  refine Calls.mono (end_any S p _ HP.out) ?_;rintro e w2 ⟨v, rfl, ho, hb⟩;have HO := xO F1.out.x ho;have F2 := xH (F1.out.step hb);clear hb ho c0 c1 c2 c3;obtain ⟨old, hg, hz⟩ := F2.out.g;have HG := xH hg;clear hg;go_wp2_with (refine xR HG hz HO rfl rfl rfl rfl rfl ?_)
  refine bodyPost_ret (xE HG rfl rfl) rfl ?_;exact fh_fin F2.out HR.out HO.out (Nat.le_refl _)
 ·have HR1 := xH (HRR.out.trans (if_neg (by rw [HN.out]; exact h0)));cases ok with
  | false =>
   have HR := xH (HR1.out.trans (if_pos (Or.inl rfl)));go_wp2_with fail
   refine Calls.mono (qw _ _ _) ?_;rintro e w2 ⟨v, rfl, ho, hb⟩;have HO := xO F1.out.x ho;have F2 := xH (F1.out.step hb);clear hb ho c0 c1 c2 c3;obtain ⟨old, hg, hz⟩ := F2.out.g;have HG := xH hg;clear hg;go_wp2_with (refine xR HG hz HO rfl rfl rfl rfl rfl ?_)
   refine bodyPost_ret (xE HG rfl rfl) rfl ?_;exact fh_fin F2.out HR.out HO.out (Nat.le_refl _)
  | true =>
   go_wp2_with fail
   refine Calls.mono (qG S p _ HP.out z (by omega) l s HS.out hl (Or.inl (by rw [HN.out]; omega))) ?_;rintro e w2 ⟨rfl, hb⟩;have F2 := xH (F1.out.step hb);have HT2 := xH ((hb.block _ (zi HT1.out)).trans HT1.out);clear hb c0 c1 c2 c3;obtain ⟨c0, c1, c2, c3⟩ := F2.out.c;cases hh : p.has l z with
   | false =>
    have HR := xH (HR1.out.trans (if_pos (Or.inr hh)));go_wp2_with fail
    refine Calls.mono (qw _ _ _) ?_;rintro e w3 ⟨v, rfl, ho, hb⟩;have HO := xO F2.out.x ho;have F3 := xH (F2.out.step hb);clear hb ho c0 c1 c2 c3;obtain ⟨old, hg, hz⟩ := F3.out.g;have HG := xH hg;clear hg;go_wp2_with (refine xR HG hz HO rfl rfl rfl rfl rfl ?_)
    refine bodyPost_ret (xE HG rfl rfl) rfl ?_;exact fh_fin F3.out HR.out HO.out (Nat.le_refl _)
   | true =>
    have HR := xH (show callR p ⟨tk, ta, tt, tc, [], tneg, tn, tm, tmd, tname, ton, toff⟩ f i l = gtok { (⟨tk, ta, tt, tc, [], tneg, tn, tm, tmd, tname, ton, toff⟩ : Tk) with name := nm } f (z + s.size) from HR1.out.trans ((if_neg (by simp [hh])).trans (by rw [HZ.out])));have ct : w2.cell? ⟨B + 1, 9, none⟩ = some (.string tname) := by simp [World.cell?, HT2.out, tkR]
    have cf : w2.frozen? ⟨B + 1, 9, none⟩ = false := by simp [World.frozen?, HT2.out]
    have HT3 : Hid ((w2.setCell ⟨B + 1, 9, none⟩ (.string nm)).heap[B + 1]? = some (.cells (tkR (.slice none 0 0) { (⟨tk, ta, tt, tc, [], tneg, tn, tm, tmd, tname, ton, toff⟩ : Tk) with name := nm }) 68 (0, 0))) := xH (tkw.heap_set HT2.out);have F3 := xH (F2.out.low ((Below.refl _ w2).setCell (p := ⟨B + 1, 9, none⟩) (Nat.le_refl _) (.string nm)) (Below.heap_setCell w2 ⟨B + 1, 9, none⟩ _ (B + 2) (by simp)));clear c0 c1 c2 c3;obtain ⟨c0, c1, c2, c3⟩ := F3.out.c;go_wp2_with (refine tkw.qX rfl _ rfl (B + 1) rfl _ HT3.out rfl ?_)
    refine Calls.mono (qF (.slice none 0 0) ({ (⟨tk, ta, tt, tc, [], tneg, tn, tm, tmd, tname, ton, toff⟩ : Tk) with name := nm }) (f) (z + s.size) _ (k := B) (qm _ _)) ?_;rintro e w4 ⟨rfl, ho, hb⟩;have F4 := xH (F3.out.step hb);have HO := xH ho;clear hb ho c0 c1 c2 c3;obtain ⟨old, hg, hz⟩ := F4.out.g;have HG := xH hg;clear hg;go_wp2_with (refine xR HG hz HO rfl rfl rfl rfl rfl ?_)
    refine bodyPost_ret (xE HG rfl rfl) rfl ?_;exact fh_fin F4.out HR.out HO.out (Nat.le_refl _)
end Go.Proofs.YtikjhfmmfpeaoaaGreatDoor.rtw
end
