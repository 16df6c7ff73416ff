/- T -/
import Derived.Test.YtnpcombfgdbhkaaDoorBPd01
import Derived.Test.YtnpcombfgdbhkaaDoorBPd03
import Derived.Test.YtnpcombfgdbhkaaDoorBPd04
import Derived.Test.YtnpcombfgdbhkaaDoorBPd05
import Derived.Test.YtnpcombfgdbhkaaDoorBPd06
import Derived.Test.YtnpcombfgdbhkaaDoorBPd07
set_option maxHeartbeats 16000000
set_option maxRecDepth 1000000
section
namespace Go.Proofs.YtnpcombfgdbhkaaDoor.psl
open sq
open Go Go.RowKit Go.Maps tkp trp trw rpp rtp setw psw psp
open rpw (qp zero_at qh)
theorem deep_t {w n : Nat} (h : (List.range 101).all (deepB w) = true) (hn : n ≤ 100) : (40 < n → textP (deepS (opS w) n) = .error (11, 40 * (opS w).size)) ∧ (¬ 40 < n → ∃ f, textP (deepS (opS w) n) = .ok f) := by
 have h1 := List.all_eq_true.1 h n (List.mem_range.2 (by omega));unfold deepB at h1;rw [text_g, deep_g, deep_size];constructor
 ·intro h2;rw [if_pos h2] at h1;exact er_eq h1
 ·intro h2;rw [if_neg h2] at h1;cases e : textG (deepG (opS w) n) ((opS w).size * n + 1 + n) with
  | error x => rw [e] at h1; cases h1
  | ok f => exact ⟨f, rfl⟩
theorem deepest_law (x0 x1 : Int) (w : World) (h0 : -9223372036854775808 ≤ x0 ∧ x0 ≤ 9223372036854775807) (h1 : -9223372036854775808 ≤ x1 ∧ x1 ≤ 9223372036854775807) (hT : TabP w) : Calls Tryd.prog 6 #[.int .i64 x0, .int .i64 x1] w (BoolB true w) := by
 have HT := xH hT;have HAW := xH (awake_any w hT);clear hT;go_enter Tryd.func6, Tryd.ntmps6;go_wp2_with fail
 refine HAW.out.mono ?_;rintro e w1 ⟨rfl, hb1⟩;have HB1 := xH hb1;clear hb1 HAW;by_cases n0 : x0 < 0
 ·have d0 : decide (x0 < 0) = true := decide_eq_true n0;go_wp2_with fail
  go_ret
  exact ⟨rfl, HB1.out⟩
 by_cases n1 : 100 < x0
 ·have d0 : decide (x0 < 0) = false := decide_eq_false n0;have d1 : decide (100 < x0) = true := decide_eq_true n1;go_wp2_with fail
  go_ret
  exact ⟨rfl, HB1.out⟩
 obtain ⟨n, rfl⟩ : ∃ n : Nat, x0 = n := ⟨x0.toNat, by omega⟩;have hn : n ≤ 100 := by omega
 have d0 : decide ((n : Int) < 0) = false := decide_eq_false n0;have d1 : decide (100 < (n : Int)) = false := decide_eq_false n1;by_cases m0 : x1 < 0
 ·have e0 : decide (x1 < 0) = true := decide_eq_true m0;have hm : -(x1 + 1).tmod 5 = 0 ∨ -(x1 + 1).tmod 5 = 1 ∨ -(x1 + 1).tmod 5 = 2 ∨ -(x1 + 1).tmod 5 = 3 ∨ -(x1 + 1).tmod 5 = 4 := by rw [← Int.neg_tmod, Int.tmod_eq_emod_of_nonneg (by omega)]; omega
  rcases hm with hm | hm | hm | hm | hm
  ·have HD := xH (show (40 < n → textP (deepS ⟨#[40]⟩ n) = .error (11, 40)) ∧ (¬ 40 < n → ∃ f, textP (deepS ⟨#[40]⟩ n) = .ok f) from deep_t (w := 0) deep_0 hn);go_wp2_with fail
   go_loopw [7, 8] (fun sv iv wr => ∃ i : Nat, iv = .int .i64 i ∧ i ≤ n ∧ sv = .string (catN ⟨#[40]⟩ i ⟨#[]⟩) ∧ Hid (Below w.heap.size w wr)) (fun _ iv _ => n - (intOf iv).toNat)
   case atStart => exact ⟨0, rfl, Nat.zero_le _, rfl, xH (trw.qi HB1.out (trw.qg _ _))⟩
   case round =>
    obtain ⟨i, rfl, hi, rfl, HB2⟩ := hrel;have hz : (catN ⟨#[40]⟩ i ⟨#[]⟩).size = 1 * i := by rw [cat_size]; exact Nat.zero_add _
    by_cases hend : i = n
    ·subst hend;obtain ⟨S, hS⟩ : ∃ S, catN ⟨#[40]⟩ i ⟨#[]⟩ = S := ⟨_, rfl⟩;rw [hS] at hz ⊢;have HS := xH hS;have z1 : S.size ≤ 1000 := by omega
     have z2 : (S ++ (⟨#[97]⟩ : ByteArray)).size ≤ 1000 := by rw [ByteArray.size_append]; show S.size + 1 ≤ 1000; omega
     have HZ := xH hz;clear hS hz;go_wp2_with fail
     clear z1 z2
     go_loopw [7, 9] (fun sv iv wz => ∃ j : Nat, iv = .int .i64 j ∧ j ≤ i ∧ sv = .string (catN ⟨#[41]⟩ j (S ++ ⟨#[97]⟩)) ∧ wz = wr) (fun _ iv _ => i - (intOf iv).toNat)
     case atStart => exact ⟨0, rfl, Nat.zero_le _, rfl, rfl⟩
     case round =>
      obtain ⟨j, rfl, hj, rfl, rfl⟩ := hrel;have hz2 : (catN ⟨#[41]⟩ j (S ++ ⟨#[97]⟩)).size = S.size + 1 + j := by rw [cat_size, ByteArray.size_append];show S.size + 1 + 1 * j = _;omega
      have hz := HZ.out;by_cases hend : j = i
      ·subst hend;have hD : catN ⟨#[41]⟩ j (S ++ ⟨#[97]⟩) = deepS ⟨#[40]⟩ j := by rw [← HS.out]; rfl
       rw [hD] at hz2 ⊢;have HP := xH (parsed_any (deepS ⟨#[40]⟩ j) wr (tabP_below HB2.out HT.out) (by omega));clear hz hz2 hD HZ HS;go_wp2_with fail
       refine HP.out.mono ?_;by_cases h40 : 40 < j
       ·rw [HD.out.1 h40];rintro e w3 ⟨hb3, rfl⟩;have HB3 := xH (trw.qi HB2.out hb3);have HG3 := xH (heap_alloc_new w3 (.cells zC.toArray 31));have HT3 := xH (zO w3 (lab 0 0));have HO3 := xH zero_ones;have d40 : decide (40 < (j : Int)) = true := decide_eq_true (by omega);have i40 : (40 : Int) < (j : Int) := by omega
        unfold zC at HG3 HT3;clear hb3 HP HD;dsimp only;go_upto_region 20 with (refine qh rfl rfl _ _ rfl w3.heap.size rfl _ (lab 0 0) HG3.out rfl HO3.out rfl ?_)
        generalize (w3.alloc _).setRow _ _ = w4 at *;have HB4 := xH (trw.qi HB3.out HT3.out.b);clear HG3 HT3 HO3 HB3;go_wp2_with fail
        go_ret
        exact ⟨rfl, HB4.out⟩
       ·obtain ⟨f, hf⟩ := HD.out.2 h40;rw [hf];rintro e w3 ⟨hb3, x, k, rfl, hn3, _⟩;have HB3 := xH (trw.qi HB2.out hb3);have HO3 := xH (qp hn3);have HG3 := xH (heap_alloc_new w3 (.cells zC.toArray 31));have HT3 := xH (zO w3 x);have d40 : decide (40 < (j : Int)) = false := decide_eq_false (by omega);have i40 : ¬ (40 : Int) < (j : Int) := by omega
        unfold zC at HG3 HT3;clear hb3 HP HD hf hn3;dsimp only;go_upto_region 20 with (refine qh rfl rfl _ _ rfl w3.heap.size rfl _ x HG3.out rfl HO3.out rfl ?_)
        generalize (w3.alloc _).setRow _ _ = w4 at *;have HB4 := xH (trw.qi HB3.out HT3.out.b);clear HG3 HT3 HO3 HB3;go_wp2_with fail
        go_ret
        exact ⟨rfl, HB4.out⟩
      ·have hlt : j < i := by omega
       obtain ⟨Q, hQ⟩ : ∃ Q, catN ⟨#[41]⟩ j (S ++ ⟨#[97]⟩) = Q := ⟨_, rfl⟩;have HQ := xH (show catN ⟨#[41]⟩ (j + 1) (S ++ ⟨#[97]⟩) = Q ++ ⟨#[41]⟩ by rw [← hQ]; rfl);rw [hQ] at hz2 ⊢;have z1 : Q.size ≤ 1000 := by omega
       have z2 : (Q ++ (⟨#[41]⟩ : ByteArray)).size ≤ 1000 := by rw [ByteArray.size_append]; show Q.size + 1 ≤ 1000; omega
       clear hz hz2 hQ;go_wp2_with fail
       go_roundw
       case rel => exact ⟨j + 1, by go_num, by omega, by rw [HQ.out], trivial⟩
       case measure => simp [intOf]; omega
    ·have hlt : i < n := by omega
     obtain ⟨Q, hQ⟩ : ∃ Q, catN ⟨#[40]⟩ i ⟨#[]⟩ = Q := ⟨_, rfl⟩;have HQ := xH (show catN ⟨#[40]⟩ (i + 1) ⟨#[]⟩ = Q ++ ⟨#[40]⟩ by rw [← hQ]; rfl);rw [hQ] at hz ⊢;have z1 : Q.size ≤ 1000 := by omega
     have z2 : (Q ++ (⟨#[40]⟩ : ByteArray)).size ≤ 1000 := by rw [ByteArray.size_append]; show Q.size + 1 ≤ 1000; omega
     clear hz hQ;go_wp2_with fail
     go_roundw
     case rel => exact ⟨i + 1, by go_num, by omega, by rw [HQ.out], HB2⟩
     case measure => simp [intOf]; omega
  ·have HD := xH (show (40 < n → textP (deepS ⟨#[40, 63, 58]⟩ n) = .error (11, 120)) ∧ (¬ 40 < n → ∃ f, textP (deepS ⟨#[40, 63, 58]⟩ n) = .ok f) from deep_t (w := 1) deep_1 hn);go_wp2_with fail
   go_loopw [7, 8] (fun sv iv wr => ∃ i : Nat, iv = .int .i64 i ∧ i ≤ n ∧ sv = .string (catN ⟨#[40, 63, 58]⟩ i ⟨#[]⟩) ∧ Hid (Below w.heap.size w wr)) (fun _ iv _ => n - (intOf iv).toNat)
   case atStart => exact ⟨0, rfl, Nat.zero_le _, rfl, xH (trw.qi HB1.out (trw.qg _ _))⟩
   case round =>
    obtain ⟨i, rfl, hi, rfl, HB2⟩ := hrel;have hz : (catN ⟨#[40, 63, 58]⟩ i ⟨#[]⟩).size = 3 * i := by rw [cat_size]; exact Nat.zero_add _
    by_cases hend : i = n
    ·subst hend;obtain ⟨S, hS⟩ : ∃ S, catN ⟨#[40, 63, 58]⟩ i ⟨#[]⟩ = S := ⟨_, rfl⟩;rw [hS] at hz ⊢;have HS := xH hS;have z1 : S.size ≤ 1000 := by omega
     have z2 : (S ++ (⟨#[97]⟩ : ByteArray)).size ≤ 1000 := by rw [ByteArray.size_append]; show S.size + 1 ≤ 1000; omega
     have HZ := xH hz;clear hS hz;go_wp2_with fail
     clear z1 z2
     go_loopw [7, 9] (fun sv iv wz => ∃ j : Nat, iv = .int .i64 j ∧ j ≤ i ∧ sv = .string (catN ⟨#[41]⟩ j (S ++ ⟨#[97]⟩)) ∧ wz = wr) (fun _ iv _ => i - (intOf iv).toNat)
     case atStart => exact ⟨0, rfl, Nat.zero_le _, rfl, rfl⟩
     case round =>
      obtain ⟨j, rfl, hj, rfl, rfl⟩ := hrel;have hz2 : (catN ⟨#[41]⟩ j (S ++ ⟨#[97]⟩)).size = S.size + 1 + j := by rw [cat_size, ByteArray.size_append];show S.size + 1 + 1 * j = _;omega
      have hz := HZ.out;by_cases hend : j = i
      ·subst hend;have hD : catN ⟨#[41]⟩ j (S ++ ⟨#[97]⟩) = deepS ⟨#[40, 63, 58]⟩ j := by rw [← HS.out]; rfl
       rw [hD] at hz2 ⊢;have HP := xH (parsed_any (deepS ⟨#[40, 63, 58]⟩ j) wr (tabP_below HB2.out HT.out) (by omega));clear hz hz2 hD HZ HS;go_wp2_with fail
       refine HP.out.mono ?_;by_cases h40 : 40 < j
       ·rw [HD.out.1 h40];rintro e w3 ⟨hb3, rfl⟩;have HB3 := xH (trw.qi HB2.out hb3);have HG3 := xH (heap_alloc_new w3 (.cells zC.toArray 31));have HT3 := xH (zO w3 (lab 0 0));have HO3 := xH zero_ones;have d40 : decide (40 < (j : Int)) = true := decide_eq_true (by omega);have i40 : (40 : Int) < (j : Int) := by omega
        unfold zC at HG3 HT3;clear hb3 HP HD;dsimp only;go_upto_region 20 with (refine qh rfl rfl _ _ rfl w3.heap.size rfl _ (lab 0 0) HG3.out rfl HO3.out rfl ?_)
        generalize (w3.alloc _).setRow _ _ = w4 at *;have HB4 := xH (trw.qi HB3.out HT3.out.b);clear HG3 HT3 HO3 HB3;go_wp2_with fail
        go_ret
        exact ⟨rfl, HB4.out⟩
       ·obtain ⟨f, hf⟩ := HD.out.2 h40;rw [hf];rintro e w3 ⟨hb3, x, k, rfl, hn3, _⟩;have HB3 := xH (trw.qi HB2.out hb3);have HO3 := xH (qp hn3);have HG3 := xH (heap_alloc_new w3 (.cells zC.toArray 31));have HT3 := xH (zO w3 x);have d40 : decide (40 < (j : Int)) = false := decide_eq_false (by omega);have i40 : ¬ (40 : Int) < (j : Int) := by omega
        unfold zC at HG3 HT3;clear hb3 HP HD hf hn3;dsimp only;go_upto_region 20 with (refine qh rfl rfl _ _ rfl w3.heap.size rfl _ x HG3.out rfl HO3.out rfl ?_)
        generalize (w3.alloc _).setRow _ _ = w4 at *;have HB4 := xH (trw.qi HB3.out HT3.out.b);clear HG3 HT3 HO3 HB3;go_wp2_with fail
        go_ret
        exact ⟨rfl, HB4.out⟩
      ·have hlt : j < i := by omega
       obtain ⟨Q, hQ⟩ : ∃ Q, catN ⟨#[41]⟩ j (S ++ ⟨#[97]⟩) = Q := ⟨_, rfl⟩;have HQ := xH (show catN ⟨#[41]⟩ (j + 1) (S ++ ⟨#[97]⟩) = Q ++ ⟨#[41]⟩ by rw [← hQ]; rfl);rw [hQ] at hz2 ⊢;have z1 : Q.size ≤ 1000 := by omega
       have z2 : (Q ++ (⟨#[41]⟩ : ByteArray)).size ≤ 1000 := by rw [ByteArray.size_append]; show Q.size + 1 ≤ 1000; omega
       clear hz hz2 hQ;go_wp2_with fail
       go_roundw
       case rel => exact ⟨j + 1, by go_num, by omega, by rw [HQ.out], trivial⟩
       case measure => simp [intOf]; omega
    ·have hlt : i < n := by omega
     obtain ⟨Q, hQ⟩ : ∃ Q, catN ⟨#[40, 63, 58]⟩ i ⟨#[]⟩ = Q := ⟨_, rfl⟩;have HQ := xH (show catN ⟨#[40, 63, 58]⟩ (i + 1) ⟨#[]⟩ = Q ++ ⟨#[40, 63, 58]⟩ by rw [← hQ]; rfl);rw [hQ] at hz ⊢;have z1 : Q.size ≤ 1000 := by omega
     have z2 : (Q ++ (⟨#[40, 63, 58]⟩ : ByteArray)).size ≤ 1000 := by rw [ByteArray.size_append]; show Q.size + 3 ≤ 1000; omega
     clear hz hQ;go_wp2_with fail
     go_roundw
     case rel => exact ⟨i + 1, by go_num, by omega, by rw [HQ.out], HB2⟩
     case measure => simp [intOf]; omega
  ·have HD := xH (show (40 < n → textP (deepS ⟨#[40, 63, 61]⟩ n) = .error (11, 120)) ∧ (¬ 40 < n → ∃ f, textP (deepS ⟨#[40, 63, 61]⟩ n) = .ok f) from deep_t (w := 2) deep_2 hn);go_wp2_with fail
   go_loopw [7, 8] (fun sv iv wr => ∃ i : Nat, iv = .int .i64 i ∧ i ≤ n ∧ sv = .string (catN ⟨#[40, 63, 61]⟩ i ⟨#[]⟩) ∧ Hid (Below w.heap.size w wr)) (fun _ iv _ => n - (intOf iv).toNat)
   case atStart => exact ⟨0, rfl, Nat.zero_le _, rfl, xH (trw.qi HB1.out (trw.qg _ _))⟩
   case round =>
    obtain ⟨i, rfl, hi, rfl, HB2⟩ := hrel;have hz : (catN ⟨#[40, 63, 61]⟩ i ⟨#[]⟩).size = 3 * i := by rw [cat_size]; exact Nat.zero_add _
    by_cases hend : i = n
    ·subst hend;obtain ⟨S, hS⟩ : ∃ S, catN ⟨#[40, 63, 61]⟩ i ⟨#[]⟩ = S := ⟨_, rfl⟩;rw [hS] at hz ⊢;have HS := xH hS;have z1 : S.size ≤ 1000 := by omega
     have z2 : (S ++ (⟨#[97]⟩ : ByteArray)).size ≤ 1000 := by rw [ByteArray.size_append]; show S.size + 1 ≤ 1000; omega
     have HZ := xH hz;clear hS hz;go_wp2_with fail
     clear z1 z2
     go_loopw [7, 9] (fun sv iv wz => ∃ j : Nat, iv = .int .i64 j ∧ j ≤ i ∧ sv = .string (catN ⟨#[41]⟩ j (S ++ ⟨#[97]⟩)) ∧ wz = wr) (fun _ iv _ => i - (intOf iv).toNat)
     case atStart => exact ⟨0, rfl, Nat.zero_le _, rfl, rfl⟩
     case round =>
      obtain ⟨j, rfl, hj, rfl, rfl⟩ := hrel;have hz2 : (catN ⟨#[41]⟩ j (S ++ ⟨#[97]⟩)).size = S.size + 1 + j := by rw [cat_size, ByteArray.size_append];show S.size + 1 + 1 * j = _;omega
      have hz := HZ.out;by_cases hend : j = i
      ·subst hend;have hD : catN ⟨#[41]⟩ j (S ++ ⟨#[97]⟩) = deepS ⟨#[40, 63, 61]⟩ j := by rw [← HS.out]; rfl
       rw [hD] at hz2 ⊢;have HP := xH (parsed_any (deepS ⟨#[40, 63, 61]⟩ j) wr (tabP_below HB2.out HT.out) (by omega));clear hz hz2 hD HZ HS;go_wp2_with fail
       refine HP.out.mono ?_;by_cases h40 : 40 < j
       ·rw [HD.out.1 h40];rintro e w3 ⟨hb3, rfl⟩;have HB3 := xH (trw.qi HB2.out hb3);have HG3 := xH (heap_alloc_new w3 (.cells zC.toArray 31));have HT3 := xH (zO w3 (lab 0 0));have HO3 := xH zero_ones;have d40 : decide (40 < (j : Int)) = true := decide_eq_true (by omega);have i40 : (40 : Int) < (j : Int) := by omega
        unfold zC at HG3 HT3;clear hb3 HP HD;dsimp only;go_upto_region 20 with (refine qh rfl rfl _ _ rfl w3.heap.size rfl _ (lab 0 0) HG3.out rfl HO3.out rfl ?_)
        generalize (w3.alloc _).setRow _ _ = w4 at *;have HB4 := xH (trw.qi HB3.out HT3.out.b);clear HG3 HT3 HO3 HB3;go_wp2_with fail
        go_ret
        exact ⟨rfl, HB4.out⟩
       ·obtain ⟨f, hf⟩ := HD.out.2 h40;rw [hf];rintro e w3 ⟨hb3, x, k, rfl, hn3, _⟩;have HB3 := xH (trw.qi HB2.out hb3);have HO3 := xH (qp hn3);have HG3 := xH (heap_alloc_new w3 (.cells zC.toArray 31));have HT3 := xH (zO w3 x);have d40 : decide (40 < (j : Int)) = false := decide_eq_false (by omega);have i40 : ¬ (40 : Int) < (j : Int) := by omega
        unfold zC at HG3 HT3;clear hb3 HP HD hf hn3;dsimp only;go_upto_region 20 with (refine qh rfl rfl _ _ rfl w3.heap.size rfl _ x HG3.out rfl HO3.out rfl ?_)
        generalize (w3.alloc _).setRow _ _ = w4 at *;have HB4 := xH (trw.qi HB3.out HT3.out.b);clear HG3 HT3 HO3 HB3;go_wp2_with fail
        go_ret
        exact ⟨rfl, HB4.out⟩
      ·have hlt : j < i := by omega
       obtain ⟨Q, hQ⟩ : ∃ Q, catN ⟨#[41]⟩ j (S ++ ⟨#[97]⟩) = Q := ⟨_, rfl⟩;have HQ := xH (show catN ⟨#[41]⟩ (j + 1) (S ++ ⟨#[97]⟩) = Q ++ ⟨#[41]⟩ by rw [← hQ]; rfl);rw [hQ] at hz2 ⊢;have z1 : Q.size ≤ 1000 := by omega
       have z2 : (Q ++ (⟨#[41]⟩ : ByteArray)).size ≤ 1000 := by rw [ByteArray.size_append]; show Q.size + 1 ≤ 1000; omega
       clear hz hz2 hQ;go_wp2_with fail
       go_roundw
       case rel => exact ⟨j + 1, by go_num, by omega, by rw [HQ.out], trivial⟩
       case measure => simp [intOf]; omega
    ·have hlt : i < n := by omega
     obtain ⟨Q, hQ⟩ : ∃ Q, catN ⟨#[40, 63, 61]⟩ i ⟨#[]⟩ = Q := ⟨_, rfl⟩;have HQ := xH (show catN ⟨#[40, 63, 61]⟩ (i + 1) ⟨#[]⟩ = Q ++ ⟨#[40, 63, 61]⟩ by rw [← hQ]; rfl);rw [hQ] at hz ⊢;have z1 : Q.size ≤ 1000 := by omega
     have z2 : (Q ++ (⟨#[40, 63, 61]⟩ : ByteArray)).size ≤ 1000 := by rw [ByteArray.size_append]; show Q.size + 3 ≤ 1000; omega
     clear hz hQ;go_wp2_with fail
     go_roundw
     case rel => exact ⟨i + 1, by go_num, by omega, by rw [HQ.out], HB2⟩
     case measure => simp [intOf]; omega
  ·have HD := xH (show (40 < n → textP (deepS ⟨#[40, 63, 62]⟩ n) = .error (11, 120)) ∧ (¬ 40 < n → ∃ f, textP (deepS ⟨#[40, 63, 62]⟩ n) = .ok f) from deep_t (w := 3) deep_3 hn);go_wp2_with fail
   go_loopw [7, 8] (fun sv iv wr => ∃ i : Nat, iv = .int .i64 i ∧ i ≤ n ∧ sv = .string (catN ⟨#[40, 63, 62]⟩ i ⟨#[]⟩) ∧ Hid (Below w.heap.size w wr)) (fun _ iv _ => n - (intOf iv).toNat)
   case atStart => exact ⟨0, rfl, Nat.zero_le _, rfl, xH (trw.qi HB1.out (trw.qg _ _))⟩
   case round =>
    obtain ⟨i, rfl, hi, rfl, HB2⟩ := hrel;have hz : (catN ⟨#[40, 63, 62]⟩ i ⟨#[]⟩).size = 3 * i := by rw [cat_size]; exact Nat.zero_add _
    by_cases hend : i = n
    ·subst hend;obtain ⟨S, hS⟩ : ∃ S, catN ⟨#[40, 63, 62]⟩ i ⟨#[]⟩ = S := ⟨_, rfl⟩;rw [hS] at hz ⊢;have HS := xH hS;have z1 : S.size ≤ 1000 := by omega
     have z2 : (S ++ (⟨#[97]⟩ : ByteArray)).size ≤ 1000 := by rw [ByteArray.size_append]; show S.size + 1 ≤ 1000; omega
     have HZ := xH hz;clear hS hz;go_wp2_with fail
     clear z1 z2
     go_loopw [7, 9] (fun sv iv wz => ∃ j : Nat, iv = .int .i64 j ∧ j ≤ i ∧ sv = .string (catN ⟨#[41]⟩ j (S ++ ⟨#[97]⟩)) ∧ wz = wr) (fun _ iv _ => i - (intOf iv).toNat)
     case atStart => exact ⟨0, rfl, Nat.zero_le _, rfl, rfl⟩
     case round =>
      obtain ⟨j, rfl, hj, rfl, rfl⟩ := hrel;have hz2 : (catN ⟨#[41]⟩ j (S ++ ⟨#[97]⟩)).size = S.size + 1 + j := by rw [cat_size, ByteArray.size_append];show S.size + 1 + 1 * j = _;omega
      have hz := HZ.out;by_cases hend : j = i
      ·subst hend;have hD : catN ⟨#[41]⟩ j (S ++ ⟨#[97]⟩) = deepS ⟨#[40, 63, 62]⟩ j := by rw [← HS.out]; rfl
       rw [hD] at hz2 ⊢;have HP := xH (parsed_any (deepS ⟨#[40, 63, 62]⟩ j) wr (tabP_below HB2.out HT.out) (by omega));clear hz hz2 hD HZ HS;go_wp2_with fail
       refine HP.out.mono ?_;by_cases h40 : 40 < j
       ·rw [HD.out.1 h40];rintro e w3 ⟨hb3, rfl⟩;have HB3 := xH (trw.qi HB2.out hb3);have HG3 := xH (heap_alloc_new w3 (.cells zC.toArray 31));have HT3 := xH (zO w3 (lab 0 0));have HO3 := xH zero_ones;have d40 : decide (40 < (j : Int)) = true := decide_eq_true (by omega);have i40 : (40 : Int) < (j : Int) := by omega
        unfold zC at HG3 HT3;clear hb3 HP HD;dsimp only;go_upto_region 20 with (refine qh rfl rfl _ _ rfl w3.heap.size rfl _ (lab 0 0) HG3.out rfl HO3.out rfl ?_)
        generalize (w3.alloc _).setRow _ _ = w4 at *;have HB4 := xH (trw.qi HB3.out HT3.out.b);clear HG3 HT3 HO3 HB3;go_wp2_with fail
        go_ret
        exact ⟨rfl, HB4.out⟩
       ·obtain ⟨f, hf⟩ := HD.out.2 h40;rw [hf];rintro e w3 ⟨hb3, x, k, rfl, hn3, _⟩;have HB3 := xH (trw.qi HB2.out hb3);have HO3 := xH (qp hn3);have HG3 := xH (heap_alloc_new w3 (.cells zC.toArray 31));have HT3 := xH (zO w3 x);have d40 : decide (40 < (j : Int)) = false := decide_eq_false (by omega);have i40 : ¬ (40 : Int) < (j : Int) := by omega
        unfold zC at HG3 HT3;clear hb3 HP HD hf hn3;dsimp only;go_upto_region 20 with (refine qh rfl rfl _ _ rfl w3.heap.size rfl _ x HG3.out rfl HO3.out rfl ?_)
        generalize (w3.alloc _).setRow _ _ = w4 at *;have HB4 := xH (trw.qi HB3.out HT3.out.b);clear HG3 HT3 HO3 HB3;go_wp2_with fail
        go_ret
        exact ⟨rfl, HB4.out⟩
      ·have hlt : j < i := by omega
       obtain ⟨Q, hQ⟩ : ∃ Q, catN ⟨#[41]⟩ j (S ++ ⟨#[97]⟩) = Q := ⟨_, rfl⟩;have HQ := xH (show catN ⟨#[41]⟩ (j + 1) (S ++ ⟨#[97]⟩) = Q ++ ⟨#[41]⟩ by rw [← hQ]; rfl);rw [hQ] at hz2 ⊢;have z1 : Q.size ≤ 1000 := by omega
       have z2 : (Q ++ (⟨#[41]⟩ : ByteArray)).size ≤ 1000 := by rw [ByteArray.size_append]; show Q.size + 1 ≤ 1000; omega
       clear hz hz2 hQ;go_wp2_with fail
       go_roundw
       case rel => exact ⟨j + 1, by go_num, by omega, by rw [HQ.out], trivial⟩
       case measure => simp [intOf]; omega
    ·have hlt : i < n := by omega
     obtain ⟨Q, hQ⟩ : ∃ Q, catN ⟨#[40, 63, 62]⟩ i ⟨#[]⟩ = Q := ⟨_, rfl⟩;have HQ := xH (show catN ⟨#[40, 63, 62]⟩ (i + 1) ⟨#[]⟩ = Q ++ ⟨#[40, 63, 62]⟩ by rw [← hQ]; rfl);rw [hQ] at hz ⊢;have z1 : Q.size ≤ 1000 := by omega
     have z2 : (Q ++ (⟨#[40, 63, 62]⟩ : ByteArray)).size ≤ 1000 := by rw [ByteArray.size_append]; show Q.size + 3 ≤ 1000; omega
     clear hz hQ;go_wp2_with fail
     go_roundw
     case rel => exact ⟨i + 1, by go_num, by omega, by rw [HQ.out], HB2⟩
     case measure => simp [intOf]; omega
  ·have HD := xH (show (40 < n → textP (deepS ⟨#[40, 63, 124]⟩ n) = .error (11, 120)) ∧ (¬ 40 < n → ∃ f, textP (deepS ⟨#[40, 63, 124]⟩ n) = .ok f) from deep_t (w := 4) deep_4 hn);go_wp2_with fail
   go_loopw [7, 8] (fun sv iv wr => ∃ i : Nat, iv = .int .i64 i ∧ i ≤ n ∧ sv = .string (catN ⟨#[40, 63, 124]⟩ i ⟨#[]⟩) ∧ Hid (Below w.heap.size w wr)) (fun _ iv _ => n - (intOf iv).toNat)
   case atStart => exact ⟨0, rfl, Nat.zero_le _, rfl, xH (trw.qi HB1.out (trw.qg _ _))⟩
   case round =>
    obtain ⟨i, rfl, hi, rfl, HB2⟩ := hrel;have hz : (catN ⟨#[40, 63, 124]⟩ i ⟨#[]⟩).size = 3 * i := by rw [cat_size]; exact Nat.zero_add _
    by_cases hend : i = n
    ·subst hend;obtain ⟨S, hS⟩ : ∃ S, catN ⟨#[40, 63, 124]⟩ i ⟨#[]⟩ = S := ⟨_, rfl⟩;rw [hS] at hz ⊢;have HS := xH hS;have z1 : S.size ≤ 1000 := by omega
     have z2 : (S ++ (⟨#[97]⟩ : ByteArray)).size ≤ 1000 := by rw [ByteArray.size_append]; show S.size + 1 ≤ 1000; omega
     have HZ := xH hz;clear hS hz;go_wp2_with fail
     clear z1 z2
     go_loopw [7, 9] (fun sv iv wz => ∃ j : Nat, iv = .int .i64 j ∧ j ≤ i ∧ sv = .string (catN ⟨#[41]⟩ j (S ++ ⟨#[97]⟩)) ∧ wz = wr) (fun _ iv _ => i - (intOf iv).toNat)
     case atStart => exact ⟨0, rfl, Nat.zero_le _, rfl, rfl⟩
     case round =>
      obtain ⟨j, rfl, hj, rfl, rfl⟩ := hrel;have hz2 : (catN ⟨#[41]⟩ j (S ++ ⟨#[97]⟩)).size = S.size + 1 + j := by rw [cat_size, ByteArray.size_append];show S.size + 1 + 1 * j = _;omega
      have hz := HZ.out;by_cases hend : j = i
      ·subst hend;have hD : catN ⟨#[41]⟩ j (S ++ ⟨#[97]⟩) = deepS ⟨#[40, 63, 124]⟩ j := by rw [← HS.out]; rfl
       rw [hD] at hz2 ⊢;have HP := xH (parsed_any (deepS ⟨#[40, 63, 124]⟩ j) wr (tabP_below HB2.out HT.out) (by omega));clear hz hz2 hD HZ HS;go_wp2_with fail
       refine HP.out.mono ?_;by_cases h40 : 40 < j
       ·rw [HD.out.1 h40];rintro e w3 ⟨hb3, rfl⟩;have HB3 := xH (trw.qi HB2.out hb3);have HG3 := xH (heap_alloc_new w3 (.cells zC.toArray 31));have HT3 := xH (zO w3 (lab 0 0));have HO3 := xH zero_ones;have d40 : decide (40 < (j : Int)) = true := decide_eq_true (by omega);have i40 : (40 : Int) < (j : Int) := by omega
        unfold zC at HG3 HT3;clear hb3 HP HD;dsimp only;go_upto_region 20 with (refine qh rfl rfl _ _ rfl w3.heap.size rfl _ (lab 0 0) HG3.out rfl HO3.out rfl ?_)
        generalize (w3.alloc _).setRow _ _ = w4 at *;have HB4 := xH (trw.qi HB3.out HT3.out.b);clear HG3 HT3 HO3 HB3;go_wp2_with fail
        go_ret
        exact ⟨rfl, HB4.out⟩
       ·obtain ⟨f, hf⟩ := HD.out.2 h40;rw [hf];rintro e w3 ⟨hb3, x, k, rfl, hn3, _⟩;have HB3 := xH (trw.qi HB2.out hb3);have HO3 := xH (qp hn3);have HG3 := xH (heap_alloc_new w3 (.cells zC.toArray 31));have HT3 := xH (zO w3 x);have d40 : decide (40 < (j : Int)) = false := decide_eq_false (by omega);have i40 : ¬ (40 : Int) < (j : Int) := by omega
        unfold zC at HG3 HT3;clear hb3 HP HD hf hn3;dsimp only;go_upto_region 20 with (refine qh rfl rfl _ _ rfl w3.heap.size rfl _ x HG3.out rfl HO3.out rfl ?_)
        generalize (w3.alloc _).setRow _ _ = w4 at *;have HB4 := xH (trw.qi HB3.out HT3.out.b);clear HG3 HT3 HO3 HB3;go_wp2_with fail
        go_ret
        exact ⟨rfl, HB4.out⟩
      ·have hlt : j < i := by omega
       obtain ⟨Q, hQ⟩ : ∃ Q, catN ⟨#[41]⟩ j (S ++ ⟨#[97]⟩) = Q := ⟨_, rfl⟩;have HQ := xH (show catN ⟨#[41]⟩ (j + 1) (S ++ ⟨#[97]⟩) = Q ++ ⟨#[41]⟩ by rw [← hQ]; rfl);rw [hQ] at hz2 ⊢;have z1 : Q.size ≤ 1000 := by omega
       have z2 : (Q ++ (⟨#[41]⟩ : ByteArray)).size ≤ 1000 := by rw [ByteArray.size_append]; show Q.size + 1 ≤ 1000; omega
       clear hz hz2 hQ;go_wp2_with fail
       go_roundw
       case rel => exact ⟨j + 1, by go_num, by omega, by rw [HQ.out], trivial⟩
       case measure => simp [intOf]; omega
    ·have hlt : i < n := by omega
     obtain ⟨Q, hQ⟩ : ∃ Q, catN ⟨#[40, 63, 124]⟩ i ⟨#[]⟩ = Q := ⟨_, rfl⟩;have HQ := xH (show catN ⟨#[40, 63, 124]⟩ (i + 1) ⟨#[]⟩ = Q ++ ⟨#[40, 63, 124]⟩ by rw [← hQ]; rfl);rw [hQ] at hz ⊢;have z1 : Q.size ≤ 1000 := by omega
     have z2 : (Q ++ (⟨#[40, 63, 124]⟩ : ByteArray)).size ≤ 1000 := by rw [ByteArray.size_append]; show Q.size + 3 ≤ 1000; omega
     clear hz hQ;go_wp2_with fail
     go_roundw
     case rel => exact ⟨i + 1, by go_num, by omega, by rw [HQ.out], HB2⟩
     case measure => simp [intOf]; omega
 ·have e0 : decide (x1 < 0) = false := decide_eq_false m0;have hm : x1.tmod 5 = 0 ∨ x1.tmod 5 = 1 ∨ x1.tmod 5 = 2 ∨ x1.tmod 5 = 3 ∨ x1.tmod 5 = 4 := by rw [Int.tmod_eq_emod_of_nonneg (by omega)]; omega
  rcases hm with hm | hm | hm | hm | hm
  ·have HD := xH (show (40 < n → textP (deepS ⟨#[40]⟩ n) = .error (11, 40)) ∧ (¬ 40 < n → ∃ f, textP (deepS ⟨#[40]⟩ n) = .ok f) from deep_t (w := 0) deep_0 hn);go_wp2_with fail
   go_loopw [7, 8] (fun sv iv wr => ∃ i : Nat, iv = .int .i64 i ∧ i ≤ n ∧ sv = .string (catN ⟨#[40]⟩ i ⟨#[]⟩) ∧ Hid (Below w.heap.size w wr)) (fun _ iv _ => n - (intOf iv).toNat)
   case atStart => exact ⟨0, rfl, Nat.zero_le _, rfl, xH (trw.qi HB1.out (trw.qg _ _))⟩
   case round =>
    obtain ⟨i, rfl, hi, rfl, HB2⟩ := hrel;have hz : (catN ⟨#[40]⟩ i ⟨#[]⟩).size = 1 * i := by rw [cat_size]; exact Nat.zero_add _
    by_cases hend : i = n
    ·subst hend;obtain ⟨S, hS⟩ : ∃ S, catN ⟨#[40]⟩ i ⟨#[]⟩ = S := ⟨_, rfl⟩;rw [hS] at hz ⊢;have HS := xH hS;have z1 : S.size ≤ 1000 := by omega
     have z2 : (S ++ (⟨#[97]⟩ : ByteArray)).size ≤ 1000 := by rw [ByteArray.size_append]; show S.size + 1 ≤ 1000; omega
     have HZ := xH hz;clear hS hz;go_wp2_with fail
     clear z1 z2
     go_loopw [7, 9] (fun sv iv wz => ∃ j : Nat, iv = .int .i64 j ∧ j ≤ i ∧ sv = .string (catN ⟨#[41]⟩ j (S ++ ⟨#[97]⟩)) ∧ wz = wr) (fun _ iv _ => i - (intOf iv).toNat)
     case atStart => exact ⟨0, rfl, Nat.zero_le _, rfl, rfl⟩
     case round =>
      obtain ⟨j, rfl, hj, rfl, rfl⟩ := hrel;have hz2 : (catN ⟨#[41]⟩ j (S ++ ⟨#[97]⟩)).size = S.size + 1 + j := by rw [cat_size, ByteArray.size_append];show S.size + 1 + 1 * j = _;omega
      have hz := HZ.out;by_cases hend : j = i
      ·subst hend;have hD : catN ⟨#[41]⟩ j (S ++ ⟨#[97]⟩) = deepS ⟨#[40]⟩ j := by rw [← HS.out]; rfl
       rw [hD] at hz2 ⊢;have HP := xH (parsed_any (deepS ⟨#[40]⟩ j) wr (tabP_below HB2.out HT.out) (by omega));clear hz hz2 hD HZ HS;go_wp2_with fail
       refine HP.out.mono ?_;by_cases h40 : 40 < j
       ·rw [HD.out.1 h40];rintro e w3 ⟨hb3, rfl⟩;have HB3 := xH (trw.qi HB2.out hb3);have HG3 := xH (heap_alloc_new w3 (.cells zC.toArray 31));have HT3 := xH (zO w3 (lab 0 0));have HO3 := xH zero_ones;have d40 : decide (40 < (j : Int)) = true := decide_eq_true (by omega);have i40 : (40 : Int) < (j : Int) := by omega
        unfold zC at HG3 HT3;clear hb3 HP HD;dsimp only;go_upto_region 20 with (refine qh rfl rfl _ _ rfl w3.heap.size rfl _ (lab 0 0) HG3.out rfl HO3.out rfl ?_)
        generalize (w3.alloc _).setRow _ _ = w4 at *;have HB4 := xH (trw.qi HB3.out HT3.out.b);clear HG3 HT3 HO3 HB3;go_wp2_with fail
        go_ret
        exact ⟨rfl, HB4.out⟩
       ·obtain ⟨f, hf⟩ := HD.out.2 h40;rw [hf];rintro e w3 ⟨hb3, x, k, rfl, hn3, _⟩;have HB3 := xH (trw.qi HB2.out hb3);have HO3 := xH (qp hn3);have HG3 := xH (heap_alloc_new w3 (.cells zC.toArray 31));have HT3 := xH (zO w3 x);have d40 : decide (40 < (j : Int)) = false := decide_eq_false (by omega);have i40 : ¬ (40 : Int) < (j : Int) := by omega
        unfold zC at HG3 HT3;clear hb3 HP HD hf hn3;dsimp only;go_upto_region 20 with (refine qh rfl rfl _ _ rfl w3.heap.size rfl _ x HG3.out rfl HO3.out rfl ?_)
        generalize (w3.alloc _).setRow _ _ = w4 at *;have HB4 := xH (trw.qi HB3.out HT3.out.b);clear HG3 HT3 HO3 HB3;go_wp2_with fail
        go_ret
        exact ⟨rfl, HB4.out⟩
      ·have hlt : j < i := by omega
       obtain ⟨Q, hQ⟩ : ∃ Q, catN ⟨#[41]⟩ j (S ++ ⟨#[97]⟩) = Q := ⟨_, rfl⟩;have HQ := xH (show catN ⟨#[41]⟩ (j + 1) (S ++ ⟨#[97]⟩) = Q ++ ⟨#[41]⟩ by rw [← hQ]; rfl);rw [hQ] at hz2 ⊢;have z1 : Q.size ≤ 1000 := by omega
       have z2 : (Q ++ (⟨#[41]⟩ : ByteArray)).size ≤ 1000 := by rw [ByteArray.size_append]; show Q.size + 1 ≤ 1000; omega
       clear hz hz2 hQ;go_wp2_with fail
       go_roundw
       case rel => exact ⟨j + 1, by go_num, by omega, by rw [HQ.out], trivial⟩
       case measure => simp [intOf]; omega
    ·have hlt : i < n := by omega
     obtain ⟨Q, hQ⟩ : ∃ Q, catN ⟨#[40]⟩ i ⟨#[]⟩ = Q := ⟨_, rfl⟩;have HQ := xH (show catN ⟨#[40]⟩ (i + 1) ⟨#[]⟩ = Q ++ ⟨#[40]⟩ by rw [← hQ]; rfl);rw [hQ] at hz ⊢;have z1 : Q.size ≤ 1000 := by omega
     have z2 : (Q ++ (⟨#[40]⟩ : ByteArray)).size ≤ 1000 := by rw [ByteArray.size_append]; show Q.size + 1 ≤ 1000; omega
     clear hz hQ;go_wp2_with fail
     go_roundw
     case rel => exact ⟨i + 1, by go_num, by omega, by rw [HQ.out], HB2⟩
     case measure => simp [intOf]; omega
  ·have HD := xH (show (40 < n → textP (deepS ⟨#[40, 63, 58]⟩ n) = .error (11, 120)) ∧ (¬ 40 < n → ∃ f, textP (deepS ⟨#[40, 63, 58]⟩ n) = .ok f) from deep_t (w := 1) deep_1 hn);go_wp2_with fail
   go_loopw [7, 8] (fun sv iv wr => ∃ i : Nat, iv = .int .i64 i ∧ i ≤ n ∧ sv = .string (catN ⟨#[40, 63, 58]⟩ i ⟨#[]⟩) ∧ Hid (Below w.heap.size w wr)) (fun _ iv _ => n - (intOf iv).toNat)
   case atStart => exact ⟨0, rfl, Nat.zero_le _, rfl, xH (trw.qi HB1.out (trw.qg _ _))⟩
   case round =>
    obtain ⟨i, rfl, hi, rfl, HB2⟩ := hrel;have hz : (catN ⟨#[40, 63, 58]⟩ i ⟨#[]⟩).size = 3 * i := by rw [cat_size]; exact Nat.zero_add _
    by_cases hend : i = n
    ·subst hend;obtain ⟨S, hS⟩ : ∃ S, catN ⟨#[40, 63, 58]⟩ i ⟨#[]⟩ = S := ⟨_, rfl⟩;rw [hS] at hz ⊢;have HS := xH hS;have z1 : S.size ≤ 1000 := by omega
     have z2 : (S ++ (⟨#[97]⟩ : ByteArray)).size ≤ 1000 := by rw [ByteArray.size_append]; show S.size + 1 ≤ 1000; omega
     have HZ := xH hz;clear hS hz;go_wp2_with fail
     clear z1 z2
     go_loopw [7, 9] (fun sv iv wz => ∃ j : Nat, iv = .int .i64 j ∧ j ≤ i ∧ sv = .string (catN ⟨#[41]⟩ j (S ++ ⟨#[97]⟩)) ∧ wz = wr) (fun _ iv _ => i - (intOf iv).toNat)
     case atStart => exact ⟨0, rfl, Nat.zero_le _, rfl, rfl⟩
     case round =>
      obtain ⟨j, rfl, hj, rfl, rfl⟩ := hrel;have hz2 : (catN ⟨#[41]⟩ j (S ++ ⟨#[97]⟩)).size = S.size + 1 + j := by rw [cat_size, ByteArray.size_append];show S.size + 1 + 1 * j = _;omega
      have hz := HZ.out;by_cases hend : j = i
      ·subst hend;have hD : catN ⟨#[41]⟩ j (S ++ ⟨#[97]⟩) = deepS ⟨#[40, 63, 58]⟩ j := by rw [← HS.out]; rfl
       rw [hD] at hz2 ⊢;have HP := xH (parsed_any (deepS ⟨#[40, 63, 58]⟩ j) wr (tabP_below HB2.out HT.out) (by omega));clear hz hz2 hD HZ HS;go_wp2_with fail
       refine HP.out.mono ?_;by_cases h40 : 40 < j
       ·rw [HD.out.1 h40];rintro e w3 ⟨hb3, rfl⟩;have HB3 := xH (trw.qi HB2.out hb3);have HG3 := xH (heap_alloc_new w3 (.cells zC.toArray 31));have HT3 := xH (zO w3 (lab 0 0));have HO3 := xH zero_ones;have d40 : decide (40 < (j : Int)) = true := decide_eq_true (by omega);have i40 : (40 : Int) < (j : Int) := by omega
        unfold zC at HG3 HT3;clear hb3 HP HD;dsimp only;go_upto_region 20 with (refine qh rfl rfl _ _ rfl w3.heap.size rfl _ (lab 0 0) HG3.out rfl HO3.out rfl ?_)
        generalize (w3.alloc _).setRow _ _ = w4 at *;have HB4 := xH (trw.qi HB3.out HT3.out.b);clear HG3 HT3 HO3 HB3;go_wp2_with fail
        go_ret
        exact ⟨rfl, HB4.out⟩
       ·obtain ⟨f, hf⟩ := HD.out.2 h40;rw [hf];rintro e w3 ⟨hb3, x, k, rfl, hn3, _⟩;have HB3 := xH (trw.qi HB2.out hb3);have HO3 := xH (qp hn3);have HG3 := xH (heap_alloc_new w3 (.cells zC.toArray 31));have HT3 := xH (zO w3 x);have d40 : decide (40 < (j : Int)) = false := decide_eq_false (by omega);have i40 : ¬ (40 : Int) < (j : Int) := by omega
        unfold zC at HG3 HT3;clear hb3 HP HD hf hn3;dsimp only;go_upto_region 20 with (refine qh rfl rfl _ _ rfl w3.heap.size rfl _ x HG3.out rfl HO3.out rfl ?_)
        generalize (w3.alloc _).setRow _ _ = w4 at *;have HB4 := xH (trw.qi HB3.out HT3.out.b);clear HG3 HT3 HO3 HB3;go_wp2_with fail
        go_ret
        exact ⟨rfl, HB4.out⟩
      ·have hlt : j < i := by omega
       obtain ⟨Q, hQ⟩ : ∃ Q, catN ⟨#[41]⟩ j (S ++ ⟨#[97]⟩) = Q := ⟨_, rfl⟩;have HQ := xH (show catN ⟨#[41]⟩ (j + 1) (S ++ ⟨#[97]⟩) = Q ++ ⟨#[41]⟩ by rw [← hQ]; rfl);rw [hQ] at hz2 ⊢;have z1 : Q.size ≤ 1000 := by omega
       have z2 : (Q ++ (⟨#[41]⟩ : ByteArray)).size ≤ 1000 := by rw [ByteArray.size_append]; show Q.size + 1 ≤ 1000; omega
       clear hz hz2 hQ;go_wp2_with fail
       go_roundw
       case rel => exact ⟨j + 1, by go_num, by omega, by rw [HQ.out], trivial⟩
       case measure => simp [intOf]; omega
    ·have hlt : i < n := by omega
     obtain ⟨Q, hQ⟩ : ∃ Q, catN ⟨#[40, 63, 58]⟩ i ⟨#[]⟩ = Q := ⟨_, rfl⟩;have HQ := xH (show catN ⟨#[40, 63, 58]⟩ (i + 1) ⟨#[]⟩ = Q ++ ⟨#[40, 63, 58]⟩ by rw [← hQ]; rfl);rw [hQ] at hz ⊢;have z1 : Q.size ≤ 1000 := by omega
     have z2 : (Q ++ (⟨#[40, 63, 58]⟩ : ByteArray)).size ≤ 1000 := by rw [ByteArray.size_append]; show Q.size + 3 ≤ 1000; omega
     clear hz hQ;go_wp2_with fail
     go_roundw
     case rel => exact ⟨i + 1, by go_num, by omega, by rw [HQ.out], HB2⟩
     case measure => simp [intOf]; omega
  ·have HD := xH (show (40 < n → textP (deepS ⟨#[40, 63, 61]⟩ n) = .error (11, 120)) ∧ (¬ 40 < n → ∃ f, textP (deepS ⟨#[40, 63, 61]⟩ n) = .ok f) from deep_t (w := 2) deep_2 hn);go_wp2_with fail
   go_loopw [7, 8] (fun sv iv wr => ∃ i : Nat, iv = .int .i64 i ∧ i ≤ n ∧ sv = .string (catN ⟨#[40, 63, 61]⟩ i ⟨#[]⟩) ∧ Hid (Below w.heap.size w wr)) (fun _ iv _ => n - (intOf iv).toNat)
   case atStart => exact ⟨0, rfl, Nat.zero_le _, rfl, xH (trw.qi HB1.out (trw.qg _ _))⟩
   case round =>
    obtain ⟨i, rfl, hi, rfl, HB2⟩ := hrel;have hz : (catN ⟨#[40, 63, 61]⟩ i ⟨#[]⟩).size = 3 * i := by rw [cat_size]; exact Nat.zero_add _
    by_cases hend : i = n
    ·subst hend;obtain ⟨S, hS⟩ : ∃ S, catN ⟨#[40, 63, 61]⟩ i ⟨#[]⟩ = S := ⟨_, rfl⟩;rw [hS] at hz ⊢;have HS := xH hS;have z1 : S.size ≤ 1000 := by omega
     have z2 : (S ++ (⟨#[97]⟩ : ByteArray)).size ≤ 1000 := by rw [ByteArray.size_append]; show S.size + 1 ≤ 1000; omega
     have HZ := xH hz;clear hS hz;go_wp2_with fail
     clear z1 z2
     go_loopw [7, 9] (fun sv iv wz => ∃ j : Nat, iv = .int .i64 j ∧ j ≤ i ∧ sv = .string (catN ⟨#[41]⟩ j (S ++ ⟨#[97]⟩)) ∧ wz = wr) (fun _ iv _ => i - (intOf iv).toNat)
     case atStart => exact ⟨0, rfl, Nat.zero_le _, rfl, rfl⟩
     case round =>
      obtain ⟨j, rfl, hj, rfl, rfl⟩ := hrel;have hz2 : (catN ⟨#[41]⟩ j (S ++ ⟨#[97]⟩)).size = S.size + 1 + j := by rw [cat_size, ByteArray.size_append];show S.size + 1 + 1 * j = _;omega
      have hz := HZ.out;by_cases hend : j = i
      ·subst hend;have hD : catN ⟨#[41]⟩ j (S ++ ⟨#[97]⟩) = deepS ⟨#[40, 63, 61]⟩ j := by rw [← HS.out]; rfl
       rw [hD] at hz2 ⊢;have HP := xH (parsed_any (deepS ⟨#[40, 63, 61]⟩ j) wr (tabP_below HB2.out HT.out) (by omega));clear hz hz2 hD HZ HS;go_wp2_with fail
       refine HP.out.mono ?_;by_cases h40 : 40 < j
       ·rw [HD.out.1 h40];rintro e w3 ⟨hb3, rfl⟩;have HB3 := xH (trw.qi HB2.out hb3);have HG3 := xH (heap_alloc_new w3 (.cells zC.toArray 31));have HT3 := xH (zO w3 (lab 0 0));have HO3 := xH zero_ones;have d40 : decide (40 < (j : Int)) = true := decide_eq_true (by omega);have i40 : (40 : Int) < (j : Int) := by omega
        unfold zC at HG3 HT3;clear hb3 HP HD;dsimp only;go_upto_region 20 with (refine qh rfl rfl _ _ rfl w3.heap.size rfl _ (lab 0 0) HG3.out rfl HO3.out rfl ?_)
        generalize (w3.alloc _).setRow _ _ = w4 at *;have HB4 := xH (trw.qi HB3.out HT3.out.b);clear HG3 HT3 HO3 HB3;go_wp2_with fail
        go_ret
        exact ⟨rfl, HB4.out⟩
       ·obtain ⟨f, hf⟩ := HD.out.2 h40;rw [hf];rintro e w3 ⟨hb3, x, k, rfl, hn3, _⟩;have HB3 := xH (trw.qi HB2.out hb3);have HO3 := xH (qp hn3);have HG3 := xH (heap_alloc_new w3 (.cells zC.toArray 31));have HT3 := xH (zO w3 x);have d40 : decide (40 < (j : Int)) = false := decide_eq_false (by omega);have i40 : ¬ (40 : Int) < (j : Int) := by omega
        unfold zC at HG3 HT3;clear hb3 HP HD hf hn3;dsimp only;go_upto_region 20 with (refine qh rfl rfl _ _ rfl w3.heap.size rfl _ x HG3.out rfl HO3.out rfl ?_)
        generalize (w3.alloc _).setRow _ _ = w4 at *;have HB4 := xH (trw.qi HB3.out HT3.out.b);clear HG3 HT3 HO3 HB3;go_wp2_with fail
        go_ret
        exact ⟨rfl, HB4.out⟩
      ·have hlt : j < i := by omega
       obtain ⟨Q, hQ⟩ : ∃ Q, catN ⟨#[41]⟩ j (S ++ ⟨#[97]⟩) = Q := ⟨_, rfl⟩;have HQ := xH (show catN ⟨#[41]⟩ (j + 1) (S ++ ⟨#[97]⟩) = Q ++ ⟨#[41]⟩ by rw [← hQ]; rfl);rw [hQ] at hz2 ⊢;have z1 : Q.size ≤ 1000 := by omega
       have z2 : (Q ++ (⟨#[41]⟩ : ByteArray)).size ≤ 1000 := by rw [ByteArray.size_append]; show Q.size + 1 ≤ 1000; omega
       clear hz hz2 hQ;go_wp2_with fail
       go_roundw
       case rel => exact ⟨j + 1, by go_num, by omega, by rw [HQ.out], trivial⟩
       case measure => simp [intOf]; omega
    ·have hlt : i < n := by omega
     obtain ⟨Q, hQ⟩ : ∃ Q, catN ⟨#[40, 63, 61]⟩ i ⟨#[]⟩ = Q := ⟨_, rfl⟩;have HQ := xH (show catN ⟨#[40, 63, 61]⟩ (i + 1) ⟨#[]⟩ = Q ++ ⟨#[40, 63, 61]⟩ by rw [← hQ]; rfl);rw [hQ] at hz ⊢;have z1 : Q.size ≤ 1000 := by omega
     have z2 : (Q ++ (⟨#[40, 63, 61]⟩ : ByteArray)).size ≤ 1000 := by rw [ByteArray.size_append]; show Q.size + 3 ≤ 1000; omega
     clear hz hQ;go_wp2_with fail
     go_roundw
     case rel => exact ⟨i + 1, by go_num, by omega, by rw [HQ.out], HB2⟩
     case measure => simp [intOf]; omega
  ·have HD := xH (show (40 < n → textP (deepS ⟨#[40, 63, 62]⟩ n) = .error (11, 120)) ∧ (¬ 40 < n → ∃ f, textP (deepS ⟨#[40, 63, 62]⟩ n) = .ok f) from deep_t (w := 3) deep_3 hn);go_wp2_with fail
   go_loopw [7, 8] (fun sv iv wr => ∃ i : Nat, iv = .int .i64 i ∧ i ≤ n ∧ sv = .string (catN ⟨#[40, 63, 62]⟩ i ⟨#[]⟩) ∧ Hid (Below w.heap.size w wr)) (fun _ iv _ => n - (intOf iv).toNat)
   case atStart => exact ⟨0, rfl, Nat.zero_le _, rfl, xH (trw.qi HB1.out (trw.qg _ _))⟩
   case round =>
    obtain ⟨i, rfl, hi, rfl, HB2⟩ := hrel;have hz : (catN ⟨#[40, 63, 62]⟩ i ⟨#[]⟩).size = 3 * i := by rw [cat_size]; exact Nat.zero_add _
    by_cases hend : i = n
    ·subst hend;obtain ⟨S, hS⟩ : ∃ S, catN ⟨#[40, 63, 62]⟩ i ⟨#[]⟩ = S := ⟨_, rfl⟩;rw [hS] at hz ⊢;have HS := xH hS;have z1 : S.size ≤ 1000 := by omega
     have z2 : (S ++ (⟨#[97]⟩ : ByteArray)).size ≤ 1000 := by rw [ByteArray.size_append]; show S.size + 1 ≤ 1000; omega
     have HZ := xH hz;clear hS hz;go_wp2_with fail
     clear z1 z2
     go_loopw [7, 9] (fun sv iv wz => ∃ j : Nat, iv = .int .i64 j ∧ j ≤ i ∧ sv = .string (catN ⟨#[41]⟩ j (S ++ ⟨#[97]⟩)) ∧ wz = wr) (fun _ iv _ => i - (intOf iv).toNat)
     case atStart => exact ⟨0, rfl, Nat.zero_le _, rfl, rfl⟩
     case round =>
      obtain ⟨j, rfl, hj, rfl, rfl⟩ := hrel;have hz2 : (catN ⟨#[41]⟩ j (S ++ ⟨#[97]⟩)).size = S.size + 1 + j := by rw [cat_size, ByteArray.size_append];show S.size + 1 + 1 * j = _;omega
      have hz := HZ.out;by_cases hend : j = i
      ·subst hend;have hD : catN ⟨#[41]⟩ j (S ++ ⟨#[97]⟩) = deepS ⟨#[40, 63, 62]⟩ j := by rw [← HS.out]; rfl
       rw [hD] at hz2 ⊢;have HP := xH (parsed_any (deepS ⟨#[40, 63, 62]⟩ j) wr (tabP_below HB2.out HT.out) (by omega));clear hz hz2 hD HZ HS;go_wp2_with fail
       refine HP.out.mono ?_;by_cases h40 : 40 < j
       ·rw [HD.out.1 h40];rintro e w3 ⟨hb3, rfl⟩;have HB3 := xH (trw.qi HB2.out hb3);have HG3 := xH (heap_alloc_new w3 (.cells zC.toArray 31));have HT3 := xH (zO w3 (lab 0 0));have HO3 := xH zero_ones;have d40 : decide (40 < (j : Int)) = true := decide_eq_true (by omega);have i40 : (40 : Int) < (j : Int) := by omega
        unfold zC at HG3 HT3;clear hb3 HP HD;dsimp only;go_upto_region 20 with (refine qh rfl rfl _ _ rfl w3.heap.size rfl _ (lab 0 0) HG3.out rfl HO3.out rfl ?_)
        generalize (w3.alloc _).setRow _ _ = w4 at *;have HB4 := xH (trw.qi HB3.out HT3.out.b);clear HG3 HT3 HO3 HB3;go_wp2_with fail
        go_ret
        exact ⟨rfl, HB4.out⟩
       ·obtain ⟨f, hf⟩ := HD.out.2 h40;rw [hf];rintro e w3 ⟨hb3, x, k, rfl, hn3, _⟩;have HB3 := xH (trw.qi HB2.out hb3);have HO3 := xH (qp hn3);have HG3 := xH (heap_alloc_new w3 (.cells zC.toArray 31));have HT3 := xH (zO w3 x);have d40 : decide (40 < (j : Int)) = false := decide_eq_false (by omega);have i40 : ¬ (40 : Int) < (j : Int) := by omega
        unfold zC at HG3 HT3;clear hb3 HP HD hf hn3;dsimp only;go_upto_region 20 with (refine qh rfl rfl _ _ rfl w3.heap.size rfl _ x HG3.out rfl HO3.out rfl ?_)
        generalize (w3.alloc _).setRow _ _ = w4 at *;have HB4 := xH (trw.qi HB3.out HT3.out.b);clear HG3 HT3 HO3 HB3;go_wp2_with fail
        go_ret
        exact ⟨rfl, HB4.out⟩
      ·have hlt : j < i := by omega
       obtain ⟨Q, hQ⟩ : ∃ Q, catN ⟨#[41]⟩ j (S ++ ⟨#[97]⟩) = Q := ⟨_, rfl⟩;have HQ := xH (show catN ⟨#[41]⟩ (j + 1) (S ++ ⟨#[97]⟩) = Q ++ ⟨#[41]⟩ by rw [← hQ]; rfl);rw [hQ] at hz2 ⊢;have z1 : Q.size ≤ 1000 := by omega
       have z2 : (Q ++ (⟨#[41]⟩ : ByteArray)).size ≤ 1000 := by rw [ByteArray.size_append]; show Q.size + 1 ≤ 1000; omega
       clear hz hz2 hQ;go_wp2_with fail
       go_roundw
       case rel => exact ⟨j + 1, by go_num, by omega, by rw [HQ.out], trivial⟩
       case measure => simp [intOf]; omega
    ·have hlt : i < n := by omega
     obtain ⟨Q, hQ⟩ : ∃ Q, catN ⟨#[40, 63, 62]⟩ i ⟨#[]⟩ = Q := ⟨_, rfl⟩;have HQ := xH (show catN ⟨#[40, 63, 62]⟩ (i + 1) ⟨#[]⟩ = Q ++ ⟨#[40, 63, 62]⟩ by rw [← hQ]; rfl);rw [hQ] at hz ⊢;have z1 : Q.size ≤ 1000 := by omega
     have z2 : (Q ++ (⟨#[40, 63, 62]⟩ : ByteArray)).size ≤ 1000 := by rw [ByteArray.size_append]; show Q.size + 3 ≤ 1000; omega
     clear hz hQ;go_wp2_with fail
     go_roundw
     case rel => exact ⟨i + 1, by go_num, by omega, by rw [HQ.out], HB2⟩
     case measure => simp [intOf]; omega
  ·have HD := xH (show (40 < n → textP (deepS ⟨#[40, 63, 124]⟩ n) = .error (11, 120)) ∧ (¬ 40 < n → ∃ f, textP (deepS ⟨#[40, 63, 124]⟩ n) = .ok f) from deep_t (w := 4) deep_4 hn);go_wp2_with fail
   go_loopw [7, 8] (fun sv iv wr => ∃ i : Nat, iv = .int .i64 i ∧ i ≤ n ∧ sv = .string (catN ⟨#[40, 63, 124]⟩ i ⟨#[]⟩) ∧ Hid (Below w.heap.size w wr)) (fun _ iv _ => n - (intOf iv).toNat)
   case atStart => exact ⟨0, rfl, Nat.zero_le _, rfl, xH (trw.qi HB1.out (trw.qg _ _))⟩
   case round =>
    obtain ⟨i, rfl, hi, rfl, HB2⟩ := hrel;have hz : (catN ⟨#[40, 63, 124]⟩ i ⟨#[]⟩).size = 3 * i := by rw [cat_size]; exact Nat.zero_add _
    by_cases hend : i = n
    ·subst hend;obtain ⟨S, hS⟩ : ∃ S, catN ⟨#[40, 63, 124]⟩ i ⟨#[]⟩ = S := ⟨_, rfl⟩;rw [hS] at hz ⊢;have HS := xH hS;have z1 : S.size ≤ 1000 := by omega
     have z2 : (S ++ (⟨#[97]⟩ : ByteArray)).size ≤ 1000 := by rw [ByteArray.size_append]; show S.size + 1 ≤ 1000; omega
     have HZ := xH hz;clear hS hz;go_wp2_with fail
     clear z1 z2
     go_loopw [7, 9] (fun sv iv wz => ∃ j : Nat, iv = .int .i64 j ∧ j ≤ i ∧ sv = .string (catN ⟨#[41]⟩ j (S ++ ⟨#[97]⟩)) ∧ wz = wr) (fun _ iv _ => i - (intOf iv).toNat)
     case atStart => exact ⟨0, rfl, Nat.zero_le _, rfl, rfl⟩
     case round =>
      obtain ⟨j, rfl, hj, rfl, rfl⟩ := hrel;have hz2 : (catN ⟨#[41]⟩ j (S ++ ⟨#[97]⟩)).size = S.size + 1 + j := by rw [cat_size, ByteArray.size_append];show S.size + 1 + 1 * j = _;omega
      have hz := HZ.out;by_cases hend : j = i
      ·subst hend;have hD : catN ⟨#[41]⟩ j (S ++ ⟨#[97]⟩) = deepS ⟨#[40, 63, 124]⟩ j := by rw [← HS.out]; rfl
       rw [hD] at hz2 ⊢;have HP := xH (parsed_any (deepS ⟨#[40, 63, 124]⟩ j) wr (tabP_below HB2.out HT.out) (by omega));clear hz hz2 hD HZ HS;go_wp2_with fail
       refine HP.out.mono ?_;by_cases h40 : 40 < j
       ·rw [HD.out.1 h40];rintro e w3 ⟨hb3, rfl⟩;have HB3 := xH (trw.qi HB2.out hb3);have HG3 := xH (heap_alloc_new w3 (.cells zC.toArray 31));have HT3 := xH (zO w3 (lab 0 0));have HO3 := xH zero_ones;have d40 : decide (40 < (j : Int)) = true := decide_eq_true (by omega);have i40 : (40 : Int) < (j : Int) := by omega
        unfold zC at HG3 HT3;clear hb3 HP HD;dsimp only;go_upto_region 20 with (refine qh rfl rfl _ _ rfl w3.heap.size rfl _ (lab 0 0) HG3.out rfl HO3.out rfl ?_)
        generalize (w3.alloc _).setRow _ _ = w4 at *;have HB4 := xH (trw.qi HB3.out HT3.out.b);clear HG3 HT3 HO3 HB3;go_wp2_with fail
        go_ret
        exact ⟨rfl, HB4.out⟩
       ·obtain ⟨f, hf⟩ := HD.out.2 h40;rw [hf];rintro e w3 ⟨hb3, x, k, rfl, hn3, _⟩;have HB3 := xH (trw.qi HB2.out hb3);have HO3 := xH (qp hn3);have HG3 := xH (heap_alloc_new w3 (.cells zC.toArray 31));have HT3 := xH (zO w3 x);have d40 : decide (40 < (j : Int)) = false := decide_eq_false (by omega);have i40 : ¬ (40 : Int) < (j : Int) := by omega
        unfold zC at HG3 HT3;clear hb3 HP HD hf hn3;dsimp only;go_upto_region 20 with (refine qh rfl rfl _ _ rfl w3.heap.size rfl _ x HG3.out rfl HO3.out rfl ?_)
        generalize (w3.alloc _).setRow _ _ = w4 at *;have HB4 := xH (trw.qi HB3.out HT3.out.b);clear HG3 HT3 HO3 HB3;go_wp2_with fail
        go_ret
        exact ⟨rfl, HB4.out⟩
      ·have hlt : j < i := by omega
       obtain ⟨Q, hQ⟩ : ∃ Q, catN ⟨#[41]⟩ j (S ++ ⟨#[97]⟩) = Q := ⟨_, rfl⟩;have HQ := xH (show catN ⟨#[41]⟩ (j + 1) (S ++ ⟨#[97]⟩) = Q ++ ⟨#[41]⟩ by rw [← hQ]; rfl);rw [hQ] at hz2 ⊢;have z1 : Q.size ≤ 1000 := by omega
       have z2 : (Q ++ (⟨#[41]⟩ : ByteArray)).size ≤ 1000 := by rw [ByteArray.size_append]; show Q.size + 1 ≤ 1000; omega
       clear hz hz2 hQ;go_wp2_with fail
       go_roundw
       case rel => exact ⟨j + 1, by go_num, by omega, by rw [HQ.out], trivial⟩
       case measure => simp [intOf]; omega
    ·have hlt : i < n := by omega
     obtain ⟨Q, hQ⟩ : ∃ Q, catN ⟨#[40, 63, 124]⟩ i ⟨#[]⟩ = Q := ⟨_, rfl⟩;have HQ := xH (show catN ⟨#[40, 63, 124]⟩ (i + 1) ⟨#[]⟩ = Q ++ ⟨#[40, 63, 124]⟩ by rw [← hQ]; rfl);rw [hQ] at hz ⊢;have z1 : Q.size ≤ 1000 := by omega
     have z2 : (Q ++ (⟨#[40, 63, 124]⟩ : ByteArray)).size ≤ 1000 := by rw [ByteArray.size_append]; show Q.size + 3 ≤ 1000; omega
     clear hz hQ;go_wp2_with fail
     go_roundw
     case rel => exact ⟨i + 1, by go_num, by omega, by rw [HQ.out], HB2⟩
     case measure => simp [intOf]; omega
end Go.Proofs.YtnpcombfgdbhkaaDoor.psl
end
