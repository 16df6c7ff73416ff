/- T -/
import Derived.BigQuiet
import Derived.Carry
import Derived.Deep.CutBlock
import Derived.Deep.DeepCutAuto
import Derived.Deep.DeepHandedRow
import Derived.Deep.QuietTactic
import Derived.Deep.RegionWith
import Derived.IntWalk
import Derived.Laws.BytesArg
import Derived.Lib.Hide
import Derived.Lib.LaidTab
import Derived.OpenShut
import Derived.Outline
import Derived.ProofKit
import Derived.SizedLaws
import Derived.Stop.LaidErr
import Derived.Test.YtnpcombfgdbhkaaRows
import Derived.WalkKit
import Derived.Test.YtnpcombfgdbhkaaBGu01
set_option maxHeartbeats 16000000
set_option maxRecDepth 1000000
namespace Go.Proofs.Ytnpcombfgdbhkaa
section
namespace gpw
open sq
open Go.Sort Go Go.RowKit Go.Maps setp setw tkp trp trw rpp gpp sq prw
open rpw (fC jP FSub jQ jd own_below qp vW qh qA)
open utfw (Sl at_ strOf Own own_nil own_sl zJ NilOk wpList_append_sl)
open tkw (sg)
open rsw (flatP FlatB zH)
open rtp (rlexP)
open rsp (resP zU andI)
open gpf (fg tks capsR)
def bl : Nat → List Int
 | 0 => []
 | n + 1 => bl n ++ [40, 97, 41]
theorem bl_len : ∀ n, (bl n).length = 3 * n
 | 0 => rfl
 | n + 1 => by simp only [bl, List.length_append, bl_len n, List.length_cons, List.length_nil]; omega
theorem bl_byte : ∀ n, ∀ x ∈ bl n, 0 ≤ x ∧ x ≤ 255
 | 0, x, h => by cases h
 | n + 1, x, h => by
  rw [bl, List.mem_append] at h;rcases h with h | h
  ·exact bl_byte n x h
  ·simp only [List.mem_cons, List.not_mem_nil, or_false] at h;rcases h with rfl | rfl | rfl <;> decide
theorem bl_get : ∀ n i, i < 3 * n → (bl n).getD i 0 = fg n i
 | 0, i, h => by omega
 | n + 1, i, h => by
  rw [bl, List.getD_eq_getElem?_getD];by_cases hi : i < 3 * n
  ·rw [List.getElem?_append_left (by rw [bl_len]; exact hi), ← List.getD_eq_getElem?_getD, bl_get n i hi];unfold fg;rw [if_pos hi, if_pos h]
  ·rw [List.getElem?_append_right (by rw [bl_len]; omega), bl_len];unfold fg;rw [if_pos h];obtain e | e | e : i = 3 * n ∨ i = 3 * n + 1 ∨ i = 3 * n + 2 := by omega
   ·subst e;rw [Nat.sub_self, if_pos (by omega)];rfl
   ·subst e;rw [show 3 * n + 1 - 3 * n = 1 by omega, if_neg (by omega), if_pos (by omega)];rfl
   ·subst e;rw [show 3 * n + 2 - 3 * n = 2 by omega, if_neg (by omega), if_neg (by omega)];rfl
theorem sg_bl (n : Nat) : sg (strOf (3 * n) (at_ (bl n))) = fg n := funext fun i => by
 have hz : (strOf (3 * n) (at_ (bl n))).data.toList.length = 3 * n := by unfold strOf;simp [strOfNums]
 by_cases h : i < 3 * n
 ·have e : (strOf (3 * n) (at_ (bl n))).data.toList[i]? = some (UInt8.ofNat (at_ (bl n) i).toNat) := by unfold strOf;simp [strOfNums, h]
  unfold sg;rw [List.getD_eq_getElem?_getD, e];have hv : at_ (bl n) i = fg n i := bl_get n i h;rw [hv];unfold fg;rw [if_pos h];split
  ·rfl
  ·split <;> rfl
 ·unfold sg;rw [List.getD_eq_getElem?_getD, List.getElem?_eq_none (by omega)];unfold fg;rw [if_neg h];rfl
def fullT (n : Nat) : F := oneF 12 (capsR (decide (andI 0 32 ≠ 0)) (if andI 0 32 ≠ 0 then 1114111 else 255) (andI 0 23) 0 n)
theorem flat_bl {n : Nat} (hn : n ≤ 200) : flatP (sg (strOf (3 * n) (at_ (bl n)))) (3 * n) 0 = some (fullT n) := by
 rw [sg_bl];unfold flatP;have hl : rlexP (fg n) (3 * n) 0 = .ok (tks 0 n) := by rw [ext.rl0 (by omega)];have := gpf.lex_n (n := n) n 0 (3 * n + 1) [] (Nat.zero_add n) (by omega);rw [List.nil_append] at this;exact this
 rw [hl];simp only;rw [gpf.parse_n];simp only;obtain ⟨x, k, h⟩ := ext.one_F 12 (gpf.capsX 0 n);rw [h];show some (resP (x, k) 0) = _;rw [gpf.res_n n x k h];rfl
theorem full_num {n : Nat} {y : Lab} {j : F} (h : strip (F.one y j) = fullT n) : (n ≤ 60 → (qH (y, j)).1.1 = 0 ∧ (qH (y, j)).2.2.1 = (n : Int)) ∧ (60 < n → (qH (y, j)).1 = (12, 180)) := by have h1 := gpf.num_n n _ _ _ _ _ h.symm;have hs := numN_strip y j (0, []);unfold qH at h1 ⊢;simp only [hs] at h1;exact h1
theorem full_law (n : Int) (w : World) (h0 : -9223372036854775808 ≤ n) (h1 : n ≤ 9223372036854775807) : Calls Try.prog 5 #[.int .i64 n] w (BoolB true w) := by
 by_cases hlo : n < 0
 ·go_enter Try.func5, Try.ntmps5;go_wp2_with fail
  refine (awake_any w).mono ?_;rintro e w1 ⟨rfl, hb1⟩;go_wp2_with fail
  go_ret
  exact ⟨rfl, hb1⟩
 by_cases hhi : 200 < n
 ·go_enter Try.func5, Try.ntmps5;go_wp2_with fail
  refine (awake_any w).mono ?_;rintro e w1 ⟨rfl, hb1⟩;go_wp2_with fail
  go_ret
  exact ⟨rfl, hb1⟩
 obtain ⟨m, rfl⟩ : ∃ m : Nat, n = (m : Int) := ⟨n.toNat, by omega⟩;have hm : m ≤ 200 := by omega
 clear h0 h1;go_enter Try.func5, Try.ntmps5;go_wp2_with fail
 refine (awake_any w).mono ?_;rintro e w1 ⟨rfl, hb1⟩;have HB1 := xH hb1;obtain ⟨B, hB⟩ : ∃ B, w1.heap.size = B := ⟨_, rfl⟩;have HBW := xH (show w.heap.size ≤ B by rw [← hB]; exact hb1.size);have HBS := xH (show B ≤ w1.heap.size by rw [hB]; exact xL _);clear hb1 hB;go_wp2_with fail
 go_loopw [4, 5] (fun pv iv wr => ∃ (i : Nat) (v : Value), iv = .int .i64 i ∧ v = pv ∧ i ≤ m ∧ Hid (Own wr B v (bl i)) ∧ Hid (Below w.heap.size w wr) ∧ Hid (B ≤ wr.heap.size)) (fun _ iv _ => m - (intOf iv).toNat)
 case atStart => exact ⟨0, _, rfl, rfl, Nat.zero_le _, xH (own_nil _ _), HB1, HBS⟩
 case round =>
  obtain ⟨i, v, rfl, rfl, hi, HO, HB, HZ⟩ := hrel;by_cases hlt : i < m
  ·have hltI : (i : Int) < (m : Int) := by omega
   have HSL := xH (sl_lit wr 5 (0, 0) [40, 97, 41] (by decide) (by decide));have HO2 := xH (utfw.own_below HO.out (trw.qg wr (.cells (([40, 97, 41] : List Int).map (Value.int .u8)).toArray 5)));have HB2 := xH (trw.qi HB.out (trw.qg wr (.cells (([40, 97, 41] : List Int).map (Value.int .u8)).toArray 5)));have HZ2 := xH (Nat.le_trans HZ.out (trw.qg wr (.cells (([40, 97, 41] : List Int).map (Value.int .u8)).toArray 5)).size);have HLN := xH (show (bl i).length + 3 ≤ 140737488355328 by rw [bl_len]; omega);clear HO HB HZ;go_wp2_with (at_builtin; refine wpList_append_sl rfl _ _ rfl B v (bl i) rfl HO2.out _ 3 (at_ [40, 97, 41]) rfl HSL.out (Or.inr ⟨_, _, _, rfl⟩) HLN.out HZ2.out ?_; intro v3 w3 h3 hb3; have HO3 := xH h3; have HB3 := xH (hb3 _ _ HB2.out HBW.out); have HZ3 := xH (Nat.le_trans HZ2.out (hb3 _ _ (Below.refl B _) (xL B)).size); clear h3 hb3)
   go_roundw
   case rel => exact ⟨i + 1, v3, by go_num, rfl, by omega, HO3, HB3, HZ3⟩
   case measure => simp [intOf]; omega
  ·obtain rfl : i = m := by omega
   have hltI : ¬ (i : Int) < (i : Int) := by omega
   have HF := xH (zH v (bl i).length (at_ (bl i)) 0 wr (own_sl HO.out (bl_byte i) (by rw [bl_len]; omega)));obtain ⟨a, c, rfl⟩ := utfw.zJ HO.out;rw [bl_len, flat_bl hm] at HF;rw [bl_len];clear HO HZ;go_wp2_with fail
   refine HF.out.mono ?_;rintro e w3 ⟨hb3, y, j, rfl, hn3, hs3⟩;have HN := xH (fun w4 (h : NdAt w4 (y, j)) => zV (flat_bl hm) hs3 w4 h);have HNU := xH (full_num hs3);have HB3 := xH (trw.qi HB.out hb3);have HND := xH hn3;have HO3 := xH (qp hn3);have HG3 := xH (heap_alloc_new w3 (.cells zC.toArray 27));have HS3 := xH (zO w3 y);unfold zC at HG3 HS3;clear hb3 hn3 hs3 HF HB;dsimp only;go_upto_region 12 with (refine qh rfl rfl _ _ rfl w3.heap.size rfl _ y HG3.out rfl HO3.out rfl ?_)
   generalize (w3.alloc _).setRow _ _ = w4 at *;have HB4 := xH (trw.qi HB3.out HS3.out.b);have HN4 := xH (trw.vO HS3.out.b HND.out);have HC4 := xH HS3.out.c;clear HB3 HG3 HND HO3 HS3;generalize w3.heap.size = V3 at *;go_wp2_with (refine jv rfl _ rfl V3 0 rfl y HC4.out ?_)
   refine (HN.out w4 HN4.out).mono ?_;by_cases h60 : 60 < i
   ·have hI : (60 : Int) < (i : Int) := by omega
    have h12 := HNU.out.2 h60;rintro e w5 ⟨hb5, ⟨h0, rfl⟩ | ⟨h0, _⟩⟩
    ·rw [h12];have HB5 := xH (trw.qi HB4.out hb5);have HG5 := xH (heap_alloc_new w5 (.cells zC.toArray 27));have HS5 := xH (zO w5 (lab 0 0));have HO5 := xH (show ∀ u ∈ ndC (lab 0 0), u.oneCell' = true from fun u hu => by simp only [ndC, lab, nil3, List.mem_cons, List.not_mem_nil, or_false] at hu;rcases hu with rfl | rfl | rfl | rfl | rfl | rfl | rfl | rfl | rfl | rfl | rfl | rfl <;> rfl)
     unfold zC at HG5 HS5;clear hb5 h0 HN HNU HN4 HC4 HB4 h12;dsimp only;go_upto_region 13 with (refine qh rfl rfl _ _ rfl w5.heap.size rfl _ (lab 0 0) HG5.out rfl HO5.out rfl ?_)
     generalize (w5.alloc _).setRow _ _ = w6 at *;have HB6 := xH (trw.qi HB5.out HS5.out.b);clear HG5 HS5 HO5 HB5;go_wp2_with fail
     go_ret
     exact ⟨rfl, HB6.out⟩
    ·rw [h12] at h0;exact absurd h0 (by decide)
   ·have hI : ¬ (60 : Int) < (i : Int) := by omega
    have h12 := HNU.out.1 (by omega);rintro e w5 ⟨hb5, ⟨h0, _⟩ | ⟨h0, y5, j5, v5, rfl, hn5, _, hr5, _⟩⟩
    ·exact absurd h12.1 h0
    rw [h12.2];have HB5 := xH (trw.qi HB4.out hb5);have HG5 := xH (heap_alloc_new w5 (.cells zC.toArray 27));have HS5 := xH (zO w5 y5);have HO5 := xH (qp (ndI_at hn5));obtain ⟨sa, sc, rfl⟩ := row_slice hr5;generalize (qH (y, j)).2.2.2.length = nl at *;unfold zC at HG5 HS5;clear hb5 h0 hn5 hr5 HN HNU HN4 HC4 HB4 h12;dsimp only;go_upto_region 13 with (refine qh rfl rfl _ _ rfl w5.heap.size rfl _ y5 HG5.out rfl HO5.out rfl ?_)
    generalize (w5.alloc _).setRow _ _ = w6 at *;have HB6 := xH (trw.qi HB5.out HS5.out.b);have hii : ((i : Int) == (i : Int)) = true := by simp
    clear HG5 HS5 HO5 HB5;go_wp2_with fail
    go_ret
    exact ⟨rfl, HB6.out⟩
end gpw
end
section
namespace gpr
open sq
open Go Go.RowKit Go.ChangeShapes Go.WideShapes Go.ChangeAt utfp utfw
theorem own : ownKnob Try.prog.godebug = none := by kernel_rfl
theorem wf_int {n : Int} (h : (Lit.int .i64 n).wf = true) : -9223372036854775808 ≤ n ∧ n ≤ 9223372036854775807 := by
 have h2 : IntKind.i64.min ≤ n ∧ n ≤ IntKind.i64.max := by simpa [Lit.wf] using h
 rw [show IntKind.i64.min = -9223372036854775808 by decide, show IntKind.i64.max = 9223372036854775807 by decide] at h2;exact h2
end gpr
end
end Go.Proofs.Ytnpcombfgdbhkaa
