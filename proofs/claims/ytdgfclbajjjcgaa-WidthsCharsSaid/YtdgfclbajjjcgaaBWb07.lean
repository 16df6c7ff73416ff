/- T -/
import Derived.BigQuiet
import Derived.Deep.QuietTactic
import Derived.IntWalk
import Derived.Maps.AppendAt
import Derived.Test.YtdgfclbajjjcgaaBWb06
set_option maxHeartbeats 16000000
set_option maxRecDepth 1000000
namespace Go.Proofs.Ytdgfclbajjjcgaa
section
namespace ucdw
open sq
open Go Go.RowKit bulk ucdp
theorem infoRow : (Try.prog.info? 173).map (fun i => (i.zero, i.size, i.bytes)) = some (some (.agg #[.int .i64 0, .int .i64 0, .string ⟨#[]⟩, .string ⟨#[]⟩, .int .i64 0]), 5, 56) := by kernel_rfl
theorem refCs_len (l : List (Int × Int × Nat × Nat × Int)) : (refCs l).length = l.length * 5 := by
 induction l with
 | nil => rfl
 | cons r l ih =>
  unfold refCs at ih ⊢;rw [List.flatMap_cons, List.length_append, ih];simp [refC]; omega
theorem refCs_one {l : List (Int × Int × Nat × Nat × Int)} {u : Value} (h : u ∈ refCs l) : u.oneCell' = true := by unfold refCs at h;obtain ⟨r, _, hr⟩ := List.mem_flatMap.1 h;simp only [refC, List.mem_cons, dM, or_false] at hr;rcases hr with rfl | rfl | rfl | rfl | rfl <;> rfl
def OwnR (w : World) (base : Nat) (v : Value) (D : List (Int × Int × Nat × Nat × Int)) : Prop := w.ownsRow base 173 5 v D.length (refCs D)
theorem qm (w : World) (base : Nat) : OwnR w base (.slice none 0 0) [] := World.ownsRow_nil w base _ 5
theorem refCs_app (l l' : List (Int × Int × Nat × Nat × Int)) : refCs (l ++ l') = refCs l ++ refCs l' := by simp [refCs]
theorem wpList_append_r {ops : Array Oper} {rest : List Oper} {o : Oper} {a : Act} {w : World} {Q : Exit → Act → World → Prop} (hgd : o.guard = none) (s x : Operand)
 (ho : o.op = .call { callee := .builtin .append, args := #[s, x], argTypes := #[170, 170] }) (base : Nat) (v : Value) (D N : List (Int × Int × Nat × Nat × Int)) (hs : a.eval s = v) (hown : OwnR w base v D)
 (B n : Nat) (hn : n = N.length) (hx : a.eval x = .slice (some ⟨B, 0, none⟩) n n) (hB : B = w.heap.size) (hlen : D.length ≤ 4000) (hlen2 : N.length ≤ 4000) (hbase : base ≤ w.heap.size)
 (h : ∀ v' w', OwnR w' base v' (D ++ N) → (∀ B w1, Below B w1 w → B ≤ base → Below B w1 w') → wpList Try.prog ops Q rest (a.put o.dst v') w') :
 wpList Try.prog ops Q (o :: rest) a (w.alloc (.cells (refCs N).toArray 173)) := by
 subst hB;subst hn;obtain ⟨i0, hi, hz0, hz1, hz2⟩ := info_parts infoRow;refine wpList_append_own _ hgd s x _ ho base 173 i0 (.agg #[.int .i64 0, .int .i64 0, .string ⟨#[]⟩, .string ⟨#[]⟩, .int .i64 0]) 5 56 Try.underlying170 hi hz0 hz1 hz2 rfl (by decide) v _ _ hs (World.ownsRow.alloc hown _) ⟨w.heap.size, 0, none⟩ N.length N.length (refCs N) hx (refCs_len N) ?_ (fun u hu => refCs_one hu) (by unfold maxLen; omega) (by omega) (by rw [World.size_alloc]; omega) ?_
 ·intro j u hj;have hplain : (⟨w.heap.size, 0, none⟩ : Addr).add j = ⟨w.heap.size, 0 + j, none⟩ := by unfold Addr.add; split <;> simp_all
  rw [hplain, World.cell?_alloc_new];simpa using hj
 ·intro v' w' hown' hgr _;refine h v' w' ?_ (fun B w1 hb hB => (hb.alloc (by have := hb.size; omega) _).grown hgr (by rw [World.size_alloc]; omega) (fun k hk => ?_))
  ·unfold OwnR;rw [refCs_app];simpa using hown'
  ·have := (World.ownsRow.lt hown) k hk;omega
def TabB (w : World) (e : Ending) (w' : World) : Prop := ∃ v, e = .returned v ∧ OwnR w' w.heap.size v rows ∧ Below w.heap.size w w'
theorem table_any (w : World) : Calls Try.prog 130 #[] w (TabB w) := by
 have HL := xH low_any;have HH := xH high_any;have n1 := xH (show 29 = low.length from rfl);have n2 := xH (show 52 = high.length from rfl);have n3 := xH (show low.length ≤ 4000 by decide);have n4 := xH (show high.length ≤ 4000 by decide);go_enter Try.func130, Try.ntmps130;go_wp2_with fail
 refine (HL.out _).mono ?_;rintro e w1 ⟨rfl, rfl⟩;go_wp2_with (at_builtin; refine wpList_append_r rfl _ _ rfl w.heap.size (.slice none 0 0) [] low rfl (qm _ _) _ _ rfl rfl rfl (by simp) n3.out (xL _) ?_; intro va wa hoa hba; have HOa := xH hoa; have hwa := hba _ _ (Below.refl w.heap.size w) (xL _); clear hoa hba)
 refine (HH.out _).mono ?_;rintro e w1 ⟨rfl, rfl⟩;go_wp2_with (at_builtin; refine wpList_append_r rfl _ _ rfl w.heap.size va ([] ++ low) high rfl HOa.out _ _ rfl rfl rfl n3.out n4.out hwa.size ?_; intro vb wb hob hbb; have HOb := xH hob; have hwb := hbb _ _ hwa (xL _); clear hob hbb)
 go_ret
 exact ⟨_, rfl, HOb.out, hwb⟩
def ofP (c : Int) : Int × Int × Nat × Nat × Int := if c < 0 ∨ 1114111 < c then (0, 0, 0, 0, 0) else match rows.find? (inRow c) with
 | some r => r
 | none => (c, c, 20, 3, 0)
theorem of_cls (c : Int) : (ofP c).2.2 = cls c := by
 unfold ofP cls;split
 ·rfl
 ·cases rows.find? (inRow c) <;> rfl
def refV (r : Int × Int × Nat × Nat × Int) : Value := .agg #[.int .i64 r.1, .int .i64 r.2.1, .string (catB r.2.2.1), .string (scrB r.2.2.2.1), .int .i64 r.2.2.2.2]
def RefB (r : Int × Int × Nat × Nat × Int) (w : World) (e : Ending) (w' : World) : Prop := e = .returned (refV r) ∧ Below w.heap.size w w'
def rk (k : Nat) : Int × Int × Nat × Nat × Int := rows.getD k (0, 0, 0, 0, 0)
theorem refCs_at {l : List (Int × Int × Nat × Nat × Int)} {k f : Nat} (hk : k < l.length) (hf : f < 5) : (refCs l)[k * 5 + f]? = (refC (l.getD k (0, 0, 0, 0, 0)))[f]? := by
 induction l generalizing k with
 | nil => simp at hk
 | cons r l ih =>
  have hlen : (refC r).length = 5 := rfl;unfold refCs;rw [List.flatMap_cons];cases k with
  | zero =>
   rw [List.getElem?_append_left (by omega)];simp
  | succ k =>
   rw [List.getElem?_append_right (by omega), hlen, show (k + 1) * 5 + f - 5 = k * 5 + f by omega];exact ih (by simpa using hk)
theorem ownR_open {w : World} {base : Nat} {v : Value} (h : OwnR w base v rows) : ∃ g cap : Nat, v = .slice (some ⟨g, 0, none⟩) 81 cap ∧ base ≤ g ∧ g < w.heap.size ∧ 81 ≤ cap ∧ cap ≤ 9223372036854775807 ∧ ∀ k f, k < 81 → f < 5 → w.cell? ⟨g, k * 5 + f, none⟩ = (refC (rk k))[f]? := by
 have h' := h;obtain ⟨_, h2⟩ := h;rcases h2 with ⟨_, hn⟩ | ⟨g, cap, cur, hv, hg, hh, hnc, hcm, hcs, ht⟩
 ·exact absurd hn (by decide)
 ·unfold maxLen at hcm;have hlt : g < w.heap.size := by exact z136
  refine ⟨g, cap, hv, hg, hlt, hnc, by omega, fun k f hk hf => ?_⟩;unfold OwnR at h';rw [hv] at h';have hL : (refCs rows).length = 405 := by rw [refCs_len]; rfl
  rw [h'.cellAt (k * 5 + f) (by omega)];exact refCs_at (l := rows) (k := k) (f := f) hk hf
theorem of_out {c : Int} (h : c < 0 ∨ 1114111 < c) : ofP c = (0, 0, 0, 0, 0) := by unfold ofP; rw [if_pos h]
theorem of_in {c : Int} {k : Nat} (h1 : 0 ≤ c) (h2 : c ≤ 1114111) (hk : k < 81) (hb : ∀ j, j < k → inRow c (rk j) = false) (hi : inRow c (rk k) = true) : ofP c = rk k := by
 unfold ofP;rw [if_neg (by omega)];have : rows.find? (inRow c) = some (rk k) := by
  have hl : rows.length = 81 := rfl;rw [List.find?_eq_some_iff_getElem];refine ⟨hi, k, by omega, ?_, fun j hj => ?_⟩
  ·unfold rk; simp [List.getD, hl, hk]
  ·have := hb j hj;unfold rk at this;have hj2 : j < rows.length := by omega
   simp only [List.getD, List.getElem?_eq_getElem hj2, Option.getD_some] at this;simp [this]
 rw [this]
theorem of_none {c : Int} (h1 : 0 ≤ c) (h2 : c ≤ 1114111) (hb : ∀ j, j < 81 → inRow c (rk j) = false) : ofP c = (c, c, 20, 3, 0) := by
 unfold ofP;rw [if_neg (by omega)];have : rows.find? (inRow c) = none := by rw [List.find?_eq_none];intro r hr;obtain ⟨j, hj, e⟩ := List.mem_iff_getElem.1 hr;have := hb j hj;unfold rk at this;simp only [List.getD, List.getElem?_eq_getElem hj, Option.getD_some] at this;rw [← e];simp [this]
 rw [this]
theorem of_any (c : Int) (w : World) : Calls Try.prog 131 #[.int .i64 c] w (RefB (ofP c) w) := by
 by_cases h0 : c < 0 ∨ 1114111 < c
 ·have HE := xH (of_out h0);rcases h0 with h0 | h0
  all_goals
   go_enter Try.func131, Try.ntmps131;go_wp2_with fail
   refine xB (v := refV (0, 0, 0, 0, 0)) (by simp [results, Try.results131, go_sem, refV, catB, scrB]) rfl ⟨by rw [HE.out], ?_⟩;exact qg _ _
 ·have h1 : 0 ≤ c := by omega
  have h2 : c ≤ 1114111 := by omega
  have HI := xH (fun k hk hb hi => of_in (c := c) (k := k) h1 h2 hk hb hi);have HN := xH (fun hb => of_none (c := c) h1 h2 hb);have HT := xH table_any;clear h0;go_enter Try.func131, Try.ntmps131;go_wp2_with fail
  refine (HT.out _).mono ?_;rintro e w1 ⟨v, rfl, ho, hb1⟩;obtain ⟨g, cap, rfl, hg, hg2, hcap, hcap2, hcell⟩ := ownR_open ho;have HC := xH hcell;have Hg := xH hg;have c0 := (hb1.cell (p := ⟨w.heap.size, 0, none⟩) (by simp)).trans (show _ = some (.int .i64 0) by simp);have c1 := (hb1.cell (p := ⟨w.heap.size, 1, none⟩) (by simp)).trans (show _ = some (.int .i64 0) by simp);have c2 := (hb1.cell (p := ⟨w.heap.size, 2, none⟩) (by simp)).trans (show _ = some (.string ⟨#[]⟩) by simp);have c3 := (hb1.cell (p := ⟨w.heap.size, 3, none⟩) (by simp)).trans (show _ = some (.string ⟨#[]⟩) by simp);have c4 := (hb1.cell (p := ⟨w.heap.size, 4, none⟩) (by simp)).trans (show _ = some (.int .i64 0) by simp);have f0 := (hb1.frozen (p := ⟨w.heap.size, 0, none⟩) (by simp)).trans (show _ = false by simp);have f1 := (hb1.frozen (p := ⟨w.heap.size, 1, none⟩) (by simp)).trans (show _ = false by simp);have f2 := (hb1.frozen (p := ⟨w.heap.size, 2, none⟩) (by simp)).trans (show _ = false by simp);have f3 := (hb1.frozen (p := ⟨w.heap.size, 3, none⟩) (by simp)).trans (show _ = false by simp);have f4 := (hb1.frozen (p := ⟨w.heap.size, 4, none⟩) (by simp)).trans (show _ = false by simp);have hB := qi (qg w _) hb1;clear hcell ho hb1 hg;go_wp2_with fail
  go_loop [4] (fun i => ∃ k : Nat, k ≤ 81 ∧ i = .int .i64 k ∧ Hid (∀ j, j < k → inRow c (rk j) = false)) (fun i => 81 - (intOf i).toNat)
  case atStart => exact ⟨0, Nat.zero_le _, rfl, xH (fun j h => by omega)⟩
  case round =>
   obtain ⟨k, hk, rfl, HR⟩ := hrel;by_cases hlt : k < 81
   ·have r0 := HC.out k 0 hlt (by decide);have r1 := HC.out k 1 hlt (by decide);have r2 := HC.out k 2 hlt (by decide);have r3 := HC.out k 3 hlt (by decide);have r4 := HC.out k 4 hlt (by decide);have HIk := xH (HI.out k hlt HR.out);have HS := xH (show inRow c (rk k) = false → ∀ j, j < k + 1 → inRow c (rk j) = false by
     intro h j hj;by_cases e : j = k
     ·subst e; exact h
     ·exact HR.out j (by omega))
    have HW := xH (show ∀ r, rk k = r → inRow c r = (decide (r.1 ≤ c) && decide (c ≤ r.2.1)) by intro r hr; rfl);obtain ⟨⟨a, b, x, y, z⟩, hr⟩ : ∃ r, rk k = r := ⟨_, rfl⟩;have HWr := xH (HW.out _ hr);rw [hr] at r0 r1 r2 r3 r4 HIk HS;simp only [refC, List.getElem?_cons_zero, List.getElem?_cons_succ, Nat.add_zero] at r0 r1 r2 r3 r4;clear hr HW;by_cases ha : a ≤ c
    ·by_cases hbc : c ≤ b
     ·have HO := xH (HIk.out (by unfold inRow; simp [ha, hbc]));go_wp2_with fail
      refine xB (v := refV (a, b, x, y, z)) (by simp [results, Try.results131, go_sem, refV, c0, c1, c2, c3, c4]) rfl ⟨by rw [HO.out], ?_⟩;exact ((((hB.setCell (by simp) _).setCell (by simp) _).setCell (by simp) _).setCell (by simp) _).setCell (by simp) _
     ·have HR2 := xH (HS.out (by unfold inRow; simp [hbc]));go_wp2_with fail
      go_round
      case rel => exact ⟨k + 1, by omega, by go_num, HR2⟩
      case measure => simp [intOf]; omega
    ·have HR2 := xH (HS.out (by unfold inRow; simp [ha]));go_wp2_with fail
     go_round
     case rel => exact ⟨k + 1, by omega, by go_num, HR2⟩
     case measure => simp [intOf]; omega
   ·obtain rfl : k = 81 := by omega
    have HO := xH (HN.out HR.out);go_wp2_with fail
    refine xB (v := refV (c, c, 20, 3, 0)) (by simp [results, Try.results131, go_sem, refV, catB, scrB, c0, c1, c2, c3, c4]) rfl ⟨by rw [HO.out], ?_⟩;exact ((((hB.setCell (by simp) _).setCell (by simp) _).setCell (by simp) _).setCell (by simp) _).setCell (by simp) _
theorem of_vals (c : Int) (w : World) : ∃ a b : Int, Calls Try.prog 131 #[.int .i64 c] w fun e w' => e = .returned (.agg #[.int .i64 a, .int .i64 b, .string (catB (cls c).1), .string (scrB (cls c).2.1), .int .i64 (cls c).2.2]) ∧ Below w.heap.size w w' :=
 ⟨(ofP c).1, (ofP c).2.1, by have := of_any c w; rw [← of_cls]; exact this⟩
theorem zg {x y : Int} {w w' : World} (hb : Below w.heap.size w w') (T : TypeId) : IntsB [x, y] w (.returned (.slice (some ⟨w'.heap.size, 0, none⟩) 2 2)) (w'.alloc (.cells #[.int .i64 x, .int .i64 y] T)) := by
 refine ⟨_, rfl, Or.inr ⟨by simp, _, 2, rfl, hb.size, by simp, by simp, by omega, fun i hi => ?_⟩, qi hb (qg _ _)⟩;have h0 : i = 0 ∨ i = 1 := by simp at hi; omega
 rcases h0 with rfl | rfl <;> simp
theorem intsB_one' {l : List Int} {x : Int} {n : Nat} {w w' : World} (h : l = [x]) (hb : Below w.heap.size w w') (hn : n = w'.heap.size) (T : TypeId) : IntsB l w (.returned (.slice (some ⟨n, 0, none⟩) 1 1)) (w'.alloc (.cells #[.int .i64 x] T)) := by subst hn; exact intsB_one h hb T
theorem others_f_low {c : Int} (h1 : 65 ≤ c) (h2 : c ≤ 90) : jy c false = [c + 32] := by unfold jy; rw [if_pos rfl, if_pos ⟨h1, h2⟩]
theorem others_f_high {c : Int} (h1 : 97 ≤ c) (h2 : c ≤ 122) : jy c false = [c - 32] := by unfold jy; rw [if_pos rfl, if_neg (by omega), if_pos ⟨h1, h2⟩]
theorem others_f_none {c : Int} (h1 : ¬ (65 ≤ c ∧ c ≤ 90)) (h2 : ¬ (97 ≤ c ∧ c ≤ 122)) : jy c false = [] := by unfold jy; rw [if_pos rfl, if_neg h1, if_neg h2]
theorem rothers_f (c : Int) (w : World) : Calls Try.prog 125 #[.int .i64 c, .bool false] w (IntsB (jy c false) w) := by
 have h : (65 ≤ c ∧ c ≤ 90) ∨ (97 ≤ c ∧ c ≤ 122) ∨ c < 65 ∨ (90 < c ∧ c < 97) ∨ 122 < c := by omega
 rcases h with ⟨h1, h2⟩ | ⟨h1, h2⟩ | h | ⟨h1, h2⟩ | h
 ·have HE := xH (others_f_low h1 h2);go_enter Try.func125, Try.ntmps125;go_wp2_with fail
  go_ret
  exact intsB_one HE.out (Below.refl _ _) _
 ·have HE := xH (others_f_high h1 h2);go_enter Try.func125, Try.ntmps125;go_wp2_with fail
  go_ret
  exact intsB_one HE.out (Below.refl _ _) _
 ·have HE := xH (others_f_none (c := c) (by omega) (by omega));exact z140
 ·have HE := xH (others_f_none (c := c) (by omega) (by omega));exact z140
 ·have HE := xH (others_f_none (c := c) (by omega) (by omega));exact z140
theorem rothers_t0 (c : Int) (w : World) (hS : Single c) : Calls Try.prog 125 #[.int .i64 c, .bool true] w (IntsB (jy c true) w) := by
 have hE := others_single hS;obtain ⟨a, b, hF⟩ := of_vals c w;have hs := shift_bd c;have hp := @shift_small c;obtain ⟨⟨k, s, o⟩, hr⟩ : ∃ r, cls c = r := ⟨_, rfl⟩;rw [hr] at hE hF hs hp;simp only at hE hF hs hp;obtain ⟨hs1, hs2⟩ := hs;have HF := xH hF;have HE := xH hE;have Hp := xH hp;clear hF hr hE hp;obtain ⟨q1, q2, q3, q4, q5, q6, q7, q8, q9, q10, q11, q12⟩ := hS;have e1 : (c == 75) = false := by simpa using q1
 have e2 : (c == 107) = false := by simpa using q2
 have e3 : (c == 8490) = false := by simpa using q3
 have e4 : (c == 83) = false := by simpa using q4
 have e5 : (c == 115) = false := by simpa using q5
 have e6 : (c == 383) = false := by simpa using q6
 have e7 : (c == 181) = false := by simpa using q7
 have e8 : (c == 924) = false := by simpa using q8
 have e9 : (c == 956) = false := by simpa using q9
 have e10 : (c == 931) = false := by simpa using q10
 have e11 : (c == 962) = false := by simpa using q11
 have e12 : (c == 963) = false := by simpa using q12
 clear q1 q2 q3 q4 q5 q6 q7 q8 q9 q10 q11 q12;go_enter Try.func125, Try.ntmps125;go_wp2_with fail
 refine HF.out.mono ?_;rintro e w1 ⟨rfl, hb1⟩;by_cases h0 : o = 0
 ·subst h0;have HE0 := xH (HE.out.trans (if_pos rfl));go_wp2_with fail
  go_ret
  exact intsB_nil HE0.out (qi hb1 (qg _ _))
 ·have HE0 := xH (HE.out.trans (if_neg h0));have h0b : (o != 0) = true := by simpa using h0
  obtain ⟨hp1, hp2⟩ := Hp.out h0;clear h0;go_wp2_with fail
  go_ret
  exact intsB_one' HE0.out (qi hb1 (qg _ _)) (by simp) _
theorem rothers_m75 (w : World) : Calls Try.prog 125 #[.int .i64 75, .bool true] w (IntsB [107, 8490] w) := by exact z142
theorem rothers_m107 (w : World) : Calls Try.prog 125 #[.int .i64 107, .bool true] w (IntsB [75, 8490] w) := by exact z142
theorem rothers_m8490 (w : World) : Calls Try.prog 125 #[.int .i64 8490, .bool true] w (IntsB [75, 107] w) := by exact z142
theorem rothers_m83 (w : World) : Calls Try.prog 125 #[.int .i64 83, .bool true] w (IntsB [115, 383] w) := by exact z142
theorem rothers_m115 (w : World) : Calls Try.prog 125 #[.int .i64 115, .bool true] w (IntsB [83, 383] w) := by exact z142
theorem rothers_m383 (w : World) : Calls Try.prog 125 #[.int .i64 383, .bool true] w (IntsB [83, 115] w) := by exact z142
theorem rothers_m181 (w : World) : Calls Try.prog 125 #[.int .i64 181, .bool true] w (IntsB [924, 956] w) := by exact z142
theorem rothers_m924 (w : World) : Calls Try.prog 125 #[.int .i64 924, .bool true] w (IntsB [181, 956] w) := by exact z142
theorem rothers_m956 (w : World) : Calls Try.prog 125 #[.int .i64 956, .bool true] w (IntsB [181, 924] w) := by exact z142
theorem rothers_m931 (w : World) : Calls Try.prog 125 #[.int .i64 931, .bool true] w (IntsB [962, 963] w) := by exact z142
theorem rothers_m962 (w : World) : Calls Try.prog 125 #[.int .i64 962, .bool true] w (IntsB [931, 963] w) := by exact z142
theorem rothers_m963 (w : World) : Calls Try.prog 125 #[.int .i64 963, .bool true] w (IntsB [931, 962] w) := by exact z142
theorem rothers_any (c : Int) (u : Bool) (w : World) : Calls Try.prog 125 #[.int .i64 c, .bool u] w (IntsB (jy c u) w) := by
 cases u with
 | false => exact rothers_f c w
 | true =>
  by_cases e75 : c = 75
  ·subst e75;exact rothers_m75 w
  by_cases e107 : c = 107
  ·subst e107;exact rothers_m107 w
  by_cases e8490 : c = 8490
  ·subst e8490;exact rothers_m8490 w
  by_cases e83 : c = 83
  ·subst e83;exact rothers_m83 w
  by_cases e115 : c = 115
  ·subst e115;exact rothers_m115 w
  by_cases e383 : c = 383
  ·subst e383;exact rothers_m383 w
  by_cases e181 : c = 181
  ·subst e181;exact rothers_m181 w
  by_cases e924 : c = 924
  ·subst e924;exact rothers_m924 w
  by_cases e956 : c = 956
  ·subst e956;exact rothers_m956 w
  by_cases e931 : c = 931
  ·subst e931;exact rothers_m931 w
  by_cases e962 : c = 962
  ·subst e962;exact rothers_m962 w
  by_cases e963 : c = 963
  ·subst e963;exact rothers_m963 w
  exact rothers_t0 c w ⟨e75, e107, e8490, e83, e115, e383, e181, e924, e956, e931, e962, e963⟩
end ucdw
end
section
namespace setw
open sq
open Go Go.RowKit bulk ucdp ucdw setp
theorem held_append_at {o : Oper} {a : Act} {w W : World} {K : Act → World → Prop} {Q : Exit → Act → World → Prop} {ys : Nat → Option Bool} (hgd : o.guard = none) (s x : Operand)
 (ho : o.op = .call { callee := .builtin .append, args := #[s, x], argTypes := #[24, 24] }) (base : Nat) (v : Value) (D : List Rg) (hs : a.eval s = v) (hown : OwnR w base v D)
 (q1 q2 : Int) (B : Nat) (hW : W = w.alloc (.cells #[.int .i64 q1, .int .i64 q2] 69)) (hx : a.eval x = .slice (some ⟨B, 0, none⟩) 1 1) (hB : B = w.heap.size) (hlen : D.length ≤ 100000000) (hbase : base ≤ w.heap.size)
 (h : ∀ v' w', OwnR w' base v' (D ++ [(q1, q2)]) → (∀ B w1, Below B w1 w → B ≤ base → Below B w1 w') → W.grownBy w' v.ownBlock → (v'.ownBlock = v.ownBlock ∨ v'.ownBlock = some W.heap.size) → K (a.put o.dst v') w') :
 if Region.wanted o ys = true then Oper.wp Try.prog o a W K Q else K (a.put o.dst undef) W := by
 subst hW;rw [if_pos (by unfold Region.wanted; rw [hgd])];subst hB;obtain ⟨i0, hi, hz0, hz1, hz2⟩ := info_parts infoRange;obtain ⟨v', w', hr, hown', hgr, hnil, hat⟩ := run_append_own_at (P := Try.prog) (w.alloc (.cells #[.int .i64 q1, .int .i64 q2] 69)) base 24 o.type 69 i0 (.agg #[.int .i64 0, .int .i64 0]) 2 16 Try.underlying24 hi hz0 hz1 hz2 rfl (by decide) v _ _ (World.ownsRow.alloc hown.1 _) ⟨w.heap.size, 0, none⟩ 1 1 [.int .i64 q1, .int .i64 q2] rfl (by
  intro j u hj;have hplain : (⟨w.heap.size, 0, none⟩ : Addr).add j = ⟨w.heap.size, j, none⟩ := by unfold Addr.add; split <;> simp_all
  rw [hplain, World.cell?_alloc_new];rcases j with _ | _ | j
  ·simpa using hj
  ·simpa using hj
  ·simp at hj) (by
  intro u hu;simp only [List.mem_cons, dM, or_false] at hu;rcases hu with rfl | rfl <;> rfl) (by unfold maxLen; omega) (by omega) (by rw [World.size_alloc]; omega)
 unfold Oper.wp execOp;simp only [ho, resolve, invoke, builtin, Sem.run_bind, Sem.run_pure, Result.andThen_ok, List.map_toArray, List.map_cons, List.map_nil, hs, hx, hr];refine h v' w' ?_ (fun B w1 hb hB => (hb.alloc (by have := hb.size; omega) _).grown hgr (by rw [World.size_alloc]; omega) (fun k hk => ?_)) hgr hat
 ·have e : rcs (D ++ [(q1, q2)]) = rcs D ++ [.int .i64 q1, .int .i64 q2] := by simp [rcs]
  unfold OwnR;rw [e];exact ⟨by simpa using hown', fun h => absurd h (by simp)⟩
 ·have := (World.ownsRow.lt hown.1) k hk;omega
def dups (l : List Int) : List Rg := l.map fun x => (x, x)
def RARel (D : List Rg) (L : List Int) (base b : Nat) (w : World) (v i : Value) (wr : World) : Prop :=
 ∃ k : Nat, k ≤ L.length ∧ i = .int .i64 k ∧ OwnR wr base v (D ++ dups (L.take k)) ∧ Below base w wr ∧ (∀ j, j < L.length → wr.cell? ⟨b, j, none⟩ = some (.int .i64 (L.getD j 0))) ∧ v.ownBlock ≠ some b ∧ b < wr.heap.size
def RAB (D : List Rg) (base : Nat) (w : World) (e : Ending) (w' : World) : Prop := ∃ v, e = .returned v ∧ OwnR w' base v D ∧ Below base w w'
theorem rab_of {D D' : List Rg} {base : Nat} {w w' : World} {v : Value} (h : D' = D) (ho : OwnR w' base v D') (hb : Below base w w') : RAB D base w (.returned v) w' := by subst h;exact ⟨v, rfl, ho, hb⟩
theorem radd_any (v vL : Value) (D : List Rg) (L : List Int) (base B : Nat) (w : World) (hown : OwnR w base v D) (hn : IntsAt B w vL L) (hne : ∀ g, v.ownBlock = some g → g < B) (hbase : base ≤ w.heap.size) (hl : D.length + L.length ≤ 10000000) :
 Calls Try.prog 124 #[v, vL] w (RAB (D ++ dups L) base w) := by
 have HO := xH hown;rcases hn with ⟨rfl, rfl⟩ | ⟨hLn, b, cap, rfl, hb1, hb2, hc1, hc2, hc⟩
 ·go_enter Try.func124, Try.ntmps124;go_wp2_with fail
  refine wp_loop_rounds 1 ?_;rw [rounds_succ];go_wp2_with fail
  go_ret
  exact rab_of (by simp [dups]) HO.out (Below.refl _ _)
 ·have HC := xH hc;have hnb : v.ownBlock ≠ some b := fun e => by have := hne b e; omega
  have HNB := xH hnb;clear hown hc hne hnb hLn;go_enter Try.func124, Try.ntmps124;go_wp2_with fail
  go_loopw [0, 5] (fun v i wr => RARel D L base b w v i wr) (fun _ i _ => L.length - (intOf i).toNat)
  case atStart => exact ⟨0, Nat.zero_le _, rfl, by simpa [dups] using HO.out, Below.refl _ _, HC.out, HNB.out, hb2⟩
  case round =>
   obtain ⟨k, hk, rfl, ho, hb, hcr, hnr, hbr⟩ := hrel;have HOr := xH ho;have HBr := xH hb;have HCr := xH hcr;have HNr := xH hnr;clear ho hb hcr hnr;by_cases hlt : k < L.length
   ·have hx := HCr.out k hlt;have HX := xH hx;have HT := xH (show dups (L.take (k + 1)) = dups (L.take k) ++ [(L.getD k 0, L.getD k 0)] by
     have hg : L.getD k 0 = L[k] := by simp [List.getD, hlt]
     unfold dups;rw [List.take_succ_eq_append_getElem hlt, List.map_append, hg];rfl)
    have HLn := xH (show (D ++ dups (L.take k)).length ≤ 100000000 by simp only [List.length_append, dups, List.length_map, List.length_take]; omega);have hki : (k : Int) < (L.length : Int) := by omega
    generalize L.getD k 0 = x at *;clear hx;go_wp2_with fail
    have h0 : World.cell? (World.drew _) ⟨b, k, none⟩ = some (.int .i64 x) := HX.out;refine wp_region_held_drew (S := fun w' => w'.cell? ⟨b, k, none⟩ = some (.int .i64 x)) (by kernel_rfl) h0 (fun hHeld => ?_);refine yT 0 ?_;simp only [xS];refine yT 1 ?_;simp only [xS];refine yT 2 ?_;simp only [xS];refine yT 3 ?_;simp only [xS];refine yT 4 ?_;simp only [xS];refine yT 5 ?_;simp only [xS];refine yT 6 ?_;simp only [xS];refine yT 7 ?_;simp only [xS];refine yT 8 ?_;simp only [xS];refine yT 9 ?_;simp only [xS];refine xD 10 rfl (fun K hK => ?_);go_simp;have hA := qf (qg _ (Obj.cells #[Value.int IntKind.i64 x, Value.int IntKind.i64 x] 69)) h0;refine hK.out _ _ hA (fun hHeld => ?_);clear hK K;try simp only [xS]
    refine xD 11 rfl (fun K hK => ?_);refine held_append_at (w := World.drew _) rfl _ _ rfl base u0 (D ++ dups (L.take k)) rfl HOr.out x x _ rfl rfl rfl HLn.out (Nat.le_trans hbase HBr.out.size) ?_;intro va2 wa2 hoa hba hgr hat;have HOA := xH hoa;have HBA := xH (hba _ _ HBr.out.drew (xL _));have hS2 : wa2.cell? ⟨b, k, none⟩ = some (.int .i64 x) := hgr.cell hA (Ne.symm HNr.out);have HCA := xH (fun j (hj : j < L.length) => hgr.cell (qf (qg _ _) (show World.cell? (World.drew _) ⟨b, j, none⟩ = _ from HCr.out j hj)) (Ne.symm HNr.out));have HNA := xH (show va2.ownBlock ≠ some b from by
     rcases hat with h | h
     ·rw [h]; exact HNr.out
     ·rw [h];intro e;have h3 : (World.alloc _ _).heap.size = b := Option.some.inj e;rw [World.size_alloc] at h3;have h4 : _ < b := Nat.lt_of_lt_of_eq (Nat.lt_succ_self _) h3;exact absurd hbr (Nat.not_lt.2 (Nat.le_of_lt h4)))
    have hsz : b < wa2.heap.size := Nat.lt_of_lt_of_le (Nat.lt_of_lt_of_le hbr (qg (World.drew _) _).size) hgr.size;clear hoa hba hgr hat hA;refine hK.out _ _ hS2 (fun hHeld => ?_);clear hK K;try simp only [xS]
    refine yT 12 ?_;simp only [Act.put, List.setIfInBounds_toArray, List.set_cons_zero, List.getElem_toArray, List.getElem_cons_succ, List.getElem_cons_zero];refine wpAnyH_done (by kernel_rfl) ?_ _;go_wp2_with fail
    go_roundw
    case rel => exact ⟨k + 1, by omega, by go_num, by rw [HT.out, ← List.append_assoc]; exact HOA.out, HBA.out, HCA.out, HNA.out, hsz⟩
    case measure => simp [intOf]; omega
   ·obtain rfl : k = L.length := by omega
    go_wp2_with fail
    go_ret
    exact rab_of (by rw [List.take_length]) HOr.out HBr.out
theorem dups_has (L : List Int) (c : Int) : Has (dups L) c ↔ c ∈ L := by
 unfold dups Has;constructor
 ·rintro ⟨r, hr, a, b⟩;obtain ⟨x, hx, rfl⟩ := List.mem_map.1 hr;have : c = x := by simp only at a b; omega
  rw [this];exact hx
 ·intro h;exact ⟨(c, c), List.mem_map.2 ⟨c, h, rfl⟩, Int.le_refl _, Int.le_refl _⟩
def caseL (l : List Rg) (u : Bool) : Nat → List Rg
 | 0 => l
 | k + 1 => if hasB l k = true then caseL l u k ++ dups (jy k u) else caseL l u k
theorem caseL_succ (l : List Rg) (u : Bool) (k : Nat) : caseL l u (k + 1) = if hasB l k = true then caseL l u k ++ dups (jy k u) else caseL l u k := rfl
theorem caseL_len (l : List Rg) (u : Bool) : ∀ k, (caseL l u k).length ≤ l.length + 2 * k
 | 0 => by simp [caseL]
 | k + 1 => by
  have := caseL_len l u k;have h2 := others_len k u;rw [caseL_succ];split
  ·simp only [List.length_append, dups, List.length_map]; omega
  ·omega
theorem caseL_has (l : List Rg) (u : Bool) (c : Int) : ∀ k : Nat, Has (caseL l u k) c ↔ Has l c ∨ ∃ d : Int, 0 ≤ d ∧ d < k ∧ Has l d ∧ c ∈ jy d u
 | 0 => by
  simp only [caseL];constructor
  ·exact Or.inl
  ·rintro (h | ⟨d, h0, h1, _⟩)
   ·exact h
   ·omega
 | k + 1 => by
  have ih := caseL_has l u c k;rw [caseL_succ];by_cases hk : hasB l k = true
  ·rw [if_pos hk, zo, ih, dups_has];constructor
   ·rintro ((h | ⟨d, h0, h1, h2⟩) | h)
    ·exact Or.inl h
    ·exact Or.inr ⟨d, h0, by omega, h2⟩
    ·exact Or.inr ⟨k, by omega, by omega, zX.1 hk, h⟩
   ·rintro (h | ⟨d, h0, h1, h2, h3⟩)
    ·exact Or.inl (Or.inl h)
    ·by_cases hd : d = k
     ·subst hd; exact Or.inr h3
     ·exact Or.inl (Or.inr ⟨d, h0, by omega, h2, h3⟩)
  ·rw [if_neg hk, ih];constructor
   ·rintro (h | ⟨d, h0, h1, h2⟩)
    ·exact Or.inl h
    ·exact Or.inr ⟨d, h0, by omega, h2⟩
   ·rintro (h | ⟨d, h0, h1, h2, h3⟩)
    ·exact Or.inl h
    ·by_cases hd : d = k
     ·subst hd; exact absurd (zX.2 h2) hk
     ·exact Or.inr ⟨d, h0, by omega, h2, h3⟩
def caseM (l : List Rg) (u : Bool) : List Rg := if hasB l 8490 = true then caseL l u 1201 ++ dups (jy 8490 u) else caseL l u 1201
theorem caseM_len (l : List Rg) (u : Bool) : (caseM l u).length ≤ l.length + 2404 := by
 have := caseL_len l u 1201;have h2 := others_len 8490 u;unfold caseM;split
 ·simp only [List.length_append, dups, List.length_map]; omega
 ·omega
theorem caseM_has {l : List Rg} {u : Bool} (hl : InR l) (c : Int) : (Has (caseM l u) c ∧ 0 ≤ c ∧ c ≤ min 1114111 1114111) ↔ Has l c ∨ ∃ d, Has l d ∧ c ∈ jy d u := by
 have e : Has (caseM l u) c ↔ Has l c ∨ ∃ d, Has l d ∧ c ∈ jy d u := by
  unfold caseM;by_cases hk : hasB l 8490 = true
  ·rw [if_pos hk, zo, caseL_has, dups_has];constructor
   ·rintro ((h | ⟨d, _, _, h2⟩) | h)
    ·exact Or.inl h
    ·exact Or.inr ⟨d, h2⟩
    ·exact Or.inr ⟨8490, zX.1 hk, h⟩
   ·rintro (h | ⟨d, h2, h3⟩)
    ·exact Or.inl (Or.inl h)
    ·rcases others_where (c := d) (u := u) (fun e => by rw [e] at h3; cases h3) with h | h
     ·exact Or.inl (Or.inr ⟨d, h.1, by omega, h2, h3⟩)
     ·subst h; exact Or.inr h3
  ·rw [if_neg hk, caseL_has];constructor
   ·rintro (h | ⟨d, _, _, h2⟩)
    ·exact Or.inl h
    ·exact Or.inr ⟨d, h2⟩
   ·rintro (h | ⟨d, h2, h3⟩)
    ·exact Or.inl h
    ·rcases others_where (c := d) (u := u) (fun e => by rw [e] at h3; cases h3) with h | h
     ·exact Or.inr ⟨d, h.1, by omega, h2, h3⟩
     ·subst h; exact absurd (zX.2 h2) hk
 rw [e];constructor
 ·exact fun h => h.1
 ·intro h;refine ⟨h, ?_⟩;rcases h with h | ⟨d, _, h⟩
  ·have := has_bd hl h; omega
  ·have := others_mem h; omega
theorem caseL_wf {l : List Rg} {u : Bool} (hl : InR l) : Wf (caseM l u) := by
 have hd : ∀ c, Wf (dups (jy c u)) := fun c r hr => by obtain ⟨x, hx, rfl⟩ := List.mem_map.1 hr;have := others_mem hx;simp only;omega
 have hk : ∀ k, Wf (caseL l u k) := by
  intro k
  induction k with
  | zero => exact jX hl
  | succ k ih =>
   rw [caseL_succ];split
   ·exact fun r hr => (List.mem_append.1 hr).elim (ih r) (hd k r)
   ·exact ih
 unfold caseM;split
 ·exact fun r hr => (List.mem_append.1 hr).elim (hk _ r) (hd _ r)
 ·exact hk _
theorem zZ (v : Value) (l : List Rg) (most : Int) (w : World) (hv : RsAt w v l) (hl : l.length ≤ 600000) (h1 : -9223372036854775808 ≤ most) (h2 : most ≤ 9223372036854775807) :
 Calls Try.prog 75 #[v, .int .i64 most] w (DocS (fun c => Has l c ∧ 0 ≤ c ∧ c ≤ min most 1114111) w) := by
 have HJ := xH (join0w_any v (.slice none 0 0) l [] most w hv (rs_nil w) hl (by simp) h1 h2);exact z34
def CaRel (l : List Rg) (u : Bool) (w : World) (v i : Value) (wr : World) : Prop := ∃ k : Nat, k ≤ 1201 ∧ i = .int .i64 k ∧ OwnR wr w.heap.size v (caseL l u k) ∧ Below w.heap.size w wr
theorem rcase_any (v : Value) (l : List Rg) (u : Bool) (w : World) (hv : RsAt w v l) (hR : InR l) (hl : l.length ≤ 590000) :
 Calls Try.prog 109 #[v, .bool u] w (DocS (fun c => Has l c ∨ ∃ d, Has l d ∧ c ∈ jy d u) w) := by
 have HV := xH hv;have HIR := xH hR;obtain ⟨a, cap, rfl⟩ := jg hv;have HL0 := xH (show ([] : List Rg).length + l.length ≤ 100000000 by simp; omega);clear hv hR;go_enter Try.func109, Try.ntmps109;go_wp2_with (at_builtin; refine jb rfl _ _ rfl w.heap.size (.slice none 0 0) [] rfl (qm _ _) _ l rfl HV.out HL0.out (xL _) ?_; intro va wa hoa hba; have HOa := xH hoa; have HBa := xH (hba _ _ (Below.refl _ _) (xL _)); clear hoa hba)
 go_loopw [5, 6] (fun v i wr => CaRel l u w v i wr) (fun _ i _ => 1201 - (intOf i).toNat)
 case atStart => exact ⟨0, Nat.zero_le _, rfl, HOa.out, HBa.out⟩
 case round =>
  obtain ⟨k, hk, rfl, ho, hb⟩ := hrel;have HO := xH ho;have HB := xH hb;clear ho hb;by_cases hlt : k < 1201
  ·have hki : (k : Int) ≤ 1200 := by omega
   have HI := xH (rin_any (.slice a l.length cap) l k wr (jl HV.out HB.out) (by omega));have HS := xH (caseL_succ l u k);have hlen := caseL_len l u k;cases hp : hasB l k
   ·rw [hp] at HI HS;go_wp2_with fail
    refine HI.out.mono ?_;rintro e w1 ⟨rfl, rfl⟩;go_wp2_with fail
    go_roundw
    case rel => exact ⟨k + 1, by omega, by go_num, by rw [HS.out]; exact HO.out, HB.out⟩
    case measure => simp [intOf]; omega
   ·rw [hp] at HI HS;go_wp2_with fail
    refine HI.out.mono ?_;rintro e wr ⟨rfl, rfl⟩;go_wp2_with fail
    refine (rothers_any k u wr).mono ?_;rintro e w2 ⟨vL, rfl, hn, hb2⟩;have h2 := others_len k u;have HAd := xH (radd_any _ vL (caseL l u k) (jy k u) w.heap.size wr.heap.size w2 (ownR_below HO.out hb2) hn (fun g hg => (World.ownsRow.lt HO.out.1 g hg).2) (Nat.le_trans HB.out.size hb2.size) (by omega));have HB2 := xH (HB.out.trans (hb2.mono HB.out.size));clear hn hb2 h2;go_wp2_with fail
    refine HAd.out.mono ?_;rintro e w3 ⟨v3, rfl, ho3, hb3⟩;have HO3 := xH ho3;have HB3 := xH (HB2.out.trans hb3);clear ho3 hb3;go_wp2_with fail
    go_roundw
    case rel => exact ⟨k + 1, by omega, by go_num, by rw [HS.out]; exact HO3.out, HB3.out⟩
    case measure => simp [intOf]; omega
  ·obtain rfl : k = 1201 := by omega
   have HI := xH (rin_any (.slice a l.length cap) l 8490 wr (jl HV.out HB.out) (by omega));have HM := xH (show caseM l u = if hasB l 8490 = true then caseL l u 1201 ++ dups (jy 8490 u) else caseL l u 1201 from rfl);have hlen := caseL_len l u 1201;have hml := caseM_len l u;have HWf := xH (caseL_wf (u := u) HIR.out);cases hp : hasB l 8490
   ·rw [hp, if_neg (by simp)] at HM;rw [hp] at HI;go_wp2_with fail
    refine HI.out.mono ?_;rintro e wr ⟨rfl, rfl⟩;have HN := xH (fun v (h : OwnR wr w.heap.size v (caseM l u)) => zZ v (caseM l u) 1114111 wr (vP h HWf.out) (by omega) (by decide) (by decide));rw [← HM.out] at HO;go_wp2_with fail
    refine (HN.out _ HO.out).mono ?_;rintro e w4 ⟨v4, S, rfl, hS, hh, ho4, hb4⟩;have HSC := xH hS;have HH := xH hh;have HO4 := xH (ownR_mono ho4 HB.out.size);have HB4 := xH (HB.out.trans (hb4.mono HB.out.size));exact z127
   ·rw [hp, if_pos rfl] at HM;rw [hp] at HI;go_wp2_with fail
    refine HI.out.mono ?_;rintro e wr ⟨rfl, rfl⟩;go_wp2_with fail
    refine (rothers_any 8490 u wr).mono ?_;rintro e w2 ⟨vL, rfl, hn, hb2⟩;have h2 := others_len 8490 u;have HAd := xH (radd_any _ vL (caseL l u 1201) (jy 8490 u) w.heap.size wr.heap.size w2 (ownR_below HO.out hb2) hn (fun g hg => (World.ownsRow.lt HO.out.1 g hg).2) (Nat.le_trans HB.out.size hb2.size) (by omega));rw [← HM.out] at HAd;have HB2 := xH (HB.out.trans (hb2.mono HB.out.size));clear hn hb2 h2;go_wp2_with fail
    refine HAd.out.mono ?_;rintro e w3 ⟨v3, rfl, ho3, hb3⟩;have HO3 := xH ho3;have HB3 := xH (HB2.out.trans hb3);clear ho3 hb3;go_wp2_with fail
    refine (zZ _ (caseM l u) 1114111 w3 (vP HO3.out HWf.out) (by omega) (by decide) (by decide)).mono ?_;rintro e w4 ⟨v4, S, rfl, hS, hh, ho4, hb4⟩;have HSC := xH hS;have HH := xH hh;have HO4 := xH (ownR_mono ho4 HB3.out.size);have HB4 := xH (HB3.out.trans (hb4.mono HB3.out.size));exact z127
end setw
end
section
namespace rtw
open sq
open Go Go.RowKit Go.Maps utfp utfw ucdp setp setw prp tkp rtp
open tkw (sg sg_bd vJ jM qK tkR qO qM vI)
theorem yf {fn : Func} {t u v x : Tmp} (h : fn.results = #[.tmp t, .tmp u, .tmp v, .tmp x]) (tmps : Array Value) (P : Program) (w : World) :
 (results fn tmps).run P w = .ok (.tuple #[tmps.getD t undef, tmps.getD u undef, tmps.getD v undef, tmps.getD x undef]) w := by
 simp [results, h]
theorem qE {fn : Func} {t u v x y : Tmp} (h : fn.results = #[.tmp t, .tmp u, .tmp v, .tmp x, .tmp y]) (tmps : Array Value) (P : Program) (w : World) :
 (results fn tmps).run P w = .ok (.tuple #[tmps.getD t undef, tmps.getD u undef, tmps.getD v undef, tmps.getD x undef, tmps.getD y undef]) w := by
 simp [results, h]
theorem qj {w W : World} {B : Nat} {S : ByteArray} {p : Pt} {v : Value} {r r' : G} (h : FG w B S p W) (hr : r' = r) {k : Nat} (ho : OwnR W k v (gtS r)) (hk : B ≤ k) : GotB w r' (.returned (.agg (gtC v r))) (W.setRow (B + 1) (gtC v r)) := by subst hr;exact fg_end h ho hk
def RgB (w : World) (l : List Rg) (e : Ending) (w' : World) : Prop := ∃ v, e = .returned v ∧ OwnR w' w.heap.size v l ∧ Below w.heap.size w w'
theorem most_min (p : Pt) : min p.most 1114111 = p.most := by have := vH p; omega
theorem cut_any (S : ByteArray) (p : Pt) (w : World) (hP : Pat S p) (v : Value) (l : List Rg) (hv : RsAt w v l) (hl : l.length ≤ 600000) : Calls Try.prog 98 #[txV S p, v] w (RgB w (normR p.most l)) := by
 have hn := hP.n;have h2 := hP.le;have HP := xH hP;have HN := xH hn;clear hP;have hm1 := vH p;have hm2 := most_ge p;have HV := xH hv;obtain ⟨y1, y2, rfl⟩ := jg hv;clear hv;unfold txV txC;go_enter Try.func98, Try.ntmps98;go_upto_region 1 with (fail)
 generalize hW : (w.alloc _) = W;have F0 := xH (zG (S := S) (p := p) hW);obtain ⟨B, hB⟩ : ∃ B, w.heap.size = B := ⟨_, rfl⟩;rw [hB] at F0 ⊢;clear hW hB;obtain ⟨c0, c1, c2, c3⟩ := F0.out.c;have HV1 := xH (jl HV.out F0.out.bel);go_wp2_with fail
 refine xM (zZ _ l p.most _ HV1.out hl (by omega) (by omega)) ?_;rintro e w1 ⟨v1, Z, rfl, hS, hh, ho, hb⟩;have HO := xO F0.out.x ho;rw [normR_only (l := l) hm1 hS fun c => by rw [hh]; simp only [most_min]] at HO;exact z78
theorem notL_only {p : Pt} {l S : List Rg} (hS : Canon S) (h : ∀ c, Has S c ↔ 0 ≤ c ∧ c ≤ min p.most 1114111 ∧ qB 2 l [] c = true) : S = notL p l :=
 notR_only (vH p) hS (ja (vH p) l) fun c => by
  rw [h, most_min, qB_not, normR_has (vH p)];constructor
  ·rintro ⟨a, b, d⟩;exact ⟨a, b, fun e => d e.1⟩
  ·rintro ⟨a, b, d⟩;exact ⟨a, b, fun e => d ⟨e, a, b⟩⟩
theorem not_any (S : ByteArray) (p : Pt) (w : World) (hP : Pat S p) (v : Value) (l : List Rg) (hv : RsAt w v l) (hl : l.length ≤ 100000) : Calls Try.prog 122 #[txV S p, v] w (RgB w (notL p l)) := by
 have hn := hP.n;have h2 := hP.le;have HP := xH hP;have HN := xH hn;clear hP;have hm1 := vH p;have hm2 := most_ge p;have HV := xH hv;obtain ⟨y1, y2, rfl⟩ := jg hv;clear hv;unfold txV txC;go_enter Try.func122, Try.ntmps122;go_upto_region 1 with (fail)
 generalize hW : (w.alloc _) = W;have F0 := xH (zG (S := S) (p := p) hW);obtain ⟨B, hB⟩ : ∃ B, w.heap.size = B := ⟨_, rfl⟩;rw [hB] at F0 ⊢;clear hW hB;obtain ⟨c0, c1, c2, c3⟩ := F0.out.c;have HV1 := xH (jl HV.out F0.out.bel);go_wp2_with fail
 refine xM (join2_any _ (.slice none 0 0) l [] p.most _ HV1.out (rs_nil _) hl (by decide) (by omega) (by omega)) ?_;rintro e w1 ⟨v1, Z, rfl, hS, hh, ho, hb⟩;have HO := xO F0.out.x ho;rw [notL_only hS hh] at HO;exact z78
theorem has_lt {S : ByteArray} {p : Pt} (h : Pat S p) {l : List UInt8} {i : Nat} (e : p.has l i = true) : i + l.length ≤ p.n ∨ l = [] := by
 have e2 := (has_list _ (pat_g h) (pat_len h) l i).1 e;have h3 := congrArg List.length e2;rw [List.length_take, List.length_drop, ← pat_len h] at h3;rcases l with _ | ⟨c, l⟩
 ·exact Or.inr rfl
 ·simp only [dB] at h3 ⊢;omega
theorem qR {S : ByteArray} {p : Pt} (h : Pat S p) {c : UInt8} {l : List UInt8} {i : Nat} (e : p.has (c :: l) i = true) : i + (l.length + 1) ≤ p.n := by
 rcases has_lt h e with h | h
 ·exact h
 ·cases h
theorem zQ (S : ByteArray) (p : Pt) (w : World) (hP : Pat S p) (a : Nat) (ha : a ≤ p.n) : Calls Try.prog 105 #[txV S p, .int .i64 a] w (fun e w' => e = .returned (.tuple #[.int .i64 (sgn p a).1, .int .i64 (sgn p a).2.1, .int .i64 ((sgn p a).2.2.1 : Nat), .bool (sgn p a).2.2.2]) ∧ Below w.heap.size w w') := by
 have hn := hP.n;have h2 := hP.le;have HP := xH hP;have HN := xH hn;clear hP;rw [hn] at ha;unfold txV txC;go_enter Try.func105, Try.ntmps105;go_upto_region 1 with (fail)
 generalize hW : (w.alloc _) = W;have F0 := xH (zG (S := S) (p := p) hW);obtain ⟨B, hB⟩ : ∃ B, w.heap.size = B := ⟨_, rfl⟩;rw [hB] at F0 ⊢;clear hW hB;obtain ⟨c0, c1, c2, c3⟩ := F0.out.c;go_wp2_with fail
 refine xM (qG S p _ HP.out (a) (by omega) [45] ⟨#[45]⟩ rfl (by decide) (Or.inl (by omega))) ?_;rintro e w1 ⟨rfl, hb⟩;have F1 := xH (F0.out.step hb);clear hb c0 c1 c2 c3;obtain ⟨c0, c1, c2, c3⟩ := F1.out.c;cases h45 : p.has [45] a with
 | true =>
  have hi := qR HP.out h45;have HR0 := xH (show p.sign a = (1, a + 1) by unfold Pt.sign; simp only [h45]; rfl);have HZ := xH (show num p (a + 1) = ((num p (a + 1)).1, (num p (a + 1)).2.1, (num p (a + 1)).2.2) from rfl);go_wp2_with fail
  refine xM (vY S p _ HP.out (a + 1) (by omega)) ?_;rintro e w2 ⟨rfl, hb⟩;have F2 := xH (F1.out.step hb);clear hb c0 c1 c2 c3;obtain ⟨c0, c1, c2, c3⟩ := F2.out.c;have HR1 := xH (show sgn p a = if (num p (a + 1)).2.1 = a + 1 then (0, 1, a, false) else ((num p (a + 1)).1, 1, (num p (a + 1)).2.1, (num p (a + 1)).2.2) by unfold sgn; rw [HR0.out]);clear HZ;generalize num p (a + 1) = q at *;obtain ⟨q1, q2, q3⟩ := q;simp only at HR1;by_cases hq : q2 = a + 1
  ·have HR := xH (HR1.out.trans (if_pos hq));clear HR1;subst hq;go_wp2_with fail
   refine xB (yf rfl _ _ _) rfl ?_;rw [HR.out];exact ⟨rfl, F2.out.bel⟩
  ·have HR := xH (HR1.out.trans (if_neg hq));clear HR1;have hq2 : ¬ ((q2 : Nat) : Int) = ((a + 1 : Nat) : Int) := by omega
   have hq3 : ¬ ((q2 : Nat) : Int) = (a : Int) + 1 := by omega
   go_wp2_with fail
   refine xB (yf rfl _ _ _) rfl ?_;rw [HR.out];exact ⟨rfl, F2.out.bel⟩
 | false =>
  go_wp2_with fail
  refine xM (qG S p _ HP.out (a) (by omega) [43] ⟨#[43]⟩ rfl (by decide) (Or.inl (by omega))) ?_;rintro e w2 ⟨rfl, hb⟩;have F2 := xH (F1.out.step hb);clear hb c0 c1 c2 c3;obtain ⟨c0, c1, c2, c3⟩ := F2.out.c;cases h43 : p.has [43] a with
  | true =>
   have hi := qR HP.out h43;have HR0 := xH (show p.sign a = (2, a + 1) by unfold Pt.sign; simp only [h45, h43]; rfl);have HZ := xH (show num p (a + 1) = ((num p (a + 1)).1, (num p (a + 1)).2.1, (num p (a + 1)).2.2) from rfl);go_wp2_with fail
   refine xM (vY S p _ HP.out (a + 1) (by omega)) ?_;rintro e w3 ⟨rfl, hb⟩;have F3 := xH (F2.out.step hb);clear hb c0 c1 c2 c3;obtain ⟨c0, c1, c2, c3⟩ := F3.out.c;have HR1 := xH (show sgn p a = if (num p (a + 1)).2.1 = a + 1 then (0, 2, a, false) else ((num p (a + 1)).1, 2, (num p (a + 1)).2.1, (num p (a + 1)).2.2) by unfold sgn; rw [HR0.out]);clear HZ;generalize num p (a + 1) = q at *;obtain ⟨q1, q2, q3⟩ := q;simp only at HR1;by_cases hq : q2 = a + 1
   ·have HR := xH (HR1.out.trans (if_pos hq));clear HR1;subst hq;exact z135
   ·have HR := xH (HR1.out.trans (if_neg hq));clear HR1;have hq2 : ¬ ((q2 : Nat) : Int) = ((a + 1 : Nat) : Int) := by omega
    have hq3 : ¬ ((q2 : Nat) : Int) = (a : Int) + 1 := by omega
    exact z135
  | false =>
   have HR0 := xH (show p.sign a = (0, a) by unfold Pt.sign; simp only [h45, h43]; rfl);have HZ := xH (show num p (a) = ((num p (a)).1, (num p (a)).2.1, (num p (a)).2.2) from rfl);go_wp2_with fail
   refine xM (vY S p _ HP.out (a) (by omega)) ?_;rintro e w3 ⟨rfl, hb⟩;have F3 := xH (F2.out.step hb);clear hb c0 c1 c2 c3;obtain ⟨c0, c1, c2, c3⟩ := F3.out.c;have HR1 := xH (show sgn p a = if (num p (a)).2.1 = a then (0, 0, a, false) else ((num p (a)).1, 0, (num p (a)).2.1, (num p (a)).2.2) by unfold sgn; rw [HR0.out]);clear HZ;generalize num p (a) = q at *;obtain ⟨q1, q2, q3⟩ := q;simp only at HR1;by_cases hq : q2 = a
   ·have HR := xH (HR1.out.trans (if_pos hq));clear HR1;subst hq;exact z135
   ·have HR := xH (HR1.out.trans (if_neg hq));clear HR1;have hq2 : ¬ ((q2 : Nat) : Int) = ((a : Nat) : Int) := by omega
    have hq3 : ¬ ((q2 : Nat) : Int) = (a : Int) := by omega
    exact z135
end rtw
end
section
namespace rtw
open sq
open Go Go.RowKit rtp setp setw
open tkw (qM)
theorem yR {ops : Array Oper} {rest : List Oper} {o : Oper} {a : Act} {w : World} {Q : Exit → Act → World → Prop} {g b : Nat} {old : Array Value} {v : Value} {D : List Rg} {r : G} {x y : Operand} (HG : Hid (w.heap[g]? = some (.cells old 92 (0, 0)))) (hz : old.size = 16) (HO : Hid (OwnR w b v D))
 (h : wpList Try.prog ops Q rest a (w.setRow g (gtC v r))) (hgd : o.guard = none := by rfl) (hd : o.dst = none := by rfl) (ho : o.op = .store 92 x y := by rfl) (hx : a.eval x = .pointer (some ⟨g, 0, none⟩) := by rfl) (hy : a.eval y = .agg (gtC v r) := by rfl) : wpList Try.prog ops Q (o :: rest) a w :=
 qJ hgd hd x y ho g hx old _ HG.out hz (jw v _) (jO HO.out _) hy h
theorem yW {fn : Func} {q : Tmp} {a : Act} {w W : World} {B k : Nat} {S : ByteArray} {p : Go.Proofs.Ytdgfclbajjjcgaa.tkp.Pt} {old : Array Value} {v : Value} {r r' : G} (HG : Hid (W.heap[B + 1]? = some (.cells old 92 (0, 0)))) (F : Hid (FG w B S p W)) (HR : Hid (r' = r)) (HO : Hid (OwnR W k v (gtS r)))
 (hk : B ≤ k := by exact xL _) (h : fn.results = #[.cell q 92] := by rfl) (hp : a.tmps.getD q undef = .pointer (some ⟨B + 1, 0, none⟩) := by rfl) (hd : a.defers = [] := by rfl) : bodyPost Try.prog fn (GotB w r') .ret a (W.setRow (B + 1) (gtC v r)) :=
 xB (qW h _ _ (B + 1) _ hp (setRow_heap _ _ _ _ _ _ HG.out) (jw v _)) hd (qj F.out HR.out HO.out hk)
theorem yJ {w W W' : World} {B : Nat} {S : ByteArray} {p : Go.Proofs.Ytdgfclbajjjcgaa.tkp.Pt} {r : G} {e : Ending} (F : Hid (FG w B S p W)) (h : GotB W r e W') : ∃ v, e = .returned (.agg (gtC v r)) ∧ Hid (OwnR W' B v (gtS r)) ∧ Hid (FG w B S p W') ∧ ∃ old, Hid (W'.heap[B + 1]? = some (.cells old 92 (0, 0))) ∧ old.size = 16 := by obtain ⟨v, e, ho, hb⟩ := h;have F1 := F.out.step hb;obtain ⟨old, a, b⟩ := F1.g;exact ⟨v, e, xH (qM ho (Nat.le_of_lt F.out.x.lt)), xH F1, old, xH a, b⟩
end rtw
end
section
namespace rtw
open sq
open Go Go.RowKit Go.Maps utfp utfw ucdp setp setw prp tkp rtp
open tkw (sg sg_bd vJ jM qK tkR qO qM vI)
theorem sub_ext {S : ByteArray} {p : Pt} (h : Pat S p) {a b : Nat} (hab : a ≤ b) (hb : b ≤ p.n) : S.extract a b = p.sub a b := by
 have hz : (S.extract a b).size = b - a := by rw [ByteArray.size_extract, ← h.n]; omega
 apply toList_inj;rw [Lib.toList_data, Lib.toList_data];apply List.ext_getElem
 ·rw [Array.length_toList, Array.length_toList];exact hz.trans (tkw.sub_size p a b).symm
 ·intro i h1 h2;have h3 : i < (p.sub a b).size := by rw [Array.length_toList] at h2; exact h2
  have h4 : i < (S.extract a b).size := by rw [Array.length_toList] at h1; exact h1
  have e1 := tkw.sub_at (jS h) h3;rw [Array.getElem_toList, Array.getElem_toList];have e2 : ((S.extract a b)[i]'h4) = S[a + i]'(by rw [hz] at h4; rw [h.n] at hb; omega) := ByteArray.getElem_extract h4;have e3 := gb h (a + i) (by rw [hz] at h4; rw [h.n] at hb; omega);rw [← e2, ← e1] at e3;exact UInt8.toNat_inj.1 (Int.ofNat_inj.1 e3)
def NameRel (w : World) (B : Nat) (S : ByteArray) (p : Pt) (a : Nat) (vi : Value) (wr : World) : Prop :=
 ∃ l : Nat, a + l ≤ S.size ∧ Hid (∀ i, i < l → a + i < p.n ∧ isWrd (p.g (a + i)) = true) ∧ vi = .int .i64 ((a + l : Nat) : Int) ∧ FR w B S p wr
theorem name_of {p : Pt} {a l : Nat} (hp : p.n ≤ 1000) (h : ∀ i, i < l → a + i < p.n ∧ isWrd (p.g (a + i)) = true) (hs : a + l = p.n ∨ isWrd (p.g (a + l)) = false) : p.name a = (a + l, decide (0 < l) && !isDig (p.g a) && decide (l ≤ 32)) := by
 have hl : l ≤ 1000 := by
  rcases l with _ | l
  ·omega
  ·have := (h l (by omega)).1; omega
 have hr : p.run isWrd 1000 a = a + l := run_stop h hs hl;unfold Pt.name;rw [hr, Nat.add_sub_cancel_left]
 congr 4
 simp
theorem zh {p : Pt} {a : Nat} (h : a ≤ p.n) : a ≤ (p.name a).1 ∧ (p.name a).1 ≤ p.n := ⟨(tkw.run_bd h).1, (tkw.run_bd h).2.1⟩
def NamB (p : Pt) (a : Nat) (w : World) (e : Ending) (w' : World) : Prop := e = .returned (.tuple #[.string (p.sub a (p.name a).1), .int .i64 ((p.name a).1 : Nat), .bool (p.name a).2]) ∧ Below w.heap.size w w'
theorem wrd_let {c : Int} (h : isLet c = true) : isWrd c = true := by simp [isWrd, h]
theorem wrd_dig {c : Int} (h : isDig c = true) : isWrd c = true := by simp [isWrd, h]
theorem wrd_us : isWrd 95 = true := by decide
theorem wrd_no {c : Int} (h1 : isLet c = false) (h2 : isDig c = false) (h3 : ¬ c = 95) : isWrd c = false := by simp [isWrd, h1, h2, h3]
theorem name_any (S : ByteArray) (p : Pt) (w : World) (hP : Pat S p) (a : Nat) (ha : a ≤ p.n) : Calls Try.prog 95 #[txV S p, .int .i64 a] w (NamB p a w) := by
 have hn := hP.n;have h2 := hP.le;have HP := xH hP;have HN := xH hn;clear hP;rw [hn] at ha;clear hn;unfold txV txC;go_enter Try.func95, Try.ntmps95;go_upto_region 1 with (fail)
 generalize hW : (w.alloc _) = W;have F0 := xH (zG (S := S) (p := p) hW);obtain ⟨B, hB⟩ : ∃ B, w.heap.size = B := ⟨_, rfl⟩;rw [hB] at F0 ⊢;clear hW hB;obtain ⟨c0, c1, c2, c3⟩ := F0.out.c;clear c0 c1 c2 c3;go_wp2_with fail
 go_loopw [1] (fun vi wr => NameRel w B S p a vi wr) (fun vi _ => S.size - (intOf vi).toNat)
 case atStart => exact ⟨0, ha, xH (fun i h => absurd h (Nat.not_lt_zero i)), rfl, F0.out⟩
 case round =>
  obtain ⟨l, hl, hd, rfl, hF⟩ := hrel;have F1 := xH hF;clear hF;obtain ⟨c0, c1, c2, c3⟩ := F1.out.c;have hgb := gb HP.out;by_cases hlt : a + l < S.size
  ·obtain ⟨b0, b1⟩ := jS HP.out (a + l);go_wp2_with fail
   refine (letter_any _ _ b0 b1).mono ?_;rintro e w1 ⟨rfl, rfl⟩;cases hlet : isLet (p.g (a + l)) with
   | true =>
    go_wp2_with fail
    refine ⟨⟨l + 1, by omega, xH (fun i hi => by
     by_cases e : i = l
     ·subst e; exact ⟨by rw [HN.out]; exact hlt, wrd_let hlet⟩
     ·exact hd.out i (by omega)), rfl, F1.out⟩, by simp only [intOf]; omega⟩
   | false =>
    go_wp2_with fail
    refine (digit_any _ _ b0 b1).mono ?_;rintro e w1 ⟨rfl, rfl⟩;cases hdg : isDig (p.g (a + l)) with
    | true =>
     go_wp2_with fail
     refine ⟨⟨l + 1, by omega, xH (fun i hi => by
      by_cases e : i = l
      ·subst e; exact ⟨by rw [HN.out]; exact hlt, wrd_dig hdg⟩
      ·exact hd.out i (by omega)), rfl, F1.out⟩, by simp only [intOf]; omega⟩
    | false =>
     by_cases hus : p.g (a + l) = 95
     ·have hb : (p.g (a + l) == 95) = true := by simp [hus]
      go_wp2_with fail
      refine ⟨⟨l + 1, by omega, xH (fun i hi => by
       by_cases e : i = l
       ·subst e; exact ⟨by rw [HN.out]; exact hlt, by rw [hus]; exact wrd_us⟩
       ·exact hd.out i (by omega)), rfl, F1.out⟩, by simp only [intOf]; omega⟩
     ·have hb : (p.g (a + l) == 95) = false := by simp [hus]
      have HL := xH HN.out;have HNM := xH (name_of (l := l) (by rw [HN.out]; exact h2) hd.out (Or.inr (wrd_no hlet hdg hus)));exact z8
  ·have HL := xH HN.out;have HNM := xH (name_of (l := l) (by rw [HN.out]; exact h2) hd.out (Or.inl (by rw [HN.out]; omega)));exact z8
theorem FG.low {w W W' : World} {B : Nat} {S : ByteArray} {p : Pt} (h : FG w B S p W) (hb : Below (B + 2) W W') : FG w B S p W' :=
 ⟨⟨h.hB, h.below.trans (hb.mono (by omega)), h.x.below hb (by omega)⟩, by obtain ⟨old, h1, h2⟩ := h.g; exact ⟨old, (hb.block _ (by omega)).trans h1, h2⟩⟩
theorem FG.sz {w W : World} {B : Nat} {S : ByteArray} {p : Pt} (h : FG w B S p W) : B + 2 ≤ W.heap.size := by obtain ⟨old, h1, _⟩ := h.g;have := zi h1;omega
theorem quant_any (S : ByteArray) (p : Pt) (w : World) (hP : Pat S p) (i b : Nat) (n m : Int) (hb : b ≤ p.n) : Calls Try.prog 68 #[txV S p, .int .i64 i, .int .i64 b, .int .i64 n, .int .i64 m] w (GotB w (quan p i b n m)) := by
 have hn := hP.n;have h2 := hP.le;have HP := xH hP;have HN := xH hn;clear hP;rw [hn] at hb;clear hn;have hi3 : b ≤ 1000 := by omega
 have HBb := xH hb;clear hb;unfold txV txC;go_enter Try.func68, Try.ntmps68;go_upto_region 1 with (fail)
 generalize hW : (w.alloc _).alloc _ = W;have F0 := xH (fg_start (S := S) (p := p) hW);obtain ⟨B, hB⟩ : ∃ B, w.heap.size = B := ⟨_, rfl⟩;rw [hB] at F0 ⊢;clear hW hB;obtain ⟨c0, c1, c2, c3⟩ := F0.out.c;go_upto_region 2 with (fail)
 generalize hW2 : World.alloc _ _ = W2;have F1 := xH (F0.out.low (by rw [← hW2]; exact (Below.refl _ _).alloc F0.out.sz _) : FG w B S p W2);obtain ⟨T, hT⟩ : ∃ T, W.heap.size = T := ⟨_, rfl⟩;have HTB := xH (show B + 2 ≤ T by rw [← hT]; exact F0.out.sz);have HT1 : Hid (W2.heap[T]? = some (.cells (tkR (.slice none 0 0) { kind := 9, n := n, m := m }) 90 (0, 0))) := xH (by rw [← hW2, ← hT]; exact heap_alloc_new _ _);rw [hT];clear hW2 hT c0 c1 c2 c3;obtain ⟨c0, c1, c2, c3⟩ := F1.out.c;go_wp2_with fail
 refine xM (qG S p _ HP.out b (by omega) [63] ⟨#[63]⟩ rfl (by decide) (Or.inl (by rw [HN.out]; exact HBb.out))) ?_;rintro e w2 ⟨rfl, hb⟩;have F2 := xH (F1.out.step hb);have HT2 := xH ((hb.block T (zi HT1.out)).trans HT1.out);clear hb c0 c1 c2 c3;obtain ⟨c0, c1, c2, c3⟩ := F2.out.c;cases h63 : p.has [63] b with
 | true =>
  have HR := xH (show quan p i b n m = gtok { kind := 9, n := n, m := m, mode := 1 } i (b + 1) by unfold quan Pt.mode; simp only [h63]; rfl);have ct : w2.cell? ⟨T, 8, none⟩ = some (.int .i64 0) := by simp [World.cell?, HT2.out, tkR]
  have cf : w2.frozen? ⟨T, 8, none⟩ = false := by simp [World.frozen?, HT2.out]
  have HS : Hid ((w2.setCell ⟨T, 8, none⟩ (.int .i64 1)).heap[T]? = some (.cells (tkR (.slice none 0 0) { kind := 9, n := n, m := m, mode := 1 }) 90 (0, 0))) := xH (tkw.heap_set HT2.out);have F3 := xH (F2.out.low ((Below.refl _ w2).setCell (p := ⟨T, 8, none⟩) HTB.out (.int .i64 1)));clear c0 c1 c2 c3;obtain ⟨c0, c1, c2, c3⟩ := F3.out.c;go_wp2_with (refine tkw.qX rfl _ rfl T rfl _ HS.out rfl ?_)
  refine xM (qF (.slice none 0 0) ({ kind := 9, n := n, m := m, mode := 1 }) (i) (b + 1) _ (k := B) (qm _ _)) ?_;exact z66
 | false =>
  go_wp2_with fail
  refine xM (qG S p _ HP.out b (by omega) [43] ⟨#[43]⟩ rfl (by decide) (Or.inl (by rw [HN.out]; exact HBb.out))) ?_;rintro e w3 ⟨rfl, hb⟩;have F3 := xH (F2.out.step hb);have HT3 := xH ((hb.block T (zi HT2.out)).trans HT2.out);clear hb c0 c1 c2 c3;obtain ⟨c0, c1, c2, c3⟩ := F3.out.c;cases h43 : p.has [43] b with
  | true =>
   have HR := xH (show quan p i b n m = gtok { kind := 9, n := n, m := m, mode := 2 } i (b + 1) by unfold quan Pt.mode; simp only [h63, h43]; rfl);have ct : w3.cell? ⟨T, 8, none⟩ = some (.int .i64 0) := by simp [World.cell?, HT3.out, tkR]
   have cf : w3.frozen? ⟨T, 8, none⟩ = false := by simp [World.frozen?, HT3.out]
   have HS : Hid ((w3.setCell ⟨T, 8, none⟩ (.int .i64 2)).heap[T]? = some (.cells (tkR (.slice none 0 0) { kind := 9, n := n, m := m, mode := 2 }) 90 (0, 0))) := xH (tkw.heap_set HT3.out);have F4 := xH (F3.out.low ((Below.refl _ w3).setCell (p := ⟨T, 8, none⟩) HTB.out (.int .i64 2)));clear c0 c1 c2 c3;obtain ⟨c0, c1, c2, c3⟩ := F4.out.c;go_wp2_with (refine tkw.qX rfl _ rfl T rfl _ HS.out rfl ?_)
   refine xM (qF (.slice none 0 0) ({ kind := 9, n := n, m := m, mode := 2 }) (i) (b + 1) _ (k := B) (qm _ _)) ?_;exact z67
  | false =>
   have HR := xH (show quan p i b n m = gtok { kind := 9, n := n, m := m } i b by unfold quan Pt.mode; simp only [h63, h43]; rfl);go_wp2_with (refine tkw.qX rfl _ rfl T rfl _ HT3.out rfl ?_)
   refine xM (qF (.slice none 0 0) ({ kind := 9, n := n, m := m }) (i) (b) _ (k := B) (qm _ _)) ?_;exact z66
end rtw
end
end Go.Proofs.Ytdgfclbajjjcgaa
