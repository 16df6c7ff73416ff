/- T -/
import Derived.IntWalk
import Derived.Test.YtkcmjcgjfjfimaaGreatDoorBBl08
section
namespace Go.Proofs.YtkcmjcgjfjfimaaGreatDoor.tkw
open Go.Sort Go Go.RowKit Go.Maps utfp utfw ucdp setp setw prp tkp
def NsAt (w : World) (v : Value) (l : List Int) : Prop :=
 (∀ x ∈ l, -9223372036854775808 ≤ x ∧ x ≤ 9223372036854775807) ∧ ((l = [] ∧ ∃ a cap, v = .slice a 0 cap ∧ cap ≤ 9223372036854775807) ∨ (l ≠ [] ∧ ∃ b off cap, v = .slice (some ⟨b, off, none⟩) l.length cap ∧ l.length ≤ cap ∧ cap ≤ 9223372036854775807 ∧
  ∀ i (hi : i < l.length), w.cell? ⟨b, off + i, none⟩ = some (.int .i64 l[i])))
theorem nsAt_len {w : World} {v : Value} {l : List Int} (h : NsAt w v l) : ∃ a cap, v = .slice a l.length cap ∧ l.length ≤ 9223372036854775807 := by
 obtain ⟨_, ⟨h, a, cap, hv, _⟩ | ⟨_, b, off, cap, hv, _⟩⟩ := h
 ·subst h; exact ⟨_, _, hv, by simp⟩
 ·exact ⟨_, _, hv, by omega⟩
theorem fold_neg (x : Int) (h : -9223372036854775808 ≤ x) (h2 : x ≤ 9223372036854775807) : ∃ I : Int, (x < 0 ∧ I = -(x + 1) ∨ 0 ≤ x ∧ I = x) ∧ 0 ≤ I ∧ I ≤ 9223372036854775807 := by
 by_cases hx : x < 0
 ·exact ⟨-(x + 1), Or.inl ⟨hx, rfl⟩, by omega, by omega⟩
 ·exact ⟨x, Or.inr ⟨by omega, rfl⟩, by omega, by omega⟩
theorem mod_eleven {I : Int} (h : 0 ≤ I) : ∃ i : Nat, I.tmod 11 = (i : Int) ∧ i < 11 := by
 refine ⟨(I.tmod 11).toNat, ?_, ?_⟩
 ·rw [Int.tmod_eq_emod_of_nonneg h]; omega
 ·rw [Int.tmod_eq_emod_of_nonneg h]; omega
theorem opts_or {I : Int} (h : 0 ≤ I) : ∃ O : Int, bits .or .i64 (I % 65536) 8 = O ∧ 0 ≤ O ∧ O ≤ 65535 ∧ O.toNat.testBit 3 = true := by
 have e : I.tmod 65536 = I % 65536 := Int.tmod_eq_emod_of_nonneg h
 obtain ⟨m, hm⟩ : ∃ m : Nat, I.tmod 65536 = (m : Int) := ⟨(I % 65536).toNat, by rw [e]; omega⟩
 have hm2 : m < 65536 := by rw [e] at hm; omega
 rw [← e, hm]
 have hb := (bits_nat .i64 62 (by decide) wraps_i64_62 m 8 (by omega) (by omega)).2
 refine ⟨((m ||| 8 : Nat) : Int), hb, by omega, ?_, ?_⟩
 ·have : m ||| 8 < 2 ^ 16 := Nat.or_lt_two_pow (by omega) (by decide)
  omega
 ·rw [Int.toNat_natCast, Nat.testBit_or]
  have : (8 : Nat).testBit 3 = true := by decide
  rw [this, Bool.or_true]
def W11 : Array Value := #[.string ⟨#[97]⟩, .string ⟨#[46]⟩, .string ⟨#[91, 120, 93]⟩, .string ⟨#[40, 63, 58, 98, 41]⟩, .string ⟨#[92, 100]⟩, .string ⟨#[94]⟩, .string ⟨#[99, 124, 100]⟩, .string ⟨#[40, 63, 61, 101, 41]⟩, .string ⟨#[92, 120, 123, 52, 49, 125]⟩, .string ⟨#[40, 42, 70, 65, 73, 76, 41]⟩, .string ⟨#[40, 63, 67, 55, 41]⟩]
theorem w11 (i : Nat) (hi : i < 11) : W11[i]? = some (.string (wd i)) := by
 obtain rfl | rfl | rfl | rfl | rfl | rfl | rfl | rfl | rfl | rfl | rfl : i = 0 ∨ i = 1 ∨ i = 2 ∨ i = 3 ∨ i = 4 ∨ i = 5 ∨ i = 6 ∨ i = 7 ∨ i = 8 ∨ i = 9 ∨ i = 10 := by omega
 all_goals rfl
theorem flat_len : ∀ l : List (Tk × Value), (l.flatMap fun p => tkCells p.2 p.1).length = l.length * 12
 | [] => rfl
 | a :: l => by rw [List.flatMap_cons, List.length_append, flat_len l, tkCells_length, List.length_cons]; omega
theorem tk_row {w : World} {base : Nat} {v : Value} {T : List Tk} (h : TokRow w base v T) (hT : T.length ≤ 100000) : TkAt w v T := by
 obtain ⟨l, h1, h2, h3⟩ := h
 have hl : l.length = T.length := by rw [← h1]; simp
 rw [hl] at h3
 rcases h3.2 with ⟨rfl, h0⟩ | ⟨g, cap, cur, hv, _, _, hc1, hc2, _, _⟩
 ·have : T = [] := List.length_eq_zero_iff.1 h0
  subst this
  exact ⟨none, 0, rfl, hT, Or.inl rfl⟩
 ·subst hv
  refine ⟨_, cap, rfl, hT, Or.inr ⟨g, 0, rfl, fun i t hi => ?_⟩⟩
  have hlt : i < l.length := by
   rw [hl]
   exact (List.getElem?_eq_some_iff.1 hi).1
  obtain ⟨p, hp⟩ : ∃ p, l[i]? = some p := ⟨_, List.getElem?_eq_getElem hlt⟩
  have ht : p.1 = t := by
   rw [← h1, List.getElem?_map, hp] at hi
   exact Option.some.inj hi
  subst ht
  have hmem : p ∈ l := List.mem_of_getElem? hp
  refine ⟨p.2, rc_own (h2 p hmem), fun j hj => ?_⟩
  have hjl : i * 12 + j < (l.flatMap fun p => tkCells p.2 p.1).length := by
   rw [← hl] at h3
   have := World.ownsRow.cellAt h3 (i * 12 + j) (by omega)
   have e : (l.flatMap fun p => tkCells p.2 p.1).length = l.length * 12 := by
    exact flat_len l
   rw [e]; omega
  rw [Nat.zero_add, World.ownsRow.cellAt h3 (i * 12 + j) (by omega), flat_at _ (fun _ => rfl) l i j hj, hp]
  rfl
theorem row_cap {w : World} {base : Nat} {a : Option Addr} {n c : Nat} {T : List Tk} (h : TokRow w base (.slice a n c) T) : n ≤ c ∧ c ≤ 9223372036854775807 := by
 obtain ⟨l, h1, h2, h3⟩ := h
 rcases h3.2 with ⟨h, h0⟩ | ⟨g, cap, cur, hv, _, _, hc1, hc2, _, _⟩
 ·cases h; omega
 ·cases hv
  unfold maxLen at hc2
  omega
theorem wrap_q (q : Nat) (h : q ≤ 1000000) : IntKind.i64.wrap ((q : Int) + 1) = (q : Int) + 1 := by
 rw [IntWalk.i64_left]
 unfold wrap64
 omega
theorem sizeTk (w : World) : (sizeOf (Tryz.prog.elem 24)).run Tryz.prog w = .ok 12 w := by kernel_rfl
theorem ulTk : Tryz.prog.underlying 24 = some (.slice (Tryz.prog.elem 24)) := by kernel_rfl
theorem slice_one (w : World) (g o n c q : Nat) (hq : q < n) (hn : n ≤ c) : (Instr.slice 24 (.slice (some ⟨g, o, none⟩) n c) (some (.int .i64 q)) (some (.int .i64 ((q : Int) + 1))) none).run Tryz.prog w = .ok (.slice (some ⟨g, o + q * 12, none⟩) 1 (c - q)) w := by
 rw [run_slice_lh w 24 _ n c ulTk .i64 .i64 q ((q : Int) + 1) (by omega) (by omega) (by omega), sizeTk]
 have e : (⟨g, o, none⟩ : Addr).add (q * 12) = ⟨g, o + q * 12, none⟩ := by unfold Addr.add; split <;> simp_all
 have e2 : ((q : Int) + 1).toNat - q = 1 := by omega
 simp [Result.andThen, sliced, e, e2, show ¬ c = q by omega]
theorem cell_x {w : World} {X : Nat} {l : List Value} {T : TypeId} (h : w.heap[X]? = some (.cells l.toArray T (0, 0))) (j : Nat) {v : Value} (hj : j < 12) (hv : l[j]? = some v) : w.cell? ⟨X, j, none⟩ = some v := by
 simp [World.cell?, h, hv]
theorem tk_sub {w : World} {g o q c : Nat} {sv : Value} {u : Tk} (h : ∀ j, j < 12 → w.cell? ⟨g, o + q * 12 + j, none⟩ = (tkCells sv u)[j]?) (rs : RcAt w sv u.set) : TkAt w (.slice (some ⟨g, o + q * 12, none⟩) 1 c) [u] := by
 refine ⟨_, c, rfl, by simp, Or.inr ⟨g, o + q * 12, rfl, fun i t hi => ?_⟩⟩
 rcases i with _ | i
 ·simp only [List.getElem?_cons_zero, Option.some.injEq] at hi
  subst hi
  exact ⟨sv, rs, fun j hj => by rw [Nat.zero_mul, Nat.add_zero]; exact h j hj⟩
 ·simp at hi
theorem tk_lit {w : World} {X : Nat} {sv : Value} {u : Tk} {T : TypeId} (h : w.heap[X]? = some (.cells (tkCells sv u).toArray T (0, 0))) (rs : RcAt w sv u.set) : TkAt w (.slice (some ⟨X, 0, none⟩) 1 1) [u] := by
 refine ⟨_, 1, rfl, by simp, Or.inr ⟨X, 0, rfl, fun i t hi => ?_⟩⟩
 rcases i with _ | i
 ·simp only [List.getElem?_cons_zero, Option.some.injEq] at hi
  subst hi
  refine ⟨sv, rs, fun j hj => ?_⟩
  have hl : (tkCells sv u)[j]? = some ((tkCells sv u)[j]'(by rw [tkCells_length]; exact hj)) := List.getElem?_eq_getElem _
  rw [hl, show 0 + 0 * 12 + j = j by omega]
  exact cell_x h j hj hl
 ·simp at hi
theorem toks_len (i : Nat) (m : Int) : (toksW m i).length ≤ 3 := by
 unfold toksW
 split <;> simp
theorem toks_bd (i : Nat) (m : Int) : ∀ t ∈ toksW m i, t.at_ ≤ 100 ∧ t.to ≤ 100 := by
 unfold toksW
 split <;> simp [litL]
set_option maxRecDepth 100000 in
set_option maxHeartbeats 8000000 in
theorem blank_main (x y z : Int) (v : Value) (L : List Int) (w : World) (x0 : -9223372036854775808 ≤ x) (x1 : x ≤ 9223372036854775807) (y0 : -9223372036854775808 ≤ y) (y1 : y ≤ 9223372036854775807) (z0 : -9223372036854775808 ≤ z) (z1 : z ≤ 9223372036854775807) (hL : NsAt w v L) (hG : Glo w) : Calls Tryz.prog 4 #[.int .i64 x, .int .i64 y, v, .int .i64 z] w (BoolB true w) := by
 have HA := Lib.hid (awake_any w hG)
 have HGl := Lib.hid (fun w1 (hb : Below w.heap.size w w1) => glo_below hG hb)
 obtain ⟨X, hX, hX0, hX1⟩ := fold_neg x x0 x1
 obtain ⟨Y, hY, hY0, hY1⟩ := fold_neg y y0 y1
 obtain ⟨Z, hZ, hZ0, hZ1⟩ := fold_neg z z0 z1
 obtain ⟨i, hXi, hi⟩ := mod_eleven hX0
 obtain ⟨j, hYj, hj⟩ := mod_eleven hY0
 obtain ⟨O, hO, hO0, hO1, hO3⟩ := opts_or hZ0
 have HO := Lib.hid (And.intro hO0 (And.intro hO1 hO3))
 have HI := Lib.hid hi
 have HJ := Lib.hid hj
 have HL := Lib.hid hL
 obtain ⟨la, lc, rfl, hll⟩ := nsAt_len hL
 clear hL hG hO3
 go_enter Tryz.func4, Tryz.ntmps4
 go_wp2_with fail
 refine HA.out.mono ?_
 rintro e w1 ⟨rfl, hb1⟩
 go_upto_if 32 with (fail)
 generalize hW : w1.alloc _ = W
 have hbW : Below w1.heap.size w1 W := by rw [← hW]; exact below_al _ _
 obtain ⟨B, hB⟩ : ∃ B, w1.heap.size = B := ⟨_, rfl⟩
 have hrow : W.heap[B]? = some (.cells W11 9 (0, 0)) := by rw [← hW, ← hB]; exact heap_alloc_new _ _
 have HRow := Lib.hid (show ∀ i, i < 11 → W.cell? ⟨B, i, none⟩ = some (.string (wd i)) from fun i hi => by simp [World.cell?, hrow, w11 i hi])
 have HBW := Lib.hid (below_trans hb1 hbW)
 rw [hB]
 clear hW hbW hrow hb1 hB
 go_cut [0] (fun v0 wc => v0 = .int .i64 X ∧ wc = W)
 case first =>
  rcases hX with ⟨hx, rfl⟩ | ⟨hx, rfl⟩
  all_goals
   go_wp2_with fail
   go_meet
   exact ⟨rfl, rfl⟩
 case rest =>
  obtain ⟨rfl, rfl⟩ := hcut
  go_upto_if 37 with (fail)
  go_cut [1] (fun v1 wc2 => v1 = .int .i64 Y ∧ wc2 = wc)
  case first =>
   rcases hY with ⟨hx, rfl⟩ | ⟨hx, rfl⟩
   all_goals
    go_wp2_with fail
    go_meet
    exact ⟨rfl, rfl⟩
  case rest =>
   obtain ⟨rfl, hwc⟩ := hcut
   subst hwc
   go_upto_if 42 with (fail)
   go_cut [3] (fun v3 wc3 => v3 = .int .i64 Z ∧ wc3 = wc)
   case first =>
    rcases hZ with ⟨hx, rfl⟩ | ⟨hx, rfl⟩
    all_goals
     go_wp2_with fail
     go_meet
     exact ⟨rfl, rfl⟩
   case rest =>
    obtain ⟨rfl, hwc⟩ := hcut
    subst hwc
    have r1 := HRow.out i hi
    have r2 := HRow.out j hj
    have ii : (i : Int) < 11 := by omega
    have jj : (j : Int) < 11 := by omega
    have ad1 := add_row0 B i 1
    have ad2 := add_row0 B j 1
    clear hX hY hZ
    go_upto_region 14 with (fail)
    obtain ⟨A, hA⟩ : ∃ A, wd i = A := ⟨_, rfl⟩
    obtain ⟨C, hC⟩ : ∃ C, wd j = C := ⟨_, rfl⟩
    rw [hA, hC]
    have HAw := Lib.hid hA.symm
    have HCw := Lib.hid hC.symm
    clear hO hA hC r1 r2 ad1 ad2 hXi hYj
    go_wp2_with fail
    go_loopw [13, 14] (fun sv iv wr => ∃ (k : Nat) (s : ByteArray), sv = .string s ∧ iv = .int .i64 k ∧ k ≤ L.length ∧ k ≤ 20 ∧ Hid (s = strOfNums (bkl (L.take k))) ∧ Below w.heap.size w wr) (fun _ iv _ => 20 - (intOf iv).toNat)
    case atStart => exact ⟨0, _, rfl, rfl, Nat.zero_le _, Nat.zero_le _, Lib.hid rfl, HBW.out⟩
    case round =>
     obtain ⟨k, s, rfl, rfl, hkl, hk20, HS, hb⟩ := hrel
     have hss : s.size ≤ 12 * k := by rw [HS.out, strOfNums_size]; have := bkl_len (L.take k); rw [List.length_take] at this; omega
     have hs2 : s.size ≤ 1000 := by omega
     by_cases hlt : k < L.length ∧ k < 20
     ·obtain ⟨h1, h2⟩ := hlt
      have h1i : (k : Int) < (L.length : Int) := by omega
      have h2i : (k : Int) < 20 := by omega
      obtain ⟨hwf, hne | ⟨_, gb, go, gc, hv, _, _, hc⟩⟩ := HL.out
      ·rw [hne.1] at h1; simp at h1
      cases hv
      have d0 : wr.cell? ⟨gb, go + k, none⟩ = some (.int .i64 L[k]) := below_cell hb (hc k h1)
      have hx := hwf L[k] (List.getElem_mem h1)
      have HNx := Lib.hid (show strOfNums (bkl (L.take (k + 1))) = s ++ strOfNums (blankB (L[k].tmod 6)) by rw [List.take_succ_eq_append_getElem h1, bkl_snoc, ← HS.out])
      obtain ⟨q, hq⟩ : ∃ q, L[k].tmod 6 = q := ⟨_, rfl⟩
      rw [hq] at HNx
      obtain ⟨xk, hxk⟩ : ∃ xk, L[k] = xk := ⟨_, rfl⟩
      rw [hxk] at d0 hq hx
      obtain ⟨hx0, hx1⟩ := hx
      have z0 : ByteArray.size ⟨#[35, 32, 97, 32, 99, 111, 109, 109, 101, 110, 116, 10]⟩ ≤ 1000 := by decide
      have z1 : ByteArray.size ⟨#[10]⟩ ≤ 1000 := by decide
      have z2 : ByteArray.size ⟨#[9]⟩ ≤ 1000 := by decide
      have z3 : ByteArray.size ⟨#[32]⟩ ≤ 1000 := by decide
      have hadd := add_row go k
      clear hc hwf hxk
      by_cases q0 : q = 0
      ·have HN := Lib.hid (show s ++ ⟨#[35, 32, 97, 32, 99, 111, 109, 109, 101, 110, 116, 10]⟩ = strOfNums (bkl (L.take (k + 1))) by rw [HNx.out, q0]; rfl)
       have b0 : (q == 0) = true := by simp [q0]
       clear q0 HNx
       go_wp2_with fail
       go_roundw
       case rel => exact ⟨k + 1, _, rfl, by go_num, h1, by omega, HN, hb⟩
       case measure => simp [intOf]; omega
      have b0 : (q == 0) = false := by simp [q0]
      by_cases q1 : q = 1
      ·have HN := Lib.hid (show s ++ ⟨#[10]⟩ = strOfNums (bkl (L.take (k + 1))) by rw [HNx.out, q1]; rfl)
       have b1 : (q == 1) = true := by simp [q1]
       clear q0 q1 HNx
       go_wp2_with fail
       go_roundw
       case rel => exact ⟨k + 1, _, rfl, by go_num, h1, by omega, HN, hb⟩
       case measure => simp [intOf]; omega
      have b1 : (q == 1) = false := by simp [q1]
      by_cases q2 : q = 2
      ·have HN := Lib.hid (show s ++ ⟨#[9]⟩ = strOfNums (bkl (L.take (k + 1))) by rw [HNx.out, q2]; rfl)
       have b2 : (q == 2) = true := by simp [q2]
       clear q0 q1 q2 HNx
       go_wp2_with fail
       go_roundw
       case rel => exact ⟨k + 1, _, rfl, by go_num, h1, by omega, HN, hb⟩
       case measure => simp [intOf]; omega
      ·have HN := Lib.hid (show s ++ ⟨#[32]⟩ = strOfNums (bkl (L.take (k + 1))) by rw [HNx.out]; unfold blankB; rw [if_neg q0, if_neg q1, if_neg q2]; rfl)
       have b2 : (q == 2) = false := by simp [q2]
       clear q0 q1 q2 HNx
       go_wp2_with fail
       go_roundw
       case rel => exact ⟨k + 1, _, rfl, by go_num, h1, by omega, HN, hb⟩
       case measure => simp [intOf]; omega
     ·have hend : (L.length ≤ k) ∨ (k < L.length ∧ 20 ≤ k) := by omega
      clear hlt
      have zA : A.size ≤ 1000 := by rw [HAw.out]; unfold wd; rw [strOfNums_size]; have := wd_len i hi; omega
      have zC : C.size ≤ 1000 := by rw [HCw.out]; unfold wd; rw [strOfNums_size]; have := wd_len j hj; omega
      have zAs : A.size + s.size ≤ 500 := by rw [HAw.out]; unfold wd; rw [strOfNums_size]; have := wd_len i hi; omega
      have zAB : ByteArray.size (A ++ s) ≤ 1000 := by rw [ByteArray.size_append]; omega
      have zP : ByteArray.size ((A ++ s) ++ C) ≤ 1000 := by rw [ByteArray.size_append, ByteArray.size_append, HCw.out]; unfold wd; rw [strOfNums_size]; have := wd_len j hj; omega
      have HP := Lib.hid (two_lex hi hj HAw.out HS.out HCw.out (by rw [List.length_take]; omega) HO.out.1 HO.out.2.1 HO.out.2.2)
      have HPa := Lib.hid (one_lex hi HAw.out HO.out.1 HO.out.2.1)
      have HPc := Lib.hid (one_lex hj HCw.out HO.out.1 HO.out.2.1)
      obtain ⟨T1, hT1⟩ : ∃ T1, toksW (moB O) i = T1 := ⟨_, rfl⟩
      obtain ⟨T2, hT2⟩ : ∃ T2, toksW (moB O) j = T2 := ⟨_, rfl⟩
      have hl1 : T1.length ≤ 3 := by rw [← hT1]; exact toks_len i _
      have hl2 : T2.length ≤ 3 := by rw [← hT2]; exact toks_len j _
      have hb1 : ∀ t ∈ T1, t.at_ ≤ 100 ∧ t.to ≤ 100 := by rw [← hT1]; exact toks_bd i _
      have hb2 : ∀ t ∈ T2, t.at_ ≤ 100 ∧ t.to ≤ 100 := by rw [← hT2]; exact toks_bd j _
      rw [hT1] at HP HPa
      rw [hT2] at HP HPc
      have HB2 := Lib.hid hb2
      have HB1 := Lib.hid hb1
      clear hT1 hT2 hb1 hb2
      go_upto_region 16 with (fail)
      go_cut [70] from 63 to 92 (fun vb wx => vb = .bool false ∧ wx = wr)
      case first =>
       rcases hend with hend | ⟨he1, he2⟩
       ·have hei : ¬ (k : Int) < (L.length : Int) := by omega
        clear hend
        go_wp2_with fail
        go_meet
        exact ⟨rfl, rfl⟩
       ·have hei : (k : Int) < (L.length : Int) := by omega
        have hei2 : ¬ (k : Int) < 20 := by omega
        clear he1 he2
        go_wp2_with fail
        go_meet
        exact ⟨rfl, rfl⟩
      case rest =>
       obtain ⟨rfl, hwx⟩ := hcut
       subst hwx
       clear hend
       have HBx0 := Lib.hid hb
       go_upto_region 27 with (fail)
       obtain ⟨cv1, sl1⟩ := conv_bs wc ((A ++ s) ++ C) zP
       have L1 := lex_any _ _ (sg ((A ++ s) ++ C)) O _ sl1 (HGl.out _ (below_trans HBx0.out (below_bw wc _)))
       rw [HP.out] at L1
       simp only [ByteArray.size_append] at L1
       have HL1 := Lib.hid L1
       clear sl1 L1
       go_wp2_with fail
       refine HL1.out.mono ?_
       rintro e w2 ⟨hbq, v1, rfl, hr1⟩
       have HBx1 := Lib.hid (below_trans HBx0.out (below_trans (below_bw wc _) hbq))
       have HBy1 := Lib.hid (below_trans (below_bw wc ((A ++ s) ++ C)) hbq)
       obtain ⟨a1, c1, hv1, _, k1⟩ := tk_row hr1 (by simp only [List.length_append, List.length_map]; omega)
       rw [show (List.map (sh 0) T1 ++ List.map (sh (A.size + s.size)) T2).length = T1.length + T2.length by simp] at hv1
       subst hv1
       have hcap1 := row_cap hr1
       have HK1 := Lib.hid k1
       clear k1 hr1 hbq cv1 HL1
       obtain ⟨cv2, sl2⟩ := conv_bs w2 A zA
       have L2 := lex_any _ _ (sg A) O _ sl2 (HGl.out _ (below_trans HBx1.out (below_bw w2 _)))
       rw [HPa.out] at L2
       have _ := 0
       have HL2 := Lib.hid L2
       clear sl2 L2
       go_wp2_with fail
       refine HL2.out.mono ?_
       rintro e w3 ⟨hbq, v2, rfl, hr2⟩
       have HBx2 := Lib.hid (below_trans HBx1.out (below_trans (below_bw w2 _) hbq))
       have HBy2 := Lib.hid (below_trans (below_bw w2 A) hbq)
       obtain ⟨a2, c2, hv2, _, k2⟩ := tk_row hr2 (by rw [List.length_map]; omega)
       rw [show (List.map (sh 0) T1).length = T1.length by simp] at hv2
       subst hv2
       have hcap2 := row_cap hr2
       have HK2 := Lib.hid k2
       clear k2 hr2 hbq cv2 HL2
       obtain ⟨cv3, sl3⟩ := conv_bs w3 C zC
       have L3 := lex_any _ _ (sg C) O _ sl3 (HGl.out _ (below_trans HBx2.out (below_bw w3 _)))
       rw [HPc.out] at L3
       have _ := 0
       have HL3 := Lib.hid L3
       clear sl3 L3
       go_wp2_with fail
       refine HL3.out.mono ?_
       rintro e w4 ⟨hbq, v3, rfl, hr3⟩
       have HBx3 := Lib.hid (below_trans HBx2.out (below_trans (below_bw w3 _) hbq))
       have HBy3 := Lib.hid (below_trans (below_bw w3 C) hbq)
       obtain ⟨a3, c3, hv3, _, k3⟩ := tk_row hr3 (by rw [List.length_map]; omega)
       rw [show (List.map (sh 0) T2).length = T2.length by simp] at hv3
       subst hv3
       have hcap3 := row_cap hr3
       have HK3 := Lib.hid k3
       clear k3 hr3 hbq cv3 HL3
       go_wp2_with fail
       go_loopw [25] (fun iv wr => ∃ q : Nat, iv = .int .i64 q ∧ q ≤ T1.length + T2.length ∧ Below w4.heap.size w4 wr) (fun iv _ => T1.length + T2.length - (intOf iv).toNat)
       case atStart => exact ⟨0, rfl, Nat.zero_le _, Below.refl _ _⟩
       case round =>
        obtain ⟨q, rfl, hq, hbk⟩ := hrel
        by_cases hend : q = T1.length + T2.length
        ·have hni : ¬ (q : Int) < (T1.length : Int) + (T2.length : Int) := by omega
         clear hend
         go_wp2_with fail
         go_ret
         exact ⟨rfl, below_trans HBx3.out hbk⟩
        ·have hlt : q < T1.length + T2.length := by omega
         have hlti : (q : Int) < (T1.length : Int) + (T2.length : Int) := by omega
         have hq0 : (0 : Int) ≤ (q : Int) := by omega
         rcases HK1.out with h0 | ⟨g1, o1, rfl, hc1⟩
         ·have := congrArg List.length h0; rw [List.length_append, List.length_map, List.length_map, List.length_nil] at this; omega
         by_cases hn1 : q < T1.length
         ·have hn1i : (q : Int) < (T1.length : Int) := by omega
          rcases HK2.out with h0 | ⟨g2, o2, rfl, hc2⟩
          ·have := congrArg List.length h0; rw [List.length_map, List.length_nil] at this; omega
          obtain ⟨t, ht⟩ : ∃ t, T1[q]? = some t := ⟨_, List.getElem?_eq_getElem hn1⟩
          obtain ⟨u, hu⟩ : ∃ u, sh 0 t = u := ⟨_, rfl⟩
          have e1 : (List.map (sh 0) T1 ++ List.map (sh (A.size + s.size)) T2)[q]? = some u := by rw [List.getElem?_append_left (by simpa using hn1), List.getElem?_map, ht, ← hu]; rfl
          have e2 : (List.map (sh 0) T1)[q]? = some u := by rw [List.getElem?_map, ht, ← hu]; rfl
          have hub : u.at_ ≤ 1000 ∧ u.to ≤ 1000 := by have := HB1.out t (List.mem_of_getElem? ht); rw [← hu]; simp only [sh]; omega
          obtain ⟨sv1, rs1, hj1⟩ := hc1 q _ e1
          obtain ⟨sv2, rs2, hj2⟩ := hc2 q _ e2
          have RS1 := Lib.hid rs1
          have RS2 := Lib.hid rs2
          have HJ1 := Lib.hid hj1
          obtain ⟨sa, sq, rfl, _, _⟩ := rs2
          have HBr := Lib.hid (below_trans HBy3.out hbk)
          have f0 : (wr.alloc (.cells #[.int .i64 0, .int .i64 0, .int .i64 0, .int .i64 0, .slice none 0 0, .bool false, .int .i64 0, .int .i64 0, .int .i64 0, .string ⟨#[]⟩, .int .i64 0, .int .i64 0] 30)).cell? ⟨g2, o2 + q * 12, none⟩ = some (.int .i64 u.kind) := below_cell (below_al _ _) (below_cell HBr.out (hj2 0 (by decide)))
          have f1 : (wr.alloc (.cells #[.int .i64 0, .int .i64 0, .int .i64 0, .int .i64 0, .slice none 0 0, .bool false, .int .i64 0, .int .i64 0, .int .i64 0, .string ⟨#[]⟩, .int .i64 0, .int .i64 0] 30)).cell? ⟨g2, o2 + q * 12 + 1, none⟩ = some (.int .i64 u.at_) := below_cell (below_al _ _) (below_cell HBr.out (hj2 1 (by decide)))
          have f2 : (wr.alloc (.cells #[.int .i64 0, .int .i64 0, .int .i64 0, .int .i64 0, .slice none 0 0, .bool false, .int .i64 0, .int .i64 0, .int .i64 0, .string ⟨#[]⟩, .int .i64 0, .int .i64 0] 30)).cell? ⟨g2, o2 + q * 12 + 2, none⟩ = some (.int .i64 u.to) := below_cell (below_al _ _) (below_cell HBr.out (hj2 2 (by decide)))
          have f3 : (wr.alloc (.cells #[.int .i64 0, .int .i64 0, .int .i64 0, .int .i64 0, .slice none 0 0, .bool false, .int .i64 0, .int .i64 0, .int .i64 0, .string ⟨#[]⟩, .int .i64 0, .int .i64 0] 30)).cell? ⟨g2, o2 + q * 12 + 3, none⟩ = some (.int .i64 u.c) := below_cell (below_al _ _) (below_cell HBr.out (hj2 3 (by decide)))
          have f4 : (wr.alloc (.cells #[.int .i64 0, .int .i64 0, .int .i64 0, .int .i64 0, .slice none 0 0, .bool false, .int .i64 0, .int .i64 0, .int .i64 0, .string ⟨#[]⟩, .int .i64 0, .int .i64 0] 30)).cell? ⟨g2, o2 + q * 12 + 4, none⟩ = some (.slice sa u.set.length sq) := below_cell (below_al _ _) (below_cell HBr.out (hj2 4 (by decide)))
          have f5 : (wr.alloc (.cells #[.int .i64 0, .int .i64 0, .int .i64 0, .int .i64 0, .slice none 0 0, .bool false, .int .i64 0, .int .i64 0, .int .i64 0, .string ⟨#[]⟩, .int .i64 0, .int .i64 0] 30)).cell? ⟨g2, o2 + q * 12 + 5, none⟩ = some (.bool u.neg) := below_cell (below_al _ _) (below_cell HBr.out (hj2 5 (by decide)))
          have f6 : (wr.alloc (.cells #[.int .i64 0, .int .i64 0, .int .i64 0, .int .i64 0, .slice none 0 0, .bool false, .int .i64 0, .int .i64 0, .int .i64 0, .string ⟨#[]⟩, .int .i64 0, .int .i64 0] 30)).cell? ⟨g2, o2 + q * 12 + 6, none⟩ = some (.int .i64 u.n) := below_cell (below_al _ _) (below_cell HBr.out (hj2 6 (by decide)))
          have f7 : (wr.alloc (.cells #[.int .i64 0, .int .i64 0, .int .i64 0, .int .i64 0, .slice none 0 0, .bool false, .int .i64 0, .int .i64 0, .int .i64 0, .string ⟨#[]⟩, .int .i64 0, .int .i64 0] 30)).cell? ⟨g2, o2 + q * 12 + 7, none⟩ = some (.int .i64 u.m) := below_cell (below_al _ _) (below_cell HBr.out (hj2 7 (by decide)))
          have f8 : (wr.alloc (.cells #[.int .i64 0, .int .i64 0, .int .i64 0, .int .i64 0, .slice none 0 0, .bool false, .int .i64 0, .int .i64 0, .int .i64 0, .string ⟨#[]⟩, .int .i64 0, .int .i64 0] 30)).cell? ⟨g2, o2 + q * 12 + 8, none⟩ = some (.int .i64 u.mode) := below_cell (below_al _ _) (below_cell HBr.out (hj2 8 (by decide)))
          have f9 : (wr.alloc (.cells #[.int .i64 0, .int .i64 0, .int .i64 0, .int .i64 0, .slice none 0 0, .bool false, .int .i64 0, .int .i64 0, .int .i64 0, .string ⟨#[]⟩, .int .i64 0, .int .i64 0] 30)).cell? ⟨g2, o2 + q * 12 + 9, none⟩ = some (.string u.name) := below_cell (below_al _ _) (below_cell HBr.out (hj2 9 (by decide)))
          have f10 : (wr.alloc (.cells #[.int .i64 0, .int .i64 0, .int .i64 0, .int .i64 0, .slice none 0 0, .bool false, .int .i64 0, .int .i64 0, .int .i64 0, .string ⟨#[]⟩, .int .i64 0, .int .i64 0] 30)).cell? ⟨g2, o2 + q * 12 + 10, none⟩ = some (.int .i64 u.on) := below_cell (below_al _ _) (below_cell HBr.out (hj2 10 (by decide)))
          have f11 : (wr.alloc (.cells #[.int .i64 0, .int .i64 0, .int .i64 0, .int .i64 0, .slice none 0 0, .bool false, .int .i64 0, .int .i64 0, .int .i64 0, .string ⟨#[]⟩, .int .i64 0, .int .i64 0] 30)).cell? ⟨g2, o2 + q * 12 + 11, none⟩ = some (.int .i64 u.off) := below_cell (below_al _ _) (below_cell HBr.out (hj2 11 (by decide)))
          have hadd := add_row g2 o2 q 12
          clear hc1 hc2 e1 e2 hj1 hj2 rs1 hu ht
          go_upto_region 41 with (fail)
          generalize hW1 : wr.alloc _ = W1
          have hbw1 : Below wr.heap.size wr W1 := by rw [← hW1]; exact below_al _ _
          obtain ⟨X, hX⟩ : ∃ X, wr.heap.size = X := ⟨_, rfl⟩
          have hx1 : W1.heap[X]? = some (.cells (tkCells (.slice sa u.set.length sq) u).toArray 30 (0, 0)) := by rw [← hW1, ← hX]; exact heap_alloc_new _ _
          rw [hX]
          have HBW1 := Lib.hid hbw1
          have HX1 := Lib.hid hx1
          clear hW1 hbw1 hx1 hX f0 f1 f2 f3 f4 f5 f6 f7 f8 f9 f10 f11
          have sl0 : ∀ wx, (Instr.slice 24 (.slice (some ⟨g1, o1, none⟩) (T1.length + T2.length) c1) (some (.int .i64 q)) (some (.int .i64 ((q : Int) + 1))) none).run Tryz.prog wx = .ok (.slice (some ⟨g1, o1 + q * 12, none⟩) 1 (c1 - q)) wx := fun wx => slice_one wx g1 o1 _ c1 q (by omega) (by omega)
          have hwr : IntKind.i64.wrap ((q : Int) + 1) = (q : Int) + 1 := wrap_q q (by omega)
          have hne : ¬ c1 = q := by omega
          have e2 : ((q : Int) + 1).toNat = q + 1 := by omega
          have h0 : Below W1.heap.size W1 W1.drew := (Below.refl _ _).drew
          refine wp_region_held_drew (S := fun w' => Below W1.heap.size W1 w') (by kernel_rfl) h0 (fun hHeld => ?_)
          refine wpAnyH_take (i := 0) (v := ?_) rfl (by kernel_rfl) (by kernel_rfl) (by kernel_rfl) (fun _ _ _ h => h) (Or.inl ⟨by rfl, ?_⟩) (by assumption) ?_
          rotate_left
          ·intro w' hSw
           go_simp
           try rfl
          simp only [Act.put, List.setIfInBounds_toArray, List.set_cons_zero, List.set_cons_succ, List.getElem_toArray, List.getElem_cons_zero]
          refine wpAnyH_take (i := 1) (v := ?_) rfl (by kernel_rfl) (by kernel_rfl) (by kernel_rfl) (fun _ _ _ h => h) (Or.inl ⟨by rfl, ?_⟩) (by assumption) ?_
          rotate_left
          ·intro w' hSw
           go_simp
           try rfl
          simp only [Act.put, List.setIfInBounds_toArray, List.set_cons_zero, List.set_cons_succ, List.getElem_toArray, List.getElem_cons_succ, List.getElem_cons_zero]
          refine wpAnyH_take (i := 2) (v := ?_) rfl (by kernel_rfl) (by kernel_rfl) (by kernel_rfl) (fun _ _ _ h => h) (Or.inl ⟨by rfl, ?_⟩) (by assumption) ?_
          rotate_left
          ·intro w' hSw
           go_simp
           try rfl
          simp only [Act.put, List.setIfInBounds_toArray, List.set_cons_zero, List.set_cons_succ, List.getElem_toArray, List.getElem_cons_succ, List.getElem_cons_zero]
          refine wpAnyH_take (i := 3) (v := ?_) rfl (by kernel_rfl) (by kernel_rfl) (by kernel_rfl) (fun _ _ _ h => h) (Or.inl ⟨by rfl, ?_⟩) (by assumption) ?_
          rotate_left
          ·intro w' hSw
           go_simp
           try rfl
          simp only [Act.put, List.setIfInBounds_toArray, List.set_cons_zero, List.set_cons_succ, List.getElem_toArray, List.getElem_cons_succ, List.getElem_cons_zero]
          refine wpAnyH_take (i := 4) (v := ?_) rfl (by kernel_rfl) (by kernel_rfl) (by kernel_rfl) (fun _ _ _ h => h) (Or.inl ⟨by rfl, ?_⟩) (by assumption) ?_
          rotate_left
          ·intro w' hSw
           go_simp
           try rfl
          simp only [Act.put, List.setIfInBounds_toArray, List.set_cons_zero, List.set_cons_succ, List.getElem_toArray, List.getElem_cons_succ, List.getElem_cons_zero]
          refine wpAnyH_take (i := 5) (v := ?_) rfl (by kernel_rfl) (by kernel_rfl) (by kernel_rfl) (fun _ _ _ h => h) (Or.inl ⟨by rfl, ?_⟩) (by assumption) ?_
          rotate_left
          ·intro w' hSw
           have d0 : w'.cell? ⟨X, 0, none⟩ = some (.int .i64 u.kind) := below_cell hSw (cell_x HX1.out 0 (by decide) rfl)
           have d1 : w'.cell? ⟨X, 1, none⟩ = some (.int .i64 u.at_) := below_cell hSw (cell_x HX1.out 1 (by decide) rfl)
           have d2 : w'.cell? ⟨X, 2, none⟩ = some (.int .i64 u.to) := below_cell hSw (cell_x HX1.out 2 (by decide) rfl)
           have d3 : w'.cell? ⟨X, 3, none⟩ = some (.int .i64 u.c) := below_cell hSw (cell_x HX1.out 3 (by decide) rfl)
           have d4 : w'.cell? ⟨X, 4, none⟩ = some (.slice sa u.set.length sq) := below_cell hSw (cell_x HX1.out 4 (by decide) rfl)
           have d5 : w'.cell? ⟨X, 5, none⟩ = some (.bool u.neg) := below_cell hSw (cell_x HX1.out 5 (by decide) rfl)
           have d6 : w'.cell? ⟨X, 6, none⟩ = some (.int .i64 u.n) := below_cell hSw (cell_x HX1.out 6 (by decide) rfl)
           have d7 : w'.cell? ⟨X, 7, none⟩ = some (.int .i64 u.m) := below_cell hSw (cell_x HX1.out 7 (by decide) rfl)
           have d8 : w'.cell? ⟨X, 8, none⟩ = some (.int .i64 u.mode) := below_cell hSw (cell_x HX1.out 8 (by decide) rfl)
           have d9 : w'.cell? ⟨X, 9, none⟩ = some (.string u.name) := below_cell hSw (cell_x HX1.out 9 (by decide) rfl)
           have d10 : w'.cell? ⟨X, 10, none⟩ = some (.int .i64 u.on) := below_cell hSw (cell_x HX1.out 10 (by decide) rfl)
           have d11 : w'.cell? ⟨X, 11, none⟩ = some (.int .i64 u.off) := below_cell hSw (cell_x HX1.out 11 (by decide) rfl)
           go_simp
           try rfl
          simp only [Act.put, List.setIfInBounds_toArray, List.set_cons_zero, List.set_cons_succ, List.getElem_toArray, List.getElem_cons_succ, List.getElem_cons_zero]
          refine wpAnyH_ready (rs := [6]) (by kernel_rfl) (by simp) ?_
          refine AllReadyH.cons rfl (fun K hK => ?_) AllReadyH.nil
          go_simp
          refine hK.out _ _ (h0.alloc h0.size _) (fun hHeld => ?_)
          clear hK K
          try simp only [Act.put, List.setIfInBounds_toArray, List.set_cons_zero, List.set_cons_succ, List.getElem_toArray, List.getElem_cons_succ, List.getElem_cons_zero]
          generalize hV2 : World.drew (World.alloc _ _) = V2
          have hb2 : Below W1.heap.size W1 V2 := by rw [← hV2]; exact h0.alloc h0.size _
          have hx2 : V2.heap[W1.heap.size]? = some (.cells (tkCells (.slice sa u.set.length sq) u).toArray 30 (0, 0)) := by rw [← hV2]; exact heap_alloc_new W1 _
          have hbz := below_trans (below_trans hbk HBW1.out) hb2
          have ht1 : TkAt V2 (.slice (some ⟨g1, o1 + q * 12, none⟩) 1 (c1 - q)) [u] := (tk_sub HJ1.out RS1.out).below (below_trans HBy2.out (below_trans HBy3.out hbz))
          have ht2 : TkAt V2 (.slice (some ⟨W1.heap.size, 0, none⟩) 1 1) [u] := tk_lit hx2 (RS2.out.below (below_trans HBy3.out hbz))
          clear hV2 hx2
          refine wpAnyH_ready (rs := [7]) (by kernel_rfl) (by simp) ?_
          refine AllReadyH.cons rfl (fun K hK => ?_) AllReadyH.nil
          go_simp
          refine Calls.mono (same_any _ _ [u] V2 ht1 ht2) ?_
          rintro e V3 ⟨rfl, hb3⟩
          refine hK.out _ _ (hb2.trans (hb3.mono hb2.size)) (fun hHeld => ?_)
          clear hK K
          try simp only [Act.put, List.setIfInBounds_toArray, List.set_cons_zero, List.set_cons_succ, List.getElem_toArray, List.getElem_cons_succ, List.getElem_cons_zero]
          refine wpAnyH_take (i := 8) (v := ?_) rfl (by kernel_rfl) (by kernel_rfl) (by kernel_rfl) (fun _ _ _ h => h) (Or.inl ⟨by rfl, ?_⟩) (by assumption) ?_
          rotate_left
          ·intro w' hSw
           go_simp
           try rfl
          simp only [Act.put, List.setIfInBounds_toArray, List.set_cons_zero, List.set_cons_succ, List.getElem_toArray, List.getElem_cons_succ, List.getElem_cons_zero]
          refine wpAnyH_done (by kernel_rfl) ?_ _
          go_wp2_with fail
          go_roundw
          case rel => exact ⟨q + 1, by go_num, by omega, below_trans hbz hb3⟩
          case measure => simp [intOf]; omega
         ·have hn1i : ¬ (q : Int) < (T1.length : Int) := by omega
          rcases HK3.out with h0 | ⟨g3, o3, rfl, hc3⟩
          ·have := congrArg List.length h0; rw [List.length_map, List.length_nil] at this; omega
          obtain ⟨r, hr⟩ : ∃ r, r + T1.length = q := ⟨q - T1.length, by omega⟩
          have hqr : (q : Int) - (T1.length : Int) = (r : Int) := by omega
          have hr2 : r < T2.length := by omega
          have hr2i : (r : Int) < (T2.length : Int) := by omega
          have hr0 : (0 : Int) ≤ (r : Int) := by omega
          obtain ⟨t, ht⟩ : ∃ t, T2[r]? = some t := ⟨_, List.getElem?_eq_getElem hr2⟩
          have e1 : (List.map (sh 0) T1 ++ List.map (sh (A.size + s.size)) T2)[q]? = some (sh (A.size + s.size) t) := by rw [List.getElem?_append_right (by simp; omega), List.length_map, show q - T1.length = r by omega, List.getElem?_map, ht]; rfl
          have e2 : (List.map (sh 0) T2)[r]? = some (sh 0 t) := by rw [List.getElem?_map, ht]; rfl
          have hub := HB2.out t (List.mem_of_getElem? ht)
          obtain ⟨sv1, rs1, hj1⟩ := hc1 q _ e1
          obtain ⟨sv3, rs3, hj3⟩ := hc3 r _ e2
          obtain ⟨tk, ta, tt, tc, tset, tneg, tn, tm, tmd, tname, ton, toff⟩ := t
          simp only [sh, Nat.zero_add] at rs1 hj1 rs3 hj3 hub
          obtain ⟨UA, hUA⟩ : ∃ UA, A.size + s.size + ta = UA := ⟨_, rfl⟩
          obtain ⟨UT, hUT⟩ : ∃ UT, A.size + s.size + tt = UT := ⟨_, rfl⟩
          rw [hUA, hUT] at hj1
          have hat : (ta : Int) + ((A.size : Int) + (s.size : Int)) = (UA : Int) := by omega
          have htt : (tt : Int) + ((A.size : Int) + (s.size : Int)) = (UT : Int) := by omega
          have RS1 := Lib.hid rs1
          have RS2 := Lib.hid rs3
          have HJ1 := Lib.hid hj1
          obtain ⟨sa, sq, rfl, _, _⟩ := rs3
          have HBr := Lib.hid hbk
          have f0 : (wr.alloc (.cells #[.int .i64 0, .int .i64 0, .int .i64 0, .int .i64 0, .slice none 0 0, .bool false, .int .i64 0, .int .i64 0, .int .i64 0, .string ⟨#[]⟩, .int .i64 0, .int .i64 0] 30)).cell? ⟨g3, o3 + r * 12, none⟩ = some (.int .i64 tk) := below_cell (below_al _ _) (below_cell HBr.out (hj3 0 (by decide)))
          have f1 : (wr.alloc (.cells #[.int .i64 0, .int .i64 0, .int .i64 0, .int .i64 0, .slice none 0 0, .bool false, .int .i64 0, .int .i64 0, .int .i64 0, .string ⟨#[]⟩, .int .i64 0, .int .i64 0] 30)).cell? ⟨g3, o3 + r * 12 + 1, none⟩ = some (.int .i64 ta) := below_cell (below_al _ _) (below_cell HBr.out (hj3 1 (by decide)))
          have f2 : (wr.alloc (.cells #[.int .i64 0, .int .i64 0, .int .i64 0, .int .i64 0, .slice none 0 0, .bool false, .int .i64 0, .int .i64 0, .int .i64 0, .string ⟨#[]⟩, .int .i64 0, .int .i64 0] 30)).cell? ⟨g3, o3 + r * 12 + 2, none⟩ = some (.int .i64 tt) := below_cell (below_al _ _) (below_cell HBr.out (hj3 2 (by decide)))
          have f3 : (wr.alloc (.cells #[.int .i64 0, .int .i64 0, .int .i64 0, .int .i64 0, .slice none 0 0, .bool false, .int .i64 0, .int .i64 0, .int .i64 0, .string ⟨#[]⟩, .int .i64 0, .int .i64 0] 30)).cell? ⟨g3, o3 + r * 12 + 3, none⟩ = some (.int .i64 tc) := below_cell (below_al _ _) (below_cell HBr.out (hj3 3 (by decide)))
          have f4 : (wr.alloc (.cells #[.int .i64 0, .int .i64 0, .int .i64 0, .int .i64 0, .slice none 0 0, .bool false, .int .i64 0, .int .i64 0, .int .i64 0, .string ⟨#[]⟩, .int .i64 0, .int .i64 0] 30)).cell? ⟨g3, o3 + r * 12 + 4, none⟩ = some (.slice sa tset.length sq) := below_cell (below_al _ _) (below_cell HBr.out (hj3 4 (by decide)))
          have f5 : (wr.alloc (.cells #[.int .i64 0, .int .i64 0, .int .i64 0, .int .i64 0, .slice none 0 0, .bool false, .int .i64 0, .int .i64 0, .int .i64 0, .string ⟨#[]⟩, .int .i64 0, .int .i64 0] 30)).cell? ⟨g3, o3 + r * 12 + 5, none⟩ = some (.bool tneg) := below_cell (below_al _ _) (below_cell HBr.out (hj3 5 (by decide)))
          have f6 : (wr.alloc (.cells #[.int .i64 0, .int .i64 0, .int .i64 0, .int .i64 0, .slice none 0 0, .bool false, .int .i64 0, .int .i64 0, .int .i64 0, .string ⟨#[]⟩, .int .i64 0, .int .i64 0] 30)).cell? ⟨g3, o3 + r * 12 + 6, none⟩ = some (.int .i64 tn) := below_cell (below_al _ _) (below_cell HBr.out (hj3 6 (by decide)))
          have f7 : (wr.alloc (.cells #[.int .i64 0, .int .i64 0, .int .i64 0, .int .i64 0, .slice none 0 0, .bool false, .int .i64 0, .int .i64 0, .int .i64 0, .string ⟨#[]⟩, .int .i64 0, .int .i64 0] 30)).cell? ⟨g3, o3 + r * 12 + 7, none⟩ = some (.int .i64 tm) := below_cell (below_al _ _) (below_cell HBr.out (hj3 7 (by decide)))
          have f8 : (wr.alloc (.cells #[.int .i64 0, .int .i64 0, .int .i64 0, .int .i64 0, .slice none 0 0, .bool false, .int .i64 0, .int .i64 0, .int .i64 0, .string ⟨#[]⟩, .int .i64 0, .int .i64 0] 30)).cell? ⟨g3, o3 + r * 12 + 8, none⟩ = some (.int .i64 tmd) := below_cell (below_al _ _) (below_cell HBr.out (hj3 8 (by decide)))
          have f9 : (wr.alloc (.cells #[.int .i64 0, .int .i64 0, .int .i64 0, .int .i64 0, .slice none 0 0, .bool false, .int .i64 0, .int .i64 0, .int .i64 0, .string ⟨#[]⟩, .int .i64 0, .int .i64 0] 30)).cell? ⟨g3, o3 + r * 12 + 9, none⟩ = some (.string tname) := below_cell (below_al _ _) (below_cell HBr.out (hj3 9 (by decide)))
          have f10 : (wr.alloc (.cells #[.int .i64 0, .int .i64 0, .int .i64 0, .int .i64 0, .slice none 0 0, .bool false, .int .i64 0, .int .i64 0, .int .i64 0, .string ⟨#[]⟩, .int .i64 0, .int .i64 0] 30)).cell? ⟨g3, o3 + r * 12 + 10, none⟩ = some (.int .i64 ton) := below_cell (below_al _ _) (below_cell HBr.out (hj3 10 (by decide)))
          have f11 : (wr.alloc (.cells #[.int .i64 0, .int .i64 0, .int .i64 0, .int .i64 0, .slice none 0 0, .bool false, .int .i64 0, .int .i64 0, .int .i64 0, .string ⟨#[]⟩, .int .i64 0, .int .i64 0] 30)).cell? ⟨g3, o3 + r * 12 + 11, none⟩ = some (.int .i64 toff) := below_cell (below_al _ _) (below_cell HBr.out (hj3 11 (by decide)))
          have hadd := add_row g3 o3 r 12
          clear hc1 hc3 e1 e2 hj1 hj3 rs1 ht hr hUA hUT
          go_upto_region 41 with (fail)
          generalize hW1 : wr.alloc _ = W1
          have hbw1 : Below wr.heap.size wr W1 := by rw [← hW1]; exact below_al _ _
          obtain ⟨X, hX⟩ : ∃ X, wr.heap.size = X := ⟨_, rfl⟩
          have hx1 : W1.heap[X]? = some (.cells (tkCells (.slice sa tset.length sq) (⟨tk, UA, UT, tc, tset, tneg, tn, tm, tmd, tname, ton, toff⟩ : Tk)).toArray 30 (0, 0)) := by rw [← hW1, ← hX]; exact heap_alloc_new _ _
          rw [hX]
          have HBW1 := Lib.hid hbw1
          have HX1 := Lib.hid hx1
          clear hW1 hbw1 hx1 hX f0 f1 f2 f3 f4 f5 f6 f7 f8 f9 f10 f11
          have sl0 : ∀ wx, (Instr.slice 24 (.slice (some ⟨g1, o1, none⟩) (T1.length + T2.length) c1) (some (.int .i64 q)) (some (.int .i64 ((q : Int) + 1))) none).run Tryz.prog wx = .ok (.slice (some ⟨g1, o1 + q * 12, none⟩) 1 (c1 - q)) wx := fun wx => slice_one wx g1 o1 _ c1 q (by omega) (by omega)
          have hwr : IntKind.i64.wrap ((q : Int) + 1) = (q : Int) + 1 := wrap_q q (by omega)
          have hne : ¬ c1 = q := by omega
          have e2 : ((q : Int) + 1).toNat = q + 1 := by omega
          have h0 : Below W1.heap.size W1 W1.drew := (Below.refl _ _).drew
          refine wp_region_held_drew (S := fun w' => Below W1.heap.size W1 w') (by kernel_rfl) h0 (fun hHeld => ?_)
          refine wpAnyH_take (i := 0) (v := ?_) rfl (by kernel_rfl) (by kernel_rfl) (by kernel_rfl) (fun _ _ _ h => h) (Or.inl ⟨by rfl, ?_⟩) (by assumption) ?_
          rotate_left
          ·intro w' hSw
           go_simp
           try rfl
          simp only [Act.put, List.setIfInBounds_toArray, List.set_cons_zero, List.set_cons_succ, List.getElem_toArray, List.getElem_cons_zero]
          refine wpAnyH_take (i := 1) (v := ?_) rfl (by kernel_rfl) (by kernel_rfl) (by kernel_rfl) (fun _ _ _ h => h) (Or.inl ⟨by rfl, ?_⟩) (by assumption) ?_
          rotate_left
          ·intro w' hSw
           go_simp
           try rfl
          simp only [Act.put, List.setIfInBounds_toArray, List.set_cons_zero, List.set_cons_succ, List.getElem_toArray, List.getElem_cons_succ, List.getElem_cons_zero]
          refine wpAnyH_take (i := 2) (v := ?_) rfl (by kernel_rfl) (by kernel_rfl) (by kernel_rfl) (fun _ _ _ h => h) (Or.inl ⟨by rfl, ?_⟩) (by assumption) ?_
          rotate_left
          ·intro w' hSw
           go_simp
           try rfl
          simp only [Act.put, List.setIfInBounds_toArray, List.set_cons_zero, List.set_cons_succ, List.getElem_toArray, List.getElem_cons_succ, List.getElem_cons_zero]
          refine wpAnyH_take (i := 3) (v := ?_) rfl (by kernel_rfl) (by kernel_rfl) (by kernel_rfl) (fun _ _ _ h => h) (Or.inl ⟨by rfl, ?_⟩) (by assumption) ?_
          rotate_left
          ·intro w' hSw
           go_simp
           try rfl
          simp only [Act.put, List.setIfInBounds_toArray, List.set_cons_zero, List.set_cons_succ, List.getElem_toArray, List.getElem_cons_succ, List.getElem_cons_zero]
          refine wpAnyH_take (i := 4) (v := ?_) rfl (by kernel_rfl) (by kernel_rfl) (by kernel_rfl) (fun _ _ _ h => h) (Or.inl ⟨by rfl, ?_⟩) (by assumption) ?_
          rotate_left
          ·intro w' hSw
           go_simp
           try rfl
          simp only [Act.put, List.setIfInBounds_toArray, List.set_cons_zero, List.set_cons_succ, List.getElem_toArray, List.getElem_cons_succ, List.getElem_cons_zero]
          refine wpAnyH_take (i := 5) (v := ?_) rfl (by kernel_rfl) (by kernel_rfl) (by kernel_rfl) (fun _ _ _ h => h) (Or.inl ⟨by rfl, ?_⟩) (by assumption) ?_
          rotate_left
          ·intro w' hSw
           have d0 : w'.cell? ⟨X, 0, none⟩ = some (.int .i64 tk) := below_cell hSw (cell_x HX1.out 0 (by decide) rfl)
           have d1 : w'.cell? ⟨X, 1, none⟩ = some (.int .i64 UA) := below_cell hSw (cell_x HX1.out 1 (by decide) rfl)
           have d2 : w'.cell? ⟨X, 2, none⟩ = some (.int .i64 UT) := below_cell hSw (cell_x HX1.out 2 (by decide) rfl)
           have d3 : w'.cell? ⟨X, 3, none⟩ = some (.int .i64 tc) := below_cell hSw (cell_x HX1.out 3 (by decide) rfl)
           have d4 : w'.cell? ⟨X, 4, none⟩ = some (.slice sa tset.length sq) := below_cell hSw (cell_x HX1.out 4 (by decide) rfl)
           have d5 : w'.cell? ⟨X, 5, none⟩ = some (.bool tneg) := below_cell hSw (cell_x HX1.out 5 (by decide) rfl)
           have d6 : w'.cell? ⟨X, 6, none⟩ = some (.int .i64 tn) := below_cell hSw (cell_x HX1.out 6 (by decide) rfl)
           have d7 : w'.cell? ⟨X, 7, none⟩ = some (.int .i64 tm) := below_cell hSw (cell_x HX1.out 7 (by decide) rfl)
           have d8 : w'.cell? ⟨X, 8, none⟩ = some (.int .i64 tmd) := below_cell hSw (cell_x HX1.out 8 (by decide) rfl)
           have d9 : w'.cell? ⟨X, 9, none⟩ = some (.string tname) := below_cell hSw (cell_x HX1.out 9 (by decide) rfl)
           have d10 : w'.cell? ⟨X, 10, none⟩ = some (.int .i64 ton) := below_cell hSw (cell_x HX1.out 10 (by decide) rfl)
           have d11 : w'.cell? ⟨X, 11, none⟩ = some (.int .i64 toff) := below_cell hSw (cell_x HX1.out 11 (by decide) rfl)
           go_simp
           try rfl
          simp only [Act.put, List.setIfInBounds_toArray, List.set_cons_zero, List.set_cons_succ, List.getElem_toArray, List.getElem_cons_succ, List.getElem_cons_zero]
          refine wpAnyH_ready (rs := [6]) (by kernel_rfl) (by simp) ?_
          refine AllReadyH.cons rfl (fun K hK => ?_) AllReadyH.nil
          go_simp
          refine hK.out _ _ (h0.alloc h0.size _) (fun hHeld => ?_)
          clear hK K
          try simp only [Act.put, List.setIfInBounds_toArray, List.set_cons_zero, List.set_cons_succ, List.getElem_toArray, List.getElem_cons_succ, List.getElem_cons_zero]
          generalize hV2 : World.drew (World.alloc _ _) = V2
          have hb2 : Below W1.heap.size W1 V2 := by rw [← hV2]; exact h0.alloc h0.size _
          have hx2 : V2.heap[W1.heap.size]? = some (.cells (tkCells (.slice sa tset.length sq) (⟨tk, UA, UT, tc, tset, tneg, tn, tm, tmd, tname, ton, toff⟩ : Tk)).toArray 30 (0, 0)) := by rw [← hV2]; exact heap_alloc_new W1 _
          have hbz := below_trans (below_trans hbk HBW1.out) hb2
          have ht1 : TkAt V2 (.slice (some ⟨g1, o1 + q * 12, none⟩) 1 (c1 - q)) [(⟨tk, UA, UT, tc, tset, tneg, tn, tm, tmd, tname, ton, toff⟩ : Tk)] := (tk_sub HJ1.out RS1.out).below (below_trans HBy2.out (below_trans HBy3.out hbz))
          have ht2 : TkAt V2 (.slice (some ⟨W1.heap.size, 0, none⟩) 1 1) [(⟨tk, UA, UT, tc, tset, tneg, tn, tm, tmd, tname, ton, toff⟩ : Tk)] := tk_lit hx2 (RS2.out.below (hbz))
          clear hV2 hx2
          refine wpAnyH_ready (rs := [7]) (by kernel_rfl) (by simp) ?_
          refine AllReadyH.cons rfl (fun K hK => ?_) AllReadyH.nil
          go_simp
          refine Calls.mono (same_any _ _ [(⟨tk, UA, UT, tc, tset, tneg, tn, tm, tmd, tname, ton, toff⟩ : Tk)] V2 ht1 ht2) ?_
          rintro e V3 ⟨rfl, hb3⟩
          refine hK.out _ _ (hb2.trans (hb3.mono hb2.size)) (fun hHeld => ?_)
          clear hK K
          try simp only [Act.put, List.setIfInBounds_toArray, List.set_cons_zero, List.set_cons_succ, List.getElem_toArray, List.getElem_cons_succ, List.getElem_cons_zero]
          refine wpAnyH_take (i := 8) (v := ?_) rfl (by kernel_rfl) (by kernel_rfl) (by kernel_rfl) (fun _ _ _ h => h) (Or.inl ⟨by rfl, ?_⟩) (by assumption) ?_
          rotate_left
          ·intro w' hSw
           go_simp
           try rfl
          simp only [Act.put, List.setIfInBounds_toArray, List.set_cons_zero, List.set_cons_succ, List.getElem_toArray, List.getElem_cons_succ, List.getElem_cons_zero]
          refine wpAnyH_done (by kernel_rfl) ?_ _
          go_wp2_with fail
          go_roundw
          case rel => exact ⟨q + 1, by go_num, by omega, below_trans hbz hb3⟩
          case measure => simp [intOf]; omega
theorem blank_law (x y z : Int) (v : Value) (L : List Int) (w : World) (hx : -9223372036854775808 ≤ x ∧ x ≤ 9223372036854775807) (hy : -9223372036854775808 ≤ y ∧ y ≤ 9223372036854775807) (hz : -9223372036854775808 ≤ z ∧ z ≤ 9223372036854775807) (hL : NsAt w v L) (hG : Glo w) : Calls Tryz.prog 4 #[.int .i64 x, .int .i64 y, v, .int .i64 z] w (BoolB true w) := blank_main x y z v L w hx.1 hx.2 hy.1 hy.2 hz.1 hz.2 hL hG
end Go.Proofs.YtkcmjcgjfjfimaaGreatDoor.tkw
end
section
namespace Go.Proofs.YtkcmjcgjfjfimaaGreatDoor.tkr
open Go Go.RowKit Go.ChangeShapes Go.WideShapes Go.ChangeAt utfp utfw prp tkp tkw
theorem plain_of_cell {w : World} {a : Addr} {v : Value} (h : w.cell? (a.add 0) = some v) : a.spot = none := by
 obtain ⟨b, off, spot⟩ := a
 cases spot with
 | none => rfl
 | some s =>
  exfalso
  have : ((⟨b, off, some s⟩ : Addr).add 0).spot.isSome = true := by unfold Addr.add; split <;> simp_all
  unfold World.cell? at h
  split at h
  ·simp [this] at h
  ·simp at h
set_option maxRecDepth 100000 in
theorem open_numbers {H : Type} {enc : TypeId × Value → H} {W : World} {base : Nat} {v : Value} {d : DataW H} {ps : List MemPlace} (hval : Value.okWide Tryz.prog W .any base 32 v)
   (h : DataW.Trod enc Tryz.prog W 0 (fun _ => true) true 32 v d ps) : ∃ l, NsAt W v l := by
 obtain ⟨a0, len, cap, rfl⟩ := okWide_slice Tryz.underlying32 hval
 obtain ⟨fuel, hf⟩ := h
 rcases open_ints Tryz.underlying32 Tryz.underlying3 cellsInt hf with ⟨hcs, _⟩ | ⟨a, len', cap', zs, hcs, _, hl, hm, hz, _, hcell, hwz⟩
 · simp [Value.cells] at hcs
   obtain ⟨rfl, rfl, rfl⟩ := hcs
   exact ⟨[], fun r hr => (by cases hr), Or.inl ⟨rfl, _, _, rfl, by omega⟩⟩
 · simp [Value.cells] at hcs
   obtain ⟨rfl, rfl, rfl⟩ := hcs
   simp only [if_true] at hz
   unfold maxLen at hm
   by_cases h0 : len = 0
   · subst h0
     exact ⟨[], fun r hr => (by cases hr), Or.inl ⟨rfl, _, _, rfl, by omega⟩⟩
   · have hp := plain_of_cell (hcell 0 (by omega))
     obtain ⟨b, off, spot⟩ := a
     simp only at hp
     subst hp
     have hlen : (zs.take len).length = len := by rw [List.length_take]; omega
     refine ⟨zs.take len, fun x hx => wf_int (hwz _ (List.mem_of_mem_take hx)), Or.inr ⟨fun h => h0 (by rw [← hlen, h]; rfl), b, off, cap, by rw [hlen], by omega, by omega, fun i hi => ?_⟩⟩
     rw [hlen] at hi
     have := hcell i (by omega)
     have hplain : (⟨b, off, none⟩ : Addr).add i = ⟨b, off + i, none⟩ := by unfold Addr.add; split <;> simp_all
     rw [hplain] at this
     rw [this]
     simp [List.getD, show i < zs.length by omega]
end Go.Proofs.YtkcmjcgjfjfimaaGreatDoor.tkr
end
