/- T -/
import Derived.BigQuiet
import Derived.BigRegion
import Derived.Deep.CutBlock
import Derived.Deep.DeepCutAuto
import Derived.Deep.QuietTactic
import Derived.Deep.RegionHeld3
import Derived.Deep.RegionWith
import Derived.IntWalk
import Derived.Laws.AppendOwn
import Derived.Laws.CopyRow
import Derived.Laws.RangeAny
import Derived.Laws.Rows
import Derived.Lib.BytesEntry
import Derived.Lib.ConvBytes
import Derived.Lib.Hide
import Derived.LoopN
import Derived.Maps.OwnSet
import Derived.OwnWalk
import Derived.RegionTactic
import Derived.Shelf.Abstract
import Derived.Shelf.Bytes.SlIndexAt
import Derived.WalkLawsBesides
import Derived.WalkSpells
import GoSem.Core.Float
import Derived.Test.YtikjhfmmfpeaoaaGreatDoorBFs04
set_option maxHeartbeats 16000000
set_option maxRecDepth 1000000
namespace Go.Proofs.YtikjhfmmfpeaoaaGreatDoor
section
namespace ucdw
open sq
open Go Go.RowKit bulk ucdp
def rowC (r : Int × Nat × Nat × Int) : List Value := [.int .i64 r.1, .string (catB r.2.1), .string (scrB r.2.2.1), .int .i64 r.2.2.2]
def rowV (r : Int × Nat × Nat × Int) : Value := .agg #[.int .i64 r.1, .string (catB r.2.1), .string (scrB r.2.2.1), .int .i64 r.2.2.2]
def blkV (l : List (Int × Nat × Nat × Int)) : Value := .agg (l.flatMap rowC).toArray
def tabV : Value := .agg (tab.flatMap fun l => l.flatMap rowC).toArray
theorem idx_blk (b : Nat) (hb : b < 9) (w : World) : (Instr.index 175 tabV (.int .i64 b)).run Tryz.prog w = .ok (blkV (tab.getD b [])) w := by
 have h : b = 0 ∨ b = 1 ∨ b = 2 ∨ b = 3 ∨ b = 4 ∨ b = 5 ∨ b = 6 ∨ b = 7 ∨ b = 8 := by omega
 rcases h with rfl | rfl | rfl | rfl | rfl | rfl | rfl | rfl | rfl <;> (show _ = _; kernel_rfl)
theorem idx_row (b p : Nat) (hb : b < 9) (hp : p < 11) (w : World) : (Instr.index 174 (blkV (tab.getD b [])) (.int .i64 p)).run Tryz.prog w = .ok (rowV (tabAt b p)) w := by
 have h : b = 0 ∨ b = 1 ∨ b = 2 ∨ b = 3 ∨ b = 4 ∨ b = 5 ∨ b = 6 ∨ b = 7 ∨ b = 8 := by omega
 have k : p = 0 ∨ p = 1 ∨ p = 2 ∨ p = 3 ∨ p = 4 ∨ p = 5 ∨ p = 6 ∨ p = 7 ∨ p = 8 ∨ p = 9 ∨ p = 10 := by omega
 rcases h with rfl | rfl | rfl | rfl | rfl | rfl | rfl | rfl | rfl <;>
 rcases k with rfl | rfl | rfl | rfl | rfl | rfl | rfl | rfl | rfl | rfl | rfl <;> (show _ = _; kernel_rfl)
def RowPost (r : Int × Nat × Nat × Int) (w : World) (e : Ending) (w' : World) : Prop := e = .returned (rowV r) ∧ Below w.heap.size w w'
theorem at_any (b p : Nat) (hb : b < 9) (hp : p < 11) (w : World) : Calls Tryz.prog 124 #[.int .i64 b, .int .i64 p] w (RowPost (tabAt b p) w) := by
 go_enter Tryz.func124, Tryz.ntmps124;go_upto_region 1 with (fail)
 refine wp_region_list ?_;refine wpList_bulk_w 109 (by kernel_rfl) ?_;generalize hA : acts _ _ _ _ = A;have e0 : A.eval (.tmp 0) = .int .i64 b := by rw [← hA]; kernel_rfl
 have e1 : A.eval (.tmp 1) = .int .i64 p := by rw [← hA]; kernel_rfl
 have e4 : A.eval (.tmp 4) = .pointer (some ⟨w.heap.size, 0, none⟩) := by rw [← hA]; kernel_rfl
 have e113 : A.eval (.tmp 113) = tabV := by rw [← hA]; kernel_rfl
 have ez : A.tmps.size = 118 := by rw [← hA]; kernel_rfl
 have ed : A.defers = [] := by rw [← hA]; kernel_rfl
 clear hA;show wpList _ _ _ [_, _, _, _, _] _ _;refine wpList_value rfl (run_move rfl e0) ?_;refine wpList_value rfl (run_index rfl ((eval_put_other (by decide)).trans e113) (eval_put_same (by omega)) (idx_blk b hb _)) ?_;refine wpList_value rfl (run_move rfl ((eval_put_other (by decide)).trans ((eval_put_other (by decide)).trans e1))) ?_;refine wpList_value rfl (run_index rfl ((eval_put_other (by decide)).trans (eval_put_same (by simp only [size_put]; omega))) (eval_put_same (by simp only [size_put]; omega)) (idx_row b p hb hp _)) ?_;have a4 := (eval_put_other (a := ((A.put (some 114) (.int .i64 b)).put (some 115) (blkV (tab.getD b []))).put (some 116) (.int .i64 p)) (d := 117) (v := rowV (tabAt b p)) (t := 4) (by decide)).trans ((eval_put_other (by decide)).trans ((eval_put_other (by decide)).trans ((eval_put_other (by decide)).trans e4)));have a117 := eval_put_same (a := ((A.put (some 114) (.int .i64 b)).put (some 115) (blkV (tab.getD b []))).put (some 116) (.int .i64 p)) (d := 117) (v := rowV (tabAt b p)) (by simp only [size_put]; omega);have az : ((((A.put (some 114) (.int .i64 b)).put (some 115) (blkV (tab.getD b []))).put (some 116) (.int .i64 p)).put (some 117) (rowV (tabAt b p))).tmps.size = 118 := by simp only [size_put]; exact ez
 have ad : ((((A.put (some 114) (.int .i64 b)).put (some 115) (blkV (tab.getD b []))).put (some 116) (.int .i64 p)).put (some 117) (rowV (tabAt b p))).defers = [] := ed;show wpList _ _ _ _ ((((A.put (some 114) (.int .i64 b)).put (some 115) (blkV (tab.getD b []))).put (some 116) (.int .i64 p)).put (some 117) (rowV (tabAt b p))) _;generalize (((A.put (some 114) (.int .i64 b)).put (some 115) (blkV (tab.getD b []))).put (some 116) (.int .i64 p)).put (some 117) (rowV (tabAt b p)) = B at *;clear e0 e1 e4 e113 ez ed;generalize tabAt b p = r at *;unfold rowV at a117;have c4 := tmps_of az (by decide) a4;have c117 := tmps_of az (by decide) a117;clear a4 a117
 go_step
 go_step
 go_step
 go_step
 go_step
 go_step
 go_step
 refine xB (v := rowV r) (by simp [results, Tryz.results124, go_sem, c4, az, rowV]) ad ⟨rfl, (Below.refl _ _).alloc (xL _) _⟩
theorem cell_lt {w : World} {a : Addr} {v : Value} (h : w.cell? a = some v) : a.block < w.heap.size := by exact z120
theorem qf {w w' : World} (h : Below w.heap.size w w') {a : Addr} {v : Value} (hc : w.cell? a = some v) : w'.cell? a = some v := by rw [h.cell (cell_lt hc)]; exact hc
theorem qi {a b c : World} (h : Below a.heap.size a b) (k : Below b.heap.size b c) : Below a.heap.size a c := h.trans (k.mono h.size)
theorem qL (w : World) : Below w.heap.size w w.drew := ⟨rfl, rfl, rfl, xL _, fun _ _ => rfl⟩
def BoolB (r : Bool) (w : World) (e : Ending) (w' : World) : Prop := e = .returned (.bool r) ∧ Below w.heap.size w w'
def IntB (r : Int) (w : World) (e : Ending) (w' : World) : Prop := e = .returned (.int .i64 r) ∧ Below w.heap.size w w'
theorem at_vals {b p : Nat} {t : Int} {k s : Nat} {o : Int} (h : tabAt b p = (t, k, s, o)) (hb : b < 9) (hp : p < 11) (w : World) :
 Calls Tryz.prog 124 #[.int .i64 b, .int .i64 p] w fun e w' => e = .returned (.agg #[.int .i64 t, .string (catB k), .string (scrB s), .int .i64 o]) ∧ Below w.heap.size w w' := by
 have := at_any b p hb hp w;rw [h] at this;exact this
theorem field0 (a b c d : Value) (w : World) : (Instr.field 156 (.agg #[a, b, c, d]) 0).run Tryz.prog w = .ok a w := by kernel_rfl
theorem field3 (a b c d : Value) (w : World) : (Instr.field 156 (.agg #[a, b, c, d]) 3).run Tryz.prog w = .ok d w := by kernel_rfl
theorem clo1_any (c : Int) (i B : Nat) (hi9 : i < 9) (w : World) (hc : w.cell? ⟨B, 0, none⟩ = some (.int .i64 c)) :
 Calls Tryz.prog 123 #[.int .i64 i, .pointer (some ⟨B, 0, none⟩)] w (BoolB (decide (c ≤ hi i 10)) w) := by
 obtain ⟨⟨t, k, s, o⟩, hr⟩ : ∃ r, tabAt i 10 = r := ⟨_, rfl⟩;rw [show hi i 10 = t by unfold hi; rw [hr]];have HAt := xH (fun w1 => at_vals hr hi9 (by decide) w1);have hf0 := field0;clear hr;go_enter Tryz.func123, Tryz.ntmps123;go_wp2_with fail
 go_region_held3 (fun w' => w'.cell? ⟨B, 0, none⟩ = some (.int .i64 c) ∧ Below w.heap.size w w') (first | exact ⟨by simpa using hc, qL _⟩ | (go_split_ands; exact ⟨qf hb1 (by assumption), qi (by assumption) hb1⟩))
  (first | (go_at_call 124; refine (HAt.out _).mono ?_; rintro e w1 ⟨rfl, hb1⟩))
 go_wp2_with fail
 go_ret
 go_split_ands
 exact ⟨rfl, by assumption⟩
theorem clo2_any (c : Int) (b p B C : Nat) (hb9 : b < 9) (hp11 : p < 11) (w : World) (hc : w.cell? ⟨B, 0, none⟩ = some (.int .i64 c)) (hd : w.cell? ⟨C, 0, none⟩ = some (.int .i64 b)) :
 Calls Tryz.prog 125 #[.int .i64 p, .pointer (some ⟨B, 0, none⟩), .pointer (some ⟨C, 0, none⟩)] w (BoolB (decide (c ≤ hi b p)) w) := by
 obtain ⟨⟨t, k, s, o⟩, hr⟩ : ∃ r, tabAt b p = r := ⟨_, rfl⟩;rw [show hi b p = t by unfold hi; rw [hr]];have HAt := xH (fun w1 => at_vals hr hb9 hp11 w1);have hf0 := field0;clear hr;go_enter Tryz.func125, Tryz.ntmps125;go_wp2_with fail
 go_region_held3 (fun w' => w'.cell? ⟨B, 0, none⟩ = some (.int .i64 c) ∧ w'.cell? ⟨C, 0, none⟩ = some (.int .i64 b) ∧ Below w.heap.size w w') (first | exact ⟨by simpa using hc, by simpa using hd, qL _⟩ | (go_split_ands; exact ⟨qf hb1 (by assumption), qf hb1 (by assumption), qi (by assumption) hb1⟩))
  (first | (go_at_call 124; refine (HAt.out _).mono ?_; rintro e w1 ⟨rfl, hb1⟩))
 go_wp2_with fail
 go_ret
 go_split_ands
 exact ⟨rfl, by assumption⟩
def FirstPost (h : Nat → Bool) (n : Nat) (w : World) (e : Ending) (w' : World) : Prop := ∃ i : Nat, i < n ∧ h i = true ∧ (i = 0 ∨ h (i - 1) = false) ∧ e = .returned (.int .i64 i) ∧ Below w.heap.size w w'
theorem first_any (g : Nat) (lb : Array Value) (h : Nat → Bool) (n : Nat) (w : World) (h1 : 1 ≤ n) (h2 : n ≤ 1000) (hl : h (n - 1) = true)
 (eg : ∀ args w, (callFunc g args).run Tryz.prog w = .ok (.enter g args) w)
 (hC : ∀ i, i < n → ∀ w1, Below w.heap.size w w1 → Calls Tryz.prog g (#[.int .i64 i] ++ lb) w1 (BoolB (h i) w1)) :
 Calls Tryz.prog 122 #[.int .i64 n, .func (.func g) #[] lb] w (FirstPost h n w) := by
 have Hl := xH hl;have HC := xH hC;clear hl hC;go_enter Tryz.func122, Tryz.ntmps122;go_wp2_with fail
 go_loopw [5, 6] (fun lv uv wr => ∃ l u : Nat, l ≤ u ∧ u < n ∧ lv = .int .i64 l ∧ uv = .int .i64 u ∧ Hid (h u = true) ∧ Hid (l = 0 ∨ h (l - 1) = false) ∧ Below w.heap.size w wr) (fun lv uv _ => (intOf uv - intOf lv).toNat)
 case atStart => exact ⟨0, n - 1, Nat.zero_le _, by omega, rfl, by rw [Int.natCast_sub h1]; rfl, Hl, xH (Or.inl rfl), Below.refl _ _⟩
 case round =>
  obtain ⟨l, u, hlu, hun, rfl, rfl, HU, HL, hb⟩ := hrel;by_cases hlt : l < u
  ·obtain ⟨m, hm⟩ : ∃ m : Nat, ((l : Int) + u) / 2 = m := ⟨(l + u) / 2, by omega⟩;have hm1 : l ≤ m := by omega
   have hm2 : m < u := by omega
   have hcm := HC.out m (by omega) _ hb;cases hv : h m with
   | true =>
    rw [hv] at hcm;have Hv := xH hv;have Hcm := xH hcm;clear hv hcm;go_wp2_with fail
    refine Hcm.out.mono ?_;rintro e w2 ⟨rfl, hb2⟩;go_wp2_with fail
    go_roundw
    case rel => exact ⟨l, m, by omega, by omega, rfl, rfl, Hv, HL, qi hb hb2⟩
    case measure => simp [intOf]; omega
   | false =>
    rw [hv] at hcm;have Hv := xH (show m + 1 = 0 ∨ h (m + 1 - 1) = false from Or.inr hv);have Hcm := xH hcm;clear hv hcm;go_wp2_with fail
    refine Hcm.out.mono ?_;rintro e w2 ⟨rfl, hb2⟩;go_wp2_with fail
    go_roundw
    case rel => exact ⟨m + 1, u, by omega, by omega, by go_num, rfl, HU, Hv, qi hb hb2⟩
    case measure => simp [intOf]; omega
  ·have hle : u ≤ l := by omega
   go_wp2_with fail
   go_ret
   obtain rfl : l = u := by omega
   exact ⟨l, hun, HU.out, HL.out, rfl, hb⟩
theorem qg (w : World) (o : Obj) : Below w.heap.size w (w.alloc o) := (Below.refl _ _).alloc (xL _) _
def RowP (k : Nat × Nat × Int) (w : World) (e : Ending) (w' : World) : Prop := ∃ t : Int, e = .returned (.agg #[.int .i64 t, .string (catB k.1), .string (scrB k.2.1), .int .i64 k.2.2]) ∧ Below w.heap.size w w'
def Found1 (c : Int) (B : Nat) (w : World) (e : Ending) (w' : World) : Prop := ∃ i : Nat, i < 9 ∧ c ≤ hi i 10 ∧ (i = 0 ∨ hi (i - 1) 10 < c) ∧ e = .returned (.int .i64 i) ∧ Below w.heap.size w w' ∧ w'.cell? ⟨B, 0, none⟩ = some (.int .i64 c)
def Found2 (c : Int) (b C : Nat) (w : World) (e : Ending) (w' : World) : Prop := ∃ i : Nat, i < 11 ∧ c ≤ hi b i ∧ (i = 0 ∨ hi b (i - 1) < c) ∧ e = .returned (.int .i64 i) ∧ Below w.heap.size w w' ∧ w'.cell? ⟨C, 0, none⟩ = some (.int .i64 b)
theorem first1 (c : Int) (B : Nat) (w : World) (h2 : c ≤ 9223372036854775807) (hc : w.cell? ⟨B, 0, none⟩ = some (.int .i64 c)) :
 Calls Tryz.prog 122 #[.int .i64 (9 : Int), .func (.func 123) #[] #[.pointer (some ⟨B, 0, none⟩)]] w (Found1 c B w) := by
 refine (first_any 123 #[.pointer (some ⟨B, 0, none⟩)] (fun i => decide (c ≤ hi i 10)) 9 w (by decide) (by decide) (by rw [hi_last]; simpa using h2) (enters_of Tryz.func123 (by kernel_rfl) rfl)
  (fun i hi w1 hb => clo1_any c i B hi w1 (qf hb hc))).mono fun e w' ⟨i, h3, h4, h5, h6, h7⟩ => ⟨i, h3, by simpa using h4, ?_, h6, h7, qf h7 hc⟩
 rcases h5 with h5 | h5
 ·exact Or.inl h5
 ·exact Or.inr (by simpa using h5)
theorem first2 (c : Int) (b B C : Nat) (w : World) (hb9 : b < 9) (h2 : c ≤ hi b 10) (hc : w.cell? ⟨B, 0, none⟩ = some (.int .i64 c)) (hd : w.cell? ⟨C, 0, none⟩ = some (.int .i64 b)) :
 Calls Tryz.prog 122 #[.int .i64 (11 : Int), .func (.func 125) #[] #[.pointer (some ⟨B, 0, none⟩), .pointer (some ⟨C, 0, none⟩)]] w (Found2 c b C w) := by
 refine (first_any 125 #[.pointer (some ⟨B, 0, none⟩), .pointer (some ⟨C, 0, none⟩)] (fun i => decide (c ≤ hi b i)) 11 w (by decide) (by decide) (by simpa using h2) (enters_of Tryz.func125 (by kernel_rfl) rfl)
  (fun i hi w1 hb => clo2_any c b i B C hb9 hi w1 (qf hb hc) (qf hb hd))).mono fun e w' ⟨i, h3, h4, h5, h6, h7⟩ => ⟨i, h3, by simpa using h4, ?_, h6, h7, qf h7 hd⟩
 rcases h5 with h5 | h5
 ·exact Or.inl h5
 ·exact Or.inr (by simpa using h5)
theorem row_found {c : Int} {b p : Nat} {t : Int} {k s : Nat} {o : Int} (h1 : -9223372036854775808 ≤ c) (hb : b < 9) (hp : p < 11) (hb0 : b = 0 ∨ hi (b - 1) 10 < c) (hp0 : p = 0 ∨ hi b (p - 1) < c) (hc : c ≤ hi b p) (ht : tabAt b p = (t, k, s, o)) :
 cls c = (k, s, o) := by
 rw [cls_at hb hp ?_ hc, ht];unfold lo;split
 ·split
  ·omega
  ·rcases hb0 with h | h
   ·contradiction
   ·exact h
 ·rcases hp0 with h | h
  ·contradiction
  ·exact h
theorem find_any (c : Int) (w : World) (h1 : -9223372036854775808 ≤ c) (h2 : c ≤ 9223372036854775807) : Calls Tryz.prog 118 #[.int .i64 c] w (RowP (cls c) w) := by
 have HF := xH (fun B w1 hc => first1 c B w1 h2 hc);have HG := xH (fun b B C w1 hb9 hh hc hd => first2 c b B C w1 hb9 hh hc hd);have HA := xH (fun b p t k s o (ht : tabAt b p = (t, k, s, o)) hb hp w1 => at_vals (t := t) (k := k) (s := s) (o := o) ht hb hp w1);have H1 := xH h1;clear h1 h2;go_enter Tryz.func118, Tryz.ntmps118;go_wp2_with fail
 refine (HF.out w.heap.size _ (by simp)).mono ?_;rintro e w1 ⟨b, hb9, hbt, hbf, rfl, hb1, hc1⟩;have Hbt := xH hbt;have Hbf := xH hbf;clear hbt hbf;go_wp2_with fail
 refine (HG.out b w.heap.size w1.heap.size _ hb9 Hbt.out (qf ((Below.refl _ _).alloc (xL _) _) hc1) (by simp)).mono ?_;rintro e w2 ⟨p, hp11, hpt, hpf, rfl, hb2, hd2⟩;have hw2 := qi hb1 (qi (qg w1 _) hb2);obtain ⟨⟨t, k, s, o⟩, hr⟩ : ∃ r, tabAt b p = r := ⟨_, rfl⟩;have Hk := xH (row_found H1.out hb9 hp11 Hbf.out hpf hpt hr);have Hat := xH (HA.out b p t k s o hr hb9 hp11);clear hpt hpf hr hb1 hb2;go_wp2_with fail
 refine (Hat.out _).mono ?_;rintro e w3 ⟨rfl, hb3⟩;have hw3 := qi hw2 hb3;have c0 := (hw3.cell (p := ⟨w.heap.size + 1, 0, none⟩) (by simp)).trans (show _ = some (.int .i64 0) by simp);have c1 := (hw3.cell (p := ⟨w.heap.size + 1, 1, none⟩) (by simp)).trans (show _ = some (.string ⟨#[]⟩) by simp);have c2 := (hw3.cell (p := ⟨w.heap.size + 1, 2, none⟩) (by simp)).trans (show _ = some (.string ⟨#[]⟩) by simp);have c3 := (hw3.cell (p := ⟨w.heap.size + 1, 3, none⟩) (by simp)).trans (show _ = some (.int .i64 0) by simp);have f0 := (hw3.frozen (p := ⟨w.heap.size + 1, 0, none⟩) (by simp)).trans (show _ = false by simp);have f1 := (hw3.frozen (p := ⟨w.heap.size + 1, 1, none⟩) (by simp)).trans (show _ = false by simp);have f2 := (hw3.frozen (p := ⟨w.heap.size + 1, 2, none⟩) (by simp)).trans (show _ = false by simp);have f3 := (hw3.frozen (p := ⟨w.heap.size + 1, 3, none⟩) (by simp)).trans (show _ = false by simp);have hB := qi (qi (qg w _) (qg _ _)) hw3;clear hw2 hw3 hb3 hd2 hc1;go_wp2_with fail
 refine xB (v := .agg #[.int .i64 t, .string (catB k), .string (scrB s), .int .i64 o]) (by simp [results, Tryz.results118, go_sem, c0, c1, c2, c3]) rfl ⟨t, by rw [Hk.out], ?_⟩;exact (((hB.setCell (by simp) _).setCell (by simp) _).setCell (by simp) _).setCell (by simp) _
theorem infoInt : (Tryz.prog.info? 3).map (fun i => (i.zero, i.size, i.bytes)) = some (some (.int .i64 0), 1, 8) := by kernel_rfl
def ic (l : List Int) : List Value := l.map (Value.int .i64)
def OwnI (w : World) (base : Nat) (v : Value) (D : List Int) : Prop := w.ownsRow base 3 1 v D.length (ic D)
theorem wpList_append_i {ops : Array Oper} {rest : List Oper} {o : Oper} {a : Act} {w : World} {Q : Exit → Act → World → Prop} (hgd : o.guard = none) (s x : Operand)
 (ho : o.op = .call { callee := .builtin .append, args := #[s, x], argTypes := #[35, 35] }) (base : Nat) (v : Value) (D : List Int) (hs : a.eval s = v) (hown : OwnI w base v D)
 (q : Int) (B : Nat) (hx : a.eval x = .slice (some ⟨B, 0, none⟩) 1 1) (hB : B = w.heap.size) (hlen : D.length ≤ 4000) (hbase : base ≤ w.heap.size)
 (h : ∀ v' w', OwnI w' base v' (D ++ [q]) → (∀ B w1, Below B w1 w → B ≤ base → Below B w1 w') → wpList Tryz.prog ops Q rest (a.put o.dst v') w') :
 wpList Tryz.prog ops Q (o :: rest) a (w.alloc (.cells #[.int .i64 q] 3)) := by
 subst hB;obtain ⟨i0, hi, hz0, hz1, hz2⟩ := info_parts infoInt;refine wpList_append_own _ hgd s x _ ho base 3 i0 (.int .i64 0) 1 8 Tryz.underlying35 hi hz0 hz1 hz2 rfl (by decide) v _ _ hs (World.ownsRow.alloc hown _) ⟨w.heap.size, 0, none⟩ 1 1 [.int .i64 q] hx rfl ?_ ?_ (by unfold maxLen; omega) (by omega) (by rw [World.size_alloc]; omega) ?_
 ·intro j u hj;exact z47
 ·intro u hu;simp only [List.mem_cons, dM, or_false] at hu;subst hu;rfl
 ·intro v' w' hown' hgr _;refine h v' w' ?_ (fun B w1 hb hB => (hb.alloc (by have := hb.size; omega) _).grown hgr (by rw [World.size_alloc]; omega) (fun k hk => ?_))
  ·have e : ic (D ++ [q]) = ic D ++ [.int .i64 q] := by simp [ic]
   unfold OwnI;rw [e];simpa using hown'
  ·have := (World.ownsRow.lt hown) k hk;omega
theorem ownI_nil (w : World) (base : Nat) : OwnI w base (.slice none 0 0) [] := World.ownsRow_nil w base _ 1
def IntsAt (base : Nat) (w : World) (v : Value) (l : List Int) : Prop :=
 (l = [] ∧ v = .slice none 0 0) ∨ (l ≠ [] ∧ ∃ b cap : Nat, v = .slice (some ⟨b, 0, none⟩) l.length cap ∧ base ≤ b ∧ b < w.heap.size ∧ l.length ≤ cap ∧ cap ≤ 9223372036854775807 ∧ ∀ i, i < l.length → w.cell? ⟨b, i, none⟩ = some (.int .i64 (l.getD i 0)))
def IntsB (l : List Int) (w : World) (e : Ending) (w' : World) : Prop := ∃ v, e = .returned v ∧ IntsAt w.heap.size w' v l ∧ Below w.heap.size w w'
theorem intsAt_own {w : World} {base : Nat} {v : Value} {D : List Int} (h : OwnI w base v D) (hD : D ≠ []) : IntsAt base w v D := by
 have h' := h;obtain ⟨_, h2⟩ := h;rcases h2 with ⟨_, hn⟩ | ⟨g, cap, cur, hv, hg, hh, hnc, hcm, _⟩
 ·exact absurd (List.eq_nil_of_length_eq_zero hn) hD
 ·unfold maxLen at hcm;have hlt : g < w.heap.size := by exact z131
  refine Or.inr ⟨hD, g, cap, hv, hg, hlt, hnc, by omega, fun k hk => ?_⟩;unfold OwnI at h';rw [hv] at h';rw [h'.cellAt k (by omega)];simp [ic, List.getD, hk]
theorem without_1 (x y z : Int) (w : World) (hy : (y != x) = true) (hz : (z != x) = true) : Calls Tryz.prog 117 #[.agg #[.int .i64 x, .int .i64 y, .int .i64 z], .int .i64 x] w (IntsB [y, z] w) := by
 have i0 : ∀ w, (Instr.index 152 (.agg #[.int .i64 x, .int .i64 y, .int .i64 z]) (.int .i64 0)).run Tryz.prog w = .ok (.int .i64 x) w := fun _ => by kernel_rfl
 have i1 : ∀ w, (Instr.index 152 (.agg #[.int .i64 x, .int .i64 y, .int .i64 z]) (.int .i64 1)).run Tryz.prog w = .ok (.int .i64 y) w := fun _ => by kernel_rfl
 have i2 : ∀ w, (Instr.index 152 (.agg #[.int .i64 x, .int .i64 y, .int .i64 z]) (.int .i64 2)).run Tryz.prog w = .ok (.int .i64 z) w := fun _ => by kernel_rfl
 go_enter Tryz.func117, Tryz.ntmps117;go_wp2_with fail
 refine wp_loop_rounds 4 ?_;rw [rounds_succ];go_wp2_with fail
 rw [rounds_succ];go_wp2_with (at_builtin; refine wpList_append_i rfl _ _ rfl w.heap.size (.slice none 0 0) [] rfl (ownI_nil _ _) y _ rfl (by simp) (by simp) (by simp only [World.size_alloc]; omega) ?_; intro va wa hoa hba; have HOa := xH hoa; have hwa := hba _ _ (qg w _) (xL _); clear hoa hba)
 rw [rounds_succ];go_wp2_with (at_builtin; refine wpList_append_i rfl _ _ rfl w.heap.size va ([] ++ [y]) rfl HOa.out z _ rfl (by simp) (by simp) hwa.size ?_; intro vb wb hob hbb; have HOb := xH hob; have hwb := hbb _ _ hwa (xL _); clear hob hbb)
 exact z138
theorem without_2 (x y z : Int) (w : World) (hx : (x != y) = true) (hz : (z != y) = true) : Calls Tryz.prog 117 #[.agg #[.int .i64 x, .int .i64 y, .int .i64 z], .int .i64 y] w (IntsB [x, z] w) := by
 have i0 : ∀ w, (Instr.index 152 (.agg #[.int .i64 x, .int .i64 y, .int .i64 z]) (.int .i64 0)).run Tryz.prog w = .ok (.int .i64 x) w := fun _ => by kernel_rfl
 have i1 : ∀ w, (Instr.index 152 (.agg #[.int .i64 x, .int .i64 y, .int .i64 z]) (.int .i64 1)).run Tryz.prog w = .ok (.int .i64 y) w := fun _ => by kernel_rfl
 have i2 : ∀ w, (Instr.index 152 (.agg #[.int .i64 x, .int .i64 y, .int .i64 z]) (.int .i64 2)).run Tryz.prog w = .ok (.int .i64 z) w := fun _ => by kernel_rfl
 go_enter Tryz.func117, Tryz.ntmps117;go_wp2_with fail
 refine wp_loop_rounds 4 ?_;rw [rounds_succ];go_wp2_with (at_builtin; refine wpList_append_i rfl _ _ rfl w.heap.size (.slice none 0 0) [] rfl (ownI_nil _ _) x _ rfl (by simp) (by simp) (by simp only [World.size_alloc]; omega) ?_; intro va wa hoa hba; have HOa := xH hoa; have hwa := hba _ _ (qg w _) (xL _); clear hoa hba)
 rw [rounds_succ];go_wp2_with fail
 rw [rounds_succ];go_wp2_with (at_builtin; refine wpList_append_i rfl _ _ rfl w.heap.size va ([] ++ [x]) rfl HOa.out z _ rfl (by simp) (by simp) hwa.size ?_; intro vb wb hob hbb; have HOb := xH hob; have hwb := hbb _ _ hwa (xL _); clear hob hbb)
 exact z138
theorem without_3 (x y z : Int) (w : World) (hx : (x != z) = true) (hy : (y != z) = true) : Calls Tryz.prog 117 #[.agg #[.int .i64 x, .int .i64 y, .int .i64 z], .int .i64 z] w (IntsB [x, y] w) := by
 have i0 : ∀ w, (Instr.index 152 (.agg #[.int .i64 x, .int .i64 y, .int .i64 z]) (.int .i64 0)).run Tryz.prog w = .ok (.int .i64 x) w := fun _ => by kernel_rfl
 have i1 : ∀ w, (Instr.index 152 (.agg #[.int .i64 x, .int .i64 y, .int .i64 z]) (.int .i64 1)).run Tryz.prog w = .ok (.int .i64 y) w := fun _ => by kernel_rfl
 have i2 : ∀ w, (Instr.index 152 (.agg #[.int .i64 x, .int .i64 y, .int .i64 z]) (.int .i64 2)).run Tryz.prog w = .ok (.int .i64 z) w := fun _ => by kernel_rfl
 go_enter Tryz.func117, Tryz.ntmps117;go_wp2_with fail
 refine wp_loop_rounds 4 ?_;rw [rounds_succ];go_wp2_with (at_builtin; refine wpList_append_i rfl _ _ rfl w.heap.size (.slice none 0 0) [] rfl (ownI_nil _ _) x _ rfl (by simp) (by simp) (by simp only [World.size_alloc]; omega) ?_; intro va wa hoa hba; have HOa := xH hoa; have hwa := hba _ _ (qg w _) (xL _); clear hoa hba)
 rw [rounds_succ];go_wp2_with (at_builtin; refine wpList_append_i rfl _ _ rfl w.heap.size va ([] ++ [x]) rfl HOa.out y _ rfl (by simp) (by simp) hwa.size ?_; intro vb wb hob hbb; have HOb := xH hob; have hwb := hbb _ _ hwa (xL _); clear hob hbb)
 rw [rounds_succ];go_wp2_with fail
 exact z138
def threes : List Int := [75, 107, 8490, 83, 115, 383, 181, 924, 956, 931, 962, 963]
def Tab3 (w : World) : Prop := ∀ i, i < 12 → w.cell? ⟨0, i, none⟩ = some (.int .i64 (threes.getD i 0))
theorem below_tab {w w' : World} (h : Below w.heap.size w w') (hT : Tab3 w) : Tab3 w' := fun i hi => qf h (hT i hi)
theorem others_great {c : Int} (h : 127 < c) : jy c false = [] := by unfold jy;rw [if_pos rfl, if_neg (by omega), if_neg (by omega)]
theorem others_small {c : Int} (h : c ≤ 127) : jy c false = if (cls c).2.2 = 0 then [] else [c + (cls c).2.2] := by
 by_cases h0 : c < 0
 ·have hs : (cls c).2.2 = 0 := by apply dC;intro h;have := shift_small h;omega
  unfold jy;rw [if_pos rfl, if_neg (by omega), if_neg (by omega), if_pos hs]
 ·have all : ∀ i : Fin 128, jy (i.val : Int) false = if (cls (i.val : Int)).2.2 = 0 then [] else [(i.val : Int) + (cls (i.val : Int)).2.2] := by decide +kernel
  have := all ⟨c.toNat, by omega⟩;rw [show ((c.toNat : Nat) : Int) = c by omega] at this;exact this
theorem intsB_nil {l : List Int} {w w' : World} (h : l = []) (hb : Below w.heap.size w w') : IntsB l w (.returned (.slice none 0 0)) w' := by subst h;exact ⟨_, rfl, Or.inl ⟨rfl, rfl⟩, hb⟩
theorem intsB_one {l : List Int} {x : Int} {w w' : World} (h : l = [x]) (hb : Below w.heap.size w w') (T : TypeId) : IntsB l w (.returned (.slice (some ⟨w'.heap.size, 0, none⟩) 1 1)) (w'.alloc (.cells #[.int .i64 x] T)) := by
 subst h;refine ⟨_, rfl, Or.inr ⟨by simp, _, 1, rfl, hb.size, by simp, by simp, by omega, fun i hi => ?_⟩, qi hb (qg _ _)⟩;have h0 : i = 0 := by simpa using hi
 subst h0;simp
theorem intsAt_mono {b b' : Nat} {w : World} {v : Value} {l : List Int} (h : b ≤ b') (hv : IntsAt b' w v l) : IntsAt b w v l := by
 rcases hv with hv | ⟨hl, g, cap, e, hg, r⟩
 ·exact Or.inl hv
 ·exact Or.inr ⟨hl, g, cap, e, Nat.le_trans h hg, r⟩
theorem others_f1 (c : Int) (w : World) (h : 127 < c) : Calls Tryz.prog 112 #[.int .i64 c, .bool false] w (IntsB (jy c false) w) := by
 have HE := xH (others_great h);go_enter Tryz.func112, Tryz.ntmps112;go_wp2_with fail
 go_ret
 exact intsB_nil HE.out (Below.refl _ _)
theorem others_f2 (c : Int) (w : World) (h : c ≤ 127) (h1 : -9223372036854775808 ≤ c) : Calls Tryz.prog 112 #[.int .i64 c, .bool false] w (IntsB (jy c false) w) := by
 have hE := others_small h;have hF := find_any c w h1 (by omega);have hs := shift_bd c;have hp := @shift_small c;have hf := field3;obtain ⟨⟨k, s, o⟩, hr⟩ : ∃ r, cls c = r := ⟨_, rfl⟩;rw [hr] at hE hF hs hp;simp only at hE hs hp;obtain ⟨hs1, hs2⟩ := hs;have HF := xH hF;clear hF hr;by_cases h0 : o = 0
 ·subst h0;rw [if_pos rfl] at hE;have HE := xH hE;clear hE hp;go_enter Tryz.func112, Tryz.ntmps112;go_wp2_with fail
  refine HF.out.mono ?_;rintro e w1 ⟨t, rfl, hb1⟩;go_wp2_with fail
  go_ret
  exact intsB_nil HE.out hb1
 ·rw [if_neg h0] at hE;have HE := xH hE;have hp1 := hp h0;obtain ⟨hp1, hp2⟩ := hp1;have h0b : (o != 0) = true := by simpa using h0
  clear hE hp h0;go_enter Tryz.func112, Tryz.ntmps112;go_wp2_with fail
  refine HF.out.mono ?_;rintro e w1 ⟨t, rfl, hb1⟩;go_wp2_with fail
  go_ret
  exact intsB_one HE.out hb1 _
end ucdw
end
section
namespace setw
open sq
open Go Go.RowKit bulk ucdp ucdw setp
def Wf (l : List Rg) : Prop := ∀ r ∈ l, (-9223372036854775808 ≤ r.1 ∧ r.1 ≤ 9223372036854775807) ∧ (-9223372036854775808 ≤ r.2 ∧ r.2 ≤ 9223372036854775807)
def RsAt (w : World) (v : Value) (l : List Rg) : Prop :=
 Wf l ∧ ((l = [] ∧ ∃ a cap, v = .slice a 0 cap ∧ cap ≤ 9223372036854775807) ∨ (l ≠ [] ∧ ∃ b off cap, v = .slice (some ⟨b, off, none⟩) l.length cap ∧ l.length ≤ cap ∧ cap ≤ 9223372036854775807 ∧
  ∀ i (hi : i < l.length), w.cell? ⟨b, off + i * 2, none⟩ = some (.int .i64 l[i].1) ∧ w.cell? ⟨b, off + i * 2 + 1, none⟩ = some (.int .i64 l[i].2)))
theorem jl {w w' : World} {v : Value} {l : List Rg} (h : RsAt w v l) (hb : Below w.heap.size w w') : RsAt w' v l := by
 obtain ⟨hw, h | ⟨hS, b, off, cap, hv, h1, h2, hc⟩⟩ := h
 ·exact ⟨hw, Or.inl h⟩
 ·exact ⟨hw, Or.inr ⟨hS, b, off, cap, hv, h1, h2, fun i hi => ⟨qf hb (hc i hi).1, qf hb (hc i hi).2⟩⟩⟩
theorem jg {w : World} {v : Value} {l : List Rg} (h : RsAt w v l) : ∃ a cap, v = .slice a l.length cap := by
 obtain ⟨_, ⟨h, a, cap, hv, _⟩ | ⟨_, b, off, cap, hv, _⟩⟩ := h
 ·subst h; exact ⟨_, _, hv⟩
 ·exact ⟨_, _, hv⟩
theorem infoRange : (Tryz.prog.info? 57).map (fun i => (i.zero, i.size, i.bytes)) = some (some (.agg #[.int .i64 0, .int .i64 0]), 2, 16) := by kernel_rfl
def rcs (l : List Rg) : List Value := l.flatMap fun r => [.int .i64 r.1, .int .i64 r.2]
def OwnR (w : World) (base : Nat) (v : Value) (D : List Rg) : Prop := w.ownsRow base 57 2 v D.length (rcs D) ∧ (D = [] → v = .slice none 0 0)
theorem qm (w : World) (base : Nat) : OwnR w base (.slice none 0 0) [] := ⟨World.ownsRow_nil w base _ 2, fun _ => rfl⟩
theorem wpList_append_r {ops : Array Oper} {rest : List Oper} {o : Oper} {a : Act} {w : World} {Q : Exit → Act → World → Prop} (hgd : o.guard = none) (s x : Operand)
 (ho : o.op = .call { callee := .builtin .append, args := #[s, x], argTypes := #[24, 24] }) (base : Nat) (v : Value) (D : List Rg) (hs : a.eval s = v) (hown : OwnR w base v D)
 (q1 q2 : Int) (B : Nat) (hx : a.eval x = .slice (some ⟨B, 0, none⟩) 1 1) (hB : B = w.heap.size) (hlen : D.length ≤ 100000000) (hbase : base ≤ w.heap.size)
 (h : ∀ v' w', OwnR w' base v' (D ++ [(q1, q2)]) → (∀ B w1, Below B w1 w → B ≤ base → Below B w1 w') → wpList Tryz.prog ops Q rest (a.put o.dst v') w') :
 wpList Tryz.prog ops Q (o :: rest) a (w.alloc (.cells #[.int .i64 q1, .int .i64 q2] 57)) := by
 subst hB;obtain ⟨i0, hi, hz0, hz1, hz2⟩ := info_parts infoRange;refine wpList_append_own _ hgd s x _ ho base 57 i0 (.agg #[.int .i64 0, .int .i64 0]) 2 16 Tryz.underlying24 hi hz0 hz1 hz2 rfl (by decide) v _ _ hs (World.ownsRow.alloc hown.1 _) ⟨w.heap.size, 0, none⟩ 1 1 [.int .i64 q1, .int .i64 q2] hx rfl ?_ ?_ (by unfold maxLen; omega) (by omega) (by rw [World.size_alloc]; omega) ?_
 ·intro j u hj;exact z77
 ·intro u hu;exact z137
 ·intro v' w' hown' hgr _;exact z44
def hasB (S : List Rg) (c : Int) : Bool := S.any fun r => decide (r.1 ≤ c) && decide (c ≤ r.2)
theorem zX {S : List Rg} {c : Int} : hasB S c = true ↔ Has S c := by simp [hasB, Has]
theorem ownR_slice {w : World} {base : Nat} {v : Value} {S : List Rg} (h : OwnR w base v S) (hS : S ≠ []) : ∃ g cap : Nat, v = .slice (some ⟨g, 0, none⟩) S.length cap ∧ base ≤ g ∧ S.length ≤ cap ∧ cap ≤ 9223372036854775807 ∧
 ∀ i (hi : i < S.length), w.cell? ⟨g, i * 2, none⟩ = some (.int .i64 S[i].1) ∧ w.cell? ⟨g, i * 2 + 1, none⟩ = some (.int .i64 S[i].2) := by
 have h1 := h.1;obtain ⟨_, h2⟩ := h.1;rcases h2 with ⟨_, hn⟩ | ⟨g, cap, cur, hv, hg, hh, hnc, hcm, _⟩
 ·exact absurd (List.eq_nil_of_length_eq_zero hn) hS
 ·unfold maxLen at hcm;rw [hv] at h1;refine ⟨g, cap, hv, hg, hnc, by omega, fun i hi => ?_⟩;have hr : ∀ (l : List Rg) (i : Nat) (hi : i < l.length), (rcs l)[i * 2]? = some (.int .i64 l[i].1) ∧ (rcs l)[i * 2 + 1]? = some (.int .i64 l[i].2) := by
   intro l
   induction l with
   | nil => intro i hi; cases hi
   | cons r l ih =>
    intro i hi;cases i with
    | zero => exact ⟨rfl, rfl⟩
    | succ i =>
     exact z53
  have := hr S i hi;constructor
  ·rw [h1.cellAt _ (by omega)]; exact this.1
  ·rw [h1.cellAt _ (by omega)]; exact this.2
theorem qN {w : World} {base : Nat} {v : Value} {S : List Rg} (h : OwnR w base v S) : ∃ a cap, v = .slice a S.length cap := by
 by_cases hS : S = []
 ·subst hS; exact ⟨_, _, h.2 rfl⟩
 ·obtain ⟨g, cap, hv, _⟩ := ownR_slice h hS;exact ⟨_, _, hv⟩
theorem hasB_take {S : List Rg} {k : Nat} (hk : k < S.length) (c : Int) : hasB (S.take (k + 1)) c = (hasB (S.take k) c || (decide (S[k].1 ≤ c) && decide (c ≤ S[k].2))) := by unfold hasB;rw [take_snoc hk, List.any_append];simp
theorem jX {S : List Rg} (h : InR S) : Wf S := fun r hr => by
 have := h r hr;omega
theorem vP {w : World} {base : Nat} {v : Value} {S : List Rg} (h : OwnR w base v S) (hw : Wf S) : RsAt w v S := by
 refine ⟨hw, ?_⟩;by_cases hS : S = []
 ·subst hS;exact Or.inl ⟨rfl, _, _, h.2 rfl, by omega⟩
 ·obtain ⟨g, cap, hv, _, h1, h2, hc⟩ := ownR_slice h hS;exact Or.inr ⟨hS, g, 0, cap, hv, h1, h2, fun i hi => by simpa using hc i hi⟩
end setw
end
section
namespace tkw
open sq
open Go Go.RowKit Go.Maps utfp utfw ucdp setp setw prp tkp
abbrev ob00 : Obj := .cells #[.int .i64 15, .int .i64 0, .int .i64 0, .int .i64 0, .slice none 0 0, .bool false, .int .i64 0, .int .i64 0, .int .i64 0, .string ⟨#[]⟩, .int .i64 0, .int .i64 0] 68
abbrev ob01 : Obj := .cells #[.int .i64 10, .int .i64 0, .int .i64 0, .int .i64 0, .slice none 0 0, .bool false, .int .i64 0, .int .i64 0, .int .i64 0, .string ⟨#[]⟩, .int .i64 0, .int .i64 0] 68
abbrev ob02 : Obj := .cells #[.int .i64 10, .int .i64 0, .int .i64 0, .int .i64 0, .slice none 0 0, .bool false, .int .i64 1, .int .i64 0, .int .i64 0, .string ⟨#[]⟩, .int .i64 0, .int .i64 0] 68
structure Kept (B L : Nat) (w w' : World) : Prop where
 os : w'.os = w.os
 tape : w'.tape = w.tape
 output : w'.output = w.output
 size : w.heap.size ≤ w'.heap.size
 block : ∀ k, k < B → k ≠ L → w'.heap[k]? = w.heap[k]?
theorem Kept.refl (B L : Nat) (w : World) : Kept B L w w := ⟨rfl, rfl, rfl, xL _, fun _ _ _ => rfl⟩
theorem Kept.trans {B L : Nat} {a b c : World} (h : Kept B L a b) (k : Kept B L b c) : Kept B L a c :=
 ⟨k.os.trans h.os, k.tape.trans h.tape, k.output.trans h.output, Nat.le_trans h.size k.size, fun i hi hL => (k.block i hi hL).trans (h.block i hi hL)⟩
theorem Kept.mono {B B' L : Nat} {w w' : World} (h : Kept B L w w') (hB : B' ≤ B) : Kept B' L w w' := ⟨h.os, h.tape, h.output, h.size, fun k hk => h.block k (Nat.lt_of_lt_of_le hk hB)⟩
theorem Kept.then {L : Nat} {a b c : World} (h : Kept a.heap.size L a b) (k : Kept b.heap.size L b c) : Kept a.heap.size L a c := h.trans (k.mono h.size)
theorem Kept.of_below {B L : Nat} {w w' : World} (h : Below B w w') : Kept B L w w' := ⟨h.os, h.tape, h.output, h.size, fun k hk _ => h.block k hk⟩
theorem Kept.below {B L : Nat} {w w' : World} (h : Kept B L w w') (hB : L < B) : Below L w w' := ⟨h.os, h.tape, h.output, h.size, fun k hk => h.block k (Nat.lt_trans hk hB) (Nat.ne_of_lt hk)⟩
theorem Kept.grown {L : Nat} {w w' : World} (h : Kept w.heap.size L w w') : w.grownBy w' (some L) := ⟨h.os, h.tape, h.output, h.size, fun k hk hne => h.block k hk (fun e => hne (by rw [e]))⟩
theorem Kept.cell {B L : Nat} {w w' : World} (h : Kept B L w w') {a : Addr} (hB : a.block < B) (hL : a.block ≠ L) : w'.cell? a = w.cell? a := World.cell?_of_block (h.block a.block hB hL)
theorem Kept.frozen {B L : Nat} {w w' : World} (h : Kept B L w w') {a : Addr} (hB : a.block < B) (hL : a.block ≠ L) : w'.frozen? a = w.frozen? a := World.frozen?_of_block (h.block a.block hB hL)
theorem Kept.setCell {B L : Nat} {a w : World} (h : Kept B L a w) (o : Nat) (v : Value) : Kept B L a (w.setCell ⟨L, o, none⟩ v) :=
 h.trans ⟨rfl, rfl, rfl, by simp [World.setCell], fun k _ hL => Below.heap_setCell w ⟨L, o, none⟩ v k hL⟩
theorem Kept.alloc {B L : Nat} {a w : World} (h : Kept B L a w) (hB : B ≤ w.heap.size) (o : Obj) : Kept B L a (w.alloc o) :=
 h.trans (Kept.of_below ((Below.refl _ _).alloc hB o))
theorem Kept.drew {B L : Nat} {a w : World} (h : Kept B L a w) : Kept B L a w.drew := ⟨h.os, h.tape, h.output, h.size, h.block⟩
theorem Kept.drewN {B L : Nat} {a w : World} (h : Kept B L a w) (n : Nat) : Kept B L a (w.drewN n) := ⟨h.os, h.tape, h.output, h.size, h.block⟩
def qO (v : Value) (t : Tk) : List Value := [.int .i64 t.kind, .int .i64 t.at_, .int .i64 t.to, .int .i64 t.c, v, .bool t.neg, .int .i64 t.n, .int .i64 t.m, .int .i64 t.mode, .string t.name, .int .i64 t.on, .int .i64 t.off]
def yw (w : World) (base : Nat) (v : Value) (T : List Tk) : Prop :=
 ∃ l : List (Tk × Value), l.map (·.1) = T ∧ (∀ p ∈ l, OwnR w base p.2 p.1.set) ∧ w.ownsRow base 68 12 v l.length (l.flatMap fun p => qO p.2 p.1)
theorem own_lt {w : World} {base : Nat} {e : TypeId} {size : Nat} {v : Value} {n : Nat} {xs : List Value} (h : w.ownsRow base e size v n xs) {L : Nat} (hL : L < base) : v.ownBlock = none ∨ v.ownBlock ≠ some L := by
 cases hv : v.ownBlock with
 | none => exact Or.inl rfl
 | some k =>
  refine Or.inr fun e => ?_
  have := (World.ownsRow.lt h k hv).1;simp only [dG] at e;omega
theorem ownR_kept {w w' : World} {base L : Nat} {v : Value} {D : List Rg} (h : OwnR w base v D) (hk : Kept w.heap.size L w w') (hL : L < base) : OwnR w' base v D := ⟨World.ownsRow.kept h.1 hk.grown (own_lt h.1 hL), h.2⟩
theorem tokRow_kept {w w' : World} {base L : Nat} {v : Value} {T : List Tk} (h : yw w base v T) (hk : Kept w.heap.size L w w') (hL : L < base) : yw w' base v T := by obtain ⟨l, h1, h2, h3⟩ := h;exact ⟨l, h1, fun p hp => ownR_kept (h2 p hp) hk hL, World.ownsRow.kept h3 hk.grown (own_lt h3 hL)⟩
theorem heap_set {w : World} {L o : Nat} {C : Array Value} {T : TypeId} {fz : Nat × Nat} {v : Value} (h : w.heap[L]? = some (.cells C T fz)) : (w.setCell ⟨L, o, none⟩ v).heap[L]? = some (.cells (C.setIfInBounds o v) T fz) := by simp [World.setCell, Array.getElem?_modify, h]
def sg (s : ByteArray) (i : Nat) : Int := ((s.data.toList.getD i 0).toNat : Int)
theorem sg_bd (s : ByteArray) (i : Nat) : 0 ≤ sg s i ∧ sg s i ≤ 255 := by unfold sg;have := UInt8.toNat_lt (s.data.toList.getD i 0);omega
theorem jM (w : World) (s : ByteArray) : Below w.heap.size w (Lib.bytesWorld w 5 s) := by
 refine ⟨?_, ?_, ?_, by rw [Lib.bytesWorld_size]; omega, fun k hk => Lib.bytesWorld_at_old w 5 s k hk⟩
 all_goals (unfold Lib.bytesWorld World.freeze; split <;> rfl)
theorem vJ (w : World) (s : ByteArray) (hs : s.size ≤ 1000) : (convert 9 22 (.string s)).run Tryz.prog w = .ok (.slice (some ⟨w.heap.size, 0, none⟩) s.size (grownCap w s.size 0 5)) (Lib.bytesWorld w 5 s) ∧
 Sl (Lib.bytesWorld w 5 s) (.slice (some ⟨w.heap.size, 0, none⟩) s.size (grownCap w s.size 0 5)) s.size (sg s) := by
 refine ⟨Lib.run_convert_string_bytes w _ _ _ s Tryz.underlying9 Tryz.underlying22 Tryz.underlying5, sg_bd s, by omega, Or.inr ⟨_, 0, _, rfl, ⟨grownCap_ge _ _ _ _, ?_⟩, fun i hi => ?_⟩⟩
 ·have := grownCap_le_maxLen w s.size 0 5 (by unfold maxLen; omega);unfold maxLen at this;omega
 ·rw [Nat.zero_add, Lib.bytesWorld_cell w _ s i hi];rfl
theorem has_iff {p : Pt} : ∀ {s : List UInt8} {a : Nat}, a ≤ p.n → (p.has s a = true ↔ a + s.length ≤ p.n ∧ ∀ i, i < s.length → p.g (a + i) = ((s.getD i 0).toNat : Int))
 | [], a, h => by simp [Pt.has, h]
 | c :: s, a, h => by
  unfold Pt.has;simp only [dK, dF, dB];constructor
  ·rintro ⟨⟨h1, h2⟩, h3⟩;obtain ⟨k1, k2⟩ := (has_iff (by omega)).1 h3;refine ⟨by omega, fun i hi => ?_⟩;cases i with
   | zero => simpa using h2
   | succ i =>
    have := k2 i (by omega);simp only [List.getD_cons_succ];rw [← this]
    congr 1
    omega
  ·rintro ⟨h1, h2⟩;refine ⟨⟨by omega, by simpa using h2 0 (by omega)⟩, (has_iff (by omega)).2 ⟨by omega, fun i hi => ?_⟩⟩;have := h2 (i + 1) (by omega);simp only [List.getD_cons_succ] at this;rw [← this]
   congr 1
   omega
theorem zI {B : Nat} {w w' : World} (h : Below B w w') (n : Nat) : Below B w (w'.drewN n) := ⟨h.os, h.tape, h.output, h.size, h.block⟩
theorem has_le {p : Pt} {s : List UInt8} {a : Nat} (ha : a ≤ p.n) (h : p.has s a = true) : a + s.length ≤ p.n := ((has_iff ha).1 h).1
theorem Kept.lt {L : Nat} {w w' : World} (h : Kept w.heap.size L w w') : w.heap.size ≤ w'.heap.size := h.size
theorem char_pure {p : Pt} (hg : ∀ i, 0 ≤ p.g i ∧ p.g i ≤ 255) {a : Nat} (ha : a ≤ p.n) : nextP p.u p.g p.n a = ((p.char a).1, ((p.char a).2 : Int)) ∧ a ≤ (p.char a).2 ∧ (p.char a).2 ≤ p.n ∧ (a < p.n → a < (p.char a).2) := by
 unfold Pt.char;by_cases h : a < p.n
 ·obtain ⟨s1, s2, s3⟩ := stepN_bd (utf := p.u) hg h;rw [nextP_step _ _ _ _ hg h];simp only [Int.toNat_natCast];exact ⟨trivial, by omega, s2, fun _ => s1⟩
 ·have : nextP p.u p.g p.n a = (-1, (a : Int)) := by unfold nextP; rw [if_pos (by omega)]
  rw [this];simp only [Int.toNat_natCast];exact ⟨trivial, by omega, ha, fun hlt => absurd hlt h⟩
theorem run_end {p : Pt} {fits : Int → Bool} {k a : Nat} (h : a = p.n ∨ fits (p.g a) = false) : p.run fits k a = a := by
 cases k with
 | zero => rfl
 | succ k =>
  rw [Pt.run, if_neg];rcases h with h | h
  ·simp [h]
  ·simp [h]
theorem run_bd {p : Pt} {fits : Int → Bool} : ∀ {k a : Nat}, a ≤ p.n → a ≤ p.run fits k a ∧ p.run fits k a ≤ p.n ∧ p.run fits k a ≤ a + k
 | 0, a, h => ⟨xL _, h, xL _⟩
 | k + 1, a, h => by
  unfold Pt.run;split
  ·rename_i hc;simp only [dK, dF] at hc;have := run_bd (p := p) (fits := fits) (k := k) (a := a + 1) (by omega);omega
  ·exact ⟨xL _, h, by omega⟩
theorem run_fits {p : Pt} {fits : Int → Bool} : ∀ {k a i : Nat}, a ≤ i → i < p.run fits k a → fits (p.g i) = true
 | 0, a, i, h1, h2 => by unfold Pt.run at h2; omega
 | k + 1, a, i, h1, h2 => by
  unfold Pt.run at h2;split at h2
  ·rename_i hc;simp only [dK, dF] at hc;by_cases e : i = a
   ·subst e; exact hc.2
   ·exact run_fits (k := k) (a := a + 1) (by omega) h2
  ·omega
theorem sub_size (p : Pt) (a b : Nat) : (p.sub a b).size = b - a := by show (strOfNums _).data.size = _;simp [strOfNums]
theorem sub_at {p : Pt} (hg : ∀ i, 0 ≤ p.g i ∧ p.g i ≤ 255) {a b k : Nat} (hk : k < (p.sub a b).size) : (((p.sub a b)[k]'hk).toNat : Int) = p.g (a + k) := by have h2 := hk;rw [sub_size] at h2;have := hg (a + k);show (((strOfNums _).data[k]'_).toNat : Int) = _;simp [strOfNums];omega
theorem val_bd {p : Pt} {a : Nat} : ∀ k, (∀ i, i < k → 48 ≤ p.g (a + i) ∧ p.g (a + i) ≤ 57) → 0 ≤ p.val a k ∧ p.val a k ≤ 256
 | 0, _ => by simp [Pt.val]
 | k + 1, h => by
  have h1 := val_bd k fun i hi => h i (by omega)
  have h2 := h k (by omega);unfold Pt.val;omega
theorem dig_bd {p : Pt} {k a i : Nat} (h1 : a ≤ i) (h2 : i < p.run isDig k a) : 48 ≤ p.g i ∧ p.g i ≤ 57 := by have := run_fits h1 h2;simpa [isDig] using this
theorem sign_bd {p : Pt} {a : Nat} (ha : a ≤ p.n) : a ≤ (p.sign a).2 ∧ (p.sign a).2 ≤ p.n := by unfold Pt.sign;exact z61
theorem find_bd {p : Pt} {c : Int} : ∀ {k a i : Nat}, p.find c k a = some i → a ≤ i ∧ i < a + k
 | 0, a, i, h => by cases h
 | k + 1, a, i, h => by
  unfold Pt.find at h;split at h
  ·cases h; omega
  ·have := find_bd h; omega
theorem qK (w : World) (o : Obj) : Below w.heap.size w (w.alloc o) := (Below.refl _ _).alloc (xL _) o
def tkA (v : Value) (t : Tk) : Array Value := #[.int .i64 t.kind, .int .i64 t.at_, .int .i64 t.to, .int .i64 t.c, v, .bool t.neg, .int .i64 t.n, .int .i64 t.m, .int .i64 t.mode, .string t.name, .int .i64 t.on, .int .i64 t.off]
theorem vI : (Tryz.prog.info? 68).map (fun i => (i.zero, i.size, i.bytes)) = some (some (.agg #[.int .i64 0, .int .i64 0, .int .i64 0, .int .i64 0, .slice none 0 0, .bool false, .int .i64 0, .int .i64 0, .int .i64 0, .string ⟨#[]⟩, .int .i64 0, .int .i64 0]), 12, 120) := by kernel_rfl
theorem own_apart {w : World} {b1 b2 : Nat} {e1 e2 : TypeId} {s1 s2 : Nat} {v1 v2 : Value} {n1 n2 : Nat} {xs1 xs2 : List Value} (h1 : w.ownsRow b1 e1 s1 v1 n1 xs1) (h2 : w.ownsRow b2 e2 s2 v2 n2 xs2) (he : e1 ≠ e2) : v1.ownBlock = none ∨ v1.ownBlock ≠ v2.ownBlock := by
 obtain ⟨_, ⟨rfl, _⟩ | ⟨g1, c1, cu1, rfl, _, k1, _⟩⟩ := h1
 ·exact Or.inl rfl
 ·obtain ⟨_, ⟨rfl, _⟩ | ⟨g2, c2, cu2, rfl, _, k2, _⟩⟩ := h2
  ·exact Or.inr (by simp [Value.ownBlock])
  ·refine Or.inr fun e => he ?_
   simp only [Value.ownBlock, dG] at e;subst e;rw [k1] at k2;simp only [dG, Obj.cells.injEq] at k2;exact k2.2.1
theorem tkA_cells (v : Value) (t : Tk) : (tkA v t).toList = qO v t := rfl
theorem mode_bd {p : Pt} {a : Nat} (ha : a ≤ p.n) : a ≤ (p.mode a).2 ∧ (p.mode a).2 ≤ p.n := by unfold Pt.mode;exact z61
def tkR (v : Value) (t : Tk) : Array Value := #[.int .i64 t.kind, .int .i64 0, .int .i64 0, .int .i64 t.c, v, .bool t.neg, .int .i64 t.n, .int .i64 t.m, .int .i64 t.mode, .string t.name, .int .i64 t.on, .int .i64 t.off]
theorem tokInfo : (Tryz.prog.info? 68).map (·.size) = some 12 := by kernel_rfl
theorem qX {ops : Array Oper} {rest : List Oper} {o : Oper} {a : Act} {w : World} {Q : Exit → Act → World → Prop} (hgd : o.guard = none) (x : Operand) (ho : o.op = .load 68 x)
 (g : Nat) (hx : a.eval x = .pointer (some ⟨g, 0, none⟩)) (cs : Array Value) (hg : w.heap[g]? = some (.cells cs 68 (0, 0))) (hc : cs.size = 12)
 (h : wpList Tryz.prog ops Q rest (a.put o.dst (.agg cs)) w) : wpList Tryz.prog ops Q (o :: rest) a w := by
 exact wpList_load_row hgd 68 x ho g hx 68 cs (0, 0) _ hg Tryz.underlying68 rfl (by rw [tokInfo, hc]) h
theorem setRow_other (w : World) (g k : Nat) (cs : Array Value) (h : k ≠ g) : (w.setRow g cs).heap[k]? = w.heap[k]? := by simp only [World.setRow, Array.getElem?_modify];rw [if_neg (by omega)]
theorem setRow_size (w : World) (g : Nat) (cs : Array Value) : (w.setRow g cs).heap.size = w.heap.size := by simp [World.setRow]
theorem Kept.setRow {B L : Nat} {a w : World} (h : Kept B L a w) {g : Nat} (hg : B ≤ g) (cs : Array Value) : Kept B L a (w.setRow g cs) :=
 h.trans ⟨rfl, rfl, rfl, by rw [setRow_size]; exact xL _, fun k hk _ => setRow_other w g k cs (by omega)⟩
theorem jJ {w w' : World} {base : Nat} {e : TypeId} {size : Nat} {v : Value} {n : Nat} {xs : List Value} (h : w.ownsRow base e size v n xs) (hb : ∀ k, v.ownBlock = some k → w'.heap[k]? = w.heap[k]?) : w'.ownsRow base e size v n xs := by exact z107
end tkw
end
section
namespace flt
open sq
open Go Ieee
def fwn (n : Nat) : Nat := FloatKind.f64.nearest (n : Int)
theorem lim1 {L m B : Nat} (hL : L ≤ 52) (hm : m < 2 * B) : (L + 1022) * B + m ≤ 2047 * B := by have h := Nat.mul_le_mul_right B (show L + 1022 ≤ 1074 by omega);omega
theorem up_lt {n : Nat} (hL : n.log2 ≤ 52) : n * 2 ^ (52 - n.log2) < 2 * 2 ^ 52 := by
 have h1 : n < 2 ^ (n.log2 + 1) := Nat.lt_log2_self;have h2 : 2 ^ (n.log2 + 1) * 2 ^ (52 - n.log2) = 2 * 2 ^ 52 := by rw [← Nat.pow_add, show n.log2 + 1 + (52 - n.log2) = 52 + 1 by omega, Nat.pow_succ, Nat.mul_comm]
 rw [← h2];exact Nat.mul_lt_mul_of_pos_right h1 (Nat.two_pow_pos _)
theorem up_ge {n : Nat} (h0 : n ≠ 0) (hL : n.log2 ≤ 52) : 2 ^ 52 ≤ n * 2 ^ (52 - n.log2) := by
 have h1 : 2 ^ n.log2 ≤ n := Nat.log2_self_le h0;have h2 : 2 ^ n.log2 * 2 ^ (52 - n.log2) = 2 ^ 52 := by rw [← Nat.pow_add, show n.log2 + (52 - n.log2) = 52 by omega]
 rw [← h2];exact Nat.mul_le_mul_right _ h1
theorem log_le {n : Nat} (h0 : n ≠ 0) (h : n < 2 ^ 53) : n.log2 ≤ 52 := by have := (Nat.log2_lt h0).2 h;omega
theorem least : double.leastPlace = -1074 := by decide
theorem rungs : double.infRung = 2047 * 2 ^ 52 := by decide +kernel
theorem cut_none (n : Nat) : Toward.even.cut false n 0 = n := by simp [Toward.cut, Nat.mod_one]
theorem binade_eq : double.binade = 2 ^ 52 := rfl
theorem fraction_eq : double.fractionBits = 52 := rfl
theorem near_any (f : Format) (n B : Nat) (hf : f.fractionBits = 52) (hl : f.leastPlace = -1074) (hb : f.binade = B) (hr : f.infRung = 2047 * B) (h0 : n ≠ 0) (hL : n.log2 ≤ 52) (hup : n * 2 ^ (52 - n.log2) < 2 * B) : f.nearest false n 0 = (n.log2 + 1022) * B + n * 2 ^ (52 - n.log2) := by
 unfold Format.nearest;rw [if_neg h0, hl, hr, hf, hb];have e1 : max ((0 : Int) + (n.log2 : Int) - ((52 : Nat) : Int)) (-1074) = (n.log2 : Int) - 52 := by omega
 have e2 : ((0 : Int) - ((n.log2 : Int) - 52)).toNat = 52 - n.log2 := by omega
 have e3 : ((n.log2 : Int) - 52 - 0).toNat = 0 := by omega
 have e4 : ((n.log2 : Int) - 52 - (-1074)).toNat = n.log2 + 1022 := by omega
 simp only [e1, e2, e3, e4, cut_none, Nat.shiftLeft_eq];rw [Nat.min_eq_left (lim1 hL hup)];rfl
theorem near (n : Nat) (h0 : n ≠ 0) (hL : n.log2 ≤ 52) : double.nearest false n 0 = (n.log2 + 1022) * 2 ^ 52 + n * 2 ^ (52 - n.log2) :=
 near_any double n (2 ^ 52) fraction_eq least binade_eq rungs h0 hL (up_lt hL)
theorem fw_pos {n : Nat} (h0 : n ≠ 0) (h : n < 2 ^ 53) : fwn n = (n.log2 + 1022) * 2 ^ 52 + n * 2 ^ (52 - n.log2) := by have hd : fwn n = double.nearest (decide ((n : Int) < 0)) (n : Int).natAbs 0 := rfl;rw [hd, show decide ((n : Int) < 0) = false by simp, Int.natAbs_natCast, near n h0 (log_le h0 h)]
theorem read_any (L m B : Nat) (hL : L ≤ 52) (hB : 0 < B) (h1 : B ≤ m) (h2 : m < 2 * B) : ((L + 1022) * B + m) / (2048 * B) = 0 ∧ ((L + 1022) * B + m) % (2048 * B) = (L + 1022) * B + m ∧ ((L + 1022) * B + m) / B = L + 1023 ∧ ((L + 1022) * B + m) % B = m - B := by
 obtain ⟨r, rfl⟩ : ∃ r, m = B + r := ⟨m - B, by omega⟩;have hr : r < B := by omega
 have h := Nat.mul_le_mul_right B (show L + 1022 ≤ 1074 by omega);have e : (L + 1022) * B + (B + r) = r + B * (L + 1023) := by rw [show L + 1023 = L + 1022 + 1 by omega, Nat.mul_add B, Nat.mul_one, Nat.mul_comm B]; omega
 refine ⟨Nat.div_eq_of_lt (by omega), Nat.mod_eq_of_lt (by omega), ?_, ?_⟩
 ·rw [e, Nat.add_mul_div_left _ _ hB, Nat.div_eq_of_lt hr, Nat.zero_add]
 ·rw [e, Nat.add_mul_mod_self_left, Nat.mod_eq_of_lt hr]; omega
theorem read_f (f : Format) (L m B : Nat) (hl : f.leastPlace = -1074) (hb : f.binade = B) (hr : f.infRung = 2047 * B) (hs : f.signWeight = 2048 * B) (hL : L ≤ 52) (hlo : B ≤ m) (hup : m < 2 * B) (hB : 0 < B) : f.read ((L + 1022) * B + m) = .number false m ((L : Int) - 52) := by
 unfold Format.read;rw [hl, hr, hs, hb];obtain ⟨e1, e2, e3, e4⟩ := read_any L m B hL hB hlo hup;have h5 := Nat.mul_le_mul_right B (show L + 1022 ≤ 1074 by omega);have h6 : ¬ ((L + 1022) * B + m < B) := by omega
 have h7 : (L + 1022) * B + m < 2047 * B := by omega
 simp only [e1, e2, e3, e4, if_neg h6, if_pos h7];have e5 : B + (m - B) = m := by omega
 have e6 : (-1074 : Int) + ((L + 1023 - 1 : Nat) : Int) = (L : Int) - 52 := by omega
 rw [e5, e6];rfl
theorem sign_eq : double.signWeight = 2048 * 2 ^ 52 := by decide +kernel
theorem read_fw {n : Nat} (h0 : n ≠ 0) (h : n < 2 ^ 53) : FloatKind.f64.decode (fwn n) = .number false (n * 2 ^ (52 - n.log2)) ((n.log2 : Int) - 52) := by rw [fw_pos h0 h];exact read_f double _ _ (2 ^ 52) least binade_eq rungs sign_eq (log_le h0 h) (up_ge h0 (log_le h0 h)) (up_lt (log_le h0 h)) (Nat.two_pow_pos _)
theorem toInt_fw {n : Nat} (h : n < 2 ^ 53) : (FloatKind.f64.decode (fwn n)).toInt .zero = some (n : Int) := by
 by_cases h0 : n = 0
 ·subst h0; decide +kernel
 ·have hL := log_le h0 h;have hne : n * 2 ^ (52 - n.log2) ≠ 0 := Nat.mul_ne_zero h0 (Nat.pos_iff_ne_zero.1 (Nat.two_pow_pos _));have hlog : 52 - n.log2 ≤ (n * 2 ^ (52 - n.log2)).log2 := (Nat.le_log2 hne).2 (Nat.le_mul_of_pos_left _ (Nat.pos_of_ne_zero h0));rw [read_fw h0 h];unfold Datum.toInt Datum.integral;simp only [];have e1 : ((n.log2 : Int) - 52).toNat = 0 := by omega
  have e2 : (-((n.log2 : Int) - 52)).toNat = 52 - n.log2 := by omega
  rw [e1, e2, Nat.shiftLeft_zero];have hc : Toward.zero.cut false (n * 2 ^ (52 - n.log2)) (52 - n.log2) = n := by unfold Toward.cut;rw [Nat.min_eq_left (by omega), Nat.shiftLeft_eq, Nat.one_mul];simp only [Nat.mul_div_cancel _ (Nat.two_pow_pos (52 - n.log2))];rfl
  rw [hc];simp [signed]
def cl (x : Int) : Int := max 0 (min x 1114111)
def fw (x : Int) : Nat := FloatKind.f64.nearest (cl x)
theorem cl_bd (x : Int) : 0 ≤ cl x ∧ cl x ≤ 1114111 := by unfold cl; omega
theorem cl_id {x : Int} (h0 : 0 ≤ x) (h1 : x ≤ 1114111) : cl x = x := by unfold cl; omega
theorem fw_eq (x : Int) : fw x = fwn (cl x).toNat := by unfold fw fwn;rw [Int.toNat_of_nonneg (cl_bd x).1]
theorem small (x : Int) : (cl x).toNat < 2 ^ 53 := by have := cl_bd x;omega
theorem fw_int (x : Int) : (FloatKind.f64.decode (fw x)).toInt .zero = some (cl x) := by rw [fw_eq, toInt_fw (small x), Int.toNat_of_nonneg (cl_bd x).1]
theorem fw_near {x : Int} (h0 : 0 ≤ x) (h1 : x ≤ 1114111) : FloatKind.f64.nearest x = fw x := by unfold fw;rw [cl_id h0 h1]
end flt
end
end Go.Proofs.YtikjhfmmfpeaoaaGreatDoor
