/- T -/
import Derived.BigQuiet
import Derived.Deep.CutBlock
import Derived.Deep.DeepCutAuto
import Derived.Deep.QuietTactic
import Derived.Deep.RegionHeld3
import Derived.Deep.RegionWith
import Derived.IntWalk
import Derived.Laws.AppendOwn
import Derived.Laws.BytesArg
import Derived.Laws.Rows
import Derived.Lib.BytesEntry
import Derived.Lib.ConvBytes
import Derived.Lib.Hide
import Derived.Lib.LaidTab
import Derived.LoopN
import Derived.Maps.OwnSet
import Derived.OpenShut
import Derived.Outline
import Derived.OwnWalk
import Derived.ProofKit
import Derived.Shelf.Abstract
import Derived.Test.YtkcmjcgjfjfimaaGreatDoorRows
import Derived.WalkKit
import Derived.WalkLawsBesides
import Derived.WalkSpells
import Derived.Test.YtkcmjcgjfjfimaaGreatDoorBBl07
section
namespace Go.Proofs.YtkcmjcgjfjfimaaGreatDoor.tkw
open Go.Sort Go Go.RowKit Go.Maps utfp utfw ucdp setp setw prp tkp
theorem region_lit8 {P : Program} {n : Nat} {A B : Array Oper} {d : Bool} {Q : Exit → Act → World → Prop} {a : Act} {w : World} (h : A = B) (k : Code.wp P (.region n B d) Q a w) : Code.wp P (.region n A d) Q a w := by
 subst h
 exact k
def RcAt (w : World) (v : Value) (D : List Rg) : Prop := ∃ a cap, v = .slice a D.length cap ∧ D.length ≤ 9223372036854775807 ∧ (D = [] ∨ ∃ g off, a = some ⟨g, off, none⟩ ∧ ∀ i (hi : i < D.length), w.cell? ⟨g, off + i * 2, none⟩ = some (.int .i64 D[i].1) ∧ w.cell? ⟨g, off + i * 2 + 1, none⟩ = some (.int .i64 D[i].2))
def TkAt (w : World) (v : Value) (T : List Tk) : Prop := ∃ a cap, v = .slice a T.length cap ∧ T.length ≤ 100000 ∧ (T = [] ∨ ∃ g off, a = some ⟨g, off, none⟩ ∧ ∀ i t, T[i]? = some t → ∃ sv, RcAt w sv t.set ∧ ∀ j, j < 12 → w.cell? ⟨g, off + i * 12 + j, none⟩ = (tkCells sv t)[j]?)
theorem RcAt.below {w w' : World} {v : Value} {D : List Rg} (h : RcAt w v D) (hb : Below w.heap.size w w') : RcAt w' v D := by
 obtain ⟨a, cap, h1, h2, h3 | ⟨g, off, h3, h4⟩⟩ := h
 ·exact ⟨a, cap, h1, h2, Or.inl h3⟩
 ·exact ⟨a, cap, h1, h2, Or.inr ⟨g, off, h3, fun i hi => ⟨below_cell hb (h4 i hi).1, below_cell hb (h4 i hi).2⟩⟩⟩
theorem TkAt.below {w w' : World} {v : Value} {T : List Tk} (h : TkAt w v T) (hb : Below w.heap.size w w') : TkAt w' v T := by
 obtain ⟨a, cap, h1, h2, h3 | ⟨g, off, h3, h4⟩⟩ := h
 ·exact ⟨a, cap, h1, h2, Or.inl h3⟩
 ·refine ⟨a, cap, h1, h2, Or.inr ⟨g, off, h3, fun i t ht => ?_⟩⟩
  obtain ⟨sv, hs, hc⟩ := h4 i t ht
  refine ⟨sv, hs.below hb, fun j hj => ?_⟩
  have hl : (tkCells sv t)[j]? = some ((tkCells sv t)[j]'(by rw [tkCells_length]; exact hj)) := List.getElem?_eq_getElem _
  rw [hl]
  exact below_cell hb ((hc j hj).trans hl)
theorem rc_own {w : World} {base : Nat} {v : Value} {D : List Rg} (h : OwnR w base v D) : RcAt w v D := by
 by_cases hD : D = []
 ·subst hD
  rw [h.2 rfl]
  exact ⟨none, 0, rfl, by simp, Or.inl rfl⟩
 ·obtain ⟨g, cap, hv, _, h2, h3, hc⟩ := ownR_slice h hD
  subst hv
  refine ⟨some ⟨g, 0, none⟩, cap, rfl, by omega, Or.inr ⟨g, 0, rfl, fun i hi => ?_⟩⟩
  have := hc i hi
  rw [Nat.zero_add]
  exact this
set_option maxRecDepth 100000 in
set_option maxHeartbeats 8000000 in
theorem same_any (v1 v2 : Value) (T : List Tk) (w : World) (h1 : TkAt w v1 T) (h2 : TkAt w v2 T) : Calls Tryz.prog 8 #[v1, v2] w (BoolB true w) := by
 obtain ⟨a1, q1, rfl, hlen, k1⟩ := h1
 obtain ⟨a2, q2, rfl, _, k2⟩ := h2
 have H1 := Lib.hid k1
 have H2 := Lib.hid k2
 clear k1 k2
 go_enter Tryz.func8, Tryz.ntmps8
 go_wp2_with fail
 go_loopw [5] (fun iv wr => ∃ i : Nat, iv = .int .i64 i ∧ i ≤ T.length ∧ Below w.heap.size w wr) (fun iv _ => T.length - (intOf iv).toNat)
 case atStart => exact ⟨0, rfl, Nat.zero_le _, Below.refl _ _⟩
 case round =>
  obtain ⟨i, rfl, hi, hb⟩ := hrel
  by_cases hend : i = T.length
  ·subst hend
   go_wp2_with fail
   go_ret
   exact ⟨rfl, hb⟩
  ·have hlt : i < T.length := by omega
   rcases H1.out with h0 | ⟨g, off, rfl, hc⟩
   ·subst h0; simp at hlt
   rcases H2.out with h0 | ⟨g', off', rfl, hc'⟩
   ·subst h0; simp at hlt
   obtain ⟨t, ht⟩ : ∃ t, T[i]? = some t := ⟨_, List.getElem?_eq_getElem hlt⟩
   obtain ⟨sv, hs, hj⟩ := hc i t ht
   obtain ⟨sv', hs', hj'⟩ := hc' i t ht
   have HS := Lib.hid hs
   have HS' := Lib.hid hs'
   obtain ⟨sa, sq, rfl, hsl, _⟩ := hs
   obtain ⟨sa', sq', rfl, _, _⟩ := hs'
   have d0 : wr.cell? ⟨g, off + i * 12, none⟩ = some (.int .i64 t.kind) := below_cell hb (hj 0 (by decide))
   have d1 : wr.cell? ⟨g, off + i * 12 + 1, none⟩ = some (.int .i64 t.at_) := below_cell hb (hj 1 (by decide))
   have d2 : wr.cell? ⟨g, off + i * 12 + 2, none⟩ = some (.int .i64 t.to) := below_cell hb (hj 2 (by decide))
   have d3 : wr.cell? ⟨g, off + i * 12 + 3, none⟩ = some (.int .i64 t.c) := below_cell hb (hj 3 (by decide))
   have d4 : wr.cell? ⟨g, off + i * 12 + 4, none⟩ = some (.slice sa t.set.length sq) := below_cell hb (hj 4 (by decide))
   have d5 : wr.cell? ⟨g, off + i * 12 + 5, none⟩ = some (.bool t.neg) := below_cell hb (hj 5 (by decide))
   have d6 : wr.cell? ⟨g, off + i * 12 + 6, none⟩ = some (.int .i64 t.n) := below_cell hb (hj 6 (by decide))
   have d7 : wr.cell? ⟨g, off + i * 12 + 7, none⟩ = some (.int .i64 t.m) := below_cell hb (hj 7 (by decide))
   have d8 : wr.cell? ⟨g, off + i * 12 + 8, none⟩ = some (.int .i64 t.mode) := below_cell hb (hj 8 (by decide))
   have d9 : wr.cell? ⟨g, off + i * 12 + 9, none⟩ = some (.string t.name) := below_cell hb (hj 9 (by decide))
   have d10 : wr.cell? ⟨g, off + i * 12 + 10, none⟩ = some (.int .i64 t.on) := below_cell hb (hj 10 (by decide))
   have d11 : wr.cell? ⟨g, off + i * 12 + 11, none⟩ = some (.int .i64 t.off) := below_cell hb (hj 11 (by decide))
   have f0 : wr.cell? ⟨g', off' + i * 12, none⟩ = some (.int .i64 t.kind) := below_cell hb (hj' 0 (by decide))
   have f1 : wr.cell? ⟨g', off' + i * 12 + 1, none⟩ = some (.int .i64 t.at_) := below_cell hb (hj' 1 (by decide))
   have f2 : wr.cell? ⟨g', off' + i * 12 + 2, none⟩ = some (.int .i64 t.to) := below_cell hb (hj' 2 (by decide))
   have f3 : wr.cell? ⟨g', off' + i * 12 + 3, none⟩ = some (.int .i64 t.c) := below_cell hb (hj' 3 (by decide))
   have f4 : wr.cell? ⟨g', off' + i * 12 + 4, none⟩ = some ((.slice sa' t.set.length sq')) := below_cell hb (hj' 4 (by decide))
   have f5 : wr.cell? ⟨g', off' + i * 12 + 5, none⟩ = some (.bool t.neg) := below_cell hb (hj' 5 (by decide))
   have f6 : wr.cell? ⟨g', off' + i * 12 + 6, none⟩ = some (.int .i64 t.n) := below_cell hb (hj' 6 (by decide))
   have f7 : wr.cell? ⟨g', off' + i * 12 + 7, none⟩ = some (.int .i64 t.m) := below_cell hb (hj' 7 (by decide))
   have f8 : wr.cell? ⟨g', off' + i * 12 + 8, none⟩ = some (.int .i64 t.mode) := below_cell hb (hj' 8 (by decide))
   have f9 : wr.cell? ⟨g', off' + i * 12 + 9, none⟩ = some (.string t.name) := below_cell hb (hj' 9 (by decide))
   have f10 : wr.cell? ⟨g', off' + i * 12 + 10, none⟩ = some (.int .i64 t.on) := below_cell hb (hj' 10 (by decide))
   have f11 : wr.cell? ⟨g', off' + i * 12 + 11, none⟩ = some (.int .i64 t.off) := below_cell hb (hj' 11 (by decide))
   have hadd := add_row g off i 12
   have hadd2 := add_row g' off' i 12
   have hk0 : (0 : Int) ≤ (i : Int) := by omega
   have hkL : (i : Int) < (T.length : Int) := by omega
   clear hc hc' hj hj' ht
   obtain ⟨tk, ta, tt, tc, tset, tneg, tn, tm, tmd, tname, ton, toff⟩ := t
   simp only at d0 d1 d2 d3 d4 d5 d6 d7 d8 d9 d10 d11 f0 f1 f2 f3 f4 f5 f6 f7 f8 f9 f10 f11 HS HS' hsl
   have n0 : (tk != tk) = false := by simp
   have n1 : ((ta : Int) != (ta : Int)) = false := by simp
   have n2 : ((tt : Int) != (tt : Int)) = false := by simp
   have n3 : (tc != tc) = false := by simp
   have n5 : (tneg != tneg) = false := by simp
   have n6 : (tn != tn) = false := by simp
   have n7 : (tm != tm) = false := by simp
   have n8 : (tmd != tmd) = false := by simp
   have n9 : (tname.toList != tname.toList) = false := by simp
   have n10 : (ton != ton) = false := by simp
   have n11 : (toff != toff) = false := by simp
   have n4 : ((tset.length : Int) != (tset.length : Int)) = false := by simp
   go_upto_region 7 with (fail)
   obtain ⟨X, hX⟩ : ∃ X, wr.heap.size = X := ⟨_, rfl⟩
   generalize hW1 : wr.alloc _ = W1
   have hbw1 : Below wr.heap.size wr W1 := by rw [← hW1]; exact below_al _ _
   have hx1 : W1.heap[X]? = some (.cells #[.int .i64 tk, .int .i64 ta, .int .i64 tt, .int .i64 tc, .slice sa tset.length sq, .bool tneg, .int .i64 tn, .int .i64 tm, .int .i64 tmd, .string tname, .int .i64 ton, .int .i64 toff] 30 (0, 0)) := by rw [← hW1, ← hX]; exact heap_alloc_new _ _
   have hz1 : W1.heap.size = X + 1 := by rw [← hW1, World.size_alloc, hX]
   have HB1 := Lib.hid (below_trans hb hbw1)
   replace f0 := below_cell hbw1 f0
   replace f1 := below_cell hbw1 f1
   replace f2 := below_cell hbw1 f2
   replace f3 := below_cell hbw1 f3
   replace f4 := below_cell hbw1 f4
   replace f5 := below_cell hbw1 f5
   replace f6 := below_cell hbw1 f6
   replace f7 := below_cell hbw1 f7
   replace f8 := below_cell hbw1 f8
   replace f9 := below_cell hbw1 f9
   replace f10 := below_cell hbw1 f10
   replace f11 := below_cell hbw1 f11
   have HX1 := Lib.hid hx1
   have HZ1 := Lib.hid hz1
   clear hW1 hbw1 hx1 d0 d1 d2 d3 d4 d5 d6 d7 d8 d9 d10 d11
   rw [hX]
   go_upto_region 8 with (fail)
   try rw [hz1]
   clear hz1
   generalize hW2 : W1.alloc _ = W2
   have hbw2 : Below W1.heap.size W1 W2 := by rw [← hW2]; exact below_al _ _
   have hy2 : W2.heap[X + 1]? = some (.cells #[.int .i64 tk, .int .i64 ta, .int .i64 tt, .int .i64 tc, .slice sa' tset.length sq', .bool tneg, .int .i64 tn, .int .i64 tm, .int .i64 tmd, .string tname, .int .i64 ton, .int .i64 toff] 30 (0, 0)) := by rw [← hW2, ← HZ1.out]; exact heap_alloc_new _ _
   have hx2 : W2.heap[X]? = some (.cells #[.int .i64 tk, .int .i64 ta, .int .i64 tt, .int .i64 tc, .slice sa tset.length sq, .bool tneg, .int .i64 tn, .int .i64 tm, .int .i64 tmd, .string tname, .int .i64 ton, .int .i64 toff] 30 (0, 0)) := by rw [hbw2.block X (by rw [HZ1.out]; omega)]; exact HX1.out
   have HB2 := Lib.hid (below_trans HB1.out hbw2)
   have x0 : W2.cell? ⟨X, 0, none⟩ = some (.int .i64 tk) := by simp [World.cell?, hx2]
   have y0 : W2.cell? ⟨X + 1, 0, none⟩ = some (.int .i64 tk) := by simp [World.cell?, hy2]
   have x1 : W2.cell? ⟨X, 1, none⟩ = some (.int .i64 ta) := by simp [World.cell?, hx2]
   have y1 : W2.cell? ⟨X + 1, 1, none⟩ = some (.int .i64 ta) := by simp [World.cell?, hy2]
   have x2 : W2.cell? ⟨X, 2, none⟩ = some (.int .i64 tt) := by simp [World.cell?, hx2]
   have y2 : W2.cell? ⟨X + 1, 2, none⟩ = some (.int .i64 tt) := by simp [World.cell?, hy2]
   have x3 : W2.cell? ⟨X, 3, none⟩ = some (.int .i64 tc) := by simp [World.cell?, hx2]
   have y3 : W2.cell? ⟨X + 1, 3, none⟩ = some (.int .i64 tc) := by simp [World.cell?, hy2]
   have x4 : W2.cell? ⟨X, 4, none⟩ = some (.slice sa tset.length sq) := by simp [World.cell?, hx2]
   have y4 : W2.cell? ⟨X + 1, 4, none⟩ = some (.slice sa' tset.length sq') := by simp [World.cell?, hy2]
   have x5 : W2.cell? ⟨X, 5, none⟩ = some (.bool tneg) := by simp [World.cell?, hx2]
   have y5 : W2.cell? ⟨X + 1, 5, none⟩ = some (.bool tneg) := by simp [World.cell?, hy2]
   have x6 : W2.cell? ⟨X, 6, none⟩ = some (.int .i64 tn) := by simp [World.cell?, hx2]
   have y6 : W2.cell? ⟨X + 1, 6, none⟩ = some (.int .i64 tn) := by simp [World.cell?, hy2]
   have x7 : W2.cell? ⟨X, 7, none⟩ = some (.int .i64 tm) := by simp [World.cell?, hx2]
   have y7 : W2.cell? ⟨X + 1, 7, none⟩ = some (.int .i64 tm) := by simp [World.cell?, hy2]
   have x8 : W2.cell? ⟨X, 8, none⟩ = some (.int .i64 tmd) := by simp [World.cell?, hx2]
   have y8 : W2.cell? ⟨X + 1, 8, none⟩ = some (.int .i64 tmd) := by simp [World.cell?, hy2]
   have x9 : W2.cell? ⟨X, 9, none⟩ = some (.string tname) := by simp [World.cell?, hx2]
   have y9 : W2.cell? ⟨X + 1, 9, none⟩ = some (.string tname) := by simp [World.cell?, hy2]
   have x10 : W2.cell? ⟨X, 10, none⟩ = some (.int .i64 ton) := by simp [World.cell?, hx2]
   have y10 : W2.cell? ⟨X + 1, 10, none⟩ = some (.int .i64 ton) := by simp [World.cell?, hy2]
   have x11 : W2.cell? ⟨X, 11, none⟩ = some (.int .i64 toff) := by simp [World.cell?, hx2]
   have y11 : W2.cell? ⟨X + 1, 11, none⟩ = some (.int .i64 toff) := by simp [World.cell?, hy2]
   clear hW2 hbw2 hy2 hx2 f0 f1 f2 f3 f4 f5 f6 f7 f8 f9 f10 f11
   refine region_lit8 (by simp only [List.append]; rfl) ?_
   go_upto_region 10 with (fail)
   clear x0 x1 x2 x3 x5 x6 x7 x8 x9 x10 x11 y0 y1 y2 y3 y5 y6 y7 y8 y9 y10 y11 n0 n1 n2 n3 n4 n5 n6 n7 n8 n9 n10 n11
   go_wp2_with fail
   go_loopw [8] (fun kv wr2 => ∃ k : Nat, kv = .int .i64 k ∧ k ≤ tset.length ∧ Below W2.heap.size W2 wr2) (fun kv _ => tset.length - (intOf kv).toNat)
   case atStart => exact ⟨0, rfl, Nat.zero_le _, Below.refl _ _⟩
   case round =>
    obtain ⟨k, rfl, hk, hbk⟩ := hrel
    have e4 := below_cell hbk x4
    have e5 := below_cell hbk y4
    by_cases hke : k = tset.length
    ·subst hke
     go_wp2_with fail
     go_roundw
     case rel => exact ⟨i + 1, by go_num, by omega, below_trans HB2.out hbk⟩
     case measure => simp [intOf]; omega
    ·have hkl : k < tset.length := by omega
     obtain ⟨_, _, rsv, _, r1⟩ := HS.out
     obtain ⟨_, _, rsv', _, r2⟩ := HS'.out
     cases rsv
     cases rsv'
     rcases r1 with h0 | ⟨g1, o1, rfl, r1⟩
     ·rw [h0] at hkl; simp at hkl
     rcases r2 with h0 | ⟨g2, o2, rfl, r2⟩
     ·rw [h0] at hkl; simp at hkl
     have hbb := below_trans HB2.out hbk
     have q0 := below_cell hbb (r1 k hkl).1
     have q1 := below_cell hbb (r1 k hkl).2
     have q2 := below_cell hbb (r2 k hkl).1
     have q3 := below_cell hbb (r2 k hkl).2
     have ha1 := add_row g1 o1 k 2
     have ha2 := add_row g2 o2 k 2
     have hk0 : (0 : Int) ≤ (k : Int) := by omega
     have hkI : (k : Int) < (tset.length : Int) := by omega
     generalize tset[k].1 = lo at q0 q2
     generalize tset[k].2 = hi' at q1 q3
     have s0 := cell_regrown q0
     have s1 := cell_regrown q1
     have s2 := cell_regrown q2
     have s3 := cell_regrown q3
     have s4 := cell_regrown e4
     have s5 := cell_regrown e5
     clear r1 r2
     go_wp2_with fail
     refine wp_region_quiet_below (by kernel_rfl) (by kernel_rfl) ?_
     repeat (go_big_quiet_step (fail))
     refine wpQuiet_nil ?_
     intro _ hw'
     obtain ⟨⟨dq, osq⟩, hw''⟩ := hw'
     subst hw''
     have hbq := below_trans hbk (below_regrown wr dq osq)
     go_wp2_with fail
     go_roundw
     case rel => exact ⟨k + 1, by go_num, hkl, hbq⟩
     case measure => simp [intOf]; omega
end Go.Proofs.YtkcmjcgjfjfimaaGreatDoor.tkw
end
section
namespace Go.Proofs.YtkcmjcgjfjfimaaGreatDoor.tkp
open Go utfp utfw ucdp setp prp tkw
theorem validF_ascii {g : Nat → Int} {n : Nat} (hg : ∀ i, 0 ≤ g i ∧ g i ≤ 255) (h : ∀ i, i < n → g i < 128) : ∀ f p, (validF g n f p).2 = true
 | 0, _ => rfl
 | f + 1, p => by
  simp only [validF]
  split
  ·rename_i hp
   rw [ascii_seq hg hp (h p hp), if_neg (by simp)]
   exact validF_ascii hg h f _
  ·rfl
def Low (l : List Int) : Prop := ∀ x ∈ l, 0 ≤ x ∧ x < 128
theorem sg_nums {l : List Int} (h : Low l) {i : Nat} (hi : i < l.length) : sg (strOfNums l) i = l.getD i 0 := by
 have hx := h l[i] (List.getElem_mem hi)
 unfold sg
 rw [strOfNums_data, List.getD, List.getElem?_map, List.getElem?_eq_getElem hi, Option.map_some, Option.getD_some, List.getD, List.getElem?_eq_getElem hi, Option.getD_some]
 have : (UInt8.ofNat l[i].toNat).toNat = l[i].toNat % 256 := by simp
 rw [this]
 omega
theorem nums_app (a b : List Int) : strOfNums a ++ strOfNums b = strOfNums (a ++ b) := by
 apply ByteArray.ext
 rw [ByteArray.data_append]
 simp [strOfNums]
theorem low_app {a b : List Int} (ha : Low a) (hb : Low b) : Low (a ++ b) := fun x hx => (List.mem_append.1 hx).elim (ha x) (hb x)
def wdl (i : Nat) : List Int := wordsB.getD i []
def wd (i : Nat) : ByteArray := strOfNums (wdl i)
def bkl (l : List Int) : List Int := (l.map fun x => x.tmod 6).flatMap blankB
theorem low_wd (i : Nat) : Low (wdl i) := by
 unfold wdl
 by_cases hi : i < 11
 · have h : ((List.range 11).all fun i => (wordsB.getD i []).all fun x => decide (0 ≤ x) && decide (x < 128)) = true := by decide
   have h1 := List.all_eq_true.1 h i (List.mem_range.2 hi)
   intro x hx
   have h2 := List.all_eq_true.1 h1 x hx
   simpa using h2
 · have : wordsB.getD i [] = [] := by
     rw [List.getD, List.getElem?_eq_none (by show wordsB.length ≤ i; have : wordsB.length = 11 := rfl; omega)]
     rfl
   rw [this]
   intro x hx
   cases hx
theorem wd_len (i : Nat) (hi : i < 11) : (wdl i).length ≤ 7 := by
 have h : ((List.range 11).all fun i => decide ((wordsB.getD i []).length ≤ 7)) = true := by decide
 exact of_decide_eq_true (List.all_eq_true.1 h i (List.mem_range.2 hi))
theorem low_bk (k : Int) : Low (blankB k) := by
 unfold blankB
 have hc : Low commentB := by
  intro x hx
  have h : (commentB.all fun x => decide (0 ≤ x) && decide (x < 128)) = true := by decide
  simpa using List.all_eq_true.1 h x hx
 split
 ·exact hc
 ·split
  ·intro x hx; simp at hx; omega
  ·split
   ·intro x hx; simp at hx; omega
   ·intro x hx; simp at hx; omega
theorem bk_len (k : Int) : (blankB k).length ≤ 12 := by
 unfold blankB
 split
 ·decide
 ·split
  ·decide
  ·split <;> decide
theorem low_bkl (l : List Int) : Low (bkl l) := by
 intro x hx
 unfold bkl at hx
 obtain ⟨k, _, h2⟩ := List.mem_flatMap.1 hx
 exact low_bk k x h2
theorem bkl_len : ∀ l : List Int, (bkl l).length ≤ 12 * l.length
 | [] => by simp [bkl]
 | k :: l => by
  have h1 := bkl_len l
  have h2 := bk_len (k.tmod 6)
  unfold bkl at h1 ⊢
  simp only [List.map_cons, List.flatMap_cons, List.length_append, List.length_cons]
  omega
theorem bkl_snoc (l : List Int) (k : Int) : strOfNums (bkl (l ++ [k])) = strOfNums (bkl l) ++ strOfNums (blankB (k.tmod 6)) := by
 rw [nums_app]
 unfold bkl
 simp
theorem stand_nums {P : ByteArray} {l : List Int} {O : Int} (hP : P = strOfNums l) (h : Low l) : Stand (ptOf (sg P) P.size O) 0 l ∧ (ptOf (sg P) P.size O).n = l.length := by
 subst hP
 refine ⟨⟨?_, fun i hi => ?_⟩, strOfNums_size l⟩
 ·show 0 + l.length ≤ (strOfNums l).size
  rw [strOfNums_size]; omega
 ·rw [Nat.zero_add]
  exact sg_nums h hi
theorem run_nums {P : ByteArray} {l : List Int} {O : Int} (hP : P = strOfNums l) (h : Low l) (hl : l.length ≤ 1000) (h0 : 0 ≤ O) (h1 : O ≤ 65535) : lexP (sg P) P.size O = (ptOf (sg P) P.size O).read ((ptOf (sg P) P.size O).n + 1) [] 0 := by
 have hz : P.size = l.length := by rw [hP, strOfNums_size]
 refine lexP_run h0 h1 (by omega) fun _ => validF_ascii (sg_bd P) (fun i hi => ?_) _ _
 rw [hP, sg_nums h (by omega)]
 have := h (l.getD i 0) (by rw [List.getD, List.getElem?_eq_getElem (by omega)]; exact List.getElem_mem _)
 exact this.2
def moB (O : Int) : Int := if O.toNat.testBit 5 = true then 1114111 else 255
theorem two_lex {A B C : ByteArray} {i j : Nat} {l : List Int} {O : Int} (hi : i < 11) (hj : j < 11) (hA : A = wd i) (hB : B = strOfNums (bkl l)) (hC : C = wd j) (hl : l.length ≤ 20) (h0 : 0 ≤ O) (h1 : O ≤ 65535) (h3 : O.toNat.testBit 3 = true) :
   lexP (sg ((A ++ B) ++ C)) ((A ++ B) ++ C).size O = .ok ((toksW (moB O) i).map (sh 0) ++ (toksW (moB O) j).map (sh (A.size + B.size))) := by
 have hP : (A ++ B) ++ C = strOfNums (wdl i ++ (bkl l ++ wdl j)) := by rw [hA, hB, hC]; unfold wd; rw [nums_app, nums_app, List.append_assoc]
 have z1 : A.size = (wdl i).length := by rw [hA]; exact strOfNums_size _
 have z2 : B.size = (bkl l).length := by rw [hB]; exact strOfNums_size _
 have low := low_app (low_wd i) (low_app (low_bkl l) (low_wd j))
 have a := wd_len i hi
 have b := wd_len j hj
 have c := bkl_len l
 obtain ⟨st, hn⟩ := stand_nums (O := O) hP low
 rw [run_nums hP low (by simp only [List.length_append]; omega) h0 h1]
 rw [words_read (sg_bd _) h3 hi hj (l.map fun x => x.tmod 6) st (by rw [hn]; simp only [List.length_append]; rw [Nat.add_assoc]; rfl), z1, z2]
 rfl
theorem one_lex {A : ByteArray} {i : Nat} {O : Int} (hi : i < 11) (hA : A = wd i) (h0 : 0 ≤ O) (h1 : O ≤ 65535) : lexP (sg A) A.size O = .ok ((toksW (moB O) i).map (sh 0)) := by
 have a := wd_len i hi
 obtain ⟨st, hn⟩ := stand_nums (O := O) hA (low_wd i)
 rw [run_nums hA (low_wd i) (by omega) h0 h1]
 have r := word_reads (sg_bd A) i hi st
 rw [Nat.zero_add] at r
 have e : (wordsB.getD i []).length = (ptOf (sg A) A.size O).n := hn.symm
 rw [e] at r
 rw [r.whole]
 rfl
end Go.Proofs.YtkcmjcgjfjfimaaGreatDoor.tkp
end
