/- T -/
import Derived.BigQuiet
import Derived.BigRegion
import Derived.Deep.Cut
import Derived.Deep.CutBlock
import Derived.Deep.DeepCutAuto
import Derived.Deep.Onto
import Derived.Deep.QuietTactic
import Derived.Deep.RegionHeld
import Derived.Deep.RegionHeld3
import Derived.Deep.RegionWith
import Derived.Great.BuildSlice
import Derived.IntWalk
import Derived.KernelRfl
import Derived.Laws.AppendOwn
import Derived.Laws.AppendOwnNone
import Derived.Laws.BitsLemmas
import Derived.Laws.BytesArg
import Derived.Laws.Closers25b
import Derived.Laws.CopyRow
import Derived.Laws.Cover2
import Derived.Laws.Cover3
import Derived.Laws.FloatArith
import Derived.Laws.MakeOwn
import Derived.Laws.OwnMore
import Derived.Laws.RangeAny
import Derived.Laws.Rows
import Derived.Laws.Shifts
import Derived.Laws.StructEq
import Derived.Lib.BytesEntry
import Derived.Lib.ConvBytes
import Derived.Lib.Hide
import Derived.Lib.LaidTab
import Derived.Lib.OwnBridge
import Derived.Lib.QuietBelow
import Derived.Lib.SlBytesConst
import Derived.LoopN
import Derived.Maps.AppendAt
import Derived.Maps.OwnSet
import Derived.OpenShut
import Derived.Outline
import Derived.OwnWalk
import Derived.ProofKit
import Derived.RegionTactic
import Derived.Shelf.Abstract
import Derived.Shelf.Bytes.SlIndexAt
import Derived.Shelf.Lays8
import Derived.Shelf.SlLaysC2
import Derived.Shelf.SlLaysE
import Derived.Shelf.SlLaysE0
import Derived.Shelf.SlLaysF
import Derived.Shelf.SlLaysH
import Derived.Shelf.SlicesE.Clone
import Derived.Shelf.SlicesE.Equal
import Derived.Shelf.SlicesE.IndexFunc
import Derived.Shelf.SlicesG.Cmp
import Derived.Shelf.Spec.SlicesGrow
import Derived.Sort.Grow
import Derived.Sort.Walk0
import Derived.StillTailTactics
import Derived.Test.YtdgfclbajjjcgaaChecked
import Derived.Test.YtdgfclbajjjcgaaRows
import Derived.WalkKit
import Derived.WalkLawsBesides
import Derived.WalkMore
import Derived.WalkSpells
import GoSem.Core.Float
import Derived.Test.YtdgfclbajjjcgaaBRs01
import Derived.Test.YtdgfclbajjjcgaaBRs02
import Derived.Test.YtdgfclbajjjcgaaBRs03
import Derived.Test.YtdgfclbajjjcgaaBRs04
import Derived.Test.YtdgfclbajjjcgaaBRs05
import Derived.Test.YtdgfclbajjjcgaaBRs06
import Derived.Test.YtdgfclbajjjcgaaBRs07
import Derived.Test.YtdgfclbajjjcgaaBRs08
import Derived.Test.YtdgfclbajjjcgaaBRs09
import Derived.Test.YtdgfclbajjjcgaaBRs10
import Derived.Test.YtdgfclbajjjcgaaBRs11
import Derived.Test.YtdgfclbajjjcgaaBRs12
import Derived.Test.YtdgfclbajjjcgaaBRs13
import Derived.Test.YtdgfclbajjjcgaaBRs14
import Derived.Test.YtdgfclbajjjcgaaBRs15
import Derived.Test.YtdgfclbajjjcgaaBRs16
import Derived.Test.YtdgfclbajjjcgaaBRs17
import Derived.Test.YtdgfclbajjjcgaaBRs18
import Derived.Test.YtdgfclbajjjcgaaBRs19
import Derived.Test.YtdgfclbajjjcgaaBRs20
import Derived.Test.YtdgfclbajjjcgaaBRs21
import Derived.Test.YtdgfclbajjjcgaaBRs22
import Derived.Test.YtdgfclbajjjcgaaBRs23
import Derived.Test.YtdgfclbajjjcgaaBRs24
import Derived.Test.YtdgfclbajjjcgaaBRs25
import Derived.Test.YtdgfclbajjjcgaaBRs26
import Derived.Test.YtdgfclbajjjcgaaBRs27
import Derived.Test.YtdgfclbajjjcgaaBRs28
import Derived.Test.YtdgfclbajjjcgaaBRs29
namespace Go.Proofs.Ytdgfclbajjjcgaa
namespace bulk
end bulk
namespace flt
end flt
namespace gpp
end gpp
namespace gpr
end gpr
namespace gpw
end gpw
namespace gqw
end gqw
namespace lawRefsWithin
end lawRefsWithin
namespace prd
end prd
namespace prp
end prp
namespace prw
end prw
namespace rfl10
end rfl10
namespace rfp
end rfp
namespace rfw
end rfw
namespace rpp
end rpp
namespace rpw
end rpw
namespace rsp
end rsp
namespace rsw
end rsw
namespace rtp
end rtp
namespace rtw
end rtw
namespace setl
end setl
namespace setp
end setp
namespace setw
end setw
namespace sq
end sq
namespace tkp
end tkp
namespace tkw
end tkw
namespace trp
end trp
namespace trw
end trw
namespace ucdp
end ucdp
namespace ucdw
end ucdw
namespace utfp
end utfp
namespace utfw
end utfw
set_option maxHeartbeats 16000000
set_option maxRecDepth 1000000
/- Z -/
namespace sq
open sq
theorem zx1 {p : Prop} (h : p := by
 try dsimp only
 unfold ndV;go_upto_region 5 with (refine wpList_store_ny rfl rfl _ _ rfl w2.heap.size rfl _ (lab 0 0) HG.out rfl HO.out rfl ?_; intro w3 h3; have HB3 := xH (show Below w2.heap.size w2 w3 from by rw [h3.out]; exact rpw.jU w2 _ _ _); clear h3)
 go_wp2_with fail
 go_ret
 exact ⟨rfl, trw.qi HB2.out HB3.out⟩
 ) : p := h
theorem zx2 {p : Prop} (h : p := by
 go_wp2_with fail
 go_meet
 exact ⟨congrArg Value.bool (by first | rfl | (simp; omega)), rfl⟩
 ) : p := h
end sq
section
namespace rfp
open sq
open Go tkp trp setp rtp rpp rsp gpp
def LabW (cnt : Int) (x : Lab) : Prop := (x.kind = 7 ∨ x.kind = 8 → x.m = 0 ∧ x.name = ⟨#[]⟩ ∧ 0 ≤ x.n ∧ x.n ≤ cnt ∧ (x.kind = 7 → 1 ≤ x.n)) ∧
 (x.kind = 19 → x.n ≠ 10 ∧ x.m = 0 ∧ x.name = ⟨#[]⟩ ∧ x.mode ≤ cnt ∧ (x.n = 9 → 1 ≤ x.mode))
def AllW (cnt : Int) : F → Prop
 | .nil => True
 | .cons x k r => LabW cnt x ∧ AllW cnt k ∧ AllW cnt r
theorem step_w {n : Nat} {cnt : Int} (h0 : 0 ≤ cnt) (l : Nm) {x : Lab} (hx : LabI n x) (cur : Int) (h : (stepP cnt l x cur).1 = true) : LabW cnt (stepP cnt l x cur).2.1 := by
 unfold stepP at h ⊢;by_cases c14 : x.kind = 14
 ·rw [if_pos c14];exact ⟨fun c => absurd (show x.kind = 7 ∨ x.kind = 8 from c) (by omega), fun c => absurd (show x.kind = 19 from c) (by omega)⟩
 rw [if_neg c14] at h ⊢;by_cases c19 : x.kind = 19
 ·obtain ⟨i1, i2, i3, i4⟩ := hx.2 c19;rw [if_pos c19] at h ⊢;by_cases n10 : x.n = 10
  ·rw [if_pos n10] at h ⊢;have := inn_iff.1 h;exact ⟨fun c => absurd (show x.kind = 7 ∨ x.kind = 8 from c) (by omega), fun _ => ⟨by show (9 : Int) ≠ 10; decide, rfl, rfl, this.2, fun _ => this.1⟩⟩
  rw [if_neg n10] at h ⊢;by_cases n9 : x.n = 9
  ·rw [if_pos n9] at h ⊢;have := inn_iff.1 h;exact ⟨fun c => absurd (show x.kind = 7 ∨ x.kind = 8 from c) (by omega), fun _ => ⟨n10, rfl, rfl, this.2, fun _ => this.1⟩⟩
  rw [if_neg n9] at h ⊢;by_cases n11 : x.n = 11
  ·rw [if_pos n11] at h ⊢;by_cases m3 : x.m = 3
   ·rw [if_pos m3] at h ⊢;have := inn_iff.1 h;exact ⟨fun c => absurd (show x.kind = 7 ∨ x.kind = 8 from c) (by omega), fun _ => ⟨n10, rfl, rfl, this.2, fun c => absurd c n9⟩⟩
   ·rw [if_neg m3] at h ⊢;obtain ⟨q1, q2⟩ := (i3 n11).resolve_left (fun c => m3 c.1);refine ⟨fun c => absurd (show x.kind = 7 ∨ x.kind = 8 from c) (by omega), fun _ => ⟨n10, q1, q2, ?_, fun c => absurd c n9⟩⟩;show x.mode ≤ cnt;have h : (decide (x.mode = -1) || inn cnt x.mode 0) = true := h;rw [Bool.or_eq_true, decide_eq_true_eq, inn_iff] at h;omega
  ·rw [if_neg n11];obtain ⟨q1, q2, q3⟩ := i4 (by omega);exact ⟨fun c => absurd (show x.kind = 7 ∨ x.kind = 8 from c) (by omega), fun _ => ⟨n10, q1, q2, by show x.mode ≤ cnt; omega, fun c => absurd c n9⟩⟩
 rw [if_neg c19] at h ⊢;by_cases c7 : x.kind = 7 ∨ x.kind = 8
 ·rw [if_pos c7] at h ⊢;have := inn_iff.1 h;refine ⟨fun _ => ⟨rfl, rfl, ?_, this.2, fun c => ?_⟩, fun c => absurd (show x.kind = 19 from c) c19⟩
  ·have := this.1;show 0 ≤ target l cur x.m x.n x.name;split at this <;> omega
  ·have c : x.kind = 7 := c;have := this.1;rw [if_neg (by omega)] at this;exact this
 ·rw [if_neg c7];exact ⟨fun c => absurd c c7, fun c => absurd c c19⟩
theorem vis_w {n : Nat} {cnt : Int} (h0 : 0 ≤ cnt) (l : Nm) : ∀ (f : F) (rs : Bool) (bef lg cur : Int), AllI n f → (visF cnt l rs bef f lg cur).1 = none → AllW cnt (visF cnt l rs bef f lg cur).2.1
 | .nil, _, _, _, _, _, _ => trivial
 | .cons x k r, rs, bef, lg, cur, ⟨a, b, c⟩, h => by
  rw [visF] at h ⊢;simp only at h ⊢;have g := step_w h0 l a cur;generalize stepP cnt l x cur = s at *;by_cases s0 : s.1 = false
  ·rw [if_pos s0] at h;cases h
  rw [if_neg s0] at h ⊢;have g := g (by cases e : s.1 with | true => rfl | false => exact absurd e s0);have q := vis_w h0 l k (decide (x.kind = 16)) s.2.2 s.2.2 s.2.2 b;generalize visF cnt l (decide (x.kind = 16)) s.2.2 k s.2.2 s.2.2 = Q at *;by_cases q0 : Q.1 ≠ none
  ·rw [if_pos q0] at h;exact absurd h q0
  rw [if_neg q0] at h ⊢;exact ⟨g, q (Decidable.not_not.1 q0), vis_w h0 l r rs bef _ _ c h⟩
theorem vis_at {n : Nat} {cnt : Int} (l : Nm) : ∀ (f : F) (rs : Bool) (bef lg cur v : Int), AllI n f → (visF cnt l rs bef f lg cur).1 = some v → 0 ≤ v ∧ v < n
 | .nil, _, _, _, _, _, _, h => by cases h
 | .cons x k r, rs, bef, lg, cur, v, ⟨a, b, c⟩, h => by
  rw [visF] at h;simp only at h;have hs : (stepP cnt l x cur).1 = false → x.kind = 7 ∨ x.kind = 8 ∨ x.kind = 19 := fun e => by
   apply Classical.byContradiction;intro z;unfold stepP at e;by_cases c14 : x.kind = 14
   ·rw [if_pos c14] at e; cases e
   rw [if_neg c14, if_neg (by omega), if_neg (by omega)] at e;cases e
  generalize stepP cnt l x cur = s at *;by_cases s0 : s.1 = false
  ·rw [if_pos s0] at h;injection h with h;rw [← h];have := a.1 (hs s0);exact ⟨this.1, this.2.1⟩
  rw [if_neg s0] at h;have q := vis_at (cnt := cnt) l k (decide (x.kind = 16)) s.2.2 s.2.2 s.2.2 v b;generalize visF cnt l (decide (x.kind = 16)) s.2.2 k s.2.2 s.2.2 = Q at *;by_cases q0 : Q.1 ≠ none
  ·rw [if_pos q0] at h;exact q h
  rw [if_neg q0] at h;exact vis_at l r rs bef _ _ v c h
end rfp
end
section
namespace rfl10
open sq
open Go Go.RowKit Go.Maps utfw tkp trp trw rpp rsp rtp setw gpp rfp rfw
open rpw (qp ql)
open gqw (wpList_store_ny NmI9 nm_blw9)
open rsw (flatP)
open tkw (sg)
theorem visN_at {n : Nat} {cnt : Int} {l : Nm} {x : Lab} {k : F} {cur p : Int} (h : AllI n (F.one x k)) (hp : (visN cnt l x k cur).1 = some p) : 0 ≤ p ∧ p < n :=
 vis_at (cnt := cnt) l (.cons x k .nil) false cur cur cur p h ((visF_one cnt l x k cur).1.trans hp)
theorem visN_w {n : Nat} {cnt : Int} {l : Nm} {x : Lab} {k : F} {cur : Int} (h0 : 0 ≤ cnt) (h : AllI n (F.one x k)) (hp : (visN cnt l x k cur).1 = none) : AllW cnt (F.one (visN cnt l x k cur).2.1.1 (visN cnt l x k cur).2.1.2) := by rw [← (visF_one cnt l x k cur).2];exact vis_w h0 l (.cons x k .nil) false cur cur cur h ((visF_one cnt l x k cur).1.trans hp)
theorem allW_strip {cnt : Int} : ∀ {f : F}, AllW cnt (strip f) ↔ AllW cnt f
 | .nil => Iff.rfl
 | .cons x k r => by rw [strip];unfold AllW;rw [allW_strip (f := k), allW_strip (f := r)];exact Iff.rfl
theorem allW_at {cnt : Int} : ∀ {f : F} {i : Nat} {x : Lab} {k r : F}, AllW cnt f → f.drop i = .cons x k r → AllW cnt (F.one x k)
 | .nil, i, _, _, _, _, h => by cases i <;> cases h
 | .cons _ _ _, 0, _, _, _, ha, h => by cases h;exact ⟨ha.1, ha.2.1, trivial⟩
 | .cons _ _ c, i + 1, _, _, _, ha, h => allW_at (f := c) (i := i) ha.2.2 h
theorem within_all (cnt : Int) : ∀ (z : Nat) (w : World) (x : Lab) (k : F) (hz : k.size < z) (hn : NdAt w (x, k)) (hw : AllW cnt (F.one x k)), Calls Try.prog 23 #[ndV x, .int .i64 cnt] w (trw.BoolB true w) := by
 intro z;refine Nat.rec ?_ (fun z ih => ?_) z
 ·intro w x k hz;exact absurd hz (Nat.not_lt_zero _)
 intro w x k hz hn hw;have IH := xH (@ih);clear ih;have HN := xH hn;have HZ := xH hz;have HW := xH hw.2.1;have HLW := xH hw.1;obtain ⟨ka, kq, hkv⟩ := kids_len hn.2.2;have hkl : k.len ≤ 9223372036854775807 := by obtain ⟨a, q, e, h1, h2, _⟩ := hn.2.2; exact Nat.le_trans h1 h2
 have HKV := xH hkv;have HP := xH (heap_alloc_new w (.cells (ndC x).toArray 27));have HB := xH (trw.qg w (.cells (ndC x).toArray 27));clear hn hz hw hkv;unfold ndC at HP HB;unfold ndV;go_enter Try.func23, Try.ntmps23;go_upto_region 1 with (fail)
 generalize w.alloc _ = w1 at *;have c0 := yC 0 (.int .i64 x.kind) HP;have c5 := yC 5 (.int .i64 x.n) HP;have c6 := yC 6 (.int .i64 x.m) HP;have c7 := yC 7 (.int .i64 x.mode) HP;have c8 := yC 8 (.string x.name) HP;go_cut [45] (fun v45 wx => v45 = .bool false ∧ w1 = wx)
 case first =>
  by_cases k7 : x.kind = 7
  ·have b7 : (x.kind == 7) = true := by simp [k7]
   obtain ⟨h1, h2, h3, h4, h5⟩ := HLW.out.1 (.inl k7);have h6 := h5 k7;rw [h1] at c6;rw [h2] at c8;have bn : (x.n == 0) = false := by simp; omega
   clear k7 h1 h2 h5;exact zx2
  ·have b7 : (x.kind == 7) = false := by simp [k7]
   by_cases k8 : x.kind = 8
   ·have b8 : (x.kind == 8) = true := by simp [k8]
    obtain ⟨h1, h2, h3, h4, _⟩ := HLW.out.1 (.inr k8);rw [h1] at c6;rw [h2] at c8;clear k7 k8 h1 h2;by_cases n0 : x.n = 0
    ·have bn : (x.n == 0) = true := by simp [n0]
     clear n0;exact zx2
    ·have bn : (x.n == 0) = false := by simp [n0]
     clear n0;exact zx2
   ·have b8 : (x.kind == 8) = false := by simp [k8]
    clear k7 k8;exact zx2
 case rest =>
  obtain ⟨rfl, rfl⟩ := hcut;go_upto_region 3 with (fail)
  go_cut [79] (fun v79 wx => v79 = .bool false ∧ w1 = wx)
  case first =>
   by_cases k19 : x.kind = 19
   ·have b19 : (x.kind == 19) = true := by simp [k19]
    obtain ⟨h1, h2, h3, h4, h5⟩ := HLW.out.2 k19;have bn : (x.n == 10) = false := by simp [h1]
    rw [h2] at c6;rw [h3] at c8;by_cases n9 : x.n = 9
    ·have b9 : (x.n == 9) = true := by simp [n9]
     have h6 := h5 n9;clear k19 h1 h2 h3 h5 n9;exact zx2
    ·have b9 : (x.n == 9) = false := by simp [n9]
     clear k19 h1 h2 h3 h5 n9;exact zx2
   ·have b19 : (x.kind == 19) = false := by simp [k19]
    clear k19;exact zx2
  case rest =>
   obtain ⟨rfl, rfl⟩ := hcut;clear c0 c5 c6 c7 c8;go_wp2_with fail
   go_loopw [5] (fun v5 wr => ∃ i : Nat, v5 = .int .i64 i ∧ i ≤ k.len ∧ Hid (Below w1.heap.size w1 wr)) (fun v5 _ => k.len - (intOf v5).toNat)
   case atStart => exact ⟨0, rfl, Nat.zero_le _, xH (Below.refl _ _)⟩
   case round =>
    obtain ⟨i, rfl, hi, HBB⟩ := hrel;have c11 : wr.cell? ⟨w.heap.size, 11, none⟩ = some (.slice ka k.len kq) := trw.qf HBB.out (by unfold World.cell?; rw [HP.out]; show some x.kv = _; rw [HKV.out]);by_cases hlt : i < k.len
    ·obtain ⟨x', kk, r, hd⟩ := drop_lt hlt;obtain ⟨b, o, q, hv, _, _, _, hf⟩ := kid_at HN.out.2.2 hd;rw [HKV.out] at hv;cases hv;have HWR := xH (trw.qi HB.out HBB.out);have HFH := xH (trw.vO HWR.out (trw.fAt_head hf));have HCE := xH (show ∀ j u, (ndC x')[j]? = some u → wr.cell? ⟨b, o + i * 12 + j, none⟩ = some u from fun j u hj => trw.qf HWR.out (hf.1 j u hj));have HSZ := xH (show kk.size < z by have := size_lt hd; have := HZ.out; omega);have HWK := xH (allW_at HW.out hd);clear hd hf;have hkl2 : i < 9223372036854775807 := by omega
     have i1 : (i : Int) < (k.len : Int) := by omega
     go_wp2_with (first
      | (refine jv rfl _ rfl b (o + i * 12) rfl x' HCE.out ?_)
      | (refine (IH.out wr x' kk HSZ.out HFH.out HWK.out).mono ?_))
     rintro e w5 ⟨rfl, hb⟩;have HB5 := xH (trw.qi HBB.out hb);clear hb c11;go_wp2_with fail
     go_roundw
     case rel => exact ⟨i + 1, by go_num, by omega, HB5⟩
     case measure => simp [intOf]; omega
    ·have hd : decide (i < k.len) = false := by simpa using hlt
     clear hlt;go_wp2_with fail
     go_ret
     exact ⟨rfl, trw.qi HB.out HBB.out⟩
theorem within_law10 (v : Value) (n : Nat) (g : Nat → Int) (o : Int) (w : World) (hv : Sl w v n g) : Calls Try.prog 5 #[v, .int .i64 o] w (trw.BoolB true w) := by
 have HFL := xH (fun w1 (hb : Below w.heap.size w w1) => numd_any v n g o w1 (utfw.below_sl hb hv));obtain ⟨va, vc, rfl⟩ : ∃ a c, v = .slice a n c := by
  obtain ⟨_, _, ⟨rfl, a, c, hv, _⟩ | ⟨b, off, cap, hv, _⟩⟩ := hv
  ·exact ⟨_, _, hv⟩
  ·exact ⟨_, _, hv⟩
 clear hv;go_enter Try.func5, Try.ntmps5;go_wp2_with fail
 refine (awake_any10 w).mono ?_;rintro e w1 ⟨rfl, hb1⟩;have HB1 := xH hb1;clear hb1;go_wp2_with fail
 refine (HFL.out w1 HB1.out).mono ?_;obtain ⟨R, hR⟩ : ∃ R, flatP (sg (strOf n g)) n o = R := ⟨_, rfl⟩;rw [hR];have fin0 : ∀ (e : Ending) (w2 : World), Below w1.heap.size w1 w2 → e = .returned (.tuple #[ndV (lab 0 0), .int .i64 0, nil3, .bool false]) → Hid (Below w.heap.size w w2) := fun e w2 hb _ => xH (trw.qi HB1.out hb)
 cases R with
 | none =>
  rintro e w2 ⟨hb2, rfl⟩;have HB2 := xH (trw.qi HB1.out hb2);have HG := xH (heap_alloc_new w2 (.cells zC.toArray 27));have HO := xH (qp (t := (lab 0 0, F.nil)) (rpw.zero_at w2));unfold zC at HG;clear hb2 hR HFL fin0;exact zx1
 | some t =>
  have HNT := xH (nt_of hR);clear fin0;rintro e w2 ⟨hb2, ⟨c0, rfl⟩ | ⟨c0, y, j, v2, rfl, hn, hs, hm⟩⟩
  ·have HB2 := xH (trw.qi HB1.out hb2);have HG := xH (heap_alloc_new w2 (.cells zC.toArray 27));have HO := xH (qp (t := (lab 0 0, F.nil)) (rpw.zero_at w2));unfold zC at HG;clear hb2 hR HFL c0;exact zx1
  ·have HB2 := xH (trw.qi HB1.out hb2);have HND := xH hn;have HO := xH (qp hn);have HG := xH (heap_alloc_new w2 (.cells zC.toArray 27));obtain ⟨l, hl⟩ : ∃ l, (nameR [] (capL (refF false 0 t 0).1)).2 = l := ⟨_, rfl⟩;rw [hl] at hm;obtain ⟨na, nc, hnv, _⟩ := id hm;subst hnv;have HNV := xH hm;have HRS := xH (fun w3 (hn3 : NdAt w3 (y, j)) (hv3 : NmI9 w3 (.slice na l.length nc) l) => res_num HNT.out hs (l := l) w3 hn3 hv3);obtain ⟨N, hN⟩ : ∃ N, visN (refF false 0 t 0).2 l (bare y) (strip j) 0 = N := ⟨_, rfl⟩;have hI : AllI n (F.one (bare y) (strip j)) := by have := HNT.out.i;rw [← hs] at this;exact this
   have HAT := xH (fun p (hp : N.1 = some p) => visN_at (cnt := (refF false 0 t 0).2) (l := l) (cur := 0) (p := p) hI (by rw [hN]; exact hp));have HWW := xH (fun (hp : N.1 = none) => (show AllW (refF false 0 t 0).2 (F.one N.2.1.1 N.2.1.2) from hN ▸ visN_w (l := l) (cur := 0) HNT.out.k.1 hI (by rw [hN]; exact hp)));rw [hN] at HRS;unfold zC at HG;clear hb2 hR HFL c0 hn hs hm hl hN hI HB1;generalize (refF false 0 t 0).2 = c at *;try dsimp only
   unfold ndV;go_upto_region 5 with (refine wpList_store_ny rfl rfl _ _ rfl w2.heap.size rfl _ y HG.out rfl HO.out rfl ?_; intro w3 h3; have HS3 := xH (show Below w2.heap.size w2 w3 ∧ w3.heap[w2.heap.size]? = some (.cells (ndC y).toArray 27 (0, 0)) from by rw [h3.out]; exact ⟨rpw.jU w2 _ _ _, setRow_heap _ _ _ _ _ _ HG.out⟩); clear h3)
   have HB3 := xH (trw.qi HB2.out HS3.out.1);have HC3 := xH (HRS.out w3 (trw.vO HS3.out.1 HND.out) (nm_blw9 HNV.out HS3.out.1));generalize w2.heap.size = A0 at *;clear HRS HND HNV HG HB2;go_wp2_with (first
    | (refine ql rfl _ rfl A0 rfl y HS3.out.2 ?_)
    | (refine HC3.out.mono ?_))
   rintro e w4 ⟨hb4, ⟨p, hp, rfl⟩ | ⟨hp, y4, j4, rfl, hn4, hs4⟩⟩
   ·have HB4 := xH (trw.qi HB3.out hb4);have HAT4 := xH (HAT.out p hp);have HO4 := xH (qp (t := (lab 0 0, F.nil)) (rpw.zero_at w4));have HG4 := xH (heap_alloc_new w4 (.cells zC.toArray 27));unfold zC at HG4;clear hb4 hp HAT HWW HC3;try dsimp only
    unfold ndV;go_upto_region 8 with (refine wpList_store_ny rfl rfl _ _ rfl w4.heap.size rfl _ (lab 0 0) HG4.out rfl HO4.out rfl ?_; intro w5 h5; have HB5 := xH (show Below w4.heap.size w4 w5 from by rw [h5.out]; exact rpw.jU w4 _ _ _); clear h5)
    obtain ⟨p1, p2⟩ := HAT4.out;go_wp2_with fail
    go_ret
    exact ⟨by first | rfl | (simp; omega), trw.qi HB4.out HB5.out⟩
   ·have HB4 := xH (trw.qi HB3.out hb4);have HW4 := xH (show AllW c (F.one y4 j4) from allW_strip.1 (by rw [hs4]; exact HWW.out hp));have HN4 := xH (gpw.ndI_at hn4);have HO4 := xH (qp (gpw.ndI_at hn4));have HG4 := xH (heap_alloc_new w4 (.cells zC.toArray 27));unfold zC at HG4;clear hb4 hp hn4 hs4 HAT HWW HC3;try dsimp only
    unfold ndV;go_upto_region 8 with (refine wpList_store_ny rfl rfl _ _ rfl w4.heap.size rfl _ y4 HG4.out rfl HO4.out rfl ?_; intro w5 h5; have HS5 := xH (show Below w4.heap.size w4 w5 ∧ w5.heap[w4.heap.size]? = some (.cells (ndC y4).toArray 27 (0, 0)) from by rw [h5.out]; exact ⟨rpw.jU w4 _ _ _, setRow_heap _ _ _ _ _ _ HG4.out⟩); clear h5)
    have HWI := xH (within_all c (j4.size + 1) w5 y4 j4 (Nat.lt_succ_self _) (trw.vO HS5.out.1 HN4.out) HW4.out);have HB5 := xH (trw.qi HB4.out HS5.out.1);go_wp2_with (first
     | (refine ql rfl _ rfl w4.heap.size rfl y4 HS5.out.2 ?_)
     | (refine HWI.out.mono ?_))
    rintro e w6 ⟨rfl, hb6⟩;have HB6 := xH (trw.qi HB5.out hb6);clear hb6;go_wp2_with fail
    go_ret
    exact ⟨rfl, HB6.out⟩
end rfl10
end
end Go.Proofs.Ytdgfclbajjjcgaa
