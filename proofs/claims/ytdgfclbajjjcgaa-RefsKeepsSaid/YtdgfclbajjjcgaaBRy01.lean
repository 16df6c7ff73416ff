/- T -/
import Derived.BigQuiet
import Derived.BigRegion
import Derived.Deep.Cut
import Derived.Deep.CutBlock
import Derived.Deep.DeepCutAuto
import Derived.Deep.Onto
import Derived.Deep.QuietTactic
import Derived.Deep.RegionHeld
import Derived.Deep.RegionHeld3
import Derived.Deep.RegionWith
import Derived.Great.BuildSlice
import Derived.IntWalk
import Derived.KernelRfl
import Derived.Laws.AppendOwn
import Derived.Laws.AppendOwnNone
import Derived.Laws.BitsLemmas
import Derived.Laws.BytesArg
import Derived.Laws.Closers25b
import Derived.Laws.CopyRow
import Derived.Laws.Cover2
import Derived.Laws.Cover3
import Derived.Laws.FloatArith
import Derived.Laws.MakeOwn
import Derived.Laws.OwnMore
import Derived.Laws.RangeAny
import Derived.Laws.Rows
import Derived.Laws.Shifts
import Derived.Laws.StructEq
import Derived.Lib.BytesEntry
import Derived.Lib.ConvBytes
import Derived.Lib.Hide
import Derived.Lib.LaidTab
import Derived.Lib.OwnBridge
import Derived.Lib.QuietBelow
import Derived.Lib.SlBytesConst
import Derived.LoopN
import Derived.Maps.AppendAt
import Derived.Maps.OwnSet
import Derived.OpenShut
import Derived.Outline
import Derived.OwnWalk
import Derived.ProofKit
import Derived.RegionTactic
import Derived.Shelf.Abstract
import Derived.Shelf.Bytes.SlIndexAt
import Derived.Shelf.Lays8
import Derived.Shelf.SlLaysC2
import Derived.Shelf.SlLaysE
import Derived.Shelf.SlLaysE0
import Derived.Shelf.SlLaysF
import Derived.Shelf.SlLaysH
import Derived.Shelf.SlicesE.Clone
import Derived.Shelf.SlicesE.Equal
import Derived.Shelf.SlicesE.IndexFunc
import Derived.Shelf.SlicesG.Cmp
import Derived.Shelf.Spec.SlicesGrow
import Derived.Sort.Grow
import Derived.Sort.Walk0
import Derived.StillTailTactics
import Derived.Test.YtdgfclbajjjcgaaChecked
import Derived.Test.YtdgfclbajjjcgaaRows
import Derived.WalkKit
import Derived.WalkLawsBesides
import Derived.WalkMore
import Derived.WalkSpells
import GoSem.Core.Float
import Derived.Test.YtdgfclbajjjcgaaBRs01
import Derived.Test.YtdgfclbajjjcgaaBRs02
import Derived.Test.YtdgfclbajjjcgaaBRs03
import Derived.Test.YtdgfclbajjjcgaaBRs04
import Derived.Test.YtdgfclbajjjcgaaBRs05
import Derived.Test.YtdgfclbajjjcgaaBRs06
import Derived.Test.YtdgfclbajjjcgaaBRs07
import Derived.Test.YtdgfclbajjjcgaaBRs08
import Derived.Test.YtdgfclbajjjcgaaBRs09
import Derived.Test.YtdgfclbajjjcgaaBRs10
import Derived.Test.YtdgfclbajjjcgaaBRs11
import Derived.Test.YtdgfclbajjjcgaaBRs12
import Derived.Test.YtdgfclbajjjcgaaBRs13
import Derived.Test.YtdgfclbajjjcgaaBRs14
import Derived.Test.YtdgfclbajjjcgaaBRs15
import Derived.Test.YtdgfclbajjjcgaaBRs16
import Derived.Test.YtdgfclbajjjcgaaBRs17
import Derived.Test.YtdgfclbajjjcgaaBRs18
import Derived.Test.YtdgfclbajjjcgaaBRs19
import Derived.Test.YtdgfclbajjjcgaaBRs20
import Derived.Test.YtdgfclbajjjcgaaBRs21
import Derived.Test.YtdgfclbajjjcgaaBRs22
import Derived.Test.YtdgfclbajjjcgaaBRs23
import Derived.Test.YtdgfclbajjjcgaaBRs24
import Derived.Test.YtdgfclbajjjcgaaBRs25
import Derived.Test.YtdgfclbajjjcgaaBRs26
import Derived.Test.YtdgfclbajjjcgaaBRs27
import Derived.Test.YtdgfclbajjjcgaaBRs28
import Derived.Test.YtdgfclbajjjcgaaBRs29
namespace Go.Proofs.Ytdgfclbajjjcgaa
namespace bulk
end bulk
namespace flt
end flt
namespace gpp
end gpp
namespace gpr
end gpr
namespace gpw
end gpw
namespace gqw
end gqw
namespace lawRefsKeeps
end lawRefsKeeps
namespace prd
end prd
namespace prp
end prp
namespace prw
end prw
namespace rfl10
end rfl10
namespace rfp
end rfp
namespace rfw
end rfw
namespace rpp
end rpp
namespace rpw
end rpw
namespace rsp
end rsp
namespace rsw
end rsw
namespace rtp
end rtp
namespace rtw
end rtw
namespace setl
end setl
namespace setp
end setp
namespace setw
end setw
namespace sq
end sq
namespace tkp
end tkp
namespace tkw
end tkw
namespace trp
end trp
namespace trw
end trw
namespace ucdp
end ucdp
namespace ucdw
end ucdw
namespace utfp
end utfp
namespace utfw
end utfw
set_option maxHeartbeats 16000000
set_option maxRecDepth 1000000
/- Z -/
namespace sq
open sq
theorem zx1 {p : Prop} (h : p := by
 try dsimp only
 unfold ndV;go_upto_region 5 with (refine wpList_store_ny rfl rfl _ _ rfl w2.heap.size rfl _ (lab 0 0) HG.out rfl HO.out rfl ?_; intro w3 h3; have HB3 := xH (show Below w2.heap.size w2 w3 from by rw [h3.out]; exact rpw.jU w2 _ _ _); clear h3)
 go_wp2_with fail
 go_ret
 exact ⟨rfl, trw.qi HB2.out HB3.out⟩
 ) : p := h
end sq
section
namespace trp
open sq
open Go
theorem labEq_refl (x : Lab) : labEq x x = true := by simp [labEq]
end trp
end
section
namespace rfl10
open sq
open Go Go.RowKit Go.Maps utfw tkp trp trw rpp rsp rtp setw gpp rfp rfw sq
open rpw (qp ql rg_nil)
open gqw (wpList_store_ny NmI9 nm_blw9)
open rsw (flatP)
open tkw (sg)
def KpL (x y : Lab) : Prop := x.kind = y.kind ∧ x.at_ = y.at_ ∧ x.on = y.on ∧ (x.kind ≠ 7 → x.kind ≠ 8 → x.kind ≠ 19 → labEq x y = true)
def KpF : F → F → Prop
 | .nil, .nil => True
 | .cons x k r, .cons y j s => KpL x y ∧ KpF k j ∧ KpF r s
 | _, _ => False
theorem labEq_refl (x : Lab) : labEq x x = true := by simp [labEq]
theorem kpL_refl (x : Lab) : KpL x x := ⟨rfl, rfl, rfl, fun _ _ _ => labEq_refl x⟩
theorem kpF_refl : ∀ f : F, KpF f f
 | .nil => trivial
 | .cons x k r => ⟨kpL_refl x, kpF_refl k, kpF_refl r⟩
theorem kpF_len : ∀ {f g : F}, KpF f g → f.len = g.len
 | .nil, .nil, _ => rfl
 | .cons _ _ _, .cons _ _ _, h => by rw [F.len, F.len, kpF_len h.2.2]
 | .nil, .cons _ _ _, h => h.elim
 | .cons _ _ _, .nil, h => h.elim
theorem kpF_at : ∀ {f g : F} {i : Nat} {x : Lab} {k r : F}, KpF f g → f.drop i = .cons x k r → ∃ y j s, g.drop i = .cons y j s ∧ KpF (F.one x k) (F.one y j)
 | .nil, _, i, _, _, _, _, h => by cases i <;> cases h
 | .cons _ _ _, .nil, _, _, _, _, h, _ => h.elim
 | .cons _ _ _, .cons y j s, 0, _, _, _, h, hd => by cases hd;exact ⟨y, j, s, rfl, h.1, h.2.1, trivial⟩
 | .cons _ _ c, .cons _ _ s, i + 1, _, _, _, h, hd => kpF_at (f := c) (g := s) (i := i) h.2.2 hd
theorem kpF_strip : ∀ {f g : F}, KpF (strip f) (strip g) → KpF f g
 | .nil, .nil, _ => trivial
 | .cons _ _ _, .cons _ _ _, h => ⟨⟨h.1.1, h.1.2.1, h.1.2.2.1, h.1.2.2.2⟩, kpF_strip h.2.1, kpF_strip h.2.2⟩
 | .nil, .cons _ _ _, h => h.elim
 | .cons _ _ _, .nil, h => h.elim
theorem step_keep (cnt : Int) (l : Nm) (x : Lab) (cur : Int) : KpL x (stepP cnt l x cur).2.1 := by
 by_cases c14 : x.kind = 14
 ·unfold stepP;rw [if_pos c14];exact kpL_refl x
 by_cases c19 : x.kind = 19
 ·have h : (stepP cnt l x cur).2.1.kind = x.kind ∧ (stepP cnt l x cur).2.1.at_ = x.at_ ∧ (stepP cnt l x cur).2.1.on = x.on := by
   unfold stepP
   repeat' split
   all_goals exact ⟨rfl, rfl, rfl⟩
  exact ⟨h.1.symm, h.2.1.symm, h.2.2.symm, fun _ _ h3 => absurd c19 h3⟩
 by_cases c7 : x.kind = 7 ∨ x.kind = 8
 ·have h : (stepP cnt l x cur).2.1.kind = x.kind ∧ (stepP cnt l x cur).2.1.at_ = x.at_ ∧ (stepP cnt l x cur).2.1.on = x.on := by
   unfold stepP
   repeat' split
   all_goals exact ⟨rfl, rfl, rfl⟩
  exact ⟨h.1.symm, h.2.1.symm, h.2.2.symm, fun h1 h2 _ => absurd c7 (fun e => e.elim h1 h2)⟩
 ·unfold stepP;rw [if_neg c14, if_neg c19, if_neg c7];exact kpL_refl x
theorem vis_keep (cnt : Int) (l : Nm) : ∀ (f : F) (rs : Bool) (bef lg cur : Int), KpF f (visF cnt l rs bef f lg cur).2.1
 | .nil, _, _, _, _ => trivial
 | .cons x k r, rs, bef, lg, cur => by
  have g := step_keep cnt l x cur;have q := vis_keep cnt l k (decide (x.kind = 16)) (stepP cnt l x cur).2.2 (stepP cnt l x cur).2.2 (stepP cnt l x cur).2.2;rw [visF];simp only;split
  ·exact ⟨g, kpF_refl k, kpF_refl r⟩
  split
  ·exact ⟨g, q, kpF_refl r⟩
  ·exact ⟨g, q, vis_keep cnt l r rs bef _ _⟩
theorem visN_keep (cnt : Int) (l : Nm) (x : Lab) (k : F) (cur : Int) : KpF (F.one x k) (F.one (visN cnt l x k cur).2.1.1 (visN cnt l x k cur).2.1.2) := by rw [← (visF_one cnt l x k cur).2];exact vis_keep cnt l (.cons x k .nil) false cur cur cur
theorem no_kids {w : World} {x : Lab} {k : F} (h : NdAt w (x, k)) : NdAt w ({ x with kv := nil3 }, .nil) := ⟨h.1, h.2.1, none, 0, rfl, by simp [F.len], by decide, Or.inl rfl⟩
theorem keeps_all : ∀ (z : Nat) (w : World) (x y : Lab) (k j : F) (hz : k.size < z) (hn : NdAt w (x, k)) (hm : NdAt w (y, j)) (hk : KpF (F.one x k) (F.one y j)), Calls Try.prog 26 #[ndV x, ndV y] w (trw.BoolB true w) := by
 intro z;refine Nat.rec ?_ (fun z ih => ?_) z
 ·intro w x y k j hz;exact absurd hz (Nat.not_lt_zero _)
 intro w x y k j hz hn hm hk;have IH := xH (@ih);clear ih;have HN := xH hn;have HM := xH hm;have HZ := xH hz;have HK := xH hk.2.1;have HL := xH hk.1;obtain ⟨ka, kq, hkv⟩ := kids_len hn.2.2;obtain ⟨ja, jq, hjv⟩ := kids_len hm.2.2;have hlen := kpF_len hk.2.1;rw [← hlen] at hjv;have hkl : k.len ≤ 9223372036854775807 := by obtain ⟨a, q, e, h1, h2, _⟩ := hn.2.2; exact Nat.le_trans h1 h2
 have HKV := xH hkv;have HJV := xH hjv;have HLEN := xH hlen;have e1 := World.size_alloc w (.cells (ndC x).toArray 27);have HP := xH (show ((w.alloc (.cells (ndC x).toArray 27)).alloc (.cells (ndC y).toArray 27)).heap[w.heap.size]? = some (.cells (ndC x).toArray 27 (0, 0)) from (heap_alloc_old _ _ (by rw [e1]; omega)).trans (heap_alloc_new _ _));have HQ := xH (show ((w.alloc (.cells (ndC x).toArray 27)).alloc (.cells (ndC y).toArray 27)).heap[w.heap.size + 1]? = some (.cells (ndC y).toArray 27 (0, 0)) from e1 ▸ heap_alloc_new (w.alloc (.cells (ndC x).toArray 27)) (.cells (ndC y).toArray 27));have HB := xH (trw.qi (trw.qg w (.cells (ndC x).toArray 27)) (trw.qg _ (.cells (ndC y).toArray 27)));have HZ1 := xH (show ((w.alloc (.cells (ndC x).toArray 27)).alloc (.cells (ndC y).toArray 27)).heap.size = w.heap.size + 2 by rw [World.size_alloc, e1]);clear hn hm hz hk hkv hjv hlen e1;unfold ndC at HP HQ HB HZ1;unfold ndV;go_enter Try.func26, Try.ntmps26;go_upto_region 1 with (fail)
 generalize (w.alloc _).alloc _ = w1 at *;have HP : Hid (w1.heap[w.heap.size]? = some (.cells (ndC x).toArray 27 (0, 0))) := HP;have HQ : Hid (w1.heap[w.heap.size + 1]? = some (.cells (ndC y).toArray 27 (0, 0))) := HQ;have c0 := yC 0 (.int .i64 x.kind) HP;have d0 : w1.cell? ⟨w.heap.size + 1, 0, none⟩ = some (.int .i64 x.kind) := by unfold World.cell?; rw [HQ.out, HL.out.1]; rfl
 have c11 : w1.cell? ⟨w.heap.size, 11, none⟩ = some (.slice ka k.len kq) := by unfold World.cell?; rw [HP.out]; show some x.kv = _; rw [HKV.out]
 have d11 : w1.cell? ⟨w.heap.size + 1, 11, none⟩ = some (.slice ja k.len jq) := by unfold World.cell?; rw [HQ.out]; show some y.kv = _; rw [HJV.out]
 have bk : (x.kind != x.kind) = false := by simp
 have bl : ((k.len : Int) != (k.len : Int)) = false := by simp
 go_wp2_with fail
 go_loopw [5] (fun v5 wr => ∃ i : Nat, v5 = .int .i64 i ∧ i ≤ k.len ∧ Hid (Below w1.heap.size w1 wr)) (fun v5 _ => k.len - (intOf v5).toNat)
 case atStart => exact ⟨0, rfl, Nat.zero_le _, xH (Below.refl _ _)⟩
 case round =>
  obtain ⟨i, rfl, hi, HBB⟩ := hrel;have a11 := trw.qf HBB.out c11;have b11 := trw.qf HBB.out d11;by_cases hlt : i < k.len
  ·obtain ⟨x', kk, r, hd⟩ := drop_lt hlt;obtain ⟨y', jj, s, hd2, hkk⟩ := kpF_at HK.out hd;obtain ⟨b, o, q, hv, _, _, _, hf⟩ := kid_at HN.out.2.2 hd;obtain ⟨b2, o2, q2, hv2, _, _, _, hf2⟩ := kid_at HM.out.2.2 hd2;rw [HKV.out] at hv;cases hv;rw [HJV.out, ← HLEN.out] at hv2;cases hv2;have HWR := xH (trw.qi HB.out HBB.out);have HX := xH (trw.vO HWR.out (trw.fAt_head hf));have HY := xH (trw.vO HWR.out (trw.fAt_head hf2));have HCE := xH (show ∀ j u, (ndC x')[j]? = some u → wr.cell? ⟨b, o + i * 12 + j, none⟩ = some u from fun j u hj => trw.qf HWR.out (hf.1 j u hj));have HDE := xH (show ∀ j u, (ndC y')[j]? = some u → wr.cell? ⟨b2, o2 + i * 12 + j, none⟩ = some u from fun j u hj => trw.qf HWR.out (hf2.1 j u hj));have HCL := xH (fun w5 (hb : Below wr.heap.size wr w5) => IH.out w5 x' y' kk jj (by have := size_lt hd; have := HZ.out; omega) (trw.vO hb HX.out) (trw.vO hb HY.out) hkk);have HLT2 := xH (show (i : Int) < (k.len : Int) by omega);clear hd hd2 hf hf2 hkk;have hkl2 : i < 9223372036854775807 := by omega
   have i1 : (i : Int) < (k.len : Int) := by omega
   go_upto_region 6 with (fail)
   refine wp_region_held_drew (S := fun w' => Below wr.heap.size wr w') (by kernel_rfl) (trw.qL wr) (fun hHeld => ?_);refine yT 0 ?_;simp only [xS];refine yF 1 (fun w' hS => trw.qf hS a11) ?_;simp only [xS];refine yT 2 ?_;simp only [xS];refine yT 3 ?_;simp only [xS];refine xT 4 rfl (ndV x') ?_ ?_
   ·intro w' hSw;refine jT (x := .tmp 31) (b := b) (off := o + i * 12) (l := x') ?_ ?_ (fun j v hj => trw.qf hSw (HCE.out j v hj)) <;> rfl
   simp only [xS];refine yT 5 ?_;simp only [xS];refine yF 6 (fun w' hS => trw.qf hS b11) ?_;simp only [xS];refine yT 7 ?_;simp only [xS];refine yT 8 ?_;simp only [xS];refine xT 9 rfl (ndV y') ?_ ?_
   ·intro w' hSw;refine jT (x := .tmp 36) (b := b2) (off := o2 + i * 12) (l := y') ?_ ?_ (fun j v hj => trw.qf hSw (HDE.out j v hj)) <;> rfl
   simp only [xS];refine xD 10 rfl (fun K hK => ?_);go_simp;refine (HCL.out _ (trw.qL wr)).mono ?_;rintro e w6 ⟨rfl, hb⟩;have HB6 := xH (trw.qi (trw.qL wr) hb);clear hb;refine hK.out _ _ HB6.out (fun hHeld => ?_);clear hK K;try simp only [xS]
   refine yT 11 ?_;simp only [xS];refine wpAnyH_done (by kernel_rfl) ?_ _;have HBN := xH (trw.qi HBB.out HB6.out);clear hHeld HB6 a11 b11;go_wp2_with fail
   go_roundw
   case rel => exact ⟨i + 1, by go_num, by omega, HBN⟩
   case measure => simp [intOf]; omega
  ·have hd : decide (i < k.len) = false := by simpa using hlt
   have HP2 := xH ((HBB.out.block w.heap.size (by have := HZ1.out; omega)).trans HP.out);have HQ2 := xH ((HBB.out.block (w.heap.size + 1) (by have := HZ1.out; omega)).trans HQ.out);have HWR := xH (trw.qi HB.out HBB.out);obtain ⟨a0, a1, a2, a3, a4, a5, a6, a7, a8, a9, a10, aa11⟩ := gqw.nd129 HP2.out;obtain ⟨e0, e1, e2, e3, e4, e5, e6, e7, e8, e9, e10, ee11⟩ := gqw.nd129 HQ2.out;rw [← HL.out.1] at e0;rw [← HL.out.2.1] at e1;rw [← HL.out.2.2.1] at e9;have ba : (x.at_ == x.at_) = true := by simp
   have bo : (x.on == x.on) = true := by simp
   clear hlt c0 d0 c11 d11 a2 a3 a4 a5 a6 a7 a8 a10 e2 e3 e4 e5 e6 e7 e8 e10 aa11 ee11;by_cases k7 : x.kind = 7
   ·have b7 : (x.kind == 7) = true := by simp [k7]
    clear k7;go_wp2_with fail
    go_ret
    exact ⟨rfl, HWR.out⟩
   have b7 : (x.kind == 7) = false := by simp [k7]
   by_cases k8 : x.kind = 8
   ·have b8 : (x.kind == 8) = true := by simp [k8]
    clear k7 k8;go_wp2_with fail
    go_ret
    exact ⟨rfl, HWR.out⟩
   have b8 : (x.kind == 8) = false := by simp [k8]
   by_cases k19 : x.kind = 19
   ·have b19 : (x.kind == 19) = true := by simp [k19]
    clear k7 k8 k19;go_wp2_with fail
    go_ret
    exact ⟨rfl, HWR.out⟩
   have b19 : (x.kind == 19) = false := by simp [k19]
   have HSQ := xH (show sameT ({ x with kv := nil3 }, F.nil) ({ y with kv := nil3 }, F.nil) = true from by have := HL.out.2.2.2 k7 k8 k19;show (labEq x y && decide (F.nil.len = F.nil.len) && sameF .nil .nil) = true;rw [this];rfl)
   have HSA := xH (show ∀ w5, w5 = wr.setCell ⟨w.heap.size, 11, none⟩ (.slice none 0 0) → Below w.heap.size w w5 ∧ w5.heap[w.heap.size]? = some (.cells (ndC { x with kv := nil3 }).toArray 27 (0, 0)) ∧ w5.heap[w.heap.size + 1]? = some (.cells (ndC y).toArray 27 (0, 0)) from fun w5 h5 => by subst h5;exact ⟨HWR.out.setCell (xL _) _, tkw.heap_set HP2.out, (heap_setCell_other wr _ _ _ (show w.heap.size + 1 ≠ w.heap.size by omega)).trans HQ2.out⟩)
   have HSB := xH (show ∀ w5 w6, Below w.heap.size w w5 → w5.heap[w.heap.size]? = some (.cells (ndC { x with kv := nil3 }).toArray 27 (0, 0)) → w5.heap[w.heap.size + 1]? = some (.cells (ndC y).toArray 27 (0, 0)) → w6 = w5.setCell ⟨w.heap.size + 1, 11, none⟩ (.slice none 0 0) → Below w.heap.size w w6 ∧ w6.heap[w.heap.size]? = some (.cells (ndC { x with kv := nil3 }).toArray 27 (0, 0)) ∧ w6.heap[w.heap.size + 1]? = some (.cells (ndC { y with kv := nil3 }).toArray 27 (0, 0)) from fun w5 w6 hb hp hq h6 => by subst h6;exact ⟨hb.setCell (show w.heap.size ≤ w.heap.size + 1 by omega) _, (heap_setCell_other w5 _ _ _ (show w.heap.size ≠ w.heap.size + 1 by omega)).trans hp, tkw.heap_set hq⟩)
   clear k7 k8 k19 a1 a9 e0 e1 e9;go_upto_region 12 with (refine rpw.jW rfl rfl _ _ rfl w.heap.size rfl none 0 0 rfl x HP2.out ?_; intro w5 h5; obtain ⟨hb5, hp5, hq5⟩ := HSA.out w5 h5.out; have HB5 := xH hb5; have HP5 := xH hp5; have HQ5 := xH hq5; clear hb5 hp5 hq5 h5 HSA HP2 HQ2)
   go_upto_region 13 with (refine rpw.jW rfl rfl _ _ rfl (w.heap.size + 1) rfl none 0 0 rfl y HQ5.out ?_; intro w6 h6; obtain ⟨hb6, hp6, hq6⟩ := HSB.out w5 w6 HB5.out HP5.out HQ5.out h6.out; have HB6 := xH hb6; have HP6 := xH hp6; have HQ6 := xH hq6; clear hb6 hp6 hq6 h6 HSB HB5 HP5 HQ5)
   have HCL := xH (rsame_any (F.nil.size + 1) ({ x with kv := nil3 }, .nil) ({ y with kv := nil3 }, .nil) w6 (Nat.lt_succ_self _) (trw.vO HB6.out (no_kids HN.out)) (trw.vO HB6.out (no_kids HM.out)));go_wp2_with (first
    | (refine ql rfl _ rfl w.heap.size rfl { x with kv := nil3 } HP6.out ?_)
    | (refine ql rfl _ rfl (w.heap.size + 1) rfl { y with kv := nil3 } HQ6.out ?_)
    | (refine HCL.out.mono ?_))
   rintro e w7 ⟨rfl, hb7⟩;rw [HSQ.out];have HB7 := xH (trw.qi HB6.out hb7);have s1 : w7.cell? ⟨w.heap.size, 1, none⟩ = some (.int .i64 x.at_) := trw.qf hb7 (by unfold World.cell?; rw [HP6.out]; rfl);have s2 : w7.cell? ⟨w.heap.size + 1, 1, none⟩ = some (.int .i64 x.at_) := trw.qf hb7 (by unfold World.cell?; rw [HQ6.out, HL.out.2.1]; rfl);clear hb7;go_wp2_with fail
   go_ret
   exact ⟨rfl, HB7.out⟩
theorem keeps_law10 (v : Value) (n : Nat) (g : Nat → Int) (o : Int) (w : World) (hv : Sl w v n g) : Calls Try.prog 8 #[v, .int .i64 o] w (trw.BoolB true w) := by
 have HFL := xH (fun w1 (hb : Below w.heap.size w w1) => numd_any v n g o w1 (utfw.below_sl hb hv));obtain ⟨va, vc, rfl⟩ : ∃ a c, v = .slice a n c := by
  obtain ⟨_, _, ⟨rfl, a, c, hv, _⟩ | ⟨b, off, cap, hv, _⟩⟩ := hv
  ·exact ⟨_, _, hv⟩
  ·exact ⟨_, _, hv⟩
 clear hv;go_enter Try.func8, Try.ntmps8;go_wp2_with fail
 refine (awake_any10 w).mono ?_;rintro e w1 ⟨rfl, hb1⟩;have HB1 := xH hb1;clear hb1;go_wp2_with fail
 refine (HFL.out w1 HB1.out).mono ?_;obtain ⟨R, hR⟩ : ∃ R, flatP (sg (strOf n g)) n o = R := ⟨_, rfl⟩;rw [hR];have fin0 : ∀ (e : Ending) (w2 : World), Below w1.heap.size w1 w2 → e = .returned (.tuple #[ndV (lab 0 0), .int .i64 0, nil3, .bool false]) → Hid (Below w.heap.size w w2) := fun e w2 hb _ => xH (trw.qi HB1.out hb)
 cases R with
 | none =>
  rintro e w2 ⟨hb2, rfl⟩;have HB2 := xH (trw.qi HB1.out hb2);have HG := xH (heap_alloc_new w2 (.cells zC.toArray 27));have HO := xH (qp (t := (lab 0 0, F.nil)) (rpw.zero_at w2));unfold zC at HG;clear hb2 hR HFL fin0;exact zx1
 | some t =>
  have HNT := xH (nt_of hR);clear fin0;rintro e w2 ⟨hb2, ⟨c0, rfl⟩ | ⟨c0, y, j, v2, rfl, hn, hs, hm⟩⟩
  ·have HB2 := xH (trw.qi HB1.out hb2);have HG := xH (heap_alloc_new w2 (.cells zC.toArray 27));have HO := xH (qp (t := (lab 0 0, F.nil)) (rpw.zero_at w2));unfold zC at HG;clear hb2 hR HFL c0;exact zx1
  ·have HB2 := xH (trw.qi HB1.out hb2);have HND := xH hn;have HO := xH (qp hn);have HG := xH (heap_alloc_new w2 (.cells zC.toArray 27));obtain ⟨l, hl⟩ : ∃ l, (nameR [] (capL (refF false 0 t 0).1)).2 = l := ⟨_, rfl⟩;rw [hl] at hm;obtain ⟨na, nc, hnv, _⟩ := id hm;subst hnv;have HNV := xH hm;have HRS := xH (fun w3 (hn3 : NdAt w3 (y, j)) (hv3 : NmI9 w3 (.slice na l.length nc) l) => res_num HNT.out hs (l := l) w3 hn3 hv3);obtain ⟨N, hN⟩ : ∃ N, visN (refF false 0 t 0).2 l (bare y) (strip j) 0 = N := ⟨_, rfl⟩;have HKP := xH (show KpF (F.one (bare y) (strip j)) (F.one N.2.1.1 N.2.1.2) from hN ▸ visN_keep (refF false 0 t 0).2 l (bare y) (strip j) 0);have HSY := xH (show strip (F.one y j) = F.one (bare y) (strip j) from rfl);rw [hN] at HRS;unfold zC at HG;clear hb2 hR HFL c0 hn hs hm hl hN HB1;generalize (refF false 0 t 0).2 = c at *;try dsimp only
   unfold ndV;go_upto_region 5 with (refine wpList_store_ny rfl rfl _ _ rfl w2.heap.size rfl _ y HG.out rfl HO.out rfl ?_; intro w3 h3; have HS3 := xH (show Below w2.heap.size w2 w3 ∧ w3.heap[w2.heap.size]? = some (.cells (ndC y).toArray 27 (0, 0)) from by rw [h3.out]; exact ⟨rpw.jU w2 _ _ _, setRow_heap _ _ _ _ _ _ HG.out⟩); clear h3)
   have HB3 := xH (trw.qi HB2.out HS3.out.1);have HND3 := xH (trw.vO HS3.out.1 HND.out);have HC3 := xH (HRS.out w3 (trw.vO HS3.out.1 HND.out) (nm_blw9 HNV.out HS3.out.1));generalize w2.heap.size = A0 at *;clear HRS HND HNV HG HB2;go_wp2_with (first
    | (refine ql rfl _ rfl A0 rfl y HS3.out.2 ?_)
    | (refine HC3.out.mono ?_))
   rintro e w4 ⟨hb4, ⟨p, hp, rfl⟩ | ⟨hp, y4, j4, rfl, hn4, hs4⟩⟩
   ·have HB4 := xH (trw.qi HB3.out hb4);have HO4 := xH (qp (t := (lab 0 0, F.nil)) (rpw.zero_at w4));have HG4 := xH (heap_alloc_new w4 (.cells zC.toArray 27));unfold zC at HG4;clear hb4 hp HKP HSY HC3;try dsimp only
    unfold ndV;go_upto_region 8 with (refine wpList_store_ny rfl rfl _ _ rfl w4.heap.size rfl _ (lab 0 0) HG4.out rfl HO4.out rfl ?_; intro w5 h5; have HS5 := xH (show Below w4.heap.size w4 w5 ∧ w5.heap[w4.heap.size]? = some (.cells (ndC (lab 0 0)).toArray 27 (0, 0)) from by rw [h5.out]; exact ⟨rpw.jU w4 _ _ _, setRow_heap _ _ _ _ _ _ HG4.out⟩); clear h5)
    have s0 : w5.cell? ⟨w4.heap.size, 0, none⟩ = some (.int .i64 0) := by unfold World.cell?; rw [HS5.out.2]; rfl
    go_wp2_with fail
    go_ret
    exact ⟨by first | rfl | simp, trw.qi HB4.out HS5.out.1⟩
   ·have HB4 := xH (trw.qi HB3.out hb4);have HKK := xH (show KpF (F.one y j) (F.one y4 j4) from kpF_strip (by rw [HSY.out, hs4]; exact HKP.out));have HN4 := xH (gpw.ndI_at hn4);have HO4 := xH (qp (gpw.ndI_at hn4));have HG4 := xH (heap_alloc_new w4 (.cells zC.toArray 27));have HA4 := xH (show Below w3.heap.size w3 w4 ∧ A0 < w3.heap.size from ⟨hb4, (Array.getElem?_eq_some_iff.1 HS3.out.2).1⟩);unfold zC at HG4;clear hb4 hp hn4 hs4 HKP HSY HC3;try dsimp only
    unfold ndV;go_upto_region 8 with (refine wpList_store_ny rfl rfl _ _ rfl w4.heap.size rfl _ y4 HG4.out rfl HO4.out rfl ?_; intro w5 h5; have HS5 := xH (show Below w4.heap.size w4 w5 ∧ w5.heap[w4.heap.size]? = some (.cells (ndC y4).toArray 27 (0, 0)) from by rw [h5.out]; exact ⟨rpw.jU w4 _ _ _, setRow_heap _ _ _ _ _ _ HG4.out⟩); clear h5)
    have HA5 := xH (show Below w3.heap.size w3 w5 ∧ w5.heap[A0]? = some (.cells (ndC y).toArray 27 (0, 0)) from have h := trw.qi HA4.out.1 HS5.out.1; ⟨h, (h.block A0 HA4.out.2).trans HS3.out.2⟩);have HWI := xH (keeps_all (j.size + 1) w5 y y4 j j4 (Nat.lt_succ_self _) (trw.vO HA5.out.1 HND3.out) (trw.vO HS5.out.1 HN4.out) HKK.out);have HB5 := xH (trw.qi HB4.out HS5.out.1);obtain ⟨c0, c1, c2, c3, c4, c5, c6, c7, c8, c9, c10, c11⟩ := gqw.nd129 HA5.out.2;obtain ⟨d0, d1, d2, d3, d4, d5, d6, d7, d8, d9, d10, d11⟩ := gqw.nd129 HS5.out.2;unfold ndV at HWI;try dsimp only
    go_wp2_with fail
    refine HWI.out.mono ?_;rintro e w6 ⟨rfl, hb6⟩;have HB6 := xH (trw.qi HB5.out hb6);clear hb6 c0 c1 c2 c3 c4 c5 c6 c7 c8 c9 c10 c11 d0 d1 d2 d3 d4 d5 d6 d7 d8 d9 d10 d11;go_wp2_with fail
    go_ret
    exact ⟨by first | rfl | simp, HB6.out⟩
end rfl10
end
end Go.Proofs.Ytdgfclbajjjcgaa
