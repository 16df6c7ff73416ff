/- T -/
import Derived.BigQuiet
import Derived.BigRegion
import Derived.Carry
import Derived.Deep.Cut
import Derived.Deep.CutBlock
import Derived.Deep.DeepCutAuto
import Derived.Deep.DeepHandedRow
import Derived.Deep.Onto
import Derived.Deep.QuietTactic
import Derived.Deep.RegionHeld
import Derived.Deep.RegionHeld3
import Derived.Deep.RegionWith
import Derived.Great.BuildSlice
import Derived.IntWalk
import Derived.KernelRfl
import Derived.Laws.AppendOwn
import Derived.Laws.AppendOwnNone
import Derived.Laws.BitsLemmas
import Derived.Laws.BytesArg
import Derived.Laws.Closers25b
import Derived.Laws.ComplexArith
import Derived.Laws.CopyRow
import Derived.Laws.Cover2
import Derived.Laws.Cover3
import Derived.Laws.FloatArith
import Derived.Laws.MakeOwn
import Derived.Laws.OwnMore
import Derived.Laws.RangeAny
import Derived.Laws.Rows
import Derived.Laws.Shifts
import Derived.Laws.StructEq
import Derived.Lib.BytesEntry
import Derived.Lib.ConvBytes
import Derived.Lib.Hide
import Derived.Lib.LaidTab
import Derived.Lib.OwnBridge
import Derived.Lib.QuietBelow
import Derived.Lib.SlBytesConst
import Derived.LoopN
import Derived.Maps.AppendAt
import Derived.Maps.OwnSet
import Derived.OpenShut
import Derived.Outline
import Derived.OwnWalk
import Derived.ProofKit
import Derived.RegionTactic
import Derived.Shelf.Abstract
import Derived.Shelf.Bytes.SlIndexAt
import Derived.Shelf.Lays8
import Derived.Shelf.SlLaysC2
import Derived.Shelf.SlLaysE
import Derived.Shelf.SlLaysE0
import Derived.Shelf.SlLaysF
import Derived.Shelf.SlLaysH
import Derived.Shelf.SlicesE.Clone
import Derived.Shelf.SlicesE.Equal
import Derived.Shelf.SlicesE.IndexFunc
import Derived.Shelf.SlicesG.Cmp
import Derived.Shelf.Spec.SlicesGrow
import Derived.SizedLaws
import Derived.Sort.Grow
import Derived.Sort.Walk0
import Derived.StillTailTactics
import Derived.Stop.LaidErr
import Derived.Test.YtdgfclbajjjcgaaChecked
import Derived.Test.YtdgfclbajjjcgaaRows
import Derived.WalkKit
import Derived.WalkLawsBesides
import Derived.WalkMore
import Derived.WalkSpells
import GoSem.Core.Float
import Derived.Test.YtdgfclbajjjcgaaBWb01
import Derived.Test.YtdgfclbajjjcgaaBWb02
import Derived.Test.YtdgfclbajjjcgaaBWb03
import Derived.Test.YtdgfclbajjjcgaaBWb04
import Derived.Test.YtdgfclbajjjcgaaBWb05
import Derived.Test.YtdgfclbajjjcgaaBWb06
import Derived.Test.YtdgfclbajjjcgaaBWb07
import Derived.Test.YtdgfclbajjjcgaaBWb08
import Derived.Test.YtdgfclbajjjcgaaBWb09
import Derived.Test.YtdgfclbajjjcgaaBWb10
import Derived.Test.YtdgfclbajjjcgaaBWb11
import Derived.Test.YtdgfclbajjjcgaaBWb12
import Derived.Test.YtdgfclbajjjcgaaBWb13
import Derived.Test.YtdgfclbajjjcgaaBWb14
import Derived.Test.YtdgfclbajjjcgaaBWb15
import Derived.Test.YtdgfclbajjjcgaaBWb16
import Derived.Test.YtdgfclbajjjcgaaBWb17
import Derived.Test.YtdgfclbajjjcgaaBWb18
import Derived.Test.YtdgfclbajjjcgaaBWb19
import Derived.Test.YtdgfclbajjjcgaaBWb20
import Derived.Test.YtdgfclbajjjcgaaBWb21
import Derived.Test.YtdgfclbajjjcgaaBWb22
import Derived.Test.YtdgfclbajjjcgaaBWb23
import Derived.Test.YtdgfclbajjjcgaaBWb24
import Derived.Test.YtdgfclbajjjcgaaBWb25
import Derived.Test.YtdgfclbajjjcgaaBWb26
import Derived.Test.YtdgfclbajjjcgaaBWb27
import Derived.Test.YtdgfclbajjjcgaaBWb28
namespace Go.Proofs.Ytdgfclbajjjcgaa
namespace bulk
end bulk
namespace flt
end flt
namespace gpp
end gpp
namespace gpr
end gpr
namespace gpw
end gpw
namespace gqw
end gqw
namespace lawWidthsChars
end lawWidthsChars
namespace prd
end prd
namespace prp
end prp
namespace prw
end prw
namespace rdw
end rdw
namespace rfl10
end rfl10
namespace rfp
end rfp
namespace rfw
end rfw
namespace rpp
end rpp
namespace rpw
end rpw
namespace rsp
end rsp
namespace rsw
end rsw
namespace rtp
end rtp
namespace rtw
end rtw
namespace rwl11
end rwl11
namespace setl
end setl
namespace setp
end setp
namespace setw
end setw
namespace sq
end sq
namespace tkp
end tkp
namespace tkw
end tkw
namespace trp
end trp
namespace trw
end trw
namespace ucdp
end ucdp
namespace ucdw
end ucdw
namespace utfp
end utfp
namespace utfw
end utfw
namespace wdf
end wdf
namespace wdl
end wdl
namespace wdp
end wdp
namespace wdw
end wdw
set_option maxHeartbeats 16000000
set_option maxRecDepth 1000000
/- Z -/
namespace sq
open sq
end sq
section
namespace wdp
open sq
open Go trp rpp
theorem told_mk (a b : Nat) : toldP (a, b) = ((a : Int), if 1000 < b then -1 else (b : Int)) := rfl
theorem told_bnd (x y : Nat) : toldP (bnd (x, y)) = (((min x 1000 : Nat) : Int), if 1000 < y then -1 else (y : Int)) := by
 show toldP (min x 1000, min y 1001) = _;rw [told_mk];by_cases h : 1000 < y
 ·rw [if_pos h, if_pos (by omega)]
 ·rw [if_neg h, if_neg (by omega), show min y 1001 = y by omega]
end wdp
end
section
namespace wdl
open sq
open Go Go.RowKit Go.Maps utfw trp trw rpp rsp rtp setw rsw wdp wdw
open rpw (qp ql)
open tkw (sg)
theorem fAt_cons {w : World} {b o : Nat} {x : Lab} {k r : F} (hc : ∀ j v, (ndC x)[j]? = some v → w.cell? ⟨b, o + j, none⟩ = some v) (hn : NdAt w (x, k)) (hr : FAt w b (o + 12) r) : FAt w b o (.cons x k r) := ⟨hc, ⟨hn.1, hn.2.1⟩, hn.2.2, hr⟩
theorem row_at {w : World} {b : Nat} {L : List Value} {t : TypeId} {fr : Nat × Nat} (h : w.heap[b]? = some (.cells L.toArray t fr)) {o : Nat} {l : List Value} (hl : ∀ j v, l[j]? = some v → L[o + j]? = some v) : ∀ j v, l[j]? = some v → w.cell? ⟨b, o + j, none⟩ = some v := fun j v hj => by
 unfold World.cell?;rw [h];simpa using hl j v hj
theorem zk {w : World} {b : Nat} {x : Lab} {k : F} {t : TypeId} {fr : Nat × Nat} (h : w.heap[b]? = some (.cells (ndC x).toArray t fr)) (hx : NdAt w (x, k)) : FAt w b 0 (F.one x k) :=
 fAt_cons (row_at h fun i v hi => by rw [Nat.zero_add]; exact hi) hx trivial
theorem kid_nd {w : World} {b n : Nat} {f : F} {K N M : Int} (hf : FAt w b 0 f) (hn : f.len = n) (hn2 : n ≤ 100000) (hK : I64 K) (hN : I64 N) (hM : I64 M) : NdAt w ({ lab K 0 with n := N, m := M, kv := .slice (some ⟨b, 0, none⟩) n n }, f) := by have z : I64 0 := ⟨by decide, by decide⟩;subst hn;exact ⟨⟨hK, z, z, hN, hM, z, z, z⟩, ⟨none, 0, rfl, xL _, by decide, .inl rfl⟩, ⟨_, f.len, rfl, xL _, by omega, .inr ⟨b, 0, rfl, hf⟩⟩⟩
theorem su_row {w w' : World} (L : List Value) (l : Lab) (h : (w.alloc (.cells L.toArray 27)).alloc (.cells (ndC l).toArray 27) = w') :
 Below w.heap.size w w' ∧ w'.heap[w.heap.size]? = some (.cells L.toArray 27 (0, 0)) ∧ w'.heap[w.heap.size + 1]? = some (.cells (ndC l).toArray 27 (0, 0)) := by
 subst h;have e := World.size_alloc w (.cells L.toArray 27);refine ⟨trw.qi (trw.qg w _) (trw.qg _ _), (heap_alloc_old _ _ (by rw [e]; omega)).trans (heap_alloc_new w _), ?_⟩;have := heap_alloc_new (w.alloc (.cells L.toArray 27)) (.cells (ndC l).toArray 27);rwa [e] at this
end wdl
end
section
namespace wdp
open sq
open Go trp rpp
def copies : Nat → F
 | 0 => .nil
 | i + 1 => F.app (copies i) (F.one (lab 2 0) .nil)
theorem wids_app (env : Int → Wd) : ∀ f g : F, wids env (F.app f g) = wids env f ++ wids env g
 | .nil, g => rfl
 | .cons x k r, g => by rw [F.app, wids, wids, wids_app env r g];rfl
theorem acc_appF : ∀ f g : F, accF (F.app f g) = (accF f || accF g)
 | .nil, g => rfl
 | .cons x k r, g => by rw [F.app, accF, accF, acc_appF r g, ← Bool.or_assoc]
theorem fitC_app : ∀ {f g : F}, FitC f → FitC g → FitC (F.app f g)
 | .nil, _, _, h => h
 | .cons _ _ _, _, h, k => ⟨h.1, h.2.1, fitC_app h.2.2 k⟩
theorem copies_acc : ∀ n, accF (copies n) = false
 | 0 => rfl
 | n + 1 => by rw [copies, acc_appF, copies_acc n]; rfl
theorem copies_fit : ∀ n, FitC (copies n)
 | 0 => trivial
 | n + 1 => fitC_app (copies_fit n) ⟨⟨fun e => absurd (show (2 : Int) = 20 from e) (by decide), fun e => absurd (show (2 : Int) = 8 from e) (by decide)⟩, trivial, trivial⟩
theorem app_lenF : ∀ f g : F, (F.app f g).len = f.len + g.len
 | .nil, g => by simp [F.app, F.len]
 | .cons x k r, g => by rw [F.app, F.len, F.len, app_lenF r g]; omega
theorem copies_len : ∀ n, (copies n).len = n
 | 0 => rfl
 | n + 1 => by rw [copies, app_lenF, copies_len n]; rfl
theorem copies_sum (env : Int → Wd) : ∀ n, n ≤ 1000 → sumW (wids env (copies n)) = (n, n)
 | 0, _ => rfl
 | n + 1, h => by have ih := copies_sum env n (by omega);unfold sumW at ih ⊢;rw [copies, wids_app, List.foldl_append, ih];show bnd (n + 1, n + 1) = (n + 1, n + 1);unfold bnd;simp only [dL];omega
theorem chars_wid {c r s : Lab} {n : Nat} {k m : Int} (hn : n ≤ 300) (hk : 0 ≤ k) (hkm : k ≤ m) (hm : m ≤ 255) (hs : s.kind = 12) (hr : r.kind = 20 ∧ r.n = k ∧ r.m = m) (hc : c.kind = 14) (root : Nd) :
 widP (c, F.one r (F.one s (copies n))) root = (min ((n : Int) * k) 1000, if 1000 < (n : Int) * m then -1 else (n : Int) * m) := by
 obtain ⟨K, rfl⟩ := Int.eq_ofNat_of_zero_le hk;obtain ⟨M, rfl⟩ := Int.eq_ofNat_of_zero_le (Int.le_trans hk hkm);have ha : ∀ x : Lab, x.kind ≠ 9 → ∀ f, accF f = false → accF (F.one x f) = false := fun x hx f hf => by rw [acc_one, hf];unfold acc1;simp [hx]
 have h1 := ha s (by omega) _ (copies_acc n);have h2 := ha r (by omega) _ h1;have h3 := ha c (by omega) _ h2;have o1 : ∀ env, oneW env s (wids env (copies n)) = (n, n) := fun env => by unfold oneW;rw [if_neg (by omega), if_neg (by omega), if_pos (by omega), copies_sum env n (by omega)]
 have sg : ∀ {w : Wd}, Bw w → sumW [w] = w := fun {w} h => by obtain ⟨a, b⟩ := w;simp only [Bw] at h;simp only [sumW, List.foldl_cons, List.foldl_nil, bnd, dL];omega
 have o2 : ∀ env, oneW env r (wids env (F.one s (copies n))) = timesW (n, n) K M := fun env => by rw [show wids env (F.one s (copies n)) = [oneW env s (wids env (copies n))] from rfl, o1];unfold oneW;rw [if_neg (by omega), if_neg (by omega), if_neg (by omega), if_neg (by omega), if_neg (by omega), if_pos hr.1, sg ⟨by show n ≤ 1000; omega, by show n ≤ 1001; omega⟩, hr.2.1, hr.2.2]
 unfold widP partW;simp only;rw [if_neg (by rw [h3]; decide), show wids (callW root) (F.one r (F.one s (copies n))) = [oneW (callW root) r (wids (callW root) (F.one s (copies n)))] from rfl, o2];unfold oneW;rw [if_neg (by omega), if_neg (by omega), if_pos (by omega)];have ht : timesW (n, n) (K : Int) (M : Int) = bnd (K * n, M * n) := by unfold timesW moreN;rw [if_neg (show ¬ (M : Int) < 0 by omega), Int.toNat_natCast, Int.toNat_natCast]
 rw [ht, sg (bw_bnd _), told_bnd];have e1 : ((K * n : Nat) : Int) = (n : Int) * (K : Int) := by rw [Int.natCast_mul, Int.mul_comm]
 have e2 : ((M * n : Nat) : Int) = (n : Int) * (M : Int) := by rw [Int.natCast_mul, Int.mul_comm]
 rw [← e1, ← e2];generalize K * n = p;generalize M * n = q;by_cases h : 1000 < q
 ·rw [if_pos h, if_pos (show (1000 : Int) < (q : Int) by omega), show ((min p 1000 : Nat) : Int) = min (p : Int) 1000 by omega]
 ·rw [if_neg h, if_neg (show ¬ (1000 : Int) < (q : Int) by omega), show ((min p 1000 : Nat) : Int) = min (p : Int) 1000 by omega]
end wdp
end
section
namespace wdl
open sq
open Go Go.RowKit Go.Maps utfw trp trw rpp rsp rtp setw rsw wdp wdw
open rpw (qp ql OwnN ownN_nil jL own_below zF zD vis vis_to)
open tkw (Kept)
abbrev sqL (v : Value) : Lab := { lab 12 0 with n := 0, m := 0, kv := v }
theorem nd_leaf (K : Int) (hK : I64 K) (w : World) : NdAt w (lab K 0, .nil) := by have z : I64 0 := ⟨by decide, by decide⟩;exact ⟨⟨hK, z, z, z, z, z, z, z⟩, ⟨none, 0, rfl, xL _, by decide, .inl rfl⟩, ⟨none, 0, rfl, xL _, by decide, .inl rfl⟩⟩
structure ChI (S : Nat) (w1 w : World) (v : Value) (i : Nat) : Prop where
 s : w.heap[S]? = some (.cells (ndC (sqL v)).toArray 27 (0, 0))
 o : OwnN 0 S (S + 1) w v (copies i)
 b : Below S w1 w
 z : S + 1 ≤ w.heap.size
theorem ChI.next {S i : Nat} {w1 w w6 : World} {v v' : Value} (h : ChI S w1 w v i) (ho : OwnN 0 S (S + 1) w6 v' (copies (i + 1))) (hb : Below (S + 1) w w6) : ChI S w1 (w6.setCell ⟨S, 11, none⟩ v') v' (i + 1) := by have hs := (hb.block S (by omega)).trans h.s;refine ⟨?_, jL ho ((Kept.refl _ _ _).setCell 11 v') (Nat.lt_succ_self _), (h.b.trans (hb.mono (Nat.le_succ _))).setCell (xL _) _, Nat.le_trans h.z (Nat.le_trans hb.size (by simp [World.setCell]))⟩;rw [tkw.heap_set hs];rfl
theorem chars_law11 (n k m : Int) (w : World) (n0 : -9223372036854775808 ≤ n) (n1 : n ≤ 9223372036854775807) (k0 : -9223372036854775808 ≤ k) (k1 : k ≤ 9223372036854775807) (m0 : -9223372036854775808 ≤ m) (m1 : m ≤ 9223372036854775807) :
 Calls Try.prog 11 #[.int .i64 n, .int .i64 k, .int .i64 m] w (trw.BoolB true w) := by
 go_enter Try.func11, Try.ntmps11;go_wp2_with fail
 refine (awake_any11 w).mono ?_;rintro e w1 ⟨rfl, hb1⟩;have HB1 := xH hb1;clear hb1;go_upto_region 4 with (fail)
 by_cases c1 : n < 0
 ·go_wp2_with fail
  go_ret
  exact ⟨rfl, HB1.out⟩
 by_cases c2 : 300 < n
 ·go_wp2_with fail
  go_ret
  exact ⟨rfl, HB1.out⟩
 by_cases c3 : n = 1
 ·have b3 : (n == 1) = true := by simp [c3]
  clear c3;go_wp2_with fail
  go_ret
  exact ⟨rfl, HB1.out⟩
 have b3 : (n == 1) = false := by simp [c3]
 by_cases c4 : k < 0
 ·go_wp2_with fail
  go_ret
  exact ⟨rfl, HB1.out⟩
 by_cases c5 : 255 < k
 ·go_wp2_with fail
  go_ret
  exact ⟨rfl, HB1.out⟩
 by_cases c6 : m < k
 ·go_wp2_with fail
  go_ret
  exact ⟨rfl, HB1.out⟩
 by_cases c7 : 255 < m
 ·go_wp2_with fail
  go_ret
  exact ⟨rfl, HB1.out⟩
 obtain ⟨N, rfl⟩ := Int.eq_ofNat_of_zero_le (show 0 ≤ n by omega);go_upto_region 8 with (fail)
 generalize hw2 : w1.alloc _ = w2;have HS2 := xH (show ChI w1.heap.size w1 w2 nil3 0 from by
  have h1 : w2.heap[w1.heap.size]? = some (.cells (ndC (sqL nil3)).toArray 27 (0, 0)) := by rw [← hw2]; exact heap_alloc_new w1 _
  have h2 : w2.heap.size = w1.heap.size + 1 := by rw [← hw2]; exact World.size_alloc w1 _
  exact ⟨h1, ownN_nil _ _ _, by rw [← hw2]; exact trw.qg w1 _, by omega⟩)
 clear hw2;obtain ⟨S, hS⟩ : ∃ S, w1.heap.size = S := ⟨_, rfl⟩;rw [hS] at HS2 ⊢;have HSW := xH hS;clear hS c3;go_wp2_with fail
 go_loopw [9] (fun v9 wr => ∃ (i : Nat) (v : Value), v9 = .int .i64 i ∧ i ≤ N ∧ Hid (ChI S w1 wr v i)) (fun v9 _ => N - (intOf v9).toNat)
 case atStart => exact ⟨0, nil3, rfl, Nat.zero_le _, HS2⟩
 case round =>
  obtain ⟨i, v, rfl, hi, HI⟩ := hrel;by_cases hlt : i < N
  ·have i1 : (i : Int) < (N : Int) := by omega
   have c11 : wr.cell? ⟨S, 11, none⟩ = some v := by unfold World.cell?; rw [HI.out.s]; rfl
   have hm : S + 1 ≤ wr.heap.size := HI.out.z;have hg : ∀ g, v.ownBlock = some g → S ≤ g ∧ g < wr.heap.size := fun g hg => by have := own_below HI.out.o.1 hg; omega
   have hl : (copies i).len ≤ 100000 := by rw [copies_len]; omega
   have HL := xH (nd_leaf 2 ⟨by decide, by decide⟩ (vis 0 S wr.heap.size wr));have z11 : ∀ w6 : World, Below (S + 1) wr w6 → w6.frozen? ⟨S, 11, none⟩ = false := fun w6 hb => by unfold World.frozen?; rw [(hb.block S (by omega)).trans HI.out.s]; rfl
   have y11 : ∀ w6 : World, Below (S + 1) wr w6 → w6.cell? ⟨S, 11, none⟩ = some v := fun w6 hb => by unfold World.cell?; rw [(hb.block S (by omega)).trans HI.out.s]; rfl
   have HZ11 := xH z11;have HY11 := xH y11;clear hlt z11 y11;go_wp2_with (at_builtin; refine zD rfl _ _ rfl S (S + 1) wr.heap.size v (copies i) rfl HI.out.o (lab 2 0) .nil HL.out hm hg _ rfl rfl hl hm ?_; intro v6 w6 h6 hb6 _; obtain ⟨a6, c6, rfl⟩ := trw.zJ h6.1; have HO6 := xH h6; have HB6 := xH hb6; have z6 := HZ11.out w6 hb6; have y6 := HY11.out w6 hb6; clear h6 hb6)
   go_roundw
   case rel => exact ⟨i + 1, _, by go_num, by omega, xH (HI.out.next HO6.out HB6.out)⟩
   case measure => simp [intOf]; omega
  ·obtain rfl : i = N := by omega
   have i1 : ¬ ((i : Int) < (i : Int)) := by omega
   clear hlt;obtain ⟨a9, c9, rfl⟩ := trw.zJ HI.out.o.1;have z : I64 0 := ⟨by decide, by decide⟩;have z12 : I64 12 := ⟨by decide, by decide⟩;have HNS := xH (show NdAt wr (sqL (.slice a9 (copies i).len c9), copies i) from ⟨⟨z12, z, z, z, z, z, z, z⟩, ⟨none, 0, rfl, xL _, by decide, .inl rfl⟩, jh (fun a u h => vis_to h) (zF HI.out.o)⟩);obtain ⟨sl, hsl⟩ : ∃ l, sqL (.slice a9 (copies i).len c9) = l := ⟨_, rfl⟩;have HSL := xH (show sl.kind = 12 from by rw [← hsl]; rfl);have HBR := xH (show Below w.heap.size w wr from trw.qi HB1.out (HSW.out ▸ HI.out.b));have HP := xH HI.out.s;rw [hsl] at HNS HP;clear hsl z z12 HI HS2 hi HSW;go_upto_region 13 with (refine ql rfl _ rfl S rfl sl HP.out ?_)
   generalize hwa : (wr.alloc _).alloc _ = wa;have HRA := xH (su_row (w := wr) (ndC sl) { lab 20 0 with n := k, m := m, kv := .slice (some ⟨wr.heap.size, 0, none⟩) 1 1 } hwa);have HBA := xH (trw.qi HBR.out HRA.out.1);have HNA := xH (kid_nd (n := 1) (K := 20) (N := k) (M := m) (zk HRA.out.2.1 (trw.vO HRA.out.1 HNS.out)) rfl (by decide) ⟨by decide, by decide⟩ ⟨k0, k1⟩ ⟨m0, m1⟩);have HVA := xH HRA.out.2.2;clear hwa HRA HP HNS HBR;go_upto_region 14 with (refine ql rfl _ rfl (wr.heap.size + 1) rfl { lab 20 0 with n := k, m := m, kv := .slice (some ⟨wr.heap.size, 0, none⟩) 1 1 } HVA.out ?_)
   generalize hwb : (wa.alloc _).alloc _ = wb;have HRB := xH (su_row (w := wa) (ndC { lab 20 0 with n := k, m := m, kv := .slice (some ⟨wr.heap.size, 0, none⟩) 1 1 }) { lab 14 0 with n := 1, m := 0, kv := .slice (some ⟨wa.heap.size, 0, none⟩) 1 1 } hwb);have HBB := xH (trw.qi HBA.out HRB.out.1);have HNB := xH (kid_nd (n := 1) (K := 14) (N := 1) (M := 0) (zk HRB.out.2.1 (trw.vO HRB.out.1 HNA.out)) rfl (by decide) ⟨by decide, by decide⟩ ⟨by decide, by decide⟩ ⟨by decide, by decide⟩);have HVB := xH HRB.out.2.2;clear hwb HRB HNA HVA HBA;have fit : FitC (F.one { lab 14 0 with n := 1, m := 0, kv := .slice (some ⟨wa.heap.size, 0, none⟩) 1 1 } (F.one { lab 20 0 with n := k, m := m, kv := .slice (some ⟨wr.heap.size, 0, none⟩) 1 1 } (F.one sl (copies i)))) :=
    ⟨⟨fun e => absurd (show (14 : Int) = 20 from e) (by decide), fun e => absurd (show (14 : Int) = 8 from e) (by decide)⟩,
     ⟨⟨fun _ => ⟨show 0 ≤ k by omega, show k ≤ 100000 by omega, show -1 ≤ m by omega, show m ≤ 100000 by omega, .inr (show k ≤ m by omega)⟩, fun e => absurd (show (20 : Int) = 8 from e) (by decide)⟩,
      ⟨⟨fun e => by have := HSL.out; omega, fun e => by have := HSL.out; omega⟩, copies_fit i, trivial⟩, trivial⟩, trivial⟩
   have HW := width_any _ _ _ _ wb HNB.out HNB.out fit fit;rw [chars_wid (by omega) c4 c6 c7 HSL.out ⟨rfl, rfl, rfl⟩ rfl] at HW;unfold ndV at HW;obtain ⟨⟨lo, hi⟩, hq⟩ : ∃ q, (min ((i : Int) * k) 1000, if 1000 < (i : Int) * m then -1 else (i : Int) * m) = q := ⟨_, rfl⟩;rw [hq] at HW;have HQ := xH (Prod.mk.inj hq);clear hq;have HWH := xH HW;clear HW fit HNB HSL;go_wp2_with (refine ql rfl _ rfl (wa.heap.size + 1) rfl { lab 14 0 with n := 1, m := 0, kv := .slice (some ⟨wa.heap.size, 0, none⟩) 1 1 } HVB.out ?_)
   refine HWH.out.mono ?_;rintro e wc ⟨rfl, hbc⟩;have HBC := xH (trw.qi HBB.out hbc);clear hbc HWH HVB HBB;have pk0 : 0 ≤ (i : Int) * k := Int.mul_nonneg c1 c4;have pk1 : (i : Int) * k ≤ 76500 := Int.mul_le_mul c2 c5 c4 (by decide);have pm0 : 0 ≤ (i : Int) * m := Int.mul_nonneg c1 (Int.le_trans c4 c6);have pm1 : (i : Int) * m ≤ 76500 := Int.mul_le_mul c2 c7 (Int.le_trans c4 c6) (by decide);have hv1 : lo = min ((i : Int) * k) 1000 := HQ.out.1.symm;have hv2 : hi = if 1000 < (i : Int) * m then -1 else (i : Int) * m := HQ.out.2.symm
   clear HQ c4 c5 c6 c7 k0 k1 m0 m1 n0 n1 b3 i1 c1 c2;have mi : ∀ (w : World) ts t, (Builtin.min_ ts t #[.int .i64 ((i : Int) * k), .int .i64 1000]).run Try.prog w = .ok (.int .i64 lo) w := fun w ts t => by rw [show (Builtin.min_ ts t #[.int .i64 ((i : Int) * k), .int .i64 1000]).run Try.prog w = .ok (.int .i64 (if 1000 < (i : Int) * k then 1000 else (i : Int) * k)) w from by simp [Builtin.min_, Builtin.min2], show (if 1000 < (i : Int) * k then 1000 else (i : Int) * k) = lo from by rw [hv1]; split <;> omega]
   clear hv1;by_cases h1 : 1000 < (i : Int) * m
   ·rw [if_pos h1] at hv2;subst hv2;go_wp2_with fail
    go_ret
    exact ⟨rfl, HBC.out⟩
   ·rw [if_neg h1] at hv2;subst hv2;go_wp2_with fail
    go_ret
    exact ⟨rfl, HBC.out⟩
end wdl
end
section
namespace gpr
open sq
open Go Go.RowKit Go.ChangeShapes Go.WideShapes Go.ChangeAt utfp utfw
theorem wf_int {n : Int} (h : (Lit.int .i64 n).wf = true) : -9223372036854775808 ≤ n ∧ n ≤ 9223372036854775807 := by
 have h2 : IntKind.i64.min ≤ n ∧ n ≤ IntKind.i64.max := by simpa [Lit.wf] using h
 rw [show IntKind.i64.min = -9223372036854775808 by decide, show IntKind.i64.max = 9223372036854775807 by decide] at h2;exact h2
end gpr
end
end Go.Proofs.Ytdgfclbajjjcgaa
