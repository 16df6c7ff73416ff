/- T -/
import Derived.BigQuiet
import Derived.BigRegion
import Derived.Carry
import Derived.Deep.Cut
import Derived.Deep.CutBlock
import Derived.Deep.DeepCutAuto
import Derived.Deep.DeepHandedRow
import Derived.Deep.Onto
import Derived.Deep.QuietTactic
import Derived.Deep.RegionHeld
import Derived.Deep.RegionHeld3
import Derived.Deep.RegionWith
import Derived.Great.BuildSlice
import Derived.IntWalk
import Derived.KernelRfl
import Derived.Laws.AppendOwn
import Derived.Laws.AppendOwnNone
import Derived.Laws.BitsLemmas
import Derived.Laws.BytesArg
import Derived.Laws.Closers25b
import Derived.Laws.ComplexArith
import Derived.Laws.CopyRow
import Derived.Laws.Cover2
import Derived.Laws.Cover3
import Derived.Laws.FloatArith
import Derived.Laws.MakeOwn
import Derived.Laws.OwnMore
import Derived.Laws.RangeAny
import Derived.Laws.Rows
import Derived.Laws.Shifts
import Derived.Laws.StructEq
import Derived.Lib.BytesEntry
import Derived.Lib.ConvBytes
import Derived.Lib.Hide
import Derived.Lib.LaidTab
import Derived.Lib.OwnBridge
import Derived.Lib.QuietBelow
import Derived.Lib.SlBytesConst
import Derived.LoopN
import Derived.Maps.AppendAt
import Derived.Maps.OwnSet
import Derived.OpenShut
import Derived.Outline
import Derived.OwnWalk
import Derived.ProofKit
import Derived.RegionTactic
import Derived.Shelf.Abstract
import Derived.Shelf.Bytes.SlIndexAt
import Derived.Shelf.Lays8
import Derived.Shelf.SlLaysC2
import Derived.Shelf.SlLaysE
import Derived.Shelf.SlLaysE0
import Derived.Shelf.SlLaysF
import Derived.Shelf.SlLaysH
import Derived.Shelf.SlicesE.Clone
import Derived.Shelf.SlicesE.Equal
import Derived.Shelf.SlicesE.IndexFunc
import Derived.Shelf.SlicesG.Cmp
import Derived.Shelf.Spec.SlicesGrow
import Derived.SizedLaws
import Derived.Sort.Grow
import Derived.Sort.Walk0
import Derived.StillTailTactics
import Derived.Stop.LaidErr
import Derived.Test.YtdgfclbajjjcgaaChecked
import Derived.Test.YtdgfclbajjjcgaaRows
import Derived.WalkKit
import Derived.WalkLawsBesides
import Derived.WalkMore
import Derived.WalkSpells
import GoSem.Core.Float
import Derived.Test.YtdgfclbajjjcgaaBWb01
import Derived.Test.YtdgfclbajjjcgaaBWb02
import Derived.Test.YtdgfclbajjjcgaaBWb03
import Derived.Test.YtdgfclbajjjcgaaBWb04
import Derived.Test.YtdgfclbajjjcgaaBWb05
import Derived.Test.YtdgfclbajjjcgaaBWb06
import Derived.Test.YtdgfclbajjjcgaaBWb07
import Derived.Test.YtdgfclbajjjcgaaBWb08
import Derived.Test.YtdgfclbajjjcgaaBWb09
import Derived.Test.YtdgfclbajjjcgaaBWb10
import Derived.Test.YtdgfclbajjjcgaaBWb11
import Derived.Test.YtdgfclbajjjcgaaBWb12
import Derived.Test.YtdgfclbajjjcgaaBWb13
import Derived.Test.YtdgfclbajjjcgaaBWb14
import Derived.Test.YtdgfclbajjjcgaaBWb15
import Derived.Test.YtdgfclbajjjcgaaBWb16
import Derived.Test.YtdgfclbajjjcgaaBWb17
import Derived.Test.YtdgfclbajjjcgaaBWb18
import Derived.Test.YtdgfclbajjjcgaaBWb19
import Derived.Test.YtdgfclbajjjcgaaBWb20
import Derived.Test.YtdgfclbajjjcgaaBWb21
import Derived.Test.YtdgfclbajjjcgaaBWb22
import Derived.Test.YtdgfclbajjjcgaaBWb23
import Derived.Test.YtdgfclbajjjcgaaBWb24
import Derived.Test.YtdgfclbajjjcgaaBWb25
import Derived.Test.YtdgfclbajjjcgaaBWb26
import Derived.Test.YtdgfclbajjjcgaaBWb27
import Derived.Test.YtdgfclbajjjcgaaBWb28
namespace Go.Proofs.Ytdgfclbajjjcgaa
namespace bulk
end bulk
namespace flt
end flt
namespace gpp
end gpp
namespace gpr
end gpr
namespace gpw
end gpw
namespace gqw
end gqw
namespace lawWidthsSums
end lawWidthsSums
namespace prd
end prd
namespace prp
end prp
namespace prw
end prw
namespace rdw
end rdw
namespace rfl10
end rfl10
namespace rfp
end rfp
namespace rfw
end rfw
namespace rpp
end rpp
namespace rpw
end rpw
namespace rsp
end rsp
namespace rsw
end rsw
namespace rtp
end rtp
namespace rtw
end rtw
namespace rwl11
end rwl11
namespace setl
end setl
namespace setp
end setp
namespace setw
end setw
namespace sq
end sq
namespace tkp
end tkp
namespace tkw
end tkw
namespace trp
end trp
namespace trw
end trw
namespace ucdp
end ucdp
namespace ucdw
end ucdw
namespace utfp
end utfp
namespace utfw
end utfw
namespace wdf
end wdf
namespace wdl
end wdl
namespace wdp
end wdp
namespace wdw
end wdw
set_option maxHeartbeats 16000000
set_option maxRecDepth 1000000
/- Z -/
namespace sq
open sq
theorem zx3 {p : Prop} (h : p := by
 have b0 : ((tm : Int) == 0) = true := by simp [h0]
 have q0 : ¬ (0 : Int) < (tm : Int) := by omega
 clear h0;subst hi2;clear hs;go_wp2_with fail
 go_ret
 exact ⟨rfl, HB17.out⟩
 ) : p := h
theorem zx4 {p : Prop} (h : p := by
 have b0 : ((tm : Int) == 0) = false := by simp [h0]
 have q0 : (0 : Int) < (tm : Int) := by omega
 clear h0;subst hi2;clear hs;go_wp2_with fail
 go_ret
 exact ⟨rfl, HB17.out⟩
 ) : p := h
theorem zx1 {p : Prop} (h : p := by
 subst he2 hg2;by_cases h0 : tm = 0
 ·rw [if_pos h0] at hi2;exact zx3
 ·rw [if_neg h0, if_neg n1] at hi2;exact zx4
 ) : p := h
theorem zx2 {p : Prop} (h : p := by
 have HR := xH (show false = Q from by rw [← HE.out, drop_end (by omega)]; rfl);clear hlt;go_wp2_with fail
 go_ret
 exact ⟨by rw [← HR.out]; rfl, trw.qi HB.out HBB.out⟩
 ) : p := h
end sq
section
namespace wdp
open sq
open Go trp rpp
def callF : F → Bool
 | .nil => false
 | .cons x k r => decide (x.kind = 8) || callF k || callF r
theorem call_one (x : Lab) (k : F) : callF (F.one x k) = (decide (x.kind = 8) || callF k) := by simp [F.one, callF]
theorem one_free {env env' : Int → Wd} {x : Lab} {l : List Wd} (h : x.kind ≠ 8) : oneW env x l = oneW env' x l := by unfold oneW;simp only [if_neg h]
theorem wids_free (env env' : Int → Wd) : ∀ {f : F}, callF f = false → wids env f = wids env' f
 | .nil, _ => rfl
 | .cons x k r, h => by simp only [callF, dE, dD] at h;rw [wids, wids, wids_free env env' h.1.2, wids_free env env' h.2, one_free h.1.1]
theorem part_free {env env' : Int → Wd} {x : Lab} {k : F} (hc : callF (F.one x k) = false) (ha : accF (F.one x k) = false) : oneW env x (wids env k) = partW env' (x, k) := by rw [call_one, dE, dD] at hc;unfold partW;simp only;rw [ha, if_neg (by decide), wids_free env env' hc.2, one_free hc.1]
theorem acc_app (x y : Lab) (k j : F) : accF (.cons x k (.cons y j .nil)) = (accF (F.one x k) || accF (F.one y j)) := by simp [F.one, accF, Bool.or_assoc]
def two (x : Lab) (k : F) (y : Lab) (j : F) : F := .cons x k (.cons y j .nil)
theorem seq_wid {env env' env2 : Int → Wd} {s x y : Lab} {k j : F} (hs : s.kind = 12 ∨ s.kind = 13) (c1 : callF (F.one x k) = false) (c2 : callF (F.one y j) = false) (a1 : accF (F.one x k) = false) (a2 : accF (F.one y j) = false) :
 partW env (s, two x k y j) = if s.kind = 12 then bnd ((bnd (0 + (partW env' (x, k)).1, 0 + (partW env' (x, k)).2)).1 + (partW env2 (y, j)).1, (bnd (0 + (partW env' (x, k)).1, 0 + (partW env' (x, k)).2)).2 + (partW env2 (y, j)).2) else orW (partW env2 (y, j)) (partW env' (x, k)) := by
 have h9 : acc1 s = false := by unfold acc1; rcases hs with h | h <;> simp [h]
 unfold two;rw [show partW env (s, .cons x k (.cons y j .nil)) = oneW env s (wids env (.cons x k (.cons y j .nil))) by unfold partW;simp only;rw [acc_one, h9, acc_app, a1, a2, if_neg (by decide)]]
 rw [wids, wids, wids, part_free (env' := env') c1 a1, part_free (env' := env2) c2 a2];unfold oneW;rcases hs with h | h
 ·rw [if_neg (by omega), if_neg (by omega), if_pos (by omega), if_pos h];rfl
 ·rw [if_neg (by omega), if_neg (by omega), if_neg (by omega), if_pos (by omega), if_neg (by omega)];rfl
theorem rep_wid {env env' : Int → Wd} {s x : Lab} {k : F} (hs : s.kind = 20) (c1 : callF (F.one x k) = false) (a1 : accF (F.one x k) = false) :
 partW env (s, F.one x k) = timesW (bnd (0 + (partW env' (x, k)).1, 0 + (partW env' (x, k)).2)) s.n s.m := by
 have h9 : acc1 s = false := by unfold acc1; simp [hs]
 rw [show partW env (s, F.one x k) = oneW env s (wids env (F.one x k)) by unfold partW;simp only;rw [acc_one s, h9, a1, if_neg (by decide)]]
 rw [show wids env (F.one x k) = [oneW env x (wids env k)] from rfl, part_free (env' := env') c1 a1];unfold oneW;rw [if_neg (by omega), if_neg (by omega), if_neg (by omega), if_neg (by omega), if_neg (by omega), if_pos hs];rfl
theorem told_mk (a b : Nat) : toldP (a, b) = ((a : Int), if 1000 < b then -1 else (b : Int)) := rfl
theorem told_bnd (x y : Nat) : toldP (bnd (x, y)) = (((min x 1000 : Nat) : Int), if 1000 < y then -1 else (y : Int)) := by
 show toldP (min x 1000, min y 1001) = _;rw [told_mk];by_cases h : 1000 < y
 ·rw [if_pos h, if_pos (by omega)]
 ·rw [if_neg h, if_neg (by omega), show min y 1001 = y by omega]
theorem sums_told {p q : Wd} (hp : Bw p) (hq : Bw q) (h1 : p.1 ≤ 100) (h2 : (toldP p).2 ≤ 100) (h3 : q.1 ≤ 100) (h4 : (toldP q).2 ≤ 100) (t : Nat) (ht : t ≤ 8) :
 toldP (bnd ((bnd (0 + p.1, 0 + p.2)).1 + q.1, (bnd (0 + p.1, 0 + p.2)).2 + q.2)) = ((p.1 : Int) + q.1, if (toldP p).2 < 0 ∨ (toldP q).2 < 0 then -1 else (toldP p).2 + (toldP q).2) ∧
 toldP (orW q p) = (min (p.1 : Int) q.1, if (toldP p).2 < 0 ∨ (toldP q).2 < 0 then -1 else max (toldP p).2 (toldP q).2) ∧
 toldP (timesW (bnd (0 + p.1, 0 + p.2)) t t) = ((p.1 : Int) * t, if t = 0 then 0 else if (toldP p).2 < 0 then -1 else (toldP p).2 * t) := by
 obtain ⟨a, b⟩ := p;obtain ⟨c, d⟩ := q;rw [told_mk] at h2;rw [told_mk] at h4;simp only [Bw] at hp hq h1 h2 h3 h4;have e1 : bnd (0 + a, 0 + b) = (a, b) := by unfold bnd; simp only [dL]; omega
 have hb : b ≤ 100 ∨ b = 1001 := by split at h2 <;> omega
 have hd : d ≤ 100 ∨ d = 1001 := by split at h4 <;> omega
 rw [show ((a, b) : Wd).1 = a from rfl, show ((a, b) : Wd).2 = b from rfl, show ((c, d) : Wd).1 = c from rfl, show ((c, d) : Wd).2 = d from rfl, e1, show ((a, b) : Wd).1 = a from rfl, show ((a, b) : Wd).2 = b from rfl];refine ⟨?_, ?_, ?_⟩
 ·rw [told_bnd, told_mk, told_mk, show min (a + c) 1000 = a + c by omega];rcases hb with hb | hb <;> rcases hd with hd | hd
  ·rw [if_neg (show ¬ 1000 < b by omega), if_neg (show ¬ 1000 < d by omega), if_neg (show ¬ 1000 < b + d by omega), if_neg (show ¬ ((b : Int) < 0 ∨ (d : Int) < 0) by omega)]; rfl
  ·rw [if_pos (show 1000 < d by omega), if_pos (show 1000 < b + d by omega), if_pos (Or.inr (show (-1 : Int) < 0 by decide))]; rfl
  ·rw [if_pos (show 1000 < b by omega), if_pos (show 1000 < b + d by omega), if_pos (Or.inl (show (-1 : Int) < 0 by decide))]; rfl
  ·rw [if_pos (show 1000 < b by omega), if_pos (show 1000 < b + d by omega), if_pos (Or.inl (show (-1 : Int) < 0 by decide))]; rfl
 ·rw [show orW (c, d) (a, b) = (min c a, max d b) from rfl, told_mk, told_mk, told_mk, show ((min c a : Nat) : Int) = min (a : Int) c by omega];rcases hb with hb | hb <;> rcases hd with hd | hd
  ·rw [if_neg (show ¬ 1000 < b by omega), if_neg (show ¬ 1000 < d by omega), if_neg (show ¬ 1000 < max d b by omega), if_neg (show ¬ ((b : Int) < 0 ∨ (d : Int) < 0) by omega), show ((max d b : Nat) : Int) = max (b : Int) d by omega]
  ·rw [if_pos (show 1000 < d by omega), if_pos (show 1000 < max d b by omega), if_pos (Or.inr (show (-1 : Int) < 0 by decide))]
  ·rw [if_pos (show 1000 < b by omega), if_pos (show 1000 < max d b by omega), if_pos (Or.inl (show (-1 : Int) < 0 by decide))]
  ·rw [if_pos (show 1000 < b by omega), if_pos (show 1000 < max d b by omega), if_pos (Or.inl (show (-1 : Int) < 0 by decide))]
 ·have k1 : t * a ≤ 8 * 100 := Nat.mul_le_mul ht h1;have e2 : ((t * a : Nat) : Int) = (a : Int) * (t : Int) := by rw [Int.natCast_mul, Int.mul_comm]
  rw [show timesW (a, b) (t : Int) (t : Int) = bnd (t * a, t * b) from by unfold timesW moreN; rw [if_neg (show ¬ (t : Int) < 0 by omega), Int.toNat_natCast], told_bnd, told_mk, show min (t * a) 1000 = t * a by omega, e2];by_cases h0 : t = 0
  ·subst h0;simp
  ·rw [if_neg h0];rcases hb with hb | hb
   ·have k2 : t * b ≤ 8 * 100 := Nat.mul_le_mul ht hb;have e3 : ((t * b : Nat) : Int) = (b : Int) * (t : Int) := by rw [Int.natCast_mul, Int.mul_comm]
    rw [if_neg (show ¬ 1000 < b by omega), if_neg (show ¬ (b : Int) < 0 by omega), if_neg (show ¬ 1000 < t * b by omega), e3]
   ·have k2 : 1 * 1001 ≤ t * b := Nat.mul_le_mul (by omega) (by omega);rw [if_pos (show 1000 < b by omega), if_pos (show 1000 < t * b by omega), if_pos (show (-1 : Int) < 0 by decide)]
end wdp
end
section
namespace wdl
open sq
open Go Go.RowKit Go.Maps utfw trp trw rpp rsp rtp setw rsw wdp wdw
open rpw (qp ql)
theorem callF_drop {k : F} {i : Nat} {x : Lab} {j r : F} (hd : k.drop i = .cons x j r) : callF (k.drop i) = (callF (F.one x j) || callF (k.drop (i + 1))) := by rw [hd, drop_succ hd, call_one];rfl
theorem calls_all : ∀ (z : Nat) (w : World) (x : Lab) (k : F) (_hz : k.size < z) (_hn : NdAt w (x, k)), Calls Try.prog 29 #[ndV x] w (trw.BoolB (callF (F.one x k)) w) := by
 intro z;refine Nat.rec ?_ (fun z ih => ?_) z
 ·intro w x k hz;exact absurd hz (Nat.not_lt_zero _)
 intro w x k hz hn;have IH := xH (@ih);clear ih;have HN := xH hn;have HZ := xH hz;obtain ⟨ka, kq, hkv⟩ := kids_len hn.2.2;have hkl : k.len ≤ 9223372036854775807 := by obtain ⟨a, q, e, h1, h2, _⟩ := hn.2.2; exact Nat.le_trans h1 h2
 have HKV := xH (show x.kv = .slice ka k.len kq from hkv);have HP := xH (heap_alloc_new w (.cells (ndC x).toArray 27));have HB := xH (trw.qg w (.cells (ndC x).toArray 27));clear hn hz hkv;obtain ⟨Q, hQ⟩ : ∃ Q, callF (F.one x k) = Q := ⟨_, rfl⟩;rw [hQ];rw [call_one] at hQ;have HQ := xH hQ;clear hQ;unfold ndC at HP HB;unfold ndV;go_enter Try.func29, Try.ntmps29;go_upto_region 1 with (fail)
 generalize w.alloc _ = w1 at *;have c0 := yC 0 (.int .i64 x.kind) HP;by_cases h8 : x.kind = 8
 ·have b8 : (x.kind == 8) = true := by simp [h8]
  have HR := xH (show true = Q by rw [← HQ.out]; simp [h8]);clear h8;go_wp2_with fail
  go_ret
  exact ⟨by rw [← HR.out]; rfl, HB.out⟩
 have b8 : (x.kind == 8) = false := by simp [h8]
 have HK := xH (show callF k = Q by rw [← HQ.out]; simp [h8]);clear h8 HQ;go_wp2_with fail
 clear c0
 go_loopw [3] (fun v3 wr => ∃ i : Nat, v3 = .int .i64 i ∧ i ≤ k.len ∧ Hid (callF (k.drop i) = Q) ∧ Hid (Below w1.heap.size w1 wr)) (fun v3 _ => k.len - (intOf v3).toNat)
 case atStart => exact ⟨0, rfl, Nat.zero_le _, xH (by rw [drop_zero]; exact HK.out), xH (Below.refl _ _)⟩
 case round =>
  obtain ⟨i, rfl, hi, HE, HBB⟩ := hrel;have c11 : wr.cell? ⟨w.heap.size, 11, none⟩ = some (.slice ka k.len kq) := trw.qf HBB.out (by unfold World.cell?; rw [HP.out]; show some x.kv = _; rw [HKV.out]);by_cases hlt : i < k.len
  ·obtain ⟨x', kk, r, hd⟩ := drop_lt hlt;obtain ⟨b, o, q, hv, _, _, _, hf⟩ := kid_at HN.out.2.2 hd;rw [show (x, k).1.kv = x.kv from rfl, HKV.out] at hv;cases hv;have HWR := xH (trw.qi HB.out HBB.out);have HFH := xH (trw.vO HWR.out (trw.fAt_head hf));have HCE := xH (show ∀ j u, (ndC x')[j]? = some u → wr.cell? ⟨b, o + i * 12 + j, none⟩ = some u from fun j u hj => trw.qf HWR.out (hf.1 j u hj));have HIH := xH (IH.out wr x' kk (by have := size_lt hd; have := HZ.out; omega) HFH.out);have HD := xH ((callF_drop hd).symm.trans HE.out);obtain ⟨S, hS⟩ : ∃ S, callF (F.one x' kk) = S := ⟨_, rfl⟩;rw [hS] at HIH HD;have i1 : (i : Int) < (k.len : Int) := by omega
   have a1 := add_row b o i 12;clear hd hf HE hS;go_wp2_with (refine jv rfl _ rfl b (o + i * 12) rfl x' HCE.out ?_)
   refine HIH.out.mono ?_;rintro e w2 ⟨rfl, hb⟩;have HB2 := xH (trw.qi HBB.out hb);clear hb;cases S with
   | true =>
    have HR := xH (show true = Q from HD.out);go_wp2_with fail
    go_ret
    exact ⟨by rw [← HR.out]; rfl, trw.qi HB.out HB2.out⟩
   | false =>
    have HR := xH (show callF (k.drop (i + 1)) = Q from HD.out);go_wp2_with fail
    go_roundw
    case rel => exact ⟨i + 1, by go_num, by omega, HR, HB2⟩
    case measure => simp [intOf]; omega
  ·have hge : ¬ ((i : Int) < (k.len : Int)) := by omega
   exact zx2
theorem racc_all : ∀ (z : Nat) (w : World) (x : Lab) (k : F) (_hz : k.size < z) (_hn : NdAt w (x, k)), Calls Try.prog 31 #[ndV x] w (trw.BoolB (accF (F.one x k)) w) := by
 intro z;refine Nat.rec ?_ (fun z ih => ?_) z
 ·intro w x k hz;exact absurd hz (Nat.not_lt_zero _)
 intro w x k hz hn;have IH := xH (@ih);clear ih;have HN := xH hn;have HZ := xH hz;obtain ⟨ka, kq, hkv⟩ := kids_len hn.2.2;have hkl : k.len ≤ 9223372036854775807 := by obtain ⟨a, q, e, h1, h2, _⟩ := hn.2.2; exact Nat.le_trans h1 h2
 have HKV := xH (show x.kv = .slice ka k.len kq from hkv);have HP := xH (heap_alloc_new w (.cells (ndC x).toArray 27));have HB := xH (trw.qg w (.cells (ndC x).toArray 27));clear hn hz hkv;obtain ⟨Q, hQ⟩ : ∃ Q, accF (F.one x k) = Q := ⟨_, rfl⟩;rw [hQ];rw [acc_one] at hQ;have HQ := xH hQ;clear hQ;unfold ndC at HP HB;unfold ndV;go_enter Try.func31, Try.ntmps31;go_upto_region 1 with (fail)
 generalize w.alloc _ = w1 at *;have c0 := yC 0 (.int .i64 x.kind) HP;have c5 := yC 5 (.int .i64 x.n) HP;go_cut [12] (fun v12 wx => Hid (v12 = .bool (acc1 x)) ∧ Hid (wx = w1))
 case first =>
  by_cases h9 : x.kind = 9
  ·have b9 : (x.kind == 9) = true := by simp [h9]
   have HR := xH (show acc1 x = (x.n == 1) by unfold acc1; simp [h9]; rfl);clear h9;go_wp2_with fail
   go_meet
   exact ⟨by rw [HR.out]; exact xH rfl, xH rfl⟩
  ·have b9 : (x.kind == 9) = false := by simp [h9]
   have HR := xH (show acc1 x = false by unfold acc1; simp [h9]);clear h9;go_wp2_with fail
   go_meet
   exact ⟨by rw [HR.out]; exact xH rfl, xH rfl⟩
 case rest =>
  obtain ⟨hv, hw⟩ := hcut;obtain rfl := hw.out;have hv2 := hv.out;subst hv2;clear c0 c5 hw hv;obtain ⟨a1, ha1⟩ : ∃ a1, acc1 x = a1 := ⟨_, rfl⟩;rw [ha1];have HQ2 := xH (show (a1 || accF k) = Q by rw [← ha1]; exact HQ.out);clear ha1 HQ;cases a1 with
  | true =>
   have HR := xH (show true = Q from HQ2.out);go_wp2_with fail
   go_ret
   exact ⟨by rw [← HR.out]; rfl, HB.out⟩
  | false =>
  have HK := xH (show accF k = Q from HQ2.out);clear HQ2;go_wp2_with fail
  go_loopw [3] (fun v3 wr => ∃ i : Nat, v3 = .int .i64 i ∧ i ≤ k.len ∧ Hid (accF (k.drop i) = Q) ∧ Hid (Below wc.heap.size wc wr)) (fun v3 _ => k.len - (intOf v3).toNat)
  case atStart => exact ⟨0, rfl, Nat.zero_le _, xH (by rw [drop_zero]; exact HK.out), xH (Below.refl _ _)⟩
  case round =>
   obtain ⟨i, rfl, hi, HE, HBB⟩ := hrel;have c11 : wr.cell? ⟨w.heap.size, 11, none⟩ = some (.slice ka k.len kq) := trw.qf HBB.out (by unfold World.cell?; rw [HP.out]; show some x.kv = _; rw [HKV.out]);by_cases hlt : i < k.len
   ·obtain ⟨x', kk, r, hd⟩ := drop_lt hlt;obtain ⟨b, o, q, hv, _, _, _, hf⟩ := kid_at HN.out.2.2 hd;rw [show (x, k).1.kv = x.kv from rfl, HKV.out] at hv;cases hv;have HWR := xH (trw.qi HB.out HBB.out);have HFH := xH (trw.vO HWR.out (trw.fAt_head hf));have HCE := xH (show ∀ j u, (ndC x')[j]? = some u → wr.cell? ⟨b, o + i * 12 + j, none⟩ = some u from fun j u hj => trw.qf HWR.out (hf.1 j u hj));have HIH := xH (IH.out wr x' kk (by have := size_lt hd; have := HZ.out; omega) HFH.out);have HD := xH ((acc_drop hd).symm.trans HE.out);obtain ⟨S, hS⟩ : ∃ S, accF (F.one x' kk) = S := ⟨_, rfl⟩;rw [hS] at HIH HD;have i1 : (i : Int) < (k.len : Int) := by omega
    have a1 := add_row b o i 12;clear hd hf HE hS;go_wp2_with (refine jv rfl _ rfl b (o + i * 12) rfl x' HCE.out ?_)
    refine HIH.out.mono ?_;rintro e w2 ⟨rfl, hb⟩;have HB2 := xH (trw.qi HBB.out hb);clear hb;cases S with
    | true =>
     have HR := xH (show true = Q from HD.out);go_wp2_with fail
     go_ret
     exact ⟨by rw [← HR.out]; rfl, trw.qi HB.out HB2.out⟩
    | false =>
     have HR := xH (show accF (k.drop (i + 1)) = Q from HD.out);go_wp2_with fail
     go_roundw
     case rel => exact ⟨i + 1, by go_num, by omega, HR, HB2⟩
     case measure => simp [intOf]; omega
   ·have hge : ¬ ((i : Int) < (k.len : Int)) := by omega
    exact zx2
end wdl
end
section
namespace wdl
open sq
open Go Go.RowKit Go.Maps utfw trp trw rpp rsp rtp setw rsw wdp wdw
open rpw (qp ql)
open tkw (sg)
theorem fAt_cons {w : World} {b o : Nat} {x : Lab} {k r : F} (hc : ∀ j v, (ndC x)[j]? = some v → w.cell? ⟨b, o + j, none⟩ = some v) (hn : NdAt w (x, k)) (hr : FAt w b (o + 12) r) : FAt w b o (.cons x k r) := ⟨hc, ⟨hn.1, hn.2.1⟩, hn.2.2, hr⟩
theorem row_at {w : World} {b : Nat} {L : List Value} {t : TypeId} {fr : Nat × Nat} (h : w.heap[b]? = some (.cells L.toArray t fr)) {o : Nat} {l : List Value} (hl : ∀ j v, l[j]? = some v → L[o + j]? = some v) : ∀ j v, l[j]? = some v → w.cell? ⟨b, o + j, none⟩ = some v := fun j v hj => by
 unfold World.cell?;rw [h];simpa using hl j v hj
theorem ndC_len (x : Lab) : (ndC x).length = 12 := rfl
theorem two_at {w : World} {b : Nat} {x y : Lab} {k j : F} {t : TypeId} {fr : Nat × Nat} (h : w.heap[b]? = some (.cells (ndC x ++ ndC y).toArray t fr)) (hx : NdAt w (x, k)) (hy : NdAt w (y, j)) : FAt w b 0 (two x k y j) :=
 fAt_cons (row_at h fun i v hi => by
  rw [Nat.zero_add, List.getElem?_append_left (List.getElem?_eq_some_iff.1 hi).1];exact hi) hx (fAt_cons (row_at h fun i v hi => by
  rw [List.getElem?_append_right (by rw [ndC_len]; omega), ndC_len, show 0 + 12 + i - 12 = i by omega];exact hi) hy trivial)
theorem zk {w : World} {b : Nat} {x : Lab} {k : F} {t : TypeId} {fr : Nat × Nat} (h : w.heap[b]? = some (.cells (ndC x).toArray t fr)) (hx : NdAt w (x, k)) : FAt w b 0 (F.one x k) :=
 fAt_cons (row_at h fun i v hi => by rw [Nat.zero_add]; exact hi) hx trivial
theorem kid_nd {w : World} {b n : Nat} {f : F} {K N M : Int} (hf : FAt w b 0 f) (hn : f.len = n) (hn2 : n ≤ 100000) (hK : I64 K) (hN : I64 N) (hM : I64 M) : NdAt w ({ lab K 0 with n := N, m := M, kv := .slice (some ⟨b, 0, none⟩) n n }, f) := by have z : I64 0 := ⟨by decide, by decide⟩;subst hn;exact ⟨⟨hK, z, z, hN, hM, z, z, z⟩, ⟨none, 0, rfl, xL _, by decide, .inl rfl⟩, ⟨_, f.len, rfl, xL _, by omega, .inr ⟨b, 0, rfl, hf⟩⟩⟩
theorem su_row {w w' : World} (L : List Value) (l : Lab) (h : (w.alloc (.cells L.toArray 27)).alloc (.cells (ndC l).toArray 27) = w') :
 Below w.heap.size w w' ∧ w'.heap[w.heap.size]? = some (.cells L.toArray 27 (0, 0)) ∧ w'.heap[w.heap.size + 1]? = some (.cells (ndC l).toArray 27 (0, 0)) := by
 subst h;have e := World.size_alloc w (.cells L.toArray 27);refine ⟨trw.qi (trw.qg w _) (trw.qg _ _), (heap_alloc_old _ _ (by rw [e]; omega)).trans (heap_alloc_new w _), ?_⟩;have := heap_alloc_new (w.alloc (.cells L.toArray 27)) (.cells (ndC l).toArray 27);rwa [e] at this
theorem cells12 {w : World} {b : Nat} {l : Lab} (h : w.heap[b]? = some (.cells (ndC l).toArray 27 (0, 0))) :
 w.cell? ⟨b, 0, none⟩ = some (.int .i64 l.kind) ∧ w.cell? ⟨b, 1, none⟩ = some (.int .i64 l.at_) ∧ w.cell? ⟨b, 2, none⟩ = some (.int .i64 l.c) ∧ w.cell? ⟨b, 3, none⟩ = some l.sv ∧ w.cell? ⟨b, 4, none⟩ = some (.bool l.neg) ∧ w.cell? ⟨b, 5, none⟩ = some (.int .i64 l.n) ∧
 w.cell? ⟨b, 6, none⟩ = some (.int .i64 l.m) ∧ w.cell? ⟨b, 7, none⟩ = some (.int .i64 l.mode) ∧ w.cell? ⟨b, 8, none⟩ = some (.string l.name) ∧ w.cell? ⟨b, 9, none⟩ = some (.int .i64 l.on) ∧ w.cell? ⟨b, 10, none⟩ = some (.int .i64 l.off) ∧ w.cell? ⟨b, 11, none⟩ = some l.kv := by
 unfold World.cell?;rw [h];exact ⟨rfl, rfl, rfl, rfl, rfl, rfl, rfl, rfl, rfl, rfl, rfl, rfl⟩
theorem sums_wid {x y : Lab} {k j : F} {s u : Lab} (hs : s.kind = 12 ∨ s.kind = 13) (c1 : callF (F.one x k) = false) (c2 : callF (F.one y j) = false) (a1 : accF (F.one x k) = false) (a2 : accF (F.one y j) = false)
 (h1 : (widP (x, k) (x, k)).1 ≤ 100) (h2 : (widP (x, k) (x, k)).2 ≤ 100) (h3 : (widP (y, j) (y, j)).1 ≤ 100) (h4 : (widP (y, j) (y, j)).2 ≤ 100) (t : Nat) (ht : t ≤ 8) (hu : u.kind = 20 ∧ u.n = t ∧ u.m = t) :
 widP (s, two x k y j) (s, two x k y j) = (if s.kind = 12 then ((widP (x, k) (x, k)).1 + (widP (y, j) (y, j)).1, if (widP (x, k) (x, k)).2 < 0 ∨ (widP (y, j) (y, j)).2 < 0 then -1 else (widP (x, k) (x, k)).2 + (widP (y, j) (y, j)).2)
  else (min (widP (x, k) (x, k)).1 (widP (y, j) (y, j)).1, if (widP (x, k) (x, k)).2 < 0 ∨ (widP (y, j) (y, j)).2 < 0 then -1 else max (widP (x, k) (x, k)).2 (widP (y, j) (y, j)).2)) ∧
 widP (u, F.one x k) (u, F.one x k) = ((widP (x, k) (x, k)).1 * t, if t = 0 then 0 else if (widP (x, k) (x, k)).2 < 0 then -1 else (widP (x, k) (x, k)).2 * t) := by
 have hp := bw_wid (x, k) (x, k);have hq := bw_wid (y, j) (y, j);have e1 := seq_wid (env := callW (s, two x k y j)) (env' := callW (x, k)) (env2 := callW (y, j)) hs c1 c2 a1 a2;have e2 := rep_wid (env := callW (u, F.one x k)) (env' := callW (x, k)) hu.1 c1 a1;rw [hu.2.1, hu.2.2] at e2;unfold widP at h1 h2 h3 h4 ⊢;rw [e1, e2];generalize partW (callW (x, k)) (x, k) = p at *;generalize partW (callW (y, j)) (y, j) = q at *;have h1' : p.1 ≤ 100 := by have : ((p.1 : Nat) : Int) ≤ 100 := h1; omega
 have h3' : q.1 ≤ 100 := by have : ((q.1 : Nat) : Int) ≤ 100 := h3; omega
 obtain ⟨g1, g2, g3⟩ := sums_told hp hq h1' h2 h3' h4 t ht;refine ⟨?_, g3⟩;rcases hs with h | h
 ·rw [if_pos h, if_pos h];exact g1
 ·rw [if_neg (by omega), if_neg (by omega)];exact g2
theorem sums_law11 (va vb : Value) (na nb : Nat) (ga gb : Nat → Int) (t : Int) (w : World) (hva : Sl w va na ga) (hvb : Sl w vb nb gb) (t0 : -9223372036854775808 ≤ t) (t1 : t ≤ 9223372036854775807) :
 Calls Try.prog 9 #[va, vb, .int .i64 t] w (trw.BoolB true w) := by
 have HTA := xH (fun w1 (hb : Below w.heap.size w w1) => tree_any va na ga 0 w1 (utfw.below_sl hb hva));have HTB := xH (fun w1 (hb : Below w.heap.size w w1) => tree_any vb nb gb 0 w1 (utfw.below_sl hb hvb));have sl : ∀ {v : Value} {n : Nat} {g : Nat → Int}, Sl w v n g → ∃ a c, v = .slice a n c := fun hv => by
  obtain ⟨_, _, ⟨rfl, a, c, hv, _⟩ | ⟨b, off, cap, hv, _⟩⟩ := hv
  ·exact ⟨_, _, hv⟩
  ·exact ⟨_, _, hv⟩
 obtain ⟨aa, ac, rfl⟩ := sl hva;obtain ⟨ba, bc, rfl⟩ := sl hvb;clear hva hvb sl;obtain ⟨R1, hR1⟩ : ∃ R, tr11 (flatP (sg (strOf na ga)) na 0) = R := ⟨_, rfl⟩;obtain ⟨R2, hR2⟩ : ∃ R, tr11 (flatP (sg (strOf nb gb)) nb 0) = R := ⟨_, rfl⟩;have HF1 := xH (fun T (h : R1 = some T) => (tr11_fit (hR1.trans h) : FitC T));have HF2 := xH (fun T (h : R2 = some T) => (tr11_fit (hR2.trans h) : FitC T));rw [hR1] at HTA;rw [hR2] at HTB;have HT := xH (show -9223372036854775808 ≤ t ∧ t ≤ 9223372036854775807 from ⟨t0, t1⟩);clear hR1 hR2 t0 t1;go_enter Try.func9, Try.ntmps9;go_wp2_with fail
 refine (awake_any11 w).mono ?_;rintro e w1 ⟨rfl, hb1⟩;have HB1 := xH hb1;clear hb1;go_wp2_with fail
 refine (HTA.out w1 HB1.out).mono ?_;rintro e w2 ⟨hb2, x, k, hn, hq⟩;have HB2 := xH (trw.qi HB1.out hb2);have HNX := xH hn;have HOX := xH (qp hn);obtain ⟨r1, HQ1⟩ : ∃ r1, Hid (e = .returned (.tuple #[ndV x, .bool r1]) ∧ (r1 = true → ∃ T, R1 = some T ∧ strip (F.one x k) = T)) := by
  cases R1 with
  | none => exact ⟨false, xH ⟨hq, fun h => by cases h⟩⟩
  | some T => exact ⟨true, xH ⟨hq.1, fun _ => ⟨T, rfl, hq.2⟩⟩⟩
 obtain ⟨rfl, h1⟩ := HQ1.out;clear hb2 hn hq h1 HTA;try dsimp only
 unfold ndV;go_upto_region 5 with (refine wpList_store_nf rfl rfl _ _ rfl rfl x HOX.out rfl ?_; intro w3 HS3)
 have HB3 := xH (trw.qi HB2.out HS3.out.1);have HTB3 := xH (HTB.out w3 HB3.out);go_wp2_with fail
 refine HTB3.out.mono ?_;rintro e w4 ⟨hb4, y, j, hn, hq⟩;have HB4 := xH (trw.qi HB3.out hb4);have HP4 := xH ((hb4.block _ (zi HS3.out.2)).trans HS3.out.2);have HNX4 := xH (trw.vO hb4 (trw.vO HS3.out.1 HNX.out));have HNY := xH hn;have HOY := xH (qp hn);obtain ⟨r2, HQ2⟩ : ∃ r2, Hid (e = .returned (.tuple #[ndV y, .bool r2]) ∧ (r2 = true → ∃ T, R2 = some T ∧ strip (F.one y j) = T)) := by
  cases R2 with
  | none => exact ⟨false, xH ⟨hq, fun h => by cases h⟩⟩
  | some T => exact ⟨true, xH ⟨hq.1, fun _ => ⟨T, rfl, hq.2⟩⟩⟩
 obtain ⟨rfl, h1⟩ := HQ2.out;clear hb4 hn hq h1 HTB HTB3;try dsimp only
 unfold ndV;go_upto_region 6 with (refine wpList_store_nf rfl rfl _ _ rfl rfl y HOY.out rfl ?_; intro w5 HS5)
 have HB5 := xH (trw.qi HB4.out HS5.out.1);have HP5 := xH ((HS5.out.1.block _ (zi HP4.out)).trans HP4.out);have HNX5 := xH (trw.vO HS5.out.1 HNX4.out);have HNY5 := xH (trw.vO HS5.out.1 HNY.out);have HPY5 := xH HS5.out.2;clear HNX HNX4 HNY HS3 HP4;cases r1 with
 | false =>
  go_wp2_with fail
  go_ret
  exact ⟨rfl, HB5.out⟩
 | true =>
 cases r2 with
 | false =>
  go_wp2_with fail
  go_ret
  exact ⟨rfl, HB5.out⟩
 | true =>
 have HFX := xH (show FitC (F.one x k) from by obtain ⟨T, h1, h2⟩ := HQ1.out.2 rfl; exact fitC_strip (h2 ▸ HF1.out T h1));have HFY := xH (show FitC (F.one y j) from by obtain ⟨T, h1, h2⟩ := HQ2.out.2 rfl; exact fitC_strip (h2 ▸ HF2.out T h1));clear HQ1 HQ2 HF1 HF2;have HC1 := xH (calls_all _ w5 x k (Nat.lt_succ_self _) HNX5.out);unfold ndV at HC1;obtain ⟨cx, hcx⟩ : ∃ c, callF (F.one x k) = c := ⟨_, rfl⟩;rw [hcx] at HC1;obtain ⟨c0, c1, c2, c3, c4, c5, c6, c7, c8, c9, c10, c11⟩ := cells12 HP5.out;go_wp2_with fail
 clear c0 c1 c2 c3 c4 c5 c6 c7 c8 c9 c10 c11;refine HC1.out.mono ?_;rintro e w6 ⟨rfl, hb6⟩;have HB6 := xH (trw.qi HB5.out hb6);have HP6 := xH ((hb6.block _ (zi HP5.out)).trans HP5.out);have HPY6 := xH ((hb6.block _ (zi HPY5.out)).trans HPY5.out);have HNX6 := xH (trw.vO hb6 HNX5.out);have HNY6 := xH (trw.vO hb6 HNY5.out);clear hb6 HC1 HP5 HPY5 HNX5 HNY5 HS5;cases cx with
 | true =>
  go_wp2_with fail
  go_ret
  exact ⟨rfl, HB6.out⟩
 | false =>
 have HCX := xH hcx;clear hcx;have HC2 := xH (calls_all _ w6 y j (Nat.lt_succ_self _) HNY6.out);unfold ndV at HC2;obtain ⟨cy, hcy⟩ : ∃ c, callF (F.one y j) = c := ⟨_, rfl⟩;rw [hcy] at HC2;obtain ⟨c0, c1, c2, c3, c4, c5, c6, c7, c8, c9, c10, c11⟩ := cells12 HPY6.out;go_wp2_with fail
 clear c0 c1 c2 c3 c4 c5 c6 c7 c8 c9 c10 c11;refine HC2.out.mono ?_;rintro e w7 ⟨rfl, hb7⟩;have HB7 := xH (trw.qi HB6.out hb7);have HP7 := xH ((hb7.block _ (zi HP6.out)).trans HP6.out);have HPY7 := xH ((hb7.block _ (zi HPY6.out)).trans HPY6.out);have HNX7 := xH (trw.vO hb7 HNX6.out);have HNY7 := xH (trw.vO hb7 HNY6.out);clear hb7 HC2 HP6 HPY6 HNX6 HNY6;cases cy with
 | true =>
  go_wp2_with fail
  go_ret
  exact ⟨rfl, HB7.out⟩
 | false =>
 have HCY := xH hcy;clear hcy;have HWX := xH (width_any x x k k w7 HNX7.out HNX7.out HFX.out HFX.out);obtain ⟨⟨lo, hi⟩, hwx⟩ : ∃ q, widP (x, k) (x, k) = q := ⟨_, rfl⟩;obtain ⟨⟨c, d⟩, hwy⟩ : ∃ q, widP (y, j) (y, j) = q := ⟨_, rfl⟩;rw [hwx] at HWX;have HWQ := xH (show widP (x, k) (x, k) = (lo, hi) ∧ widP (y, j) (y, j) = (c, d) from ⟨hwx, hwy⟩);have HBX := xH (show 0 ≤ lo ∧ lo ≤ 1000 ∧ (hi = -1 ∨ (lo ≤ hi ∧ hi ≤ 1000)) from by have := wid_bounds (t := (x, k)) (root := (x, k)) HFX.out HFX.out; rwa [hwx] at this);have HBY := xH (show 0 ≤ c ∧ c ≤ 1000 ∧ (d = -1 ∨ (c ≤ d ∧ d ≤ 1000)) from by have := wid_bounds (t := (y, j)) (root := (y, j)) HFY.out HFY.out; rwa [hwy] at this);unfold ndV at HWX;clear hwx hwy;have ht0 := HT.out.1;have ht1 := HT.out.2;go_upto_if 56 with (fail)
 go_cut [2] (fun v2 wx => Hid (∃ t' : Int, 0 ≤ t' ∧ t' ≤ 9223372036854775807 ∧ v2 = .int .i64 t') ∧ Hid (wx = w7))
 case first =>
  by_cases hneg : t < 0
  ·go_wp2_with fail
   go_meet
   exact ⟨xH ⟨-(t + 1), by omega, by omega, rfl⟩, xH rfl⟩
  ·go_wp2_with fail
   go_meet
   exact ⟨xH ⟨t, by omega, by omega, rfl⟩, xH rfl⟩
 case rest =>
 obtain ⟨hv, hw⟩ := hcut;obtain rfl := hw.out;obtain ⟨t', h0', h1', rfl⟩ := hv.out;clear hv hw ht0 ht1 HT;obtain ⟨tm, htm, hmod⟩ : ∃ tm : Nat, tm ≤ 8 ∧ t'.tmod 9 = (tm : Int) := ⟨t'.toNat % 9, by omega, by rw [Int.tmod_eq_emod_of_nonneg h0']; omega⟩;go_wp2_with (refine ql rfl _ rfl w2.heap.size rfl x HP7.out ?_)
 refine HWX.out.mono ?_;rintro e w8 ⟨rfl, hb8⟩;have HB8 := xH (trw.qi HB7.out hb8);have HP8 := xH ((hb8.block _ (zi HP7.out)).trans HP7.out);have HPY8 := xH ((hb8.block _ (zi HPY7.out)).trans HPY7.out);have HNX8 := xH (trw.vO hb8 HNX7.out);have HNY8 := xH (trw.vO hb8 HNY7.out);have HWY := xH (width_any y y j j w8 HNY8.out HNY8.out HFY.out HFY.out);rw [HWQ.out.2] at HWY;unfold ndV at HWY;clear hb8 HWX HP7 HPY7 HNX7 HNY7 HB1 HB2 HB3 HB4 HB5 HB6;go_wp2_with (refine ql rfl _ rfl w4.heap.size rfl y HPY8.out ?_)
 refine HWY.out.mono ?_;rintro e w9 ⟨rfl, hb9⟩;have HB9 := xH (trw.qi HB8.out hb9);have HP9 := xH ((hb9.block _ (zi HP8.out)).trans HP8.out);have HPY9 := xH ((hb9.block _ (zi HPY8.out)).trans HPY8.out);have HNX9 := xH (trw.vO hb9 HNX8.out);have HNY9 := xH (trw.vO hb9 HNY8.out);clear hb9 HWY HP8 HPY8 HNX8 HNY8 HB7 HB8;go_upto_region 13 with (fail)
 by_cases hlo : 100 < lo
 ·go_wp2_with fail
  go_ret
  exact ⟨rfl, HB9.out⟩
 by_cases hhi : 100 < hi
 ·go_wp2_with fail
  go_ret
  exact ⟨rfl, HB9.out⟩
 by_cases hc : 100 < c
 ·go_wp2_with fail
  go_ret
  exact ⟨rfl, HB9.out⟩
 by_cases hd : 100 < d
 ·go_wp2_with fail
  go_ret
  exact ⟨rfl, HB9.out⟩
 have HLE := xH (show lo ≤ 100 ∧ hi ≤ 100 ∧ c ≤ 100 ∧ d ≤ 100 from ⟨by omega, by omega, by omega, by omega⟩);have HA1 := xH (racc_all _ w9 x k (Nat.lt_succ_self _) HNX9.out);unfold ndV at HA1;obtain ⟨ax, hax⟩ : ∃ a, accF (F.one x k) = a := ⟨_, rfl⟩;rw [hax] at HA1;obtain ⟨c0, c1, c2, c3, c4, c5, c6, c7, c8, c9, c10, c11⟩ := cells12 HP9.out;go_wp2_with fail
 clear c0 c1 c2 c3 c4 c5 c6 c7 c8 c9 c10 c11;refine HA1.out.mono ?_;rintro e w10 ⟨rfl, hb10⟩;have HB10 := xH (trw.qi HB9.out hb10);have HP10 := xH ((hb10.block _ (zi HP9.out)).trans HP9.out);have HPY10 := xH ((hb10.block _ (zi HPY9.out)).trans HPY9.out);have HNX10 := xH (trw.vO hb10 HNX9.out);have HNY10 := xH (trw.vO hb10 HNY9.out);clear hb10 HA1 HP9 HPY9 HNX9 HNY9 HB9;cases ax with
 | true =>
  go_wp2_with fail
  go_ret
  exact ⟨rfl, HB10.out⟩
 | false =>
 have HAX := xH hax;clear hax;have HA2 := xH (racc_all _ w10 y j (Nat.lt_succ_self _) HNY10.out);unfold ndV at HA2;obtain ⟨ay, hay⟩ : ∃ a, accF (F.one y j) = a := ⟨_, rfl⟩;rw [hay] at HA2;obtain ⟨c0, c1, c2, c3, c4, c5, c6, c7, c8, c9, c10, c11⟩ := cells12 HPY10.out;go_wp2_with fail
 clear c0 c1 c2 c3 c4 c5 c6 c7 c8 c9 c10 c11;refine HA2.out.mono ?_;rintro e w11 ⟨rfl, hb11⟩;have HB11 := xH (trw.qi HB10.out hb11);have HP11 := xH ((hb11.block _ (zi HP10.out)).trans HP10.out);have HPY11 := xH ((hb11.block _ (zi HPY10.out)).trans HPY10.out);have HNX11 := xH (trw.vO hb11 HNX10.out);have HNY11 := xH (trw.vO hb11 HNY10.out);clear hb11 HA2 HP10 HPY10 HNX10 HNY10 HB10;cases ay with
 | true =>
  go_wp2_with fail
  go_ret
  exact ⟨rfl, HB11.out⟩
 | false =>
 have HAY := xH hay;clear hay;have HS := xH (fun (s u : Lab) (hs : s.kind = 12 ∨ s.kind = 13) (hu : u.kind = 20 ∧ u.n = tm ∧ u.m = tm) => sums_wid (s := s) (u := u) hs HCX.out HCY.out HAX.out HAY.out (by rw [HWQ.out.1]; exact HLE.out.1) (by rw [HWQ.out.1]; exact HLE.out.2.1) (by rw [HWQ.out.2]; exact HLE.out.2.2.1) (by rw [HWQ.out.2]; exact HLE.out.2.2.2) tm htm hu);rw [HWQ.out.1, HWQ.out.2] at HS;clear HCX HCY HAX HAY;go_upto_region 15 with (fail)
 go_upto_region 16 with (first
  | (refine ql rfl _ rfl w2.heap.size rfl x HP11.out ?_)
  | (refine ql rfl _ rfl w4.heap.size rfl y HPY11.out ?_))
 generalize hw12 : (w11.alloc _).alloc _ = w12;have HR12 := xH (su_row (w := w11) (ndC x ++ ndC y) { lab 12 0 with n := 0, m := 0, kv := .slice (some ⟨w11.heap.size, 0, none⟩) 2 2 } hw12);have HB12 := xH (trw.qi HB11.out HR12.out.1);have HP12 := xH ((HR12.out.1.block _ (zi HP11.out)).trans HP11.out);have HPY12 := xH ((HR12.out.1.block _ (zi HPY11.out)).trans HPY11.out);have HNX12 := xH (trw.vO HR12.out.1 HNX11.out);have HNY12 := xH (trw.vO HR12.out.1 HNY11.out);have HN12 := xH (kid_nd (n := 2) (K := 12) (N := 0) (M := 0) (two_at HR12.out.2.1 HNX12.out HNY12.out) rfl (by decide) ⟨by decide, by decide⟩ ⟨by decide, by decide⟩ ⟨by decide, by decide⟩);have HV12 := xH HR12.out.2.2;clear hw12 HR12 HP11 HPY11 HNX11 HNY11 HB11;go_upto_region 17 with (first
  | (refine ql rfl _ rfl w2.heap.size rfl x HP12.out ?_)
  | (refine ql rfl _ rfl w4.heap.size rfl y HPY12.out ?_))
 generalize hw13 : (w12.alloc _).alloc _ = w13;have HR13 := xH (su_row (w := w12) (ndC x ++ ndC y) { lab 13 0 with n := 0, m := 0, kv := .slice (some ⟨w12.heap.size, 0, none⟩) 2 2 } hw13);have HB13 := xH (trw.qi HB12.out HR13.out.1);have HP13 := xH ((HR13.out.1.block _ (zi HP12.out)).trans HP12.out);have HNX13 := xH (trw.vO HR13.out.1 HNX12.out);have HNY13 := xH (trw.vO HR13.out.1 HNY12.out);have HN13 := xH (kid_nd (n := 2) (K := 13) (N := 0) (M := 0) (two_at HR13.out.2.1 HNX13.out HNY13.out) rfl (by decide) ⟨by decide, by decide⟩ ⟨by decide, by decide⟩ ⟨by decide, by decide⟩);have HV13 := xH HR13.out.2.2;have HV12b := xH ((HR13.out.1.block _ (zi HV12.out)).trans HV12.out);have HN12b := xH (trw.vO HR13.out.1 HN12.out);clear hw13 HR13 HP12 HPY12 HNX12 HNY12 HB12 HV12 HN12;go_upto_region 18 with (first
  | (refine ql rfl _ rfl w2.heap.size rfl x HP13.out ?_))
 generalize hw14 : (w13.alloc _).alloc _ = w14;have HR14 := xH (su_row (w := w13) (ndC x) { lab 20 0 with n := tm, m := tm, kv := .slice (some ⟨w13.heap.size, 0, none⟩) 1 1 } hw14);have HB14 := xH (trw.qi HB13.out HR14.out.1);have HNX14 := xH (trw.vO HR14.out.1 HNX13.out);have HN14 := xH (kid_nd (n := 1) (K := 20) (N := tm) (M := tm) (zk HR14.out.2.1 HNX14.out) rfl (by decide) ⟨by decide, by decide⟩ ⟨by omega, by omega⟩ ⟨by omega, by omega⟩);have HV14 := xH HR14.out.2.2;have HV12c := xH ((HR14.out.1.block _ (zi HV12b.out)).trans HV12b.out);have HV13c := xH ((HR14.out.1.block _ (zi HV13.out)).trans HV13.out);have HN12c := xH (trw.vO HR14.out.1 HN12b.out);have HN13c := xH (trw.vO HR14.out.1 HN13.out);clear hw14 HR14 HP13 HNX13 HNY13 HB13 HV12b HV13 HN12b HN13 HNX14;have two_fit : ∀ l : Lab, l.kind = 12 ∨ l.kind = 13 → FitC (F.one l (two x k y j)) := fun l hl => ⟨⟨fun e => by omega, fun e => by omega⟩, ⟨HFX.out.1, HFX.out.2.1, HFY.out⟩, trivial⟩
 have HW14 := xH (width_any _ _ _ _ w14 HN12c.out HN12c.out (two_fit _ (.inl rfl)) (two_fit _ (.inl rfl)));have HS0 := HS.out { lab 12 0 with n := 0, m := 0, kv := .slice (some ⟨w11.heap.size, 0, none⟩) 2 2 } { lab 20 0 with n := tm, m := tm, kv := .slice (some ⟨w13.heap.size, 0, none⟩) 1 1 } (.inl rfl) ⟨rfl, rfl, rfl⟩;rw [if_pos (show ({ lab 12 0 with n := 0, m := 0, kv := .slice (some ⟨w11.heap.size, 0, none⟩) 2 2 } : Lab).kind = 12 from rfl)] at HS0;have HS1 := (HS.out { lab 13 0 with n := 0, m := 0, kv := .slice (some ⟨w12.heap.size, 0, none⟩) 2 2 } { lab 20 0 with n := tm, m := tm, kv := .slice (some ⟨w13.heap.size, 0, none⟩) 1 1 } (.inr rfl) ⟨rfl, rfl, rfl⟩).1;rw [if_neg (show ¬ ({ lab 13 0 with n := 0, m := 0, kv := .slice (some ⟨w12.heap.size, 0, none⟩) 2 2 } : Lab).kind = 12 from fun e => absurd (show (13 : Int) = 12 from e) (by decide))] at HS1;simp only at HS0 HS1;have HWS := xH HS0;have HWT := xH HS1;clear HS0 HS1 HS;obtain ⟨⟨e1, e2⟩, he⟩ : ∃ q, (lo + c, if hi < 0 ∨ d < 0 then -1 else hi + d) = q := ⟨_, rfl⟩;obtain ⟨⟨g1, g2⟩, hg⟩ : ∃ q, (min lo c, if hi < 0 ∨ d < 0 then -1 else max hi d) = q := ⟨_, rfl⟩;obtain ⟨⟨i1, i2⟩, hii⟩ : ∃ q, (lo * (tm : Int), if tm = 0 then (0 : Int) else if hi < 0 then -1 else hi * (tm : Int)) = q := ⟨_, rfl⟩;rw [HWS.out.1, he] at HW14;have HQE := xH (Prod.mk.inj he);have HQG := xH (Prod.mk.inj hg);have HQI := xH (Prod.mk.inj hii);clear he;unfold ndV at HW14;go_wp2_with (refine ql rfl _ rfl (w11.heap.size + 1) rfl { lab 12 0 with n := 0, m := 0, kv := .slice (some ⟨w11.heap.size, 0, none⟩) 2 2 } HV12c.out ?_)
 refine HW14.out.mono ?_;rintro e w15 ⟨rfl, hb15⟩;have HB15 := xH (trw.qi HB14.out hb15);have HV13d := xH ((hb15.block _ (zi HV13c.out)).trans HV13c.out);have HV14d := xH ((hb15.block _ (zi HV14.out)).trans HV14.out);have HN14d := xH (trw.vO hb15 HN14.out);have HW15 := xH (width_any _ _ _ _ w15 (trw.vO hb15 HN13c.out) (trw.vO hb15 HN13c.out) (two_fit _ (.inr rfl)) (two_fit _ (.inr rfl)));rw [HWT.out, hg] at HW15;clear hb15 HW14 HV12c HV13c HV14 HN12c HN13c HN14 hg HB14;unfold ndV at HW15;go_wp2_with (refine ql rfl _ rfl (w12.heap.size + 1) rfl { lab 13 0 with n := 0, m := 0, kv := .slice (some ⟨w12.heap.size, 0, none⟩) 2 2 } HV13d.out ?_)
 refine HW15.out.mono ?_;rintro e w16 ⟨rfl, hb16⟩;have HB16 := xH (trw.qi HB15.out hb16);have HV14e := xH ((hb16.block _ (zi HV14d.out)).trans HV14d.out);have HN14e := xH (trw.vO hb16 HN14d.out);have rep_fit : FitC (F.one { lab 20 0 with n := tm, m := tm, kv := .slice (some ⟨w13.heap.size, 0, none⟩) 1 1 } (F.one x k)) := ⟨⟨fun _ => ⟨by show (0 : Int) ≤ (tm : Int); omega, by show (tm : Int) ≤ 100000; omega, by show (-1 : Int) ≤ (tm : Int); omega, by show (tm : Int) ≤ 100000; omega, .inr (Int.le_refl _)⟩, fun e => absurd (show (20 : Int) = 8 from e) (by decide)⟩, HFX.out, trivial⟩;have HW16 := xH (width_any _ _ _ _ w16 HN14e.out HN14e.out rep_fit rep_fit);rw [HWS.out.2, hii] at HW16;clear hb16 HW15 HV13d HV14d HN14d hii HB15 rep_fit two_fit HWS HWT;unfold ndV at HW16;go_wp2_with (refine ql rfl _ rfl (w13.heap.size + 1) rfl { lab 20 0 with n := tm, m := tm, kv := .slice (some ⟨w13.heap.size, 0, none⟩) 1 1 } HV14e.out ?_)
 refine HW16.out.mono ?_;rintro e w17 ⟨rfl, hb17⟩;have HB17 := xH (trw.qi HB16.out hb17);clear hb17 HW16 HV14e HN14e HB16 HWQ;go_upto_region 21 with (fail)
 obtain ⟨rfl, he2⟩ := HQE.out;obtain ⟨rfl, hg2⟩ := HQG.out;obtain ⟨rfl, hi2⟩ := HQI.out;have bl : 0 ≤ lo ∧ lo ≤ 100 := ⟨HBX.out.1, HLE.out.1⟩;have bc : 0 ≤ c ∧ c ≤ 100 := ⟨HBY.out.1, HLE.out.2.2.1⟩;have bh : -1 ≤ hi ∧ hi ≤ 100 := ⟨by have := HBX.out; omega, HLE.out.2.1⟩;have bd : -1 ≤ d ∧ d ≤ 100 := ⟨by have := HBY.out; omega, HLE.out.2.2.2⟩;have p1 : 0 ≤ lo * (tm : Int) ∧ lo * (tm : Int) ≤ 800 := by obtain ⟨a, rfl⟩ := Int.eq_ofNat_of_zero_le bl.1;have := Nat.mul_le_mul (show a ≤ 100 by omega) htm;rw [← Int.natCast_mul];omega
 have p2 : -8 ≤ hi * (tm : Int) ∧ hi * (tm : Int) ≤ 800 := by
  by_cases hn : hi < 0
  ·obtain rfl : hi = -1 := by omega
   omega
  ·obtain ⟨a, rfl⟩ := Int.eq_ofNat_of_zero_le (show 0 ≤ hi by omega);have := Nat.mul_le_mul (show a ≤ 100 by omega) htm;rw [← Int.natCast_mul];omega
 clear HQE HQG HQI HBX HBY HLE HFX HFY HOX HOY hmod;obtain ⟨p10, p11⟩ := p1;obtain ⟨p20, p21⟩ := p2;obtain ⟨bl0, bl1⟩ := bl;obtain ⟨bc0, bc1⟩ := bc;obtain ⟨bh0, bh1⟩ := bh;obtain ⟨bd0, bd1⟩ := bd;by_cases n1 : hi < 0
 ·have hs : hi < 0 ∨ d < 0 := .inl n1;rw [if_pos hs] at he2 hg2;subst he2 hg2;by_cases h0 : tm = 0
  ·rw [if_pos h0] at hi2;exact zx3
  ·rw [if_neg h0, if_pos n1] at hi2;exact zx4
 by_cases n2 : d < 0
 ·have hs : hi < 0 ∨ d < 0 := .inr n2;rw [if_pos hs] at he2 hg2;exact zx1
 ·have hs : ¬ (hi < 0 ∨ d < 0) := fun e => e.elim n1 n2
  rw [if_neg hs] at he2 hg2;exact zx1
end wdl
end
section
namespace gpr
open sq
open Go Go.RowKit Go.ChangeShapes Go.WideShapes Go.ChangeAt utfp utfw
theorem wf_int {n : Int} (h : (Lit.int .i64 n).wf = true) : -9223372036854775808 ≤ n ∧ n ≤ 9223372036854775807 := by
 have h2 : IntKind.i64.min ≤ n ∧ n ≤ IntKind.i64.max := by simpa [Lit.wf] using h
 rw [show IntKind.i64.min = -9223372036854775808 by decide, show IntKind.i64.max = 9223372036854775807 by decide] at h2;exact h2
end gpr
end
end Go.Proofs.Ytdgfclbajjjcgaa
