/- T -/
import Derived.BigQuiet
import Derived.BigRegion
import Derived.Deep.Cut
import Derived.Deep.CutBlock
import Derived.Deep.DeepCutAuto
import Derived.Deep.Onto
import Derived.Deep.QuietTactic
import Derived.Deep.RegionHeld3
import Derived.Deep.RegionWith
import Derived.Great.BuildSlice
import Derived.IntWalk
import Derived.Laws.AppendOwn
import Derived.Laws.AppendOwnNone
import Derived.Laws.BitsLemmas
import Derived.Laws.BytesArg
import Derived.Laws.Closers25b
import Derived.Laws.CopyRow
import Derived.Laws.Cover2
import Derived.Laws.Cover3
import Derived.Laws.FloatArith
import Derived.Laws.OwnMore
import Derived.Laws.RangeAny
import Derived.Laws.Rows
import Derived.Laws.Shifts
import Derived.Laws.StructEq
import Derived.Lib.BytesEntry
import Derived.Lib.ConvBytes
import Derived.Lib.Hide
import Derived.Lib.LaidTab
import Derived.Lib.OwnBridge
import Derived.Lib.QuietBelow
import Derived.Lib.SlBytesConst
import Derived.LoopN
import Derived.Maps.AppendAt
import Derived.Maps.OwnSet
import Derived.OpenShut
import Derived.Outline
import Derived.OwnWalk
import Derived.ProofKit
import Derived.RegionTactic
import Derived.Shelf.Abstract
import Derived.Shelf.Bytes.SlIndexAt
import Derived.Shelf.Lays8
import Derived.Shelf.SlLaysC2
import Derived.Shelf.SlLaysE
import Derived.Shelf.SlLaysE0
import Derived.Shelf.SlLaysF
import Derived.Shelf.SlLaysH
import Derived.Shelf.SlSortCmp.NoneTotal
import Derived.Shelf.SlicesE.Clone
import Derived.Shelf.SlicesE.Equal
import Derived.Shelf.SlicesE.IndexFunc
import Derived.Shelf.SlicesG.Cmp
import Derived.Shelf.Spec.SlicesGrow
import Derived.Sort.Walk0
import Derived.StillTailTactics
import Derived.Test.YtikjhfmmfpeaoaaGreatDoorChecked
import Derived.Test.YtikjhfmmfpeaoaaGreatDoorRows
import Derived.WalkKit
import Derived.WalkLawsBesides
import Derived.WalkMore
import Derived.WalkSpells
import GoSem.Core.Float
import Derived.Test.YtikjhfmmfpeaoaaGreatDoorBFc01
import Derived.Test.YtikjhfmmfpeaoaaGreatDoorBFc02
import Derived.Test.YtikjhfmmfpeaoaaGreatDoorBFc03
import Derived.Test.YtikjhfmmfpeaoaaGreatDoorBFc04
import Derived.Test.YtikjhfmmfpeaoaaGreatDoorBFc05
import Derived.Test.YtikjhfmmfpeaoaaGreatDoorBFc06
import Derived.Test.YtikjhfmmfpeaoaaGreatDoorBFc07
import Derived.Test.YtikjhfmmfpeaoaaGreatDoorBFc08
import Derived.Test.YtikjhfmmfpeaoaaGreatDoorBFc09
import Derived.Test.YtikjhfmmfpeaoaaGreatDoorBFc10
import Derived.Test.YtikjhfmmfpeaoaaGreatDoorBFc11
import Derived.Test.YtikjhfmmfpeaoaaGreatDoorBFc12
import Derived.Test.YtikjhfmmfpeaoaaGreatDoorBFc13
import Derived.Test.YtikjhfmmfpeaoaaGreatDoorBFc14
import Derived.Test.YtikjhfmmfpeaoaaGreatDoorBFc15
import Derived.Test.YtikjhfmmfpeaoaaGreatDoorBFc16
import Derived.Test.YtikjhfmmfpeaoaaGreatDoorBFc17
import Derived.Test.YtikjhfmmfpeaoaaGreatDoorBFc18
import Derived.Test.YtikjhfmmfpeaoaaGreatDoorBFc19
import Derived.Test.YtikjhfmmfpeaoaaGreatDoorBFc20
import Derived.Test.YtikjhfmmfpeaoaaGreatDoorBFc21
import Derived.Test.YtikjhfmmfpeaoaaGreatDoorBFc22
import Derived.Test.YtikjhfmmfpeaoaaGreatDoorBFc23
import Derived.Test.YtikjhfmmfpeaoaaGreatDoorBFc24
import Derived.Test.YtikjhfmmfpeaoaaGreatDoorBFc25
import Derived.Test.YtikjhfmmfpeaoaaGreatDoorBFc26
import Derived.Test.YtikjhfmmfpeaoaaGreatDoorBFc27
namespace Go.Proofs.YtikjhfmmfpeaoaaGreatDoor.bulk
end Go.Proofs.YtikjhfmmfpeaoaaGreatDoor.bulk
namespace Go.Proofs.YtikjhfmmfpeaoaaGreatDoor.ext
end Go.Proofs.YtikjhfmmfpeaoaaGreatDoor.ext
namespace Go.Proofs.YtikjhfmmfpeaoaaGreatDoor.fgp
end Go.Proofs.YtikjhfmmfpeaoaaGreatDoor.fgp
namespace Go.Proofs.YtikjhfmmfpeaoaaGreatDoor.fkp
end Go.Proofs.YtikjhfmmfpeaoaaGreatDoor.fkp
namespace Go.Proofs.YtikjhfmmfpeaoaaGreatDoor.fkw
end Go.Proofs.YtikjhfmmfpeaoaaGreatDoor.fkw
namespace Go.Proofs.YtikjhfmmfpeaoaaGreatDoor.fll
end Go.Proofs.YtikjhfmmfpeaoaaGreatDoor.fll
namespace Go.Proofs.YtikjhfmmfpeaoaaGreatDoor.flr
end Go.Proofs.YtikjhfmmfpeaoaaGreatDoor.flr
namespace Go.Proofs.YtikjhfmmfpeaoaaGreatDoor.flt
end Go.Proofs.YtikjhfmmfpeaoaaGreatDoor.flt
namespace Go.Proofs.YtikjhfmmfpeaoaaGreatDoor.lawFlagsCases
end Go.Proofs.YtikjhfmmfpeaoaaGreatDoor.lawFlagsCases
namespace Go.Proofs.YtikjhfmmfpeaoaaGreatDoor.prd
end Go.Proofs.YtikjhfmmfpeaoaaGreatDoor.prd
namespace Go.Proofs.YtikjhfmmfpeaoaaGreatDoor.prp
end Go.Proofs.YtikjhfmmfpeaoaaGreatDoor.prp
namespace Go.Proofs.YtikjhfmmfpeaoaaGreatDoor.prw
end Go.Proofs.YtikjhfmmfpeaoaaGreatDoor.prw
namespace Go.Proofs.YtikjhfmmfpeaoaaGreatDoor.rpp
end Go.Proofs.YtikjhfmmfpeaoaaGreatDoor.rpp
namespace Go.Proofs.YtikjhfmmfpeaoaaGreatDoor.rpw
end Go.Proofs.YtikjhfmmfpeaoaaGreatDoor.rpw
namespace Go.Proofs.YtikjhfmmfpeaoaaGreatDoor.rsp
end Go.Proofs.YtikjhfmmfpeaoaaGreatDoor.rsp
namespace Go.Proofs.YtikjhfmmfpeaoaaGreatDoor.rsw
end Go.Proofs.YtikjhfmmfpeaoaaGreatDoor.rsw
namespace Go.Proofs.YtikjhfmmfpeaoaaGreatDoor.rtp
end Go.Proofs.YtikjhfmmfpeaoaaGreatDoor.rtp
namespace Go.Proofs.YtikjhfmmfpeaoaaGreatDoor.rtw
end Go.Proofs.YtikjhfmmfpeaoaaGreatDoor.rtw
namespace Go.Proofs.YtikjhfmmfpeaoaaGreatDoor.setl
end Go.Proofs.YtikjhfmmfpeaoaaGreatDoor.setl
namespace Go.Proofs.YtikjhfmmfpeaoaaGreatDoor.setp
end Go.Proofs.YtikjhfmmfpeaoaaGreatDoor.setp
namespace Go.Proofs.YtikjhfmmfpeaoaaGreatDoor.setw
end Go.Proofs.YtikjhfmmfpeaoaaGreatDoor.setw
namespace Go.Proofs.YtikjhfmmfpeaoaaGreatDoor.sq
end Go.Proofs.YtikjhfmmfpeaoaaGreatDoor.sq
namespace Go.Proofs.YtikjhfmmfpeaoaaGreatDoor.tkp
end Go.Proofs.YtikjhfmmfpeaoaaGreatDoor.tkp
namespace Go.Proofs.YtikjhfmmfpeaoaaGreatDoor.tkw
end Go.Proofs.YtikjhfmmfpeaoaaGreatDoor.tkw
namespace Go.Proofs.YtikjhfmmfpeaoaaGreatDoor.trp
end Go.Proofs.YtikjhfmmfpeaoaaGreatDoor.trp
namespace Go.Proofs.YtikjhfmmfpeaoaaGreatDoor.trw
end Go.Proofs.YtikjhfmmfpeaoaaGreatDoor.trw
namespace Go.Proofs.YtikjhfmmfpeaoaaGreatDoor.ucdp
end Go.Proofs.YtikjhfmmfpeaoaaGreatDoor.ucdp
namespace Go.Proofs.YtikjhfmmfpeaoaaGreatDoor.ucdw
end Go.Proofs.YtikjhfmmfpeaoaaGreatDoor.ucdw
namespace Go.Proofs.YtikjhfmmfpeaoaaGreatDoor.utfp
end Go.Proofs.YtikjhfmmfpeaoaaGreatDoor.utfp
namespace Go.Proofs.YtikjhfmmfpeaoaaGreatDoor.utfw
end Go.Proofs.YtikjhfmmfpeaoaaGreatDoor.utfw
set_option maxHeartbeats 16000000
set_option maxRecDepth 1000000
section
namespace Go.Proofs.YtikjhfmmfpeaoaaGreatDoor.utfp
open sq
theorem seqAt_full {g : Nat → Int} {n p k : Nat} {s : Int} (hs : len0 (g p) = s) (_h0 : s ≠ 0) (hn : s ≤ (n : Int) - p) (hk : (k : Int) = s - 1) (hc : conts g p k = true) :
 seqAt g n p = if wid (acc g p (head0 s) k) = s then (acc g p (head0 s) k, s) else (0, 0) := by
 unfold seqAt;rw [hs, show (s - 1).toNat = k from by omega];rw [if_neg (by omega)];simp [hc]
end Go.Proofs.YtikjhfmmfpeaoaaGreatDoor.utfp
end
section
namespace Go.Proofs.YtikjhfmmfpeaoaaGreatDoor.setw
open sq
open Go Go.RowKit bulk ucdp ucdw setp
theorem neqR (x1 x2 y1 y2 : Int) (w : World) : (binOp .neq 57 (.agg #[.int .i64 x1, .int .i64 x2]) (.agg #[.int .i64 y1, .int .i64 y2])).run Tryz.prog w = .ok (.bool (!decide ((x1, x2) = (y1, y2)))) w := by
 have u3 := Tryz.underlying3;have a3 := Tryz.isAgg3;have z3 := Tryz.sizeOf3;have hS : Tryz.prog.underlying 57 = some (.struct (Tryz.prog.fieldsOf 57)) := by kernel_rfl
 have hp : Tryz.prog.stoodInHeld 57 = false := by kernel_rfl
 rw [run_neq_struct, show (10000 : Nat) = 9999 + 1 from rfl, run_equalIn_agg w 9999 57 _ _ hS hp];simp only [Program.fieldsOf, Tryz.underlying57];go_simp;by_cases h1 : x1 = y1 <;> by_cases h2 : x2 = y2 <;> simp [h1, h2]
theorem guardR (op : BinOp) (a b : Operand) (x1 x2 y1 y2 : Int) (w : World) : (eqGuard op 57 a b (.agg #[.int .i64 x1, .int .i64 x2]) (.agg #[.int .i64 y1, .int .i64 y2])).run Tryz.prog w = .ok () w :=
 run_eqGuard_agg w op 57 a b _ _ (by kernel_rfl)
def SamePost (b : Bool) (w : World) (e : Ending) (w' : World) : Prop := e = .returned (.bool b) ∧ ∃ q, w' = w.drewN q
theorem samePost_of {b c : Bool} {w : World} {q : Nat} (h : c = b) : SamePost b w (.returned (.bool c)) (w.drewN q) := by subst h;exact ⟨rfl, q, rfl⟩
def SRel (l m : List Rg) (w : World) (i : Value) (wr : World) : Prop := ∃ k q : Nat, k ≤ l.length ∧ i = .int .i64 k ∧ l.take k = m.take k ∧ wr = w.drewN q
theorem rsame_any (v1 v2 : Value) (l m : List Rg) (w : World) (h1 : RsAt w v1 l) (h2 : RsAt w v2 m) (hl1 : l.length ≤ 100000000) (hl2 : m.length ≤ 100000000) :
 Calls Tryz.prog 22 #[v1, v2] w (SamePost (decide (l = m)) w) := by
 have HV1 := xH h1;have HV2 := xH h2;obtain ⟨a1, q1, rfl⟩ := jg h1;obtain ⟨a2, q2, rfl⟩ := jg h2;clear h1 h2;by_cases hlen : l.length = m.length
 ·have HLen := xH hlen;have hne : ((l.length : Int) != (m.length : Int)) = false := by simp [hlen]
  have hlen2 : (l.length : Int) = (m.length : Int) := by omega
  obtain ⟨n2, hn2⟩ : ∃ n, m.length = n := ⟨_, rfl⟩;rw [hn2] at HV2 hlen hne hlen2 hl2 ⊢;subst hlen;clear hne hlen2;go_enter Tryz.func22, Tryz.ntmps22;go_wp2_with fail
  go_loopw [5] (fun i wr => SRel l m w i wr) (fun i _ => l.length - (intOf i).toNat)
  case atStart => exact ⟨0, 0, Nat.zero_le _, rfl, rfl, rfl⟩
  case round =>
   obtain ⟨k, q, hk, rfl, hb, rfl⟩ := hrel;have HB := xH hb;clear hb;by_cases hlt : k < l.length
   ·have hlm : k < m.length := by have := HLen.out; omega
    obtain ⟨_, ⟨h0, _⟩ | ⟨_, b1, off1, cp1, hv, _, hc2, hc⟩⟩ := HV1.out
    ·subst h0; simp at hlt
    cases hv;obtain ⟨_, ⟨h0, _⟩ | ⟨_, b2, off2, cp2, hv, _, hd2, hd⟩⟩ := HV2.out
    ·subst h0; simp at hlm
    rw [← HLen.out] at hv;cases hv;obtain ⟨hx1, hx2⟩ := hc k hlt;obtain ⟨hy1, hy2⟩ := hd k hlm;have HE := xH (show l[k] = m[k] → l.take (k + 1) = m.take (k + 1) from fun e => by rw [take_snoc hlt, take_snoc hlm, HB.out, e]);have HN := xH (show l[k] ≠ m[k] → l ≠ m from fun e h => e (by subst h; rfl));obtain ⟨x1, x2, hx⟩ : ∃ x y, l[k] = (x, y) := ⟨_, _, rfl⟩;obtain ⟨y1, y2, hy⟩ : ∃ x y, m[k] = (x, y) := ⟨_, _, rfl⟩;rw [hx] at hx1 hx2 HE HN;rw [hy] at hy1 hy2 HE HN;simp only at hx1 hx2 hy1 hy2;have hki : (k : Int) < (l.length : Int) := by omega
    have hq := neqR x1 x2 y1 y2;have hg := fun op a b => guardR op a b x1 x2 y1 y2
    clear hc hd hx hy;by_cases he : (x1, x2) = (y1, y2)
    ·rw [decide_eq_true he] at hq;have HE2 := xH (HE.out he);clear he;go_wp2_with fail
     go_quiet (fail)
     go_wp2_with fail
     go_roundw
     case rel => exact ⟨k + 1, _, by omega, by go_num, HE2.out, rfl⟩
     case measure => simp [intOf]; omega
    ·rw [decide_eq_false he] at hq;have HN2 := xH (HN.out he);clear he;go_wp2_with fail
     go_quiet (fail)
     go_wp2_with fail
     go_ret
     rw [World.drewN_drewN];exact samePost_of (decide_eq_false HN2.out).symm
   ·obtain rfl : k = l.length := by omega
    have hb := HB.out;rw [List.take_length, HLen.out, List.take_length] at hb;have HB2 := xH hb;clear hb;go_wp2_with fail
    go_ret
    exact samePost_of (decide_eq_true HB2.out).symm
 ·have HN := xH (show l ≠ m from fun h => hlen (by rw [h]));have hne : ¬ ((l.length : Int) = (m.length : Int)) := by omega
  generalize l.length = n1 at *;generalize m.length = n2 at *;go_enter Tryz.func22, Tryz.ntmps22;go_wp2_with fail
  go_ret
  exact samePost_of (q := 0) (decide_eq_false HN.out).symm
end Go.Proofs.YtikjhfmmfpeaoaaGreatDoor.setw
end
section
namespace Go.Proofs.YtikjhfmmfpeaoaaGreatDoor.ucdw
open sq
open Go Go.RowKit bulk ucdp
def ofP (c : Int) : Int × Int × Nat × Nat × Int := if c < 0 ∨ 1114111 < c then (0, 0, 0, 0, 0) else match rows.find? (inRow c) with
 | some r => r
 | none => (c, c, 20, 3, 0)
theorem of_cls (c : Int) : (ofP c).2.2 = cls c := by
 unfold ofP cls;split
 ·rfl
 ·cases rows.find? (inRow c) <;> rfl
def refV (r : Int × Int × Nat × Nat × Int) : Value := .agg #[.int .i64 r.1, .int .i64 r.2.1, .string (catB r.2.2.1), .string (scrB r.2.2.2.1), .int .i64 r.2.2.2.2]
def RefB (r : Int × Int × Nat × Nat × Int) (w : World) (e : Ending) (w' : World) : Prop := e = .returned (refV r) ∧ Below w.heap.size w w'
theorem of_out {c : Int} (h : c < 0 ∨ 1114111 < c) : ofP c = (0, 0, 0, 0, 0) := by unfold ofP; rw [if_pos h]
theorem of_in {c : Int} {k : Nat} (h1 : 0 ≤ c) (h2 : c ≤ 1114111) (hk : k < 81) (hb : ∀ j, j < k → inRow c (rk j) = false) (hi : inRow c (rk k) = true) : ofP c = rk k := by
 unfold ofP;rw [if_neg (by omega)];have : rows.find? (inRow c) = some (rk k) := by
  have hl : rows.length = 81 := rfl;rw [List.find?_eq_some_iff_getElem];refine ⟨hi, k, by omega, ?_, fun j hj => ?_⟩
  ·unfold rk; simp [List.getD, hl, hk]
  ·have := hb j hj;unfold rk at this;have hj2 : j < rows.length := by omega
   simp only [List.getD, List.getElem?_eq_getElem hj2, Option.getD_some] at this;simp [this]
 rw [this]
theorem of_none {c : Int} (h1 : 0 ≤ c) (h2 : c ≤ 1114111) (hb : ∀ j, j < 81 → inRow c (rk j) = false) : ofP c = (c, c, 20, 3, 0) := by
 unfold ofP;rw [if_neg (by omega)];have : rows.find? (inRow c) = none := by rw [List.find?_eq_none];intro r hr;obtain ⟨j, hj, e⟩ := List.mem_iff_getElem.1 hr;have := hb j hj;unfold rk at this;simp only [List.getD, List.getElem?_eq_getElem hj, Option.getD_some] at this;rw [← e];simp [this]
 rw [this]
end Go.Proofs.YtikjhfmmfpeaoaaGreatDoor.ucdw
end
section
namespace Go.Proofs.YtikjhfmmfpeaoaaGreatDoor.ucdw
open sq
open Go Go.RowKit bulk ucdp
theorem of_any (c : Int) (w : World) : Calls Tryz.prog 59 #[.int .i64 c] w (RefB (ofP c) w) := by
 by_cases h0 : c < 0 ∨ 1114111 < c
 ·have HE := xH (of_out h0);rcases h0 with h0 | h0
  all_goals
   go_enter Tryz.func59, Tryz.ntmps59;go_wp2_with fail
   refine bodyPost_ret (v := refV (0, 0, 0, 0, 0)) (by simp [results, Tryz.results59, go_sem, refV, catB, scrB]) rfl ⟨by rw [HE.out], ?_⟩;exact qg _ _
 ·have h1 : 0 ≤ c := by omega
  have h2 : c ≤ 1114111 := by omega
  have HI := xH (fun k hk hb hi => of_in (c := c) (k := k) h1 h2 hk hb hi);have HN := xH (fun hb => of_none (c := c) h1 h2 hb);have HT := xH table_any;clear h0;go_enter Tryz.func59, Tryz.ntmps59;go_wp2_with fail
  refine (HT.out _).mono ?_;rintro e w1 ⟨v, rfl, ho, hb1⟩;obtain ⟨g, cap, rfl, hg, hg2, hcap, hcap2, hcell⟩ := ownR_open ho;have HC := xH hcell;have Hg := xH hg;have c0 := (hb1.cell (p := ⟨w.heap.size, 0, none⟩) (by simp)).trans (show _ = some (.int .i64 0) by simp);have c1 := (hb1.cell (p := ⟨w.heap.size, 1, none⟩) (by simp)).trans (show _ = some (.int .i64 0) by simp);have c2 := (hb1.cell (p := ⟨w.heap.size, 2, none⟩) (by simp)).trans (show _ = some (.string ⟨#[]⟩) by simp);have c3 := (hb1.cell (p := ⟨w.heap.size, 3, none⟩) (by simp)).trans (show _ = some (.string ⟨#[]⟩) by simp);have c4 := (hb1.cell (p := ⟨w.heap.size, 4, none⟩) (by simp)).trans (show _ = some (.int .i64 0) by simp);have f0 := (hb1.frozen (p := ⟨w.heap.size, 0, none⟩) (by simp)).trans (show _ = false by simp);have f1 := (hb1.frozen (p := ⟨w.heap.size, 1, none⟩) (by simp)).trans (show _ = false by simp);have f2 := (hb1.frozen (p := ⟨w.heap.size, 2, none⟩) (by simp)).trans (show _ = false by simp);have f3 := (hb1.frozen (p := ⟨w.heap.size, 3, none⟩) (by simp)).trans (show _ = false by simp);have f4 := (hb1.frozen (p := ⟨w.heap.size, 4, none⟩) (by simp)).trans (show _ = false by simp);have hB := qi (qg w _) hb1;clear hcell ho hb1 hg;go_wp2_with fail
  go_loop [4] (fun i => ∃ k : Nat, k ≤ 81 ∧ i = .int .i64 k ∧ Hid (∀ j, j < k → inRow c (rk j) = false)) (fun i => 81 - (intOf i).toNat)
  case atStart => exact ⟨0, Nat.zero_le _, rfl, xH (fun j h => by omega)⟩
  case round =>
   obtain ⟨k, hk, rfl, HR⟩ := hrel;by_cases hlt : k < 81
   ·have r0 := HC.out k 0 hlt (by decide);have r1 := HC.out k 1 hlt (by decide);have r2 := HC.out k 2 hlt (by decide);have r3 := HC.out k 3 hlt (by decide);have r4 := HC.out k 4 hlt (by decide);have HIk := xH (HI.out k hlt HR.out);have HS := xH (show inRow c (rk k) = false → ∀ j, j < k + 1 → inRow c (rk j) = false by
     intro h j hj;by_cases e : j = k
     ·subst e; exact h
     ·exact HR.out j (by omega))
    have HW := xH (show ∀ r, rk k = r → inRow c r = (decide (r.1 ≤ c) && decide (c ≤ r.2.1)) by intro r hr; rfl);obtain ⟨⟨a, b, x, y, z⟩, hr⟩ : ∃ r, rk k = r := ⟨_, rfl⟩;have HWr := xH (HW.out _ hr);rw [hr] at r0 r1 r2 r3 r4 HIk HS;simp only [refC, List.getElem?_cons_zero, List.getElem?_cons_succ, Nat.add_zero] at r0 r1 r2 r3 r4;clear hr HW;by_cases ha : a ≤ c
    ·by_cases hbc : c ≤ b
     ·have HO := xH (HIk.out (by unfold inRow; simp [ha, hbc]));go_wp2_with fail
      refine bodyPost_ret (v := refV (a, b, x, y, z)) (by simp [results, Tryz.results59, go_sem, refV, c0, c1, c2, c3, c4]) rfl ⟨by rw [HO.out], ?_⟩;exact ((((hB.setCell (by simp) _).setCell (by simp) _).setCell (by simp) _).setCell (by simp) _).setCell (by simp) _
     ·have HR2 := xH (HS.out (by unfold inRow; simp [hbc]));go_wp2_with fail
      go_round
      case rel => exact ⟨k + 1, by omega, by go_num, HR2⟩
      case measure => simp [intOf]; omega
    ·have HR2 := xH (HS.out (by unfold inRow; simp [ha]));go_wp2_with fail
     go_round
     case rel => exact ⟨k + 1, by omega, by go_num, HR2⟩
     case measure => simp [intOf]; omega
   ·obtain rfl : k = 81 := by omega
    have HO := xH (HN.out HR.out);go_wp2_with fail
    refine bodyPost_ret (v := refV (c, c, 20, 3, 0)) (by simp [results, Tryz.results59, go_sem, refV, catB, scrB, c0, c1, c2, c3, c4]) rfl ⟨by rw [HO.out], ?_⟩;exact ((((hB.setCell (by simp) _).setCell (by simp) _).setCell (by simp) _).setCell (by simp) _).setCell (by simp) _
theorem of_vals (c : Int) (w : World) : ∃ a b : Int, Calls Tryz.prog 59 #[.int .i64 c] w fun e w' => e = .returned (.agg #[.int .i64 a, .int .i64 b, .string (catB (cls c).1), .string (scrB (cls c).2.1), .int .i64 (cls c).2.2]) ∧ Below w.heap.size w w' :=
 ⟨(ofP c).1, (ofP c).2.1, by have := of_any c w; rw [← of_cls]; exact this⟩
end Go.Proofs.YtikjhfmmfpeaoaaGreatDoor.ucdw
end
section
namespace Go.Proofs.YtikjhfmmfpeaoaaGreatDoor.ucdw
open sq
open Go Go.RowKit bulk ucdp
theorem zg {x y : Int} {w w' : World} (hb : Below w.heap.size w w') (T : TypeId) : IntsB [x, y] w (.returned (.slice (some ⟨w'.heap.size, 0, none⟩) 2 2)) (w'.alloc (.cells #[.int .i64 x, .int .i64 y] T)) := by
 refine ⟨_, rfl, Or.inr ⟨by simp, _, 2, rfl, hb.size, by simp, by simp, by omega, fun i hi => ?_⟩, qi hb (qg _ _)⟩;have h0 : i = 0 ∨ i = 1 := by simp at hi; omega
 rcases h0 with rfl | rfl <;> simp
theorem intsB_one' {l : List Int} {x : Int} {n : Nat} {w w' : World} (h : l = [x]) (hb : Below w.heap.size w w') (hn : n = w'.heap.size) (T : TypeId) : IntsB l w (.returned (.slice (some ⟨n, 0, none⟩) 1 1)) (w'.alloc (.cells #[.int .i64 x] T)) := by subst hn; exact intsB_one h hb T
theorem others_f_low {c : Int} (h1 : 65 ≤ c) (h2 : c ≤ 90) : jy c false = [c + 32] := by unfold jy; rw [if_pos rfl, if_pos ⟨h1, h2⟩]
theorem others_f_high {c : Int} (h1 : 97 ≤ c) (h2 : c ≤ 122) : jy c false = [c - 32] := by unfold jy; rw [if_pos rfl, if_neg (by omega), if_pos ⟨h1, h2⟩]
theorem others_f_none {c : Int} (h1 : ¬ (65 ≤ c ∧ c ≤ 90)) (h2 : ¬ (97 ≤ c ∧ c ≤ 122)) : jy c false = [] := by unfold jy; rw [if_pos rfl, if_neg h1, if_neg h2]
theorem rothers_f (c : Int) (w : World) : Calls Tryz.prog 41 #[.int .i64 c, .bool false] w (IntsB (jy c false) w) := by
 have h : (65 ≤ c ∧ c ≤ 90) ∨ (97 ≤ c ∧ c ≤ 122) ∨ c < 65 ∨ (90 < c ∧ c < 97) ∨ 122 < c := by omega
 rcases h with ⟨h1, h2⟩ | ⟨h1, h2⟩ | h | ⟨h1, h2⟩ | h
 ·have HE := xH (others_f_low h1 h2);go_enter Tryz.func41, Tryz.ntmps41;go_wp2_with fail
  go_ret
  exact intsB_one HE.out (Below.refl _ _) _
 ·have HE := xH (others_f_high h1 h2);go_enter Tryz.func41, Tryz.ntmps41;go_wp2_with fail
  go_ret
  exact intsB_one HE.out (Below.refl _ _) _
 ·have HE := xH (others_f_none (c := c) (by omega) (by omega));go_enter Tryz.func41, Tryz.ntmps41;go_wp2_with fail
  go_ret
  exact intsB_nil HE.out (Below.refl _ _)
 ·have HE := xH (others_f_none (c := c) (by omega) (by omega));go_enter Tryz.func41, Tryz.ntmps41;go_wp2_with fail
  go_ret
  exact intsB_nil HE.out (Below.refl _ _)
 ·have HE := xH (others_f_none (c := c) (by omega) (by omega));go_enter Tryz.func41, Tryz.ntmps41;go_wp2_with fail
  go_ret
  exact intsB_nil HE.out (Below.refl _ _)
theorem rothers_t0 (c : Int) (w : World) (hS : Single c) : Calls Tryz.prog 41 #[.int .i64 c, .bool true] w (IntsB (jy c true) w) := by
 have hE := others_single hS;obtain ⟨a, b, hF⟩ := of_vals c w;have hs := shift_bd c;have hp := @shift_small c;obtain ⟨⟨k, s, o⟩, hr⟩ : ∃ r, cls c = r := ⟨_, rfl⟩;rw [hr] at hE hF hs hp;simp only at hE hF hs hp;obtain ⟨hs1, hs2⟩ := hs;have HF := xH hF;have HE := xH hE;have Hp := xH hp;clear hF hr hE hp;obtain ⟨q1, q2, q3, q4, q5, q6, q7, q8, q9, q10, q11, q12⟩ := hS;have e1 : (c == 75) = false := by simpa using q1
 have e2 : (c == 107) = false := by simpa using q2
 have e3 : (c == 8490) = false := by simpa using q3
 have e4 : (c == 83) = false := by simpa using q4
 have e5 : (c == 115) = false := by simpa using q5
 have e6 : (c == 383) = false := by simpa using q6
 have e7 : (c == 181) = false := by simpa using q7
 have e8 : (c == 924) = false := by simpa using q8
 have e9 : (c == 956) = false := by simpa using q9
 have e10 : (c == 931) = false := by simpa using q10
 have e11 : (c == 962) = false := by simpa using q11
 have e12 : (c == 963) = false := by simpa using q12
 clear q1 q2 q3 q4 q5 q6 q7 q8 q9 q10 q11 q12;go_enter Tryz.func41, Tryz.ntmps41;go_wp2_with fail
 refine HF.out.mono ?_;rintro e w1 ⟨rfl, hb1⟩;by_cases h0 : o = 0
 ·subst h0;have HE0 := xH (HE.out.trans (if_pos rfl));go_wp2_with fail
  go_ret
  exact intsB_nil HE0.out (qi hb1 (qg _ _))
 ·have HE0 := xH (HE.out.trans (if_neg h0));have h0b : (o != 0) = true := by simpa using h0
  obtain ⟨hp1, hp2⟩ := Hp.out h0;clear h0;go_wp2_with fail
  go_ret
  exact intsB_one' HE0.out (qi hb1 (qg _ _)) (by simp) _
theorem rothers_m75 (w : World) : Calls Tryz.prog 41 #[.int .i64 75, .bool true] w (IntsB [107, 8490] w) := by
 go_enter Tryz.func41, Tryz.ntmps41;go_wp2_with fail
 go_ret
 exact zg (Below.refl _ _) _
theorem rothers_m107 (w : World) : Calls Tryz.prog 41 #[.int .i64 107, .bool true] w (IntsB [75, 8490] w) := by
 go_enter Tryz.func41, Tryz.ntmps41;go_wp2_with fail
 go_ret
 exact zg (Below.refl _ _) _
theorem rothers_m8490 (w : World) : Calls Tryz.prog 41 #[.int .i64 8490, .bool true] w (IntsB [75, 107] w) := by
 go_enter Tryz.func41, Tryz.ntmps41;go_wp2_with fail
 go_ret
 exact zg (Below.refl _ _) _
theorem rothers_m83 (w : World) : Calls Tryz.prog 41 #[.int .i64 83, .bool true] w (IntsB [115, 383] w) := by
 go_enter Tryz.func41, Tryz.ntmps41;go_wp2_with fail
 go_ret
 exact zg (Below.refl _ _) _
theorem rothers_m115 (w : World) : Calls Tryz.prog 41 #[.int .i64 115, .bool true] w (IntsB [83, 383] w) := by
 go_enter Tryz.func41, Tryz.ntmps41;go_wp2_with fail
 go_ret
 exact zg (Below.refl _ _) _
theorem rothers_m383 (w : World) : Calls Tryz.prog 41 #[.int .i64 383, .bool true] w (IntsB [83, 115] w) := by
 go_enter Tryz.func41, Tryz.ntmps41;go_wp2_with fail
 go_ret
 exact zg (Below.refl _ _) _
theorem rothers_m181 (w : World) : Calls Tryz.prog 41 #[.int .i64 181, .bool true] w (IntsB [924, 956] w) := by
 go_enter Tryz.func41, Tryz.ntmps41;go_wp2_with fail
 go_ret
 exact zg (Below.refl _ _) _
theorem rothers_m924 (w : World) : Calls Tryz.prog 41 #[.int .i64 924, .bool true] w (IntsB [181, 956] w) := by
 go_enter Tryz.func41, Tryz.ntmps41;go_wp2_with fail
 go_ret
 exact zg (Below.refl _ _) _
theorem rothers_m956 (w : World) : Calls Tryz.prog 41 #[.int .i64 956, .bool true] w (IntsB [181, 924] w) := by
 go_enter Tryz.func41, Tryz.ntmps41;go_wp2_with fail
 go_ret
 exact zg (Below.refl _ _) _
theorem rothers_m931 (w : World) : Calls Tryz.prog 41 #[.int .i64 931, .bool true] w (IntsB [962, 963] w) := by
 go_enter Tryz.func41, Tryz.ntmps41;go_wp2_with fail
 go_ret
 exact zg (Below.refl _ _) _
theorem rothers_m962 (w : World) : Calls Tryz.prog 41 #[.int .i64 962, .bool true] w (IntsB [931, 963] w) := by
 go_enter Tryz.func41, Tryz.ntmps41;go_wp2_with fail
 go_ret
 exact zg (Below.refl _ _) _
theorem rothers_m963 (w : World) : Calls Tryz.prog 41 #[.int .i64 963, .bool true] w (IntsB [931, 962] w) := by
 go_enter Tryz.func41, Tryz.ntmps41;go_wp2_with fail
 go_ret
 exact zg (Below.refl _ _) _
theorem rothers_any (c : Int) (u : Bool) (w : World) : Calls Tryz.prog 41 #[.int .i64 c, .bool u] w (IntsB (jy c u) w) := by
 cases u with
 | false => exact rothers_f c w
 | true =>
  by_cases e75 : c = 75
  ·subst e75;exact rothers_m75 w
  by_cases e107 : c = 107
  ·subst e107;exact rothers_m107 w
  by_cases e8490 : c = 8490
  ·subst e8490;exact rothers_m8490 w
  by_cases e83 : c = 83
  ·subst e83;exact rothers_m83 w
  by_cases e115 : c = 115
  ·subst e115;exact rothers_m115 w
  by_cases e383 : c = 383
  ·subst e383;exact rothers_m383 w
  by_cases e181 : c = 181
  ·subst e181;exact rothers_m181 w
  by_cases e924 : c = 924
  ·subst e924;exact rothers_m924 w
  by_cases e956 : c = 956
  ·subst e956;exact rothers_m956 w
  by_cases e931 : c = 931
  ·subst e931;exact rothers_m931 w
  by_cases e962 : c = 962
  ·subst e962;exact rothers_m962 w
  by_cases e963 : c = 963
  ·subst e963;exact rothers_m963 w
  exact rothers_t0 c w ⟨e75, e107, e8490, e83, e115, e383, e181, e924, e956, e931, e962, e963⟩
end Go.Proofs.YtikjhfmmfpeaoaaGreatDoor.ucdw
end
section
namespace Go.Proofs.YtikjhfmmfpeaoaaGreatDoor.setw
open sq
open Go Go.RowKit bulk ucdp ucdw setp
theorem held_append_at {o : Oper} {a : Act} {w W : World} {K : Act → World → Prop} {Q : Exit → Act → World → Prop} {ys : Nat → Option Bool} (hgd : o.guard = none) (s x : Operand)
 (ho : o.op = .call { callee := .builtin .append, args := #[s, x], argTypes := #[24, 24] }) (base : Nat) (v : Value) (D : List Rg) (hs : a.eval s = v) (hown : OwnR w base v D)
 (q1 q2 : Int) (B : Nat) (hW : W = w.alloc (.cells #[.int .i64 q1, .int .i64 q2] 57)) (hx : a.eval x = .slice (some ⟨B, 0, none⟩) 1 1) (hB : B = w.heap.size) (hlen : D.length ≤ 100000000) (hbase : base ≤ w.heap.size)
 (h : ∀ v' w', OwnR w' base v' (D ++ [(q1, q2)]) → (∀ B w1, Below B w1 w → B ≤ base → Below B w1 w') → W.grownBy w' v.ownBlock → (v'.ownBlock = v.ownBlock ∨ v'.ownBlock = some W.heap.size) → K (a.put o.dst v') w') :
 if Region.wanted o ys = true then Oper.wp Tryz.prog o a W K Q else K (a.put o.dst undef) W := by
 subst hW;rw [if_pos (by unfold Region.wanted; rw [hgd])];subst hB;obtain ⟨i0, hi, hz0, hz1, hz2⟩ := info_parts infoRange;obtain ⟨v', w', hr, hown', hgr, hnil, hat⟩ := run_append_own_at (P := Tryz.prog) (w.alloc (.cells #[.int .i64 q1, .int .i64 q2] 57)) base 24 o.type 57 i0 (.agg #[.int .i64 0, .int .i64 0]) 2 16 Tryz.underlying24 hi hz0 hz1 hz2 rfl (by decide) v _ _ (World.ownsRow.alloc hown.1 _) ⟨w.heap.size, 0, none⟩ 1 1 [.int .i64 q1, .int .i64 q2] rfl (by
  intro j u hj;have hplain : (⟨w.heap.size, 0, none⟩ : Addr).add j = ⟨w.heap.size, j, none⟩ := by unfold Addr.add; split <;> simp_all
  rw [hplain, World.cell?_alloc_new];rcases j with _ | _ | j
  ·simpa using hj
  ·simpa using hj
  ·simp at hj) (by
  intro u hu;simp only [List.mem_cons, List.not_mem_nil, or_false] at hu;rcases hu with rfl | rfl <;> rfl) (by unfold maxLen; omega) (by omega) (by rw [World.size_alloc]; omega)
 unfold Oper.wp execOp;simp only [ho, resolve, invoke, builtin, Sem.run_bind, Sem.run_pure, Result.andThen_ok, List.map_toArray, List.map_cons, List.map_nil, hs, hx, hr];refine h v' w' ?_ (fun B w1 hb hB => (hb.alloc (by have := hb.size; omega) _).grown hgr (by rw [World.size_alloc]; omega) (fun k hk => ?_)) hgr hat
 ·have e : rcs (D ++ [(q1, q2)]) = rcs D ++ [.int .i64 q1, .int .i64 q2] := by simp [rcs]
  unfold OwnR;rw [e];exact ⟨by simpa using hown', fun h => absurd h (by simp)⟩
 ·have := (World.ownsRow.lt hown.1) k hk;omega
def RARel (D : List Rg) (L : List Int) (base b : Nat) (w : World) (v i : Value) (wr : World) : Prop :=
 ∃ k : Nat, k ≤ L.length ∧ i = .int .i64 k ∧ OwnR wr base v (D ++ dups (L.take k)) ∧ Below base w wr ∧ (∀ j, j < L.length → wr.cell? ⟨b, j, none⟩ = some (.int .i64 (L.getD j 0))) ∧ v.ownBlock ≠ some b ∧ b < wr.heap.size
def RAB (D : List Rg) (base : Nat) (w : World) (e : Ending) (w' : World) : Prop := ∃ v, e = .returned v ∧ OwnR w' base v D ∧ Below base w w'
theorem rab_of {D D' : List Rg} {base : Nat} {w w' : World} {v : Value} (h : D' = D) (ho : OwnR w' base v D') (hb : Below base w w') : RAB D base w (.returned v) w' := by subst h;exact ⟨v, rfl, ho, hb⟩
theorem radd_any (v vL : Value) (D : List Rg) (L : List Int) (base B : Nat) (w : World) (hown : OwnR w base v D) (hn : IntsAt B w vL L) (hne : ∀ g, v.ownBlock = some g → g < B) (hbase : base ≤ w.heap.size) (hl : D.length + L.length ≤ 10000000) :
 Calls Tryz.prog 40 #[v, vL] w (RAB (D ++ dups L) base w) := by
 have HO := xH hown;rcases hn with ⟨rfl, rfl⟩ | ⟨hLn, b, cap, rfl, hb1, hb2, hc1, hc2, hc⟩
 ·go_enter Tryz.func40, Tryz.ntmps40;go_wp2_with fail
  refine wp_loop_rounds 1 ?_;rw [rounds_succ];go_wp2_with fail
  go_ret
  exact rab_of (by simp [dups]) HO.out (Below.refl _ _)
 ·have HC := xH hc;have hnb : v.ownBlock ≠ some b := fun e => by have := hne b e; omega
  have HNB := xH hnb;clear hown hc hne hnb hLn;go_enter Tryz.func40, Tryz.ntmps40;go_wp2_with fail
  go_loopw [0, 5] (fun v i wr => RARel D L base b w v i wr) (fun _ i _ => L.length - (intOf i).toNat)
  case atStart => exact ⟨0, Nat.zero_le _, rfl, by simpa [dups] using HO.out, Below.refl _ _, HC.out, HNB.out, hb2⟩
  case round =>
   obtain ⟨k, hk, rfl, ho, hb, hcr, hnr, hbr⟩ := hrel;have HOr := xH ho;have HBr := xH hb;have HCr := xH hcr;have HNr := xH hnr;clear ho hb hcr hnr;by_cases hlt : k < L.length
   ·have hx := HCr.out k hlt;have HX := xH hx;have HT := xH (show dups (L.take (k + 1)) = dups (L.take k) ++ [(L.getD k 0, L.getD k 0)] by
     have hg : L.getD k 0 = L[k] := by simp [List.getD, hlt]
     unfold dups;rw [List.take_succ_eq_append_getElem hlt, List.map_append, hg];rfl)
    have HLn := xH (show (D ++ dups (L.take k)).length ≤ 100000000 by simp only [List.length_append, dups, List.length_map, List.length_take]; omega);have hki : (k : Int) < (L.length : Int) := by omega
    generalize L.getD k 0 = x at *;clear hx;go_wp2_with fail
    have h0 : World.cell? (World.drew _) ⟨b, k, none⟩ = some (.int .i64 x) := HX.out;refine wp_region_held_drew (S := fun w' => w'.cell? ⟨b, k, none⟩ = some (.int .i64 x)) (by kernel_rfl) h0 (fun hHeld => ?_);refine xT 0 rfl ?_ ?_ ?_;rotate_left
    ·intro w' hSw;go_simp;try rfl
    simp only [xS];refine xT 1 rfl ?_ ?_ ?_;rotate_left
    ·intro w' hSw;go_simp;try rfl
    simp only [xS];refine xT 2 rfl ?_ ?_ ?_;rotate_left
    ·intro w' hSw;go_simp;try rfl
    simp only [xS];refine xT 3 rfl ?_ ?_ ?_;rotate_left
    ·intro w' hSw;go_simp;try rfl
    simp only [xS];refine xT 4 rfl ?_ ?_ ?_;rotate_left
    ·intro w' hSw;go_simp;try rfl
    simp only [xS];refine xT 5 rfl ?_ ?_ ?_;rotate_left
    ·intro w' hSw;go_simp;try rfl
    simp only [xS];refine xT 6 rfl ?_ ?_ ?_;rotate_left
    ·intro w' hSw;go_simp;try rfl
    simp only [xS];refine xT 7 rfl ?_ ?_ ?_;rotate_left
    ·intro w' hSw;go_simp;try rfl
    simp only [xS];refine xT 8 rfl ?_ ?_ ?_;rotate_left
    ·intro w' hSw;go_simp;try rfl
    simp only [xS];refine xT 9 rfl ?_ ?_ ?_;rotate_left
    ·intro w' hSw;go_simp;try rfl
    simp only [xS];refine xD 10 rfl (fun K hK => ?_);go_simp;have hA := qf (qg _ (Obj.cells #[Value.int IntKind.i64 x, Value.int IntKind.i64 x] 57)) h0;refine hK.out _ _ hA (fun hHeld => ?_);clear hK K;try simp only [xS]
    refine xD 11 rfl (fun K hK => ?_);refine held_append_at (w := World.drew _) rfl _ _ rfl base u0 (D ++ dups (L.take k)) rfl HOr.out x x _ rfl rfl rfl HLn.out (Nat.le_trans hbase HBr.out.size) ?_;intro va2 wa2 hoa hba hgr hat;have HOA := xH hoa;have HBA := xH (hba _ _ HBr.out.drew (Nat.le_refl _));have hS2 : wa2.cell? ⟨b, k, none⟩ = some (.int .i64 x) := hgr.cell hA (Ne.symm HNr.out);have HCA := xH (fun j (hj : j < L.length) => hgr.cell (qf (qg _ _) (show World.cell? (World.drew _) ⟨b, j, none⟩ = _ from HCr.out j hj)) (Ne.symm HNr.out));have HNA := xH (show va2.ownBlock ≠ some b from by
     rcases hat with h | h
     ·rw [h]; exact HNr.out
     ·rw [h];intro e;have h3 : (World.alloc _ _).heap.size = b := Option.some.inj e;rw [World.size_alloc] at h3;have h4 : _ < b := Nat.lt_of_lt_of_eq (Nat.lt_succ_self _) h3;exact absurd hbr (Nat.not_lt.2 (Nat.le_of_lt h4)))
    have hsz : b < wa2.heap.size := Nat.lt_of_lt_of_le (Nat.lt_of_lt_of_le hbr (qg (World.drew _) _).size) hgr.size;clear hoa hba hgr hat hA;refine hK.out _ _ hS2 (fun hHeld => ?_);clear hK K;try simp only [xS]
    refine xT 12 rfl ?_ ?_ ?_;rotate_left
    ·intro w' hSw;go_simp;try rfl
    simp only [Act.put, List.setIfInBounds_toArray, List.set_cons_zero, List.getElem_toArray, List.getElem_cons_succ, List.getElem_cons_zero];refine wpAnyH_done (by kernel_rfl) ?_ _;go_wp2_with fail
    go_roundw
    case rel => exact ⟨k + 1, by omega, by go_num, by rw [HT.out, ← List.append_assoc]; exact HOA.out, HBA.out, HCA.out, HNA.out, hsz⟩
    case measure => simp [intOf]; omega
   ·obtain rfl : k = L.length := by omega
    go_wp2_with fail
    go_ret
    exact rab_of (by rw [List.take_length]) HOr.out HBr.out
end Go.Proofs.YtikjhfmmfpeaoaaGreatDoor.setw
end
section
namespace Go.Proofs.YtikjhfmmfpeaoaaGreatDoor.setw
open sq
open Go Go.RowKit bulk ucdp ucdw setp
theorem caseL_len (l : List Rg) (u : Bool) : ∀ k, (caseL l u k).length ≤ l.length + 2 * k
 | 0 => by simp [caseL]
 | k + 1 => by
  have := caseL_len l u k;have h2 := others_len k u;rw [caseL_succ];split
  ·simp only [List.length_append, dups, List.length_map]; omega
  ·omega
theorem caseM_len (l : List Rg) (u : Bool) : (caseM l u).length ≤ l.length + 2404 := by
 have := caseL_len l u 1201;have h2 := others_len 8490 u;unfold caseM;split
 ·simp only [List.length_append, dups, List.length_map]; omega
 ·omega
theorem caseL_wf {l : List Rg} {u : Bool} (hl : InR l) : Wf (caseM l u) := by
 have hd : ∀ c, Wf (dups (jy c u)) := fun c r hr => by obtain ⟨x, hx, rfl⟩ := List.mem_map.1 hr;have := others_mem hx;simp only;omega
 have hk : ∀ k, Wf (caseL l u k) := by
  intro k
  induction k with
  | zero => exact jX hl
  | succ k ih =>
   rw [caseL_succ];split
   ·exact fun r hr => (List.mem_append.1 hr).elim (ih r) (hd k r)
   ·exact ih
 unfold caseM;split
 ·exact fun r hr => (List.mem_append.1 hr).elim (hk _ r) (hd _ r)
 ·exact hk _
def CaRel (l : List Rg) (u : Bool) (w : World) (v i : Value) (wr : World) : Prop := ∃ k : Nat, k ≤ 1201 ∧ i = .int .i64 k ∧ OwnR wr w.heap.size v (caseL l u k) ∧ Below w.heap.size w wr
theorem rcase_any (v : Value) (l : List Rg) (u : Bool) (w : World) (hv : RsAt w v l) (hR : InR l) (hl : l.length ≤ 590000) :
 Calls Tryz.prog 23 #[v, .bool u] w (DocS (fun c => Has l c ∨ ∃ d, Has l d ∧ c ∈ jy d u) w) := by
 have HV := xH hv;have HIR := xH hR;obtain ⟨a, cap, rfl⟩ := jg hv;have HL0 := xH (show ([] : List Rg).length + l.length ≤ 100000000 by simp; omega);clear hv hR;go_enter Tryz.func23, Tryz.ntmps23;go_wp2_with (at_builtin; refine jb rfl _ _ rfl w.heap.size (.slice none 0 0) [] rfl (qm _ _) _ l rfl HV.out HL0.out (Nat.le_refl _) ?_; intro va wa hoa hba; have HOa := xH hoa; have HBa := xH (hba _ _ (Below.refl _ _) (Nat.le_refl _)); clear hoa hba)
 go_loopw [5, 6] (fun v i wr => CaRel l u w v i wr) (fun _ i _ => 1201 - (intOf i).toNat)
 case atStart => exact ⟨0, Nat.zero_le _, rfl, HOa.out, HBa.out⟩
 case round =>
  obtain ⟨k, hk, rfl, ho, hb⟩ := hrel;have HO := xH ho;have HB := xH hb;clear ho hb;by_cases hlt : k < 1201
  ·have hki : (k : Int) ≤ 1200 := by omega
   have HI := xH (rin_any (.slice a l.length cap) l k wr (jl HV.out HB.out) (by omega));have HS := xH (caseL_succ l u k);have hlen := caseL_len l u k;cases hp : hasB l k
   ·rw [hp] at HI HS;go_wp2_with fail
    refine HI.out.mono ?_;rintro e w1 ⟨rfl, rfl⟩;go_wp2_with fail
    go_roundw
    case rel => exact ⟨k + 1, by omega, by go_num, by rw [HS.out]; exact HO.out, HB.out⟩
    case measure => simp [intOf]; omega
   ·rw [hp] at HI HS;go_wp2_with fail
    refine HI.out.mono ?_;rintro e wr ⟨rfl, rfl⟩;go_wp2_with fail
    refine (rothers_any k u wr).mono ?_;rintro e w2 ⟨vL, rfl, hn, hb2⟩;have h2 := others_len k u;have HAd := xH (radd_any _ vL (caseL l u k) (jy k u) w.heap.size wr.heap.size w2 (ownR_below HO.out hb2) hn (fun g hg => (World.ownsRow.lt HO.out.1 g hg).2) (Nat.le_trans HB.out.size hb2.size) (by omega));have HB2 := xH (HB.out.trans (hb2.mono HB.out.size));clear hn hb2 h2;go_wp2_with fail
    refine HAd.out.mono ?_;rintro e w3 ⟨v3, rfl, ho3, hb3⟩;have HO3 := xH ho3;have HB3 := xH (HB2.out.trans hb3);clear ho3 hb3;go_wp2_with fail
    go_roundw
    case rel => exact ⟨k + 1, by omega, by go_num, by rw [HS.out]; exact HO3.out, HB3.out⟩
    case measure => simp [intOf]; omega
  ·obtain rfl : k = 1201 := by omega
   have HI := xH (rin_any (.slice a l.length cap) l 8490 wr (jl HV.out HB.out) (by omega));have HM := xH (show caseM l u = if hasB l 8490 = true then caseL l u 1201 ++ dups (jy 8490 u) else caseL l u 1201 from rfl);have hlen := caseL_len l u 1201;have hml := caseM_len l u;have HWf := xH (caseL_wf (u := u) HIR.out);cases hp : hasB l 8490
   ·rw [hp, if_neg (by simp)] at HM;rw [hp] at HI;go_wp2_with fail
    refine HI.out.mono ?_;rintro e wr ⟨rfl, rfl⟩;have HN := xH (fun v (h : OwnR wr w.heap.size v (caseM l u)) => zZ v (caseM l u) 1114111 wr (vP h HWf.out) (by omega) (by decide) (by decide));rw [← HM.out] at HO;go_wp2_with fail
    refine (HN.out _ HO.out).mono ?_;rintro e w4 ⟨v4, S, rfl, hS, hh, ho4, hb4⟩;have HSC := xH hS;have HH := xH hh;have HO4 := xH (ownR_mono ho4 HB.out.size);have HB4 := xH (HB.out.trans (hb4.mono HB.out.size));clear hS hh ho4 hb4;go_wp2_with fail
    go_ret
    exact ⟨_, S, rfl, HSC.out, fun c => (HH.out c).trans (caseM_has HIR.out c), HO4.out, HB4.out⟩
   ·rw [hp, if_pos rfl] at HM;rw [hp] at HI;go_wp2_with fail
    refine HI.out.mono ?_;rintro e wr ⟨rfl, rfl⟩;go_wp2_with fail
    refine (rothers_any 8490 u wr).mono ?_;rintro e w2 ⟨vL, rfl, hn, hb2⟩;have h2 := others_len 8490 u;have HAd := xH (radd_any _ vL (caseL l u 1201) (jy 8490 u) w.heap.size wr.heap.size w2 (ownR_below HO.out hb2) hn (fun g hg => (World.ownsRow.lt HO.out.1 g hg).2) (Nat.le_trans HB.out.size hb2.size) (by omega));rw [← HM.out] at HAd;have HB2 := xH (HB.out.trans (hb2.mono HB.out.size));clear hn hb2 h2;go_wp2_with fail
    refine HAd.out.mono ?_;rintro e w3 ⟨v3, rfl, ho3, hb3⟩;have HO3 := xH ho3;have HB3 := xH (HB2.out.trans hb3);clear ho3 hb3;go_wp2_with fail
    refine (zZ _ (caseM l u) 1114111 w3 (vP HO3.out HWf.out) (by omega) (by decide) (by decide)).mono ?_;rintro e w4 ⟨v4, S, rfl, hS, hh, ho4, hb4⟩;have HSC := xH hS;have HH := xH hh;have HO4 := xH (ownR_mono ho4 HB3.out.size);have HB4 := xH (HB3.out.trans (hb4.mono HB3.out.size));clear hS hh ho4 hb4;go_wp2_with fail
    go_ret
    exact ⟨_, S, rfl, HSC.out, fun c => (HH.out c).trans (caseM_has HIR.out c), HO4.out, HB4.out⟩
end Go.Proofs.YtikjhfmmfpeaoaaGreatDoor.setw
end
section
namespace Go.Proofs.YtikjhfmmfpeaoaaGreatDoor.fgp
open sq
open Go tkp trp rpp rsp setp setw
theorem wrap_nat (n : Nat) (h : n < 2 ^ 64) : IntKind.i64.wrap (n : Int) = if n < 2 ^ 63 then (n : Int) else (n : Int) - 2 ^ 64 := by
 show (if true && decide ((n : Int) % (2 ^ 64 : Int) ≥ (2 ^ 63 : Int)) then (n : Int) % (2 ^ 64 : Int) - (2 ^ 64 : Int) else (n : Int) % (2 ^ 64 : Int)) = _;have e : ((n : Int) % 2 ^ 64) = n := by omega
 simp only [e, Bool.true_and, decide_eq_true_eq];by_cases c : n < 2 ^ 63
 ·rw [if_neg (by omega), if_pos c]
 ·rw [if_pos (by omega), if_neg c]
theorem B_wrap (v : BitVec 64) : B (IntKind.i64.wrap (v.toNat : Int)) = v := by unfold B;apply BitVec.eq_of_toNat_eq;rw [BitVec.toNat_ofInt, wrap_nat _ v.isLt];have h := v.isLt;split <;> omega
theorem B_or (f n : Int) : B (bits .or .i64 f n) = B f ||| B n := B_wrap _
theorem B_not (f n : Int) : B (bits .andNot .i64 f n) = B f &&& ~~~B n := B_wrap _
end Go.Proofs.YtikjhfmmfpeaoaaGreatDoor.fgp
end
section
namespace Go.Proofs.YtikjhfmmfpeaoaaGreatDoor.fll
open sq
open Go Go.RowKit Go.Maps utfw tkp trp trw rpp rsp rtp setw fgp fkw
open rpw (sees jB qh ql qp jm)
open ucdw (Tab3)
open tkw (sg)
theorem okF_strip8 : ∀ {f : F}, OkF f ↔ OkF (strip f)
 | .nil => Iff.rfl
 | .cons x k r => by rw [strip];unfold OkF;rw [okF_strip8 (f := k), okF_strip8 (f := r), jm]
theorem size_strip8 : ∀ f : F, (strip f).size = f.size
 | .nil => rfl
 | .cons x k r => by rw [strip, F.size, F.size, size_strip8 k, size_strip8 r]
theorem both_strip8 (u : Bool) (m : Int) : ∀ (l : F) (f : Int), bothP u m (strip l) f = bothP u m l f
 | .nil, _ => rfl
 | .cons x k r, f => by
  have e : (fun g => bothP u m (strip k) g) = fun g => bothP u m k g := funext fun g => both_strip8 u m k g
  have e1 : (fun g => (bothP u m (strip k) g).1) = fun g => (bothP u m k g).1 := funext fun g => by rw [both_strip8 u m k g]
  have e2 : (fun g => (bothP u m (strip k) g).2) = fun g => (bothP u m k g).2 := funext fun g => by rw [both_strip8 u m k g]
  rw [strip, bothP, bothP, e1, e2];simp only [both_strip8 u m r];rfl
theorem answer_strip8 (x : Lab) (k : F) (o : Int) : answerP (bare x, strip k) o = answerP (x, k) o := by
 unfold answerP;have e1 : ∀ u m, (fun g => (bothP u m (strip k) g).1) = fun g => (bothP u m k g).1 := fun u m => funext fun g => by rw [both_strip8 u m k g]
 have e2 : ∀ u m, (fun g => (bothP u m (strip k) g).2) = fun g => (bothP u m k g).2 := fun u m => funext fun g => by rw [both_strip8 u m k g]
 simp only [e1, e2];rfl
def ansP (t : F) (o : Int) : F := match t with
 | .cons x k _ => answerP (x, k) o
 | .nil => .nil
theorem ans_strip (y : Lab) (j : F) (o : Int) : ansP (strip (F.one y j)) o = answerP (y, j) o := answer_strip8 y j o
theorem sees_none (w : World) {t : Nd} (h : NdAt (sees (fun _ => false) w) t) : NdAt w t := qY (fun _ _ hc => (jB.1 hc).2) h
theorem res8 {g : Nat → Int} {n : Nat} {o : Int} {t : F} (ht : rawP (sg (strOf n g)) n o = some t) {y : Lab} {j : F} (hs : strip (F.one y j) = t) (p : Int) (h : Nat → Bool) (w : World) (hold : rsw.Old h w.heap.size) (hn : NdAt w (y, j)) (hT : Tab3 w) : Calls Tryz.prog 10 #[ndV y, .int .i64 p] w (SelfB h (ansP t p) w) := by
 obtain ⟨h1, h2, -, -⟩ := rawP_ok ht;subst hs;rw [ans_strip];exact fresolve_any h y j p w hold hn (okF_strip8.2 h1) (by
  rw [size_strip8] at h2;simp only [F.one, F.size] at h2;omega) hT
theorem sl_lit8 (w : World) (t : TypeId) (fr : Nat × Nat) (l : List Int) (hl : ∀ x ∈ l, 0 ≤ x ∧ x ≤ 255) (hn : l.length ≤ 140737488355328) : Sl (w.alloc (.cells (l.map (Value.int .u8)).toArray t fr)) (.slice (some ⟨w.heap.size, 0, none⟩) l.length l.length) l.length (at_ l) := by
 refine ⟨fun i => ?_, hn, Or.inr ⟨w.heap.size, 0, l.length, rfl, ⟨Nat.le_refl _, by omega⟩, fun i hi => ?_⟩⟩
 ·unfold at_;by_cases hi : i < l.length
  ·have : l.getD i 0 ∈ l := by rw [show l.getD i 0 = l[i] by simp [List.getD, hi]];exact List.getElem_mem hi
   exact hl _ this
  ·rw [show l.getD i 0 = 0 by simp [List.getD, Nat.not_lt.1 hi]];omega
 ·rw [cell_of_row _ _ _ _ _ _ (heap_alloc_new w _)];simp [at_, List.getD, hi]
theorem raw_lit8 (w : World) (l : List Int) (hl : ∀ x ∈ l, 0 ≤ x ∧ x ≤ 255) (hn : l.length ≤ 140737488355328) (o : Int) : Calls Tryz.prog 9 #[.slice (some ⟨w.heap.size, 0, none⟩) l.length l.length, .int .i64 o] (w.alloc (.cells (l.map (Value.int .u8)).toArray 5 (l.length, l.length + 1)))
 fun e w' => ∃ R, rawP (sg (strOf l.length (at_ l))) l.length o = R ∧ RawB R w e w' := by
 refine (raw_any _ l.length (at_ l) o _ (sl_lit8 w 5 _ l hl hn)).mono ?_;intro e w' h;exact ⟨_, rfl, trw.qi (trw.qg w _) h.1, h.2⟩
def lA : List Int := [97, 40, 63, 105, 41, 98, 124, 99]
def lB : List Int := [40, 63, 85, 41, 97, 42, 63]
def ckA : F → Bool
 | .cons x (.cons _ (.cons p _ (.cons q _ .nil)) (.cons z _ .nil)) .nil => decide (x.kind = 13) && decide (p.set.length = 1) && decide (q.set.length = 2) && decide (z.set.length = 2)
 | _ => false
def ckB : F → Bool
 | .cons x _ .nil => decide (x.kind = 20) && decide (x.mode = 0)
 | _ => false
theorem awk_A8 : (match rawP (sg (strOf 8 (at_ lA))) 8 0 with | some t => ckA (ansP t 0) | none => false) = true := by decide +kernel
theorem awk_B8 : (match rawP (sg (strOf 7 (at_ lB))) 7 0 with | some t => ckB (ansP t 0) | none => false) = true := by decide +kernel
theorem awk_some8 {n : Nat} {l : List Int} {R : F → Bool} (h : (match rawP (sg (strOf n (at_ l))) n 0 with | some t => R t | none => false) = true) : ∃ t, rawP (sg (strOf n (at_ l))) n 0 = some t ∧ R t = true := by
 cases e : rawP (sg (strOf n (at_ l))) n 0 with
 | none => rw [e] at h; cases h
 | some t => rw [e] at h; exact ⟨t, rfl, h⟩
theorem ckA_mem {w : World} {y : Lab} {j : F} (hn : NdAt w (y, j)) (h : ckA (strip (F.one y j)) = true) : y.kind = 13 ∧ ∃ b o c b2 o2 c2 a3 c3 a4 c4 a5 c5, y.kv = .slice (some ⟨b, o, none⟩) 2 c ∧ w.cell? ⟨b, o + 11, none⟩ = some (.slice (some ⟨b2, o2, none⟩) 2 c2) ∧
 w.cell? ⟨b2, o2 + 3, none⟩ = some (.slice a3 1 c3) ∧ w.cell? ⟨b2, o2 + 12 + 3, none⟩ = some (.slice a4 2 c4) ∧ w.cell? ⟨b, o + 12 + 3, none⟩ = some (.slice a5 2 c5) := by
 match j, hn, h with
 | .cons y1 (.cons p kp (.cons q kq .nil)) (.cons z kz .nil), hn, h =>
  simp only [F.one, strip, ckA, Bool.and_eq_true, decide_eq_true_eq] at h;obtain ⟨⟨⟨h1, h2⟩, h3⟩, h4⟩ := h;obtain ⟨a, cap, e1, e2, e3, e4⟩ := hn.2.2;rcases e4 with e4 | ⟨b, o, rfl, hf⟩
  ·simp [F.len] at e4
  obtain ⟨g1, -, ⟨a2, c2, k1, k2, k3, k4⟩, hz, ⟨-, a5, c5, m1, -⟩, -⟩ := hf;rcases k4 with k4 | ⟨b2, o2, rfl, p1, ⟨-, a3, c3, m3, -⟩, -, q1, ⟨-, a4, c4, m4, -⟩, -⟩
  ·simp [F.len] at k4
  refine ⟨h1, b, o, cap, b2, o2, c2, a3, c3, a4, c4, a5, c5, e1, ?_, ?_, ?_, ?_⟩
  ·exact (g1 11 _ rfl).trans (congrArg some k1)
  ·rw [← h2, ← m3]; exact p1 3 _ rfl
  ·rw [← h3, ← m4]; exact q1 3 _ rfl
  ·rw [← h4, ← m1]; exact hz 3 _ rfl
 | .nil, _, h => cases h
 | .cons y1 .nil _, _, h => cases h
 | .cons y1 (.cons p kp .nil) _, _, h => cases h
 | .cons y1 (.cons p kp (.cons q kq (.cons _ _ _))) _, _, h => cases h
 | .cons y1 (.cons p kp (.cons q kq .nil)) .nil, _, h => cases h
 | .cons y1 (.cons p kp (.cons q kq .nil)) (.cons z kz (.cons _ _ _)), _, h => cases h
theorem kidsNd {w w' : World} {t : Nd} (h : NdAt w t) (hb : Below w.heap.size w w') : NdAt w' t := qY (fun _ _ hc => trw.qf hb hc) h
theorem ckB_of {y : Lab} {j : F} (h : ckB (strip (F.one y j)) = true) : y.kind = 20 ∧ y.mode = 0 := by simp only [F.one, strip, ckB, Bool.and_eq_true, decide_eq_true_eq] at h;exact h
theorem tab_below8 {w w' : World} (hT : Tab3 w) (hb : Below w.heap.size w w') : Tab3 w' := fun i hi => trw.qf hb (hT i hi)
theorem awake_any8 (w : World) (hT : Tab3 w) : Calls Tryz.prog 8 #[] w (trw.BoolB true w) := by
 obtain ⟨tA, hA, cA⟩ := awk_some8 (n := 8) (l := lA) (R := fun t => ckA (ansP t 0)) awk_A8;obtain ⟨tB, hB, cB⟩ := awk_some8 (n := 7) (l := lB) (R := fun t => ckB (ansP t 0)) awk_B8;have L1 := xH (raw_lit8 w lA (by decide) (by decide) 0);have L3 := xH (fun w => raw_lit8 w lB (by decide) (by decide) 0);have HT := xH hT;have HA := xH hA;have HB := xH hB;have CA := xH cA;have CB := xH cB;clear hT hA hB cA cB;unfold lA at L1;unfold lB at L3;have kc := fun (w : World) (C : Array Value) (n c : Nat) => Lib.run_convert_bytes_const (P := Tryz.prog) w 22 5 C n c Tryz.underlying22 Tryz.underlying5
 go_enter Tryz.func8, Tryz.ntmps8;go_wp2_with fail
 refine L1.out.mono ?_;rintro e w1 ⟨R, hR, hb, h⟩;obtain rfl : some tA = R := HA.out.symm.trans hR;obtain ⟨y, j, rfl, hn, hs⟩ := h;have HB1 := xH hb;have HN := xH hn;have HS := xH hs;have HO := xH (qp hn);have HG := xH (heap_alloc_new w1 (.cells zC.toArray 27));unfold zC at HG;clear hb hn hs hR L1;dsimp only;go_upto_region 2 with (refine wpList_store_nw rfl rfl _ _ rfl w1.heap.size rfl _ y HG.out rfl HO.out rfl ?_; intro w2 h2; have HB2 := xH (show Below w1.heap.size w1 w2 from h2.out ▸ rpw.jU w1 _ _ _); have HG2 := xH (show w2.heap[w1.heap.size]? = some (.cells (ndC y).toArray 27 (0, 0)) from h2.out ▸ setRow_heap _ _ _ _ _ _ HG.out); clear h2)
 have HB02 := xH (trw.qi HB1.out HB2.out);have HR2 := xH (res8 HA.out HS.out 0 (fun _ => false) w2 (fun i hi => by cases hi) (kidsNd HN.out HB2.out) (tab_below8 HT.out HB02.out));go_wp2_with (refine ql rfl _ rfl w1.heap.size rfl y HG2.out ?_)
 refine HR2.out.mono ?_;rintro e w3 ⟨z, q, rfl, hn, hs, hb⟩;have HA3 := xH (show z.kind = 13 ∧ _ from ckA_mem (sees_none _ hn) (by rw [hs]; exact CA.out));have HB3 := xH (trw.qi HB02.out hb);have HO3 := xH (qp hn);have HG3 := xH (heap_alloc_new w3 (.cells zC.toArray 27));unfold zC at HG3;clear hn hs hb HG2 HG HO HR2 HN HS;dsimp only;go_upto_region 3 with (refine wpList_store_nw rfl rfl _ _ rfl w3.heap.size rfl _ z HG3.out rfl HO3.out rfl ?_; intro w4 h4; have HB4 := xH (show Below w3.heap.size w3 w4 from h4.out ▸ rpw.jU w3 _ _ _); have HG4 := xH (show w4.heap[w3.heap.size]? = some (.cells (ndC z).toArray 27 (0, 0)) from h4.out ▸ setRow_heap _ _ _ _ _ _ HG3.out); clear h4)
 have HB04 := xH (trw.qi HB3.out HB4.out);have L4 := xH (L3.out w4);go_wp2_with fail
 refine L4.out.mono ?_;rintro e w5 ⟨R, hR, hb, h⟩;obtain rfl : some tB = R := HB.out.symm.trans hR;obtain ⟨y', j', rfl, hn, hs⟩ := h;have HB5 := xH (trw.qi HB4.out hb);have HG5' := xH (trw.qi HB04.out hb);have HGR5 := xH hb;have HN := xH hn;have HS := xH hs;have HO := xH (qp hn);have HG := xH (heap_alloc_new w5 (.cells zC.toArray 27));unfold zC at HG;clear hb hn hs hR L3 L4 HG3 HO3;dsimp only;go_upto_region 4 with (refine wpList_store_nw rfl rfl _ _ rfl w5.heap.size rfl _ y' HG.out rfl HO.out rfl ?_; intro w6 h6; have HB6 := xH (show Below w5.heap.size w5 w6 from h6.out ▸ rpw.jU w5 _ _ _); have HG6 := xH (show w6.heap[w5.heap.size]? = some (.cells (ndC y').toArray 27 (0, 0)) from h6.out ▸ setRow_heap _ _ _ _ _ _ HG.out); clear h6)
 have HR6 := xH (res8 HB.out HS.out 0 (fun _ => false) w6 (fun i hi => by cases hi) (kidsNd HN.out HB6.out) (tab_below8 HT.out (trw.qi HG5'.out HB6.out)));go_wp2_with (refine ql rfl _ rfl w5.heap.size rfl y' HG6.out ?_)
 refine HR6.out.mono ?_;rintro e w7 ⟨z', q', rfl, hn, hs, hb⟩;have HC7 := xH (ckB_of (y := z') (j := q') (by rw [hs]; exact CB.out));have HB47 := xH (trw.qi (trw.qi HGR5.out HB6.out) hb);have HB37 := xH (trw.qi HB4.out HB47.out);have HB07 := xH (trw.qi HB3.out HB37.out);have HO7 := xH (qp hn);have HG7 := xH (heap_alloc_new w7 (.cells zC.toArray 27));unfold zC at HG7;clear hn hs hb HG6 HG HO HR6 HN HS HB6 HG5' HB5 HGR5;dsimp only;go_upto_region 5 with (refine wpList_store_nw rfl rfl _ _ rfl w7.heap.size rfl _ z' HG7.out rfl HO7.out rfl ?_; intro w8 h8; have HB8 := xH (show Below w7.heap.size w7 w8 from h8.out ▸ rpw.jU w7 _ _ _); have HG8 := xH (show w8.heap[w7.heap.size]? = some (.cells (ndC z').toArray 27 (0, 0)) from h8.out ▸ setRow_heap _ _ _ _ _ _ HG7.out); clear h8)
 obtain ⟨k13, b, o, c, b2, o2, c2, a3, c3, a4, c4, a5, c5, e1, m1, m2, m3, m4⟩ := HA3.out;obtain ⟨k20, k0⟩ := HC7.out;have H48 := trw.qi HB47.out HB8.out;have H38 := trw.qi HB37.out HB8.out;have HG48 := (H48.block _ (Array.getElem?_eq_some_iff.1 HG4.out).1).trans HG4.out;have n0 : w8.cell? ⟨w3.heap.size, 0, none⟩ = some (.int .i64 13) := by unfold World.cell?; rw [HG48, ← k13]; rfl
 have n11 : w8.cell? ⟨w3.heap.size, 11, none⟩ = some (.slice (some ⟨b, o, none⟩) 2 c) := by unfold World.cell?; rw [HG48, ← e1]; rfl
 have r0 : w8.cell? ⟨w7.heap.size, 0, none⟩ = some (.int .i64 20) := by unfold World.cell?; rw [HG8.out, ← k20]; rfl
 have r7 : w8.cell? ⟨w7.heap.size, 7, none⟩ = some (.int .i64 0) := by unfold World.cell?; rw [HG8.out]; exact congrArg (fun v => some (Value.int .i64 v)) k0
 have d1 := trw.qf H38 m1;have d2 := trw.qf H38 m2;have d3 := trw.qf H38 m3;have d4 := trw.qf H38 m4;have HB08 := xH (trw.qi HB07.out HB8.out);have a0 : ∀ (b o : Nat), (⟨b, o, none⟩ : Addr).add (0 * 12) = ⟨b, o, none⟩ := fun b o => by unfold Addr.add; split <;> simp_all
 have a1 : ∀ (b o : Nat), (⟨b, o, none⟩ : Addr).add (1 * 12) = ⟨b, o + 12, none⟩ := fun b o => by unfold Addr.add; split <;> simp_all
 clear k13 e1 m1 m2 m3 m4 k20 k0 H48 H38 HG48 HA3 HC7 HG8 HG7 HG4 HB8 HB07 HB37 HB47 HB4 HB3 HB04 HO7 HB02 HB1 HB2;generalize w3.heap.size = V3 at *;generalize w7.heap.size = V7 at *;go_wp2_with fail
 go_ret
 exact ⟨rfl, HB08.out⟩
end Go.Proofs.YtikjhfmmfpeaoaaGreatDoor.fll
end
section
namespace Go.Proofs.YtikjhfmmfpeaoaaGreatDoor.fll
open sq
open Go Go.RowKit Go.Maps utfw tkp trp trw rpp rsp rtp setw fgp fkw
open rpw (sees jB qh ql qp jm)
open ucdw (Tab3)
open tkw (sg)
theorem own_size8 (u : Bool) (m : Int) (x : Lab) (k : F) (f : Int) : (ownF u m x k f).size ≤ k.size + 6 := by
 unfold ownF
 repeat' split
 all_goals simp only [lineF, F.one, F.size, F.app, setL]
 all_goals omega
theorem app_size8 : ∀ f g : F, (F.app f g).size = f.size + g.size
 | .nil, g => by simp [F.app, F.size]
 | .cons x k r, g => by simp only [F.app, F.size, app_size8 r g];omega
theorem one_size8 (k : Int) (l : F) : (oneF k l).size ≤ l.size + 1 := by
 match l with
 | .nil => simp [oneF, F.size]
 | .cons x q .nil => simp [oneF, F.size]
 | .cons x q (.cons y p r) => simp [oneF, F.size]
theorem put_size8 (u : Bool) (m : Int) (rp : Int → F × Int) (rk : Int → F) (x : Lab) (f : Int) (z : Nat) (h1 : ∀ g, (rp g).1.size ≤ z) (h2 : ∀ g, (rk g).size ≤ z) : (putP u m rp rk x f).1.size ≤ z + 6 := by
 unfold putP;split
 ·simp [F.size]
 split
 ·have := h1 f; omega
 split
 ·have := h1 (turnI f x.on x.off); simp only; omega
 ·have := own_size8 u m x (rk f) f;have := h2 f;simp only;omega
theorem both_size8 (u : Bool) (m : Int) : ∀ (l : F) (f : Int), (bothP u m l f).1.1.size ≤ 7 * l.size ∧ (bothP u m l f).2.size ≤ 7 * l.size
 | .nil, _ => by simp [bothP, F.size]
 | .cons x k r, f => by rw [bothP];simp only [app_size8, F.size];have h1 := put_size8 u m (fun g => (bothP u m k g).1) (fun g => (bothP u m k g).2) x f (7 * k.size) (fun g => (both_size8 u m k g).1) (fun g => (both_size8 u m k g).2);have h2 := both_size8 u m r (putP u m (fun g => (bothP u m k g).1) (fun g => (bothP u m k g).2) x f).2;have h3 := one_size8 12 (putP u m (fun g => (bothP u m k g).1) (fun g => (bothP u m k g).2) x f).1;omega
theorem ans_size8 {g : Nat → Int} {n : Nat} {o : Int} {t : F} (ht : rawP (sg (strOf n g)) n o = some t) (p : Int) {z : Lab} {q : F} (hs : strip (F.one z q) = ansP t p) : q.size ≤ 100000 := by
 obtain ⟨-, h2, -, x, k, rfl⟩ := rawP_ok ht;have h4 : (F.one z q).size = (answerP (x, k) p).size := by rw [← size_strip8, hs]; rfl
 have h5 : (answerP (x, k) p).size ≤ 7 * k.size + 7 := by unfold answerP;refine Nat.le_trans (one_size8 _ _) ?_;have := put_size8 (decide (andI p 32 ≠ 0)) (if andI p 32 ≠ 0 then 1114111 else 255) (fun g => (bothP (decide (andI p 32 ≠ 0)) (if andI p 32 ≠ 0 then 1114111 else 255) k g).1) (fun g => (bothP (decide (andI p 32 ≠ 0)) (if andI p 32 ≠ 0 then 1114111 else 255) k g).2) x p (7 * k.size) (fun g => (both_size8 _ _ k g).1) (fun g => (both_size8 _ _ k g).2);simp only at this ⊢;omega
 simp only [F.one, F.size] at h2 h4;omega
end Go.Proofs.YtikjhfmmfpeaoaaGreatDoor.fll
end
section
namespace Go.Proofs.YtikjhfmmfpeaoaaGreatDoor.ext
open sq
open Go utfp ucdp setp prp tkp rtp
theorem has_inX (p : Pt) : ∀ (l : List UInt8) (i : Nat), p.has l i = true → l ≠ [] → i + l.length ≤ p.n
 | [], _, _, hl => absurd rfl hl
 | c :: l, i, e, _ => by
  rw [Pt.has] at e;simp only [Bool.and_eq_true, decide_eq_true_eq] at e;obtain ⟨⟨e1, e2⟩, e3⟩ := e;by_cases hl : l = []
  ·subst hl; simp only [List.length_cons, List.length_nil]; omega
  ·have := has_inX p l (i + 1) e3 hl;simp only [List.length_cons]; omega
end Go.Proofs.YtikjhfmmfpeaoaaGreatDoor.ext
end
section
namespace Go.Proofs.YtikjhfmmfpeaoaaGreatDoor.ext
open sq
open Go utfp ucdp setp prp tkp rtp
theorem char_lowX (p : Pt) {i : Nat} (hi : i < p.n) {c : Int} (h : p.g i = c) (h0 : 0 ≤ c) (h1 : c < 128) : p.char i = (c, i + 1) := by
 have hs : seqAt p.g p.n i = (c, 1) := by
  have hl : len0 (p.g i) = 1 := by rw [h]; unfold len0; rw [if_pos h1]
  have hw : wid (acc p.g i (head0 1) 0) = 1 := by show wid (p.g i - 0) = 1;rw [h];unfold wid;rw [if_neg (by omega), if_pos (by omega)]
  rw [seqAt_full (k := 0) hl (by decide) (by omega) (by decide) rfl, if_pos hw];show (p.g i - 0, (1 : Int)) = (c, 1);rw [h];simp
 unfold Pt.char nextP;rw [if_neg (by omega), Int.toNat_natCast];unfold stepv;rw [hs];split
 ·simp only [Prod.mk.injEq, true_and]; omega
 ·simp only [Prod.mk.injEq]; exact ⟨h, by omega⟩
end Go.Proofs.YtikjhfmmfpeaoaaGreatDoor.ext
end
section
namespace Go.Proofs.YtikjhfmmfpeaoaaGreatDoor.ext
open sq
open Go utfp tkp rtp trp rpp
def r0 : Ps := { i := 0 }
def finX (L : List Tk) (n : Int) (r : F × Ps) : R F :=
 if (if r.2.e = 0 ∧ r.2.i < L.length then failS r.2 31 (L.getD r.2.i zeroT).at_ else r.2).e = 20 then .error (20, n)
 else if (if r.2.e = 0 ∧ r.2.i < L.length then failS r.2 31 (L.getD r.2.i zeroT).at_ else r.2).e ≠ 0 then .error ((if r.2.e = 0 ∧ r.2.i < L.length then failS r.2 31 (L.getD r.2.i zeroT).at_ else r.2).e, (if r.2.e = 0 ∧ r.2.i < L.length then failS r.2 31 (L.getD r.2.i zeroT).at_ else r.2).at_)
 else .ok (oneF 13 r.1)
theorem parse_fin (L : List Tk) (n : Int) : parseP L n = finX L n (run L (3 * L.length + 3) (.alt .nil) r0) := rfl
theorem parse_run {L : List Tk} {n : Int} {f : F} (e : parseP L n = .ok f) : (run L (3 * L.length + 3) (.alt .nil) r0).2.e = 0 ∧ (run L (3 * L.length + 3) (.alt .nil) r0).2.i = L.length ∧ f = oneF 13 (run L (3 * L.length + 3) (.alt .nil) r0).1 := by
 have iv := (zq L (3 * L.length + 3) (.alt .nil) r0 (Nat.zero_le _) (Nat.zero_le _) (fun h => by cases h)).1;rw [parse_fin] at e;generalize run L (3 * L.length + 3) (.alt .nil) r0 = r at *;unfold finX at e;by_cases h1 : r.2.e = 0 ∧ r.2.i < L.length
 ·rw [if_pos h1] at e;have h31 : (failS r.2 31 (L.getD r.2.i zeroT).at_).e = 31 := by unfold failS; rw [if_pos h1.1]
  rw [h31, if_neg (by decide), if_pos (by decide)] at e;cases e
 ·rw [if_neg h1] at e;by_cases h2 : r.2.e = 20
  ·rw [if_pos h2] at e; cases e
  rw [if_neg h2] at e;by_cases h3 : r.2.e = 0
  ·rw [if_neg (by simp [h3])] at e;cases e;have := iv.n;exact ⟨h3, by omega, rfl⟩
  ·rw [if_pos h3] at e; cases e
end Go.Proofs.YtikjhfmmfpeaoaaGreatDoor.ext
end
section
namespace Go.Proofs.YtikjhfmmfpeaoaaGreatDoor.ext
open sq
open Go utfp tkp trp setp rtp rpp fgp rsp
structure TkC (t : Tk) : Prop where
 k : t.kind ≠ 3 ∧ t.kind ≠ 6
 n : t.kind = 2 → t.neg = false
 o : t.off = 0
def NoB (p : Pt) : Prop := ∀ i, i < p.n → 0 ≤ p.g i ∧ p.g i ≠ 94 ∧ p.g i ≠ 45 ∧ p.g i ≠ 46 ∧ p.g i ≠ 92
theorem char_isX {p : Pt} {i : Nat} (hi : i < p.n) (h0 : 0 ≤ p.g i) {c : Int} (h : (p.char i).1 = c) (hc : 0 ≤ c ∧ c < 128) : p.g i = c := by
 by_cases h1 : p.g i < 128
 ·rw [char_lowX p hi rfl h0 h1] at h;exact h
 exfalso;unfold Pt.char nextP at h;rw [if_neg (by omega), Int.toNat_natCast] at h;unfold stepv at h;split at h
 ·rename_i hu;have hu := hu.2;unfold seqAt at h hu;split at hu
  ·simp at hu
  rename_i h2;rw [if_neg h2] at h;split at hu
  ·rename_i h3;rw [if_pos h3] at h;have h := h;simp only at h;have hw : wid c = len0 (p.g i) := by rw [← h]; exact h3.2
   unfold wid at hw;rw [if_neg (by omega), if_pos (by omega)] at hw;have := len0_cases (p.g i);omega
  ·simp at hu
 ·simp only at h;omega
def GC (r : G) : Prop := ∀ t b, r = .ok (some t, b) → TkC t
theorem gc_err (e : Int × Int) : GC (.error e) := fun t b h => by cases h
theorem gc_none (b : Nat) : GC (.ok (none, b)) := fun t b h => by cases h
theorem gc_ite {c : Prop} [Decidable c] {a b : G} (h1 : GC a) (h2 : GC b) : GC (if c then a else b) := by
 split
 ·exact h1
 ·exact h2
theorem gc_tok {t : Tk} (h : TkC t) (f b : Nat) : GC (gtok t f b) := fun t' b' e => by
 unfold gtok at e;cases e;exact ⟨h.k, h.n, h.o⟩
theorem tc0 {t : Tk} (h : t.kind = 1 ∨ 7 ≤ t.kind ∨ t.kind = 4 ∨ t.kind = 5 := by first | omega | (dsimp only; omega)) (h2 : t.off = 0 := by rfl) : TkC t :=
 ⟨by omega, fun e => by omega, h2⟩
theorem quan_gc (p : Pt) (i to_ : Nat) (n m : Int) : GC (quan p i to_ n m) := gc_tok tc0 _ _
theorem clsR_gc {p : Pt} (h : NoB p) (f : Nat) : GC (clsR p f) := by
 have e : p.has [94] (f + 1) = false := by
  cases e : p.has [94] (f + 1) with
  | false => rfl
  | true =>
   exfalso;have hb : f + 1 + 1 ≤ p.n := has_inX _ _ _ e (by simp);rw [Pt.has] at e;simp only [Bool.and_eq_true, decide_eq_true_eq] at e;exact (h (f + 1) (by omega)).2.1 e.1.2
 unfold clsR;simp only;rw [e];split
 ·exact gc_err _
 ·exact gc_tok ⟨(by decide : (2 : Int) ≠ 3 ∧ (2 : Int) ≠ 6), fun _ => rfl, rfl⟩ _ _
theorem shutR_gc (p : Pt) {t : Tk} (ht : TkC t) (f i : Nat) (s : List UInt8) (e : Int) : GC (shutR p t f i s e) := by
 unfold shutR
 repeat' split
 all_goals first | exact gc_err _ | exact gc_tok ht _ _
theorem callR_gc (p : Pt) {t : Tk} (ht : TkC t) (f i : Nat) (s : List UInt8) : GC (callR p t f i s) := by
 unfold callR
 repeat' split
 all_goals first | exact gc_err _ | exact gc_tok (t := { t with name := p.sub i (p.name i).1 }) ⟨ht.k, ht.n, ht.o⟩ _ _
theorem flagR_gc {p : Pt} (h : NoB p) (f : Nat) : ∀ (k i : Nat) (on : Int), GC (flagR p f k i false on 0)
 | 0, _, _ => gc_err _
 | k + 1, i, on => by
  rw [flagR];by_cases h1 : p.n ≤ i
  ·rw [if_pos h1]; exact gc_err _
  rw [if_neg h1];refine gc_ite (gc_tok tc0 _ _) ?_;refine gc_ite (gc_tok tc0 _ _) ?_;rw [if_neg (h i (by omega)).2.2.1];refine gc_ite ?_ (gc_err _);rw [if_neg (by decide)];exact flagR_gc h f k _ _
theorem condE_gc (p : Pt) (f : Nat) {t : Tk} (ht : TkC t) (to_ : Nat) (ok : Bool) : GC (condE p f t to_ ok) := by
 unfold condE
 repeat' split
 all_goals first | exact gc_err _ | exact gc_tok ht _ _
theorem condR_gc (p : Pt) (f i : Nat) : GC (condR p f i) := by
 unfold condR condN
 repeat' (first | exact gc_err _ | exact condE_gc _ _ tc0 _ _ | exact gc_tok tc0 _ _ | refine gc_ite ?_ ?_ | split)
theorem verbG_gc (f i : Nat) (word arg : ByteArray) (wth : Bool) : GC (verbG f i word arg wth) := by
 unfold verbG;split
 ·exact gc_err _
 ·exact gc_tok tc0 _ _
theorem verbR_gc (p : Pt) (f : Nat) : GC (verbR p f) := by
 unfold verbR
 repeat' split
 all_goals first | exact gc_err _ | exact verbG_gc _ _ _ _ _
theorem kindR_gc (p : Pt) (f i : Nat) : ∀ (l : List (List UInt8 × Int)) (g : G), kindR p f i l = some g → GC g
 | [], g, h => by cases h
 | (s, k) :: l, g, h => by
  rw [kindR] at h;split at h
  ·cases h;exact gc_tok tc0 _ _
  ·exact kindR_gc p f i l g h
theorem numR_gc (p : Pt) (f i : Nat) : GC (numR p f i) := by
 have h1 := shutR_gc p (t := { kind := 12, n := (sgn p i).1, m := (sgn p i).2.1 }) tc0 f (sgn p i).2.2.1 [41] 26;unfold numR;simp only;split
 ·exact gc_err _
 split
 ·split
  ·exact gc_err _
  ·exact gc_err _
 split
 ·exact gc_err _
 ·rename_i r hr;split
  ·exact gc_err _
  ·rw [hr] at h1;exact h1
theorem openK_gc {p : Pt} (h : NoB p) (f i : Nat) : GC (openK p f i) := by
 unfold openK
 repeat' (first | exact gc_err _ | exact gc_none _ | exact condR_gc _ _ _ | exact numR_gc _ _ _ | exact flagR_gc h _ _ _ _ | exact shutR_gc _ tc0 _ _ _ _ | exact callR_gc _ tc0 _ _ _ | refine gc_ite ?_ ?_ | split)
theorem openR_gc {p : Pt} (h : NoB p) (f : Nat) : GC (openR p f) := by
 unfold openR;split
 ·exact verbR_gc _ _
 split
 ·exact gc_tok tc0 _ _
 split
 ·exact gc_err _
 split
 ·rename_i g hg;exact kindR_gc p f (f + 2) kindsT g hg
 ·exact openK_gc h _ _
theorem tokR_gc {p : Pt} (h : NoB p) {i : Nat} (hi : i < p.n) : GC (tokR p i) := by
 have n92 : (p.char i).1 ≠ 92 := fun e => (h i hi).2.2.2.2 (char_isX hi (h i hi).1 e (by decide))
 have n46 : (p.char i).1 ≠ 46 := fun e => (h i hi).2.2.2.1 (char_isX hi (h i hi).1 e (by decide))
 unfold tokR;simp only;rw [if_neg n92, if_neg n46]
 repeat' (first | exact gc_err _ | exact gc_none _ | exact clsR_gc h _ | exact openR_gc h _ | exact quan_gc _ _ _ _ _ | exact gc_tok tc0 _ _ | refine gc_ite ?_ ?_ | split)
theorem lexF_c {p : Pt} (h : NoB p) : ∀ (k : Nat) (q : Bool) (T : List Tk) (i : Nat) (R : List Tk), (∀ t ∈ T, TkC t) → lexF p k q T i = .ok R → ∀ t ∈ R, TkC t
 | 0, _, T, i, R, h2, e => by rw [lexF] at e;cases e;exact h2
 | k + 1, q, T, i, R, h2, e => by
  rw [lexF] at e;have snoc : ∀ x : Tk, TkC x → ∀ t ∈ T ++ [x], TkC t := fun x hx t ht => by
   rcases List.mem_append.1 ht with ht | ht
   ·exact h2 t ht
   ·simp only [List.mem_cons, List.not_mem_nil, or_false] at ht;subst ht;exact hx
  by_cases hi : p.n ≤ i
  ·rw [if_pos hi] at e;cases e;exact h2
  rw [if_neg hi] at e;split at e
  ·split at e
   ·exact lexF_c h k _ _ _ _ h2 e
   ·exact lexF_c h k _ _ _ _ (snoc (lay { kind := 1, c := (p.char i).1 } i (p.char i).2) ⟨(by decide : (1 : Int) ≠ 3 ∧ (1 : Int) ≠ 6), fun _ => rfl, rfl⟩) e
  split at e
  ·exact lexF_c h k _ _ _ _ h2 e
  split at e
  ·cases e
  ·exact lexF_c h k _ _ _ _ h2 e
  ·rename_i t to_ ht;exact lexF_c h k _ _ _ _ (snoc _ (tokR_gc h (by omega) t to_ ht)) e
end Go.Proofs.YtikjhfmmfpeaoaaGreatDoor.ext
end
