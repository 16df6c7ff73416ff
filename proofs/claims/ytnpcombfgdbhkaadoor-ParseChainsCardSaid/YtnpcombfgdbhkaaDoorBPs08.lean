/- T -/
import Derived.BigQuiet
import Derived.Deep.DeepCutAuto
import Derived.Deep.QuietTactic
import Derived.Deep.RegionHeld3
import Derived.IntWalk
import Derived.Maps.AppendAt
import Derived.Test.YtnpcombfgdbhkaaDoorBPs07
set_option maxHeartbeats 16000000
set_option maxRecDepth 1000000
section
namespace Go.Proofs.YtnpcombfgdbhkaaDoor.tkw
open sq
open Go Go.RowKit Go.Maps utfp utfw ucdp setp setw prp tkp
theorem char_val {p : Pt} (hg : ∀ i, 0 ≤ p.g i ∧ p.g i ≤ 255) {a : Nat} (_ha : a ≤ p.n) : -1 ≤ (p.char a).1 ∧ (p.char a).1 ≤ 1114111 := by
 unfold Pt.char nextP;split
 ·exact ⟨Int.le_refl _, by simp⟩
 ·unfold stepv;simp only [Int.toNat_natCast];split
  ·rename_i h;obtain ⟨_, h⟩ := h;unfold seqAt at h ⊢;by_cases h1 : len0 (p.g a) = 0 ∨ (p.n : Int) - a < len0 (p.g a)
   ·rw [if_pos h1] at h;exact absurd h (by decide)
   ·rw [if_neg h1] at h ⊢;by_cases h2 : conts p.g a (len0 (p.g a) - 1).toNat = true ∧ wid (acc p.g a (head0 (len0 (p.g a))) (len0 (p.g a) - 1).toNat) = len0 (p.g a)
    ·rw [if_pos h2] at h ⊢;have := wid_cases (acc p.g a (head0 (len0 (p.g a))) (len0 (p.g a) - 1).toNat);simp only at h ⊢;omega
    ·rw [if_neg h2] at h;exact absurd h (by decide)
  ·have := hg a;simp only;omega
end Go.Proofs.YtnpcombfgdbhkaaDoor.tkw
end
section
namespace Go.Proofs.YtnpcombfgdbhkaaDoor.tkw
open sq
open Go Go.RowKit Go.Maps utfp utfw ucdp setp setw prp tkp
theorem ownR_new {w : World} {b0 B : Nat} {x y : Int} (hb : b0 ≤ B) (hB : B = w.heap.size) : OwnR (w.alloc (.cells #[.int .i64 x, .int .i64 y] 75)) b0 (.slice (some ⟨B, 0, none⟩) 1 1) [(x, y)] := by subst hB;refine ⟨⟨rfl, Or.inr ⟨w.heap.size, 1, #[.int .i64 x, .int .i64 y], rfl, hb, heap_alloc_new w _, Nat.le_refl _, by decide, rfl, rfl⟩⟩, fun h => absurd h (by simp)⟩
end Go.Proofs.YtnpcombfgdbhkaaDoor.tkw
end
section
namespace Go.Proofs.YtnpcombfgdbhkaaDoor.tkw
open sq
open Go Go.RowKit Go.Maps utfp utfw ucdp setp setw prp tkp
theorem insR_len : ∀ (a b : Int) (S : List Rg), (insR a b S).length ≤ S.length + 1
 | _, _, [] => by simp [insR]
 | a, b, r :: S => by
  unfold insR;split
  ·simp
  ·split
   ·have := insR_len a b S;simp only [List.length_cons];omega
   ·have := insR_len (min a r.1) (max b r.2) S;simp only [List.length_cons];omega
theorem yg (m : Int) : ∀ l : List Rg, (normR m l).length ≤ l.length
 | [] => Nat.le_refl _
 | r :: l => by
  have := yg m l;have h2 := insR_len (max r.1 0) (min r.2 m) (normR m l);unfold normR;split
  ·simp only [List.length_cons];omega
  ·simp only [List.length_cons];omega
theorem notF_len (m : Int) : ∀ (S : List Rg) (lo : Int), (notF m lo S).length ≤ S.length + 1
 | [], lo => by unfold notF addP;split <;> simp
 | r :: S, lo => by
  have := notF_len m S (r.2 + 1);unfold notF;split
  ·simp only [List.length_cons];omega
  ·simp only [List.length_cons];omega
theorem lookP_len (n : ByteArray) {k : Nat} : ∀ {M : List (ByteArray × List Rg)}, (∀ p ∈ M, p.2.length ≤ k) → (lookP M n []).length ≤ k
 | [], _ => Nat.zero_le _
 | (b, R) :: M, h => by
  unfold lookP;split
  ·exact h (b, R) (List.mem_cons_self ..)
  ·exact lookP_len n fun p hp => h p (List.mem_cons_of_mem _ hp)
theorem posixP_len (n : ByteArray) : (jC n).length ≤ 93 := lookP_len n fun p hp => by
 have := List.all_eq_true.1 (show (posix.all fun p => decide (p.2.length ≤ 93)) = true by decide +kernel) p hp;simpa using this
theorem escP_len (c : Int) : (escP c).length ≤ 93 := by
 unfold escP
 repeat' split
 all_goals simp
theorem has_lt {p : Pt} {c : UInt8} {l : List UInt8} {a : Nat} (h : p.has (c :: l) a = true) : a < p.n := by unfold Pt.has at h;simp only [Bool.and_eq_true, decide_eq_true_eq] at h;exact h.1.1
def Ch (t : Tk) : Prop := -1 ≤ t.c ∧ t.c ≤ 16777216
theorem jb {w : World} {ops : Array Oper} {rest : List Oper} {o : Oper} {a : Act} {Q : Exit → Act → World → Prop} (hgd : o.guard = none) (s x : Operand)
 (ho : o.op = .call { callee := .builtin .append, args := #[s, x], argTypes := #[28, 28] }) (base : Nat) (v : Value) (D : List Rg) (hs : a.eval s = v) (hown : OwnR w base v D)
 (b2 : Nat) (v2 : Value) (N : List Rg) (hx : a.eval x = v2) (hN : OwnR w b2 v2 N) (hlen : D.length ≤ 100000000) (hlen2 : N.length ≤ 100000000) (hbase : base ≤ w.heap.size)
 (h : ∀ v' w', OwnR w' base v' (D ++ N) → w.grownBy w' v.ownBlock → wpList Tryd.prog ops Q rest (a.put o.dst v') w') :
 wpList Tryd.prog ops Q (o :: rest) a w := by
 obtain ⟨i0, hi, hz0, hz1, hz2⟩ := info_parts infoRange;by_cases hE : N = []
 ·subst hE;refine wpList_append_own_none hgd s x _ ho base 75 i0 2 Tryd.underlying28 hi v _ _ hs hown.1 (hx.trans (hN.2 rfl)) ?_;refine h v w ?_ ⟨rfl, rfl, rfl, Nat.le_refl _, fun _ _ _ => rfl⟩;simpa using hown
 ·obtain ⟨hl, ⟨_, h0⟩ | ⟨g, cap, cur, rfl, hg0, hgb, hc1, hc2, hc3, hc4⟩⟩ := hN.1
  ·exact absurd (List.length_eq_zero_iff.1 h0) hE
  ·have hcells := World.ownsRow.cells hN.1 (g := g) rfl;refine wpList_append_own_at w hgd s x _ ho base 75 i0 (.agg #[.int .i64 0, .int .i64 0]) 2 16 Tryd.underlying28 hi hz0 hz1 hz2 rfl (by decide) v _ _ hs hown.1 ⟨g, 0, none⟩ N.length cap (rcs N) hx hl hcells ?_ (by unfold maxLen; omega) (by omega) hbase ?_
   ·intro u hu;unfold rcs at hu;obtain ⟨r, _, hr⟩ := List.mem_flatMap.1 hu;simp only [List.mem_cons, List.not_mem_nil, or_false] at hr;rcases hr with rfl | rfl <;> rfl
   ·intro v' w' hown' hgr hnil _;refine h v' w' ⟨?_, fun hD => ?_⟩ hgr
    ·have e : rcs (D ++ N) = rcs D ++ rcs N := by simp [rcs]
     rw [e];simpa using hown'
    ·exact absurd (List.append_eq_nil_iff.1 hD).2 hE
end Go.Proofs.YtnpcombfgdbhkaaDoor.tkw
end
section
namespace Go.Proofs.YtnpcombfgdbhkaaDoor.tkw
open sq
open Go Go.RowKit Go.Maps utfp utfw ucdp setp setw prp tkp
structure Poke (g : Nat) (w w' : World) : Prop where
 os : w'.os = w.os
 tape : w'.tape = w.tape
 output : w'.output = w.output
 size : w.heap.size ≤ w'.heap.size
 other : ∀ k, k ≠ g → w'.heap[k]? = w.heap[k]?
theorem Poke.trans {g : Nat} {a b c : World} (h : Poke g a b) (k : Poke g b c) : Poke g a c := ⟨k.os.trans h.os, k.tape.trans h.tape, k.output.trans h.output, Nat.le_trans h.size k.size, fun i hi => (k.other i hi).trans (h.other i hi)⟩
theorem Kept.poke {L B g : Nat} {a w w' : World} (h : Kept B L a w) (hp : Poke g w w') (hg : B ≤ g) : Kept B L a w' := h.trans ⟨hp.os, hp.tape, hp.output, hp.size, fun k hk _ => hp.other k (by omega)⟩
end Go.Proofs.YtnpcombfgdbhkaaDoor.tkw
end
section
namespace Go.Proofs.YtnpcombfgdbhkaaDoor.tkw
open sq
open Go Go.RowKit Go.Maps utfp utfw ucdp setp setw prp tkp
theorem optV_lt (c : Int) : optV c < 32 := by
 unfold optV
 repeat' split
 all_goals decide
theorem bits_or {x y : Nat} (hx : x < 32) (hy : y < 32) : bits BinOp.or IntKind.i64 (x : Int) (y : Int) = ((x ||| y : Nat) : Int) := by
 have h : ((List.range 32).all fun x => (List.range 32).all fun y => decide (bits BinOp.or IntKind.i64 (x : Int) (y : Int) = ((x ||| y : Nat) : Int))) = true := by decide +kernel
 have h2 := List.all_eq_true.1 (List.all_eq_true.1 h x (List.mem_range.2 hx)) y (List.mem_range.2 hy);exact of_decide_eq_true h2
end Go.Proofs.YtnpcombfgdbhkaaDoor.tkw
end
section
namespace Go.Proofs.YtnpcombfgdbhkaaDoor.tkw
open sq
open Go Go.RowKit Go.Maps utfp utfw ucdp setp setw prp tkp
theorem qy {s : ByteArray} {l : List UInt8} (h : ¬ s = ⟨l.toArray⟩) : (s.toList == l) = false := by
 have e : (⟨l.toArray⟩ : ByteArray).toList = l := by rw [Lib.toList_data]
 have := prw.beqS s ⟨l.toArray⟩;rw [e] at this;rw [this];simpa using h
theorem jR {s : ByteArray} {l : List UInt8} (h : s = ⟨l.toArray⟩) : (s.toList == l) = true := by
 have e : (⟨l.toArray⟩ : ByteArray).toList = l := by rw [Lib.toList_data]
 have := prw.beqS s ⟨l.toArray⟩;rw [e] at this;rw [this];simpa using h
theorem emp_n {s : ByteArray} (h : ¬ s = ⟨#[]⟩) : s.toList.isEmpty = false := by
 have := qy (l := []) h;cases hs : s.toList with
 | nil => rw [hs] at this; exact absurd this (by decide)
 | cons x l => rfl
theorem emp_y {s : ByteArray} (h : s = ⟨#[]⟩) : s.toList.isEmpty = true := by subst h;rw [show (⟨#[]⟩ : ByteArray).toList = [] from Lib.toList_data _];rfl
end Go.Proofs.YtnpcombfgdbhkaaDoor.tkw
end
section
namespace Go.Proofs.YtnpcombfgdbhkaaDoor.tkp
open sq
open Go utfp ucdp setp prp tkw
def Kd (t : Tk) : Prop := 1 ≤ t.kind ∧ t.kind ≤ 15
end Go.Proofs.YtnpcombfgdbhkaaDoor.tkp
end
section
namespace Go.Proofs.YtnpcombfgdbhkaaDoor.tkp
open sq
open Go utfp ucdp setp prp tkw
theorem has_one {p : Pt} {c : UInt8} {a : Nat} : p.has [c] a = (decide (a < p.n) && decide (p.g a = (c.toNat : Int))) := by simp [Pt.has]
end Go.Proofs.YtnpcombfgdbhkaaDoor.tkp
end
section
namespace Go.Proofs.YtnpcombfgdbhkaaDoor.tkp
open sq
open Go utfp ucdp setp prp tkw
theorem run_stop {p : Pt} {fits : Int → Bool} : ∀ {l k a : Nat}, (∀ i, i < l → a + i < p.n ∧ fits (p.g (a + i)) = true) → (a + l = p.n ∨ fits (p.g (a + l)) = false) → l ≤ k → p.run fits k a = a + l
 | 0, k, a, _, h, _ => by
  cases k with
  | zero => rfl
  | succ k =>
   unfold Pt.run;rw [if_neg]
   ·rfl
   ·rcases h with h | h
    ·simp only [Bool.and_eq_true, decide_eq_true_eq]; omega
    ·rw [show fits (p.g a) = false from h]; simp
 | l + 1, k, a, h1, h2, h3 => by obtain ⟨k, rfl⟩ : ∃ q, k = q + 1 := ⟨k - 1, by omega⟩;have h0 := h1 0 (by omega);unfold Pt.run;rw [if_pos (by simp only [Bool.and_eq_true, decide_eq_true_eq]; exact ⟨h0.1, h0.2⟩)];rw [run_stop (l := l) (k := k) (a := a + 1) (fun i hi => by have := h1 (i + 1) (by omega); rwa [show a + 1 + i = a + (i + 1) by omega]) (by rwa [show a + 1 + l = a + (l + 1) by omega]) (by omega)];omega
end Go.Proofs.YtnpcombfgdbhkaaDoor.tkp
end
section
namespace Go.Proofs.YtnpcombfgdbhkaaDoor.rtw
open sq
open Go Go.RowKit Go.Maps utfp utfw ucdp setp setw prp tkp rtp
open tkw (sg sg_bd vJ jM qK tkR qO qM vI)
theorem gb {S : ByteArray} {p : Pt} (h : Pat S p) : ∀ (i : Nat) (hi : i < S.size), ((S[i]'hi).toNat : Int) = p.g i := by
 intro i hi;rw [pat_g h i];have : i < S.data.toList.length := by rw [Array.length_toList]; exact hi
 rw [show S.data.toList.getD i 0 = S.data.toList[i] by rw [List.getD, List.getElem?_eq_getElem this]; rfl, Array.getElem_toList];rfl
theorem jS {S : ByteArray} {p : Pt} (h : Pat S p) (i : Nat) : 0 ≤ p.g i ∧ p.g i ≤ 255 := by rw [h.g]; exact sg_bd S i
def Same (v : Value) (w : World) (e : Ending) (w' : World) : Prop := e = .returned v ∧ w = w'
theorem digit_any (c : Int) (w : World) (_h0 : 0 ≤ c) (_h1 : c ≤ 255) : Calls Tryd.prog 66 #[.int .u8 c] w (Same (.bool (isDig c)) w) := by
 by_cases a : 48 ≤ c
 ·by_cases b : c ≤ 57
  ·have HR := xH (show isDig c = true by simp [isDig, a, b]);go_enter Tryd.func66, Tryd.ntmps66
   go_wp2
   go_ret
   rw [HR.out];exact ⟨rfl, rfl⟩
  ·have HR := xH (show isDig c = false by simp [isDig, b]);go_enter Tryd.func66, Tryd.ntmps66
   go_wp2
   go_ret
   rw [HR.out];exact ⟨rfl, rfl⟩
 ·have HR := xH (show isDig c = false by simp [isDig, a]);go_enter Tryd.func66, Tryd.ntmps66
  go_wp2
  go_ret
  rw [HR.out];exact ⟨rfl, rfl⟩
theorem letter_any (c : Int) (w : World) (h0 : 0 ≤ c) (h1 : c ≤ 255) : Calls Tryd.prog 59 #[.int .u8 c] w (Same (.bool (isLet c)) w) := by
 by_cases a : 97 ≤ c
 ·by_cases b : c ≤ 122
  ·have HR := xH (show isLet c = true by simp [isLet, a, b]);go_enter Tryd.func59, Tryd.ntmps59
   go_wp2
   go_ret
   rw [HR.out];exact ⟨rfl, rfl⟩
  ·have HR := xH (show isLet c = false by simp [isLet, b]; omega);have d : ¬ c ≤ 90 := by omega
   have d2 : 65 ≤ c := by omega
   go_enter Tryd.func59, Tryd.ntmps59
   go_wp2
   go_ret
   rw [HR.out];exact ⟨rfl, rfl⟩
 ·by_cases b : 65 ≤ c
  ·by_cases d : c ≤ 90
   ·have HR := xH (show isLet c = true by simp [isLet, b, d]);go_enter Tryd.func59, Tryd.ntmps59
    go_wp2
    go_ret
    rw [HR.out];exact ⟨rfl, rfl⟩
   ·have HR := xH (show isLet c = false by simp [isLet, a, d]);go_enter Tryd.func59, Tryd.ntmps59
    go_wp2
    go_ret
    rw [HR.out];exact ⟨rfl, rfl⟩
  ·have HR := xH (show isLet c = false by simp [isLet, a, b]);go_enter Tryd.func59, Tryd.ntmps59
   go_wp2
   go_ret
   rw [HR.out];exact ⟨rfl, rfl⟩
def hexN (c : Int) : Int := if zn c = true then hexV c else -1
def simN (c : Int) : Int := if ji c = 0 then -1 else ji c
theorem isHexd_dig {c : Int} (h : isDig c = true) : zn c = true := by simp [zn, h]
theorem dig_bd {c : Int} : isDig c = true ↔ 48 ≤ c ∧ c ≤ 57 := by simp [isDig]
theorem hex_any (c : Int) (w : World) (h0 : 0 ≤ c) (h1 : c ≤ 255) : Calls Tryd.prog 77 #[.int .u8 c] w (Same (.int .i64 (hexN c)) w) := by
 have D := xH (digit_any c w h0 h1);cases hd : isDig c with
 | true =>
  have := dig_bd.1 hd;have HR := xH (show hexN c = c - 48 by unfold hexN; rw [if_pos (isHexd_dig hd)]; unfold hexV; rw [if_pos this.2]);rw [hd] at D;clear hd;go_enter Tryd.func77, Tryd.ntmps77;go_wp2_with fail
  refine D.out.mono ?_;rintro e w1 ⟨rfl, rfl⟩
  go_wp2
  go_ret
  rw [HR.out];exact ⟨rfl, rfl⟩
 | false =>
  rw [hd] at D;have hnd : ¬ (48 ≤ c ∧ c ≤ 57) := fun e => by rw [dig_bd.2 e] at hd; cases hd
  by_cases a : 97 ≤ c ∧ c ≤ 102
  ·obtain ⟨a1, a2⟩ := a;have HR := xH (show hexN c = c - 97 + 10 by unfold hexN; rw [if_pos (by simp [zn, a1, a2])]; unfold hexV; rw [if_neg (by omega), if_neg (by omega)]; omega);clear hd hnd;go_enter Tryd.func77, Tryd.ntmps77;go_wp2_with fail
   refine D.out.mono ?_;rintro e w1 ⟨rfl, rfl⟩
   go_wp2
   go_ret
   rw [HR.out];exact ⟨rfl, rfl⟩
  ·by_cases b : 65 ≤ c ∧ c ≤ 70
   ·obtain ⟨a1, a2⟩ := b;have a3 : ¬ 97 ≤ c := by omega
    have HR := xH (show hexN c = c - 65 + 10 by unfold hexN; rw [if_pos (by simp [zn, a1, a2])]; unfold hexV; rw [if_neg (by omega), if_pos (by omega)]; omega);clear hd hnd a;go_enter Tryd.func77, Tryd.ntmps77;go_wp2_with fail
    refine D.out.mono ?_;rintro e w1 ⟨rfl, rfl⟩
    go_wp2
    go_ret
    rw [HR.out];exact ⟨rfl, rfl⟩
   ·have HR := xH (show hexN c = -1 by unfold hexN; rw [if_neg (by simp [zn, hd]; omega)]);rcases (show (c < 65) ∨ (70 < c ∧ c < 97) ∨ (102 < c) by omega) with x | ⟨x, y⟩ | x
    all_goals
     clear hd hnd a b;go_enter Tryd.func77, Tryd.ntmps77;go_wp2_with fail
     refine D.out.mono ?_;rintro e w1 ⟨rfl, rfl⟩
     go_wp2
     go_ret
     rw [HR.out];exact ⟨rfl, rfl⟩
theorem simple_any (c : Int) (w : World) : Calls Tryd.prog 53 #[.int .i64 c] w (Same (.int .i64 (simN c)) w) := by
 by_cases h : c = 97 ∨ c = 101 ∨ c = 102 ∨ c = 110 ∨ c = 114 ∨ c = 116
 ·rcases h with rfl | rfl | rfl | rfl | rfl | rfl
  all_goals
   go_enter Tryd.func53, Tryd.ntmps53
   go_wp2
   go_ret
   exact ⟨rfl, rfl⟩
 ·have h1 : ¬ c = 97 := by omega
  have h2 : ¬ c = 101 := by omega
  have h3 : ¬ c = 102 := by omega
  have h4 : ¬ c = 110 := by omega
  have h5 : ¬ c = 114 := by omega
  have h6 : ¬ c = 116 := by omega
  have HR := xH (show simN c = -1 by simp [simN, ji, h1, h2, h3, h4, h5, h6]);clear h;go_enter Tryd.func53, Tryd.ntmps53
  go_wp2
  go_ret
  rw [HR.out];exact ⟨rfl, rfl⟩
theorem assert_any (c : Int) (w : World) : Calls Tryd.prog 55 #[.int .i64 c] w (Same (.int .i64 (vZ c)) w) := by
 by_cases h : c = 98 ∨ c = 66 ∨ c = 65 ∨ c = 122 ∨ c = 90 ∨ c = 71
 ·rcases h with rfl | rfl | rfl | rfl | rfl | rfl
  all_goals
   go_enter Tryd.func55, Tryd.ntmps55
   go_wp2
   go_ret
   exact ⟨rfl, rfl⟩
 ·have h1 : ¬ c = 98 := by omega
  have h2 : ¬ c = 66 := by omega
  have h3 : ¬ c = 65 := by omega
  have h4 : ¬ c = 122 := by omega
  have h5 : ¬ c = 90 := by omega
  have h6 : ¬ c = 71 := by omega
  have HR := xH (show vZ c = 0 by simp [vZ, h1, h2, h3, h4, h5, h6]);clear h;go_enter Tryd.func55, Tryd.ntmps55
  go_wp2
  go_ret
  rw [HR.out];exact ⟨rfl, rfl⟩
end Go.Proofs.YtnpcombfgdbhkaaDoor.rtw
end
section
namespace Go.Proofs.YtnpcombfgdbhkaaDoor.rtw
open sq
open Go Go.RowKit Go.Maps utfp utfw ucdp setp setw prp tkp rtp
open tkw (sg sg_bd vJ jM qK tkR qO qM vI)
def numV (v : Int) : Int := if 255 < v then 1000 else v
theorem val_in {p : Pt} {a : Nat} : ∀ {l : Nat}, (∀ i, i < l → a + i < p.n ∧ isDig (p.g (a + i)) = true) → 0 ≤ p.val a l ∧ p.val a l ≤ 256
 | 0, _ => by simp [Pt.val]
 | l + 1, h => by
  have ih := val_in (l := l) fun i hi => h i (by omega)
  have := dig_bd.1 (h l (by omega)).2;unfold Pt.val;omega
theorem num_of {p : Pt} {a l : Nat} (hp : p.n ≤ 1000) (h : ∀ i, i < l → a + i < p.n ∧ isDig (p.g (a + i)) = true) (hs : a + l = p.n ∨ isDig (p.g (a + l)) = false) : num p a = (numV (p.val a l), a + l, decide (255 < p.val a l)) := by
 have hl : l ≤ 1000 := by
  rcases l with _ | l
  ·omega
  ·have := (h l (by omega)).1; omega
 have hr : p.run isDig 1000 a = a + l := run_stop h hs hl;unfold num Pt.digits numV;rw [hr, Nat.add_sub_cancel_left]
theorem numV_in {v : Int} (h0 : 0 ≤ v) (h1 : v ≤ 256) : 0 ≤ numV v ∧ numV v ≤ 1000 := by unfold numV; split <;> omega
def NumRel (w : World) (B : Nat) (S : ByteArray) (p : Pt) (a : Nat) (vi vn vg : Value) (wr : World) : Prop :=
 ∃ l : Nat, a + l ≤ S.size ∧ Hid (∀ i, i < l → a + i < p.n ∧ isDig (p.g (a + i)) = true) ∧ vi = .int .i64 ((a + l : Nat) : Int) ∧ vn = .int .i64 (numV (p.val a l)) ∧ vg = .bool (decide (255 < p.val a l)) ∧ FR w B S p wr
theorem vY (S : ByteArray) (p : Pt) (w : World) (hP : Pat S p) (a : Nat) (ha : a ≤ p.n) : Calls Tryd.prog 38 #[txV S p, .int .i64 a] w (fun e w' => e = .returned (.tuple #[.int .i64 (num p a).1, .int .i64 ((num p a).2.1 : Nat), .bool (num p a).2.2]) ∧ Below w.heap.size w w') := by
 have hn := hP.n;have h2 := hP.le;rw [hn] at ha;have HP := xH hP;have HN := xH hn;unfold txV txC;clear hP hn;go_enter Tryd.func38, Tryd.ntmps38;go_upto_region 1 with (fail)
 generalize hW : (w.alloc _) = W;have F0 := xH (zG (S := S) (p := p) hW);obtain ⟨B, hB⟩ : ∃ B, w.heap.size = B := ⟨_, rfl⟩;rw [hB] at F0 ⊢;clear hW hB;go_wp2_with fail
 go_loopw [1, 7, 8] (fun vi vn vg wr => NumRel w B S p a vi vn vg wr) (fun vi _ _ _ => S.size - (intOf vi).toNat)
 case atStart => exact ⟨0, ha, xH (fun i h => absurd h (Nat.not_lt_zero i)), rfl, rfl, rfl, F0.out⟩
 case round =>
  obtain ⟨l, hl, hd, rfl, rfl, rfl, hF⟩ := hrel;have F1 := xH hF;clear hF;obtain ⟨c0, c1, c2, c3⟩ := F1.out.c;have hgb := gb HP.out;have HV := xH (val_in hd.out);obtain ⟨hv0, hv1⟩ := numV_in HV.out.1 HV.out.2;by_cases hlt : a + l < S.size
  ·have hbd := jS HP.out (a + l);generalize hVV : numV (p.val a l) = V at *;have HVV := xH hVV;clear hVV;go_wp2_with fail
   refine (digit_any _ _ hbd.1 hbd.2).mono ?_;rintro e w1 ⟨rfl, rfl⟩;cases hdg : isDig (p.g (a + l)) with
   | false =>
    go_wp2_with fail
    go_ret3
    rw [num_of (l := l) (by rw [HN.out]; exact h2) hd.out (Or.inr hdg), HVV.out];exact ⟨rfl, F1.out.bel⟩
   | true =>
    have h10 := dig_bd.1 hdg;have HD := xH (show ∀ i, i < l + 1 → a + i < p.n ∧ isDig (p.g (a + i)) = true from fun i hi => by
     by_cases e : i = l
     ·subst e; exact ⟨by rw [HN.out]; exact hlt, hdg⟩
     ·exact hd.out i (by omega))
    have hvs : p.val a (l + 1) = min (p.val a l * 10 + (p.g (a + l) - 48)) 256 := rfl;have HVS := xH hvs;clear hvs;obtain ⟨hb0, hb1⟩ := hbd;obtain ⟨hb2, hb3⟩ := h10;go_wp2_with fail
    ·rename_i hx;refine ⟨⟨l + 1, by omega, HD, rfl, ?_, ?_, F1.out⟩, by simp only [intOf]; omega⟩
     ·have h1 := HV.out;have h2 := HVS.out;have h3 := HVV.out;rw [show numV (p.val a (l + 1)) = 1000 by unfold numV at h3 ⊢; split at h3 <;> rw [if_pos] <;> omega]
     ·have h1 := HV.out;have h2 := HVS.out;have h3 := HVV.out;rw [decide_eq_true];unfold numV at h3;split at h3 <;> omega
    ·rename_i hx;have h1 := HV.out;have h2 := HVS.out;have h3 := HVV.out;have h4 : p.val a l ≤ 255 := by unfold numV at h3; split at h3 <;> omega
     have h5 : V = p.val a l := by unfold numV at h3; rw [if_neg (by omega)] at h3; exact h3.symm
     refine ⟨⟨l + 1, by omega, HD, rfl, ?_, ?_, F1.out⟩, by simp only [intOf]; omega⟩
     ·rw [show numV (p.val a (l + 1)) = V * 10 + p.g (a + l) - 48 by unfold numV; rw [if_neg (by omega)]; omega]
     ·rw [decide_eq_false (by omega), decide_eq_false (by omega)]
  ·go_wp2_with fail
   go_ret3
   rw [num_of (l := l) (by rw [HN.out]; exact h2) hd.out (Or.inl (by rw [HN.out]; omega))];exact ⟨rfl, F1.out.bel⟩
end Go.Proofs.YtnpcombfgdbhkaaDoor.rtw
end
section
namespace Go.Proofs.YtnpcombfgdbhkaaDoor.setw
open sq
open Go Go.RowKit bulk ucdp ucdw setp
theorem join2_any (v1 v2 : Value) (l1 l2 : List Rg) (most : Int) (w : World) (hv1 : RsAt w v1 l1) (hv2 : RsAt w v2 l2) (hl1 : l1.length ≤ 100000) (hl2 : l2.length ≤ 100000) (h1 : -9223372036854775808 ≤ most) (h2 : most ≤ 9223372036854775807) :
 Calls Tryd.prog 87 #[.int .i64 2, v1, v2, .int .i64 most] w (JoinB 2 l1 l2 (min most 1114111) w) := by
 have HV1 := xH hv1;have HV2 := xH hv2;obtain ⟨a1, q1, rfl⟩ := jg hv1;obtain ⟨a2, q2, rfl⟩ := jg hv2;have HL := xH (show ([] : List Rg).length + l1.length ≤ 100000000 by simp; omega);have HL2 := xH (show ([] ++ l1 : List Rg).length + l2.length ≤ 100000000 by simp; omega);have HL3 := xH (show ([] ++ l1 ++ l2 : List Rg).length ≤ 1000000 by simp; omega);have HL4 := xH hl1;have HL5 := xH hl2;have HM := xH h1;have HM2 := xH h2;clear hv1 hv2 hl1 hl2 h1 h2;go_enter Tryd.func87, Tryd.ntmps87;go_wp2_with (first
  | (at_builtin; refine jb rfl _ _ rfl w.heap.size (.slice none 0 0) [] rfl (qm _ _) _ l1 rfl HV1.out HL.out (Nat.le_refl _) ?_; intro va wa hoa hba; have HOa := xH hoa; have HBa := xH (hba _ _ (Below.refl _ _) (Nat.le_refl _)); clear hoa hba)
  | (at_builtin; refine jb rfl _ _ rfl w.heap.size va ([] ++ l1) rfl HOa.out _ l2 rfl (jl HV2.out HBa.out) HL2.out HBa.out.size ?_; intro vb wb hob hbb; have HOb := xH hob; have HBb := xH (hbb _ _ HBa.out (Nat.le_refl _)); clear hob hbb))
 refine (edges_any vb ([] ++ l1 ++ l2) most wb (vP HOb.out (fun r hr => by rw [List.nil_append] at hr; exact (List.mem_append.1 hr).elim (fun h => HV1.out.1 r h) (fun h => HV2.out.1 r h))) HL3.out HM.out HM2.out).mono ?_;rintro e w4 ⟨ve, E, rfl, hE, hEd, hb4⟩;rw [List.nil_append] at hEd;obtain ⟨ae, qe, rfl⟩ := intsAt_len hE;have HE := xH hE;have HD := xH hEd;have HB4 := xH (HBb.out.trans (hb4.mono HBb.out.size));have hEl : E.length ≤ 1000000 := by
  rcases hEd with ⟨h, _⟩ | ⟨_, h⟩
  ·rw [h]; simp
  ·have := h.2.2;have := HL4.out;have := HL5.out;simp only [List.length_append] at *;omega
 clear hE hEd hb4;go_wp2_with fail
 go_loopw [11, 12] (fun v i wr => JoRel 2 l1 l2 E w4 v i wr) (fun _ i _ => E.length - (intOf i).toNat)
 case atStart => exact ⟨0, [], Or.inr rfl, rfl, qm _ _, ji_start HD.out, Below.refl _ _⟩
 case round =>
  obtain ⟨k, O, hk, rfl, ho, hJ, hb⟩ := hrel;have HO := xH ho;have HJ := xH hJ;have HB := xH hb;have HK := xH hk;have HBw := xH (HB4.out.trans (hb.mono HB4.out.size));have HF1 := xH (jl HV1.out HBw.out);have HF2 := xH (jl HV2.out HBw.out);have hwk : IntKind.i64.wrap ((k : Int) + 1) = (k : Int) + 1 := IntWalk.i64_in _ (by omega);clear ho hJ hb hk;by_cases hlt : k + 1 < E.length
  ·have hlti : (k : Int) + 1 < (E.length : Int) := by omega
   have hki : (k : Int) < (E.length : Int) := by omega
   have hk0 : (0 : Int) ≤ (k : Int) + 1 := by omega
   rcases HE.out with ⟨h0, _⟩ | ⟨_, b, cap, hve, _, hbb, _, _, hc⟩
   ·rw [h0] at hlt; simp at hlt
   cases hve;have hm : 0 ≤ min most 1114111 := by
    rcases HD.out with ⟨h, _⟩ | ⟨h, _⟩
    ·rw [h] at hlt; simp at hlt
    ·exact h
   have hEP : EP (EQ (l1 ++ l2) (min most 1114111)) (2 * (l1 ++ l2).length + 2) E := by
    rcases HD.out with ⟨h, _⟩ | ⟨_, h⟩
    ·rw [h] at hlt; simp at hlt
    ·exact h
   have c01 := hc k (by omega);have c02 := hc (k + 1) hlt;rw [show E.getD k 0 = E[k] by simp [List.getD, show k < E.length by omega]] at c01;rw [show E.getD (k + 1) 0 = E[k + 1] by simp [List.getD, hlt]] at c02;have c1 := qf HB.out c01;have c2 := qf HB.out c02;have C1 := xH c01;have C2 := xH c02;clear c01 c02;have bd1 := yh hm hEP (List.getElem_mem (show k < E.length by omega));have bd2 := yh hm hEP (List.getElem_mem hlt);have HO1 := xH (fun hq => ji_out hm hEP hlt HJ.out hq);have HO2 := xH (fun hq hl => ji_app hm (by omega) hEP hlt HJ.out hq hl);have HO3 := xH (fun (hq : qB 2 l1 l2 E[k] = true) (W0 : List Rg) (p r : Int) (h : O = W0 ++ [(p, r)]) (hr : r + 1 = E[k]) => ji_mrg hm (by omega) hEP hlt HJ.out hq h hr);have HI1 := xH (rin_any _ l1 E[k] wr HF1.out (by have := HL4.out; omega));have HI2 := xH (rin_any _ l2 E[k] wr HF2.out (by have := HL5.out; omega));have hE1 : E[k] ≤ 1114112 := by omega
   have hE2 : E[k + 1] ≤ 1114112 := by omega
   have hE3 : 0 ≤ E[k] := bd1.1;have hE4 : 0 ≤ E[k + 1] := bd2.1;clear hc bd1 bd2 hm hEP;unfold qB at HO1 HO2 HO3;generalize E[k] = x at *;generalize E[k + 1] = y at *;generalize hasB l1 x = p1 at *;generalize hasB l2 x = p2 at *;have hwy : IntKind.i64.wrap (y - 1) = y - 1 := IntWalk.i64_in _ (by omega);go_wp2_with fail
   refine HI1.out.mono ?_;rintro e wr ⟨rfl, rfl⟩;go_wp2_with fail
   refine HI2.out.mono ?_;rintro e wr ⟨rfl, rfl⟩;go_upto_region 11 with (fail)
   go_cut [15] from 25 to 103 (fun c wx => c = .bool (p1 || p2) ∧ wx = wr)
   case first =>
    cases p1 <;> cases p2 <;> (go_wp2_with fail; go_meet; exact ⟨rfl, rfl⟩)
   case rest =>
    obtain ⟨rfl, rfl⟩ := hcut;go_upto_region 15 with (fail)
    go_cut [15] from 25 to 103 (fun c wx => c = .bool (inP 2 p1 p2) ∧ wx = wc)
    case first =>
     cases p1 <;> cases p2 <;> (go_wp2_with fail; go_meet; exact ⟨rfl, rfl⟩)
    case rest =>
    obtain ⟨rfl, rfl⟩ := hcut;cases hq : inP 2 p1 p2
    ·have HJ1 := xH (HO1.out hq);go_wp2_with fail
     go_roundw
     case rel => exact ⟨k + 1, O, Or.inl hlt, by go_num, HO.out, HJ1.out, HB.out⟩
     case measure => simp [intOf]; omega
    ·rcases List.eq_nil_or_concat O with hO | ⟨W0, ⟨p, r⟩, hO⟩
     ·subst hO;obtain rfl := HO.out.2 rfl;have HJ1 := xH (HO2.out hq (fun W0 r h => by have := congrArg List.length h; simp at this));go_wp2_with fail
      go_quiet (fail)
      go_wp2_with fail
      generalize hwq : World.drewN _ _ = wq;obtain ⟨h0, hoq⟩ : Below w4.heap.size w4 wq.drew ∧ OwnR wq.drew w4.heap.size (.slice none 0 0) ([]) := by rw [← hwq];exact ⟨(below_draws HB.out _).drew, HO.out⟩
      clear hwq;have HOQ := xH hoq;clear hoq;refine wp_region_held_drew (S := fun w' => Below w4.heap.size w4 w') (by kernel_rfl) h0 (fun hHeld => ?_);refine xT 0 rfl ?_ ?_ ?_;rotate_left
      ·intro w' hSw;have d1 := qf hSw C1.out;have d2 := qf hSw C2.out;go_simp;try rfl
      simp only [xS];refine xT 1 rfl ?_ ?_ ?_;rotate_left
      ·intro w' hSw;have d1 := qf hSw C1.out;have d2 := qf hSw C2.out;go_simp;try rfl
      simp only [xS];refine xT 2 rfl ?_ ?_ ?_;rotate_left
      ·intro w' hSw;have d1 := qf hSw C1.out;have d2 := qf hSw C2.out;go_simp;try rfl
      simp only [xS];refine xT 3 rfl ?_ ?_ ?_;rotate_left
      ·intro w' hSw;have d1 := qf hSw C1.out;have d2 := qf hSw C2.out;go_simp;try rfl
      simp only [xS];refine xT 4 rfl ?_ ?_ ?_;rotate_left
      ·intro w' hSw;have d1 := qf hSw C1.out;have d2 := qf hSw C2.out;go_simp;try rfl
      simp only [xS];refine xT 5 rfl ?_ ?_ ?_;rotate_left
      ·intro w' hSw;have d1 := qf hSw C1.out;have d2 := qf hSw C2.out;go_simp;try rfl
      simp only [xS];refine xT 6 rfl ?_ ?_ ?_;rotate_left
      ·intro w' hSw;have d1 := qf hSw C1.out;have d2 := qf hSw C2.out;go_simp;try rfl
      simp only [xS];refine xT 7 rfl ?_ ?_ ?_;rotate_left
      ·intro w' hSw;have d1 := qf hSw C1.out;have d2 := qf hSw C2.out;go_simp;try rfl
      simp only [xS];refine xT 8 rfl ?_ ?_ ?_;rotate_left
      ·intro w' hSw;have d1 := qf hSw C1.out;have d2 := qf hSw C2.out;go_simp;try rfl
      simp only [xS];refine xT 9 rfl ?_ ?_ ?_;rotate_left
      ·intro w' hSw;have d1 := qf hSw C1.out;have d2 := qf hSw C2.out;go_simp;try rfl
      simp only [xS];refine xT 10 rfl ?_ ?_ ?_;rotate_left
      ·intro w' hSw;have d1 := qf hSw C1.out;have d2 := qf hSw C2.out;go_simp;try rfl
      simp only [xS];refine xT 11 rfl ?_ ?_ ?_;rotate_left
      ·intro w' hSw;have d1 := qf hSw C1.out;have d2 := qf hSw C2.out;go_simp;try rfl
      simp only [xS];refine xD 12 rfl (fun K hK => ?_);go_simp;have hA : Below w4.heap.size w4 ((wq.alloc (Obj.cells #[Value.int IntKind.i64 x, Value.int IntKind.i64 (y - 1)] 75)).drew) := (h0.alloc h0.size _);refine hK.out _ _ hA (fun hHeld => ?_);clear hK K hA;try simp only [xS]
      refine xD 13 rfl (fun K hK => ?_);refine zK (w := wq.drew) rfl _ _ rfl w4.heap.size _ ([]) rfl HOQ.out x (y - 1) _ rfl rfl rfl (by simp) h0.size ?_;intro va2 wa2 hoa hba;have HOA := xH hoa;have HBA := xH (hba _ _ h0 (Nat.le_refl _));clear hoa hba;refine hK.out _ _ HBA.out (fun hHeld => ?_);clear hK K;try simp only [xS]
      refine xT 14 rfl ?_ ?_ ?_;rotate_left
      ·intro w' hSw;go_simp;try rfl
      simp only [xS];refine wpAnyH_done (by kernel_rfl) ?_ _;go_wp2_with fail
      go_roundw
      case rel => exact ⟨k + 1, [] ++ [(x, y - 1)], Or.inl hlt, by go_num, HOA.out, HJ1.out, HBA.out⟩
      case measure => simp [intOf]; omega
     ·subst hO;rw [List.concat_eq_append] at *;obtain ⟨g, cw, hv, hg1, hg3, hg4, hcw⟩ := ownR_slice HO.out (by simp);have hce := hcw W0.length (by simp);have hlen : (W0 ++ [(p, r)]).length = W0.length + 1 := by simp
      have hr := HJ.out.1.2 (p, r) (by simp);have HLn := xH (show (W0 ++ [(p, r)]).length ≤ 100000000 by have := HJ.out.2.2; omega);rw [hlen] at hv hg3;simp only [List.getElem_concat_length] at hce;obtain ⟨hce1, hce2⟩ := hce;obtain ⟨hr0, hr1, hr2⟩ := hr;simp only at hr0 hr1 hr2;obtain ⟨m, hm⟩ : ∃ m, W0.length = m := ⟨_, rfl⟩;have HMm := xH hm;rw [hm] at hv hg3 hce1 hce2;subst hv;have hix : (m : Int) < (m : Int) + 1 := by omega
      have hwr : IntKind.i64.wrap (r + 1) = r + 1 := IntWalk.i64_in _ (by omega);clear hcw hlen hm;by_cases hj : r + 1 = x
      ·have HJ1 := xH (HO3.out hq W0 p r rfl hj);go_wp2_with fail
       go_quiet (fail)
       generalize hwq : World.drewN _ _ = wq;obtain ⟨h0, hoq, hc2, hd1, hd2⟩ : Below w4.heap.size w4 wq ∧ OwnR wq w4.heap.size (.slice (some ⟨g, 0, none⟩) (m + 1) cw) (W0 ++ [(p, r)]) ∧ wq.cell? ⟨b, k + 1, none⟩ = some (.int .i64 y) ∧ wq.cell? ⟨g, m * 2, none⟩ = some (.int .i64 p) ∧ wq.cell? ⟨g, m * 2 + 1, none⟩ = some (.int .i64 r) := by rw [← hwq];exact ⟨below_draws HB.out _, HO.out, c2, hce1, hce2⟩
       clear hwq;obtain ⟨hn1, hn2, hn3⟩ := ownR_last (z := y - 1) HMm.out hoq;have HN := xH hn1;have HNB := xH (hn3 _ _ h0 (Nat.le_refl _));clear hn1 hn3 hoq h0;go_wp2_with fail
       go_roundw
       case rel => exact ⟨k + 1, W0 ++ [(p, y - 1)], Or.inl hlt, by go_num, HN.out, HJ1.out, HNB.out⟩
       case measure => simp [intOf]; omega
      ·have HJ1 := xH (HO2.out hq (fun W1 r1 h => by obtain ⟨_, h2⟩ := List.append_inj' h rfl;obtain rfl := (List.cons.inj h2).1;exact hj))
       have hjb : (r + 1 == x) = false := by simp [hj]
       go_wp2_with fail
       go_quiet (fail)
       go_wp2_with fail
       generalize hwq : World.drewN _ _ = wq;obtain ⟨h0, hoq⟩ : Below w4.heap.size w4 wq.drew ∧ OwnR wq.drew w4.heap.size (.slice (some ⟨g, 0, none⟩) (m + 1) cw) ((W0 ++ [(p, r)])) := by rw [← hwq];exact ⟨(below_draws HB.out _).drew, HO.out⟩
       clear hwq;have HOQ := xH hoq;clear hoq;refine wp_region_held_drew (S := fun w' => Below w4.heap.size w4 w') (by kernel_rfl) h0 (fun hHeld => ?_);refine xT 0 rfl ?_ ?_ ?_;rotate_left
       ·intro w' hSw;have d1 := qf hSw C1.out;have d2 := qf hSw C2.out;go_simp;try rfl
       simp only [xS];refine xT 1 rfl ?_ ?_ ?_;rotate_left
       ·intro w' hSw;have d1 := qf hSw C1.out;have d2 := qf hSw C2.out;go_simp;try rfl
       simp only [xS];refine xT 2 rfl ?_ ?_ ?_;rotate_left
       ·intro w' hSw;have d1 := qf hSw C1.out;have d2 := qf hSw C2.out;go_simp;try rfl
       simp only [xS];refine xT 3 rfl ?_ ?_ ?_;rotate_left
       ·intro w' hSw;have d1 := qf hSw C1.out;have d2 := qf hSw C2.out;go_simp;try rfl
       simp only [xS];refine xT 4 rfl ?_ ?_ ?_;rotate_left
       ·intro w' hSw;have d1 := qf hSw C1.out;have d2 := qf hSw C2.out;go_simp;try rfl
       simp only [xS];refine xT 5 rfl ?_ ?_ ?_;rotate_left
       ·intro w' hSw;have d1 := qf hSw C1.out;have d2 := qf hSw C2.out;go_simp;try rfl
       simp only [xS];refine xT 6 rfl ?_ ?_ ?_;rotate_left
       ·intro w' hSw;have d1 := qf hSw C1.out;have d2 := qf hSw C2.out;go_simp;try rfl
       simp only [xS];refine xT 7 rfl ?_ ?_ ?_;rotate_left
       ·intro w' hSw;have d1 := qf hSw C1.out;have d2 := qf hSw C2.out;go_simp;try rfl
       simp only [xS];refine xT 8 rfl ?_ ?_ ?_;rotate_left
       ·intro w' hSw;have d1 := qf hSw C1.out;have d2 := qf hSw C2.out;go_simp;try rfl
       simp only [xS];refine xT 9 rfl ?_ ?_ ?_;rotate_left
       ·intro w' hSw;have d1 := qf hSw C1.out;have d2 := qf hSw C2.out;go_simp;try rfl
       simp only [xS];refine xT 10 rfl ?_ ?_ ?_;rotate_left
       ·intro w' hSw;have d1 := qf hSw C1.out;have d2 := qf hSw C2.out;go_simp;try rfl
       simp only [xS];refine xT 11 rfl ?_ ?_ ?_;rotate_left
       ·intro w' hSw;have d1 := qf hSw C1.out;have d2 := qf hSw C2.out;go_simp;try rfl
       simp only [xS];refine xD 12 rfl (fun K hK => ?_);go_simp;have hA : Below w4.heap.size w4 ((wq.alloc (Obj.cells #[Value.int IntKind.i64 x, Value.int IntKind.i64 (y - 1)] 75)).drew) := (h0.alloc h0.size _);refine hK.out _ _ hA (fun hHeld => ?_);clear hK K hA;try simp only [xS]
       refine xD 13 rfl (fun K hK => ?_);refine zK (w := wq.drew) rfl _ _ rfl w4.heap.size _ ((W0 ++ [(p, r)])) rfl HOQ.out x (y - 1) _ rfl rfl rfl (HLn.out) h0.size ?_;intro va2 wa2 hoa hba;have HOA := xH hoa;have HBA := xH (hba _ _ h0 (Nat.le_refl _));clear hoa hba;refine hK.out _ _ HBA.out (fun hHeld => ?_);clear hK K;try simp only [xS]
       refine xT 14 rfl ?_ ?_ ?_;rotate_left
       ·intro w' hSw;go_simp;try rfl
       simp only [xS];refine wpAnyH_done (by kernel_rfl) ?_ _;go_wp2_with fail
       go_roundw
       case rel => exact ⟨k + 1, (W0 ++ [(p, r)]) ++ [(x, y - 1)], Or.inl hlt, by go_num, HOA.out, HJ1.out, HBA.out⟩
       case measure => simp [intOf]; omega
  ·go_wp2_with fail
   go_ret
   have he := ji_end HD.out HJ.out HK.out hlt;exact ⟨_, O, rfl, he.1, he.2, ownR_mono HO.out HB4.out.size, HBw.out⟩
end Go.Proofs.YtnpcombfgdbhkaaDoor.setw
end
section
namespace Go.Proofs.YtnpcombfgdbhkaaDoor.setw
open sq
open Go Go.RowKit bulk ucdp ucdw setp
theorem qB_union (a b : List Rg) (c : Int) : qB 0 a b c = true ↔ Has a c ∨ Has b c := by unfold qB inP;simp [zX]
theorem qB_not (a b : List Rg) (c : Int) : qB 2 a b c = true ↔ ¬ Has a c := by unfold qB inP;rw [← zX];simp
theorem rs_nil (w : World) : RsAt w (.slice none 0 0) [] := ⟨fun r hr => (by cases hr), Or.inl ⟨rfl, none, 0, rfl, by omega⟩⟩
def DocS (q : Int → Prop) (w : World) (e : Ending) (w' : World) : Prop := ∃ v S, e = .returned v ∧ Canon S ∧ (∀ c, Has S c ↔ q c) ∧ OwnR w' w.heap.size v S ∧ Below w.heap.size w w'
end Go.Proofs.YtnpcombfgdbhkaaDoor.setw
end
section
namespace Go.Proofs.YtnpcombfgdbhkaaDoor.setw
open sq
open Go Go.RowKit bulk ucdp ucdw setp
theorem join0w_any (v1 v2 : Value) (l1 l2 : List Rg) (most : Int) (w : World) (hv1 : RsAt w v1 l1) (hv2 : RsAt w v2 l2) (hl1 : l1.length ≤ 600000) (hl2 : l2.length ≤ 400000) (h1 : -9223372036854775808 ≤ most) (h2 : most ≤ 9223372036854775807) :
 Calls Tryd.prog 87 #[.int .i64 0, v1, v2, .int .i64 most] w (JoinB 0 l1 l2 (min most 1114111) w) := by
 have HV1 := xH hv1;have HV2 := xH hv2;obtain ⟨a1, q1, rfl⟩ := jg hv1;obtain ⟨a2, q2, rfl⟩ := jg hv2;have HL := xH (show ([] : List Rg).length + l1.length ≤ 100000000 by simp; omega);have HL2 := xH (show ([] ++ l1 : List Rg).length + l2.length ≤ 100000000 by simp; omega);have HL3 := xH (show ([] ++ l1 ++ l2 : List Rg).length ≤ 1000000 by simp; omega);have HL4 := xH hl1;have HL5 := xH hl2;have HM := xH h1;have HM2 := xH h2;clear hv1 hv2 hl1 hl2 h1 h2;go_enter Tryd.func87, Tryd.ntmps87;go_wp2_with (first
  | (at_builtin; refine jb rfl _ _ rfl w.heap.size (.slice none 0 0) [] rfl (qm _ _) _ l1 rfl HV1.out HL.out (Nat.le_refl _) ?_; intro va wa hoa hba; have HOa := xH hoa; have HBa := xH (hba _ _ (Below.refl _ _) (Nat.le_refl _)); clear hoa hba)
  | (at_builtin; refine jb rfl _ _ rfl w.heap.size va ([] ++ l1) rfl HOa.out _ l2 rfl (jl HV2.out HBa.out) HL2.out HBa.out.size ?_; intro vb wb hob hbb; have HOb := xH hob; have HBb := xH (hbb _ _ HBa.out (Nat.le_refl _)); clear hob hbb))
 refine (edges_any vb ([] ++ l1 ++ l2) most wb (vP HOb.out (fun r hr => by rw [List.nil_append] at hr; exact (List.mem_append.1 hr).elim (fun h => HV1.out.1 r h) (fun h => HV2.out.1 r h))) HL3.out HM.out HM2.out).mono ?_;rintro e w4 ⟨ve, E, rfl, hE, hEd, hb4⟩;rw [List.nil_append] at hEd;obtain ⟨ae, qe, rfl⟩ := intsAt_len hE;have HE := xH hE;have HD := xH hEd;have HB4 := xH (HBb.out.trans (hb4.mono HBb.out.size));have hEl : E.length ≤ 3000000 := by
  rcases hEd with ⟨h, _⟩ | ⟨_, h⟩
  ·rw [h]; simp
  ·have := h.2.2;have := HL4.out;have := HL5.out;simp only [List.length_append] at *;omega
 clear hE hEd hb4;go_wp2_with fail
 go_loopw [11, 12] (fun v i wr => JoRel 0 l1 l2 E w4 v i wr) (fun _ i _ => E.length - (intOf i).toNat)
 case atStart => exact ⟨0, [], Or.inr rfl, rfl, qm _ _, ji_start HD.out, Below.refl _ _⟩
 case round =>
  obtain ⟨k, O, hk, rfl, ho, hJ, hb⟩ := hrel;have HO := xH ho;have HJ := xH hJ;have HB := xH hb;have HK := xH hk;have HBw := xH (HB4.out.trans (hb.mono HB4.out.size));have HF1 := xH (jl HV1.out HBw.out);have HF2 := xH (jl HV2.out HBw.out);have hwk : IntKind.i64.wrap ((k : Int) + 1) = (k : Int) + 1 := IntWalk.i64_in _ (by omega);clear ho hJ hb hk;by_cases hlt : k + 1 < E.length
  ·have hlti : (k : Int) + 1 < (E.length : Int) := by omega
   have hki : (k : Int) < (E.length : Int) := by omega
   have hk0 : (0 : Int) ≤ (k : Int) + 1 := by omega
   rcases HE.out with ⟨h0, _⟩ | ⟨_, b, cap, hve, _, hbb, _, _, hc⟩
   ·rw [h0] at hlt; simp at hlt
   cases hve;have hm : 0 ≤ min most 1114111 := by
    rcases HD.out with ⟨h, _⟩ | ⟨h, _⟩
    ·rw [h] at hlt; simp at hlt
    ·exact h
   have hEP : EP (EQ (l1 ++ l2) (min most 1114111)) (2 * (l1 ++ l2).length + 2) E := by
    rcases HD.out with ⟨h, _⟩ | ⟨_, h⟩
    ·rw [h] at hlt; simp at hlt
    ·exact h
   have c01 := hc k (by omega);have c02 := hc (k + 1) hlt;rw [show E.getD k 0 = E[k] by simp [List.getD, show k < E.length by omega]] at c01;rw [show E.getD (k + 1) 0 = E[k + 1] by simp [List.getD, hlt]] at c02;have c1 := qf HB.out c01;have c2 := qf HB.out c02;have C1 := xH c01;have C2 := xH c02;clear c01 c02;have bd1 := yh hm hEP (List.getElem_mem (show k < E.length by omega));have bd2 := yh hm hEP (List.getElem_mem hlt);have HO1 := xH (fun hq => ji_out hm hEP hlt HJ.out hq);have HO2 := xH (fun hq hl => ji_app hm (by omega) hEP hlt HJ.out hq hl);have HO3 := xH (fun (hq : qB 0 l1 l2 E[k] = true) (W0 : List Rg) (p r : Int) (h : O = W0 ++ [(p, r)]) (hr : r + 1 = E[k]) => ji_mrg hm (by omega) hEP hlt HJ.out hq h hr);have HI1 := xH (rin_any _ l1 E[k] wr HF1.out (by have := HL4.out; omega));have HI2 := xH (rin_any _ l2 E[k] wr HF2.out (by have := HL5.out; omega));have hE1 : E[k] ≤ 1114112 := by omega
   have hE2 : E[k + 1] ≤ 1114112 := by omega
   have hE3 : 0 ≤ E[k] := bd1.1;have hE4 : 0 ≤ E[k + 1] := bd2.1;clear hc bd1 bd2 hm hEP;unfold qB at HO1 HO2 HO3;generalize E[k] = x at *;generalize E[k + 1] = y at *;generalize hasB l1 x = p1 at *;generalize hasB l2 x = p2 at *;have hwy : IntKind.i64.wrap (y - 1) = y - 1 := IntWalk.i64_in _ (by omega);go_wp2_with fail
   refine HI1.out.mono ?_;rintro e wr ⟨rfl, rfl⟩;go_wp2_with fail
   refine HI2.out.mono ?_;rintro e wr ⟨rfl, rfl⟩;go_upto_region 11 with (fail)
   go_cut [15] from 25 to 103 (fun c wx => c = .bool (inP 0 p1 p2) ∧ wx = wr)
   case first =>
    cases p1 <;> cases p2 <;> (go_wp2_with fail; go_meet; exact ⟨rfl, rfl⟩)
   case rest =>
    obtain ⟨rfl, rfl⟩ := hcut;cases hq : inP 0 p1 p2
    ·have HJ1 := xH (HO1.out hq);go_wp2_with fail
     go_roundw
     case rel => exact ⟨k + 1, O, Or.inl hlt, by go_num, HO.out, HJ1.out, HB.out⟩
     case measure => simp [intOf]; omega
    ·rcases List.eq_nil_or_concat O with hO | ⟨W0, ⟨p, r⟩, hO⟩
     ·subst hO;obtain rfl := HO.out.2 rfl;have HJ1 := xH (HO2.out hq (fun W0 r h => by have := congrArg List.length h; simp at this));go_wp2_with fail
      go_quiet (fail)
      go_wp2_with fail
      generalize hwq : World.drewN _ _ = wq;obtain ⟨h0, hoq⟩ : Below w4.heap.size w4 wq.drew ∧ OwnR wq.drew w4.heap.size (.slice none 0 0) ([]) := by rw [← hwq];exact ⟨(below_draws HB.out _).drew, HO.out⟩
      clear hwq;have HOQ := xH hoq;clear hoq;refine wp_region_held_drew (S := fun w' => Below w4.heap.size w4 w') (by kernel_rfl) h0 (fun hHeld => ?_);refine xT 0 rfl ?_ ?_ ?_;rotate_left
      ·intro w' hSw;have d1 := qf hSw C1.out;have d2 := qf hSw C2.out;go_simp;try rfl
      simp only [xS];refine xT 1 rfl ?_ ?_ ?_;rotate_left
      ·intro w' hSw;have d1 := qf hSw C1.out;have d2 := qf hSw C2.out;go_simp;try rfl
      simp only [xS];refine xT 2 rfl ?_ ?_ ?_;rotate_left
      ·intro w' hSw;have d1 := qf hSw C1.out;have d2 := qf hSw C2.out;go_simp;try rfl
      simp only [xS];refine xT 3 rfl ?_ ?_ ?_;rotate_left
      ·intro w' hSw;have d1 := qf hSw C1.out;have d2 := qf hSw C2.out;go_simp;try rfl
      simp only [xS];refine xT 4 rfl ?_ ?_ ?_;rotate_left
      ·intro w' hSw;have d1 := qf hSw C1.out;have d2 := qf hSw C2.out;go_simp;try rfl
      simp only [xS];refine xT 5 rfl ?_ ?_ ?_;rotate_left
      ·intro w' hSw;have d1 := qf hSw C1.out;have d2 := qf hSw C2.out;go_simp;try rfl
      simp only [xS];refine xT 6 rfl ?_ ?_ ?_;rotate_left
      ·intro w' hSw;have d1 := qf hSw C1.out;have d2 := qf hSw C2.out;go_simp;try rfl
      simp only [xS];refine xT 7 rfl ?_ ?_ ?_;rotate_left
      ·intro w' hSw;have d1 := qf hSw C1.out;have d2 := qf hSw C2.out;go_simp;try rfl
      simp only [xS];refine xT 8 rfl ?_ ?_ ?_;rotate_left
      ·intro w' hSw;have d1 := qf hSw C1.out;have d2 := qf hSw C2.out;go_simp;try rfl
      simp only [xS];refine xT 9 rfl ?_ ?_ ?_;rotate_left
      ·intro w' hSw;have d1 := qf hSw C1.out;have d2 := qf hSw C2.out;go_simp;try rfl
      simp only [xS];refine xT 10 rfl ?_ ?_ ?_;rotate_left
      ·intro w' hSw;have d1 := qf hSw C1.out;have d2 := qf hSw C2.out;go_simp;try rfl
      simp only [xS];refine xT 11 rfl ?_ ?_ ?_;rotate_left
      ·intro w' hSw;have d1 := qf hSw C1.out;have d2 := qf hSw C2.out;go_simp;try rfl
      simp only [xS];refine xD 12 rfl (fun K hK => ?_);go_simp;have hA : Below w4.heap.size w4 ((wq.alloc (Obj.cells #[Value.int IntKind.i64 x, Value.int IntKind.i64 (y - 1)] 75)).drew) := (h0.alloc h0.size _);refine hK.out _ _ hA (fun hHeld => ?_);clear hK K hA;try simp only [xS]
      refine xD 13 rfl (fun K hK => ?_);refine zK (w := wq.drew) rfl _ _ rfl w4.heap.size _ ([]) rfl HOQ.out x (y - 1) _ rfl rfl rfl (by simp) h0.size ?_;intro va2 wa2 hoa hba;have HOA := xH hoa;have HBA := xH (hba _ _ h0 (Nat.le_refl _));clear hoa hba;refine hK.out _ _ HBA.out (fun hHeld => ?_);clear hK K;try simp only [xS]
      refine xT 14 rfl ?_ ?_ ?_;rotate_left
      ·intro w' hSw;go_simp;try rfl
      simp only [xS];refine wpAnyH_done (by kernel_rfl) ?_ _;go_wp2_with fail
      go_roundw
      case rel => exact ⟨k + 1, [] ++ [(x, y - 1)], Or.inl hlt, by go_num, HOA.out, HJ1.out, HBA.out⟩
      case measure => simp [intOf]; omega
     ·subst hO;rw [List.concat_eq_append] at *;obtain ⟨g, cw, hv, hg1, hg3, hg4, hcw⟩ := ownR_slice HO.out (by simp);have hce := hcw W0.length (by simp);have hlen : (W0 ++ [(p, r)]).length = W0.length + 1 := by simp
      have hr := HJ.out.1.2 (p, r) (by simp);have HLn := xH (show (W0 ++ [(p, r)]).length ≤ 100000000 by have := HJ.out.2.2; omega);rw [hlen] at hv hg3;simp only [List.getElem_concat_length] at hce;obtain ⟨hce1, hce2⟩ := hce;obtain ⟨hr0, hr1, hr2⟩ := hr;simp only at hr0 hr1 hr2;obtain ⟨m, hm⟩ : ∃ m, W0.length = m := ⟨_, rfl⟩;have HMm := xH hm;rw [hm] at hv hg3 hce1 hce2;subst hv;have hix : (m : Int) < (m : Int) + 1 := by omega
      have hwr : IntKind.i64.wrap (r + 1) = r + 1 := IntWalk.i64_in _ (by omega);clear hcw hlen hm;by_cases hj : r + 1 = x
      ·have HJ1 := xH (HO3.out hq W0 p r rfl hj);go_wp2_with fail
       go_quiet (fail)
       generalize hwq : World.drewN _ _ = wq;obtain ⟨h0, hoq, hc2, hd1, hd2⟩ : Below w4.heap.size w4 wq ∧ OwnR wq w4.heap.size (.slice (some ⟨g, 0, none⟩) (m + 1) cw) (W0 ++ [(p, r)]) ∧ wq.cell? ⟨b, k + 1, none⟩ = some (.int .i64 y) ∧ wq.cell? ⟨g, m * 2, none⟩ = some (.int .i64 p) ∧ wq.cell? ⟨g, m * 2 + 1, none⟩ = some (.int .i64 r) := by rw [← hwq];exact ⟨below_draws HB.out _, HO.out, c2, hce1, hce2⟩
       clear hwq;obtain ⟨hn1, hn2, hn3⟩ := ownR_last (z := y - 1) HMm.out hoq;have HN := xH hn1;have HNB := xH (hn3 _ _ h0 (Nat.le_refl _));clear hn1 hn3 hoq h0;go_wp2_with fail
       go_roundw
       case rel => exact ⟨k + 1, W0 ++ [(p, y - 1)], Or.inl hlt, by go_num, HN.out, HJ1.out, HNB.out⟩
       case measure => simp [intOf]; omega
      ·have HJ1 := xH (HO2.out hq (fun W1 r1 h => by obtain ⟨_, h2⟩ := List.append_inj' h rfl;obtain rfl := (List.cons.inj h2).1;exact hj))
       have hjb : (r + 1 == x) = false := by simp [hj]
       go_wp2_with fail
       go_quiet (fail)
       go_wp2_with fail
       generalize hwq : World.drewN _ _ = wq;obtain ⟨h0, hoq⟩ : Below w4.heap.size w4 wq.drew ∧ OwnR wq.drew w4.heap.size (.slice (some ⟨g, 0, none⟩) (m + 1) cw) ((W0 ++ [(p, r)])) := by rw [← hwq];exact ⟨(below_draws HB.out _).drew, HO.out⟩
       clear hwq;have HOQ := xH hoq;clear hoq;refine wp_region_held_drew (S := fun w' => Below w4.heap.size w4 w') (by kernel_rfl) h0 (fun hHeld => ?_);refine xT 0 rfl ?_ ?_ ?_;rotate_left
       ·intro w' hSw;have d1 := qf hSw C1.out;have d2 := qf hSw C2.out;go_simp;try rfl
       simp only [xS];refine xT 1 rfl ?_ ?_ ?_;rotate_left
       ·intro w' hSw;have d1 := qf hSw C1.out;have d2 := qf hSw C2.out;go_simp;try rfl
       simp only [xS];refine xT 2 rfl ?_ ?_ ?_;rotate_left
       ·intro w' hSw;have d1 := qf hSw C1.out;have d2 := qf hSw C2.out;go_simp;try rfl
       simp only [xS];refine xT 3 rfl ?_ ?_ ?_;rotate_left
       ·intro w' hSw;have d1 := qf hSw C1.out;have d2 := qf hSw C2.out;go_simp;try rfl
       simp only [xS];refine xT 4 rfl ?_ ?_ ?_;rotate_left
       ·intro w' hSw;have d1 := qf hSw C1.out;have d2 := qf hSw C2.out;go_simp;try rfl
       simp only [xS];refine xT 5 rfl ?_ ?_ ?_;rotate_left
       ·intro w' hSw;have d1 := qf hSw C1.out;have d2 := qf hSw C2.out;go_simp;try rfl
       simp only [xS];refine xT 6 rfl ?_ ?_ ?_;rotate_left
       ·intro w' hSw;have d1 := qf hSw C1.out;have d2 := qf hSw C2.out;go_simp;try rfl
       simp only [xS];refine xT 7 rfl ?_ ?_ ?_;rotate_left
       ·intro w' hSw;have d1 := qf hSw C1.out;have d2 := qf hSw C2.out;go_simp;try rfl
       simp only [xS];refine xT 8 rfl ?_ ?_ ?_;rotate_left
       ·intro w' hSw;have d1 := qf hSw C1.out;have d2 := qf hSw C2.out;go_simp;try rfl
       simp only [xS];refine xT 9 rfl ?_ ?_ ?_;rotate_left
       ·intro w' hSw;have d1 := qf hSw C1.out;have d2 := qf hSw C2.out;go_simp;try rfl
       simp only [xS];refine xT 10 rfl ?_ ?_ ?_;rotate_left
       ·intro w' hSw;have d1 := qf hSw C1.out;have d2 := qf hSw C2.out;go_simp;try rfl
       simp only [xS];refine xT 11 rfl ?_ ?_ ?_;rotate_left
       ·intro w' hSw;have d1 := qf hSw C1.out;have d2 := qf hSw C2.out;go_simp;try rfl
       simp only [xS];refine xD 12 rfl (fun K hK => ?_);go_simp;have hA : Below w4.heap.size w4 ((wq.alloc (Obj.cells #[Value.int IntKind.i64 x, Value.int IntKind.i64 (y - 1)] 75)).drew) := (h0.alloc h0.size _);refine hK.out _ _ hA (fun hHeld => ?_);clear hK K hA;try simp only [xS]
       refine xD 13 rfl (fun K hK => ?_);refine zK (w := wq.drew) rfl _ _ rfl w4.heap.size _ ((W0 ++ [(p, r)])) rfl HOQ.out x (y - 1) _ rfl rfl rfl (HLn.out) h0.size ?_;intro va2 wa2 hoa hba;have HOA := xH hoa;have HBA := xH (hba _ _ h0 (Nat.le_refl _));clear hoa hba;refine hK.out _ _ HBA.out (fun hHeld => ?_);clear hK K;try simp only [xS]
       refine xT 14 rfl ?_ ?_ ?_;rotate_left
       ·intro w' hSw;go_simp;try rfl
       simp only [xS];refine wpAnyH_done (by kernel_rfl) ?_ _;go_wp2_with fail
       go_roundw
       case rel => exact ⟨k + 1, (W0 ++ [(p, r)]) ++ [(x, y - 1)], Or.inl hlt, by go_num, HOA.out, HJ1.out, HBA.out⟩
       case measure => simp [intOf]; omega
  ·go_wp2_with fail
   go_ret
   have he := ji_end HD.out HJ.out HK.out hlt;exact ⟨_, O, rfl, he.1, he.2, ownR_mono HO.out HB4.out.size, HBw.out⟩
end Go.Proofs.YtnpcombfgdbhkaaDoor.setw
end
section
namespace Go.Proofs.YtnpcombfgdbhkaaDoor.ucdw
open sq
open Go Go.RowKit bulk ucdp
def refC (r : Int × Int × Nat × Nat × Int) : List Value := [.int .i64 r.1, .int .i64 r.2.1, .string (catB r.2.2.1), .string (scrB r.2.2.2.1), .int .i64 r.2.2.2.2]
def refCs (l : List (Int × Int × Nat × Nat × Int)) : List Value := l.flatMap refC
def RowsNew (l : List (Int × Int × Nat × Nat × Int)) (w : World) (e : Ending) (w' : World) : Prop := e = .returned (.slice (some ⟨w.heap.size, 0, none⟩) l.length l.length) ∧ w' = w.alloc (.cells (refCs l).toArray 123)
theorem low_any (w : World) : Calls Tryd.prog 88 #[] w (RowsNew low w) := by
 go_enter Tryd.func88, Tryd.ntmps88;go_upto_region 1 with (fail)
 refine wp_region_list ?_;refine wpList_bulk_x 30 (w.alloc (.cells (refCs low).toArray 123)) (by kernel_rfl) ?_;generalize hA : acts _ _ _ _ = A;have e1 : A.eval (.tmp 30) = .slice (some ⟨w.heap.size, 0, none⟩) 29 29 := by rw [← hA]; kernel_rfl
 have ez : A.tmps.size = 31 := by rw [← hA]; kernel_rfl
 have ed : A.defers = [] := by rw [← hA]; kernel_rfl
 clear hA;show wpList _ _ _ [_] _ _;refine wpList_value rfl (run_assign rfl e1) ?_;have e0 := eval_put_same (a := A) (d := 0) (v := .slice (some ⟨w.heap.size, 0, none⟩) 29 29) (by omega);have ed2 : (A.put (some 0) (.slice (some ⟨w.heap.size, 0, none⟩) 29 29)).defers = [] := ed;generalize A.put (some 0) (.slice (some ⟨w.heap.size, 0, none⟩) 29 29) = B at *;refine wpList_nil ?_
 go_step
 go_step
 go_step
 refine bodyPost_ret (results_tmp rfl _ _ _) ed2 ⟨?_, rfl⟩;rw [getD_of_eval e0];rfl
theorem high_any (w : World) : Calls Tryd.prog 89 #[] w (RowsNew high w) := by
 go_enter Tryd.func89, Tryd.ntmps89;go_upto_region 1 with (fail)
 refine wp_region_list ?_;refine wpList_bulk_x 53 (w.alloc (.cells (refCs high).toArray 123)) (by kernel_rfl) ?_;generalize hA : acts _ _ _ _ = A;have e1 : A.eval (.tmp 53) = .slice (some ⟨w.heap.size, 0, none⟩) 52 52 := by rw [← hA]; kernel_rfl
 have ez : A.tmps.size = 54 := by rw [← hA]; kernel_rfl
 have ed : A.defers = [] := by rw [← hA]; kernel_rfl
 clear hA;show wpList _ _ _ [_] _ _;refine wpList_value rfl (run_assign rfl e1) ?_;have e0 := eval_put_same (a := A) (d := 0) (v := .slice (some ⟨w.heap.size, 0, none⟩) 52 52) (by omega);have ed2 : (A.put (some 0) (.slice (some ⟨w.heap.size, 0, none⟩) 52 52)).defers = [] := ed;generalize A.put (some 0) (.slice (some ⟨w.heap.size, 0, none⟩) 52 52) = B at *;refine wpList_nil ?_
 go_step
 go_step
 go_step
 refine bodyPost_ret (results_tmp rfl _ _ _) ed2 ⟨?_, rfl⟩;rw [getD_of_eval e0];rfl
end Go.Proofs.YtnpcombfgdbhkaaDoor.ucdw
end
section
namespace Go.Proofs.YtnpcombfgdbhkaaDoor.ucdw
open sq
open Go Go.RowKit bulk ucdp
theorem infoRow : (Tryd.prog.info? 123).map (fun i => (i.zero, i.size, i.bytes)) = some (some (.agg #[.int .i64 0, .int .i64 0, .string ⟨#[]⟩, .string ⟨#[]⟩, .int .i64 0]), 5, 56) := by kernel_rfl
theorem refCs_len (l : List (Int × Int × Nat × Nat × Int)) : (refCs l).length = l.length * 5 := by
 induction l with
 | nil => rfl
 | cons r l ih =>
  unfold refCs at ih ⊢;rw [List.flatMap_cons, List.length_append, ih];simp [refC]; omega
theorem refCs_one {l : List (Int × Int × Nat × Nat × Int)} {u : Value} (h : u ∈ refCs l) : u.oneCell' = true := by unfold refCs at h;obtain ⟨r, _, hr⟩ := List.mem_flatMap.1 h;simp only [refC, List.mem_cons, List.not_mem_nil, or_false] at hr;rcases hr with rfl | rfl | rfl | rfl | rfl <;> rfl
def OwnR (w : World) (base : Nat) (v : Value) (D : List (Int × Int × Nat × Nat × Int)) : Prop := w.ownsRow base 123 5 v D.length (refCs D)
theorem qm (w : World) (base : Nat) : OwnR w base (.slice none 0 0) [] := World.ownsRow_nil w base _ 5
theorem refCs_app (l l' : List (Int × Int × Nat × Nat × Int)) : refCs (l ++ l') = refCs l ++ refCs l' := by simp [refCs]
theorem wpList_append_r {ops : Array Oper} {rest : List Oper} {o : Oper} {a : Act} {w : World} {Q : Exit → Act → World → Prop} (hgd : o.guard = none) (s x : Operand)
 (ho : o.op = .call { callee := .builtin .append, args := #[s, x], argTypes := #[120, 120] }) (base : Nat) (v : Value) (D N : List (Int × Int × Nat × Nat × Int)) (hs : a.eval s = v) (hown : OwnR w base v D)
 (B n : Nat) (hn : n = N.length) (hx : a.eval x = .slice (some ⟨B, 0, none⟩) n n) (hB : B = w.heap.size) (hlen : D.length ≤ 4000) (hlen2 : N.length ≤ 4000) (hbase : base ≤ w.heap.size)
 (h : ∀ v' w', OwnR w' base v' (D ++ N) → (∀ B w1, Below B w1 w → B ≤ base → Below B w1 w') → wpList Tryd.prog ops Q rest (a.put o.dst v') w') :
 wpList Tryd.prog ops Q (o :: rest) a (w.alloc (.cells (refCs N).toArray 123)) := by
 subst hB;subst hn;obtain ⟨i0, hi, hz0, hz1, hz2⟩ := info_parts infoRow;refine wpList_append_own _ hgd s x _ ho base 123 i0 (.agg #[.int .i64 0, .int .i64 0, .string ⟨#[]⟩, .string ⟨#[]⟩, .int .i64 0]) 5 56 Tryd.underlying120 hi hz0 hz1 hz2 rfl (by decide) v _ _ hs (World.ownsRow.alloc hown _) ⟨w.heap.size, 0, none⟩ N.length N.length (refCs N) hx (refCs_len N) ?_ (fun u hu => refCs_one hu) (by unfold maxLen; omega) (by omega) (by rw [World.size_alloc]; omega) ?_
 ·intro j u hj;have hplain : (⟨w.heap.size, 0, none⟩ : Addr).add j = ⟨w.heap.size, 0 + j, none⟩ := by unfold Addr.add; split <;> simp_all
  rw [hplain, World.cell?_alloc_new];simpa using hj
 ·intro v' w' hown' hgr _;refine h v' w' ?_ (fun B w1 hb hB => (hb.alloc (by have := hb.size; omega) _).grown hgr (by rw [World.size_alloc]; omega) (fun k hk => ?_))
  ·unfold OwnR;rw [refCs_app];simpa using hown'
  ·have := (World.ownsRow.lt hown) k hk;omega
def TabB (w : World) (e : Ending) (w' : World) : Prop := ∃ v, e = .returned v ∧ OwnR w' w.heap.size v rows ∧ Below w.heap.size w w'
theorem table_any (w : World) : Calls Tryd.prog 86 #[] w (TabB w) := by
 have HL := xH low_any;have HH := xH high_any;have n1 := xH (show 29 = low.length from rfl);have n2 := xH (show 52 = high.length from rfl);have n3 := xH (show low.length ≤ 4000 by decide);have n4 := xH (show high.length ≤ 4000 by decide);go_enter Tryd.func86, Tryd.ntmps86;go_wp2_with fail
 refine (HL.out _).mono ?_;rintro e w1 ⟨rfl, rfl⟩;go_wp2_with (at_builtin; refine wpList_append_r rfl _ _ rfl w.heap.size (.slice none 0 0) [] low rfl (qm _ _) _ _ rfl rfl rfl (by simp) n3.out (Nat.le_refl _) ?_; intro va wa hoa hba; have HOa := xH hoa; have hwa := hba _ _ (Below.refl w.heap.size w) (Nat.le_refl _); clear hoa hba)
 refine (HH.out _).mono ?_;rintro e w1 ⟨rfl, rfl⟩;go_wp2_with (at_builtin; refine wpList_append_r rfl _ _ rfl w.heap.size va ([] ++ low) high rfl HOa.out _ _ rfl rfl rfl n3.out n4.out hwa.size ?_; intro vb wb hob hbb; have HOb := xH hob; have hwb := hbb _ _ hwa (Nat.le_refl _); clear hob hbb)
 go_ret
 exact ⟨_, rfl, HOb.out, hwb⟩
def rk (k : Nat) : Int × Int × Nat × Nat × Int := rows.getD k (0, 0, 0, 0, 0)
theorem refCs_at {l : List (Int × Int × Nat × Nat × Int)} {k f : Nat} (hk : k < l.length) (hf : f < 5) : (refCs l)[k * 5 + f]? = (refC (l.getD k (0, 0, 0, 0, 0)))[f]? := by
 induction l generalizing k with
 | nil => simp at hk
 | cons r l ih =>
  have hlen : (refC r).length = 5 := rfl;unfold refCs;rw [List.flatMap_cons];cases k with
  | zero =>
   rw [List.getElem?_append_left (by omega)];simp
  | succ k =>
   rw [List.getElem?_append_right (by omega), hlen, show (k + 1) * 5 + f - 5 = k * 5 + f by omega];exact ih (by simpa using hk)
theorem ownR_open {w : World} {base : Nat} {v : Value} (h : OwnR w base v rows) : ∃ g cap : Nat, v = .slice (some ⟨g, 0, none⟩) 81 cap ∧ base ≤ g ∧ g < w.heap.size ∧ 81 ≤ cap ∧ cap ≤ 9223372036854775807 ∧ ∀ k f, k < 81 → f < 5 → w.cell? ⟨g, k * 5 + f, none⟩ = (refC (rk k))[f]? := by
 have h' := h;obtain ⟨_, h2⟩ := h;rcases h2 with ⟨_, hn⟩ | ⟨g, cap, cur, hv, hg, hh, hnc, hcm, hcs, ht⟩
 ·exact absurd hn (by decide)
 ·unfold maxLen at hcm;have hlt : g < w.heap.size := by
   rcases Nat.lt_or_ge g w.heap.size with h | h
   ·exact h
   ·rw [Array.getElem?_eq_none h] at hh; cases hh
  refine ⟨g, cap, hv, hg, hlt, hnc, by omega, fun k f hk hf => ?_⟩;unfold OwnR at h';rw [hv] at h';have hL : (refCs rows).length = 405 := by rw [refCs_len]; rfl
  rw [h'.cellAt (k * 5 + f) (by omega)];exact refCs_at (l := rows) (k := k) (f := f) hk hf
end Go.Proofs.YtnpcombfgdbhkaaDoor.ucdw
end
section
namespace Go.Proofs.YtnpcombfgdbhkaaDoor.setw
open sq
open Go Go.RowKit bulk ucdp ucdw setp
theorem zZ (v : Value) (l : List Rg) (most : Int) (w : World) (hv : RsAt w v l) (hl : l.length ≤ 600000) (h1 : -9223372036854775808 ≤ most) (h2 : most ≤ 9223372036854775807) :
 Calls Tryd.prog 81 #[v, .int .i64 most] w (DocS (fun c => Has l c ∧ 0 ≤ c ∧ c ≤ min most 1114111) w) := by
 have HJ := xH (join0w_any v (.slice none 0 0) l [] most w hv (rs_nil w) hl (by simp) h1 h2);clear hv;go_enter Tryd.func81, Tryd.ntmps81;go_wp2_with fail
 refine HJ.out.mono ?_;rintro e w1 ⟨v1, S, rfl, hS, hh, ho, hb⟩;have HS := xH hS;have HH := xH hh;have HO := xH ho;clear hS hh ho;go_wp2_with fail
 go_ret
 refine ⟨_, S, rfl, HS.out, fun c => ?_, HO.out, hb⟩;rw [HH.out, qB_union];constructor
 ·rintro ⟨a, b, c | c⟩
  ·exact ⟨c, a, b⟩
  ·exact absurd c (has_nil _)
 ·rintro ⟨a, b, c⟩;exact ⟨b, c, Or.inl a⟩
end Go.Proofs.YtnpcombfgdbhkaaDoor.setw
end
