/- T -/
import Derived.Deep.DeepCutAuto
import Derived.Deep.RegionHeld3
import Derived.Laws.Shifts
import Derived.Test.YtdgfclbajjjcgaaBWb05
set_option maxHeartbeats 16000000
set_option maxRecDepth 1000000
namespace Go.Proofs.Ytdgfclbajjjcgaa
section
namespace utfw
open sq
open Go Go.RowKit utfp
def atR (g : Nat → Int) (n p : Nat) : Int × Int := if 0 < (seqAt g n p).2 then seqAt g n p else (-1, 0)
theorem atR_yes {g : Nat → Int} {n p k : Nat} (hk1 : 1 ≤ k) (hk : p + k ≤ n) (h : 0 ≤ ofP k (sh g p)) : atR g n p = (ofP k (sh g p), (k : Int)) := by unfold atR;rw [seq_of_of hk1 hk h];rw [if_pos (by simp only; omega)]
theorem atR_no {g : Nat → Int} {n p k : Nat} (hg : ∀ i, 0 ≤ g i ∧ g i ≤ 255) (hk : 4 < k ∨ n < p + k) (h : ∀ j, 1 ≤ j → j < k → ofP j (sh g p) < 0) : atR g n p = (-1, 0) := by
 unfold atR;have hb := seqAt_num (n := n) (p := p) hg;split
 ·rename_i hs;have h1 := of_of_seq (n := n) (p := p) (k := (seqAt g n p).2.toNat) hg (by omega) (by omega);have h2 := h (seqAt g n p).2.toNat (by omega) (by
   rcases seqAt_bd (n := n) (p := p) hg with h0 | h0
   ·rw [h0] at hs; simp at hs
   ·omega)
  omega
 ·rfl
theorem atR_bd {g : Nat → Int} {n p : Nat} (hg : ∀ i, 0 ≤ g i ∧ g i ≤ 255) : -1 ≤ (atR g n p).1 ∧ (atR g n p).1 ≤ 1114111 ∧ 0 ≤ (atR g n p).2 ∧ (atR g n p).2 ≤ 4 ∧ ((p : Int) ≤ n → (p : Int) + (atR g n p).2 ≤ n) := by
 have hb := seqAt_num (n := n) (p := p) hg;unfold atR;split
 ·exact ⟨by omega, hb.2.1, hb.2.2.1, hb.2.2.2.1, hb.2.2.2.2⟩
 ·exact ⟨by simp, by simp, by simp, by simp, by simp⟩
def TwoB (r : Int × Int) (w : World) (e : Ending) (w' : World) : Prop := e = .returned (.tuple #[.int .i64 r.1, .int .i64 r.2]) ∧ Below w.heap.size w w'
theorem twoB {r : Int × Int} {w w' : World} {a s : Int} (h : r = (a, s)) (hb : Below w.heap.size w w') : TwoB r w (.returned (.tuple #[.int .i64 a, .int .i64 s])) w' := by unfold TwoB; rw [h]; exact ⟨rfl, hb⟩
def NumBoolB (r : Int × Bool) (w : World) (e : Ending) (w' : World) : Prop := e = .returned (.tuple #[.int .i64 r.1, .bool r.2]) ∧ Below w.heap.size w w'
theorem numBoolB {r : Int × Bool} {w w' : World} {a : Int} {s : Bool} (h : r = (a, s)) (hb : Below w.heap.size w w') : NumBoolB r w (.returned (.tuple #[.int .i64 a, .bool s])) w' := by unfold NumBoolB; rw [h]; exact ⟨rfl, hb⟩
theorem at_any (b off n cap : Nat) (g : Nat → Int) (P : Int) (p : Nat) (hP : P = p) (hp : p < n) (hn : n ≤ 140737488355328) (w : World) (hg : ∀ i, 0 ≤ g i ∧ g i ≤ 255)
 (hcap : n ≤ cap ∧ cap ≤ 9223372036854775807) (hc : ∀ i, i < n → w.cell? ⟨b, off + i, none⟩ = some (.int .u8 (g i))) :
 Calls Try.prog 62 #[.slice (some ⟨b, off, none⟩) n cap, .int .i64 P] w (TwoB (atR g n p) w) := by
 subst hP;have HO := xH (fun (wr : World) (k : Nat) (hk : k = 1 ∨ k = 2 ∨ k = 3 ∨ k = 4) (hkp : p + k ≤ n) (hb : Below w.heap.size w wr) =>
  of_any b (off + p) k (cap - p) (sh g p) hk wr (fun i => hg (p + i)) (by omega) (fun i hi => by rw [Nat.add_assoc]; exact qf hb (hc (p + i) (by omega))))
 have HY := xH (fun (k : Nat) (h1 : 1 ≤ k) (h2 : p + k ≤ n) (h3 : 0 ≤ ofP k (sh g p)) => atR_yes h1 h2 h3);have HN := xH (fun (k : Nat) (h1 : 4 < k ∨ n < p + k) (h2 : ∀ j, 1 ≤ j → j < k → ofP j (sh g p) < 0) => atR_no hg h1 h2);generalize atR g n p = R at *;obtain ⟨hcap1, hcap2⟩ := hcap;clear hg hc;go_enter Try.func62, Try.ntmps62
 go_wp2
 go_loopw [6] (fun c wr => ∃ k : Nat, 1 ≤ k ∧ k ≤ 5 ∧ c = .int .i64 k ∧ Hid (∀ j, 1 ≤ j → j < k → ofP j (sh g p) < 0) ∧ Below w.heap.size w wr) (fun c _ => (5 - intOf c).toNat)
 case atStart => exact ⟨1, by omega, by omega, rfl, xH (by intro j _ _; omega), Below.refl _ _⟩
 case round =>
  obtain ⟨k, hk1, hk5, rfl, HK, hb⟩ := hrel;by_cases hk4 : k ≤ 4
  ·by_cases hkn : p + k ≤ n
   ·have C := HO.out wr k (by omega) hkn hb;have Hy := HY.out k hk1 hkn;have Hk := fun (h : ofP k (sh g p) < 0) => (show ∀ j, 1 ≤ j → j < k + 1 → ofP j (sh g p) < 0 from fun j h1 h2 => by
     by_cases e : j = k
     ·subst e; exact h
     ·exact HK.out j h1 (by omega))
    generalize ofP k (sh g p) = c at C Hy Hk;have HC := xH C;have Hyy := xH Hy;have Hkk := xH Hk;clear C Hy Hk;by_cases hs : 0 ≤ c
    ·go_wp2_with (go_at_call 89; refine HC.out.mono ?_; rintro e w' ⟨rfl, hb2⟩)
     go_ret2
     exact twoB (Hyy.out hs) (qi hb hb2)
    ·go_wp2_with (go_at_call 89; refine HC.out.mono ?_; rintro e w' ⟨rfl, hb2⟩)
     go_roundw
     case rel => exact ⟨k + 1, by omega, by omega, by go_num, xH (Hkk.out (by omega)), qi hb hb2⟩
     case measure => simp [intOf]; omega
   ·have HE := xH (HN.out k (by omega) HK.out);have hkn2 : n < p + k := by omega
    clear hkn
    go_wp2
    go_ret2
    exact twoB HE.out hb
  ·have HE := xH (HN.out k (by omega) HK.out);have hk4' : 5 ≤ k := by omega
   clear hk4
   go_wp2
   go_ret2
   exact twoB HE.out hb
theorem nextR {u : Bool} {g : Nat → Int} {n p : Nat} : stepv u g n p = if u = true ∧ 0 < (atR g n p).2 then ((atR g n p).1, (p : Int) + (atR g n p).2) else (g p, (p : Int) + 1) := by
 unfold stepv atR;by_cases h : 0 < (seqAt g n p).2
 ·rw [if_pos h]
 ·rw [if_neg h];rw [if_neg (by simpa using fun _ => Int.not_lt.1 h), if_neg (by simp)]
theorem rnext_any (v : Value) (n : Nat) (g : Nat → Int) (a : Int) (u : Bool) (w : World) (hv : Sl w v n g) :
 Calls Try.prog 63 #[v, .int .i64 a, .bool u] w (TwoB (nextP u g n a) w) := by
 obtain ⟨hg, hn, hv⟩ := hv;by_cases h0 : a < 0
 ·have HR := xH (show nextP u g n a = (-1, a) by unfold nextP; rw [if_pos (by omega)]);exact z89
 by_cases h1 : (n : Int) ≤ a
 ·have HR := xH (show nextP u g n a = (-1, a) by unfold nextP; rw [if_pos (by omega)]);exact z89
 rcases hv with ⟨rfl, a0, c0, rfl, hc0⟩ | ⟨b, off, cap, rfl, hcap, hc⟩
 ·omega
 obtain ⟨p, rfl⟩ := Int.eq_ofNat_of_zero_le (show 0 ≤ a by omega);have hp : p < n := by omega
 have hN : nextP u g n (p : Int) = stepv u g n p := by unfold nextP; rw [if_neg (by omega)]; simp
 rw [hN, nextR];have hcell := hc p hp;have hgp := hg p;obtain ⟨hg1, hg2⟩ := hgp;have C := at_any b off n cap g p p rfl hp hn w hg hcap hc;have hq := atR_bd (n := n) (p := p) hg;unfold TwoB at C;generalize atR g n p = q at *;obtain ⟨c, s⟩ := q;simp only at hq C ⊢;obtain ⟨q1, q2, q3, q4, q5⟩ := hq;have q6 := q5 (by omega);have HC := xH C;obtain ⟨hcap1, hcap2⟩ := hcap;cases u with
 | false =>
  rw [if_neg (by simp)];exact z81
 | true =>
  by_cases hs : 0 < s
  ·rw [if_pos ⟨rfl, hs⟩];clear hN hg hc h0 h1 C q5 hcell;go_enter Try.func63, Try.ntmps63;go_wp2_with (go_at_call 62; refine HC.out.mono ?_; rintro e w' ⟨rfl, hb⟩)
   go_ret2
   exact twoB rfl hb
  ·rw [if_neg (by simpa using hs)];exact z81
theorem validR {g : Nat → Int} {n p : Nat} (hg : ∀ i, 0 ≤ g i ∧ g i ≤ 255) (hp : p < n) : yl g n n p = if (atR g n p).2 = 0 then ((p : Int), false) else yl g n n (p + (atR g n p).2.toNat) := by
 rw [validP_step hg hp];have := seqAt_num (n := n) (p := p) hg;unfold atR;by_cases h : 0 < (seqAt g n p).2
 ·rw [if_pos h]
 ·rw [if_neg h];rw [if_pos (by omega), if_pos rfl]
theorem rvalid_any (v : Value) (n : Nat) (g : Nat → Int) (w : World) (hv : Sl w v n g) :
 Calls Try.prog 46 #[v] w (NumBoolB (validP g n) w) := by
 obtain ⟨hg, hn, hv⟩ := hv;rcases hv with ⟨rfl, a0, c0, rfl, hc0⟩ | ⟨b, off, cap, rfl, hcap, hc⟩
 ·clear hg;go_enter Try.func46, Try.ntmps46
  go_wp2
  go_loopw [4] (fun a wr => a = .int .i64 0 ∧ Below w.heap.size w wr) (fun a _ => (intOf a).toNat)
  case atStart => exact ⟨rfl, Below.refl _ _⟩
  case round =>
   obtain ⟨rfl, hd⟩ := hrel
   go_wp2
   go_ret2
   exact numBoolB rfl hd
 have HS := xH (fun (wr : World) (p : Nat) (hp : p < n) (hd : Below w.heap.size w wr) => at_any b off n cap g p p rfl hp hn wr hg hcap (fun i hi => qf hd (hc i hi)));have HB := xH (fun p : Nat => atR_bd (n := n) (p := p) hg);have HV := xH (fun p h => validR (g := g) (n := n) (p := p) hg h);have HE := xH (fun p h => validP_end (g := g) (n := n) (p := p) h);have H0 : validP g n = yl g n n 0 := rfl;generalize validP g n = R at *;have HR := xH H0;obtain ⟨hcap1, hcap2⟩ := hcap;clear hg hc H0;go_enter Try.func46, Try.ntmps46
 go_wp2
 go_loopw [4] (fun a wr => ∃ p : Nat, p ≤ n ∧ a = .int .i64 p ∧ Hid (R = yl g n n p) ∧ Below w.heap.size w wr) (fun a _ => n - (intOf a).toNat)
 case atStart => exact ⟨0, Nat.zero_le _, rfl, HR, Below.refl _ _⟩
 case round =>
  obtain ⟨p, hp, rfl, HK, hd⟩ := hrel;by_cases hpn : p < n
  ·have C := HS.out wr p hpn hd;have hbd := HB.out p;have hst := HV.out p hpn;unfold TwoB at C;generalize atR g n p = r at *;obtain ⟨c, s⟩ := r;simp only at hbd C hst;obtain ⟨q1, q2, q3, q4, q5⟩ := hbd;have q6 := q5 (by omega);have HC := xH C;have Hst := xH hst;clear C hst q5;by_cases hs : s = 0
   ·have hsb : (s == 0) = true := by simp [hs]
    have Hs := xH hs;clear hs;go_wp2_with (go_at_call 62; refine HC.out.mono ?_; rintro e w' ⟨rfl, hd2⟩)
    go_ret2
    exact numBoolB (by rw [HK.out, Hst.out, if_pos Hs.out]) (qi hd hd2)
   ·have hsb : (s == 0) = false := by simp [hs]
    have Hs := xH hs;have q7 : 1 ≤ s := by omega
    clear hs;go_wp2_with (go_at_call 62; refine HC.out.mono ?_; rintro e w' ⟨rfl, hd2⟩)
    go_roundw
    case rel => exact ⟨p + s.toNat, by omega, by rw [show ((p + s.toNat : Nat) : Int) = p + s from by omega], xH (by rw [HK.out, Hst.out, if_neg Hs.out]), qi hd hd2⟩
    case measure => simp [intOf]; omega
  ·have hE := xH (HE.out p (by omega))
   go_wp2
   go_ret2
   exact numBoolB (by rw [HK.out, hE.out]) hd
end utfw
end
section
namespace rtw
open sq
open Go Go.RowKit Go.Maps utfp utfw ucdp setp setw prp tkp rtp
open tkw (sg sg_bd vJ jM qK tkR qO qM vI)
structure Pat (S : ByteArray) (p : Pt) : Prop where
 g : p.g = sg S
 n : p.n = S.size
 le : S.size ≤ 1000
def txC (S : ByteArray) (p : Pt) : Array Value := #[.string S, .bool p.u, .bool p.x, .int .i64 p.most]
def txV (S : ByteArray) (p : Pt) : Value := .agg (txC S p)
structure XB (w : World) (B : Nat) (S : ByteArray) (p : Pt) : Prop where
 h : w.heap[B]? = some (.cells (txC S p) 84 (0, 0))
theorem zi {w : World} {B : Nat} {o : Obj} (h : w.heap[B]? = some o) : B < w.heap.size := by apply dC;intro hn;rw [dH (by omega)] at h;cases h
theorem XB.below {w w' : World} {B k : Nat} {S : ByteArray} {p : Pt} (h : XB w B S p) (hb : Below k w w') (hk : B < k) : XB w' B S p := ⟨(hb.block B hk).trans h.h⟩
theorem XB.lt {w : World} {B : Nat} {S : ByteArray} {p : Pt} (h : XB w B S p) : B < w.heap.size := zi h.h
theorem XB.after {w w' : World} {B : Nat} {S : ByteArray} {p : Pt} (h : XB w B S p) (hb : Below w.heap.size w w') : XB w' B S p := h.below hb h.lt
structure XC (w : World) (B : Nat) (S : ByteArray) (p : Pt) : Prop where
 c0 : w.cell? ⟨B, 0, none⟩ = some (.string S)
 c1 : w.cell? ⟨B, 1, none⟩ = some (.bool p.u)
 c2 : w.cell? ⟨B, 2, none⟩ = some (.bool p.x)
 c3 : w.cell? ⟨B, 3, none⟩ = some (.int .i64 p.most)
theorem XB.c {w : World} {B : Nat} {S : ByteArray} {p : Pt} (h : XB w B S p) : XC w B S p := by have h := h.h;refine ⟨?_, ?_, ?_, ?_⟩ <;> (simp [World.cell?, h, txC])
def BB (r : Bool) (w : World) (e : Ending) (w' : World) : Prop := e = .returned (.bool r) ∧ Below w.heap.size w w'
def gtC (v : Value) : G → Array Value
 | .error x => #[.int .i64 0, .int .i64 0, .int .i64 0, .int .i64 0, v, .bool false, .int .i64 0, .int .i64 0, .int .i64 0, .string ⟨#[]⟩, .int .i64 0, .int .i64 0, .bool false, .int .i64 0, .int .i64 x.1, .int .i64 x.2]
 | .ok (none, b) => #[.int .i64 0, .int .i64 0, .int .i64 0, .int .i64 0, v, .bool false, .int .i64 0, .int .i64 0, .int .i64 0, .string ⟨#[]⟩, .int .i64 0, .int .i64 0, .bool false, .int .i64 b, .int .i64 0, .int .i64 0]
 | .ok (some t, b) => #[.int .i64 t.kind, .int .i64 t.at_, .int .i64 t.to, .int .i64 t.c, v, .bool t.neg, .int .i64 t.n, .int .i64 t.m, .int .i64 t.mode, .string t.name, .int .i64 t.on, .int .i64 t.off, .bool true, .int .i64 b, .int .i64 0, .int .i64 0]
def gtS : G → List Rg
 | .ok (some t, _) => t.set
 | _ => []
theorem jw (v : Value) : ∀ r : G, (gtC v r).size = 16
 | .error _ => rfl
 | .ok (none, _) => rfl
 | .ok (some _, _) => rfl
theorem jO {w : World} {b : Nat} {v : Value} {D : List Rg} (h : OwnR w b v D) : ∀ r : G, ∀ u ∈ (gtC v r).toList, u.oneCell' = true := by
 obtain ⟨x, y, rfl⟩ : ∃ x y, v = .slice x D.length y := qN h;intro r u hu;rcases r with x | ⟨_ | t, b⟩
 all_goals
  simp only [gtC, List.mem_cons, dM, or_false] at hu;rcases hu with rfl | rfl | rfl | rfl | rfl | rfl | rfl | rfl | rfl | rfl | rfl | rfl | rfl | rfl | rfl | rfl <;> rfl
def GotB (w : World) (r : G) (e : Ending) (w' : World) : Prop := ∃ v, e = .returned (.agg (gtC v r)) ∧ OwnR w' w.heap.size v (gtS r) ∧ Below w.heap.size w w'
theorem gotInfo : (Try.prog.info? 92).map (·.size) = some 16 := by kernel_rfl
theorem sizeG (w : World) : (sizeOf 92).run Try.prog w = .ok 16 w := by kernel_rfl
theorem run_store_got (w : World) (g : Nat) (old cs : Array Value) (hg : w.heap[g]? = some (.cells old 92 (0, 0))) (hs : old.size = 16) (hc : cs.size = 16) (h1 : ∀ u ∈ cs.toList, u.oneCell' = true) :
 (storeVar 92 ⟨g, 0, none⟩ (.agg cs)).run Try.prog w = .ok () (w.setRow g cs) := by
 have h := run_storeCells_at (P := Try.prog) g 0 92 cs.toList 0 old w hg (by simp; omega) h1;have e : (old.toList.take (0 + 0) ++ cs.toList ++ old.toList.drop (0 + 0 + cs.toList.length)).toArray = cs := by have h2 : old.toList.drop (0 + 0 + cs.toList.length) = [] := List.drop_eq_nil_of_le (by simp; omega);rw [h2];simp
 rw [e] at h;unfold storeVar;simp [Sem.run_bind, Value.cells, hc, Result.andThen, h]
theorem qJ {ops : Array Oper} {rest : List Oper} {o : Oper} {a : Act} {w : World} {Q : Exit → Act → World → Prop} (hgd : o.guard = none) (hd : o.dst = none) (x y : Operand) (ho : o.op = .store 92 x y)
 (g : Nat) (hx : a.eval x = .pointer (some ⟨g, 0, none⟩)) (old cs : Array Value) (hg : w.heap[g]? = some (.cells old 92 (0, 0))) (hs : old.size = 16) (hc : cs.size = 16) (h1 : ∀ u ∈ cs.toList, u.oneCell' = true) (hy : a.eval y = .agg cs)
 (h : wpList Try.prog ops Q rest a (w.setRow g cs)) : wpList Try.prog ops Q (o :: rest) a w :=
 wpList_plain hgd fun K hK => by unfold Oper.wp execOp;simp only [ho, hx, hy, Instr.storeAt, Instr.sureAddr, Sem.run_bind, Sem.run_pure, Result.andThen_ok, run_store_got w g old cs hg hs hc h1];have := hK _ _ h;simpa [Oper.upon, hd, Act.put] using this
theorem qW {fn : Func} {p : Tmp} (h : fn.results = #[.cell p 92]) (tmps : Array Value) (w : World) (g : Nat) (cs : Array Value) (hp : tmps.getD p undef = .pointer (some ⟨g, 0, none⟩)) (hg : w.heap[g]? = some (.cells cs 92 (0, 0))) (hc : cs.size = 16) :
 (results fn tmps).run Try.prog w = .ok (.agg cs) w := by
 exact results_cell_row h tmps w g 92 cs (0, 0) _ hp hg Try.underlying92 rfl (by rw [gotInfo, hc])
theorem below_setRow {B : Nat} {a w : World} (h : Below B a w) {g : Nat} (hg : B ≤ g) (cs : Array Value) : Below B a (w.setRow g cs) :=
 h.trans ⟨rfl, rfl, rfl, by rw [tkw.setRow_size]; exact xL _, fun k hk => tkw.setRow_other w g k cs (by omega)⟩
theorem ownR_setRowG {w : World} {base g : Nat} {v : Value} {D : List Rg} {old cs : Array Value} (h : OwnR w base v D) (hg : w.heap[g]? = some (.cells old 92 (0, 0))) : OwnR (w.setRow g cs) base v D := by
 refine ⟨tkw.jJ h.1 fun k hk => tkw.setRow_other w g k cs ?_, h.2⟩;rintro rfl;obtain ⟨_, ⟨rfl, _⟩ | ⟨g1, c1, cu1, rfl, _, k1, _⟩⟩ := h.1
 ·cases hk
 ·simp only [Value.ownBlock, dG] at hk;subst hk;rw [hg] at k1;simp only [dG, Obj.cells.injEq] at k1;exact absurd k1.2.1 (by decide)
theorem got_end {w w1 : World} {v : Value} {r : G} {G0 : Nat} {old : Array Value} (hg : w1.heap[G0]? = some (.cells old 92 (0, 0))) (ho : OwnR w1 w.heap.size v (gtS r)) (hb : Below w.heap.size w w1) (hG : w.heap.size ≤ G0) : GotB w r (.returned (.agg (gtC v r))) (w1.setRow G0 (gtC v r)) :=
 ⟨v, rfl, ownR_setRowG ho hg, below_setRow hb hG _⟩
theorem has_list (L : List UInt8) {p : Pt} (hg : ∀ j, p.g j = ((L.getD j 0).toNat : Int)) (hn : p.n = L.length) : ∀ (l : List UInt8) (a : Nat), p.has l a = true ↔ (L.drop a).take l.length = l
 | [], a => by simp [Pt.has]
 | c :: l, a => by
  have ih := has_list L hg hn l (a + 1);unfold Pt.has;simp only [dK, dF, hn, ih, hg];by_cases ha : a < L.length
  ·rw [List.drop_eq_getElem_cons ha, dB, List.take_succ_cons, show L.getD a 0 = L[a] by simp [List.getD, ha]];simp only [List.cons.injEq];constructor
   ·rintro ⟨⟨_, h1⟩, h2⟩;exact ⟨UInt8.toNat_inj.1 (by omega), h2⟩
   ·rintro ⟨h1, h2⟩;exact ⟨⟨ha, by rw [h1]⟩, h2⟩
  ·have hd : L.drop a = [] := List.drop_eq_nil_of_le (by omega);rw [hd];simp [ha]
theorem extract_list (S : ByteArray) (i k : Nat) : (S.extract i (i + k)).toList = (S.data.toList.drop i).take k := by rw [Lib.toList_data, ByteArray.data_extract, Array.toList_extract];show (S.data.toList.drop i).take (i + k - i) = _;rw [Nat.add_sub_cancel_left]
theorem pat_g {S : ByteArray} {p : Pt} (h : Pat S p) (j : Nat) : p.g j = ((S.data.toList.getD j 0).toNat : Int) := by rw [h.g]; rfl
theorem pat_len {S : ByteArray} {p : Pt} (h : Pat S p) : p.n = S.data.toList.length := by rw [h.n]; exact Array.length_toList.symm
theorem has_ext {S : ByteArray} {p : Pt} (h : Pat S p) (l : List UInt8) (i : Nat) : ((S.extract i (i + l.length)).toList == l) = p.has l i := by rw [Bool.eq_iff_iff, has_list _ (pat_g h) (pat_len h), extract_list, beq_iff_eq]
theorem has_not {S : ByteArray} {p : Pt} (h : Pat S p) (l : List UInt8) (i : Nat) (hi : i ≤ p.n ∨ l ≠ []) (hl : S.size < i + l.length) : p.has l i = false := by
 rw [Bool.eq_false_iff];intro e;have e2 := (has_list _ (pat_g h) (pat_len h) l i).1 e;have h3 := congrArg List.length e2;rw [List.length_take, List.length_drop, ← pat_len h] at h3;have hn := h.n;rcases hi with hi | hi
 ·omega
 ·have : l.length ≠ 0 := fun e => hi (List.length_eq_zero_iff.1 e)
  omega
theorem qw (e a : Int) (w : World) : Calls Try.prog 70 #[.int .i64 e, .int .i64 a] w (GotB w (.error (e, a))) := by
 go_enter Try.func70, Try.ntmps70;go_wp2_with fail
 refine xB (qW rfl _ _ w.heap.size (gtC (.slice none 0 0) (.error (e, a))) rfl (heap_alloc_new _ _) rfl) rfl ?_;exact ⟨_, rfl, qm _ _, qK _ _⟩
def TokB (w : World) (v : Value) (t : Tk) (f b : Int) (e : Ending) (w' : World) : Prop := e = .returned (.agg #[.int .i64 t.kind, .int .i64 f, .int .i64 b, .int .i64 t.c, v, .bool t.neg, .int .i64 t.n, .int .i64 t.m, .int .i64 t.mode, .string t.name, .int .i64 t.on, .int .i64 t.off, .bool true, .int .i64 b, .int .i64 0, .int .i64 0]) ∧ Below w.heap.size w w'
theorem tok0_any (v : Value) (t : Tk) (f b : Int) (w : World) {D : List Rg} {k : Nat} (hv : OwnR w k v D) : Calls Try.prog 67 #[.agg (tkR v t), .int .i64 f, .int .i64 b] w (TokB w v t f b) := by
 obtain ⟨x, y, rfl⟩ : ∃ x y, v = .slice x D.length y := qN hv;generalize D.length = n at *;unfold tkR;clear hv;go_enter Try.func67, Try.ntmps67;go_wp2_with fail
 refine xB (qW rfl _ _ (w.heap.size + 1) _ rfl (by first | (rw [show w.heap.size + 1 = (World.alloc w _).heap.size from (World.size_alloc ..).symm]; exact heap_alloc_new _ _) | trace_state) rfl) rfl ?_;exact ⟨rfl, (qK _ _).trans ((qK _ _).mono (by simp [World.size_alloc]))⟩
theorem jG {w w' : World} {b : Nat} {v : Value} {D : List Rg} (h : OwnR w b v D) (hb : Below w.heap.size w w') : OwnR w' b v D :=
 ⟨tkw.jJ h.1 fun k hk => hb.block k (World.ownsRow.lt h.1 k hk).2, h.2⟩
theorem qF (v : Value) (t : Tk) (f b : Nat) (w : World) {k : Nat} (hv : OwnR w k v t.set) : Calls Try.prog 67 #[.agg (tkR v t), .int .i64 f, .int .i64 b] w (fun e w' => e = .returned (.agg (gtC v (gtok t f b))) ∧ OwnR w' k v (gtS (gtok t f b)) ∧ Below w.heap.size w w') :=
 (tok0_any v t f b w hv).mono fun _ _ ⟨h1, h2⟩ => ⟨h1, jG hv h2, h2⟩
structure FR (w : World) (B : Nat) (S : ByteArray) (p : Pt) (W : World) : Prop where
 hB : w.heap.size = B
 below : Below B w W
 x : XB W B S p
theorem FR.step {w W W' : World} {B : Nat} {S : ByteArray} {p : Pt} (h : FR w B S p W) (hb : Below W.heap.size W W') : FR w B S p W' :=
 ⟨h.hB, h.below.trans (hb.mono (Nat.le_of_lt h.x.lt)), h.x.after hb⟩
theorem FR.c {w W : World} {B : Nat} {S : ByteArray} {p : Pt} (h : FR w B S p W) : XC W B S p := h.x.c
theorem FR.bel {w W : World} {B : Nat} {S : ByteArray} {p : Pt} (h : FR w B S p W) : Below w.heap.size w W := by rw [h.hB]; exact h.below
structure FG (w : World) (B : Nat) (S : ByteArray) (p : Pt) (W : World) : Prop extends FR w B S p W where
 g : ∃ old, W.heap[B + 1]? = some (.cells old 92 (0, 0)) ∧ old.size = 16
theorem FG.step {w W W' : World} {B : Nat} {S : ByteArray} {p : Pt} (h : FG w B S p W) (hb : Below W.heap.size W W') : FG w B S p W' :=
 ⟨h.toFR.step hb, by obtain ⟨old, h1, h2⟩ := h.g; exact ⟨old, (hb.block _ (zi h1)).trans h1, h2⟩⟩
theorem zG {w W : World} {S : ByteArray} {p : Pt} (hW : w.alloc (.cells (txC S p) 84) = W) : FR w w.heap.size S p W := by subst hW;exact ⟨rfl, qK _ _, ⟨heap_alloc_new _ _⟩⟩
theorem fg_start {w W : World} {S : ByteArray} {p : Pt} (hW : (w.alloc (.cells (txC S p) 84)).alloc (.cells (gtC (.slice none 0 0) (.error (0, 0))) 92) = W) : FG w w.heap.size S p W := by subst hW;refine ⟨(zG rfl).step (qK _ _), gtC (.slice none 0 0) (.error (0, 0)), ?_, rfl⟩;rw [show w.heap.size + 1 = (w.alloc (.cells (txC S p) 84)).heap.size from (World.size_alloc ..).symm];exact heap_alloc_new _ _
theorem fg_end {w W : World} {B : Nat} {S : ByteArray} {p : Pt} {v : Value} {r : G} (h : FG w B S p W) {k : Nat} (ho : OwnR W k v (gtS r)) (hk : B ≤ k) : GotB w r (.returned (.agg (gtC v r))) (W.setRow (B + 1) (gtC v r)) := by obtain ⟨old, h1, h2⟩ := h.g;have hB := h.hB;exact got_end h1 (qM ho (by omega)) (by rw [hB]; exact h.below) (by omega)
theorem end_any (S : ByteArray) (p : Pt) (w : World) (hP : Pat S p) : Calls Try.prog 90 #[txV S p] w (GotB w (.error (20, p.n))) := by
 rw [hP.n];have h2 := hP.le;unfold txV txC;clear hP;go_enter Try.func90, Try.ntmps90;go_upto_region 1 with (fail)
 generalize hW : (w.alloc _).alloc _ = W;have F0 := xH (fg_start (S := S) (p := p) hW);obtain ⟨B, hB⟩ : ∃ B, w.heap.size = B := ⟨_, rfl⟩;rw [hB] at F0 ⊢;clear hW hB;obtain ⟨c0, c1, c2, c3⟩ := F0.out.c;go_wp2_with fail
 refine (qw _ _ _).mono ?_;rintro e w1 ⟨v, rfl, ho, hb⟩;have F1 := xH (F0.out.step hb);have HO := xH (qM ho (Nat.le_of_lt F0.out.x.lt));clear hb ho c0 c1 c2 c3;obtain ⟨old, hg, hz⟩ := F1.out.g;have HG := xH hg;clear hg;go_wp2_with (refine qJ rfl rfl _ _ rfl (B + 1) rfl _ _ HG.out hz (jw v _) (jO HO.out _) rfl ?_)
 refine xB (qW rfl _ _ (B + 1) _ rfl (setRow_heap _ _ _ _ _ _ HG.out) (jw v _)) rfl ?_;exact fg_end F1.out HO.out (xL _)
theorem qG (S : ByteArray) (p : Pt) (w : World) (hP : Pat S p) (i : Nat) (hi : i ≤ 100000) (l : List UInt8) (t : ByteArray) (ht : t = ⟨l.toArray⟩) (hl : l.length ≤ 1000) (hi2 : i ≤ p.n ∨ l ≠ []) : Calls Try.prog 47 #[txV S p, .int .i64 i, .string t] w (BB (p.has l i) w) := by
 have HS := xH hP.n;have h2 := hP.le;have H1 := xH (has_ext hP l i);have H2 := xH (has_not hP l i hi2);have htl : t.toList = l := by rw [ht, Lib.toList_data]
 have hts : t.size = l.length := by rw [ht]; simp [ByteArray.size]
 have HT := xH htl;have HZ := xH hts;have hz2 : t.size ≤ 1000 := by omega
 unfold txV txC;clear hP htl hts ht hi2;go_enter Try.func47, Try.ntmps47;go_wp2_with fail
 ·go_ret
  refine ⟨?_, qK _ _⟩;rw [← H1.out, ← HZ.out, ← HT.out];rfl
 ·rename_i h;rw [H2.out (by have := HZ.out; omega)]
  go_ret
  exact ⟨rfl, qK _ _⟩
theorem char_any (S : ByteArray) (p : Pt) (w : World) (hP : Pat S p) (i : Nat) (hi : i < p.n) : Calls Try.prog 48 #[txV S p, .int .i64 i] w (fun e w' => e = .returned (.tuple #[.int .i64 (p.char i).1, .int .i64 ((p.char i).2 : Nat)]) ∧ Below w.heap.size w w') := by
 have hn := hP.n;have h2 := hP.le;have hi2 : i ≤ 1000 := by omega
 have HQ := xH (show ((p.char i).1, (((p.char i).2 : Nat) : Int)) = nextP p.u (sg S) S.size i by have h := (tkw.char_pure (p := p) (by rw [hP.g]; exact sg_bd S) (a := i) (by omega)).1;rw [← h, hP.g, hP.n])
 generalize (p.char i).1 = c at *;generalize (p.char i).2 = z at *;unfold txV txC;clear hP hi;go_enter Try.func48, Try.ntmps48;go_upto_region 1 with (fail)
 generalize hW : (w.alloc _) = W;have F0 := xH (zG (S := S) (p := p) hW);obtain ⟨B, hB⟩ : ∃ B, w.heap.size = B := ⟨_, rfl⟩;rw [hB] at F0 ⊢;clear hW hB;obtain ⟨c0, c1, c2, c3⟩ := F0.out.c;obtain ⟨hcv, hsl⟩ := vJ W S h2;have HSL := xH hsl;have HBW := xH (jM W S);clear hsl;have F1 := xH (F0.out.step HBW.out);obtain ⟨d0, d1, d2, d3⟩ := F1.out.c;generalize Lib.bytesWorld W 5 S = W1 at *;go_wp2_with fail
 refine (rnext_any _ _ _ i p.u _ HSL.out).mono ?_;rintro e w1 ⟨rfl, hb⟩;rw [← HQ.out];have F2 := xH (F1.out.step hb);clear hb;go_wp2_with fail
 go_ret2
 exact ⟨rfl, F2.out.bel⟩
end rtw
end
section
namespace rtw
open Go Go.RowKit rtp setp setw
open tkw (qM)
theorem xG {w W : World} {B : Nat} {S : ByteArray} {p : Go.Proofs.Ytdgfclbajjjcgaa.tkp.Pt} (h : Hid (FG w B S p W)) : ∃ old, Hid (W.heap[B + 1]? = some (.cells old 92 (0, 0))) ∧ old.size = 16 := by obtain ⟨old, a, b⟩ := h.out.g;exact ⟨old, Lib.hid a, b⟩
theorem xR {ops : Array Oper} {rest : List Oper} {o : Oper} {a : Act} {w : World} {Q : Exit → Act → World → Prop} {g b : Nat} {old : Array Value} {v : Value} {D : List Rg} {r : G} {x y : Operand} (HG : Hid (w.heap[g]? = some (.cells old 92 (0, 0)))) (hz : old.size = 16) (HO : Hid (OwnR w b v D))
 (hgd : o.guard = none) (hd : o.dst = none) (ho : o.op = .store 92 x y) (hx : a.eval x = .pointer (some ⟨g, 0, none⟩)) (hy : a.eval y = .agg (gtC v r)) (h : wpList Try.prog ops Q rest a (w.setRow g (gtC v r))) : wpList Try.prog ops Q (o :: rest) a w :=
 qJ hgd hd x y ho g hx old _ HG.out hz (jw v _) (jO HO.out _) hy h
theorem xE {fn : Func} {p : Tmp} {tmps : Array Value} {w : World} {g : Nat} {old : Array Value} {v : Value} {r : G} (HG : Hid (w.heap[g]? = some (.cells old 92 (0, 0)))) (h : fn.results = #[.cell p 92]) (hp : tmps.getD p undef = .pointer (some ⟨g, 0, none⟩)) :
 (results fn tmps).run Try.prog (w.setRow g (gtC v r)) = .ok (.agg (gtC v r)) (w.setRow g (gtC v r)) :=
 qW h tmps _ g _ hp (setRow_heap _ _ _ _ _ _ HG.out) (jw v _)
theorem xO {W W' : World} {B : Nat} {S : ByteArray} {p : Go.Proofs.Ytdgfclbajjjcgaa.tkp.Pt} {v : Value} {D : List Rg} (hx : XB W B S p) (ho : OwnR W' W.heap.size v D) : Hid (OwnR W' B v D) := Lib.hid (qM ho (Nat.le_of_lt hx.lt))
end rtw
end
section
namespace tkw
open sq
open Go Go.RowKit Go.Maps utfp utfw ucdp setp setw prp tkp
theorem norm_prop {m : Int} (hm : m ≤ 1114111) {n : ByteArray} {S : List Rg} (hS : ∀ c, Has S c ↔ 0 ≤ c ∧ c ≤ 1114111 ∧ propP n c = true) : normR m S = normR m (propL n) :=
 prop_norm hm hS (ja hm S) (normR_has hm S)
theorem char_val {p : Pt} (hg : ∀ i, 0 ≤ p.g i ∧ p.g i ≤ 255) {a : Nat} (_ha : a ≤ p.n) : -1 ≤ (p.char a).1 ∧ (p.char a).1 ≤ 1114111 := by
 unfold Pt.char nextP;split
 ·exact ⟨Int.le_refl _, by simp⟩
 ·unfold stepv;simp only [Int.toNat_natCast];split
  ·rename_i h;obtain ⟨_, h⟩ := h;unfold seqAt at h ⊢;by_cases h1 : len0 (p.g a) = 0 ∨ (p.n : Int) - a < len0 (p.g a)
   ·rw [if_pos h1] at h;exact absurd h (by decide)
   ·rw [if_neg h1] at h ⊢;by_cases h2 : conts p.g a (len0 (p.g a) - 1).toNat = true ∧ wid (acc p.g a (head0 (len0 (p.g a))) (len0 (p.g a) - 1).toNat) = len0 (p.g a)
    ·rw [if_pos h2] at h ⊢;have := wid_cases (acc p.g a (head0 (len0 (p.g a))) (len0 (p.g a) - 1).toNat);simp only at h ⊢;omega
    ·rw [if_neg h2] at h;exact absurd h (by decide)
  ·have := hg a;simp only;omega
theorem ownR_new {w : World} {b0 B : Nat} {x y : Int} (hb : b0 ≤ B) (hB : B = w.heap.size) : OwnR (w.alloc (.cells #[.int .i64 x, .int .i64 y] 69)) b0 (.slice (some ⟨B, 0, none⟩) 1 1) [(x, y)] := by subst hB;refine ⟨⟨rfl, Or.inr ⟨w.heap.size, 1, #[.int .i64 x, .int .i64 y], rfl, hb, heap_alloc_new w _, xL _, by decide, rfl, rfl⟩⟩, fun h => absurd h (by simp)⟩
theorem insR_len : ∀ (a b : Int) (S : List Rg), (insR a b S).length ≤ S.length + 1
 | _, _, [] => by simp [insR]
 | a, b, r :: S => by
  unfold insR;split
  ·simp
  ·split
   ·have := insR_len a b S;simp only [dB];omega
   ·have := insR_len (min a r.1) (max b r.2) S;simp only [dB];omega
theorem yg (m : Int) : ∀ l : List Rg, (normR m l).length ≤ l.length
 | [] => xL _
 | r :: l => by
  have := yg m l;have h2 := insR_len (max r.1 0) (min r.2 m) (normR m l);unfold normR;split
  ·simp only [dB];omega
  ·simp only [dB];omega
structure Poke (g : Nat) (w w' : World) : Prop where
 os : w'.os = w.os
 tape : w'.tape = w.tape
 output : w'.output = w.output
 size : w.heap.size ≤ w'.heap.size
 other : ∀ k, k ≠ g → w'.heap[k]? = w.heap[k]?
theorem Poke.trans {g : Nat} {a b c : World} (h : Poke g a b) (k : Poke g b c) : Poke g a c := ⟨k.os.trans h.os, k.tape.trans h.tape, k.output.trans h.output, Nat.le_trans h.size k.size, fun i hi => (k.other i hi).trans (h.other i hi)⟩
theorem Kept.poke {L B g : Nat} {a w w' : World} (h : Kept B L a w) (hp : Poke g w w') (hg : B ≤ g) : Kept B L a w' := h.trans ⟨hp.os, hp.tape, hp.output, hp.size, fun k hk _ => hp.other k (by omega)⟩
end tkw
end
section
namespace tkp
open sq
open Go utfp ucdp setp prp tkw
theorem run_stop {p : Pt} {fits : Int → Bool} : ∀ {l k a : Nat}, (∀ i, i < l → a + i < p.n ∧ fits (p.g (a + i)) = true) → (a + l = p.n ∨ fits (p.g (a + l)) = false) → l ≤ k → p.run fits k a = a + l
 | 0, k, a, _, h, _ => by
  cases k with
  | zero => rfl
  | succ k =>
   unfold Pt.run;rw [if_neg]
   ·rfl
   ·rcases h with h | h
    ·simp only [dK, dF]; omega
    ·rw [show fits (p.g a) = false from h]; simp
 | l + 1, k, a, h1, h2, h3 => by obtain ⟨k, rfl⟩ : ∃ q, k = q + 1 := ⟨k - 1, by omega⟩;have h0 := h1 0 (by omega);unfold Pt.run;rw [if_pos (by simp only [dK, dF]; exact ⟨h0.1, h0.2⟩)];rw [run_stop (l := l) (k := k) (a := a + 1) (fun i hi => by have := h1 (i + 1) (by omega); rwa [show a + 1 + i = a + (i + 1) by omega]) (by rwa [show a + 1 + l = a + (l + 1) by omega]) (by omega)];omega
end tkp
end
section
namespace rtw
open sq
open Go Go.RowKit Go.Maps utfp utfw ucdp setp setw prp tkp rtp
open tkw (sg sg_bd vJ jM qK tkR qO qM vI)
theorem gb {S : ByteArray} {p : Pt} (h : Pat S p) : ∀ (i : Nat) (hi : i < S.size), ((S[i]'hi).toNat : Int) = p.g i := by
 intro i hi;rw [pat_g h i];have : i < S.data.toList.length := by rw [Array.length_toList]; exact hi
 rw [show S.data.toList.getD i 0 = S.data.toList[i] by rw [List.getD, List.getElem?_eq_getElem this]; rfl, Array.getElem_toList];rfl
theorem jS {S : ByteArray} {p : Pt} (h : Pat S p) (i : Nat) : 0 ≤ p.g i ∧ p.g i ≤ 255 := by rw [h.g]; exact sg_bd S i
def Same (v : Value) (w : World) (e : Ending) (w' : World) : Prop := e = .returned v ∧ w = w'
theorem digit_any (c : Int) (w : World) (_h0 : 0 ≤ c) (_h1 : c ≤ 255) : Calls Try.prog 104 #[.int .u8 c] w (Same (.bool (isDig c)) w) := by
 by_cases a : 48 ≤ c
 ·by_cases b : c ≤ 57
  ·have HR := xH (show isDig c = true by simp [isDig, a, b]);go_enter Try.func104, Try.ntmps104
   go_wp2
   go_ret
   rw [HR.out];exact ⟨rfl, rfl⟩
  ·have HR := xH (show isDig c = false by simp [isDig, b]);go_enter Try.func104, Try.ntmps104
   go_wp2
   go_ret
   rw [HR.out];exact ⟨rfl, rfl⟩
 ·have HR := xH (show isDig c = false by simp [isDig, a]);go_enter Try.func104, Try.ntmps104
  go_wp2
  go_ret
  rw [HR.out];exact ⟨rfl, rfl⟩
theorem letter_any (c : Int) (w : World) (h0 : 0 ≤ c) (h1 : c ≤ 255) : Calls Try.prog 97 #[.int .u8 c] w (Same (.bool (isLet c)) w) := by
 by_cases a : 97 ≤ c
 ·by_cases b : c ≤ 122
  ·have HR := xH (show isLet c = true by simp [isLet, a, b]);go_enter Try.func97, Try.ntmps97
   go_wp2
   go_ret
   rw [HR.out];exact ⟨rfl, rfl⟩
  ·have HR := xH (show isLet c = false by simp [isLet, b]; omega);have d : ¬ c ≤ 90 := by omega
   have d2 : 65 ≤ c := by omega
   go_enter Try.func97, Try.ntmps97
   go_wp2
   go_ret
   rw [HR.out];exact ⟨rfl, rfl⟩
 ·by_cases b : 65 ≤ c
  ·by_cases d : c ≤ 90
   ·have HR := xH (show isLet c = true by simp [isLet, b, d]);go_enter Try.func97, Try.ntmps97
    go_wp2
    go_ret
    rw [HR.out];exact ⟨rfl, rfl⟩
   ·have HR := xH (show isLet c = false by simp [isLet, a, d]);go_enter Try.func97, Try.ntmps97
    go_wp2
    go_ret
    rw [HR.out];exact ⟨rfl, rfl⟩
  ·have HR := xH (show isLet c = false by simp [isLet, a, b]);go_enter Try.func97, Try.ntmps97
   go_wp2
   go_ret
   rw [HR.out];exact ⟨rfl, rfl⟩
def hexN (c : Int) : Int := if zn c = true then hexV c else -1
def simN (c : Int) : Int := if ji c = 0 then -1 else ji c
theorem isHexd_dig {c : Int} (h : isDig c = true) : zn c = true := by simp [zn, h]
theorem dig_bd {c : Int} : isDig c = true ↔ 48 ≤ c ∧ c ≤ 57 := by simp [isDig]
theorem hex_any (c : Int) (w : World) (h0 : 0 ≤ c) (h1 : c ≤ 255) : Calls Try.prog 117 #[.int .u8 c] w (Same (.int .i64 (hexN c)) w) := by
 have D := xH (digit_any c w h0 h1);cases hd : isDig c with
 | true =>
  have := dig_bd.1 hd;have HR := xH (show hexN c = c - 48 by unfold hexN; rw [if_pos (isHexd_dig hd)]; unfold hexV; rw [if_pos this.2]);rw [hd] at D;clear hd;exact z126
 | false =>
  rw [hd] at D;have hnd : ¬ (48 ≤ c ∧ c ≤ 57) := fun e => by rw [dig_bd.2 e] at hd; cases hd
  by_cases a : 97 ≤ c ∧ c ≤ 102
  ·obtain ⟨a1, a2⟩ := a;have HR := xH (show hexN c = c - 97 + 10 by unfold hexN; rw [if_pos (by simp [zn, a1, a2])]; unfold hexV; rw [if_neg (by omega), if_neg (by omega)]; omega);clear hd hnd;exact z126
  ·by_cases b : 65 ≤ c ∧ c ≤ 70
   ·obtain ⟨a1, a2⟩ := b;have a3 : ¬ 97 ≤ c := by omega
    have HR := xH (show hexN c = c - 65 + 10 by unfold hexN; rw [if_pos (by simp [zn, a1, a2])]; unfold hexV; rw [if_neg (by omega), if_pos (by omega)]; omega);clear hd hnd a;exact z126
   ·have HR := xH (show hexN c = -1 by unfold hexN; rw [if_neg (by simp [zn, hd]; omega)]);rcases (show (c < 65) ∨ (70 < c ∧ c < 97) ∨ (102 < c) by omega) with x | ⟨x, y⟩ | x
    all_goals
     clear hd hnd a b;exact z126
theorem simple_any (c : Int) (w : World) : Calls Try.prog 91 #[.int .i64 c] w (Same (.int .i64 (simN c)) w) := by
 by_cases h : c = 97 ∨ c = 101 ∨ c = 102 ∨ c = 110 ∨ c = 114 ∨ c = 116
 ·rcases h with rfl | rfl | rfl | rfl | rfl | rfl
  all_goals
   go_enter Try.func91, Try.ntmps91
   go_wp2
   go_ret
   exact ⟨rfl, rfl⟩
 ·have h1 : ¬ c = 97 := by omega
  have h2 : ¬ c = 101 := by omega
  have h3 : ¬ c = 102 := by omega
  have h4 : ¬ c = 110 := by omega
  have h5 : ¬ c = 114 := by omega
  have h6 : ¬ c = 116 := by omega
  have HR := xH (show simN c = -1 by simp [simN, ji, h1, h2, h3, h4, h5, h6]);clear h;go_enter Try.func91, Try.ntmps91
  go_wp2
  go_ret
  rw [HR.out];exact ⟨rfl, rfl⟩
theorem assert_any (c : Int) (w : World) : Calls Try.prog 93 #[.int .i64 c] w (Same (.int .i64 (vZ c)) w) := by
 by_cases h : c = 98 ∨ c = 66 ∨ c = 65 ∨ c = 122 ∨ c = 90 ∨ c = 71
 ·rcases h with rfl | rfl | rfl | rfl | rfl | rfl
  all_goals
   go_enter Try.func93, Try.ntmps93
   go_wp2
   go_ret
   exact ⟨rfl, rfl⟩
 ·have h1 : ¬ c = 98 := by omega
  have h2 : ¬ c = 66 := by omega
  have h3 : ¬ c = 65 := by omega
  have h4 : ¬ c = 122 := by omega
  have h5 : ¬ c = 90 := by omega
  have h6 : ¬ c = 71 := by omega
  have HR := xH (show vZ c = 0 by simp [vZ, h1, h2, h3, h4, h5, h6]);clear h;go_enter Try.func93, Try.ntmps93
  go_wp2
  go_ret
  rw [HR.out];exact ⟨rfl, rfl⟩
def numV (v : Int) : Int := if 255 < v then 1000 else v
theorem val_in {p : Pt} {a : Nat} : ∀ {l : Nat}, (∀ i, i < l → a + i < p.n ∧ isDig (p.g (a + i)) = true) → 0 ≤ p.val a l ∧ p.val a l ≤ 256
 | 0, _ => by simp [Pt.val]
 | l + 1, h => by
  have ih := val_in (l := l) fun i hi => h i (by omega)
  have := dig_bd.1 (h l (by omega)).2;unfold Pt.val;omega
theorem num_of {p : Pt} {a l : Nat} (hp : p.n ≤ 1000) (h : ∀ i, i < l → a + i < p.n ∧ isDig (p.g (a + i)) = true) (hs : a + l = p.n ∨ isDig (p.g (a + l)) = false) : num p a = (numV (p.val a l), a + l, decide (255 < p.val a l)) := by
 have hl : l ≤ 1000 := by
  rcases l with _ | l
  ·omega
  ·have := (h l (by omega)).1; omega
 have hr : p.run isDig 1000 a = a + l := run_stop h hs hl;unfold num Pt.digits numV;rw [hr, Nat.add_sub_cancel_left]
theorem numV_in {v : Int} (h0 : 0 ≤ v) (h1 : v ≤ 256) : 0 ≤ numV v ∧ numV v ≤ 1000 := by unfold numV; split <;> omega
def NumRel (w : World) (B : Nat) (S : ByteArray) (p : Pt) (a : Nat) (vi vn vg : Value) (wr : World) : Prop :=
 ∃ l : Nat, a + l ≤ S.size ∧ Hid (∀ i, i < l → a + i < p.n ∧ isDig (p.g (a + i)) = true) ∧ vi = .int .i64 ((a + l : Nat) : Int) ∧ vn = .int .i64 (numV (p.val a l)) ∧ vg = .bool (decide (255 < p.val a l)) ∧ FR w B S p wr
theorem vY (S : ByteArray) (p : Pt) (w : World) (hP : Pat S p) (a : Nat) (ha : a ≤ p.n) : Calls Try.prog 69 #[txV S p, .int .i64 a] w (fun e w' => e = .returned (.tuple #[.int .i64 (num p a).1, .int .i64 ((num p a).2.1 : Nat), .bool (num p a).2.2]) ∧ Below w.heap.size w w') := by
 have hn := hP.n;have h2 := hP.le;rw [hn] at ha;have HP := xH hP;have HN := xH hn;unfold txV txC;clear hP hn;go_enter Try.func69, Try.ntmps69;go_upto_region 1 with (fail)
 generalize hW : (w.alloc _) = W;have F0 := xH (zG (S := S) (p := p) hW);obtain ⟨B, hB⟩ : ∃ B, w.heap.size = B := ⟨_, rfl⟩;rw [hB] at F0 ⊢;clear hW hB;go_wp2_with fail
 go_loopw [1, 7, 8] (fun vi vn vg wr => NumRel w B S p a vi vn vg wr) (fun vi _ _ _ => S.size - (intOf vi).toNat)
 case atStart => exact ⟨0, ha, xH (fun i h => absurd h (Nat.not_lt_zero i)), rfl, rfl, rfl, F0.out⟩
 case round =>
  obtain ⟨l, hl, hd, rfl, rfl, rfl, hF⟩ := hrel;have F1 := xH hF;clear hF;obtain ⟨c0, c1, c2, c3⟩ := F1.out.c;have hgb := gb HP.out;have HV := xH (val_in hd.out);obtain ⟨hv0, hv1⟩ := numV_in HV.out.1 HV.out.2;by_cases hlt : a + l < S.size
  ·have hbd := jS HP.out (a + l);generalize hVV : numV (p.val a l) = V at *;have HVV := xH hVV;clear hVV;go_wp2_with fail
   refine (digit_any _ _ hbd.1 hbd.2).mono ?_;rintro e w1 ⟨rfl, rfl⟩;cases hdg : isDig (p.g (a + l)) with
   | false =>
    go_wp2_with fail
    go_ret3
    rw [num_of (l := l) (by rw [HN.out]; exact h2) hd.out (Or.inr hdg), HVV.out];exact ⟨rfl, F1.out.bel⟩
   | true =>
    have h10 := dig_bd.1 hdg;have HD := xH (show ∀ i, i < l + 1 → a + i < p.n ∧ isDig (p.g (a + i)) = true from fun i hi => by
     by_cases e : i = l
     ·subst e; exact ⟨by rw [HN.out]; exact hlt, hdg⟩
     ·exact hd.out i (by omega))
    have hvs : p.val a (l + 1) = min (p.val a l * 10 + (p.g (a + l) - 48)) 256 := rfl;have HVS := xH hvs;clear hvs;obtain ⟨hb0, hb1⟩ := hbd;obtain ⟨hb2, hb3⟩ := h10;go_wp2_with fail
    ·rename_i hx;refine ⟨⟨l + 1, by omega, HD, rfl, ?_, ?_, F1.out⟩, by simp only [intOf]; omega⟩
     ·have h1 := HV.out;have h2 := HVS.out;have h3 := HVV.out;rw [show numV (p.val a (l + 1)) = 1000 by unfold numV at h3 ⊢; split at h3 <;> rw [if_pos] <;> omega]
     ·have h1 := HV.out;have h2 := HVS.out;have h3 := HVV.out;rw [decide_eq_true];unfold numV at h3;split at h3 <;> omega
    ·rename_i hx;have h1 := HV.out;have h2 := HVS.out;have h3 := HVV.out;have h4 : p.val a l ≤ 255 := by unfold numV at h3; split at h3 <;> omega
     have h5 : V = p.val a l := by unfold numV at h3; rw [if_neg (by omega)] at h3; exact h3.symm
     refine ⟨⟨l + 1, by omega, HD, rfl, ?_, ?_, F1.out⟩, by simp only [intOf]; omega⟩
     ·rw [show numV (p.val a (l + 1)) = V * 10 + p.g (a + l) - 48 by unfold numV; rw [if_neg (by omega)]; omega]
     ·rw [decide_eq_false (by omega), decide_eq_false (by omega)]
  ·go_wp2_with fail
   go_ret3
   rw [num_of (l := l) (by rw [HN.out]; exact h2) hd.out (Or.inl (by rw [HN.out]; omega))];exact ⟨rfl, F1.out.bel⟩
end rtw
end
section
namespace setw
open sq
open Go Go.RowKit bulk ucdp ucdw setp
theorem join2_any (v1 v2 : Value) (l1 l2 : List Rg) (most : Int) (w : World) (hv1 : RsAt w v1 l1) (hv2 : RsAt w v2 l2) (hl1 : l1.length ≤ 100000) (hl2 : l2.length ≤ 100000) (h1 : -9223372036854775808 ≤ most) (h2 : most ≤ 9223372036854775807) :
 Calls Try.prog 110 #[.int .i64 2, v1, v2, .int .i64 most] w (JoinB 2 l1 l2 (min most 1114111) w) := by
 have HV1 := xH hv1;have HV2 := xH hv2;obtain ⟨a1, q1, rfl⟩ := jg hv1;obtain ⟨a2, q2, rfl⟩ := jg hv2;have HL := xH (show ([] : List Rg).length + l1.length ≤ 100000000 by simp; omega);have HL2 := xH (show ([] ++ l1 : List Rg).length + l2.length ≤ 100000000 by simp; omega);have HL3 := xH (show ([] ++ l1 ++ l2 : List Rg).length ≤ 1000000 by simp; omega);have HL4 := xH hl1;have HL5 := xH hl2;have HM := xH h1;have HM2 := xH h2;clear hv1 hv2 hl1 hl2 h1 h2;go_enter Try.func110, Try.ntmps110;go_wp2_with (first
  | (at_builtin; refine jb rfl _ _ rfl w.heap.size (.slice none 0 0) [] rfl (qm _ _) _ l1 rfl HV1.out HL.out (xL _) ?_; intro va wa hoa hba; have HOa := xH hoa; have HBa := xH (hba _ _ (Below.refl _ _) (xL _)); clear hoa hba)
  | (at_builtin; refine jb rfl _ _ rfl w.heap.size va ([] ++ l1) rfl HOa.out _ l2 rfl (jl HV2.out HBa.out) HL2.out HBa.out.size ?_; intro vb wb hob hbb; have HOb := xH hob; have HBb := xH (hbb _ _ HBa.out (xL _)); clear hob hbb))
 refine (edges_any vb ([] ++ l1 ++ l2) most wb (vP HOb.out (fun r hr => by rw [List.nil_append] at hr; exact (List.mem_append.1 hr).elim (fun h => HV1.out.1 r h) (fun h => HV2.out.1 r h))) HL3.out HM.out HM2.out).mono ?_;rintro e w4 ⟨ve, E, rfl, hE, hEd, hb4⟩;rw [List.nil_append] at hEd;obtain ⟨ae, qe, rfl⟩ := intsAt_len hE;have HE := xH hE;have HD := xH hEd;have HB4 := xH (HBb.out.trans (hb4.mono HBb.out.size));have hEl : E.length ≤ 1000000 := by exact z116
 clear hE hEd hb4;go_wp2_with fail
 go_loopw [11, 12] (fun v i wr => JoRel 2 l1 l2 E w4 v i wr) (fun _ i _ => E.length - (intOf i).toNat)
 case atStart => exact ⟨0, [], Or.inr rfl, rfl, qm _ _, ji_start HD.out, Below.refl _ _⟩
 case round =>
  obtain ⟨k, O, hk, rfl, ho, hJ, hb⟩ := hrel;have HO := xH ho;have HJ := xH hJ;have HB := xH hb;have HK := xH hk;have HBw := xH (HB4.out.trans (hb.mono HB4.out.size));have HF1 := xH (jl HV1.out HBw.out);have HF2 := xH (jl HV2.out HBw.out);have hwk : IntKind.i64.wrap ((k : Int) + 1) = (k : Int) + 1 := IntWalk.i64_in _ (by omega);clear ho hJ hb hk;by_cases hlt : k + 1 < E.length
  ·have hlti : (k : Int) + 1 < (E.length : Int) := by omega
   have hki : (k : Int) < (E.length : Int) := by omega
   have hk0 : (0 : Int) ≤ (k : Int) + 1 := by omega
   rcases HE.out with ⟨h0, _⟩ | ⟨_, b, cap, hve, _, hbb, _, _, hc⟩
   ·rw [h0] at hlt; simp at hlt
   cases hve;have hm : 0 ≤ min most 1114111 := by
    rcases HD.out with ⟨h, _⟩ | ⟨h, _⟩
    ·rw [h] at hlt; simp at hlt
    ·exact h
   have hEP : EP (EQ (l1 ++ l2) (min most 1114111)) (2 * (l1 ++ l2).length + 2) E := by
    rcases HD.out with ⟨h, _⟩ | ⟨_, h⟩
    ·rw [h] at hlt; simp at hlt
    ·exact h
   have c01 := hc k (by omega);have c02 := hc (k + 1) hlt;rw [show E.getD k 0 = E[k] by simp [List.getD, show k < E.length by omega]] at c01;rw [show E.getD (k + 1) 0 = E[k + 1] by simp [List.getD, hlt]] at c02;have c1 := qf HB.out c01;have c2 := qf HB.out c02;have C1 := xH c01;have C2 := xH c02;clear c01 c02;have bd1 := yh hm hEP (dI (show k < E.length by omega));have bd2 := yh hm hEP (dI hlt);have HO1 := xH (fun hq => ji_out hm hEP hlt HJ.out hq);have HO2 := xH (fun hq hl => ji_app hm (by omega) hEP hlt HJ.out hq hl);have HO3 := xH (fun (hq : qB 2 l1 l2 E[k] = true) (W0 : List Rg) (p r : Int) (h : O = W0 ++ [(p, r)]) (hr : r + 1 = E[k]) => ji_mrg hm (by omega) hEP hlt HJ.out hq h hr);have HI1 := xH (rin_any _ l1 E[k] wr HF1.out (by have := HL4.out; omega));have HI2 := xH (rin_any _ l2 E[k] wr HF2.out (by have := HL5.out; omega));have hE1 : E[k] ≤ 1114112 := by omega
   have hE2 : E[k + 1] ≤ 1114112 := by omega
   have hE3 : 0 ≤ E[k] := bd1.1;have hE4 : 0 ≤ E[k + 1] := bd2.1;clear hc bd1 bd2 hm hEP;unfold qB at HO1 HO2 HO3;generalize E[k] = x at *;generalize E[k + 1] = y at *;generalize hasB l1 x = p1 at *;generalize hasB l2 x = p2 at *;have hwy : IntKind.i64.wrap (y - 1) = y - 1 := IntWalk.i64_in _ (by omega);go_wp2_with fail
   refine HI1.out.mono ?_;rintro e wr ⟨rfl, rfl⟩;go_wp2_with fail
   refine HI2.out.mono ?_;rintro e wr ⟨rfl, rfl⟩;go_upto_region 11 with (fail)
   go_cut [15] from 25 to 103 (fun c wx => c = .bool (p1 || p2) ∧ wx = wr)
   case first =>
    cases p1 <;> cases p2 <;> (go_wp2_with fail; go_meet; exact ⟨rfl, rfl⟩)
   case rest =>
    obtain ⟨rfl, rfl⟩ := hcut;go_upto_region 15 with (fail)
    go_cut [15] from 25 to 103 (fun c wx => c = .bool (inP 2 p1 p2) ∧ wx = wc)
    case first =>
     cases p1 <;> cases p2 <;> (go_wp2_with fail; go_meet; exact ⟨rfl, rfl⟩)
    case rest =>
    obtain ⟨rfl, rfl⟩ := hcut;cases hq : inP 2 p1 p2
    ·have HJ1 := xH (HO1.out hq);exact z177
    ·rcases List.eq_nil_or_concat O with hO | ⟨W0, ⟨p, r⟩, hO⟩
     ·subst hO;exact z146
     ·subst hO;exact z145
  ·go_wp2_with fail
   go_ret
   have he := ji_end HD.out HJ.out HK.out hlt;exact ⟨_, O, rfl, he.1, he.2, ownR_mono HO.out HB4.out.size, HBw.out⟩
theorem join0_any (v1 v2 : Value) (l1 l2 : List Rg) (most : Int) (w : World) (hv1 : RsAt w v1 l1) (hv2 : RsAt w v2 l2) (hl1 : l1.length ≤ 100000) (hl2 : l2.length ≤ 100000) (h1 : -9223372036854775808 ≤ most) (h2 : most ≤ 9223372036854775807) :
 Calls Try.prog 110 #[.int .i64 0, v1, v2, .int .i64 most] w (JoinB 0 l1 l2 (min most 1114111) w) := by
 have HV1 := xH hv1;have HV2 := xH hv2;obtain ⟨a1, q1, rfl⟩ := jg hv1;obtain ⟨a2, q2, rfl⟩ := jg hv2;have HL := xH (show ([] : List Rg).length + l1.length ≤ 100000000 by simp; omega);have HL2 := xH (show ([] ++ l1 : List Rg).length + l2.length ≤ 100000000 by simp; omega);have HL3 := xH (show ([] ++ l1 ++ l2 : List Rg).length ≤ 1000000 by simp; omega);have HL4 := xH hl1;have HL5 := xH hl2;have HM := xH h1;have HM2 := xH h2;clear hv1 hv2 hl1 hl2 h1 h2;go_enter Try.func110, Try.ntmps110;go_wp2_with (first
  | (at_builtin; refine jb rfl _ _ rfl w.heap.size (.slice none 0 0) [] rfl (qm _ _) _ l1 rfl HV1.out HL.out (xL _) ?_; intro va wa hoa hba; have HOa := xH hoa; have HBa := xH (hba _ _ (Below.refl _ _) (xL _)); clear hoa hba)
  | (at_builtin; refine jb rfl _ _ rfl w.heap.size va ([] ++ l1) rfl HOa.out _ l2 rfl (jl HV2.out HBa.out) HL2.out HBa.out.size ?_; intro vb wb hob hbb; have HOb := xH hob; have HBb := xH (hbb _ _ HBa.out (xL _)); clear hob hbb))
 refine (edges_any vb ([] ++ l1 ++ l2) most wb (vP HOb.out (fun r hr => by rw [List.nil_append] at hr; exact (List.mem_append.1 hr).elim (fun h => HV1.out.1 r h) (fun h => HV2.out.1 r h))) HL3.out HM.out HM2.out).mono ?_;rintro e w4 ⟨ve, E, rfl, hE, hEd, hb4⟩;rw [List.nil_append] at hEd;obtain ⟨ae, qe, rfl⟩ := intsAt_len hE;have HE := xH hE;have HD := xH hEd;have HB4 := xH (HBb.out.trans (hb4.mono HBb.out.size));have hEl : E.length ≤ 1000000 := by exact z116
 exact z1
theorem qB_union (a b : List Rg) (c : Int) : qB 0 a b c = true ↔ Has a c ∨ Has b c := by unfold qB inP;simp [zX]
theorem qB_not (a b : List Rg) (c : Int) : qB 2 a b c = true ↔ ¬ Has a c := by unfold qB inP;rw [← zX];simp
theorem rs_nil (w : World) : RsAt w (.slice none 0 0) [] := ⟨fun r hr => (by cases hr), Or.inl ⟨rfl, none, 0, rfl, by omega⟩⟩
def DocS (q : Int → Prop) (w : World) (e : Ending) (w' : World) : Prop := ∃ v S, e = .returned v ∧ Canon S ∧ (∀ c, Has S c ↔ q c) ∧ OwnR w' w.heap.size v S ∧ Below w.heap.size w w'
theorem rnew_any (v : Value) (l : List Rg) (most : Int) (w : World) (hv : RsAt w v l) (hl : l.length ≤ 100000) (h1 : -9223372036854775808 ≤ most) (h2 : most ≤ 9223372036854775807) :
 Calls Try.prog 75 #[v, .int .i64 most] w (DocS (fun c => Has l c ∧ 0 ≤ c ∧ c ≤ min most 1114111) w) := by
 have HJ := xH (join0_any v (.slice none 0 0) l [] most w hv (rs_nil w) hl (by simp) h1 h2);exact z34
theorem join0w_any (v1 v2 : Value) (l1 l2 : List Rg) (most : Int) (w : World) (hv1 : RsAt w v1 l1) (hv2 : RsAt w v2 l2) (hl1 : l1.length ≤ 600000) (hl2 : l2.length ≤ 400000) (h1 : -9223372036854775808 ≤ most) (h2 : most ≤ 9223372036854775807) :
 Calls Try.prog 110 #[.int .i64 0, v1, v2, .int .i64 most] w (JoinB 0 l1 l2 (min most 1114111) w) := by
 have HV1 := xH hv1;have HV2 := xH hv2;obtain ⟨a1, q1, rfl⟩ := jg hv1;obtain ⟨a2, q2, rfl⟩ := jg hv2;have HL := xH (show ([] : List Rg).length + l1.length ≤ 100000000 by simp; omega);have HL2 := xH (show ([] ++ l1 : List Rg).length + l2.length ≤ 100000000 by simp; omega);have HL3 := xH (show ([] ++ l1 ++ l2 : List Rg).length ≤ 1000000 by simp; omega);have HL4 := xH hl1;have HL5 := xH hl2;have HM := xH h1;have HM2 := xH h2;clear hv1 hv2 hl1 hl2 h1 h2;go_enter Try.func110, Try.ntmps110;go_wp2_with (first
  | (at_builtin; refine jb rfl _ _ rfl w.heap.size (.slice none 0 0) [] rfl (qm _ _) _ l1 rfl HV1.out HL.out (xL _) ?_; intro va wa hoa hba; have HOa := xH hoa; have HBa := xH (hba _ _ (Below.refl _ _) (xL _)); clear hoa hba)
  | (at_builtin; refine jb rfl _ _ rfl w.heap.size va ([] ++ l1) rfl HOa.out _ l2 rfl (jl HV2.out HBa.out) HL2.out HBa.out.size ?_; intro vb wb hob hbb; have HOb := xH hob; have HBb := xH (hbb _ _ HBa.out (xL _)); clear hob hbb))
 refine (edges_any vb ([] ++ l1 ++ l2) most wb (vP HOb.out (fun r hr => by rw [List.nil_append] at hr; exact (List.mem_append.1 hr).elim (fun h => HV1.out.1 r h) (fun h => HV2.out.1 r h))) HL3.out HM.out HM2.out).mono ?_;rintro e w4 ⟨ve, E, rfl, hE, hEd, hb4⟩;rw [List.nil_append] at hEd;obtain ⟨ae, qe, rfl⟩ := intsAt_len hE;have HE := xH hE;have HD := xH hEd;have HB4 := xH (HBb.out.trans (hb4.mono HBb.out.size));have hEl : E.length ≤ 3000000 := by exact z116
 exact z1
end setw
end
section
namespace ucdw
open sq
open Go Go.RowKit bulk ucdp
def refC (r : Int × Int × Nat × Nat × Int) : List Value := [.int .i64 r.1, .int .i64 r.2.1, .string (catB r.2.2.1), .string (scrB r.2.2.2.1), .int .i64 r.2.2.2.2]
def refCs (l : List (Int × Int × Nat × Nat × Int)) : List Value := l.flatMap refC
def RowsNew (l : List (Int × Int × Nat × Nat × Int)) (w : World) (e : Ending) (w' : World) : Prop := e = .returned (.slice (some ⟨w.heap.size, 0, none⟩) l.length l.length) ∧ w' = w.alloc (.cells (refCs l).toArray 173)
theorem low_any (w : World) : Calls Try.prog 133 #[] w (RowsNew low w) := by
 go_enter Try.func133, Try.ntmps133;go_upto_region 1 with (fail)
 refine wp_region_list ?_;refine wpList_bulk_x 30 (w.alloc (.cells (refCs low).toArray 173)) (by kernel_rfl) ?_;generalize hA : acts _ _ _ _ = A;have e1 : A.eval (.tmp 30) = .slice (some ⟨w.heap.size, 0, none⟩) 29 29 := by rw [← hA]; kernel_rfl
 have ez : A.tmps.size = 31 := by rw [← hA]; kernel_rfl
 have ed : A.defers = [] := by rw [← hA]; kernel_rfl
 clear hA;show wpList _ _ _ [_] _ _;refine wpList_value rfl (run_assign rfl e1) ?_;have e0 := eval_put_same (a := A) (d := 0) (v := .slice (some ⟨w.heap.size, 0, none⟩) 29 29) (by omega);have ed2 : (A.put (some 0) (.slice (some ⟨w.heap.size, 0, none⟩) 29 29)).defers = [] := ed;generalize A.put (some 0) (.slice (some ⟨w.heap.size, 0, none⟩) 29 29) = B at *;refine wpList_nil ?_
 go_step
 go_step
 go_step
 refine xB (results_tmp rfl _ _ _) ed2 ⟨?_, rfl⟩;rw [getD_of_eval e0];rfl
theorem high_any (w : World) : Calls Try.prog 134 #[] w (RowsNew high w) := by
 go_enter Try.func134, Try.ntmps134;go_upto_region 1 with (fail)
 refine wp_region_list ?_;refine wpList_bulk_x 53 (w.alloc (.cells (refCs high).toArray 173)) (by kernel_rfl) ?_;generalize hA : acts _ _ _ _ = A;have e1 : A.eval (.tmp 53) = .slice (some ⟨w.heap.size, 0, none⟩) 52 52 := by rw [← hA]; kernel_rfl
 have ez : A.tmps.size = 54 := by rw [← hA]; kernel_rfl
 have ed : A.defers = [] := by rw [← hA]; kernel_rfl
 clear hA;show wpList _ _ _ [_] _ _;refine wpList_value rfl (run_assign rfl e1) ?_;have e0 := eval_put_same (a := A) (d := 0) (v := .slice (some ⟨w.heap.size, 0, none⟩) 52 52) (by omega);have ed2 : (A.put (some 0) (.slice (some ⟨w.heap.size, 0, none⟩) 52 52)).defers = [] := ed;generalize A.put (some 0) (.slice (some ⟨w.heap.size, 0, none⟩) 52 52) = B at *;refine wpList_nil ?_
 go_step
 go_step
 go_step
 refine xB (results_tmp rfl _ _ _) ed2 ⟨?_, rfl⟩;rw [getD_of_eval e0];rfl
end ucdw
end
end Go.Proofs.Ytdgfclbajjjcgaa
