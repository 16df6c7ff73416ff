/- T -/
import Derived.Laws.BytesArg
import Derived.Test.YtnpcombfgdbhkaaDoorBPs03
set_option maxHeartbeats 16000000
set_option maxRecDepth 1000000
section
namespace Go.Proofs.YtnpcombfgdbhkaaDoor.utfw
open sq
open Go Go.RowKit utfp
def atR (g : Nat → Int) (n p : Nat) : Int × Int := if 0 < (seqAt g n p).2 then seqAt g n p else (-1, 0)
theorem atR_yes {g : Nat → Int} {n p k : Nat} (hk1 : 1 ≤ k) (hk : p + k ≤ n) (h : 0 ≤ ofP k (sh g p)) : atR g n p = (ofP k (sh g p), (k : Int)) := by unfold atR;rw [seq_of_of hk1 hk h];rw [if_pos (by simp only; omega)]
theorem atR_no {g : Nat → Int} {n p k : Nat} (hg : ∀ i, 0 ≤ g i ∧ g i ≤ 255) (hk : 4 < k ∨ n < p + k) (h : ∀ j, 1 ≤ j → j < k → ofP j (sh g p) < 0) : atR g n p = (-1, 0) := by
 unfold atR;have hb := seqAt_num (n := n) (p := p) hg;split
 ·rename_i hs;have h1 := of_of_seq (n := n) (p := p) (k := (seqAt g n p).2.toNat) hg (by omega) (by omega);have h2 := h (seqAt g n p).2.toNat (by omega) (by
   rcases seqAt_bd (n := n) (p := p) hg with h0 | h0
   ·rw [h0] at hs; simp at hs
   ·omega)
  omega
 ·rfl
theorem atR_bd {g : Nat → Int} {n p : Nat} (hg : ∀ i, 0 ≤ g i ∧ g i ≤ 255) : -1 ≤ (atR g n p).1 ∧ (atR g n p).1 ≤ 1114111 ∧ 0 ≤ (atR g n p).2 ∧ (atR g n p).2 ≤ 4 ∧ ((p : Int) ≤ n → (p : Int) + (atR g n p).2 ≤ n) := by
 have hb := seqAt_num (n := n) (p := p) hg;unfold atR;split
 ·exact ⟨by omega, hb.2.1, hb.2.2.1, hb.2.2.2.1, hb.2.2.2.2⟩
 ·exact ⟨by simp, by simp, by simp, by simp, by simp⟩
def TwoB (r : Int × Int) (w : World) (e : Ending) (w' : World) : Prop := e = .returned (.tuple #[.int .i64 r.1, .int .i64 r.2]) ∧ Below w.heap.size w w'
theorem twoB {r : Int × Int} {w w' : World} {a s : Int} (h : r = (a, s)) (hb : Below w.heap.size w w') : TwoB r w (.returned (.tuple #[.int .i64 a, .int .i64 s])) w' := by unfold TwoB; rw [h]; exact ⟨rfl, hb⟩
def NumBoolB (r : Int × Bool) (w : World) (e : Ending) (w' : World) : Prop := e = .returned (.tuple #[.int .i64 r.1, .bool r.2]) ∧ Below w.heap.size w w'
theorem numBoolB {r : Int × Bool} {w w' : World} {a : Int} {s : Bool} (h : r = (a, s)) (hb : Below w.heap.size w w') : NumBoolB r w (.returned (.tuple #[.int .i64 a, .bool s])) w' := by unfold NumBoolB; rw [h]; exact ⟨rfl, hb⟩
theorem at_any (b off n cap : Nat) (g : Nat → Int) (P : Int) (p : Nat) (hP : P = p) (hp : p < n) (hn : n ≤ 140737488355328) (w : World) (hg : ∀ i, 0 ≤ g i ∧ g i ≤ 255)
 (hcap : n ≤ cap ∧ cap ≤ 9223372036854775807) (hc : ∀ i, i < n → w.cell? ⟨b, off + i, none⟩ = some (.int .u8 (g i))) :
 Calls Tryd.prog 31 #[.slice (some ⟨b, off, none⟩) n cap, .int .i64 P] w (TwoB (atR g n p) w) := by
 subst hP;have HO := xH (fun (wr : World) (k : Nat) (hk : k = 1 ∨ k = 2 ∨ k = 3 ∨ k = 4) (hkp : p + k ≤ n) (hb : Below w.heap.size w wr) =>
  of_any b (off + p) k (cap - p) (sh g p) hk wr (fun i => hg (p + i)) (by omega) (fun i hi => by rw [Nat.add_assoc]; exact qf hb (hc (p + i) (by omega))))
 have HY := xH (fun (k : Nat) (h1 : 1 ≤ k) (h2 : p + k ≤ n) (h3 : 0 ≤ ofP k (sh g p)) => atR_yes h1 h2 h3);have HN := xH (fun (k : Nat) (h1 : 4 < k ∨ n < p + k) (h2 : ∀ j, 1 ≤ j → j < k → ofP j (sh g p) < 0) => atR_no hg h1 h2);generalize atR g n p = R at *;obtain ⟨hcap1, hcap2⟩ := hcap;clear hg hc;go_enter Tryd.func31, Tryd.ntmps31
 go_wp2
 go_loopw [6] (fun c wr => ∃ k : Nat, 1 ≤ k ∧ k ≤ 5 ∧ c = .int .i64 k ∧ Hid (∀ j, 1 ≤ j → j < k → ofP j (sh g p) < 0) ∧ Below w.heap.size w wr) (fun c _ => (5 - intOf c).toNat)
 case atStart => exact ⟨1, by omega, by omega, rfl, xH (by intro j _ _; omega), Below.refl _ _⟩
 case round =>
  obtain ⟨k, hk1, hk5, rfl, HK, hb⟩ := hrel;by_cases hk4 : k ≤ 4
  ·by_cases hkn : p + k ≤ n
   ·have C := HO.out wr k (by omega) hkn hb;have Hy := HY.out k hk1 hkn;have Hk := fun (h : ofP k (sh g p) < 0) => (show ∀ j, 1 ≤ j → j < k + 1 → ofP j (sh g p) < 0 from fun j h1 h2 => by
     by_cases e : j = k
     ·subst e; exact h
     ·exact HK.out j h1 (by omega))
    generalize ofP k (sh g p) = c at C Hy Hk;have HC := xH C;have Hyy := xH Hy;have Hkk := xH Hk;clear C Hy Hk;by_cases hs : 0 ≤ c
    ·go_wp2_with (go_at_call 51; refine HC.out.mono ?_; rintro e w' ⟨rfl, hb2⟩)
     go_ret2
     exact twoB (Hyy.out hs) (qi hb hb2)
    ·go_wp2_with (go_at_call 51; refine HC.out.mono ?_; rintro e w' ⟨rfl, hb2⟩)
     go_roundw
     case rel => exact ⟨k + 1, by omega, by omega, by go_num, xH (Hkk.out (by omega)), qi hb hb2⟩
     case measure => simp [intOf]; omega
   ·have HE := xH (HN.out k (by omega) HK.out);have hkn2 : n < p + k := by omega
    clear hkn
    go_wp2
    go_ret2
    exact twoB HE.out hb
  ·have HE := xH (HN.out k (by omega) HK.out);have hk4' : 5 ≤ k := by omega
   clear hk4
   go_wp2
   go_ret2
   exact twoB HE.out hb
theorem nextR {u : Bool} {g : Nat → Int} {n p : Nat} : stepv u g n p = if u = true ∧ 0 < (atR g n p).2 then ((atR g n p).1, (p : Int) + (atR g n p).2) else (g p, (p : Int) + 1) := by
 unfold stepv atR;by_cases h : 0 < (seqAt g n p).2
 ·rw [if_pos h]
 ·rw [if_neg h];rw [if_neg (by simpa using fun _ => Int.not_lt.1 h), if_neg (by simp)]
theorem rnext_any (v : Value) (n : Nat) (g : Nat → Int) (a : Int) (u : Bool) (w : World) (hv : Sl w v n g) :
 Calls Tryd.prog 32 #[v, .int .i64 a, .bool u] w (TwoB (nextP u g n a) w) := by
 obtain ⟨hg, hn, hv⟩ := hv;by_cases h0 : a < 0
 ·have HR := xH (show nextP u g n a = (-1, a) by unfold nextP; rw [if_pos (by omega)]);rcases hv with ⟨rfl, a0, c0, rfl, hc0⟩ | ⟨b, off, cap, rfl, hcap, hc⟩
  all_goals
   clear hg;go_enter Tryd.func32, Tryd.ntmps32
   go_wp2
   go_ret2
   exact twoB HR.out (Below.refl _ _)
 by_cases h1 : (n : Int) ≤ a
 ·have HR := xH (show nextP u g n a = (-1, a) by unfold nextP; rw [if_pos (by omega)]);rcases hv with ⟨rfl, a0, c0, rfl, hc0⟩ | ⟨b, off, cap, rfl, hcap, hc⟩
  all_goals
   clear hg;go_enter Tryd.func32, Tryd.ntmps32
   go_wp2
   go_ret2
   exact twoB HR.out (Below.refl _ _)
 rcases hv with ⟨rfl, a0, c0, rfl, hc0⟩ | ⟨b, off, cap, rfl, hcap, hc⟩
 ·omega
 obtain ⟨p, rfl⟩ := Int.eq_ofNat_of_zero_le (show 0 ≤ a by omega);have hp : p < n := by omega
 have hN : nextP u g n (p : Int) = stepv u g n p := by unfold nextP; rw [if_neg (by omega)]; simp
 rw [hN, nextR];have hcell := hc p hp;have hgp := hg p;obtain ⟨hg1, hg2⟩ := hgp;have C := at_any b off n cap g p p rfl hp hn w hg hcap hc;have hq := atR_bd (n := n) (p := p) hg;unfold TwoB at C;generalize atR g n p = q at *;obtain ⟨c, s⟩ := q;simp only at hq C ⊢;obtain ⟨q1, q2, q3, q4, q5⟩ := hq;have q6 := q5 (by omega);have HC := xH C;obtain ⟨hcap1, hcap2⟩ := hcap;cases u with
 | false =>
  rw [if_neg (by simp)];clear hN hg hc h0 h1 C q5;go_enter Tryd.func32, Tryd.ntmps32;go_wp2_with (go_at_call 31; refine HC.out.mono ?_; rintro e w' ⟨rfl, hb⟩; have hcell2 := qf hb hcell)
  go_ret2
  exact twoB rfl hb
 | true =>
  by_cases hs : 0 < s
  ·rw [if_pos ⟨rfl, hs⟩];clear hN hg hc h0 h1 C q5 hcell;go_enter Tryd.func32, Tryd.ntmps32;go_wp2_with (go_at_call 31; refine HC.out.mono ?_; rintro e w' ⟨rfl, hb⟩)
   go_ret2
   exact twoB rfl hb
  ·rw [if_neg (by simpa using hs)];clear hN hg hc h0 h1 C q5;go_enter Tryd.func32, Tryd.ntmps32;go_wp2_with (go_at_call 31; refine HC.out.mono ?_; rintro e w' ⟨rfl, hb⟩; have hcell2 := qf hb hcell)
   go_ret2
   exact twoB rfl hb
theorem validR {g : Nat → Int} {n p : Nat} (hg : ∀ i, 0 ≤ g i ∧ g i ≤ 255) (hp : p < n) : yl g n n p = if (atR g n p).2 = 0 then ((p : Int), false) else yl g n n (p + (atR g n p).2.toNat) := by
 rw [validP_step hg hp];have := seqAt_num (n := n) (p := p) hg;unfold atR;by_cases h : 0 < (seqAt g n p).2
 ·rw [if_pos h]
 ·rw [if_neg h];rw [if_pos (by omega), if_pos rfl]
theorem rvalid_any (v : Value) (n : Nat) (g : Nat → Int) (w : World) (hv : Sl w v n g) :
 Calls Tryd.prog 18 #[v] w (NumBoolB (validP g n) w) := by
 obtain ⟨hg, hn, hv⟩ := hv;rcases hv with ⟨rfl, a0, c0, rfl, hc0⟩ | ⟨b, off, cap, rfl, hcap, hc⟩
 ·clear hg;go_enter Tryd.func18, Tryd.ntmps18
  go_wp2
  go_loopw [4] (fun a wr => a = .int .i64 0 ∧ Below w.heap.size w wr) (fun a _ => (intOf a).toNat)
  case atStart => exact ⟨rfl, Below.refl _ _⟩
  case round =>
   obtain ⟨rfl, hd⟩ := hrel
   go_wp2
   go_ret2
   exact numBoolB rfl hd
 have HS := xH (fun (wr : World) (p : Nat) (hp : p < n) (hd : Below w.heap.size w wr) => at_any b off n cap g p p rfl hp hn wr hg hcap (fun i hi => qf hd (hc i hi)));have HB := xH (fun p : Nat => atR_bd (n := n) (p := p) hg);have HV := xH (fun p h => validR (g := g) (n := n) (p := p) hg h);have HE := xH (fun p h => validP_end (g := g) (n := n) (p := p) h);have H0 : validP g n = yl g n n 0 := rfl;generalize validP g n = R at *;have HR := xH H0;obtain ⟨hcap1, hcap2⟩ := hcap;clear hg hc H0;go_enter Tryd.func18, Tryd.ntmps18
 go_wp2
 go_loopw [4] (fun a wr => ∃ p : Nat, p ≤ n ∧ a = .int .i64 p ∧ Hid (R = yl g n n p) ∧ Below w.heap.size w wr) (fun a _ => n - (intOf a).toNat)
 case atStart => exact ⟨0, Nat.zero_le _, rfl, HR, Below.refl _ _⟩
 case round =>
  obtain ⟨p, hp, rfl, HK, hd⟩ := hrel;by_cases hpn : p < n
  ·have C := HS.out wr p hpn hd;have hbd := HB.out p;have hst := HV.out p hpn;unfold TwoB at C;generalize atR g n p = r at *;obtain ⟨c, s⟩ := r;simp only at hbd C hst;obtain ⟨q1, q2, q3, q4, q5⟩ := hbd;have q6 := q5 (by omega);have HC := xH C;have Hst := xH hst;clear C hst q5;by_cases hs : s = 0
   ·have hsb : (s == 0) = true := by simp [hs]
    have Hs := xH hs;clear hs;go_wp2_with (go_at_call 31; refine HC.out.mono ?_; rintro e w' ⟨rfl, hd2⟩)
    go_ret2
    exact numBoolB (by rw [HK.out, Hst.out, if_pos Hs.out]) (qi hd hd2)
   ·have hsb : (s == 0) = false := by simp [hs]
    have Hs := xH hs;have q7 : 1 ≤ s := by omega
    clear hs;go_wp2_with (go_at_call 31; refine HC.out.mono ?_; rintro e w' ⟨rfl, hd2⟩)
    go_roundw
    case rel => exact ⟨p + s.toNat, by omega, by rw [show ((p + s.toNat : Nat) : Int) = p + s from by omega], xH (by rw [HK.out, Hst.out, if_neg Hs.out]), qi hd hd2⟩
    case measure => simp [intOf]; omega
  ·have hE := xH (HE.out p (by omega))
   go_wp2
   go_ret2
   exact numBoolB (by rw [HK.out, hE.out]) hd
end Go.Proofs.YtnpcombfgdbhkaaDoor.utfw
end
section
namespace Go.Proofs.YtnpcombfgdbhkaaDoor.rtw
open sq
open Go Go.RowKit Go.Maps utfp utfw ucdp setp setw prp tkp rtp
open tkw (sg sg_bd vJ jM qK tkR qO qM vI)
structure Pat (S : ByteArray) (p : Pt) : Prop where
 g : p.g = sg S
 n : p.n = S.size
 le : S.size ≤ 1000
def txC (S : ByteArray) (p : Pt) : Array Value := #[.string S, .bool p.u, .bool p.x, .int .i64 p.most]
def txV (S : ByteArray) (p : Pt) : Value := .agg (txC S p)
structure XB (w : World) (B : Nat) (S : ByteArray) (p : Pt) : Prop where
 h : w.heap[B]? = some (.cells (txC S p) 46 (0, 0))
theorem zi {w : World} {B : Nat} {o : Obj} (h : w.heap[B]? = some o) : B < w.heap.size := by apply Classical.byContradiction;intro hn;rw [Array.getElem?_eq_none (by omega)] at h;cases h
theorem XB.below {w w' : World} {B k : Nat} {S : ByteArray} {p : Pt} (h : XB w B S p) (hb : Below k w w') (hk : B < k) : XB w' B S p := ⟨(hb.block B hk).trans h.h⟩
theorem XB.lt {w : World} {B : Nat} {S : ByteArray} {p : Pt} (h : XB w B S p) : B < w.heap.size := zi h.h
theorem XB.after {w w' : World} {B : Nat} {S : ByteArray} {p : Pt} (h : XB w B S p) (hb : Below w.heap.size w w') : XB w' B S p := h.below hb h.lt
structure XC (w : World) (B : Nat) (S : ByteArray) (p : Pt) : Prop where
 c0 : w.cell? ⟨B, 0, none⟩ = some (.string S)
 c1 : w.cell? ⟨B, 1, none⟩ = some (.bool p.u)
 c2 : w.cell? ⟨B, 2, none⟩ = some (.bool p.x)
 c3 : w.cell? ⟨B, 3, none⟩ = some (.int .i64 p.most)
theorem XB.c {w : World} {B : Nat} {S : ByteArray} {p : Pt} (h : XB w B S p) : XC w B S p := by have h := h.h;refine ⟨?_, ?_, ?_, ?_⟩ <;> (simp [World.cell?, h, txC])
def BB (r : Bool) (w : World) (e : Ending) (w' : World) : Prop := e = .returned (.bool r) ∧ Below w.heap.size w w'
def gtC (v : Value) : G → Array Value
 | .error x => #[.int .i64 0, .int .i64 0, .int .i64 0, .int .i64 0, v, .bool false, .int .i64 0, .int .i64 0, .int .i64 0, .string ⟨#[]⟩, .int .i64 0, .int .i64 0, .bool false, .int .i64 0, .int .i64 x.1, .int .i64 x.2]
 | .ok (none, b) => #[.int .i64 0, .int .i64 0, .int .i64 0, .int .i64 0, v, .bool false, .int .i64 0, .int .i64 0, .int .i64 0, .string ⟨#[]⟩, .int .i64 0, .int .i64 0, .bool false, .int .i64 b, .int .i64 0, .int .i64 0]
 | .ok (some t, b) => #[.int .i64 t.kind, .int .i64 t.at_, .int .i64 t.to, .int .i64 t.c, v, .bool t.neg, .int .i64 t.n, .int .i64 t.m, .int .i64 t.mode, .string t.name, .int .i64 t.on, .int .i64 t.off, .bool true, .int .i64 b, .int .i64 0, .int .i64 0]
def gtS : G → List Rg
 | .ok (some t, _) => t.set
 | _ => []
theorem jw (v : Value) : ∀ r : G, (gtC v r).size = 16
 | .error _ => rfl
 | .ok (none, _) => rfl
 | .ok (some _, _) => rfl
theorem jO {w : World} {b : Nat} {v : Value} {D : List Rg} (h : OwnR w b v D) : ∀ r : G, ∀ u ∈ (gtC v r).toList, u.oneCell' = true := by
 obtain ⟨x, y, rfl⟩ : ∃ x y, v = .slice x D.length y := qN h;intro r u hu;rcases r with x | ⟨_ | t, b⟩
 all_goals
  simp only [gtC, List.mem_cons, List.not_mem_nil, or_false] at hu;rcases hu with rfl | rfl | rfl | rfl | rfl | rfl | rfl | rfl | rfl | rfl | rfl | rfl | rfl | rfl | rfl | rfl <;> rfl
def GotB (w : World) (r : G) (e : Ending) (w' : World) : Prop := ∃ v, e = .returned (.agg (gtC v r)) ∧ OwnR w' w.heap.size v (gtS r) ∧ Below w.heap.size w w'
theorem gotInfo : (Tryd.prog.info? 55).map (·.size) = some 16 := by kernel_rfl
theorem sizeG (w : World) : (sizeOf 55).run Tryd.prog w = .ok 16 w := by kernel_rfl
theorem run_store_got (w : World) (g : Nat) (old cs : Array Value) (hg : w.heap[g]? = some (.cells old 55 (0, 0))) (hs : old.size = 16) (hc : cs.size = 16) (h1 : ∀ u ∈ cs.toList, u.oneCell' = true) :
 (storeVar 55 ⟨g, 0, none⟩ (.agg cs)).run Tryd.prog w = .ok () (w.setRow g cs) := by
 have h := run_storeCells_at (P := Tryd.prog) g 0 55 cs.toList 0 old w hg (by simp; omega) h1;have e : (old.toList.take (0 + 0) ++ cs.toList ++ old.toList.drop (0 + 0 + cs.toList.length)).toArray = cs := by have h2 : old.toList.drop (0 + 0 + cs.toList.length) = [] := List.drop_eq_nil_of_le (by simp; omega);rw [h2];simp
 rw [e] at h;unfold storeVar;simp [Sem.run_bind, Value.cells, hc, Result.andThen, h]
theorem qJ {ops : Array Oper} {rest : List Oper} {o : Oper} {a : Act} {w : World} {Q : Exit → Act → World → Prop} (hgd : o.guard = none) (hd : o.dst = none) (x y : Operand) (ho : o.op = .store 55 x y)
 (g : Nat) (hx : a.eval x = .pointer (some ⟨g, 0, none⟩)) (old cs : Array Value) (hg : w.heap[g]? = some (.cells old 55 (0, 0))) (hs : old.size = 16) (hc : cs.size = 16) (h1 : ∀ u ∈ cs.toList, u.oneCell' = true) (hy : a.eval y = .agg cs)
 (h : wpList Tryd.prog ops Q rest a (w.setRow g cs)) : wpList Tryd.prog ops Q (o :: rest) a w :=
 wpList_plain hgd fun K hK => by unfold Oper.wp execOp;simp only [ho, hx, hy, Instr.storeAt, Instr.sureAddr, Sem.run_bind, Sem.run_pure, Result.andThen_ok, run_store_got w g old cs hg hs hc h1];have := hK _ _ h;simpa [Oper.upon, hd, Act.put] using this
theorem qW {fn : Func} {p : Tmp} (h : fn.results = #[.cell p 55]) (tmps : Array Value) (w : World) (g : Nat) (cs : Array Value) (hp : tmps.getD p undef = .pointer (some ⟨g, 0, none⟩)) (hg : w.heap[g]? = some (.cells cs 55 (0, 0))) (hc : cs.size = 16) :
 (results fn tmps).run Tryd.prog w = .ok (.agg cs) w := by
 exact results_cell_row h tmps w g 55 cs (0, 0) _ hp hg Tryd.underlying55 rfl (by rw [gotInfo, hc])
theorem below_setRow {B : Nat} {a w : World} (h : Below B a w) {g : Nat} (hg : B ≤ g) (cs : Array Value) : Below B a (w.setRow g cs) :=
 h.trans ⟨rfl, rfl, rfl, by rw [tkw.setRow_size]; exact Nat.le_refl _, fun k hk => tkw.setRow_other w g k cs (by omega)⟩
theorem ownR_setRowG {w : World} {base g : Nat} {v : Value} {D : List Rg} {old cs : Array Value} (h : OwnR w base v D) (hg : w.heap[g]? = some (.cells old 55 (0, 0))) : OwnR (w.setRow g cs) base v D := by
 refine ⟨tkw.jJ h.1 fun k hk => tkw.setRow_other w g k cs ?_, h.2⟩;rintro rfl;obtain ⟨_, ⟨rfl, _⟩ | ⟨g1, c1, cu1, rfl, _, k1, _⟩⟩ := h.1
 ·cases hk
 ·simp only [Value.ownBlock, Option.some.injEq] at hk;subst hk;rw [hg] at k1;simp only [Option.some.injEq, Obj.cells.injEq] at k1;exact absurd k1.2.1 (by decide)
theorem got_end {w w1 : World} {v : Value} {r : G} {G0 : Nat} {old : Array Value} (hg : w1.heap[G0]? = some (.cells old 55 (0, 0))) (ho : OwnR w1 w.heap.size v (gtS r)) (hb : Below w.heap.size w w1) (hG : w.heap.size ≤ G0) : GotB w r (.returned (.agg (gtC v r))) (w1.setRow G0 (gtC v r)) :=
 ⟨v, rfl, ownR_setRowG ho hg, below_setRow hb hG _⟩
theorem has_list (L : List UInt8) {p : Pt} (hg : ∀ j, p.g j = ((L.getD j 0).toNat : Int)) (hn : p.n = L.length) : ∀ (l : List UInt8) (a : Nat), p.has l a = true ↔ (L.drop a).take l.length = l
 | [], a => by simp [Pt.has]
 | c :: l, a => by
  have ih := has_list L hg hn l (a + 1);unfold Pt.has;simp only [Bool.and_eq_true, decide_eq_true_eq, hn, ih, hg];by_cases ha : a < L.length
  ·rw [List.drop_eq_getElem_cons ha, List.length_cons, List.take_succ_cons, show L.getD a 0 = L[a] by simp [List.getD, ha]];simp only [List.cons.injEq];constructor
   ·rintro ⟨⟨_, h1⟩, h2⟩;exact ⟨UInt8.toNat_inj.1 (by omega), h2⟩
   ·rintro ⟨h1, h2⟩;exact ⟨⟨ha, by rw [h1]⟩, h2⟩
  ·have hd : L.drop a = [] := List.drop_eq_nil_of_le (by omega);rw [hd];simp [ha]
theorem extract_list (S : ByteArray) (i k : Nat) : (S.extract i (i + k)).toList = (S.data.toList.drop i).take k := by rw [Lib.toList_data, ByteArray.data_extract, Array.toList_extract];show (S.data.toList.drop i).take (i + k - i) = _;rw [Nat.add_sub_cancel_left]
theorem pat_g {S : ByteArray} {p : Pt} (h : Pat S p) (j : Nat) : p.g j = ((S.data.toList.getD j 0).toNat : Int) := by rw [h.g]; rfl
theorem pat_len {S : ByteArray} {p : Pt} (h : Pat S p) : p.n = S.data.toList.length := by rw [h.n]; exact Array.length_toList.symm
theorem has_ext {S : ByteArray} {p : Pt} (h : Pat S p) (l : List UInt8) (i : Nat) : ((S.extract i (i + l.length)).toList == l) = p.has l i := by rw [Bool.eq_iff_iff, has_list _ (pat_g h) (pat_len h), extract_list, beq_iff_eq]
theorem has_not {S : ByteArray} {p : Pt} (h : Pat S p) (l : List UInt8) (i : Nat) (hi : i ≤ p.n ∨ l ≠ []) (hl : S.size < i + l.length) : p.has l i = false := by
 rw [Bool.eq_false_iff];intro e;have e2 := (has_list _ (pat_g h) (pat_len h) l i).1 e;have h3 := congrArg List.length e2;rw [List.length_take, List.length_drop, ← pat_len h] at h3;have hn := h.n;rcases hi with hi | hi
 ·omega
 ·have : l.length ≠ 0 := fun e => hi (List.length_eq_zero_iff.1 e)
  omega
theorem qw (e a : Int) (w : World) : Calls Tryd.prog 39 #[.int .i64 e, .int .i64 a] w (GotB w (.error (e, a))) := by
 go_enter Tryd.func39, Tryd.ntmps39;go_wp2_with fail
 refine bodyPost_ret (qW rfl _ _ w.heap.size (gtC (.slice none 0 0) (.error (e, a))) rfl (heap_alloc_new _ _) rfl) rfl ?_;exact ⟨_, rfl, qm _ _, qK _ _⟩
def TokB (w : World) (v : Value) (t : Tk) (f b : Int) (e : Ending) (w' : World) : Prop := e = .returned (.agg #[.int .i64 t.kind, .int .i64 f, .int .i64 b, .int .i64 t.c, v, .bool t.neg, .int .i64 t.n, .int .i64 t.m, .int .i64 t.mode, .string t.name, .int .i64 t.on, .int .i64 t.off, .bool true, .int .i64 b, .int .i64 0, .int .i64 0]) ∧ Below w.heap.size w w'
theorem tok0_any (v : Value) (t : Tk) (f b : Int) (w : World) {D : List Rg} {k : Nat} (hv : OwnR w k v D) : Calls Tryd.prog 36 #[.agg (tkR v t), .int .i64 f, .int .i64 b] w (TokB w v t f b) := by
 obtain ⟨x, y, rfl⟩ : ∃ x y, v = .slice x D.length y := qN hv;generalize D.length = n at *;unfold tkR;clear hv;go_enter Tryd.func36, Tryd.ntmps36;go_wp2_with fail
 refine bodyPost_ret (qW rfl _ _ (w.heap.size + 1) _ rfl (by first | (rw [show w.heap.size + 1 = (World.alloc w _).heap.size from (World.size_alloc ..).symm]; exact heap_alloc_new _ _) | trace_state) rfl) rfl ?_;exact ⟨rfl, (qK _ _).trans ((qK _ _).mono (by simp [World.size_alloc]))⟩
theorem jG {w w' : World} {b : Nat} {v : Value} {D : List Rg} (h : OwnR w b v D) (hb : Below w.heap.size w w') : OwnR w' b v D :=
 ⟨tkw.jJ h.1 fun k hk => hb.block k (World.ownsRow.lt h.1 k hk).2, h.2⟩
theorem qF (v : Value) (t : Tk) (f b : Nat) (w : World) {k : Nat} (hv : OwnR w k v t.set) : Calls Tryd.prog 36 #[.agg (tkR v t), .int .i64 f, .int .i64 b] w (fun e w' => e = .returned (.agg (gtC v (gtok t f b))) ∧ OwnR w' k v (gtS (gtok t f b)) ∧ Below w.heap.size w w') :=
 (tok0_any v t f b w hv).mono fun _ _ ⟨h1, h2⟩ => ⟨h1, jG hv h2, h2⟩
structure FR (w : World) (B : Nat) (S : ByteArray) (p : Pt) (W : World) : Prop where
 hB : w.heap.size = B
 below : Below B w W
 x : XB W B S p
theorem FR.step {w W W' : World} {B : Nat} {S : ByteArray} {p : Pt} (h : FR w B S p W) (hb : Below W.heap.size W W') : FR w B S p W' :=
 ⟨h.hB, h.below.trans (hb.mono (Nat.le_of_lt h.x.lt)), h.x.after hb⟩
theorem FR.c {w W : World} {B : Nat} {S : ByteArray} {p : Pt} (h : FR w B S p W) : XC W B S p := h.x.c
theorem FR.bel {w W : World} {B : Nat} {S : ByteArray} {p : Pt} (h : FR w B S p W) : Below w.heap.size w W := by rw [h.hB]; exact h.below
structure FG (w : World) (B : Nat) (S : ByteArray) (p : Pt) (W : World) : Prop extends FR w B S p W where
 g : ∃ old, W.heap[B + 1]? = some (.cells old 55 (0, 0)) ∧ old.size = 16
theorem FG.step {w W W' : World} {B : Nat} {S : ByteArray} {p : Pt} (h : FG w B S p W) (hb : Below W.heap.size W W') : FG w B S p W' :=
 ⟨h.toFR.step hb, by obtain ⟨old, h1, h2⟩ := h.g; exact ⟨old, (hb.block _ (zi h1)).trans h1, h2⟩⟩
theorem zG {w W : World} {S : ByteArray} {p : Pt} (hW : w.alloc (.cells (txC S p) 46) = W) : FR w w.heap.size S p W := by subst hW;exact ⟨rfl, qK _ _, ⟨heap_alloc_new _ _⟩⟩
theorem fg_start {w W : World} {S : ByteArray} {p : Pt} (hW : (w.alloc (.cells (txC S p) 46)).alloc (.cells (gtC (.slice none 0 0) (.error (0, 0))) 55) = W) : FG w w.heap.size S p W := by subst hW;refine ⟨(zG rfl).step (qK _ _), gtC (.slice none 0 0) (.error (0, 0)), ?_, rfl⟩;rw [show w.heap.size + 1 = (w.alloc (.cells (txC S p) 46)).heap.size from (World.size_alloc ..).symm];exact heap_alloc_new _ _
theorem fg_end {w W : World} {B : Nat} {S : ByteArray} {p : Pt} {v : Value} {r : G} (h : FG w B S p W) {k : Nat} (ho : OwnR W k v (gtS r)) (hk : B ≤ k) : GotB w r (.returned (.agg (gtC v r))) (W.setRow (B + 1) (gtC v r)) := by obtain ⟨old, h1, h2⟩ := h.g;have hB := h.hB;exact got_end h1 (qM ho (by omega)) (by rw [hB]; exact h.below) (by omega)
theorem end_any (S : ByteArray) (p : Pt) (w : World) (hP : Pat S p) : Calls Tryd.prog 52 #[txV S p] w (GotB w (.error (20, p.n))) := by
 rw [hP.n];have h2 := hP.le;unfold txV txC;clear hP;go_enter Tryd.func52, Tryd.ntmps52;go_upto_region 1 with (fail)
 generalize hW : (w.alloc _).alloc _ = W;have F0 := xH (fg_start (S := S) (p := p) hW);obtain ⟨B, hB⟩ : ∃ B, w.heap.size = B := ⟨_, rfl⟩;rw [hB] at F0 ⊢;clear hW hB;obtain ⟨c0, c1, c2, c3⟩ := F0.out.c;go_wp2_with fail
 refine (qw _ _ _).mono ?_;rintro e w1 ⟨v, rfl, ho, hb⟩;have F1 := xH (F0.out.step hb);have HO := xH (qM ho (Nat.le_of_lt F0.out.x.lt));clear hb ho c0 c1 c2 c3;obtain ⟨old, hg, hz⟩ := F1.out.g;have HG := xH hg;clear hg;go_wp2_with (refine qJ rfl rfl _ _ rfl (B + 1) rfl _ _ HG.out hz (jw v _) (jO HO.out _) rfl ?_)
 refine bodyPost_ret (qW rfl _ _ (B + 1) _ rfl (setRow_heap _ _ _ _ _ _ HG.out) (jw v _)) rfl ?_;exact fg_end F1.out HO.out (Nat.le_refl _)
theorem qG (S : ByteArray) (p : Pt) (w : World) (hP : Pat S p) (i : Nat) (hi : i ≤ 100000) (l : List UInt8) (t : ByteArray) (ht : t = ⟨l.toArray⟩) (hl : l.length ≤ 1000) (hi2 : i ≤ p.n ∨ l ≠ []) : Calls Tryd.prog 19 #[txV S p, .int .i64 i, .string t] w (BB (p.has l i) w) := by
 have HS := xH hP.n;have h2 := hP.le;have H1 := xH (has_ext hP l i);have H2 := xH (has_not hP l i hi2);have htl : t.toList = l := by rw [ht, Lib.toList_data]
 have hts : t.size = l.length := by rw [ht]; simp [ByteArray.size]
 have HT := xH htl;have HZ := xH hts;have hz2 : t.size ≤ 1000 := by omega
 unfold txV txC;clear hP htl hts ht hi2;go_enter Tryd.func19, Tryd.ntmps19;go_wp2_with fail
 ·go_ret
  refine ⟨?_, qK _ _⟩;rw [← H1.out, ← HZ.out, ← HT.out];rfl
 ·rename_i h;rw [H2.out (by have := HZ.out; omega)]
  go_ret
  exact ⟨rfl, qK _ _⟩
theorem char_any (S : ByteArray) (p : Pt) (w : World) (hP : Pat S p) (i : Nat) (hi : i < p.n) : Calls Tryd.prog 20 #[txV S p, .int .i64 i] w (fun e w' => e = .returned (.tuple #[.int .i64 (p.char i).1, .int .i64 ((p.char i).2 : Nat)]) ∧ Below w.heap.size w w') := by
 have hn := hP.n;have h2 := hP.le;have hi2 : i ≤ 1000 := by omega
 have HQ := xH (show ((p.char i).1, (((p.char i).2 : Nat) : Int)) = nextP p.u (sg S) S.size i by have h := (tkw.char_pure (p := p) (by rw [hP.g]; exact sg_bd S) (a := i) (by omega)).1;rw [← h, hP.g, hP.n])
 generalize (p.char i).1 = c at *;generalize (p.char i).2 = z at *;unfold txV txC;clear hP hi;go_enter Tryd.func20, Tryd.ntmps20;go_upto_region 1 with (fail)
 generalize hW : (w.alloc _) = W;have F0 := xH (zG (S := S) (p := p) hW);obtain ⟨B, hB⟩ : ∃ B, w.heap.size = B := ⟨_, rfl⟩;rw [hB] at F0 ⊢;clear hW hB;obtain ⟨c0, c1, c2, c3⟩ := F0.out.c;obtain ⟨hcv, hsl⟩ := vJ W S h2;have HSL := xH hsl;have HBW := xH (jM W S);clear hsl;have F1 := xH (F0.out.step HBW.out);obtain ⟨d0, d1, d2, d3⟩ := F1.out.c;generalize Lib.bytesWorld W 5 S = W1 at *;go_wp2_with fail
 refine (rnext_any _ _ _ i p.u _ HSL.out).mono ?_;rintro e w1 ⟨rfl, hb⟩;rw [← HQ.out];have F2 := xH (F1.out.step hb);clear hb;go_wp2_with fail
 go_ret2
 exact ⟨rfl, F2.out.bel⟩
end Go.Proofs.YtnpcombfgdbhkaaDoor.rtw
end
section
namespace Go.Proofs.YtnpcombfgdbhkaaDoor.rtw
open Go Go.RowKit rtp setp setw
open tkw (qM)
theorem xG {w W : World} {B : Nat} {S : ByteArray} {p : Go.Proofs.YtnpcombfgdbhkaaDoor.tkp.Pt} (h : Hid (FG w B S p W)) : ∃ old, Hid (W.heap[B + 1]? = some (.cells old 55 (0, 0))) ∧ old.size = 16 := by obtain ⟨old, a, b⟩ := h.out.g;exact ⟨old, Lib.hid a, b⟩
theorem xR {ops : Array Oper} {rest : List Oper} {o : Oper} {a : Act} {w : World} {Q : Exit → Act → World → Prop} {g b : Nat} {old : Array Value} {v : Value} {D : List Rg} {r : G} {x y : Operand} (HG : Hid (w.heap[g]? = some (.cells old 55 (0, 0)))) (hz : old.size = 16) (HO : Hid (OwnR w b v D))
 (hgd : o.guard = none) (hd : o.dst = none) (ho : o.op = .store 55 x y) (hx : a.eval x = .pointer (some ⟨g, 0, none⟩)) (hy : a.eval y = .agg (gtC v r)) (h : wpList Tryd.prog ops Q rest a (w.setRow g (gtC v r))) : wpList Tryd.prog ops Q (o :: rest) a w :=
 qJ hgd hd x y ho g hx old _ HG.out hz (jw v _) (jO HO.out _) hy h
theorem xE {fn : Func} {p : Tmp} {tmps : Array Value} {w : World} {g : Nat} {old : Array Value} {v : Value} {r : G} (HG : Hid (w.heap[g]? = some (.cells old 55 (0, 0)))) (h : fn.results = #[.cell p 55]) (hp : tmps.getD p undef = .pointer (some ⟨g, 0, none⟩)) :
 (results fn tmps).run Tryd.prog (w.setRow g (gtC v r)) = .ok (.agg (gtC v r)) (w.setRow g (gtC v r)) :=
 qW h tmps _ g _ hp (setRow_heap _ _ _ _ _ _ HG.out) (jw v _)
theorem xO {W W' : World} {B : Nat} {S : ByteArray} {p : Go.Proofs.YtnpcombfgdbhkaaDoor.tkp.Pt} {v : Value} {D : List Rg} (hx : XB W B S p) (ho : OwnR W' W.heap.size v D) : Hid (OwnR W' B v D) := Lib.hid (qM ho (Nat.le_of_lt hx.lt))
end Go.Proofs.YtnpcombfgdbhkaaDoor.rtw
end
section
namespace Go.Proofs.YtnpcombfgdbhkaaDoor.trp
open sq
open Go
structure Lab where
 kind : Int
 at_ : Int
 c : Int
 sv : Value
 set : List (Int × Int)
 neg : Bool
 n : Int
 m : Int
 mode : Int
 name : ByteArray
 on : Int
 off : Int
 kv : Value
inductive F where
 | nil
 | cons (x : Lab) (k r : F)
def F.len : F → Nat
 | .nil => 0
 | .cons _ _ r => r.len + 1
def F.size : F → Nat
 | .nil => 0
 | .cons _ k r => k.size + r.size + 1
def F.hd : F → Int
 | .nil => 0
 | .cons x _ _ => x.kind
def F.drop : F → Nat → F
 | f, 0 => f
 | .nil, _ + 1 => .nil
 | .cons _ _ r, n + 1 => r.drop n
abbrev Nd := Lab × F
def pre : List Nat → Nat → F → List (Nd × List Nat)
 | _, _, .nil => []
 | pp, i, .cons x k r => ((x, k), pp ++ [i]) :: (pre (pp ++ [i]) 0 k ++ pre pp (i + 1) r)
def rises : Int → List (Int × Int) → Bool
 | _, [] => true
 | lo, r :: l => decide (lo ≤ r.1) && decide (r.1 ≤ r.2) && decide (r.2 ≤ 1114111) && rises (r.2 + 2) l
def repK (k : Int) : Bool := !(decide (k = 4) || decide (k = 5) || decide (k = 9) || decide (k = 10) || decide (k = 11))
def labEq (x y : Lab) : Bool :=
 decide (x.kind = y.kind) && decide (x.c = y.c) && decide (x.set = y.set) && (x.neg == y.neg) && decide (x.n = y.n) && decide (x.m = y.m) && decide (x.mode = y.mode) && decide (x.name = y.name) && decide (x.on = y.on) && decide (x.off = y.off)
def sameF : F → F → Bool
 | .nil, .nil => true
 | .cons x k r, .cons y k' r' => labEq x y && decide (k.len = k'.len) && sameF k k' && sameF r r'
 | _, _ => false
def sameT (a b : Nd) : Bool := labEq a.1 b.1 && decide (a.2.len = b.2.len) && sameF a.2 b.2
end Go.Proofs.YtnpcombfgdbhkaaDoor.trp
end
section
namespace Go.Proofs.YtnpcombfgdbhkaaDoor.rpp
open sq
open Go tkp trp
structure Ps where
 i : Nat
 op : Nat := 0
 e : Int := 0
 at_ : Int := 0
abbrev nil3 : Value := .slice none 0 0
def lab (kind at_ : Int) : Lab := { kind := kind, at_ := at_, c := 0, sv := nil3, set := [], neg := false, n := 0, m := 0, mode := 0, name := ⟨#[]⟩, on := 0, off := 0, kv := nil3 }
def strip : F → F
 | .nil => .nil
 | .cons x k r => .cons { x with sv := nil3, kv := nil3 } (strip k) (strip r)
def F.app : F → F → F
 | .nil, g => g
 | .cons x k r, g => .cons x k (F.app r g)
def F.one (x : Lab) (k : F) : F := .cons x k .nil
def oneF (kind : Int) : F → F
 | .cons x k .nil => .cons x k .nil
 | l => .cons (lab kind 0) l .nil
def kindS (L : List Tk) (s : Ps) : Int := if s.e ≠ 0 then 0 else match L[s.i]? with
 | none => 0
 | some t => t.kind
def failS (s : Ps) (e a : Int) : Ps := if s.e = 0 then { s with e := e, at_ := a } else s
def leafK (k : Int) : Int := if k = 1 then 1 else if k = 2 then 2 else if k = 3 then 3 else if k = 4 then 4 else if k = 5 then 5 else if k = 6 then 6 else if k = 11 then 7 else if k = 12 then 8 else if k = 13 then 9 else if k = 14 then 10 else 11
def leafL (t : Tk) (sv : Value) : Lab := { kind := leafK t.kind, at_ := t.at_, c := t.c, sv := sv, set := t.set, neg := t.neg, n := t.n, m := t.m, mode := 0, name := t.name, on := t.on, off := t.off, kv := nil3 }
def zeroF : F := F.one (lab 0 0) .nil
def repF (t : Tk) (q : F) : F := F.one { lab 20 t.at_ with n := t.n, m := t.m, mode := t.mode } q
def jf (t : Tk) (look l : F) : F :=
 if t.n = 1 then F.one { lab 14 t.at_ with name := t.name } (oneF 13 l)
 else if t.n = 2 then F.one { lab 15 t.at_ with on := t.on, off := t.off } (oneF 13 l)
 else if t.n = 4 then F.one (lab 17 t.at_) (oneF 13 l)
 else if t.n = 5 ∨ t.n = 6 ∨ t.n = 7 ∨ t.n = 8 then F.one { lab 18 t.at_ with n := t.n } (oneF 13 l)
 else if t.n = 3 then F.one (lab 16 t.at_) l
 else F.one { lab 19 t.at_ with n := t.n, m := t.m, mode := t.mode, name := t.name } (F.app look l)
def condT (t : Tk) : Bool := !(decide (1 ≤ t.n) && decide (t.n ≤ 8))
def zf (t : Tk) (l : F) (s : Ps) : Ps := if condT t = true ∧ (2 < l.len ∨ (1 < l.len ∧ t.n = 12)) then failS s 32 t.at_ else s
def zeroT : Tk := { kind := 0 }
inductive Md where
 | alt (acc : F)
 | seq (acc : F)
 | thing
def run (L : List Tk) : Nat → Md → Ps → F × Ps
 | 0, _, s => (.nil, s)
 | n + 1, .alt acc, s =>
  let r := run L n (.seq .nil) s
  if kindS L r.2 = 7 then run L n (.alt (F.app acc r.1)) { r.2 with i := r.2.i + 1 } else (F.app acc r.1, r.2)
 | n + 1, .seq acc, s =>
  if kindS L s = 0 ∨ kindS L s = 7 ∨ kindS L s = 8 then (oneF 12 acc, s)
  else if kindS L s = 9 then (zeroF, failS s 30 (L.getD s.i zeroT).at_)
  else
   let r := run L n .thing s
   if kindS L r.2 = 9 ∧ repK r.1.hd = true then run L n (.seq (F.app acc (repF (L.getD r.2.i zeroT) r.1))) { r.2 with i := r.2.i + 1 }
   else run L n (.seq (F.app acc r.1)) r.2
 | n + 1, .thing, s =>
  let t := L.getD s.i zeroT
  if t.kind ≠ 10 then (F.one (leafL t nil3) .nil, { s with i := s.i + 1 })
  else if s.op = 40 then (zeroF, failS s 11 t.at_)
  else
   let s1 : Ps := { s with i := s.i + 1, op := s.op + 1 }
   let q := if t.n = 13 ∧ kindS L s1 = 10 then run L n .thing s1 else (.nil, s1)
   let r := run L n (.alt .nil) q.2
   if kindS L r.2 ≠ 8 then (zeroF, failS r.2 20 (-1))
   else (jf t q.1 r.1, zf t r.1 { r.2 with i := r.2.i + 1, op := r.2.op - 1 })
def parseP (L : List Tk) (n : Int) : R F :=
 let r := run L (3 * L.length + 3) (.alt .nil) { i := 0 }
 let s := if r.2.e = 0 ∧ r.2.i < L.length then failS r.2 31 (L.getD r.2.i zeroT).at_ else r.2
 if s.e = 20 then .error (20, n) else if s.e ≠ 0 then .error (s.e, s.at_) else .ok (oneF 13 r.1)
end Go.Proofs.YtnpcombfgdbhkaaDoor.rpp
end
section
namespace Go.Proofs.YtnpcombfgdbhkaaDoor.rpp
open sq
open Go tkp trp
def rem (L : List Tk) (s : Ps) : Nat := if s.e ≠ 0 then 0 else L.length - s.i
structure Inv (L : List Tk) (s q : Ps) : Prop where
 i : s.i ≤ q.i
 n : q.i ≤ L.length
 op : q.op ≤ 40
 e : q.e = 0 → s.e = 0 ∧ q.op = s.op
 r : rem L q ≤ rem L s
theorem Inv.trans {L : List Tk} {a b c : Ps} (h : Inv L a b) (k : Inv L b c) : Inv L a c :=
 ⟨Nat.le_trans h.i k.i, k.n, k.op, fun e => ⟨(h.e (k.e e).1).1, (k.e e).2.trans (h.e (k.e e).1).2⟩, Nat.le_trans k.r h.r⟩
theorem Inv.refl {L : List Tk} {s : Ps} (h1 : s.i ≤ L.length) (h2 : s.op ≤ 40) : Inv L s s := ⟨Nat.le_refl _, h1, h2, fun e => ⟨e, rfl⟩, Nat.le_refl _⟩
theorem zW {L : List Tk} {s : Ps} (h : kindS L s ≠ 0) : s.e = 0 ∧ s.i < L.length ∧ ∃ t, L[s.i]? = some t ∧ kindS L s = t.kind := by
 unfold kindS at *;by_cases he : s.e ≠ 0
 ·rw [if_pos he] at h; exact absurd rfl h
 ·rw [if_neg he] at h ⊢;cases ht : L[s.i]? with
  | none => rw [ht] at h; exact absurd rfl h
  | some t => exact ⟨by simpa using he, (List.getElem?_eq_some_iff.1 ht).1, t, rfl, rfl⟩
theorem inv_fail {L : List Tk} {s : Ps} (h1 : s.i ≤ L.length) (h2 : s.op ≤ 40) {e a : Int} (he : e ≠ 0) : Inv L s (failS s e a) := by
 unfold failS;split
 ·rename_i h0;exact ⟨Nat.le_refl _, h1, h2, fun h => absurd h he, by unfold rem; simp [he]⟩
 ·exact Inv.refl h1 h2
theorem failS_e {s : Ps} {e a : Int} (he : e ≠ 0) : (failS s e a).e ≠ 0 := by
 unfold failS;split
 ·exact he
 ·rename_i h; exact h
theorem rem_ok {L : List Tk} {s : Ps} (h : s.e = 0) : rem L s = L.length - s.i := by unfold rem; rw [if_neg (by simp [h])]
theorem rem_err {L : List Tk} {s : Ps} (h : s.e ≠ 0) : rem L s = 0 := by unfold rem; rw [if_pos h]
theorem rem_le (L : List Tk) {s q : Ps} (h : q.e = 0 → s.e = 0) (hi : s.i ≤ q.i) : rem L q ≤ rem L s := by
 by_cases hq : q.e = 0
 ·rw [rem_ok hq, rem_ok (h hq)]; omega
 ·rw [rem_err hq]; omega
theorem inv_step {L : List Tk} {s : Ps} (h : s.i < L.length) (h2 : s.op ≤ 40) : Inv L s { s with i := s.i + 1 } := by exact ⟨Nat.le_succ _, h, h2, fun e => ⟨e, rfl⟩, rem_le L (fun e => e) (Nat.le_succ _)⟩
theorem rem_lt {L : List Tk} {s q : Ps} (h0 : s.e = 0) (h : s.i < L.length) (hq : q.e ≠ 0 ∨ s.i < q.i) : rem L q < rem L s := by
 rw [rem_ok h0];by_cases hz : q.e = 0
 ·rw [rem_ok hz];rcases hq with hq | hq
  ·exact absurd hz hq
  ·omega
 ·rw [rem_err hz]; omega
theorem zq (L : List Tk) : ∀ (n : Nat) (md : Md) (s : Ps), s.i ≤ L.length → s.op ≤ 40 → (md = .thing → s.e = 0 ∧ s.i < L.length) →
 Inv L s (run L n md s).2 ∧ (md = .thing → n ≠ 0 → (run L n md s).2.e ≠ 0 ∨ s.i < (run L n md s).2.i)
 | 0, _, s, h1, h2, _ => ⟨Inv.refl h1 h2, fun _ h => absurd rfl h⟩
 | n + 1, .alt acc, s, h1, h2, _ => by
  refine ⟨?_, fun h => by cases h⟩;have a := (zq L n (.seq .nil) s h1 h2 (fun h => by cases h)).1;rw [run];simp only;generalize run L n (.seq .nil) s = r at *;split
  ·rename_i hk;obtain ⟨_, hi, _⟩ := zW (L := L) (s := r.2) (by rw [hk]; decide);have b := inv_step hi a.op;exact a.trans (b.trans (zq L n _ _ b.n b.op (fun h => by cases h)).1)
  ·exact a
 | n + 1, .seq acc, s, h1, h2, _ => by
  refine ⟨?_, fun h => by cases h⟩;rw [run];split
  ·exact Inv.refl h1 h2
  ·rename_i hk0;split
   ·exact inv_fail h1 h2 (by decide)
   ·obtain ⟨he, hi, _⟩ := zW (L := L) (s := s) (fun e => hk0 (Or.inl e));have a := (zq L n .thing s h1 h2 (fun _ => ⟨he, hi⟩)).1;simp only;generalize run L n .thing s = r at *;split
    ·rename_i hq;obtain ⟨_, hi2, _⟩ := zW (L := L) (s := r.2) (by rw [hq.1]; decide);have b := inv_step hi2 a.op;exact a.trans (b.trans (zq L n _ _ b.n b.op (fun h => by cases h)).1)
    ·exact a.trans (zq L n _ _ a.n a.op (fun h => by cases h)).1
 | n + 1, .thing, s, h1, h2, h3 => by
  obtain ⟨he, hi⟩ := h3 rfl;have key : Inv L s (run L (n + 1) .thing s).2 ∧ ((run L (n + 1) .thing s).2.e ≠ 0 ∨ s.i < (run L (n + 1) .thing s).2.i) := by
   rw [run];simp only;split
   ·exact ⟨inv_step hi h2, Or.inr (Nat.lt_succ_self _)⟩
   ·split
    ·exact ⟨inv_fail h1 h2 (by decide), Or.inl (failS_e (by decide))⟩
    ·rename_i h40;have g0 : (⟨s.i + 1, s.op + 1, s.e, s.at_⟩ : Ps).i ≤ L.length := hi;have g1 : (⟨s.i + 1, s.op + 1, s.e, s.at_⟩ : Ps).op ≤ 40 := by simp only; omega
     have a : Inv L ⟨s.i + 1, s.op + 1, s.e, s.at_⟩ (if (L.getD s.i zeroT).n = 13 ∧ kindS L ⟨s.i + 1, s.op + 1, s.e, s.at_⟩ = 10 then run L n .thing ⟨s.i + 1, s.op + 1, s.e, s.at_⟩ else (.nil, ⟨s.i + 1, s.op + 1, s.e, s.at_⟩)).2 := by
      split
      ·rename_i hk;obtain ⟨k1, k2, _⟩ := zW (L := L) (s := ⟨s.i + 1, s.op + 1, s.e, s.at_⟩) (by rw [hk.2]; decide);exact (zq L n .thing _ g0 g1 (fun _ => ⟨k1, k2⟩)).1
      ·exact Inv.refl g0 g1
     generalize (if (L.getD s.i zeroT).n = 13 ∧ kindS L ⟨s.i + 1, s.op + 1, s.e, s.at_⟩ = 10 then run L n .thing ⟨s.i + 1, s.op + 1, s.e, s.at_⟩ else (.nil, ⟨s.i + 1, s.op + 1, s.e, s.at_⟩)) = q at *;have b := a.trans (zq L n (.alt .nil) q.2 a.n a.op (fun h => by cases h)).1;generalize run L n (.alt .nil) q.2 = r at *;have bi : s.i + 1 ≤ r.2.i := b.i;have rs : ∀ {x : Ps}, rem L x ≤ rem L ⟨s.i + 1, s.op + 1, s.e, s.at_⟩ → rem L x ≤ rem L s := fun {x} h => by have : rem L ⟨s.i + 1, s.op + 1, s.e, s.at_⟩ ≤ rem L s := rem_le L (fun e => e) (Nat.le_succ _);omega
     split
     ·have f := inv_fail (L := L) (s := r.2) b.n b.op (e := 20) (a := -1) (by decide);exact ⟨⟨Nat.le_trans (by omega) f.i, f.n, f.op, fun e => absurd e (failS_e (by decide)), rs (Nat.le_trans f.r b.r)⟩, Or.inl (failS_e (by decide))⟩
     ·rename_i hk;obtain ⟨k1, k2, _⟩ := zW (L := L) (s := r.2) (by
       intro e;apply hk;rw [e];decide)
      have hop : r.2.op = s.op + 1 := (b.e k1).2;have c : Inv L s ⟨r.2.i + 1, r.2.op - 1, r.2.e, r.2.at_⟩ := ⟨by show s.i ≤ r.2.i + 1; omega, k2, by show r.2.op - 1 ≤ 40; omega, fun _ => ⟨he, by show r.2.op - 1 = s.op; omega⟩, rem_le L (fun _ => he) (by show s.i ≤ r.2.i + 1; omega)⟩;unfold zf;split
      ·exact ⟨c.trans (inv_fail c.n c.op (by decide)), Or.inl (failS_e (by decide))⟩
      ·exact ⟨c, Or.inr (by show s.i < r.2.i + 1; omega)⟩
  exact ⟨key.1, fun _ _ => key.2⟩
theorem run_rem {L : List Tk} {n : Nat} {s : Ps} (hn : n ≠ 0) (h2 : s.op ≤ 40) (he : s.e = 0) (hi : s.i < L.length) : rem L (run L n .thing s).2 < rem L s :=
 rem_lt he hi ((zq L n .thing s (by omega) h2 (fun _ => ⟨he, hi⟩)).2 rfl hn)
end Go.Proofs.YtnpcombfgdbhkaaDoor.rpp
end
