/- T -/
import Derived.BigQuiet
import Derived.Deep.QuietTactic
import Derived.Deep.RegionHeld3
import Derived.Deep.RegionWith
import Derived.IntWalk
import Derived.Laws.AppendOwnNone
import Derived.Laws.StructEq
import Derived.Lib.Hide
import Derived.Maps.OwnSet
import Derived.Shelf.SlicesE.Clone
import Derived.Shelf.Spec.SlicesGrow
import Derived.StillTailTactics
import Derived.Test.YtdgfclbajjjcgaaBWb04
set_option maxHeartbeats 16000000
set_option maxRecDepth 1000000
namespace Go.Proofs.Ytdgfclbajjjcgaa
section
namespace setw
open sq
open Go Go.RowKit bulk ucdp ucdw
def Up (l : List Int) : Prop := l.Pairwise (· < ·)
def PutP (l : List Int) (n : Int) (l' : List Int) : Prop := Up l' ∧ (∀ x, x ∈ l' ↔ x ∈ l ∨ x = n) ∧ l'.length ≤ l.length + 1
theorem putP_same {l : List Int} {n : Int} (hU : Up l) {k : Nat} (hk : k < l.length) (he : l[k] = n) : PutP l n l :=
 ⟨hU, fun x => ⟨Or.inl, fun h => h.elim id (fun e => by subst e; rw [← he]; exact dI hk)⟩, by omega⟩
theorem putP_new {l : List Int} {n : Int} (hU : Up l) {k : Nat} (hk : k < l.length) (hlo : ∀ x ∈ l.take k, x < n) (hgt : n < l[k]) : PutP l n (([] ++ l.take k ++ [n]) ++ l.drop k) := by
 have hd : ∀ x ∈ l.drop k, n < x := by
  have h1 := hU.sublist (List.drop_sublist k l);rw [List.drop_eq_getElem_cons hk] at h1 ⊢;intro x hx;rcases List.mem_cons.1 hx with rfl | hx
  ·exact hgt
  ·have := (List.pairwise_cons.1 h1).1 x hx;omega
 refine ⟨?_, fun x => ?_, by simp; omega⟩
 ·refine List.pairwise_append.2 ⟨List.pairwise_append.2 ⟨by simpa using hU.sublist (List.take_sublist k l), List.pairwise_singleton _ _, ?_⟩, hU.sublist (List.drop_sublist k l), ?_⟩
  ·intro a ha b hb;obtain rfl := List.mem_singleton.1 hb;exact hlo a (by simpa using ha)
  ·intro a ha b hb;have h2 := hd b hb;rcases List.mem_append.1 ha with ha | ha
   ·have := hlo a (by simpa using ha);omega
   ·obtain rfl := List.mem_singleton.1 ha;exact h2
 ·have e : x ∈ l ↔ x ∈ l.take k ∨ x ∈ l.drop k := by rw [← List.mem_append, List.take_append_drop]
  rw [e];simp only [List.mem_append, List.nil_append, List.mem_singleton];constructor
  ·rintro ((h | h) | h)
   ·exact Or.inl (Or.inl h)
   ·exact Or.inr h
   ·exact Or.inl (Or.inr h)
  ·rintro ((h | h) | h)
   ·exact Or.inl (Or.inl h)
   ·exact Or.inr h
   ·exact Or.inl (Or.inr h)
theorem wpList_append_is {ops : Array Oper} {rest : List Oper} {o : Oper} {a : Act} {w : World} {Q : Exit → Act → World → Prop} (hgd : o.guard = none) (s x : Operand)
 (ho : o.op = .call { callee := .builtin .append, args := #[s, x], argTypes := #[146, 146] }) (base : Nat) (v : Value) (D : List Int) (hs : a.eval s = v) (hown : OwnI w base v D)
 (S : List Int) (g off m cap : Nat) (hx : a.eval x = .slice (some ⟨g, off, none⟩) m cap) (hS : S.length = m) (hc : ∀ i, i < m → w.cell? ⟨g, off + i, none⟩ = some (.int .i64 (S.getD i 0))) (hlen : D.length + S.length ≤ 100000000) (hbase : base ≤ w.heap.size)
 (h : ∀ v' w', OwnI w' base v' (D ++ S) → (∀ B w1, Below B w1 w → B ≤ base → Below B w1 w') → wpList Try.prog ops Q rest (a.put o.dst v') w') :
 wpList Try.prog ops Q (o :: rest) a w := by
 subst hS;obtain ⟨i0, hi, hz0, hz1, hz2⟩ := info_parts infoInt;refine wpList_append_own w hgd s x _ ho base 3 i0 (.int .i64 0) 1 8 Try.underlying146 hi hz0 hz1 hz2 rfl (by decide) v _ _ hs hown ⟨g, off, none⟩ S.length cap (ic S) hx (by simp [ic]) ?_ ?_ (by unfold maxLen; omega) (by omega) hbase ?_
 ·intro j u hj;have hjm : j < S.length := by
   rcases Nat.lt_or_ge j S.length with h | h
   ·exact h
   ·rw [List.getElem?_eq_none (by simpa [ic] using h)] at hj; cases hj
  have hplain : (⟨g, off, none⟩ : Addr).add j = ⟨g, off + j, none⟩ := by unfold Addr.add; split <;> simp_all
  rw [hplain, hc j hjm];simp [ic, hjm] at hj;rw [← hj];simp [List.getD, hjm]
 ·intro u hu;simp only [ic, List.mem_map] at hu;obtain ⟨y, _, rfl⟩ := hu;rfl
 ·intro v' w' hown' hgr _;refine h v' w' ?_ (fun B w0 hb hB => hb.grown hgr (by omega) (fun k hk => ?_))
  ·have e : ic (D ++ S) = ic D ++ ic S := by simp [ic]
   unfold OwnI;rw [e];simpa using hown'
  ·have := (World.ownsRow.lt hown) k hk;omega
theorem wpList_append_i' {ops : Array Oper} {rest : List Oper} {o : Oper} {a : Act} {w : World} {Q : Exit → Act → World → Prop} (hgd : o.guard = none) (s x : Operand)
 (ho : o.op = .call { callee := .builtin .append, args := #[s, x], argTypes := #[146, 146] }) (base : Nat) (v : Value) (D : List Int) (hs : a.eval s = v) (hown : OwnI w base v D)
 (q : Int) (B : Nat) (hx : a.eval x = .slice (some ⟨B, 0, none⟩) 1 1) (hB : B = w.heap.size) (hlen : D.length ≤ 10000000) (hbase : base ≤ w.heap.size)
 (h : ∀ v' w', OwnI w' base v' (D ++ [q]) → (∀ B w1, Below B w1 w → B ≤ base → Below B w1 w') → wpList Try.prog ops Q rest (a.put o.dst v') w') :
 wpList Try.prog ops Q (o :: rest) a (w.alloc (.cells #[.int .i64 q] 3)) := by
 subst hB;refine wpList_append_is hgd s x ho base v D hs (World.ownsRow.alloc hown _) [q] w.heap.size 0 1 1 hx rfl (fun i hi => ?_) (by simp; omega) (by rw [World.size_alloc]; omega) (fun v' w' h1 h2 => h v' w' h1 (fun B w1 hb hB => h2 B w1 (hb.alloc (by have := hb.size; omega) _) hB));have h0 : i = 0 := by omega
 subst h0;rw [World.cell?_alloc_new];rfl
def PutB (base : Nat) (l : List Int) (n : Int) (w : World) (e : Ending) (w' : World) : Prop := ∃ v' l', e = .returned v' ∧ IntsAt base w' v' l' ∧ PutP l n l' ∧ Below w.heap.size w w'
def PRel (l : List Int) (n : Int) (w : World) (i : Value) (wr : World) : Prop := ∃ k : Nat, k ≤ l.length ∧ i = .int .i64 k ∧ (∀ x ∈ l.take k, x < n) ∧ wr = w
theorem getD_drop {l : List Int} {k i : Nat} : (l.drop k).getD i 0 = l.getD (k + i) 0 := by simp [List.getD]
theorem getD_take {l : List Int} {k i : Nat} (h : i < k) : (l.take k).getD i 0 = l.getD i 0 := by simp [List.getD, List.getElem?_take_of_lt h]
theorem put_any (v : Value) (l : List Int) (n : Int) (base : Nat) (w : World) (hv : IntsAt base w v l) (hU : Up l) (hl : l.length ≤ 10000000) (hn : ∃ x ∈ l, n ≤ x) (hbase : base ≤ w.heap.size) :
 Calls Try.prog 132 #[v, .int .i64 n] w (PutB base l n w) := by
 have HV := xH hv;have HU := xH hU;have HN := xH hn;rcases hv with ⟨rfl, _⟩ | ⟨hne, b, cap, rfl, hb1, hb2, hc1, hc2, hc⟩
 ·obtain ⟨x, hx, _⟩ := hn;cases hx
 have HC := xH hc;clear hn hU hc hne;go_enter Try.func132, Try.ntmps132;go_wp2_with fail
 go_loopw [5] (fun i wr => PRel l n w i wr) (fun i _ => l.length - (intOf i).toNat)
 case atStart => exact ⟨0, Nat.zero_le _, rfl, by simp, rfl⟩
 case round =>
  obtain ⟨k, hk, rfl, hlo, rfl⟩ := hrel;have HL := xH hlo;have hlt : k < l.length := by
   rcases Nat.lt_or_ge k l.length with h | h
   ·exact h
   ·obtain ⟨x, hx, h2⟩ := HN.out;have := hlo x (by rw [List.take_of_length_le h]; exact hx);omega
  have hcell := HC.out k hlt;have hg : l.getD k 0 = l[k] := by simp [List.getD, hlt]
  rw [hg] at hcell;clear hlo hg;have HT := xH (show l.take (k + 1) = l.take k ++ [l[k]] by rw [List.take_succ_eq_append_getElem hlt]);have HS := xH (fun h => putP_same HU.out hlt (n := n) h);have HW := xH (fun h => putP_new HU.out hlt (n := n) HL.out h);generalize l[k] = y at *;by_cases hy : y < n
  ·go_wp2_with fail
   go_roundw
   case rel => exact ⟨k + 1, by omega, by go_num, by
    rw [HT.out];intro x hx;rcases List.mem_append.1 hx with h | h
    ·exact HL.out x h
    ·obtain rfl := List.mem_singleton.1 h;exact hy, rfl⟩
   case measure => simp [intOf]; omega
  ·by_cases he : y = n
   ·have HS2 := xH (HS.out he);subst he;go_wp2_with fail
    go_ret
    exact ⟨_, l, rfl, HV.out, HS2.out, Below.refl _ _⟩
   ·have HW2 := xH (HW.out (by omega));have HL1 := xH (show (l.take k).length = k by rw [List.length_take]; omega);have HL2 := xH (show (l.drop k).length = l.length - k by rw [List.length_drop]);have e0 : ([] : List Int).length = 0 := rfl;clear HS HW HT HL HN HU;go_wp2_with (first
     | (at_builtin; refine wpList_append_is rfl _ _ rfl wr.heap.size (.slice none 0 0) [] rfl (ownI_nil _ _) (l.take k) b 0 k _ rfl HL1.out (fun i hi => by rw [getD_take hi]; simpa using HC.out i (by omega)) (by rw [HL1.out, e0]; omega) (xL _) ?_; intro va wa hoa hba; have HOa := xH hoa; have HBa := xH (hba _ _ (Below.refl _ _) (xL _)); clear hoa hba)
     | (at_builtin; refine wpList_append_i' rfl _ _ rfl wr.heap.size va ([] ++ l.take k) rfl HOa.out n _ rfl rfl (by rw [List.nil_append, HL1.out]; omega) HBa.out.size ?_; intro vb wb hob hbb; have HOb := xH hob; have HBb := xH (hbb _ _ HBa.out (xL _)); clear hob hbb)
     | (at_builtin; refine wpList_append_is rfl _ _ rfl wr.heap.size vb ([] ++ l.take k ++ [n]) rfl HOb.out (l.drop k) b k (l.length - k) _ rfl HL2.out (fun i hi => by rw [getD_drop]; exact qf HBb.out (HC.out (k + i) (by omega))) (by rw [List.nil_append, List.length_append, HL1.out, HL2.out, List.length_singleton]; omega) HBb.out.size ?_; intro vc wc hoc hbc; have HOc := xH hoc; have HBc := xH (hbc _ _ HBb.out (xL _)); clear hoc hbc))
    go_ret
    exact ⟨_, _, rfl, intsAt_mono hbase (intsAt_own HOc.out (by simp)), HW2.out, HBc.out⟩
end setw
end
section
namespace setw
open sq
open Go Go.RowKit bulk ucdp ucdw setp
def EP (q : Int → Prop) (n : Nat) (E : List Int) : Prop := Up E ∧ (∀ z, z ∈ E ↔ q z) ∧ E.length ≤ n
theorem jY {q q' : Int → Prop} {n n' : Nat} {E : List Int} (h : EP q n E) (hq : ∀ z, q z ↔ q' z) (hn : n ≤ n') : EP q' n' E := ⟨h.1, fun z => (h.2.1 z).trans (hq z), Nat.le_trans h.2.2 hn⟩
theorem ep_put {q : Int → Prop} {n : Nat} {E E' : List Int} {a : Int} (h : EP q n E) (hp : PutP E a E') : EP (fun z => q z ∨ z = a) (n + 1) E' :=
 ⟨hp.1, fun z => by rw [hp.2.1, h.2.1], by have := hp.2.2; have := h.2.2; omega⟩
def EQ (l : List Rg) (m z : Int) : Prop := z = 0 ∨ z = m + 1 ∨ ∃ r ∈ l, (0 < r.1 ∧ r.1 ≤ m ∧ z = r.1) ∨ (0 ≤ r.2 ∧ r.2 < m ∧ z = r.2 + 1)
theorem eq_take {l : List Rg} {k : Nat} (hk : k < l.length) {x y : Int} (h : l[k] = (x, y)) (m z : Int) : EQ (l.take (k + 1)) m z ↔ EQ (l.take k) m z ∨ (0 < x ∧ x ≤ m ∧ z = x) ∨ (0 ≤ y ∧ y < m ∧ z = y + 1) := by
 unfold EQ;rw [take_snoc hk, h];constructor
 ·rintro (a | a | ⟨r, hr, a⟩)
  ·exact Or.inl (Or.inl a)
  ·exact Or.inl (Or.inr (Or.inl a))
  ·rcases List.mem_append.1 hr with hr | hr
   ·exact Or.inl (Or.inr (Or.inr ⟨r, hr, a⟩))
   ·obtain rfl := List.mem_singleton.1 hr;exact Or.inr a
 ·rintro ((a | a | ⟨r, hr, a⟩) | a)
  ·exact Or.inl a
  ·exact Or.inr (Or.inl a)
  ·exact Or.inr (Or.inr ⟨r, List.mem_append_left _ hr, a⟩)
  ·exact Or.inr (Or.inr ⟨(x, y), List.mem_append_right _ (List.mem_singleton.2 rfl), a⟩)
theorem ep_start (m : Int) (hm : 0 ≤ m) (l : List Rg) : EP (EQ (l.take 0) m) (2 * 0 + 2) [0, m + 1] := by
 refine ⟨List.pairwise_cons.2 ⟨fun x hx => ?_, List.pairwise_singleton _ _⟩, fun z => ?_, by simp⟩
 ·obtain rfl := List.mem_singleton.1 hx;omega
 ·simp [EQ]
def EdgB (l : List Rg) (m : Int) (w : World) (e : Ending) (w' : World) : Prop := ∃ v E, e = .returned v ∧ IntsAt w.heap.size w' v E ∧ EP (EQ l m) (2 * l.length + 2) E ∧ Below w.heap.size w w'
def ERel (l : List Rg) (m : Int) (w : World) (v i : Value) (wr : World) : Prop :=
 ∃ (k : Nat) (E : List Int), k ≤ l.length ∧ i = .int .i64 k ∧ IntsAt w.heap.size wr v E ∧ EP (EQ (l.take k) m) (2 * k + 2) E ∧ Below w.heap.size w wr
theorem ints_two_new (w : World) (x y : Int) (T : TypeId) : IntsAt w.heap.size (w.alloc (.cells #[.int .i64 x, .int .i64 y] T)) (.slice (some ⟨w.heap.size, 0, none⟩) 2 2) [x, y] := by
 refine Or.inr ⟨by simp, _, 2, rfl, xL _, by simp, by simp, by omega, fun i hi => ?_⟩;rw [World.cell?_alloc_new]
 match i, hi with
 | 0, _ => rfl
 | 1, _ => rfl
theorem intsAt_len {b : Nat} {w : World} {v : Value} {l : List Int} (h : IntsAt b w v l) : ∃ a cap, v = .slice a l.length cap := by
 rcases h with ⟨rfl, rfl⟩ | ⟨_, b, cap, rfl, _⟩
 ·exact ⟨_, _, rfl⟩
 ·exact ⟨_, _, rfl⟩
theorem put_edge {l : List Rg} {k n : Nat} {m a : Int} {w wr : World} {v : Value} {E : List Int} {q : Int → Prop} (hv : IntsAt w.heap.size wr v E) (hE : EP q n E) (hm : q (m + 1)) (ha : a ≤ m) (hb : Below w.heap.size w wr) (hk : k < l.length) (hl : l.length ≤ 1000000) (hn : n ≤ 2 * k + 3) :
 Calls Try.prog 132 #[v, .int .i64 a] wr fun e w' => ∃ v' E', e = .returned v' ∧ IntsAt w.heap.size w' v' E' ∧ EP (fun z => q z ∨ z = a) (n + 1) E' ∧ Below w.heap.size w w' := by
 refine (put_any v E a w.heap.size wr hv hE.1 (by have := hE.2.2; omega) ⟨m + 1, (hE.2.1 _).2 hm, by omega⟩ hb.size).mono ?_;rintro e w' ⟨v', E', rfl, h1, h2, h3⟩;exact ⟨v', E', rfl, h1, ep_put hE h2, hb.trans (h3.mono hb.size)⟩
theorem edges_le (v : Value) (l : List Rg) (most : Int) (w : World) (hv : RsAt w v l) (hl : l.length ≤ 1000000) (h0 : 0 ≤ most) (h1 : most ≤ 1114111) : Calls Try.prog 126 #[v, .int .i64 most] w (EdgB l (most) w) := by
 have HV := xH hv;obtain ⟨a, cap, rfl⟩ := jg hv;have HL := xH hl;have hm1 : IntKind.i64.wrap (most + 1) = most + 1 := IntWalk.i64_in _ (by omega);clear hv hl;go_enter Try.func126, Try.ntmps126;go_wp2_with fail
 go_loopw [5, 6] (fun v i wr => ERel l (most) w v i wr) (fun _ i _ => l.length - (intOf i).toNat)
 case atStart => exact ⟨0, _, Nat.zero_le _, rfl, ints_two_new _ _ _ _, ep_start (most) (by omega) l, qg _ _⟩
 case round =>
  obtain ⟨k, E, hk, rfl, ho, hE, hb⟩ := hrel;have HE := xH hE;have HO := xH ho;have HB := xH hb;clear hE ho hb;by_cases hlt : k < l.length
  ·obtain ⟨hwf, ⟨h0, _⟩ | ⟨_, b, off, cap', hv, hc1, hc2, hc⟩⟩ := HV.out
   ·subst h0; simp at hlt
   cases hv;obtain ⟨hcx0, hcy0⟩ := hc k hlt;obtain ⟨x, y, hxy⟩ : ∃ x y, l[k] = (x, y) := ⟨_, _, rfl⟩;have HQ := xH (eq_take hlt hxy (most));rw [hxy] at hcx0 hcy0;simp only at hcx0 hcy0;have hcx := qf HB.out hcx0;have hcy := qf HB.out hcy0;have HX0 := xH hcx0;have HY0 := xH hcy0;have HM := xH (show EQ (l.take k) (most) (most + 1) from Or.inr (Or.inl rfl));clear hc hxy hwf hcx0 hcy0;by_cases hx1 : 0 < x
   ·by_cases hx2 : x ≤ most
    ·have HC1 := xH (put_edge (k := k) (a := x) HO.out HE.out HM.out hx2 HB.out hlt HL.out (by omega));go_wp2_with fail
     refine HC1.out.mono ?_;rintro e w1 ⟨v1, E1, rfl, ho1, hE1, hb1⟩;have hcy1 := qf hb1 HY0.out;have HO1 := xH ho1;have HE1 := xH hE1;have HB1 := xH hb1;clear ho1 hE1 hb1 hcx hcy;by_cases hy1 : 0 ≤ y
     ·by_cases hy2 : y < most
      ·have hyw : IntKind.i64.wrap (y + 1) = y + 1 := IntWalk.i64_in _ (by omega);have HC2 := xH (fun a (ha : a ≤ most) => put_edge (k := k) (a := a) HO1.out HE1.out (Or.inl HM.out) ha HB1.out hlt HL.out (by omega));exact z153
      ·have hy2b : decide (y < most) = false := decide_eq_false hy2;exact z52
     ·have hy1b : decide (0 ≤ y) = false := decide_eq_false hy1;exact z52
    ·have hx2b : decide (x ≤ most) = false := decide_eq_false hx2;exact z13
   ·have hx1b : decide (0 < x) = false := decide_eq_false hx1;exact z13
  ·obtain rfl : k = l.length := by omega
   exact z115
theorem edges_gt (v : Value) (l : List Rg) (most : Int) (w : World) (hv : RsAt w v l) (hl : l.length ≤ 1000000) (h1 : 1114111 < most) : Calls Try.prog 126 #[v, .int .i64 most] w (EdgB l (1114111) w) := by
 have HV := xH hv;obtain ⟨a, cap, rfl⟩ := jg hv;have HL := xH hl;have hm1 : IntKind.i64.wrap (1114111 + 1) = 1114111 + 1 := IntWalk.i64_in _ (by omega);clear hv hl;go_enter Try.func126, Try.ntmps126;go_wp2_with fail
 go_loopw [5, 6] (fun v i wr => ERel l (1114111) w v i wr) (fun _ i _ => l.length - (intOf i).toNat)
 case atStart => exact ⟨0, _, Nat.zero_le _, rfl, ints_two_new _ _ _ _, ep_start (1114111) (by omega) l, qg _ _⟩
 case round =>
  obtain ⟨k, E, hk, rfl, ho, hE, hb⟩ := hrel;have HE := xH hE;have HO := xH ho;have HB := xH hb;clear hE ho hb;by_cases hlt : k < l.length
  ·obtain ⟨hwf, ⟨h0, _⟩ | ⟨_, b, off, cap', hv, hc1, hc2, hc⟩⟩ := HV.out
   ·subst h0; simp at hlt
   cases hv;obtain ⟨hcx0, hcy0⟩ := hc k hlt;obtain ⟨x, y, hxy⟩ : ∃ x y, l[k] = (x, y) := ⟨_, _, rfl⟩;have HQ := xH (eq_take hlt hxy (1114111));rw [hxy] at hcx0 hcy0;simp only at hcx0 hcy0;have hcx := qf HB.out hcx0;have hcy := qf HB.out hcy0;have HX0 := xH hcx0;have HY0 := xH hcy0;have HM := xH (show EQ (l.take k) (1114111) (1114111 + 1) from Or.inr (Or.inl rfl));clear hc hxy hwf hcx0 hcy0;by_cases hx1 : 0 < x
   ·by_cases hx2 : x ≤ 1114111
    ·have HC1 := xH (put_edge (k := k) (a := x) HO.out HE.out HM.out hx2 HB.out hlt HL.out (by omega));go_wp2_with fail
     refine HC1.out.mono ?_;rintro e w1 ⟨v1, E1, rfl, ho1, hE1, hb1⟩;have hcy1 := qf hb1 HY0.out;have HO1 := xH ho1;have HE1 := xH hE1;have HB1 := xH hb1;clear ho1 hE1 hb1 hcx hcy;by_cases hy1 : 0 ≤ y
     ·by_cases hy2 : y < 1114111
      ·have hyw : IntKind.i64.wrap (y + 1) = y + 1 := IntWalk.i64_in _ (by omega);have HC2 := xH (fun a (ha : a ≤ 1114111) => put_edge (k := k) (a := a) HO1.out HE1.out (Or.inl HM.out) ha HB1.out hlt HL.out (by omega));exact z152
      ·have hy2b : decide (y < 1114111) = false := decide_eq_false hy2;exact z51
     ·have hy1b : decide (0 ≤ y) = false := decide_eq_false hy1;exact z51
    ·have hx2b : decide (x ≤ 1114111) = false := decide_eq_false hx2;exact z12
   ·have hx1b : decide (0 < x) = false := decide_eq_false hx1;exact z12
  ·obtain rfl : k = l.length := by omega
   exact z115
theorem edges_none (v : Value) (l : List Rg) (most : Int) (w : World) (hv : RsAt w v l) (h0 : most < 0) (h1 : -9223372036854775808 ≤ most) : Calls Try.prog 126 #[v, .int .i64 most] w fun e w' => e = .returned (.slice none 0 0) ∧ w' = w := by
 obtain ⟨a, cap, rfl⟩ := jg hv;clear hv;have h2 : ¬ (1114111 < most) := by omega
 go_enter Try.func126, Try.ntmps126;go_wp2_with fail
 go_ret
 exact ⟨rfl, rfl⟩
def InPost (b : Bool) (w : World) (e : Ending) (w' : World) : Prop := e = .returned (.bool b) ∧ w' = w
theorem inPost_of {b c : Bool} {w : World} (h : c = b) : InPost b w (.returned (.bool c)) w := by subst h;exact ⟨rfl, rfl⟩
def IRel (l : List Rg) (c : Int) (w : World) (i : Value) (wr : World) : Prop := ∃ k : Nat, k ≤ l.length ∧ i = .int .i64 k ∧ hasB (l.take k) c = false ∧ wr = w
theorem hasB_hit {l : List Rg} {k : Nat} (hk : k < l.length) {c : Int} (h1 : l[k].1 ≤ c) (h2 : c ≤ l[k].2) : hasB l c = true := zX.2 ⟨l[k], dI hk, h1, h2⟩
theorem rin_any (v : Value) (l : List Rg) (c : Int) (w : World) (hv : RsAt w v l) (hl : l.length ≤ 100000000) :
 Calls Try.prog 123 #[v, .int .i64 c] w (InPost (hasB l c) w) := by
 have HV := xH hv;obtain ⟨a, cap, rfl⟩ := jg hv;clear hv;go_enter Try.func123, Try.ntmps123;go_wp2_with fail
 go_loopw [5] (fun i wr => IRel l c w i wr) (fun i _ => l.length - (intOf i).toNat)
 case atStart => exact ⟨0, Nat.zero_le _, rfl, rfl, rfl⟩
 case round =>
  obtain ⟨k, hk, rfl, hb, rfl⟩ := hrel;have HB := xH hb;clear hb;by_cases hlt : k < l.length
  ·obtain ⟨_, ⟨h0, _⟩ | ⟨_, b, off, cap', hv, _, hc2, hc⟩⟩ := HV.out
   ·subst h0; simp at hlt
   cases hv;obtain ⟨hx, hy⟩ := hc k hlt;have HH := xH (fun a b => hasB_hit (c := c) hlt a b);have HT := xH (hasB_take hlt c);obtain ⟨x, y, hxy⟩ : ∃ x y, l[k] = (x, y) := ⟨_, _, rfl⟩;rw [hxy] at hx hy HH HT;simp only at hx hy HH HT;clear hc hxy;by_cases h1 : x ≤ c
   ·by_cases h2 : c ≤ y
    ·have HR := xH (HH.out h1 h2);go_wp2_with fail
     go_ret
     exact inPost_of HR.out.symm
    ·have h2b : decide (c ≤ y) = false := decide_eq_false h2;go_wp2_with fail
     go_roundw
     case rel => exact ⟨k + 1, by omega, by go_num, by rw [HT.out, HB.out]; simp [h2], rfl⟩
     case measure => simp [intOf]; omega
   ·have h1b : decide (x ≤ c) = false := decide_eq_false h1;go_wp2_with fail
    go_roundw
    case rel => exact ⟨k + 1, by omega, by go_num, by rw [HT.out, HB.out]; simp [h1], rfl⟩
    case measure => simp [intOf]; omega
  ·obtain rfl : k = l.length := by omega
   have hb := HB.out;rw [List.take_length] at hb;have HB2 := xH hb;clear hb;go_wp2_with fail
   go_ret
   exact inPost_of HB2.out.symm
def inP (kd : Int) (x y : Bool) : Bool := if kd = 1 then x && y else if kd = 2 then !x else x || y
def qB (kd : Int) (a b : List Rg) (c : Int) : Bool := inP kd (hasB a c) (hasB b c)
theorem yh {l : List Rg} {m : Int} {n : Nat} {E : List Int} (hm : 0 ≤ m) (h : EP (EQ l m) n E) {z : Int} (hz : z ∈ E) : 0 ≤ z ∧ z ≤ m + 1 := by rcases (h.2.1 z).1 hz with h | h | ⟨r, _, h | h⟩ <;> omega
theorem edge_gap {E : List Int} (h : Up E) {i : Nat} (hi : i + 1 < E.length) {z : Int} (hz : z ∈ E) (h1 : E[i] < z) (h2 : z < E[i + 1]) : False := by
 obtain ⟨j, hj, rfl⟩ := List.getElem_of_mem hz;have hp := List.pairwise_iff_getElem.1 h;rcases Nat.lt_trichotomy j i with h3 | h3 | h3
 ·have := hp j i hj (by omega) h3;omega
 ·subst h3;omega
 ·rcases Nat.lt_or_ge (i + 1) j with h4 | h4
  ·have := hp (i + 1) j hi hj h4;omega
  ·have h5 : j = i + 1 := by omega
   subst h5;omega
theorem has_const {L l : List Rg} {m e f c : Int} (hs : ∀ r ∈ l, r ∈ L) (he : 0 ≤ e) (hf : f ≤ m + 1) (hg : ∀ z, EQ L m z → e < z → z < f → False) (h1 : e ≤ c) (h2 : c < f) : hasB l c = hasB l e := by
 rw [Bool.eq_iff_iff, zX, zX];constructor
 ·rintro ⟨r, hr, a, b⟩;refine ⟨r, hr, ?_, by omega⟩;rcases Int.lt_or_le e r.1 with h | h
  ·exact (hg r.1 (Or.inr (Or.inr ⟨r, hs r hr, Or.inl ⟨by omega, by omega, rfl⟩⟩)) h (by omega)).elim
  ·exact h
 ·rintro ⟨r, hr, a, b⟩;refine ⟨r, hr, by omega, ?_⟩;rcases Int.lt_or_le r.2 c with h | h
  ·exact (hg (r.2 + 1) (Or.inr (Or.inr ⟨r, hs r hr, Or.inr ⟨by omega, by omega, rfl⟩⟩)) (by omega) (by omega)).elim
  ·exact h
theorem q_const {kd : Int} {a b : List Rg} {m : Int} {n : Nat} {E : List Int} (hm : 0 ≤ m) (h : EP (EQ (a ++ b) m) n E) {i : Nat} (hi : i + 1 < E.length) {c : Int} (h1 : E[i] ≤ c) (h2 : c < E[i + 1]) : qB kd a b c = qB kd a b E[i] := by
 have b1 := yh hm h (dI (show i < E.length by omega));have b2 := yh hm h (dI hi);have hg : ∀ z, EQ (a ++ b) m z → E[i] < z → z < E[i + 1] → False := fun z hz => edge_gap h.1 hi ((h.2.1 z).2 hz)
 unfold qB;rw [has_const (L := a ++ b) (fun r hr => List.mem_append_left _ hr) b1.1 b2.2 hg h1 h2, has_const (L := a ++ b) (fun r hr => List.mem_append_right _ hr) b1.1 b2.2 hg h1 h2]
def JI (kd : Int) (a b : List Rg) (E : List Int) (i : Nat) (O : List Rg) : Prop := Canon O ∧ (∀ c, Has O c ↔ 0 ≤ c ∧ c < E.getD i 0 ∧ qB kd a b c = true) ∧ O.length ≤ i
def Ed (l : List Rg) (m : Int) (E : List Int) : Prop := (E = [] ∧ m < 0) ∨ (0 ≤ m ∧ EP (EQ l m) (2 * l.length + 2) E)
theorem ji_start {kd m : Int} {a b : List Rg} {E : List Int} (h : Ed (a ++ b) m E) : JI kd a b E 0 [] := by
 refine ⟨canon_nil, fun c => ⟨fun h => absurd h (has_nil _), fun ⟨h1, h2, _⟩ => ?_⟩, xL _⟩;exfalso;rcases h with ⟨rfl, _⟩ | ⟨hm, h⟩
 ·simp at h2;omega
 ·have h0 := (h.2.1 0).2 (Or.inl rfl);obtain ⟨j, hj, e⟩ := List.getElem_of_mem h0;rw [show E.getD 0 0 = E[0] by simp [List.getD, show 0 < E.length by omega]] at h2;rcases Nat.eq_zero_or_pos j with h3 | h3
  ·subst h3;omega
  ·have := List.pairwise_iff_getElem.1 h.1 0 j (by omega) hj h3;omega
theorem ji_end {kd m : Int} {a b : List Rg} {E : List Int} (h : Ed (a ++ b) m E) {i : Nat} {O : List Rg} (hJ : JI kd a b E i O) (hi : i < E.length ∨ i = 0) (hi2 : ¬ i + 1 < E.length) : Canon O ∧ ∀ c, Has O c ↔ 0 ≤ c ∧ c ≤ m ∧ qB kd a b c = true := by
 refine ⟨hJ.1, fun c => ?_⟩;rw [hJ.2.1];rcases h with ⟨rfl, h0⟩ | ⟨hm, h⟩
 ·simp;omega
 ·have h0 := (h.2.1 (m + 1)).2 (Or.inr (Or.inl rfl));obtain ⟨j, hj, e⟩ := List.getElem_of_mem h0;have hlt : i < E.length := by omega
  have hij : E[i] = m + 1 := by
   have b1 := yh hm h (dI hlt);rcases Nat.lt_or_ge j i with h3 | h3
   ·have := List.pairwise_iff_getElem.1 h.1 j i hj hlt h3;omega
   ·have h4 : j = i := by omega
    subst h4;exact e
  rw [show E.getD i 0 = E[i] by simp [List.getD, hlt], hij];constructor
  ·exact fun ⟨x, y, z⟩ => ⟨x, by omega, z⟩
  ·exact fun ⟨x, y, z⟩ => ⟨x, by omega, z⟩
section
variable {kd m : Int} {a b : List Rg} {E : List Int} {n i : Nat} {O : List Rg} (hm : 0 ≤ m) (hm2 : m ≤ 1114111) (h : EP (EQ (a ++ b) m) n E) (hi : i + 1 < E.length) (hJ : JI kd a b E i O)
include hm h hi hJ
theorem ji_out (hq : qB kd a b E[i] = false) : JI kd a b E (i + 1) O := by
 have e1 : E.getD i 0 = E[i] := by simp [List.getD, show i < E.length by omega]
 have e2 : E.getD (i + 1) 0 = E[i + 1] := by simp [List.getD, hi]
 have hup := List.pairwise_iff_getElem.1 h.1 i (i + 1) (by omega) hi (by omega);refine ⟨hJ.1, fun c => ?_, Nat.le_succ_of_le hJ.2.2⟩;rw [hJ.2.1, e1, e2];constructor
 ·exact fun ⟨x, y, z⟩ => ⟨x, by omega, z⟩
 ·rintro ⟨x, y, z⟩;refine ⟨x, ?_, z⟩;rcases Int.lt_or_le c E[i] with h3 | h3
  ·exact h3
  ·have := q_const (kd := kd) hm h hi h3 y;rw [this, hq] at z;cases z
omit hJ in
theorem ji_has {O' : List Rg} (hq : qB kd a b E[i] = true) (hO : ∀ c, Has O' c ↔ (0 ≤ c ∧ c < E[i] ∧ qB kd a b c = true) ∨ (E[i] ≤ c ∧ c < E[i + 1])) (c : Int) : Has O' c ↔ 0 ≤ c ∧ c < E.getD (i + 1) 0 ∧ qB kd a b c = true := by
 have e2 : E.getD (i + 1) 0 = E[i + 1] := by simp [List.getD, hi]
 have hup := List.pairwise_iff_getElem.1 h.1 i (i + 1) (by omega) hi (by omega);have b1 := yh hm h (dI (show i < E.length by omega));rw [hO, e2];constructor
 ·rintro (⟨x, y, z⟩ | ⟨x, y⟩)
  ·exact ⟨x, by omega, z⟩
  ·exact ⟨by omega, y, by rw [q_const (kd := kd) hm h hi x y]; exact hq⟩
 ·rintro ⟨x, y, z⟩;rcases Int.lt_or_le c E[i] with h3 | h3
  ·exact Or.inl ⟨x, h3, z⟩
  ·exact Or.inr ⟨h3, y⟩
include hm2
theorem ji_app (hq : qB kd a b E[i] = true) (hl : ∀ W0 r, O = W0 ++ [r] → r.2 + 1 ≠ E[i]) : JI kd a b E (i + 1) (O ++ [(E[i], E[i + 1] - 1)]) := by
 have e1 : E.getD i 0 = E[i] := by simp [List.getD, show i < E.length by omega]
 have hup := List.pairwise_iff_getElem.1 h.1 i (i + 1) (by omega) hi (by omega);have b1 := yh hm h (dI (show i < E.length by omega));have b2 := yh hm h (dI hi);have hJ2 := hJ.2.1;rw [e1] at hJ2;refine ⟨canon_snoc hJ.1 (fun r hr => ?_) b1.1 (by omega) (by omega), ji_has hm h hi hq fun c => ?_, by simpa using hJ.2.2⟩
 ·have hr2 := hJ.1.2 r hr;have h5 := (hJ2 r.2).1 ⟨r, hr, hr2.2.1, Int.le_refl _⟩;rcases List.eq_nil_or_concat O with h6 | ⟨W0, x, h6⟩
  ·subst h6;cases hr
  ·rw [List.concat_eq_append] at h6;subst h6;have h7 := hl W0 x rfl;rcases List.mem_append.1 hr with h8 | h8
   ·have h9 := (List.pairwise_append.1 hJ.1.1).2.2 r h8 x (by simp);have h10 := hJ.1.2 x (by simp);have h11 := (hJ2 x.2).1 ⟨x, by simp, h10.2.1, Int.le_refl _⟩;omega
   ·obtain rfl := List.mem_singleton.1 h8;omega
 ·rw [zo, has_one, hJ2];simp only;constructor
  ·rintro (x | x)
   ·exact Or.inl x
   ·exact Or.inr (by omega)
  ·rintro (x | x)
   ·exact Or.inl x
   ·exact Or.inr (by omega)
theorem ji_mrg (hq : qB kd a b E[i] = true) {W0 : List Rg} {p r : Int} (hO : O = W0 ++ [(p, r)]) (hr : r + 1 = E[i]) : JI kd a b E (i + 1) (W0 ++ [(p, E[i + 1] - 1)]) := by
 have e1 : E.getD i 0 = E[i] := by simp [List.getD, show i < E.length by omega]
 have hup := List.pairwise_iff_getElem.1 h.1 i (i + 1) (by omega) hi (by omega);have b2 := yh hm h (dI hi);have hJ2 := hJ.2.1;rw [e1] at hJ2;subst hO;have hC := hJ.1;have hp := hC.2 (p, r) (by simp);simp only at hp;have hW : Canon W0 := ⟨(List.pairwise_append.1 hC.1).1, fun x hx => hC.2 x (List.mem_append_left _ hx)⟩;have hl := hJ.2.2;refine ⟨canon_snoc hW (fun x hx => ?_) (by omega) (by omega) (by omega), ji_has hm h hi hq fun c => ?_, by simp only [List.length_append, List.length_singleton] at hl ⊢; omega⟩
 ·exact (List.pairwise_append.1 hC.1).2.2 x hx (p, r) (by simp)
 ·rw [← hJ2, zo, has_one, zo, has_one];simp only;by_cases hx : Has W0 c <;> simp [hx];omega
end
theorem rcs_len : ∀ l : List Rg, (rcs l).length = l.length * 2
 | [] => rfl
 | r :: l => by have e : rcs (r :: l) = [.int .i64 r.1, .int .i64 r.2] ++ rcs l := rfl;rw [e, List.length_append, rcs_len l];simp only [dB, dA];omega
theorem run_append_zero {P : Program} {w : World} {base : Nat} {e : TypeId} {size : Nat} {v : Value} {n : Nat} {xs : List Value} (t ty : TypeId) (i : TypeInfo) (ht : P.underlying t = some (.slice e)) (hi : P.info? e = some i) (hown : w.ownsRow base e size v n xs) (a : Option Addr) (c : Nat) :
 (Builtin.append_ #[t, t] ty #[v, .slice a 0 c]).run P w = .ok v w := by
 rcases hown.2 with ⟨rfl, rfl⟩ | ⟨g, cap, cur, rfl, _, _, hnc, _⟩
 ·cases a <;> simp [Builtin.append_, run_underlying ht, sizeOf, typeInfo, hi, Builtin.lenOf, Builtin.firstCells, loadCells, loadCellsFrom]
 ·cases a <;> simp [Builtin.append_, run_underlying ht, sizeOf, typeInfo, hi, Builtin.lenOf, Builtin.firstCells, hnc, storeCells, loadCells, loadCellsFrom]
theorem jb {ops : Array Oper} {rest : List Oper} {o : Oper} {a : Act} {w : World} {Q : Exit → Act → World → Prop} (hgd : o.guard = none) (s x : Operand)
 (ho : o.op = .call { callee := .builtin .append, args := #[s, x], argTypes := #[24, 24] }) (base : Nat) (v : Value) (D : List Rg) (hs : a.eval s = v) (hown : OwnR w base v D)
 (vx : Value) (S : List Rg) (hx : a.eval x = vx) (hz : RsAt w vx S) (hlen : D.length + S.length ≤ 100000000) (hbase : base ≤ w.heap.size)
 (h : ∀ v' w', OwnR w' base v' (D ++ S) → (∀ B w1, Below B w1 w → B ≤ base → Below B w1 w') → wpList Try.prog ops Q rest (a.put o.dst v') w') :
 wpList Try.prog ops Q (o :: rest) a w := by
 obtain ⟨i0, hi, hz0, hz1, hz2⟩ := info_parts infoRange;rcases hz with ⟨_, ⟨hS, ad, cap, rfl, _⟩ | ⟨hS, g, off, cap, rfl, hc1, hc2, hc⟩⟩
 ·subst hS;refine wpList_plain hgd fun K hK => ?_
  have hrun := run_append_zero (P := Try.prog) (w := w) 24 o.type i0 Try.underlying24 hi hown.1 ad cap;unfold Oper.wp;simp [execOp, ho, resolve, invoke, builtin, hs, hx, hrun, Result.andThen];exact hK _ _ (h v w (by simpa using hown) (fun B w0 hb _ => hb))
 ·refine wpList_append_own w hgd s x _ ho base 69 i0 (.agg #[.int .i64 0, .int .i64 0]) 2 16 Try.underlying24 hi hz0 hz1 hz2 rfl (by decide) v _ _ hs hown.1 ⟨g, off, none⟩ S.length cap (rcs S) hx ?_ ?_ ?_ (by unfold maxLen; omega) (by omega) hbase ?_
  ·exact rcs_len S
  ·intro j u hj;have hplain : (⟨g, off, none⟩ : Addr).add j = ⟨g, off + j, none⟩ := by unfold Addr.add; split <;> simp_all
   rw [hplain];have hr : ∀ (l : List Rg) (off j : Nat), (∀ i (hi : i < l.length), w.cell? ⟨g, off + i * 2, none⟩ = some (.int .i64 l[i].1) ∧ w.cell? ⟨g, off + i * 2 + 1, none⟩ = some (.int .i64 l[i].2)) → (rcs l)[j]? = some u → w.cell? ⟨g, off + j, none⟩ = some u := by
    intro l
    induction l with
    | nil => intro off j _ hj; simp [rcs] at hj
    | cons r l ih =>
     intro off j hc hj;have e1 : rcs (r :: l) = [.int .i64 r.1, .int .i64 r.2] ++ rcs l := rfl;rw [e1] at hj
     match j, hj with
     | 0, hj =>
      have := (hc 0 (by simp)).1;simp at hj;simpa [hj] using this
     | 1, hj =>
      have := (hc 0 (by simp)).2;simp at hj;simpa [hj] using this
     | j + 2, hj =>
      rw [List.getElem?_append_right (by simp)] at hj;have h2 := ih (off + 2) j (fun i hi => by have := hc (i + 1) (by simpa using hi);rw [show off + (i + 1) * 2 = off + 2 + i * 2 by omega] at this;simpa using this) (by simpa using hj)
      rw [show off + (j + 2) = off + 2 + j by omega];exact h2
   exact hr S off j hc hj
  ·intro u hu;simp only [rcs, List.mem_flatMap] at hu;obtain ⟨r, _, hu⟩ := hu;exact z143
  ·intro v' w' hown' hgr hnil;refine h v' w' ?_ (fun B w0 hb hB => hb.grown hgr (by omega) (fun k hk => ?_))
   ·have e : rcs (D ++ S) = rcs D ++ rcs S := by simp [rcs]
    unfold OwnR;rw [e];exact ⟨by simpa using hown', fun h => absurd (List.append_eq_nil_iff.1 h).2 hS⟩
   ·have := (World.ownsRow.lt hown.1) k hk;omega
theorem ownR_mono {w : World} {base base' : Nat} {v : Value} {D : List Rg} (h : OwnR w base v D) (hb : base' ≤ base) : OwnR w base' v D := by
 refine ⟨⟨h.1.1, ?_⟩, h.2⟩;rcases h.1.2 with h2 | ⟨g, cap, cur, hv, hg, r⟩
 ·exact Or.inl h2
 ·exact Or.inr ⟨g, cap, cur, hv, Nat.le_trans hb hg, r⟩
theorem ownR_below {w w' : World} {base : Nat} {v : Value} {D : List Rg} (h : OwnR w base v D) (hb : Below w.heap.size w w') : OwnR w' base v D := by
 refine ⟨⟨h.1.1, ?_⟩, h.2⟩;rcases h.1.2 with h2 | ⟨g, cap, cur, hv, hg, hh, r⟩
 ·exact Or.inl h2
 ·have hlt : g < w.heap.size := by exact z136
  exact Or.inr ⟨g, cap, cur, hv, hg, (hb.block g hlt).trans hh, r⟩
theorem ownR_last {w : World} {base g m cap : Nat} {W0 : List Rg} {p r z : Int} (hm : W0.length = m) (h : OwnR w base (.slice (some ⟨g, 0, none⟩) (m + 1) cap) (W0 ++ [(p, r)])) :
 OwnR (w.setCell ⟨g, m * 2 + 1, none⟩ (.int .i64 z)) base (.slice (some ⟨g, 0, none⟩) (m + 1) cap) (W0 ++ [(p, z)]) ∧ w.frozen? ⟨g, m * 2 + 1, none⟩ = false ∧ ∀ B w0, Below B w0 w → B ≤ base → Below B w0 (w.setCell ⟨g, m * 2 + 1, none⟩ (.int .i64 z)) := by
 subst hm;have hl : (W0 ++ [(p, r)]).length = W0.length + 1 := by simp
 have h1 := h.1;rw [hl] at h1;have h2 := World.ownsRow.stored h1 (W0.length * 2 + 1) (.int .i64 z);have hlen := rcs_len W0;have he : (rcs (W0 ++ [(p, r)])).set (W0.length * 2 + 1) (.int .i64 z) = rcs (W0 ++ [(p, z)]) := by
  have e1 : rcs (W0 ++ [(p, r)]) = rcs W0 ++ [.int .i64 p, .int .i64 r] := by simp [rcs]
  have e2 : rcs (W0 ++ [(p, z)]) = rcs W0 ++ [.int .i64 p, .int .i64 z] := by simp [rcs]
  rw [e1, e2, List.set_append_right _ _ (by rw [hlen]; omega), hlen, show W0.length * 2 + 1 - W0.length * 2 = 1 by omega];rfl
 rw [he] at h2;refine ⟨⟨by rw [show (W0 ++ [(p, z)]).length = W0.length + 1 by simp]; exact h2.1, fun h => absurd h (by simp)⟩, World.ownsRow.frozenAt h1 _, fun B w0 hb hB => ?_⟩;have := (World.ownsRow.lt h1) g rfl;exact hb.setCell (by show B ≤ g; omega) _
theorem zK {o : Oper} {a : Act} {w W : World} {K : Act → World → Prop} {Q : Exit → Act → World → Prop} {ys : Nat → Option Bool} (hgd : o.guard = none) (s x : Operand)
 (ho : o.op = .call { callee := .builtin .append, args := #[s, x], argTypes := #[24, 24] }) (base : Nat) (v : Value) (D : List Rg) (hs : a.eval s = v) (hown : OwnR w base v D)
 (q1 q2 : Int) (B : Nat) (hW : W = w.alloc (.cells #[.int .i64 q1, .int .i64 q2] 69)) (hx : a.eval x = .slice (some ⟨B, 0, none⟩) 1 1) (hB : B = w.heap.size) (hlen : D.length ≤ 100000000) (hbase : base ≤ w.heap.size)
 (h : ∀ v' w', OwnR w' base v' (D ++ [(q1, q2)]) → (∀ B w1, Below B w1 w → B ≤ base → Below B w1 w') → K (a.put o.dst v') w') :
 if Region.wanted o ys = true then Oper.wp Try.prog o a W K Q else K (a.put o.dst undef) W := by
 subst hW;rw [if_pos (by unfold Region.wanted; rw [hgd])];subst hB;obtain ⟨i0, hi, hz0, hz1, hz2⟩ := info_parts infoRange;refine wp_append_own _ s x _ ho base 69 i0 (.agg #[.int .i64 0, .int .i64 0]) 2 16 Try.underlying24 hi hz0 hz1 hz2 rfl (by decide) v _ _ hs (World.ownsRow.alloc hown.1 _) ⟨w.heap.size, 0, none⟩ 1 1 [.int .i64 q1, .int .i64 q2] hx rfl ?_ ?_ (by unfold maxLen; omega) (by omega) (by rw [World.size_alloc]; omega) ?_
 ·intro j u hj;exact z72
 ·intro u hu;exact z143
 ·intro v' w' hown' hgr _;refine h v' w' ?_ (fun B w1 hb hB => (hb.alloc (by have := hb.size; omega) _).grown hgr (by rw [World.size_alloc]; omega) (fun k hk => ?_))
  ·have e : rcs (D ++ [(q1, q2)]) = rcs D ++ [.int .i64 q1, .int .i64 q2] := by simp [rcs]
   unfold OwnR;rw [e];exact ⟨by simpa using hown', fun h => absurd h (by simp)⟩
  ·have := (World.ownsRow.lt hown.1) k hk;omega
theorem edges_any (v : Value) (l : List Rg) (most : Int) (w : World) (hv : RsAt w v l) (hl : l.length ≤ 1000000) (h1 : -9223372036854775808 ≤ most) (h2 : most ≤ 9223372036854775807) :
 Calls Try.prog 126 #[v, .int .i64 most] w fun e w' => ∃ v E, e = .returned v ∧ IntsAt w.heap.size w' v E ∧ Ed l (min most 1114111) E ∧ Below w.heap.size w w' := by
 rcases Int.lt_or_le most 0 with h | h
 ·refine (edges_none v l most w hv h h1).mono ?_;rintro e w' ⟨rfl, rfl⟩;exact ⟨_, [], rfl, Or.inl ⟨rfl, rfl⟩, Or.inl ⟨rfl, by omega⟩, Below.refl _ _⟩
 ·rcases Int.lt_or_le 1114111 most with h3 | h3
  ·refine (edges_gt v l most w hv hl h3).mono ?_;rintro e w' ⟨v', E, rfl, a, b, c⟩;exact ⟨v', E, rfl, a, Or.inr ⟨by omega, by rw [show min most 1114111 = 1114111 by omega]; exact b⟩, c⟩
  ·refine (edges_le v l most w hv hl h h3).mono ?_;rintro e w' ⟨v', E, rfl, a, b, c⟩;exact ⟨v', E, rfl, a, Or.inr ⟨by omega, by rw [show min most 1114111 = most by omega]; exact b⟩, c⟩
def JoinB (kd : Int) (a b : List Rg) (m : Int) (w : World) (e : Ending) (w' : World) : Prop := ∃ v S, e = .returned v ∧ Canon S ∧ (∀ c, Has S c ↔ 0 ≤ c ∧ c ≤ m ∧ qB kd a b c = true) ∧ OwnR w' w.heap.size v S ∧ Below w.heap.size w w'
def JoRel (kd : Int) (a b : List Rg) (E : List Int) (w4 : World) (v i : Value) (wr : World) : Prop :=
 ∃ (k : Nat) (O : List Rg), (k < E.length ∨ k = 0) ∧ i = .int .i64 k ∧ OwnR wr w4.heap.size v O ∧ JI kd a b E k O ∧ Below w4.heap.size w4 wr
end setw
end
section
namespace ucdp
open sq
theorem others_where {c : Int} {u : Bool} (h : jy c u ≠ []) : (0 ≤ c ∧ c < 1104) ∨ c = 8490 := by
 cases u with
 | false =>
  by_cases a : 65 ≤ c ∧ c ≤ 90
  ·omega
  ·by_cases b : 97 ≤ c ∧ c ≤ 122
   ·omega
   ·exfalso;apply h;unfold jy;rw [if_pos rfl, if_neg a, if_neg b]
 | true =>
  by_cases hs : Single c
  ·rw [others_single hs] at h;have : (cls c).2.2 ≠ 0 := fun e => h (if_pos e)
   exact Or.inl (shift_small this)
  ·unfold Single at hs;omega
theorem others_all {P : Int → Bool → Bool} (all : ((List.range 1104).all fun i => P (i : Int) true && P (i : Int) false) = true) (last : P 8490 true = true) (last2 : P 8490 false = true) {c : Int} {u : Bool} (h : jy c u ≠ []) : P c u = true := by
 rcases others_where h with ⟨h1, h2⟩ | rfl
 ·have := List.all_eq_true.1 all c.toNat (by simp; omega);rw [show ((c.toNat : Nat) : Int) = c by omega, dK] at this;cases u
  ·exact this.2
  ·exact this.1
 ·cases u
  ·exact last2
  ·exact last
def headB (c : Int) (u : Bool) : Bool := (jy c u).all fun x => decide (0 ≤ x) && decide (x ≤ 8490)
theorem head_all : ((List.range 1104).all fun i => headB (i : Int) true && headB (i : Int) false) = true := by decide +kernel
theorem others_mem {c x : Int} {u : Bool} (h : x ∈ jy c u) : 0 ≤ x ∧ x ≤ 8490 := by have := others_all (P := headB) head_all (by decide +kernel) (by decide +kernel) (c := c) (u := u) (List.ne_nil_of_mem h);have := List.all_eq_true.1 this x h;simpa using this
end ucdp
end
section
namespace setp
open sq
open ucdp
theorem others_len (c : Int) (u : Bool) : (jy c u).length ≤ 2 := by
 have ite_len : ∀ {p : Prop} [Decidable p] {a b : List Int}, a.length ≤ 2 → b.length ≤ 2 → (if p then a else b).length ≤ 2 := by
  intro p _ a b ha hb;split
  ·exact ha
  ·exact hb
 unfold jy
 repeat' (first | exact xL _ | exact Nat.zero_le _ | exact Nat.le_succ _ | apply ite_len)
end setp
end
section
namespace prw
open sq
open Go Go.RowKit Go.Maps bulk ucdp ucdw setp setw prp
def RV (v : Value) : Option (DataW Value × List MemPlace) := some (.held v, [])
theorem rv_inv {v x : Value} {ps : List MemPlace} (h : RV v = some (.held x, ps)) : v = x := by unfold RV at h;simp only [dG, dL, DataW.held.injEq] at h;exact h.1
theorem grown_of_below {w w' : World} (h : Below w.heap.size w w') (r : Option Nat) : w.grownBy w' r := ⟨h.os, h.tape, h.output, h.size, fun k hk _ => h.block k hk⟩
end prw
end
section
namespace prw
open sq
open Go Go.RowKit bulk ucdp ucdw setp setw prp
theorem lit_cells {R : List Rg} {w : World} {cs : Array Value} {T : TypeId} (h : cs.toList = rcs R) (i : Nat) (hi : i < R.length) :
 (w.alloc (.cells cs T)).cell? ⟨w.heap.size, i * 2, none⟩ = some (.int .i64 R[i].1) ∧ (w.alloc (.cells cs T)).cell? ⟨w.heap.size, i * 2 + 1, none⟩ = some (.int .i64 R[i].2) := by
 have hr : ∀ (l : List Rg) (i : Nat) (hi : i < l.length), (rcs l)[i * 2]? = some (.int .i64 l[i].1) ∧ (rcs l)[i * 2 + 1]? = some (.int .i64 l[i].2) := by
  intro l
  induction l with
  | nil => intro i hi; cases hi
  | cons r l ih =>
   intro i hi;cases i with
   | zero => exact ⟨rfl, rfl⟩
   | succ i =>
    exact z49
 have h2 := hr R i hi;rw [← h] at h2;rw [World.cell?_alloc_new, World.cell?_alloc_new];simpa using h2
def canonB (R : List Rg) : Bool := (R.all fun r => decide (0 ≤ r.1) && decide (r.1 ≤ r.2) && decide (r.2 ≤ 1114111)) && decide (R.Pairwise (fun a b => a.2 + 1 < b.1))
theorem canon_of {R : List Rg} (h : canonB R = true) : Canon R := by unfold canonB at h;simp only [dK, List.all_eq_true, dF] at h;exact ⟨h.2, fun r hr => ⟨(h.1 r hr).1.1, (h.1 r hr).1.2, (h.1 r hr).2⟩⟩
theorem lookP_canon (n : ByteArray) : ∀ {M : List (ByteArray × List Rg)}, (∀ p ∈ M, Canon p.2) → Canon (lookP M n [])
 | [], _ => canon_nil
 | (k, R) :: M, h => by
  unfold lookP;split
  ·exact h (k, R) (dJ ..)
  ·exact lookP_canon n fun p hp => h p (List.mem_cons_of_mem _ hp)
theorem posixP_canon (n : ByteArray) : Canon (jC n) := lookP_canon n fun _ hp => posix_canon hp
theorem escP_canon (c : Int) : Canon (escP c) := by
 unfold escP
 repeat' split
 all_goals first | exact canon_nil | exact canon_of (by decide +kernel)
end prw
end
section
namespace tkw
open sq
open Go Go.RowKit Go.Maps utfp utfw ucdp setp setw prp tkp
theorem qM {w : World} {b b' : Nat} {v : Value} {D : List Rg} (h : OwnR w b v D) (hb : b' ≤ b) : OwnR w b' v D := by
 obtain ⟨⟨h1, h2 | ⟨g, cap, cur, hv, hg, r⟩⟩, h3⟩ := h
 ·exact ⟨⟨h1, Or.inl h2⟩, h3⟩
 ·exact ⟨⟨h1, Or.inr ⟨g, cap, cur, hv, Nat.le_trans hb hg, r⟩⟩, h3⟩
end tkw
end
section
namespace utfw
open sq
open Go Go.RowKit utfp
theorem of_any (b off n cap : Nat) (g : Nat → Int) (hn : n = 1 ∨ n = 2 ∨ n = 3 ∨ n = 4) (w : World) (hg : ∀ i, 0 ≤ g i ∧ g i ≤ 255) (hcap : n ≤ cap ∧ cap ≤ 9223372036854775807)
 (hc : ∀ i, i < n → w.cell? ⟨b, off + i, none⟩ = some (.int .u8 (g i))) :
 Calls Try.prog 89 #[.slice (some ⟨b, off, none⟩) n cap] w (IntPost (ofP n g) w) := by
 have hsl : Sl w (.slice (some ⟨b, off, none⟩) n cap) n g := ⟨hg, by omega, Or.inr ⟨_, _, _, rfl, hcap, hc⟩⟩;have HSC := xH (of_strings (n := n) hg rfl);have HS := xH hsl;have Hn := xH hn;have Hg := xH hg;have Hc := xH hc;have hn1 : 1 ≤ n := by omega
 have hn4 : n ≤ 4 := by omega
 have hc0 := hc 0 (by omega);simp only [Nat.add_zero] at hc0;clear hc hg hsl hn;go_enter Try.func89, Try.ntmps89
 go_upto_block 0 with (fail)
 go_cut [3] (fun c wx => c = .int .i64 (combo n g) ∧ Drawn w wx)
 case first =>
  rcases Hn.out with h | h | h | h
  ·have t1 : ((n : Int) == 1) = true := by simp [h]
   have hcb : combo n g = g 0 := by rw [h]; rfl
   have HC := xH hcb;have hb0 := Hg.out 0;obtain ⟨a0, b0⟩ := hb0;have HH := xH h;clear h hcb hn4
   go_wp2
   go_meet
   exact ⟨by rw [HC.out], Drawn.refl _⟩
  ·have t1 : ((n : Int) == 1) = false := by simp [h]
   have t2 : ((n : Int) == 2) = true := by simp [h]
   have hcb : combo n g = (g 0 - 192) * 64 + g 1 - 128 := by rw [h]; rfl
   have HC := xH hcb;have hb0 := Hg.out 0;have hb1 := Hg.out 1;have hc1 := Hc.out 1 (by omega);have i1 : (1 : Int) < n := by omega
   obtain ⟨a0, b0⟩ := hb0;obtain ⟨a1, b1⟩ := hb1;exact z91
  ·have t1 : ((n : Int) == 1) = false := by simp [h]
   have t2 : ((n : Int) == 2) = false := by simp [h]
   have t3 : ((n : Int) == 3) = true := by simp [h]
   have hcb : combo n g = (g 0 - 224) * 4096 + (g 1 - 128) * 64 + g 2 - 128 := by rw [h]; rfl
   have HC := xH hcb;have hb0 := Hg.out 0;have hb1 := Hg.out 1;have hb2 := Hg.out 2;have hc1 := Hc.out 1 (by omega);have hc2 := Hc.out 2 (by omega);have i1 : (1 : Int) < n := by omega
   have i2 : (2 : Int) < n := by omega
   obtain ⟨a0, b0⟩ := hb0;obtain ⟨a1, b1⟩ := hb1;obtain ⟨a2, b2⟩ := hb2;exact z91
  ·have t1 : ((n : Int) == 1) = false := by simp [h]
   have t2 : ((n : Int) == 2) = false := by simp [h]
   have t3 : ((n : Int) == 3) = false := by simp [h]
   have t4 : ((n : Int) == 4) = true := by simp [h]
   have hcb : combo n g = (g 0 - 240) * 262144 + (g 1 - 128) * 4096 + (g 2 - 128) * 64 + g 3 - 128 := by rw [h]; rfl
   have HC := xH hcb;have hb0 := Hg.out 0;have hb1 := Hg.out 1;have hb2 := Hg.out 2;have hb3 := Hg.out 3;have hc1 := Hc.out 1 (by omega);have hc2 := Hc.out 2 (by omega);have hc3 := Hc.out 3 (by omega);have i1 : (1 : Int) < n := by omega
   have i2 : (2 : Int) < n := by omega
   have i3 : (3 : Int) < n := by omega
   obtain ⟨a0, b0⟩ := hb0;obtain ⟨a1, b1⟩ := hb1;obtain ⟨a2, b2⟩ := hb2;obtain ⟨a3, b3⟩ := hb3;exact z91
 case rest =>
  obtain ⟨rfl, hd⟩ := hcut;have hSC := HSC.out;generalize hF : strOf n g = s2 at *;generalize hE : strOf (enc (combo n g)).length (at_ (enc (combo n g))) = s1 at *;generalize ofP n g = R at *;generalize combo n g = c at *;have HE := xH hE;have HF := xH hF;have hne0 : ((n : Int) == 0) = false := by simp; omega
  have hs5 : (convert 22 9 (.slice (some ⟨b, off, none⟩) n cap)).run Try.prog wc.drew = .ok (.string s2) wc.drew := by rw [← HF.out];exact conv_sl (hd.drew.sl HS.out)
  clear hE hF hn1 hn4 hc0 HSC Hn Hg Hc hcap;rcases hSC with ⟨hR, rfl⟩ | ⟨rfl, hne⟩
  ·have HR := xH hR;clear hR;go_wp2_with (fail)
   first
    | go_region_with (go_at_call 116; refine (seqc_any _ _).mono ?_; rintro e w' ⟨v, rfl, hv, hb⟩; have hs1 := conv_sl (below_sl (qi (drawn_below hd.drew) hb) HS.out); rw [HF.out] at hs1; have hs2 := conv_sl hv; rw [HE.out] at hs2)
    | done
   all_goals
    (try simp only [Act.put, List.setIfInBounds_toArray])
    go_wp2
    go_ret
    exact intPost HR.out (qi (drawn_below hd.drew) hb)
  ·go_wp2_with (fail)
   first
    | go_region_with (go_at_call 116; refine (seqc_any _ _).mono ?_; rintro e w' ⟨v, rfl, hv, hb⟩; have hs1 := conv_sl (below_sl (qi (drawn_below hd.drew) hb) HS.out); rw [HF.out] at hs1; have hs2 := conv_sl hv; rw [HE.out] at hs2)
    | done
   all_goals
    (try simp only [Act.put, List.setIfInBounds_toArray])
    go_wp2
    go_ret
    exact intPost rfl (qi (drawn_below hd.drew) hb)
def sh (g : Nat → Int) (p : Nat) : Nat → Int := fun i => g (p + i)
theorem enc_nonneg {c : Int} (h : enc c ≠ []) : 0 ≤ c ∧ c ≤ 1114111 ∧ ¬ (55296 ≤ c ∧ c ≤ 57343) := by
 refine ⟨?_, ?_, ?_⟩
 all_goals
  by_cases hn : c < 0 ∨ 1114111 < c ∨ (55296 ≤ c ∧ c ≤ 57343)
  ·exact absurd (enc0 hn) h
  ·omega
theorem len0_1 {x : Int} (h : x < 128) : len0 x = 1 := by unfold len0; rw [if_pos h]
theorem len0_2 {x : Int} (h1 : 192 ≤ x) (h2 : x < 224) : len0 x = 2 := by unfold len0; rw [if_neg (by omega), if_neg (by omega), if_pos h2]
theorem len0_3 {x : Int} (h1 : 224 ≤ x) (h2 : x < 240) : len0 x = 3 := by unfold len0; rw [if_neg (by omega), if_neg (by omega), if_neg (by omega), if_pos h2]
theorem len0_4 {x : Int} (h1 : 240 ≤ x) (h2 : x < 248) : len0 x = 4 := by unfold len0; rw [if_neg (by omega), if_neg (by omega), if_neg (by omega), if_neg (by omega), if_pos h2]
theorem wid_1 {c : Int} (h1 : 0 ≤ c) (h2 : c < 128) : wid c = 1 := by unfold wid; rw [if_neg (by omega), if_pos h2]
theorem wid_2 {c : Int} (h1 : 128 ≤ c) (h2 : c < 2048) : wid c = 2 := by unfold wid; rw [if_neg (by omega), if_neg (by omega), if_pos h2]
theorem wid_3 {c : Int} (h1 : 2048 ≤ c) (h2 : c < 65536) (h3 : ¬ (55296 ≤ c ∧ c ≤ 57343)) : wid c = 3 := by unfold wid; rw [if_neg (by omega), if_neg (by omega), if_neg (by omega), if_pos h2]
theorem wid_4 {c : Int} (h1 : 65536 ≤ c) (h2 : c ≤ 1114111) : wid c = 4 := by unfold wid; rw [if_neg (by omega), if_neg (by omega), if_neg (by omega), if_neg (by omega)]
theorem seq_make {g : Nat → Int} {n p k : Nat} {c : Int} (hk : p + k ≤ n) (he : enc c = (List.range k).map (sh g p)) (hk1 : 1 ≤ k) : seqAt g n p = (c, (k : Int)) := by
 have hne : enc c ≠ [] := by
  rw [he];cases k with
  | zero => omega
  | succ k => simp [List.range_succ]
 obtain ⟨c0, c1, c2⟩ := enc_nonneg hne;by_cases h1 : c < 128
 ·rw [enc1 c0 h1] at he;have hl := congrArg List.length he;simp at hl;subst hl;simp [List.range_succ, sh] at he;unfold seqAt;rw [len0_1 (by omega), if_neg (by omega)];simp [conts, acc, head0, ← he, wid_1 c0 h1]
 by_cases h2 : c < 2048
 ·rw [enc2 (by omega) h2] at he;have hl := congrArg List.length he;simp at hl;subst hl;simp [List.range_succ, sh] at he;obtain ⟨e0, e1⟩ := he;unfold seqAt;rw [len0_2 (by omega) (by omega), if_neg (by omega)];have ha : acc g p (head0 2) (2 - 1 : Int).toNat = c := by simp [acc, head0]; omega
  rw [ha, wid_2 (by omega) h2];rw [if_pos ⟨by simp [conts]; omega, rfl⟩];rfl
 by_cases h3 : c < 65536
 ·rw [enc3 (by omega) h3 (by omega)] at he;have hl := congrArg List.length he;simp at hl;subst hl;simp [List.range_succ, sh] at he;obtain ⟨e0, e1, e2⟩ := he;unfold seqAt;rw [len0_3 (by omega) (by omega), if_neg (by omega)];have ha : acc g p (head0 3) (3 - 1 : Int).toNat = c := by simp [acc, head0, Nat.add_assoc]; omega
  rw [ha, wid_3 (by omega) h3 c2];rw [if_pos ⟨by simp [conts, Nat.add_assoc]; omega, rfl⟩];rfl
 ·rw [enc4 (by omega) c1] at he;have hl := congrArg List.length he;simp at hl;subst hl;simp [List.range_succ, sh] at he;obtain ⟨e0, e1, e2, e3⟩ := he;unfold seqAt;rw [len0_4 (by omega) (by omega), if_neg (by omega)];have ha : acc g p (head0 4) (4 - 1 : Int).toNat = c := by simp [acc, head0, Nat.add_assoc]; omega
  rw [ha, wid_4 (by omega) c1];rw [if_pos ⟨by simp [conts, Nat.add_assoc]; omega, rfl⟩];rfl
theorem seq_bytes {g : Nat → Int} {n p : Nat} (hg : ∀ i, 0 ≤ g i ∧ g i ≤ 255) (h : (seqAt g n p).2 ≠ 0) :
 enc (seqAt g n p).1 = (List.range (seqAt g n p).2.toNat).map (sh g p) ∧ combo (seqAt g n p).2.toNat (sh g p) = (seqAt g n p).1 := by
 rcases seqAt_bd (n := n) (p := p) hg with h0 | ⟨h1, h2, h3, h4, h5, h6, h7⟩
 ·rw [h0] at h; exact absurd rfl h
 generalize seqAt g n p = r at *;obtain ⟨c, s⟩ := r;simp only at *;have hl := len0_cases (g p);have hs : s = 1 ∨ s = 2 ∨ s = 3 ∨ s = 4 := by omega
 have hw := wid_cases c;rcases hs with rfl | rfl | rfl | rfl
 ·simp [acc, head0] at h7;simp [List.range_succ, sh, combo];refine ⟨?_, by omega⟩;rw [enc1 (by omega) (by omega)];simp [h7]
 ·simp [conts] at h6;simp [acc, head0] at h7;simp [List.range_succ, sh, combo];refine ⟨?_, by omega⟩;rw [enc2 (by omega) (by omega)];simp;omega
 ·simp [conts, Nat.add_assoc] at h6;simp [acc, head0, Nat.add_assoc] at h7;simp [List.range_succ, sh, combo];refine ⟨?_, by omega⟩;rw [enc3 (by omega) (by omega) (by omega)];simp;omega
 ·simp [conts, Nat.add_assoc] at h6;simp [acc, head0, Nat.add_assoc] at h7;simp [List.range_succ, sh, combo];refine ⟨?_, by omega⟩;rw [enc4 (by omega) (by omega)];simp;omega
theorem seq_of_of {g : Nat → Int} {n p k : Nat} (hk1 : 1 ≤ k) (hk : p + k ≤ n) (h : 0 ≤ ofP k (sh g p)) : seqAt g n p = (ofP k (sh g p), (k : Int)) := by
 unfold ofP at h ⊢;by_cases he : enc (combo k (sh g p)) = (List.range k).map (sh g p)
 ·rw [if_pos he];exact seq_make hk he hk1
 ·rw [if_neg he] at h; omega
theorem of_of_seq {g : Nat → Int} {n p k : Nat} (hg : ∀ i, 0 ≤ g i ∧ g i ≤ 255) (hk1 : 1 ≤ k) (h : (seqAt g n p).2 = k) : ofP k (sh g p) = (seqAt g n p).1 := by have := seq_bytes (n := n) (p := p) hg (by omega);rw [h] at this;simp only [Int.toNat_natCast] at this;unfold ofP;rw [this.2, if_pos this.1]
end utfw
end
end Go.Proofs.Ytdgfclbajjjcgaa
