/- Texts that TokensQuoteLaw leans on, merged: what the functions of the program answer. -/
import Derived.BigQuiet
import Derived.Deep.QuietTactic
import Derived.Deep.RegionHeld3
import Derived.IntWalk
import Derived.Laws.AppendOwnNone
import Derived.Laws.StructEq
import Derived.Lib.Hide
import Derived.Maps.OwnSet
import Derived.Shelf.SlicesE.Clone
import Derived.Shelf.Spec.SlicesGrow
import Derived.StillTailTactics
import Derived.Test.YtkcmjcgjfjfimaaGreatDoorBQu06
section
namespace Go.Proofs.YtkcmjcgjfjfimaaGreatDoor.setw
open Go Go.RowKit bulk ucdp ucdw
def Up (l : List Int) : Prop := l.Pairwise (· < ·)
def PutP (l : List Int) (n : Int) (l' : List Int) : Prop := Up l' ∧ (∀ x, x ∈ l' ↔ x ∈ l ∨ x = n) ∧ l'.length ≤ l.length + 1
theorem putP_same {l : List Int} {n : Int} (hU : Up l) {k : Nat} (hk : k < l.length) (he : l[k] = n) : PutP l n l :=
 ⟨hU, fun x => ⟨Or.inl, fun h => h.elim id (fun e => by subst e; rw [← he]; exact List.getElem_mem hk)⟩, by omega⟩
theorem putP_new {l : List Int} {n : Int} (hU : Up l) {k : Nat} (hk : k < l.length) (hlo : ∀ x ∈ l.take k, x < n) (hgt : n < l[k]) : PutP l n (([] ++ l.take k ++ [n]) ++ l.drop k) := by
 have hd : ∀ x ∈ l.drop k, n < x := by
   have h1 := hU.sublist (List.drop_sublist k l)
   rw [List.drop_eq_getElem_cons hk] at h1 ⊢
   intro x hx
   rcases List.mem_cons.1 hx with rfl | hx
   · exact hgt
   · have := (List.pairwise_cons.1 h1).1 x hx
     omega
 refine ⟨?_, fun x => ?_, by simp; omega⟩
 · refine List.pairwise_append.2 ⟨List.pairwise_append.2 ⟨by simpa using hU.sublist (List.take_sublist k l), List.pairwise_singleton _ _, ?_⟩, hU.sublist (List.drop_sublist k l), ?_⟩
   · intro a ha b hb
     obtain rfl := List.mem_singleton.1 hb
     exact hlo a (by simpa using ha)
   · intro a ha b hb
     have h2 := hd b hb
     rcases List.mem_append.1 ha with ha | ha
     · have := hlo a (by simpa using ha)
       omega
     · obtain rfl := List.mem_singleton.1 ha
       exact h2
 · have e : x ∈ l ↔ x ∈ l.take k ∨ x ∈ l.drop k := by rw [← List.mem_append, List.take_append_drop]
   rw [e]
   simp only [List.mem_append, List.nil_append, List.mem_singleton]
   constructor
   · rintro ((h | h) | h)
     · exact Or.inl (Or.inl h)
     · exact Or.inr h
     · exact Or.inl (Or.inr h)
   · rintro ((h | h) | h)
     · exact Or.inl (Or.inl h)
     · exact Or.inr h
     · exact Or.inl (Or.inr h)
theorem wpList_append_is {ops : Array Oper} {rest : List Oper} {o : Oper} {a : Act} {w : World} {Q : Exit → Act → World → Prop} (hgd : o.guard = none) (s x : Operand)
   (ho : o.op = .call { callee := .builtin .append, args := #[s, x], argTypes := #[32, 32] }) (base : Nat) (v : Value) (D : List Int) (hs : a.eval s = v) (hown : OwnI w base v D)
   (S : List Int) (g off m cap : Nat) (hx : a.eval x = .slice (some ⟨g, off, none⟩) m cap) (hS : S.length = m) (hc : ∀ i, i < m → w.cell? ⟨g, off + i, none⟩ = some (.int .i64 (S.getD i 0))) (hlen : D.length + S.length ≤ 100000000) (hbase : base ≤ w.heap.size)
   (h : ∀ v' w', OwnI w' base v' (D ++ S) → (∀ B w1, Below B w1 w → B ≤ base → Below B w1 w') → wpList Tryz.prog ops Q rest (a.put o.dst v') w') :
   wpList Tryz.prog ops Q (o :: rest) a w := by
 subst hS
 obtain ⟨i0, hi, hz0, hz1, hz2⟩ := info_parts infoInt
 refine wpList_append_own w hgd s x _ ho base 3 i0 (.int .i64 0) 1 8 Tryz.underlying32 hi hz0 hz1 hz2 rfl (by decide) v _ _ hs hown ⟨g, off, none⟩ S.length cap (ic S) hx (by simp [ic]) ?_ ?_ (by unfold maxLen; omega) (by omega) hbase ?_
 · intro j u hj
   have hjm : j < S.length := by
     rcases Nat.lt_or_ge j S.length with h | h
     · exact h
     · rw [List.getElem?_eq_none (by simpa [ic] using h)] at hj; cases hj
   have hplain : (⟨g, off, none⟩ : Addr).add j = ⟨g, off + j, none⟩ := by unfold Addr.add; split <;> simp_all
   rw [hplain, hc j hjm]
   simp [ic, hjm] at hj
   rw [← hj]
   simp [List.getD, hjm]
 · intro u hu
   simp only [ic, List.mem_map] at hu
   obtain ⟨y, _, rfl⟩ := hu
   rfl
 · intro v' w' hown' hgr _
   refine h v' w' ?_ (fun B w0 hb hB => hb.grown hgr (by omega) (fun k hk => ?_))
   · have e : ic (D ++ S) = ic D ++ ic S := by simp [ic]
     unfold OwnI
     rw [e]
     simpa using hown'
   · have := (World.ownsRow.lt hown) k hk
     omega
theorem wpList_append_i' {ops : Array Oper} {rest : List Oper} {o : Oper} {a : Act} {w : World} {Q : Exit → Act → World → Prop} (hgd : o.guard = none) (s x : Operand)
   (ho : o.op = .call { callee := .builtin .append, args := #[s, x], argTypes := #[32, 32] }) (base : Nat) (v : Value) (D : List Int) (hs : a.eval s = v) (hown : OwnI w base v D)
   (q : Int) (B : Nat) (hx : a.eval x = .slice (some ⟨B, 0, none⟩) 1 1) (hB : B = w.heap.size) (hlen : D.length ≤ 10000000) (hbase : base ≤ w.heap.size)
   (h : ∀ v' w', OwnI w' base v' (D ++ [q]) → (∀ B w1, Below B w1 w → B ≤ base → Below B w1 w') → wpList Tryz.prog ops Q rest (a.put o.dst v') w') :
   wpList Tryz.prog ops Q (o :: rest) a (w.alloc (.cells #[.int .i64 q] 3)) := by
 subst hB
 refine wpList_append_is hgd s x ho base v D hs (World.ownsRow.alloc hown _) [q] w.heap.size 0 1 1 hx rfl (fun i hi => ?_) (by simp; omega) (by rw [World.size_alloc]; omega) (fun v' w' h1 h2 => h v' w' h1 (fun B w1 hb hB => h2 B w1 (hb.alloc (by have := hb.size; omega) _) hB))
 have h0 : i = 0 := by omega
 subst h0
 rw [World.cell?_alloc_new]
 rfl
def PutB (base : Nat) (l : List Int) (n : Int) (w : World) (e : Ending) (w' : World) : Prop := ∃ v' l', e = .returned v' ∧ IntsAt base w' v' l' ∧ PutP l n l' ∧ Below w.heap.size w w'
def PRel (l : List Int) (n : Int) (w : World) (i : Value) (wr : World) : Prop := ∃ k : Nat, k ≤ l.length ∧ i = .int .i64 k ∧ (∀ x ∈ l.take k, x < n) ∧ wr = w
theorem getD_drop {l : List Int} {k i : Nat} : (l.drop k).getD i 0 = l.getD (k + i) 0 := by simp [List.getD]
theorem getD_take {l : List Int} {k i : Nat} (h : i < k) : (l.take k).getD i 0 = l.getD i 0 := by simp [List.getD, List.getElem?_take_of_lt h]
set_option maxRecDepth 100000 in
set_option maxHeartbeats 2000000 in
theorem put_any (v : Value) (l : List Int) (n : Int) (base : Nat) (w : World) (hv : IntsAt base w v l) (hU : Up l) (hl : l.length ≤ 10000000) (hn : ∃ x ∈ l, n ≤ x) (hbase : base ≤ w.heap.size) :
   Calls Tryz.prog 159 #[v, .int .i64 n] w (PutB base l n w) := by
 have HV := Lib.hid hv
 have HU := Lib.hid hU
 have HN := Lib.hid hn
 rcases hv with ⟨rfl, _⟩ | ⟨hne, b, cap, rfl, hb1, hb2, hc1, hc2, hc⟩
 · obtain ⟨x, hx, _⟩ := hn
   cases hx
 have HC := Lib.hid hc
 clear hn hU hc hne
 go_enter Tryz.func159, Tryz.ntmps159
 go_wp2_with fail
 go_loopw [5] (fun i wr => PRel l n w i wr) (fun i _ => l.length - (intOf i).toNat)
 case atStart => exact ⟨0, Nat.zero_le _, rfl, by simp, rfl⟩
 case round =>
   obtain ⟨k, hk, rfl, hlo, rfl⟩ := hrel
   have HL := Lib.hid hlo
   have hlt : k < l.length := by
     rcases Nat.lt_or_ge k l.length with h | h
     · exact h
     · obtain ⟨x, hx, h2⟩ := HN.out
       have := hlo x (by rw [List.take_of_length_le h]; exact hx)
       omega
   have hcell := HC.out k hlt
   have hg : l.getD k 0 = l[k] := by simp [List.getD, hlt]
   rw [hg] at hcell
   clear hlo hg
   have HT := Lib.hid (show l.take (k + 1) = l.take k ++ [l[k]] by rw [List.take_succ_eq_append_getElem hlt])
   have HS := Lib.hid (fun h => putP_same HU.out hlt (n := n) h)
   have HW := Lib.hid (fun h => putP_new HU.out hlt (n := n) HL.out h)
   generalize l[k] = y at *
   by_cases hy : y < n
   · go_wp2_with fail
     go_roundw
     case rel => exact ⟨k + 1, by omega, by go_num, by
       rw [HT.out]
       intro x hx
       rcases List.mem_append.1 hx with h | h
       · exact HL.out x h
       · obtain rfl := List.mem_singleton.1 h
         exact hy, rfl⟩
     case measure => simp [intOf]; omega
   · by_cases he : y = n
     · have HS2 := Lib.hid (HS.out he)
       subst he
       go_wp2_with fail
       go_ret
       exact ⟨_, l, rfl, HV.out, HS2.out, Below.refl _ _⟩
     · have HW2 := Lib.hid (HW.out (by omega))
       have HL1 := Lib.hid (show (l.take k).length = k by rw [List.length_take]; omega)
       have HL2 := Lib.hid (show (l.drop k).length = l.length - k by rw [List.length_drop])
       have e0 : ([] : List Int).length = 0 := rfl
       clear HS HW HT HL HN HU
       go_wp2_with (first
         | (at_builtin; refine wpList_append_is rfl _ _ rfl wr.heap.size (.slice none 0 0) [] rfl (ownI_nil _ _) (l.take k) b 0 k _ rfl HL1.out (fun i hi => by rw [getD_take hi]; simpa using HC.out i (by omega)) (by rw [HL1.out, e0]; omega) (Nat.le_refl _) ?_; intro va wa hoa hba; have HOa := Lib.hid hoa; have HBa := Lib.hid (hba _ _ (Below.refl _ _) (Nat.le_refl _)); clear hoa hba)
         | (at_builtin; refine wpList_append_i' rfl _ _ rfl wr.heap.size va ([] ++ l.take k) rfl HOa.out n _ rfl rfl (by rw [List.nil_append, HL1.out]; omega) HBa.out.size ?_; intro vb wb hob hbb; have HOb := Lib.hid hob; have HBb := Lib.hid (hbb _ _ HBa.out (Nat.le_refl _)); clear hob hbb)
         | (at_builtin; refine wpList_append_is rfl _ _ rfl wr.heap.size vb ([] ++ l.take k ++ [n]) rfl HOb.out (l.drop k) b k (l.length - k) _ rfl HL2.out (fun i hi => by rw [getD_drop]; exact below_cell HBb.out (HC.out (k + i) (by omega))) (by rw [List.nil_append, List.length_append, HL1.out, HL2.out, List.length_singleton]; omega) HBb.out.size ?_; intro vc wc hoc hbc; have HOc := Lib.hid hoc; have HBc := Lib.hid (hbc _ _ HBb.out (Nat.le_refl _)); clear hoc hbc))
       go_ret
       exact ⟨_, _, rfl, intsAt_mono hbase (intsAt_own HOc.out (by simp)), HW2.out, HBc.out⟩
end Go.Proofs.YtkcmjcgjfjfimaaGreatDoor.setw
end
section
namespace Go.Proofs.YtkcmjcgjfjfimaaGreatDoor.setw
open Go Go.RowKit bulk ucdp ucdw setp
def EP (q : Int → Prop) (n : Nat) (E : List Int) : Prop := Up E ∧ (∀ z, z ∈ E ↔ q z) ∧ E.length ≤ n
def EQ (l : List Rg) (m z : Int) : Prop := z = 0 ∨ z = m + 1 ∨ ∃ r ∈ l, (0 < r.1 ∧ r.1 ≤ m ∧ z = r.1) ∨ (0 ≤ r.2 ∧ r.2 < m ∧ z = r.2 + 1)
end Go.Proofs.YtkcmjcgjfjfimaaGreatDoor.setw
end
section
namespace Go.Proofs.YtkcmjcgjfjfimaaGreatDoor.setw
open Go Go.RowKit bulk ucdp ucdw setp
def inP (kd : Int) (x y : Bool) : Bool := if kd = 1 then x && y else if kd = 2 then !x else x || y
def qB (kd : Int) (a b : List Rg) (c : Int) : Bool := inP kd (hasB a c) (hasB b c)
def JI (kd : Int) (a b : List Rg) (E : List Int) (i : Nat) (O : List Rg) : Prop := Canon O ∧ (∀ c, Has O c ↔ 0 ≤ c ∧ c < E.getD i 0 ∧ qB kd a b c = true) ∧ O.length ≤ i
section
variable {kd m : Int} {a b : List Rg} {E : List Int} {n i : Nat} {O : List Rg} (hm : 0 ≤ m) (hm2 : m ≤ 1114111) (h : EP (EQ (a ++ b) m) n E) (hi : i + 1 < E.length) (hJ : JI kd a b E i O)
include hm h hi hJ
end
theorem rcs_len : ∀ l : List Rg, (rcs l).length = l.length * 2
 | [] => rfl
 | r :: l => by
   have e : rcs (r :: l) = [.int .i64 r.1, .int .i64 r.2] ++ rcs l := rfl
   rw [e, List.length_append, rcs_len l]
   simp only [List.length_cons, List.length_nil]
   omega
theorem run_append_zero {P : Program} {w : World} {base : Nat} {e : TypeId} {size : Nat} {v : Value} {n : Nat} {xs : List Value} (t ty : TypeId) (i : TypeInfo) (ht : P.underlying t = some (.slice e)) (hi : P.info? e = some i) (hown : w.ownsRow base e size v n xs) (a : Option Addr) (c : Nat) :
   (Builtin.append_ #[t, t] ty #[v, .slice a 0 c]).run P w = .ok v w := by
 rcases hown.2 with ⟨rfl, rfl⟩ | ⟨g, cap, cur, rfl, _, _, hnc, _⟩
 · cases a <;> simp [Builtin.append_, run_underlying ht, sizeOf, typeInfo, hi, Builtin.lenOf, Builtin.firstCells, loadCells, loadCellsFrom]
 · cases a <;> simp [Builtin.append_, run_underlying ht, sizeOf, typeInfo, hi, Builtin.lenOf, Builtin.firstCells, hnc, storeCells, loadCells, loadCellsFrom]
theorem wpList_append_rs {ops : Array Oper} {rest : List Oper} {o : Oper} {a : Act} {w : World} {Q : Exit → Act → World → Prop} (hgd : o.guard = none) (s x : Operand)
   (ho : o.op = .call { callee := .builtin .append, args := #[s, x], argTypes := #[28, 28] }) (base : Nat) (v : Value) (D : List Rg) (hs : a.eval s = v) (hown : OwnR w base v D)
   (vx : Value) (S : List Rg) (hx : a.eval x = vx) (hz : RsAt w vx S) (hlen : D.length + S.length ≤ 100000000) (hbase : base ≤ w.heap.size)
   (h : ∀ v' w', OwnR w' base v' (D ++ S) → (∀ B w1, Below B w1 w → B ≤ base → Below B w1 w') → wpList Tryz.prog ops Q rest (a.put o.dst v') w') :
   wpList Tryz.prog ops Q (o :: rest) a w := by
 obtain ⟨i0, hi, hz0, hz1, hz2⟩ := info_parts infoRange
 rcases hz with ⟨_, ⟨hS, ad, cap, rfl, _⟩ | ⟨hS, g, off, cap, rfl, hc1, hc2, hc⟩⟩
 · subst hS
   refine wpList_plain hgd fun K hK => ?_
   have hrun := run_append_zero (P := Tryz.prog) (w := w) 28 o.type i0 Tryz.underlying28 hi hown.1 ad cap
   unfold Oper.wp
   simp [execOp, ho, resolve, invoke, builtin, hs, hx, hrun, Result.andThen]
   exact hK _ _ (h v w (by simpa using hown) (fun B w0 hb _ => hb))
 · refine wpList_append_own w hgd s x _ ho base 43 i0 (.agg #[.int .i64 0, .int .i64 0]) 2 16 Tryz.underlying28 hi hz0 hz1 hz2 rfl (by decide) v _ _ hs hown.1 ⟨g, off, none⟩ S.length cap (rcs S) hx ?_ ?_ ?_ (by unfold maxLen; omega) (by omega) hbase ?_
   · exact rcs_len S
   · intro j u hj
     have hplain : (⟨g, off, none⟩ : Addr).add j = ⟨g, off + j, none⟩ := by unfold Addr.add; split <;> simp_all
     rw [hplain]
     have hr : ∀ (l : List Rg) (off j : Nat), (∀ i (hi : i < l.length), w.cell? ⟨g, off + i * 2, none⟩ = some (.int .i64 l[i].1) ∧ w.cell? ⟨g, off + i * 2 + 1, none⟩ = some (.int .i64 l[i].2)) → (rcs l)[j]? = some u → w.cell? ⟨g, off + j, none⟩ = some u := by
       intro l
       induction l with
       | nil => intro off j _ hj; simp [rcs] at hj
       | cons r l ih =>
         intro off j hc hj
         have e1 : rcs (r :: l) = [.int .i64 r.1, .int .i64 r.2] ++ rcs l := rfl
         rw [e1] at hj
         match j, hj with
         | 0, hj =>
           have := (hc 0 (by simp)).1
           simp at hj
           simpa [hj] using this
         | 1, hj =>
           have := (hc 0 (by simp)).2
           simp at hj
           simpa [hj] using this
         | j + 2, hj =>
           rw [List.getElem?_append_right (by simp)] at hj
           have h2 := ih (off + 2) j (fun i hi => by
             have := hc (i + 1) (by simpa using hi)
             rw [show off + (i + 1) * 2 = off + 2 + i * 2 by omega] at this
             simpa using this) (by simpa using hj)
           rw [show off + (j + 2) = off + 2 + j by omega]
           exact h2
     exact hr S off j hc hj
   · intro u hu
     simp only [rcs, List.mem_flatMap] at hu
     obtain ⟨r, _, hu⟩ := hu
     simp only [List.mem_cons, List.not_mem_nil, or_false] at hu
     rcases hu with rfl | rfl <;> rfl
   · intro v' w' hown' hgr hnil
     refine h v' w' ?_ (fun B w0 hb hB => hb.grown hgr (by omega) (fun k hk => ?_))
     · have e : rcs (D ++ S) = rcs D ++ rcs S := by simp [rcs]
       unfold OwnR
       rw [e]
       exact ⟨by simpa using hown', fun h => absurd (List.append_eq_nil_iff.1 h).2 hS⟩
     · have := (World.ownsRow.lt hown.1) k hk
       omega
theorem ownR_mono {w : World} {base base' : Nat} {v : Value} {D : List Rg} (h : OwnR w base v D) (hb : base' ≤ base) : OwnR w base' v D := by
 refine ⟨⟨h.1.1, ?_⟩, h.2⟩
 rcases h.1.2 with h2 | ⟨g, cap, cur, hv, hg, r⟩
 · exact Or.inl h2
 · exact Or.inr ⟨g, cap, cur, hv, Nat.le_trans hb hg, r⟩
theorem ownR_below {w w' : World} {base : Nat} {v : Value} {D : List Rg} (h : OwnR w base v D) (hb : Below w.heap.size w w') : OwnR w' base v D := by
 refine ⟨⟨h.1.1, ?_⟩, h.2⟩
 rcases h.1.2 with h2 | ⟨g, cap, cur, hv, hg, hh, r⟩
 · exact Or.inl h2
 · have hlt : g < w.heap.size := by
     rcases Nat.lt_or_ge g w.heap.size with h | h
     · exact h
     · rw [Array.getElem?_eq_none h] at hh; cases hh
   exact Or.inr ⟨g, cap, cur, hv, hg, (hb.block g hlt).trans hh, r⟩
theorem held_append_r {o : Oper} {a : Act} {w W : World} {K : Act → World → Prop} {Q : Exit → Act → World → Prop} {ys : Nat → Option Bool} (hgd : o.guard = none) (s x : Operand)
   (ho : o.op = .call { callee := .builtin .append, args := #[s, x], argTypes := #[28, 28] }) (base : Nat) (v : Value) (D : List Rg) (hs : a.eval s = v) (hown : OwnR w base v D)
   (q1 q2 : Int) (B : Nat) (hW : W = w.alloc (.cells #[.int .i64 q1, .int .i64 q2] 43)) (hx : a.eval x = .slice (some ⟨B, 0, none⟩) 1 1) (hB : B = w.heap.size) (hlen : D.length ≤ 100000000) (hbase : base ≤ w.heap.size)
   (h : ∀ v' w', OwnR w' base v' (D ++ [(q1, q2)]) → (∀ B w1, Below B w1 w → B ≤ base → Below B w1 w') → K (a.put o.dst v') w') :
   if Region.wanted o ys = true then Oper.wp Tryz.prog o a W K Q else K (a.put o.dst undef) W := by
 subst hW
 rw [if_pos (by unfold Region.wanted; rw [hgd])]
 subst hB
 obtain ⟨i0, hi, hz0, hz1, hz2⟩ := info_parts infoRange
 refine wp_append_own _ s x _ ho base 43 i0 (.agg #[.int .i64 0, .int .i64 0]) 2 16 Tryz.underlying28 hi hz0 hz1 hz2 rfl (by decide) v _ _ hs (World.ownsRow.alloc hown.1 _) ⟨w.heap.size, 0, none⟩ 1 1 [.int .i64 q1, .int .i64 q2] hx rfl ?_ ?_ (by unfold maxLen; omega) (by omega) (by rw [World.size_alloc]; omega) ?_
 · intro j u hj
   have hplain : (⟨w.heap.size, 0, none⟩ : Addr).add j = ⟨w.heap.size, j, none⟩ := by unfold Addr.add; split <;> simp_all
   rw [hplain, World.cell?_alloc_new]
   rcases j with _ | _ | j
   · simpa using hj
   · simpa using hj
   · simp at hj
 · intro u hu
   simp only [List.mem_cons, List.not_mem_nil, or_false] at hu
   rcases hu with rfl | rfl <;> rfl
 · intro v' w' hown' hgr _
   refine h v' w' ?_ (fun B w1 hb hB => (hb.alloc (by have := hb.size; omega) _).grown hgr (by rw [World.size_alloc]; omega) (fun k hk => ?_))
   · have e : rcs (D ++ [(q1, q2)]) = rcs D ++ [.int .i64 q1, .int .i64 q2] := by simp [rcs]
     unfold OwnR
     rw [e]
     exact ⟨by simpa using hown', fun h => absurd h (by simp)⟩
   · have := (World.ownsRow.lt hown.1) k hk
     omega
end Go.Proofs.YtkcmjcgjfjfimaaGreatDoor.setw
end
section
namespace Go.Proofs.YtkcmjcgjfjfimaaGreatDoor.prw
open Go Go.RowKit bulk ucdp ucdw setp setw prp
def SetA (base : Nat) (R : List Rg) (w : World) (e : Ending) (w' : World) : Prop := ∃ v, e = .returned (.agg #[v]) ∧ ZsAt base w' v R ∧ Below w.heap.size w w'
def OfRel (R : List Rg) (w1 : World) (v i : Value) (wr : World) : Prop := ∃ k : Nat, k ≤ R.length ∧ i = .int .i64 (2 * k + 1) ∧ OwnR wr w1.heap.size v (R.take k) ∧ Below w1.heap.size w1 wr
theorem set_of {R S : List Rg} (hR : Canon R) (hS : Canon S) (h : ∀ c, Has S c ↔ Has R c ∧ 0 ≤ c ∧ c ≤ min 1114111 1114111) : S = R :=
 canon_ext hS hR fun c => by
   rw [h]
   constructor
   · exact fun a => a.1
   · intro a
     have := has_bd hR.2 a
     exact ⟨a, by omega, by omega⟩
set_option maxRecDepth 100000 in
set_option maxHeartbeats 4000000 in
theorem of_any (R : List Rg) (g cap : Nat) (w : World) (hR : Canon R) (hl : R.length ≤ 1000) (hc : ∀ i (hi : i < R.length), w.cell? ⟨g, i * 2, none⟩ = some (.int .i64 R[i].1) ∧ w.cell? ⟨g, i * 2 + 1, none⟩ = some (.int .i64 R[i].2)) :
   Calls Tryz.prog 116 #[.slice (some ⟨g, 0, none⟩) (2 * R.length) cap] w (SetA w.heap.size R w) := by
 obtain ⟨n, hn⟩ : ∃ n, 2 * R.length = n := ⟨_, rfl⟩
 rw [hn]
 have HC := Lib.hid hc
 have HR := Lib.hid hR
 have HN := Lib.hid hn
 clear hc hR hn
 go_enter Tryz.func116, Tryz.ntmps116
 go_wp2_with fail
 obtain ⟨c4, f4, hlt4, hb4⟩ := cell_new w (.slice none 0 0) 113
 generalize w.alloc _ = w1 at *
 have C4 := Lib.hid c4
 have F4 := Lib.hid f4
 clear c4 f4
 go_loopw [3, 4] (fun v i wr => OfRel R w1 v i wr) (fun _ i _ => n - (intOf i).toNat)
 case atStart => exact ⟨0, Nat.zero_le _, rfl, ownR_nil _ _, Below.refl _ _⟩
 case round =>
   obtain ⟨k, hk, rfl, ho, hb⟩ := hrel
   have HO := Lib.hid ho
   have HB := Lib.hid hb
   have HBw := Lib.hid (below_trans hb4 hb)
   clear ho hb
   have hn := HN.out
   by_cases hlt : k < R.length
   · obtain ⟨hc1, hc2⟩ := HC.out k hlt
     have C1 := Lib.hid hc1
     have C2 := Lib.hid hc2
     have HT := Lib.hid (take_snoc hlt)
     have hkl : (R.take k).length ≤ 100000000 := by rw [List.length_take]; omega
     have HKL := Lib.hid hkl
     clear hc1 hc2 hkl
     obtain ⟨x, y, hxy⟩ : ∃ x y, R[k] = (x, y) := ⟨_, _, rfl⟩
     rw [hxy] at C1 C2 HT
     simp only at C1 C2
     clear hxy
     have hi1 : (2 * (k : Int) + 1) < (n : Int) := by omega
     have hi2 : IntKind.i64.wrap (2 * (k : Int) + 1 - 1) = 2 * (k : Int) := by rw [show 2 * (k : Int) + 1 - 1 = 2 * k by omega]; exact IntWalk.i64_in _ (by omega)
     have hi2b : IntKind.i64.wrap (2 * (k : Int)) = 2 * (k : Int) := IntWalk.i64_in _ (by omega)
     have hi3 : 2 * (k : Int) < (n : Int) := by omega
     have hi4 : (0 : Int) ≤ 2 * (k : Int) := by omega
     have hi5 : (0 : Int) ≤ 2 * (k : Int) + 1 := by omega
     have hi6 : (2 * (k : Int)).toNat = 2 * k := by omega
     have hi7 : (2 * (k : Int) + 1).toNat = 2 * k + 1 := by omega
     have hi8 : IntKind.i64.wrap (2 * (k : Int) + 1 + 2) = 2 * (k : Int) + 1 + 2 := IntWalk.i64_in _ (by omega)
     go_wp2_with fail
     have h0 : Below w1.heap.size w1 wr.drew := HB.out.drew
     have hd : Below w.heap.size w wr := HBw.out
     refine wp_region_held_drew (S := fun w' => Below w1.heap.size w1 w') (by kernel_rfl) h0 (fun hHeld => ?_)
     refine wpAnyH_take (i := 0) (v := ?_) rfl (by kernel_rfl) (by kernel_rfl) (by kernel_rfl) (fun _ _ _ h => h) (Or.inl ⟨by rfl, ?_⟩) (by assumption) ?_
     rotate_left
     · intro w' hSw
       have d1 := below_cell (below_trans hb4 hSw) C1.out
       have d2 := below_cell (below_trans hb4 hSw) C2.out
       rw [Nat.mul_comm] at d1 d2
       go_simp
       try rfl
     simp only [Act.put, List.setIfInBounds_toArray, List.set_cons_zero, List.set_cons_succ, List.getElem_toArray, List.getElem_cons_zero]
     refine wpAnyH_take (i := 1) (v := ?_) rfl (by kernel_rfl) (by kernel_rfl) (by kernel_rfl) (fun _ _ _ h => h) (Or.inl ⟨by rfl, ?_⟩) (by assumption) ?_
     rotate_left
     · intro w' hSw
       have d1 := below_cell (below_trans hb4 hSw) C1.out
       have d2 := below_cell (below_trans hb4 hSw) C2.out
       rw [Nat.mul_comm] at d1 d2
       go_simp
       try rfl
     simp only [Act.put, List.setIfInBounds_toArray, List.set_cons_zero, List.set_cons_succ, List.getElem_toArray, List.getElem_cons_succ, List.getElem_cons_zero]
     refine wpAnyH_take (i := 2) (v := ?_) rfl (by kernel_rfl) (by kernel_rfl) (by kernel_rfl) (fun _ _ _ h => h) (Or.inl ⟨by rfl, ?_⟩) (by assumption) ?_
     rotate_left
     · intro w' hSw
       have d1 := below_cell (below_trans hb4 hSw) C1.out
       have d2 := below_cell (below_trans hb4 hSw) C2.out
       rw [Nat.mul_comm] at d1 d2
       go_simp
       try rfl
     simp only [Act.put, List.setIfInBounds_toArray, List.set_cons_zero, List.set_cons_succ, List.getElem_toArray, List.getElem_cons_succ, List.getElem_cons_zero]
     refine wpAnyH_take (i := 3) (v := ?_) rfl (by kernel_rfl) (by kernel_rfl) (by kernel_rfl) (fun _ _ _ h => h) (Or.inl ⟨by rfl, ?_⟩) (by assumption) ?_
     rotate_left
     · intro w' hSw
       have d1 := below_cell (below_trans hb4 hSw) C1.out
       have d2 := below_cell (below_trans hb4 hSw) C2.out
       rw [Nat.mul_comm] at d1 d2
       go_simp
       try rfl
     simp only [Act.put, List.setIfInBounds_toArray, List.set_cons_zero, List.set_cons_succ, List.getElem_toArray, List.getElem_cons_succ, List.getElem_cons_zero]
     refine wpAnyH_take (i := 4) (v := ?_) rfl (by kernel_rfl) (by kernel_rfl) (by kernel_rfl) (fun _ _ _ h => h) (Or.inl ⟨by rfl, ?_⟩) (by assumption) ?_
     rotate_left
     · intro w' hSw
       have d1 := below_cell (below_trans hb4 hSw) C1.out
       have d2 := below_cell (below_trans hb4 hSw) C2.out
       rw [Nat.mul_comm] at d1 d2
       go_simp
       try rfl
     simp only [Act.put, List.setIfInBounds_toArray, List.set_cons_zero, List.set_cons_succ, List.getElem_toArray, List.getElem_cons_succ, List.getElem_cons_zero]
     refine wpAnyH_take (i := 5) (v := ?_) rfl (by kernel_rfl) (by kernel_rfl) (by kernel_rfl) (fun _ _ _ h => h) (Or.inl ⟨by rfl, ?_⟩) (by assumption) ?_
     rotate_left
     · intro w' hSw
       have d1 := below_cell (below_trans hb4 hSw) C1.out
       have d2 := below_cell (below_trans hb4 hSw) C2.out
       rw [Nat.mul_comm] at d1 d2
       go_simp
       try rfl
     simp only [Act.put, List.setIfInBounds_toArray, List.set_cons_zero, List.set_cons_succ, List.getElem_toArray, List.getElem_cons_succ, List.getElem_cons_zero]
     refine wpAnyH_take (i := 6) (v := ?_) rfl (by kernel_rfl) (by kernel_rfl) (by kernel_rfl) (fun _ _ _ h => h) (Or.inl ⟨by rfl, ?_⟩) (by assumption) ?_
     rotate_left
     · intro w' hSw
       have d1 := below_cell (below_trans hb4 hSw) C1.out
       have d2 := below_cell (below_trans hb4 hSw) C2.out
       rw [Nat.mul_comm] at d1 d2
       go_simp
       try rfl
     simp only [Act.put, List.setIfInBounds_toArray, List.set_cons_zero, List.set_cons_succ, List.getElem_toArray, List.getElem_cons_succ, List.getElem_cons_zero]
     refine wpAnyH_take (i := 7) (v := ?_) rfl (by kernel_rfl) (by kernel_rfl) (by kernel_rfl) (fun _ _ _ h => h) (Or.inl ⟨by rfl, ?_⟩) (by assumption) ?_
     rotate_left
     · intro w' hSw
       have d1 := below_cell (below_trans hb4 hSw) C1.out
       have d2 := below_cell (below_trans hb4 hSw) C2.out
       rw [Nat.mul_comm] at d1 d2
       go_simp
       try rfl
     simp only [Act.put, List.setIfInBounds_toArray, List.set_cons_zero, List.set_cons_succ, List.getElem_toArray, List.getElem_cons_succ, List.getElem_cons_zero]
     refine wpAnyH_take (i := 8) (v := ?_) rfl (by kernel_rfl) (by kernel_rfl) (by kernel_rfl) (fun _ _ _ h => h) (Or.inl ⟨by rfl, ?_⟩) (by assumption) ?_
     rotate_left
     · intro w' hSw
       have d1 := below_cell (below_trans hb4 hSw) C1.out
       have d2 := below_cell (below_trans hb4 hSw) C2.out
       rw [Nat.mul_comm] at d1 d2
       go_simp
       try rfl
     simp only [Act.put, List.setIfInBounds_toArray, List.set_cons_zero, List.set_cons_succ, List.getElem_toArray, List.getElem_cons_succ, List.getElem_cons_zero]
     refine wpAnyH_take (i := 9) (v := ?_) rfl (by kernel_rfl) (by kernel_rfl) (by kernel_rfl) (fun _ _ _ h => h) (Or.inl ⟨by rfl, ?_⟩) (by assumption) ?_
     rotate_left
     · intro w' hSw
       have d1 := below_cell (below_trans hb4 hSw) C1.out
       have d2 := below_cell (below_trans hb4 hSw) C2.out
       rw [Nat.mul_comm] at d1 d2
       go_simp
       try rfl
     simp only [Act.put, List.setIfInBounds_toArray, List.set_cons_zero, List.set_cons_succ, List.getElem_toArray, List.getElem_cons_succ, List.getElem_cons_zero]
     refine wpAnyH_take (i := 10) (v := ?_) rfl (by kernel_rfl) (by kernel_rfl) (by kernel_rfl) (fun _ _ _ h => h) (Or.inl ⟨by rfl, ?_⟩) (by assumption) ?_
     rotate_left
     · intro w' hSw
       have d1 := below_cell (below_trans hb4 hSw) C1.out
       have d2 := below_cell (below_trans hb4 hSw) C2.out
       rw [Nat.mul_comm] at d1 d2
       go_simp
       try rfl
     simp only [Act.put, List.setIfInBounds_toArray, List.set_cons_zero, List.set_cons_succ, List.getElem_toArray, List.getElem_cons_succ, List.getElem_cons_zero]
     refine wpAnyH_ready (rs := [11]) (by kernel_rfl) (by simp) ?_
     refine AllReadyH.cons rfl (fun K hK => ?_) AllReadyH.nil
     go_simp
     refine hK.out _ _ (h0.alloc h0.size _) (fun hHeld => ?_)
     clear hK K
     try simp only [Act.put, List.setIfInBounds_toArray, List.set_cons_zero, List.set_cons_succ, List.getElem_toArray, List.getElem_cons_succ, List.getElem_cons_zero]
     refine wpAnyH_ready (rs := [12]) (by kernel_rfl) (by simp) ?_
     refine AllReadyH.cons rfl (fun K hK => ?_) AllReadyH.nil
     refine held_append_r (w := wr.drew) rfl _ _ rfl w1.heap.size _ (R.take k) rfl HO.out x y _ rfl rfl rfl HKL.out h0.size ?_
     intro va2 wa2 hoa hba
     have HOA := Lib.hid hoa
     have HBA := Lib.hid (hba _ _ h0 (Nat.le_refl _))
     clear hoa hba
     refine hK.out _ _ HBA.out (fun hHeld => ?_)
     clear hK K
     try simp only [Act.put, List.setIfInBounds_toArray, List.set_cons_zero, List.set_cons_succ, List.getElem_toArray, List.getElem_cons_succ, List.getElem_cons_zero]
     refine wpAnyH_take (i := 13) (v := ?_) rfl (by kernel_rfl) (by kernel_rfl) (by kernel_rfl) (fun _ _ _ h => h) (Or.inl ⟨by rfl, ?_⟩) (by assumption) ?_
     rotate_left
     · intro w' hSw
       go_simp
       try rfl
     simp only [Act.put, List.setIfInBounds_toArray, List.set_cons_zero, List.set_cons_succ, List.getElem_toArray, List.getElem_cons_succ, List.getElem_cons_zero]
     refine wpAnyH_done (by kernel_rfl) ?_ _
     go_wp2_with fail
     go_roundw
     case rel => exact ⟨k + 1, by omega, by go_num, by rw [HT.out]; exact HOA.out, HBA.out⟩
     case measure => simp [intOf]; omega
   · obtain rfl : k = R.length := by omega
     have ho := HO.out
     rw [List.take_length] at ho
     have hwf : Wf R := wf_canon HR.out.2
     have HRs := Lib.hid (rs_own ho hwf)
     clear ho hwf
     have hni : ¬ (2 * (R.length : Int) + 1) < (n : Int) := by omega
     have HNew := Lib.hid (fun v (h : RsAt wr v R) => new_any v R 1114111 wr h (by omega) (by decide) (by decide))
     go_wp2_with fail
     refine (HNew.out _ HRs.out).mono ?_
     rintro e w2 ⟨va, S, rfl, hS, hh, hz, hb2⟩
     obtain rfl : S = R := set_of HR.out hS hh
     obtain ⟨k4, g4⟩ := keeps (below_trans HB.out hb2) hlt4 C4.out F4.out
     obtain ⟨a2, cap2, rfl⟩ := zsAt_len hz
     have HZ := Lib.hid hz
     have HB2 := Lib.hid (below_trans HB.out hb2)
     have hsz := HB.out.size
     clear hS hh hz hb2
     go_wp2_with fail
     refine bodyPost_ret (v := .agg #[.slice a2 S.length cap2]) (by simp [results, Tryz.results116, go_sem, k4]) rfl ?_
     exact ⟨_, rfl, zsAt_mono (zsAt_set (zsAt_mono HZ.out hsz) hlt4 _) (Nat.le_of_lt hlt4), (hb4.trans (HB2.out.mono (Nat.le_of_lt hlt4))).setCell (Nat.le_refl _) _⟩
end Go.Proofs.YtkcmjcgjfjfimaaGreatDoor.prw
end
section
namespace Go.Proofs.YtkcmjcgjfjfimaaGreatDoor.prw
open Go Go.RowKit bulk ucdp ucdw setp setw prp
def TabS (w : World) : Prop := ∀ i, i < 94 → w.cell? ⟨7, i, none⟩ = some (.int .i64 (st i))
theorem tabS_below {w w' : World} (h : Below w.heap.size w w') (hT : TabS w) : TabS w' := fun i hi => below_cell h (hT i hi)
def PropR (q : Int → Prop) (w : World) (e : Ending) (w' : World) : Prop := ∃ v S, e = .returned v ∧ Canon S ∧ (∀ c, Has S c ↔ q c) ∧ OwnR w' w.heap.size v S ∧ Below w.heap.size w w'
def WRel (h : Int → Bool) (w : World) (v i : Value) (wr : World) : Prop := ∃ k : Nat, k ≤ 93 ∧ i = .int .i64 k ∧ OwnR wr w.heap.size v (wl h k) ∧ Below w.heap.size w wr
set_option maxRecDepth 100000 in
set_option maxHeartbeats 4000000 in
theorem where_any (f : Nat) (lb : Array Value) (g : Nat → Nat → Bool) (w : World) (hT : TabS w) (eg : ∀ args w, (callFunc f args).run Tryz.prog w = .ok (.enter f args) w)
   (hC : ∀ c, 0 ≤ c → c ≤ 1114112 → ∀ w1, Below w.heap.size w w1 → Calls Tryz.prog f (#[.int .i64 c] ++ lb) w1 (BolB (g (cls c).1 (cls c).2.1) w1)) :
   Calls Tryz.prog 139 #[.func (.func f) #[] lb] w (PropR (fun c => 0 ≤ c ∧ c ≤ 1114111 ∧ g (cls c).1 (cls c).2.1 = true) w) := by
 have HA := Lib.hid (wl_all g)
 obtain ⟨h, hh⟩ : ∃ h : Int → Bool, (fun c => g (cls c).1 (cls c).2.1) = h := ⟨_, rfl⟩
 have hhc : ∀ c, g (cls c).1 (cls c).2.1 = h c := fun c => congrFun hh c
 rw [hh] at HA
 simp only [hhc] at hC
 have HC := Lib.hid hC
 have HT := Lib.hid hT
 clear hC hT hh hhc
 go_enter Tryz.func139, Tryz.ntmps139
 go_wp2_with fail
 go_loopw [3, 5] (fun v i wr => WRel h w v i wr) (fun _ i _ => 93 - (intOf i).toNat)
 case atStart => exact ⟨0, Nat.zero_le _, rfl, ownR_nil _ _, Below.refl _ _⟩
 case round =>
   obtain ⟨k, hk, rfl, ho, hb⟩ := hrel
   have HO := Lib.hid ho
   have HB := Lib.hid hb
   clear ho hb
   by_cases hlt : k < 93
   · have c1 := below_cell HB.out (HT.out k (by omega))
     have C1 := Lib.hid (HT.out k (by omega))
     have C2 := Lib.hid (HT.out (k + 1) (by omega))
     have b1 := st_bd k (by omega)
     have b2 := st_bd (k + 1) (by omega)
     have HCL := Lib.hid (HC.out (st k) b1.1 b1.2 wr HB.out)
     have hi1 : (k : Int) < 93 := by omega
     have hi2 : (k : Int) < 94 := by omega
     have hi3 : IntKind.i64.wrap ((k : Int) + 1) = (k : Int) + 1 := IntWalk.i64_in _ (by omega)
     have hi4 : (k : Int) + 1 < 94 := by omega
     have hi5 : (0 : Int) ≤ (k : Int) + 1 := by omega
     have hkl : (wl h k).length ≤ 100000000 := by have := wl_len h k; omega
     have HKL := Lib.hid hkl
     have HS := Lib.hid (wl_succ h k)
     generalize st k = x at *
     generalize st (k + 1) = y at *
     have hwy : IntKind.i64.wrap (y - 1) = y - 1 := IntWalk.i64_in _ (by omega)
     clear hkl
     cases hv : h x with
     | true =>
       rw [hv] at HCL HS
       go_wp2_with fail
       refine HCL.out.mono ?_
       rintro e w2 ⟨rfl, hb2⟩
       have HO2 := Lib.hid (ownR_below HO.out hb2)
       have HB2 := Lib.hid (below_trans HB.out hb2)
       clear hb2
       go_wp2_with fail
       have h0 : Below w.heap.size w w2.drew := HB2.out.drew
       refine wp_region_held_drew (S := fun w' => Below w.heap.size w w') (by kernel_rfl) h0 (fun hHeld => ?_)
       refine wpAnyH_take (i := 0) (v := ?_) rfl (by kernel_rfl) (by kernel_rfl) (by kernel_rfl) (fun _ _ _ h => h) (Or.inl ⟨by rfl, ?_⟩) (by assumption) ?_
       rotate_left
       · intro w' hSw
         have d1 := below_cell hSw C1.out
         have d2 := below_cell hSw C2.out
         go_simp
         try rfl
       simp only [Act.put, List.setIfInBounds_toArray, List.set_cons_zero, List.set_cons_succ, List.getElem_toArray, List.getElem_cons_zero]
       refine wpAnyH_take (i := 1) (v := ?_) rfl (by kernel_rfl) (by kernel_rfl) (by kernel_rfl) (fun _ _ _ h => h) (Or.inl ⟨by rfl, ?_⟩) (by assumption) ?_
       rotate_left
       · intro w' hSw
         have d1 := below_cell hSw C1.out
         have d2 := below_cell hSw C2.out
         go_simp
         try rfl
       simp only [Act.put, List.setIfInBounds_toArray, List.set_cons_zero, List.set_cons_succ, List.getElem_toArray, List.getElem_cons_succ, List.getElem_cons_zero]
       refine wpAnyH_take (i := 2) (v := ?_) rfl (by kernel_rfl) (by kernel_rfl) (by kernel_rfl) (fun _ _ _ h => h) (Or.inl ⟨by rfl, ?_⟩) (by assumption) ?_
       rotate_left
       · intro w' hSw
         have d1 := below_cell hSw C1.out
         have d2 := below_cell hSw C2.out
         go_simp
         try rfl
       simp only [Act.put, List.setIfInBounds_toArray, List.set_cons_zero, List.set_cons_succ, List.getElem_toArray, List.getElem_cons_succ, List.getElem_cons_zero]
       refine wpAnyH_take (i := 3) (v := ?_) rfl (by kernel_rfl) (by kernel_rfl) (by kernel_rfl) (fun _ _ _ h => h) (Or.inl ⟨by rfl, ?_⟩) (by assumption) ?_
       rotate_left
       · intro w' hSw
         have d1 := below_cell hSw C1.out
         have d2 := below_cell hSw C2.out
         go_simp
         try rfl
       simp only [Act.put, List.setIfInBounds_toArray, List.set_cons_zero, List.set_cons_succ, List.getElem_toArray, List.getElem_cons_succ, List.getElem_cons_zero]
       refine wpAnyH_take (i := 4) (v := ?_) rfl (by kernel_rfl) (by kernel_rfl) (by kernel_rfl) (fun _ _ _ h => h) (Or.inl ⟨by rfl, ?_⟩) (by assumption) ?_
       rotate_left
       · intro w' hSw
         have d1 := below_cell hSw C1.out
         have d2 := below_cell hSw C2.out
         go_simp
         try rfl
       simp only [Act.put, List.setIfInBounds_toArray, List.set_cons_zero, List.set_cons_succ, List.getElem_toArray, List.getElem_cons_succ, List.getElem_cons_zero]
       refine wpAnyH_take (i := 5) (v := ?_) rfl (by kernel_rfl) (by kernel_rfl) (by kernel_rfl) (fun _ _ _ h => h) (Or.inl ⟨by rfl, ?_⟩) (by assumption) ?_
       rotate_left
       · intro w' hSw
         have d1 := below_cell hSw C1.out
         have d2 := below_cell hSw C2.out
         go_simp
         try rfl
       simp only [Act.put, List.setIfInBounds_toArray, List.set_cons_zero, List.set_cons_succ, List.getElem_toArray, List.getElem_cons_succ, List.getElem_cons_zero]
       refine wpAnyH_take (i := 6) (v := ?_) rfl (by kernel_rfl) (by kernel_rfl) (by kernel_rfl) (fun _ _ _ h => h) (Or.inl ⟨by rfl, ?_⟩) (by assumption) ?_
       rotate_left
       · intro w' hSw
         have d1 := below_cell hSw C1.out
         have d2 := below_cell hSw C2.out
         go_simp
         try rfl
       simp only [Act.put, List.setIfInBounds_toArray, List.set_cons_zero, List.set_cons_succ, List.getElem_toArray, List.getElem_cons_succ, List.getElem_cons_zero]
       refine wpAnyH_take (i := 7) (v := ?_) rfl (by kernel_rfl) (by kernel_rfl) (by kernel_rfl) (fun _ _ _ h => h) (Or.inl ⟨by rfl, ?_⟩) (by assumption) ?_
       rotate_left
       · intro w' hSw
         have d1 := below_cell hSw C1.out
         have d2 := below_cell hSw C2.out
         go_simp
         try rfl
       simp only [Act.put, List.setIfInBounds_toArray, List.set_cons_zero, List.set_cons_succ, List.getElem_toArray, List.getElem_cons_succ, List.getElem_cons_zero]
       refine wpAnyH_take (i := 8) (v := ?_) rfl (by kernel_rfl) (by kernel_rfl) (by kernel_rfl) (fun _ _ _ h => h) (Or.inl ⟨by rfl, ?_⟩) (by assumption) ?_
       rotate_left
       · intro w' hSw
         have d1 := below_cell hSw C1.out
         have d2 := below_cell hSw C2.out
         go_simp
         try rfl
       simp only [Act.put, List.setIfInBounds_toArray, List.set_cons_zero, List.set_cons_succ, List.getElem_toArray, List.getElem_cons_succ, List.getElem_cons_zero]
       refine wpAnyH_take (i := 9) (v := ?_) rfl (by kernel_rfl) (by kernel_rfl) (by kernel_rfl) (fun _ _ _ h => h) (Or.inl ⟨by rfl, ?_⟩) (by assumption) ?_
       rotate_left
       · intro w' hSw
         have d1 := below_cell hSw C1.out
         have d2 := below_cell hSw C2.out
         go_simp
         try rfl
       simp only [Act.put, List.setIfInBounds_toArray, List.set_cons_zero, List.set_cons_succ, List.getElem_toArray, List.getElem_cons_succ, List.getElem_cons_zero]
       refine wpAnyH_ready (rs := [10]) (by kernel_rfl) (by simp) ?_
       refine AllReadyH.cons rfl (fun K hK => ?_) AllReadyH.nil
       go_simp
       refine hK.out _ _ (h0.alloc h0.size _) (fun hHeld => ?_)
       clear hK K
       try simp only [Act.put, List.setIfInBounds_toArray, List.set_cons_zero, List.set_cons_succ, List.getElem_toArray, List.getElem_cons_succ, List.getElem_cons_zero]
       refine wpAnyH_ready (rs := [11]) (by kernel_rfl) (by simp) ?_
       refine AllReadyH.cons rfl (fun K hK => ?_) AllReadyH.nil
       refine held_append_r (w := w2.drew) rfl _ _ rfl w.heap.size _ (wl h k) rfl HO2.out x (y - 1) _ rfl rfl rfl HKL.out h0.size ?_
       intro va2 wa2 hoa hba
       have HOA := Lib.hid hoa
       have HBA := Lib.hid (hba _ _ h0 (Nat.le_refl _))
       clear hoa hba
       refine hK.out _ _ HBA.out (fun hHeld => ?_)
       clear hK K
       try simp only [Act.put, List.setIfInBounds_toArray, List.set_cons_zero, List.set_cons_succ, List.getElem_toArray, List.getElem_cons_succ, List.getElem_cons_zero]
       refine wpAnyH_take (i := 12) (v := ?_) rfl (by kernel_rfl) (by kernel_rfl) (by kernel_rfl) (fun _ _ _ h => h) (Or.inl ⟨by rfl, ?_⟩) (by assumption) ?_
       rotate_left
       · intro w' hSw
         go_simp
         try rfl
       simp only [Act.put, List.setIfInBounds_toArray, List.set_cons_zero, List.set_cons_succ, List.getElem_toArray, List.getElem_cons_succ, List.getElem_cons_zero]
       refine wpAnyH_done (by kernel_rfl) ?_ _
       go_wp2_with fail
       go_roundw
       case rel => exact ⟨k + 1, by omega, by go_num, by rw [HS.out]; exact HOA.out, HBA.out⟩
       case measure => simp [intOf]; omega
     | false =>
       rw [hv] at HCL HS
       go_wp2_with fail
       refine HCL.out.mono ?_
       rintro e w2 ⟨rfl, hb2⟩
       have HO2 := Lib.hid (ownR_below HO.out hb2)
       have HB2 := Lib.hid (below_trans HB.out hb2)
       clear hb2
       go_wp2_with fail
       go_roundw
       case rel => exact ⟨k + 1, by omega, by go_num, by rw [HS.out]; exact HO2.out, HB2.out⟩
       case measure => simp [intOf]; omega
   · obtain rfl : k = 93 := by omega
     have HRs := Lib.hid (rs_own HO.out (wl_inR (h := h) (Nat.le_refl 93)))
     have hl : (wl h 93).length ≤ 1000000 := by have := wl_len h 93; omega
     have HNew := Lib.hid (fun v (hv : RsAt wr v (wl h 93)) => new_any v (wl h 93) 1114111 wr hv hl (by decide) (by decide))
     clear hl
     go_wp2_with fail
     refine (HNew.out _ HRs.out).mono ?_
     rintro e w2 ⟨va, S, rfl, hS, hhs, hz, hb2⟩
     have HSC := Lib.hid hS
     have HRan := Lib.hid (ranges_any va S _ w2 hS hz)
     have HB2 := Lib.hid (below_trans HB.out hb2)
     have HH := Lib.hid hhs
     clear hS hz hb2 hhs
     go_wp2_with fail
     refine HRan.out.mono ?_
     rintro e w3 ⟨vb, rfl, ho3, hb3⟩
     have HO3 := Lib.hid (ownR_mono ho3 HB2.out.size)
     have HB3 := Lib.hid (below_trans HB2.out hb3)
     clear ho3 hb3
     go_wp2_with fail
     go_ret
     exact ⟨_, S, rfl, HSC.out, fun c => by rw [HH.out c]; have := HA.out c; rwa [show min (1114111 : Int) 1114111 = 1114111 by decide], HO3.out, HB3.out⟩
end Go.Proofs.YtkcmjcgjfjfimaaGreatDoor.prw
end
section
namespace Go.Proofs.YtkcmjcgjfjfimaaGreatDoor.prw
open Go Go.RowKit Go.Maps bulk ucdp ucdw setp setw prp
def RV (v : Value) : Option (DataW Value × List MemPlace) := some (.held v, [])
theorem rv_inv {v x : Value} {ps : List MemPlace} (h : RV v = some (.held x, ps)) : v = x := by
 unfold RV at h
 simp only [Option.some.injEq, Prod.mk.injEq, DataW.held.injEq] at h
 exact h.1
def keyL (n : ByteArray) : Lit := .string n.data.toList
theorem keyL_inj {a b : ByteArray} (h : keyL a = keyL b) : a = b := by
 unfold keyL at h
 simp only [Lit.string.injEq] at h
 obtain ⟨x⟩ := a
 obtain ⟨y⟩ := b
 congr 1
 exact Array.toList_inj.1 h
def LD : List (ByteArray × Value) → DataW Value
 | [] => .map []
 | p :: l => (LD l).put (keyL p.1) (.held p.2)
theorem ld_map : ∀ l, IsMap (LD l)
 | [] => isMap_empty
 | _ :: l => (ld_map l).put _ _
theorem at_LD (n : ByteArray) (z : Value) : ∀ l, (LD l).atKey (keyL n) (.held z) = .held (lookP l n z)
 | [] => rfl
 | p :: l => by
   obtain ⟨k, v⟩ := p
   unfold LD lookP
   by_cases h : n = k
   · subst h
     rw [if_pos rfl]
     exact atKey_put_same (ld_map l) (show WideAt.IsKeyLit (.string _) from trivial) _ _
   · rw [if_neg h, atKey_put_other (fun e => h (keyL_inj e)), at_LD n z l]
theorem has_LD (n : ByteArray) : ∀ l, Maps.has (LD l) (keyL n) = l.any fun p => decide (p.1 = n)
 | [] => rfl
 | p :: l => by
   obtain ⟨k, v⟩ := p
   unfold LD
   rw [List.any_cons]
   by_cases h : n = k
   · subst h
     show Maps.has ((LD l).put (keyL n) (.held v)) (keyL n) = _
     rw [has_put_same (ld_map l) (show WideAt.IsKeyLit (keyL n) from trivial)]
     simp
   · show Maps.has ((LD l).put (keyL k) (.held v)) (keyL n) = _
     rw [has_put_other (fun e => h (keyL_inj e)), has_LD n l]
     simp [Ne.symm h]
theorem grown_of_below {w w' : World} (h : Below w.heap.size w w') (r : Option Nat) : w.grownBy w' r := ⟨h.os, h.tape, h.output, h.size, fun k hk _ => h.block k hk⟩
def MapV (w : World) (b n : Nat) (L : List (ByteArray × Value)) : Prop := w.ownsMap Tryz.prog 9 RV b n (LD L)
theorem mapV_below {w w' : World} {b n : Nat} {L : List (ByteArray × Value)} (h : MapV w b n L) (hb : Below w.heap.size w w') : MapV w' b n L := World.ownsMap.kept h (grown_of_below hb none) (by simp)
theorem mapV_made (w : World) : MapV (w.alloc (.map #[] 0)) w.heap.size 0 [] := World.ownsMap_made w _ _ _
theorem wpList_insert_v {w : World} {ops : Array Oper} {rest : List Oper} {o : Oper} {a : Act} {Q : Exit → Act → World → Prop} (hg : o.guard = none) (hd : o.dst = none) (t e : TypeId) (m x v : Operand) (key : ByteArray) (hop : o.op = Op.insert t m x v) (hx : a.eval x = .string key)
   (ht : Tryz.prog.underlying t = some (.map 9 e)) (b n : Nat) (L : List (ByteArray × Value)) (hm : a.eval m = .map (some b)) (hown : MapV w b n L) (hn : n < 1000) (hk : key.size ≤ 1000) (val : Value) (hv : a.eval v = val)
   (hK : ∀ w', MapV w' b (n + 1) ((key, val) :: L) → w.grownBy w' (some b) → wpList Tryz.prog ops Q rest a w') :
   wpList Tryz.prog ops Q (o :: rest) a w := by
 refine wpList_plain hg fun K' hK' => ?_
 obtain ⟨w', hrun, r1, r2⟩ := World.ownsMap.update hown (string_keyed Tryz.underlying9) ht (by unfold maxLen; omega) (WideMaps.keyOf_string_mk Tryz.underlying9 (s := key) (by unfold maxLen; omega)) (show RV val = some (.held val, []) from rfl)
 unfold Oper.wp
 simp [execOp, hop, hm, hx, hv, hrun, Result.andThen]
 refine hK' _ _ ?_
 rw [hd]
 exact hK w' r1 r2
def InsAt (t : TypeId) (m : Operand) : List Oper → List (ByteArray × Value) → Prop
 | _, [] => True
 | o :: l, p :: ins => (o.guard = none ∧ o.dst = none ∧ o.op = Op.insert t m (.const (.string p.1)) (.const p.2)) ∧ InsAt t m l ins
 | [], _ :: _ => False
theorem wpList_inserts {ops : Array Oper} {a : Act} {Q : Exit → Act → World → Prop} (t e : TypeId) (m : Operand) (ht : Tryz.prog.underlying t = some (.map 9 e)) (b : Nat) (hm : a.eval m = .map (some b)) :
   ∀ (ins : List (ByteArray × Value)) (l : List Oper) (w : World) (n : Nat) (L : List (ByteArray × Value)), InsAt t m l ins → MapV w b n L → n + ins.length ≤ 1000 → (∀ p ∈ ins, p.1.size ≤ 1000) →
   (∀ w', MapV w' b (n + ins.length) (ins.reverse ++ L) → w.grownBy w' (some b) → wpList Tryz.prog ops Q (l.drop ins.length) a w') → wpList Tryz.prog ops Q l a w
 | [], l, w, n, L, _, hown, _, _, h => h w hown ⟨rfl, rfl, rfl, Nat.le_refl _, fun _ _ _ => rfl⟩
 | p :: ins, [], w, n, L, hi, _, _, _, _ => hi.elim
 | p :: ins, o :: l, w, n, L, hi, hown, hn, hs, h => by
   obtain ⟨⟨h1, h2, h3⟩, h4⟩ := hi
   simp only [List.length_cons] at hn
   refine wpList_insert_v h1 h2 t e m _ _ p.1 h3 rfl ht b n L hm hown (by omega) (hs p (List.mem_cons_self ..)) p.2 rfl fun w1 m1 g1 => ?_
   refine wpList_inserts t e m ht b hm ins l w1 (n + 1) (p :: L) h4 m1 (by omega) (fun q hq => hs q (List.mem_cons_of_mem _ hq)) fun w2 m2 g2 => ?_
   have g3 : w.grownBy w2 (some b) := ⟨g2.os.trans g1.os, g2.tape.trans g1.tape, g2.output.trans g1.output, Nat.le_trans g1.size g2.size, fun k hk hne => (g2.block k (Nat.lt_of_lt_of_le hk g1.size) hne).trans (g1.block k hk hne)⟩
   refine h w2 ?_ g3
   have e1 : (p :: ins).reverse ++ L = ins.reverse ++ p :: L := by simp
   have e2 : n + (p :: ins).length = n + 1 + ins.length := by simp only [List.length_cons]; omega
   rw [e1, e2]
   exact m2
theorem wpList_lookup_ok {w : World} {ops : Array Oper} {rest : List Oper} {o : Oper} {a : Act} {Q : Exit → Act → World → Prop} (hg : o.guard = none) (t e : TypeId) (m x : Operand) (hop : o.op = Op.lookup t m x true)
   (ht : Tryz.prog.underlying t = some (.map 9 e)) (z : Value) (hz : (zeroValue e).run Tryz.prog w = .ok z w) (b n : Nat) (L : List (ByteArray × Value)) (hm : a.eval m = .map (some b)) (hown : MapV w b n L) (key : ByteArray) (hx : a.eval x = .string key) (hk : key.size ≤ maxLen)
   (hK : wpList Tryz.prog ops Q rest (a.put o.dst (.tuple #[lookP L key z, .bool (L.any fun p => decide (p.1 = key))])) w) :
   wpList Tryz.prog ops Q (o :: rest) a w := by
 refine wpList_plain hg fun K' hK' => ?_
 obtain ⟨v, ps, hrun, hv⟩ := World.ownsMap.look_ok hown (string_keyed Tryz.underlying9) ht hz (show RV z = some (.held z, []) from rfl) (WideMaps.keyOf_string_mk Tryz.underlying9 (s := key) hk)
 rw [show Lit.string key.data.toList = keyL key from rfl, at_LD] at hv
 rw [show Lit.string key.data.toList = keyL key from rfl, has_LD] at hrun
 obtain rfl := rv_inv hv
 unfold Oper.wp
 simp [execOp, hop, hm, hx, hrun, Result.andThen]
 exact hK' _ _ hK
theorem zsAt_grown {base b : Nat} {w w' : World} {v : Value} {S : List Rg} {n : Nat} {L : List (ByteArray × Value)} (h : ZsAt base w v S) (hm : MapV w b n L) (hg : w.grownBy w' (some b)) : ZsAt base w' v S := by
 rcases h with h | ⟨hS, g, cap, hv, h0, h1, h2, hc⟩
 · exact Or.inl h
 · refine Or.inr ⟨hS, g, cap, hv, h0, h1, h2, fun i hi => hg.cell (hc i hi) ?_⟩
   intro e
   obtain ⟨es, clock, hb, _⟩ := hm
   have h3 := hc i hi
   simp only [Option.some.injEq] at e
   subst e
   simp [World.cell?, hb] at h3
def PL (w : World) : List (ByteArray × Value) → List (ByteArray × List Rg) → Prop
 | [], [] => True
 | p :: L, q :: M => p.1 = q.1 ∧ (∃ v, p.2 = .agg #[v] ∧ ZsAt 0 w v q.2) ∧ PL w L M
 | _, _ => False
theorem pl_below {w w' : World} (hb : Below w.heap.size w w') : ∀ {L : List (ByteArray × Value)} {M : List (ByteArray × List Rg)}, PL w L M → PL w' L M
 | [], [], _ => trivial
 | _ :: _, _ :: _, ⟨h1, ⟨v, h2, h3⟩, h4⟩ => ⟨h1, ⟨v, h2, zsAt_below h3 hb⟩, pl_below hb h4⟩
 | [], _ :: _, h => h.elim
 | _ :: _, [], h => h.elim
theorem pl_grown {w w' : World} {b n : Nat} {L0 : List (ByteArray × Value)} (hm : MapV w b n L0) (hg : w.grownBy w' (some b)) : ∀ {L : List (ByteArray × Value)} {M : List (ByteArray × List Rg)}, PL w L M → PL w' L M
 | [], [], _ => trivial
 | _ :: _, _ :: _, ⟨h1, ⟨v, h2, h3⟩, h4⟩ => ⟨h1, ⟨v, h2, zsAt_grown h3 hm hg⟩, pl_grown hm hg h4⟩
 | [], _ :: _, h => h.elim
 | _ :: _, [], h => h.elim
theorem pl_look {w : World} (n : ByteArray) : ∀ {L : List (ByteArray × Value)} {M : List (ByteArray × List Rg)}, PL w L M → ∃ v, lookP L n (.agg #[.slice none 0 0]) = .agg #[v] ∧ ZsAt 0 w v (lookP M n [])
 | [], [], _ => ⟨_, rfl, Or.inl ⟨rfl, rfl⟩⟩
 | (k, x) :: L, (k', R) :: M, ⟨h1, ⟨v, h2, h3⟩, h4⟩ => by
   simp only at h1 h2 h3
   subst h1
   unfold lookP
   by_cases h : n = k
   · rw [if_pos h, if_pos h]
     exact ⟨v, h2, h3⟩
   · rw [if_neg h, if_neg h]
     exact pl_look n h4
 | [], _ :: _, h => h.elim
 | _ :: _, [], h => h.elim
theorem pl_any {w : World} (n : ByteArray) : ∀ {L : List (ByteArray × Value)} {M : List (ByteArray × List Rg)}, PL w L M → (L.any fun p => decide (p.1 = n)) = M.any fun p => decide (p.1 = n)
 | [], [], _ => rfl
 | p :: L, q :: M, ⟨h1, _, h4⟩ => by rw [List.any_cons, List.any_cons, h1, pl_any n h4]
 | [], _ :: _, h => h.elim
 | _ :: _, [], h => h.elim
end Go.Proofs.YtkcmjcgjfjfimaaGreatDoor.prw
end
section
namespace Go.Proofs.YtkcmjcgjfjfimaaGreatDoor.prw
open Go Go.RowKit bulk ucdp ucdw setp setw prp
theorem insAt_cons {t : TypeId} {m : Operand} {o : Oper} {l : List Oper} {p : ByteArray × Value} {ins : List (ByteArray × Value)} (h : o.guard = none ∧ o.dst = none ∧ o.op = Op.insert t m (.const (.string p.1)) (.const p.2)) (h2 : InsAt t m l ins) : InsAt t m (o :: l) (p :: ins) := ⟨h, h2⟩
theorem insAt_nil {t : TypeId} {m : Operand} {l : List Oper} : InsAt t m l [] := by cases l <;> exact trivial
def kindsV : List (ByteArray × Value) := kinds.map fun p => (p.1, .int .i64 p.2)
def kindsI : List (ByteArray × Value) := [(⟨#[65, 110, 121]⟩, .int .i64 1),
 (⟨#[76, 38]⟩, .int .i64 3),
 (⟨#[76]⟩, .int .i64 2),
 (⟨#[77]⟩, .int .i64 2),
 (⟨#[78]⟩, .int .i64 2),
 (⟨#[80]⟩, .int .i64 2),
 (⟨#[83]⟩, .int .i64 2),
 (⟨#[90]⟩, .int .i64 2),
 (⟨#[67]⟩, .int .i64 2),
 (⟨#[76, 117]⟩, .int .i64 2),
 (⟨#[76, 108]⟩, .int .i64 2),
 (⟨#[76, 111]⟩, .int .i64 2),
 (⟨#[77, 110]⟩, .int .i64 2),
 (⟨#[78, 100]⟩, .int .i64 2),
 (⟨#[78, 111]⟩, .int .i64 2),
 (⟨#[80, 99]⟩, .int .i64 2),
 (⟨#[80, 100]⟩, .int .i64 2),
 (⟨#[80, 115]⟩, .int .i64 2),
 (⟨#[80, 101]⟩, .int .i64 2),
 (⟨#[80, 105]⟩, .int .i64 2),
 (⟨#[80, 102]⟩, .int .i64 2),
 (⟨#[80, 111]⟩, .int .i64 2),
 (⟨#[83, 109]⟩, .int .i64 2),
 (⟨#[83, 99]⟩, .int .i64 2),
 (⟨#[83, 107]⟩, .int .i64 2),
 (⟨#[83, 111]⟩, .int .i64 2),
 (⟨#[90, 115]⟩, .int .i64 2),
 (⟨#[90, 108]⟩, .int .i64 2),
 (⟨#[90, 112]⟩, .int .i64 2),
 (⟨#[67, 99]⟩, .int .i64 2),
 (⟨#[67, 102]⟩, .int .i64 2),
 (⟨#[67, 110]⟩, .int .i64 2),
 (⟨#[67, 111, 109, 109, 111, 110]⟩, .int .i64 4),
 (⟨#[73, 110, 104, 101, 114, 105, 116, 101, 100]⟩, .int .i64 4),
 (⟨#[76, 97, 116, 105, 110]⟩, .int .i64 4),
 (⟨#[71, 114, 101, 101, 107]⟩, .int .i64 4),
 (⟨#[67, 121, 114, 105, 108, 108, 105, 99]⟩, .int .i64 4),
 (⟨#[72, 101, 98, 114, 101, 119]⟩, .int .i64 4),
 (⟨#[65, 114, 97, 98, 105, 99]⟩, .int .i64 4),
 (⟨#[72, 105, 114, 97, 103, 97, 110, 97]⟩, .int .i64 4),
 (⟨#[72, 97, 110]⟩, .int .i64 4),
 (⟨#[85, 110, 107, 110, 111, 119, 110]⟩, .int .i64 4)]
theorem kindsI_rev : kindsI.reverse = kindsV := rfl
theorem kindsI_small : ∀ p ∈ kindsI, p.1.size ≤ 1000 := by
 intro p hp
 have all : (kindsI.all fun p => decide (p.1.size ≤ 1000)) = true := by kernel_rfl
 exact of_decide_eq_true (List.all_eq_true.1 all p hp)
theorem lookP_map {A B : Type} (f : A → B) (n : ByteArray) (z : A) : ∀ l : List (ByteArray × A), lookP (l.map fun p => (p.1, f p.2)) n (f z) = f (lookP l n z)
 | [] => rfl
 | (k, v) :: l => by
   simp only [List.map_cons]
   unfold lookP
   split
   · rfl
   · exact lookP_map f n z l
theorem kindsV_at (n : ByteArray) : lookP kindsV n (.int .i64 0) = .int .i64 (kind n) := lookP_map (Value.int .i64) n 0 kinds
def MapB (L : List (ByteArray × Value)) (w : World) (e : Ending) (w' : World) : Prop := ∃ b n, e = .returned (.map (some b)) ∧ MapV w' b n L ∧ Below w.heap.size w w'
theorem below_map {w0 w w' : World} {b : Nat} (h : Below w0.heap.size w0 w) (hg : w.grownBy w' (some b)) (hb : w0.heap.size ≤ b) : Below w0.heap.size w0 w' := h.grown hg h.size fun k hk => by cases hk; exact hb
set_option maxRecDepth 100000 in
set_option maxHeartbeats 4000000 in
theorem properties_any (w : World) : Calls Tryz.prog 138 #[] w (MapB kindsV w) := by
 have hmm := @run_makeMap Tryz.prog
 have HM := Lib.hid (mapV_made w)
 go_enter Tryz.func138, Tryz.ntmps138
 go_wp2_with (refine wpList_inserts 151 3 (.tmp 1) Tryz.underlying151 w.heap.size rfl kindsI _ _ 0 [] (by unfold kindsI; repeat' (first | exact insAt_nil | refine insAt_cons ⟨rfl, rfl, rfl⟩ ?_)) HM.out (by decide) kindsI_small ?_; intro w1 hm1 hg1; have HM1 := Lib.hid hm1; have HG1 := Lib.hid hg1; clear hm1 hg1)
 go_ret
 refine ⟨w.heap.size, 0 + kindsI.length, rfl, ?_, below_map (below_alloc w _) HG1.out (Nat.le_refl _)⟩
 have := HM1.out
 rw [List.append_nil, kindsI_rev] at this
 exact this
end Go.Proofs.YtkcmjcgjfjfimaaGreatDoor.prw
end
