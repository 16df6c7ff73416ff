/- The contract of the document's put: a number put into rising ones, each once. -/
import Derived.Test.YtgdhhpbpbkgmeaaDoorUcdW5
import Derived.Lib.Hide
namespace Go.Proofs.YtgdhhpbpbkgmeaaDoor.setw
open Go Go.RowKit Go.Proofs.YtgdhhpbpbkgmeaaDoor.bulk Go.Proofs.YtgdhhpbpbkgmeaaDoor.ucdp Go.Proofs.YtgdhhpbpbkgmeaaDoor.ucdw

/-- rising numbers -/
def Up (l : List Int) : Prop := l.Pairwise (· < ·)
/-- what put makes of rising numbers and one more -/
def PutP (l : List Int) (n : Int) (l' : List Int) : Prop := Up l' ∧ (∀ x, x ∈ l' ↔ x ∈ l ∨ x = n) ∧ l'.length ≤ l.length + 1
theorem putP_same {l : List Int} {n : Int} (hU : Up l) {k : Nat} (hk : k < l.length) (he : l[k] = n) : PutP l n l :=
  ⟨hU, fun x => ⟨Or.inl, fun h => h.elim id (fun e => by subst e; rw [← he]; exact List.getElem_mem hk)⟩, by omega⟩
theorem putP_new {l : List Int} {n : Int} (hU : Up l) {k : Nat} (hk : k < l.length) (hlo : ∀ x ∈ l.take k, x < n) (hgt : n < l[k]) : PutP l n (([] ++ l.take k ++ [n]) ++ l.drop k) := by
  have hd : ∀ x ∈ l.drop k, n < x := by
    have h1 := hU.sublist (List.drop_sublist k l)
    rw [List.drop_eq_getElem_cons hk] at h1 ⊢
    intro x hx
    rcases List.mem_cons.1 hx with rfl | hx
    · exact hgt
    · have := (List.pairwise_cons.1 h1).1 x hx
      omega
  refine ⟨?_, fun x => ?_, by simp; omega⟩
  · refine List.pairwise_append.2 ⟨List.pairwise_append.2 ⟨by simpa using hU.sublist (List.take_sublist k l), List.pairwise_singleton _ _, ?_⟩, hU.sublist (List.drop_sublist k l), ?_⟩
    · intro a ha b hb
      obtain rfl := List.mem_singleton.1 hb
      exact hlo a (by simpa using ha)
    · intro a ha b hb
      have h2 := hd b hb
      rcases List.mem_append.1 ha with ha | ha
      · have := hlo a (by simpa using ha)
        omega
      · obtain rfl := List.mem_singleton.1 ha
        exact h2
  · have e : x ∈ l ↔ x ∈ l.take k ∨ x ∈ l.drop k := by rw [← List.mem_append, List.take_append_drop]
    rw [e]
    simp only [List.mem_append, List.nil_append, List.mem_singleton]
    constructor
    · rintro ((h | h) | h)
      · exact Or.inl (Or.inl h)
      · exact Or.inr h
      · exact Or.inl (Or.inr h)
    · rintro ((h | h) | h)
      · exact Or.inl (Or.inl h)
      · exact Or.inr h
      · exact Or.inl (Or.inr h)

/-- numbers out of a part of a slice, put behind numbers of the call's own -/
theorem wpList_append_is {ops : Array Oper} {rest : List Oper} {o : Oper} {a : Act} {w : World} {Q : Exit → Act → World → Prop} (hgd : o.guard = none) (s x : Operand)
    (ho : o.op = .call { callee := .builtin .append, args := #[s, x], argTypes := #[23, 23] }) (base : Nat) (v : Value) (D : List Int) (hs : a.eval s = v) (hown : OwnI w base v D)
    (S : List Int) (g off m cap : Nat) (hx : a.eval x = .slice (some ⟨g, off, none⟩) m cap) (hS : S.length = m) (hc : ∀ i, i < m → w.cell? ⟨g, off + i, none⟩ = some (.int .i64 (S.getD i 0))) (hlen : D.length + S.length ≤ 100000000) (hbase : base ≤ w.heap.size)
    (h : ∀ v' w', OwnI w' base v' (D ++ S) → (∀ B w1, Below B w1 w → B ≤ base → Below B w1 w') → wpList Tryd.prog ops Q rest (a.put o.dst v') w') :
    wpList Tryd.prog ops Q (o :: rest) a w := by
  subst hS
  obtain ⟨i0, hi, hz0, hz1, hz2⟩ := info_parts infoInt
  refine wpList_append_own w hgd s x _ ho base 3 i0 (.int .i64 0) 1 8 Tryd.underlying23 hi hz0 hz1 hz2 rfl (by decide) v _ _ hs hown ⟨g, off, none⟩ S.length cap (ic S) hx (by simp [ic]) ?_ ?_ (by unfold maxLen; omega) (by omega) hbase ?_
  · intro j u hj
    have hjm : j < S.length := by
      rcases Nat.lt_or_ge j S.length with h | h
      · exact h
      · rw [List.getElem?_eq_none (by simpa [ic] using h)] at hj; cases hj
    have hplain : (⟨g, off, none⟩ : Addr).add j = ⟨g, off + j, none⟩ := by unfold Addr.add; split <;> simp_all
    rw [hplain, hc j hjm]
    simp [ic, hjm] at hj
    rw [← hj]
    simp [List.getD, hjm]
  · intro u hu
    simp only [ic, List.mem_map] at hu
    obtain ⟨y, _, rfl⟩ := hu
    rfl
  · intro v' w' hown' hgr _
    refine h v' w' ?_ (fun B w0 hb hB => hb.grown hgr (by omega) (fun k hk => ?_))
    · have e : ic (D ++ S) = ic D ++ ic S := by simp [ic]
      unfold OwnI
      rw [e]
      simpa using hown'
    · have := (World.ownsRow.lt hown) k hk
      omega
/-- .. a new number -/
theorem wpList_append_i' {ops : Array Oper} {rest : List Oper} {o : Oper} {a : Act} {w : World} {Q : Exit → Act → World → Prop} (hgd : o.guard = none) (s x : Operand)
    (ho : o.op = .call { callee := .builtin .append, args := #[s, x], argTypes := #[23, 23] }) (base : Nat) (v : Value) (D : List Int) (hs : a.eval s = v) (hown : OwnI w base v D)
    (q : Int) (B : Nat) (hx : a.eval x = .slice (some ⟨B, 0, none⟩) 1 1) (hB : B = w.heap.size) (hlen : D.length ≤ 10000000) (hbase : base ≤ w.heap.size)
    (h : ∀ v' w', OwnI w' base v' (D ++ [q]) → (∀ B w1, Below B w1 w → B ≤ base → Below B w1 w') → wpList Tryd.prog ops Q rest (a.put o.dst v') w') :
    wpList Tryd.prog ops Q (o :: rest) a (w.alloc (.cells #[.int .i64 q] 3)) := by
  subst hB
  refine wpList_append_is hgd s x ho base v D hs (World.ownsRow.alloc hown _) [q] w.heap.size 0 1 1 hx rfl (fun i hi => ?_) (by simp; omega) (by rw [World.size_alloc]; omega) (fun v' w' h1 h2 => h v' w' h1 (fun B w1 hb hB => h2 B w1 (hb.alloc (by have := hb.size; omega) _) hB))
  have h0 : i = 0 := by omega
  subst h0
  rw [World.cell?_alloc_new]
  rfl

/-- what put answers -/
def PutB (base : Nat) (l : List Int) (n : Int) (w : World) (e : Ending) (w' : World) : Prop := ∃ v' l', e = .returned v' ∧ IntsAt base w' v' l' ∧ PutP l n l' ∧ Below w.heap.size w w'
/-- how far put has come -/
def PRel (l : List Int) (n : Int) (w : World) (i : Value) (wr : World) : Prop := ∃ k : Nat, k ≤ l.length ∧ i = .int .i64 k ∧ (∀ x ∈ l.take k, x < n) ∧ wr = w
theorem getD_drop {l : List Int} {k i : Nat} : (l.drop k).getD i 0 = l.getD (k + i) 0 := by simp [List.getD]
theorem getD_take {l : List Int} {k i : Nat} (h : i < k) : (l.take k).getD i 0 = l.getD i 0 := by simp [List.getD, List.getElem?_take_of_lt h]

set_option maxRecDepth 100000 in
set_option maxHeartbeats 2000000 in
theorem put_any (v : Value) (l : List Int) (n : Int) (base : Nat) (w : World) (hv : IntsAt base w v l) (hU : Up l) (hl : l.length ≤ 10000000) (hn : ∃ x ∈ l, n ≤ x) (hbase : base ≤ w.heap.size) :
    Calls Tryd.prog 71 #[v, .int .i64 n] w (PutB base l n w) := by
  have HV := Lib.hid hv
  have HU := Lib.hid hU
  have HN := Lib.hid hn
  rcases hv with ⟨rfl, _⟩ | ⟨hne, b, cap, rfl, hb1, hb2, hc1, hc2, hc⟩
  · obtain ⟨x, hx, _⟩ := hn
    cases hx
  have HC := Lib.hid hc
  clear hn hU hc hne
  go_enter Tryd.func71, Tryd.ntmps71
  go_wp2_with fail
  go_loopw [5] (fun i wr => PRel l n w i wr) (fun i _ => l.length - (intOf i).toNat)
  case atStart => exact ⟨0, Nat.zero_le _, rfl, by simp, rfl⟩
  case round =>
    obtain ⟨k, hk, rfl, hlo, rfl⟩ := hrel
    have HL := Lib.hid hlo
    have hlt : k < l.length := by
      rcases Nat.lt_or_ge k l.length with h | h
      · exact h
      · obtain ⟨x, hx, h2⟩ := HN.out
        have := hlo x (by rw [List.take_of_length_le h]; exact hx)
        omega
    have hcell := HC.out k hlt
    have hg : l.getD k 0 = l[k] := by simp [List.getD, hlt]
    rw [hg] at hcell
    clear hlo hg
    have HT := Lib.hid (show l.take (k + 1) = l.take k ++ [l[k]] by rw [List.take_succ_eq_append_getElem hlt])
    have HS := Lib.hid (fun h => putP_same HU.out hlt (n := n) h)
    have HW := Lib.hid (fun h => putP_new HU.out hlt (n := n) HL.out h)
    generalize l[k] = y at *
    by_cases hy : y < n
    · go_wp2_with fail
      go_roundw
      case rel => exact ⟨k + 1, by omega, by go_num, by
        rw [HT.out]
        intro x hx
        rcases List.mem_append.1 hx with h | h
        · exact HL.out x h
        · obtain rfl := List.mem_singleton.1 h
          exact hy, rfl⟩
      case measure => simp [intOf]; omega
    · by_cases he : y = n
      · have HS2 := Lib.hid (HS.out he)
        subst he
        go_wp2_with fail
        go_ret
        exact ⟨_, l, rfl, HV.out, HS2.out, Below.refl _ _⟩
      · have HW2 := Lib.hid (HW.out (by omega))
        have HL1 := Lib.hid (show (l.take k).length = k by rw [List.length_take]; omega)
        have HL2 := Lib.hid (show (l.drop k).length = l.length - k by rw [List.length_drop])
        have e0 : ([] : List Int).length = 0 := rfl
        clear HS HW HT HL HN HU
        go_wp2_with (first
          | (at_builtin; refine wpList_append_is rfl _ _ rfl wr.heap.size (.slice none 0 0) [] rfl (ownI_nil _ _) (l.take k) b 0 k _ rfl HL1.out (fun i hi => by rw [getD_take hi]; simpa using HC.out i (by omega)) (by rw [HL1.out, e0]; omega) (Nat.le_refl _) ?_; intro va wa hoa hba; have HOa := Lib.hid hoa; have HBa := Lib.hid (hba _ _ (Below.refl _ _) (Nat.le_refl _)); clear hoa hba)
          | (at_builtin; refine wpList_append_i' rfl _ _ rfl wr.heap.size va ([] ++ l.take k) rfl HOa.out n _ rfl rfl (by rw [List.nil_append, HL1.out]; omega) HBa.out.size ?_; intro vb wb hob hbb; have HOb := Lib.hid hob; have HBb := Lib.hid (hbb _ _ HBa.out (Nat.le_refl _)); clear hob hbb)
          | (at_builtin; refine wpList_append_is rfl _ _ rfl wr.heap.size vb ([] ++ l.take k ++ [n]) rfl HOb.out (l.drop k) b k (l.length - k) _ rfl HL2.out (fun i hi => by rw [getD_drop]; exact below_cell HBb.out (HC.out (k + i) (by omega))) (by rw [List.nil_append, List.length_append, HL1.out, HL2.out, List.length_singleton]; omega) HBb.out.size ?_; intro vc wc hoc hbc; have HOc := Lib.hid hoc; have HBc := Lib.hid (hbc _ _ HBb.out (Nat.le_refl _)); clear hoc hbc))
        go_ret
        exact ⟨_, _, rfl, intsAt_mono hbase (intsAt_own HOc.out (by simp)), HW2.out, HBc.out⟩
end Go.Proofs.YtgdhhpbpbkgmeaaDoor.setw
