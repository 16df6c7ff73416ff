/- Maps with texts as keys that a call makes: what they hold, value by value. -/
import Derived.Test.YtgdhhpbpbkgmeaaDoorPropsW3
import Derived.Maps.OwnSet
namespace Go.Proofs.YtgdhhpbpbkgmeaaDoor.prw
open Go Go.RowKit Go.Maps Go.Proofs.YtgdhhpbpbkgmeaaDoor.bulk Go.Proofs.YtgdhhpbpbkgmeaaDoor.ucdp Go.Proofs.YtgdhhpbpbkgmeaaDoor.ucdw Go.Proofs.YtgdhhpbpbkgmeaaDoor.setp Go.Proofs.YtgdhhpbpbkgmeaaDoor.setw Go.Proofs.YtgdhhpbpbkgmeaaDoor.prp

/-- an element reads as the value that it is -/
def RV (v : Value) : Option (DataW Value × List MemPlace) := some (.held v, [])
theorem rv_inv {v x : Value} {ps : List MemPlace} (h : RV v = some (.held x, ps)) : v = x := by
  unfold RV at h
  simp only [Option.some.injEq, Prod.mk.injEq, DataW.held.injEq] at h
  exact h.1
def keyL (n : ByteArray) : Lit := .string n.data.toList
theorem keyL_inj {a b : ByteArray} (h : keyL a = keyL b) : a = b := by
  unfold keyL at h
  simp only [Lit.string.injEq] at h
  obtain ⟨x⟩ := a
  obtain ⟨y⟩ := b
  congr 1
  exact Array.toList_inj.1 h
/-- the datum of a map into which these were put, the last one first -/
def LD : List (ByteArray × Value) → DataW Value
  | [] => .map []
  | p :: l => (LD l).put (keyL p.1) (.held p.2)
theorem ld_map : ∀ l, IsMap (LD l)
  | [] => isMap_empty
  | _ :: l => (ld_map l).put _ _
theorem at_LD (n : ByteArray) (z : Value) : ∀ l, (LD l).atKey (keyL n) (.held z) = .held (lookP l n z)
  | [] => rfl
  | p :: l => by
    obtain ⟨k, v⟩ := p
    unfold LD lookP
    by_cases h : n = k
    · subst h
      rw [if_pos rfl]
      exact atKey_put_same (ld_map l) (show WideAt.IsKeyLit (.string _) from trivial) _ _
    · rw [if_neg h, atKey_put_other (fun e => h (keyL_inj e)), at_LD n z l]
theorem has_LD (n : ByteArray) : ∀ l, Maps.has (LD l) (keyL n) = l.any fun p => decide (p.1 = n)
  | [] => rfl
  | p :: l => by
    obtain ⟨k, v⟩ := p
    unfold LD
    rw [List.any_cons]
    by_cases h : n = k
    · subst h
      show Maps.has ((LD l).put (keyL n) (.held v)) (keyL n) = _
      rw [has_put_same (ld_map l) (show WideAt.IsKeyLit (keyL n) from trivial)]
      simp
    · show Maps.has ((LD l).put (keyL k) (.held v)) (keyL n) = _
      rw [has_put_other (fun e => h (keyL_inj e)), has_LD n l]
      simp [Ne.symm h]
theorem grown_of_below {w w' : World} (h : Below w.heap.size w w') (r : Option Nat) : w.grownBy w' r := ⟨h.os, h.tape, h.output, h.size, fun k hk _ => h.block k hk⟩
/-- a map of the call's own -/
def MapV (w : World) (b n : Nat) (L : List (ByteArray × Value)) : Prop := w.ownsMap Tryd.prog 9 RV b n (LD L)
theorem mapV_below {w w' : World} {b n : Nat} {L : List (ByteArray × Value)} (h : MapV w b n L) (hb : Below w.heap.size w w') : MapV w' b n L := World.ownsMap.kept h (grown_of_below hb none) (by simp)
theorem mapV_made (w : World) : MapV (w.alloc (.map #[] 0)) w.heap.size 0 [] := World.ownsMap_made w _ _ _
/-- a literal's entry is put in -/
theorem wpList_insert_v {w : World} {ops : Array Oper} {rest : List Oper} {o : Oper} {a : Act} {Q : Exit → Act → World → Prop} (hg : o.guard = none) (hd : o.dst = none) (t e : TypeId) (m x v : Operand) (key : ByteArray) (hop : o.op = Op.insert t m x v) (hx : a.eval x = .string key)
    (ht : Tryd.prog.underlying t = some (.map 9 e)) (b n : Nat) (L : List (ByteArray × Value)) (hm : a.eval m = .map (some b)) (hown : MapV w b n L) (hn : n < 1000) (hk : key.size ≤ 1000) (val : Value) (hv : a.eval v = val)
    (hK : ∀ w', MapV w' b (n + 1) ((key, val) :: L) → w.grownBy w' (some b) → wpList Tryd.prog ops Q rest a w') :
    wpList Tryd.prog ops Q (o :: rest) a w := by
  refine wpList_plain hg fun K' hK' => ?_
  obtain ⟨w', hrun, r1, r2⟩ := World.ownsMap.update hown (string_keyed Tryd.underlying9) ht (by unfold maxLen; omega) (WideMaps.keyOf_string_mk Tryd.underlying9 (s := key) (by unfold maxLen; omega)) (show RV val = some (.held val, []) from rfl)
  unfold Oper.wp
  simp [execOp, hop, hm, hx, hv, hrun, Result.andThen]
  refine hK' _ _ ?_
  rw [hd]
  exact hK w' r1 r2
/-- entries of a literal, one behind the other -/
def InsAt (t : TypeId) (m : Operand) : List Oper → List (ByteArray × Value) → Prop
  | _, [] => True
  | o :: l, p :: ins => (o.guard = none ∧ o.dst = none ∧ o.op = Op.insert t m (.const (.string p.1)) (.const p.2)) ∧ InsAt t m l ins
  | [], _ :: _ => False
theorem wpList_inserts {ops : Array Oper} {a : Act} {Q : Exit → Act → World → Prop} (t e : TypeId) (m : Operand) (ht : Tryd.prog.underlying t = some (.map 9 e)) (b : Nat) (hm : a.eval m = .map (some b)) :
    ∀ (ins : List (ByteArray × Value)) (l : List Oper) (w : World) (n : Nat) (L : List (ByteArray × Value)), InsAt t m l ins → MapV w b n L → n + ins.length ≤ 1000 → (∀ p ∈ ins, p.1.size ≤ 1000) →
    (∀ w', MapV w' b (n + ins.length) (ins.reverse ++ L) → w.grownBy w' (some b) → wpList Tryd.prog ops Q (l.drop ins.length) a w') → wpList Tryd.prog ops Q l a w
  | [], l, w, n, L, _, hown, _, _, h => h w hown ⟨rfl, rfl, rfl, Nat.le_refl _, fun _ _ _ => rfl⟩
  | p :: ins, [], w, n, L, hi, _, _, _, _ => hi.elim
  | p :: ins, o :: l, w, n, L, hi, hown, hn, hs, h => by
    obtain ⟨⟨h1, h2, h3⟩, h4⟩ := hi
    simp only [List.length_cons] at hn
    refine wpList_insert_v h1 h2 t e m _ _ p.1 h3 rfl ht b n L hm hown (by omega) (hs p (List.mem_cons_self ..)) p.2 rfl fun w1 m1 g1 => ?_
    refine wpList_inserts t e m ht b hm ins l w1 (n + 1) (p :: L) h4 m1 (by omega) (fun q hq => hs q (List.mem_cons_of_mem _ hq)) fun w2 m2 g2 => ?_
    have g3 : w.grownBy w2 (some b) := ⟨g2.os.trans g1.os, g2.tape.trans g1.tape, g2.output.trans g1.output, Nat.le_trans g1.size g2.size, fun k hk hne => (g2.block k (Nat.lt_of_lt_of_le hk g1.size) hne).trans (g1.block k hk hne)⟩
    refine h w2 ?_ g3
    have e1 : (p :: ins).reverse ++ L = ins.reverse ++ p :: L := by simp
    have e2 : n + (p :: ins).length = n + 1 + ins.length := by simp only [List.length_cons]; omega
    rw [e1, e2]
    exact m2
/-- looked up, with or without 'ok' -/
theorem wpList_lookup_v {w : World} {ops : Array Oper} {rest : List Oper} {o : Oper} {a : Act} {Q : Exit → Act → World → Prop} (hg : o.guard = none) (t e : TypeId) (m x : Operand) (hop : o.op = Op.lookup t m x false)
    (ht : Tryd.prog.underlying t = some (.map 9 e)) (z : Value) (hz : (zeroValue e).run Tryd.prog w = .ok z w) (b n : Nat) (L : List (ByteArray × Value)) (hm : a.eval m = .map (some b)) (hown : MapV w b n L) (key : ByteArray) (hx : a.eval x = .string key) (hk : key.size ≤ maxLen)
    (hK : wpList Tryd.prog ops Q rest (a.put o.dst (lookP L key z)) w) :
    wpList Tryd.prog ops Q (o :: rest) a w := by
  refine wpList_plain hg fun K' hK' => ?_
  obtain ⟨v, ps, hrun, hv⟩ := World.ownsMap.lookup hown (string_keyed Tryd.underlying9) ht hz (show RV z = some (.held z, []) from rfl) (WideMaps.keyOf_string_mk Tryd.underlying9 (s := key) hk)
  rw [show Lit.string key.data.toList = keyL key from rfl, at_LD] at hv
  obtain rfl := rv_inv hv
  unfold Oper.wp
  simp [execOp, hop, hm, hx, hrun, Result.andThen]
  exact hK' _ _ hK
theorem wpList_lookup_ok {w : World} {ops : Array Oper} {rest : List Oper} {o : Oper} {a : Act} {Q : Exit → Act → World → Prop} (hg : o.guard = none) (t e : TypeId) (m x : Operand) (hop : o.op = Op.lookup t m x true)
    (ht : Tryd.prog.underlying t = some (.map 9 e)) (z : Value) (hz : (zeroValue e).run Tryd.prog w = .ok z w) (b n : Nat) (L : List (ByteArray × Value)) (hm : a.eval m = .map (some b)) (hown : MapV w b n L) (key : ByteArray) (hx : a.eval x = .string key) (hk : key.size ≤ maxLen)
    (hK : wpList Tryd.prog ops Q rest (a.put o.dst (.tuple #[lookP L key z, .bool (L.any fun p => decide (p.1 = key))])) w) :
    wpList Tryd.prog ops Q (o :: rest) a w := by
  refine wpList_plain hg fun K' hK' => ?_
  obtain ⟨v, ps, hrun, hv⟩ := World.ownsMap.look_ok hown (string_keyed Tryd.underlying9) ht hz (show RV z = some (.held z, []) from rfl) (WideMaps.keyOf_string_mk Tryd.underlying9 (s := key) hk)
  rw [show Lit.string key.data.toList = keyL key from rfl, at_LD] at hv
  rw [show Lit.string key.data.toList = keyL key from rfl, has_LD] at hrun
  obtain rfl := rv_inv hv
  unfold Oper.wp
  simp [execOp, hop, hm, hx, hrun, Result.andThen]
  exact hK' _ _ hK

/-- ranges stay where a map is written -/
theorem zsAt_grown {base b : Nat} {w w' : World} {v : Value} {S : List Rg} {n : Nat} {L : List (ByteArray × Value)} (h : ZsAt base w v S) (hm : MapV w b n L) (hg : w.grownBy w' (some b)) : ZsAt base w' v S := by
  rcases h with h | ⟨hS, g, cap, hv, h0, h1, h2, hc⟩
  · exact Or.inl h
  · refine Or.inr ⟨hS, g, cap, hv, h0, h1, h2, fun i hi => hg.cell (hc i hi) ?_⟩
    intro e
    obtain ⟨es, clock, hb, _⟩ := hm
    have h3 := hc i hi
    simp only [Option.some.injEq] at e
    subst e
    simp [World.cell?, hb] at h3
/-- the sets that a map holds -/
def PL (w : World) : List (ByteArray × Value) → List (ByteArray × List Rg) → Prop
  | [], [] => True
  | p :: L, q :: M => p.1 = q.1 ∧ (∃ v, p.2 = .agg #[v] ∧ ZsAt 0 w v q.2) ∧ PL w L M
  | _, _ => False
theorem pl_below {w w' : World} (hb : Below w.heap.size w w') : ∀ {L : List (ByteArray × Value)} {M : List (ByteArray × List Rg)}, PL w L M → PL w' L M
  | [], [], _ => trivial
  | _ :: _, _ :: _, ⟨h1, ⟨v, h2, h3⟩, h4⟩ => ⟨h1, ⟨v, h2, zsAt_below h3 hb⟩, pl_below hb h4⟩
  | [], _ :: _, h => h.elim
  | _ :: _, [], h => h.elim
theorem pl_grown {w w' : World} {b n : Nat} {L0 : List (ByteArray × Value)} (hm : MapV w b n L0) (hg : w.grownBy w' (some b)) : ∀ {L : List (ByteArray × Value)} {M : List (ByteArray × List Rg)}, PL w L M → PL w' L M
  | [], [], _ => trivial
  | _ :: _, _ :: _, ⟨h1, ⟨v, h2, h3⟩, h4⟩ => ⟨h1, ⟨v, h2, zsAt_grown h3 hm hg⟩, pl_grown hm hg h4⟩
  | [], _ :: _, h => h.elim
  | _ :: _, [], h => h.elim
theorem pl_look {w : World} (n : ByteArray) : ∀ {L : List (ByteArray × Value)} {M : List (ByteArray × List Rg)}, PL w L M → ∃ v, lookP L n (.agg #[.slice none 0 0]) = .agg #[v] ∧ ZsAt 0 w v (lookP M n [])
  | [], [], _ => ⟨_, rfl, Or.inl ⟨rfl, rfl⟩⟩
  | (k, x) :: L, (k', R) :: M, ⟨h1, ⟨v, h2, h3⟩, h4⟩ => by
    simp only at h1 h2 h3
    subst h1
    unfold lookP
    by_cases h : n = k
    · rw [if_pos h, if_pos h]
      exact ⟨v, h2, h3⟩
    · rw [if_neg h, if_neg h]
      exact pl_look n h4
  | [], _ :: _, h => h.elim
  | _ :: _, [], h => h.elim
theorem pl_any {w : World} (n : ByteArray) : ∀ {L : List (ByteArray × Value)} {M : List (ByteArray × List Rg)}, PL w L M → (L.any fun p => decide (p.1 = n)) = M.any fun p => decide (p.1 = n)
  | [], [], _ => rfl
  | p :: L, q :: M, ⟨h1, _, h4⟩ => by rw [List.any_cons, List.any_cons, h1, pl_any n h4]
  | [], _ :: _, h => h.elim
  | _ :: _, [], h => h.elim
end Go.Proofs.YtgdhhpbpbkgmeaaDoor.prw
