/- append onto a slice of bytes that the call itself made, of a slice of bytes. -/
import Derived.Test.YtmphapcogmjgnaaDoorUtfW3
import Derived.OwnWalk
import Derived.Laws.AppendOwn
import Derived.Laws.AppendOwnNone
namespace Go.Proofs.YtmphapcogmjgnaaDoor.utfw
open Go Go.RowKit Go.Proofs.YtmphapcogmjgnaaDoor.utfp

theorem infoByte : (Tryd.prog.info? 5).map (fun i => (i.zero, i.size, i.bytes)) = some (some (.int .u8 0), 1, 1) := by kernel_rfl
/-- bytes as cells -/
def bc (l : List Int) : List Value := l.map (Value.int .u8)
/-- a slice value is nil, or has an address -/
def NilOk (v : Value) : Prop := v = .slice none 0 0 ∨ ∃ ad m c, v = .slice (some ad) m c
/-- a slice of bytes of the call's own -/
def Own (w : World) (base : Nat) (v : Value) (L : List Int) : Prop := w.ownsRow base 5 1 v L.length (bc L)

theorem own_below {w w' : World} {base : Nat} {v : Value} {L : List Int} (h : Own w base v L) (hb : Below w.heap.size w w') : Own w' base v L := by
  obtain ⟨h1, h2⟩ := h
  refine ⟨h1, ?_⟩
  rcases h2 with h2 | ⟨g, cap, cur, hv, hg, hh, r⟩
  · exact Or.inl h2
  · refine Or.inr ⟨g, cap, cur, hv, hg, ?_, r⟩
    have hlt : g < w.heap.size := by
      rcases Nat.lt_or_ge g w.heap.size with h | h
      · exact h
      · rw [Array.getElem?_eq_none h] at hh; cases hh
    rw [hb.block g hlt]
    exact hh
theorem own_nil (w : World) (base : Nat) : Own w base (.slice none 0 0) [] := World.ownsRow_nil w base _ 1
theorem own_nilOk {w : World} {base : Nat} {v : Value} {L : List Int} (h : Own w base v L) : NilOk v := by
  obtain ⟨_, h2⟩ := h
  rcases h2 with ⟨h, _⟩ | ⟨g, cap, cur, hv, _⟩
  · exact Or.inl h
  · exact Or.inr ⟨_, _, _, hv⟩
theorem own_sl {w : World} {base : Nat} {v : Value} {L : List Int} (h : Own w base v L) (hL : ∀ x ∈ L, 0 ≤ x ∧ x ≤ 255) (hlen : L.length ≤ 140737488355328) : Sl w v L.length (at_ L) := by
  refine ⟨at_bytes hL, hlen, ?_⟩
  have h' := h
  obtain ⟨_, h2⟩ := h
  rcases h2 with ⟨hv, hn⟩ | ⟨g, cap, cur, hv, _, hh, hnc, hcm, _⟩
  · left
    have e : L = [] := List.eq_nil_of_length_eq_zero hn
    subst e
    exact ⟨rfl, none, 0, hv, by omega⟩
  · right
    unfold maxLen at hcm
    refine ⟨g, 0, cap, hv, ⟨hnc, by omega⟩, fun i hi => ?_⟩
    unfold Own at h'
    rw [hv] at h'
    have := h'.cellAt i (by omega)
    rw [Nat.zero_add, this]
    simp [bc, at_, List.getD, hi]
theorem own_slice {w : World} {base : Nat} {v : Value} {L : List Int} (h : Own w base v L) : ∃ a c, v = .slice a L.length c := by
  obtain ⟨_, h2⟩ := h
  rcases h2 with ⟨h, hn⟩ | ⟨g, cap, cur, hv, _⟩
  · rw [hn]; exact ⟨_, _, h⟩
  · exact ⟨_, _, hv⟩

theorem wpList_append_sl {ops : Array Oper} {rest : List Oper} {o : Oper} {a : Act} {w : World} {Q : Exit → Act → World → Prop} (hgd : o.guard = none) (s x : Operand)
    (ho : o.op = .call { callee := .builtin .append, args := #[s, x], argTypes := #[22, 22] }) (base : Nat) (v : Value) (L : List Int) (hs : a.eval s = v) (hown : Own w base v L)
    (vx : Value) (m : Nat) (g : Nat → Int) (hx : a.eval x = vx) (hsl : Sl w vx m g) (hnil : NilOk vx) (hlen : L.length + m ≤ 140737488355328) (hbase : base ≤ w.heap.size)
    (h : ∀ v' w', Own w' base v' (L ++ (List.range m).map g) → (∀ B w0, Below B w0 w → B ≤ base → Below B w0 w') → wpList Tryd.prog ops Q rest (a.put o.dst v') w') : wpList Tryd.prog ops Q (o :: rest) a w := by
  obtain ⟨i0, hi, hz0, hz1, hz2⟩ := info_parts infoByte
  rcases hnil with rfl | ⟨ad, m', c, rfl⟩
  · have hm : m = 0 := by
      obtain ⟨_, _, ⟨h0, _⟩ | ⟨b, off, cap, hv, _⟩⟩ := hsl
      · exact h0
      · cases hv
    subst hm
    refine wpList_append_own_none hgd s x _ ho base 5 i0 1 Tryd.underlying22 hi v _ _ hs hown hx ?_
    refine h v w ?_ (fun B w0 hb _ => hb)
    simpa using hown
  · have hm : m' = m := by
      obtain ⟨_, _, ⟨h0, a, cap, hv, _⟩ | ⟨b, off, cap, hv, _⟩⟩ := hsl
      · cases hv; exact h0.symm
      · cases hv; rfl
    subst hm
    refine wpList_append_own w hgd s x _ ho base 5 i0 (.int .u8 0) 1 1 Tryd.underlying22 hi hz0 hz1 hz2 rfl (by decide) v _ _ hs hown ad m' c (bc ((List.range m').map g)) hx (by simp [bc]) ?_ ?_ (by unfold maxLen; omega) (by omega) hbase ?_
    · intro j u hj
      have hjm : j < m' := by
        rcases Nat.lt_or_ge j m' with h | h
        · exact h
        · rw [List.getElem?_eq_none (by simpa [bc] using h)] at hj; cases hj
      obtain ⟨_, _, ⟨h0, _⟩ | ⟨b, off, cap, hv, _, hc⟩⟩ := hsl
      · omega
      · cases hv
        have hplain : (⟨b, off, none⟩ : Addr).add j = ⟨b, off + j, none⟩ := by unfold Addr.add; split <;> simp_all
        rw [hplain, hc j hjm]
        simp [bc, hjm] at hj
        rw [← hj]
    · intro u hu
      simp only [bc, List.mem_map] at hu
      obtain ⟨y, _, rfl⟩ := hu
      rfl
    · intro v' w' hown' hgr _
      refine h v' w' ?_ (fun B w0 hb hB => hb.grown hgr (by omega) (fun k hk => ?_))
      · have e : bc (L ++ (List.range m').map g) = bc L ++ bc ((List.range m').map g) := by simp [bc]
        unfold Own
        rw [e]
        simpa using hown'
      · have := (World.ownsRow.lt hown) k hk
        omega
end Go.Proofs.YtmphapcogmjgnaaDoor.utfw
