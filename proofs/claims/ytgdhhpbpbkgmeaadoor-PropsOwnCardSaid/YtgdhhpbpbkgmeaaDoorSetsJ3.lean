/- Ranges joined at the numbers at which something changes: plainly; and what the walk of the document's Join wants. -/
import Derived.Test.YtgdhhpbpbkgmeaaDoorSetsJ2
import Derived.Test.YtgdhhpbpbkgmeaaDoorSetsR1
import Derived.Deep.QuietTactic
import Derived.BigQuiet
import Derived.StillTailTactics
import Derived.IntWalk
namespace Go.Proofs.YtgdhhpbpbkgmeaaDoor.setw
open Go Go.RowKit Go.Proofs.YtgdhhpbpbkgmeaaDoor.bulk Go.Proofs.YtgdhhpbpbkgmeaaDoor.ucdp Go.Proofs.YtgdhhpbpbkgmeaaDoor.ucdw Go.Proofs.YtgdhhpbpbkgmeaaDoor.setp

/-- the kinds of joining: in one of both (0), in both (1), not in the first (2) -/
def inP (kd : Int) (x y : Bool) : Bool := if kd = 1 then x && y else if kd = 2 then !x else x || y
def qB (kd : Int) (a b : List Rg) (c : Int) : Bool := inP kd (hasB a c) (hasB b c)
theorem edge_bd {l : List Rg} {m : Int} {n : Nat} {E : List Int} (hm : 0 ≤ m) (h : EP (EQ l m) n E) {z : Int} (hz : z ∈ E) : 0 ≤ z ∧ z ≤ m + 1 := by
  rcases (h.2.1 z).1 hz with h | h | ⟨r, _, h | h⟩ <;> omega
/-- between two edges that stand side by side there is none -/
theorem edge_gap {E : List Int} (h : Up E) {i : Nat} (hi : i + 1 < E.length) {z : Int} (hz : z ∈ E) (h1 : E[i] < z) (h2 : z < E[i + 1]) : False := by
  obtain ⟨j, hj, rfl⟩ := List.getElem_of_mem hz
  have hp := List.pairwise_iff_getElem.1 h
  rcases Nat.lt_trichotomy j i with h3 | h3 | h3
  · have := hp j i hj (by omega) h3
    omega
  · subst h3
    omega
  · rcases Nat.lt_or_ge (i + 1) j with h4 | h4
    · have := hp (i + 1) j hi hj h4
      omega
    · have h5 : j = i + 1 := by omega
      subst h5
      omega
theorem has_const {L l : List Rg} {m e f c : Int} (hs : ∀ r ∈ l, r ∈ L) (he : 0 ≤ e) (hf : f ≤ m + 1) (hg : ∀ z, EQ L m z → e < z → z < f → False) (h1 : e ≤ c) (h2 : c < f) : hasB l c = hasB l e := by
  rw [Bool.eq_iff_iff, hasB_iff, hasB_iff]
  constructor
  · rintro ⟨r, hr, a, b⟩
    refine ⟨r, hr, ?_, by omega⟩
    rcases Int.lt_or_le e r.1 with h | h
    · exact (hg r.1 (Or.inr (Or.inr ⟨r, hs r hr, Or.inl ⟨by omega, by omega, rfl⟩⟩)) h (by omega)).elim
    · exact h
  · rintro ⟨r, hr, a, b⟩
    refine ⟨r, hr, by omega, ?_⟩
    rcases Int.lt_or_le r.2 c with h | h
    · exact (hg (r.2 + 1) (Or.inr (Or.inr ⟨r, hs r hr, Or.inr ⟨by omega, by omega, rfl⟩⟩)) (by omega) (by omega)).elim
    · exact h
theorem q_const {kd : Int} {a b : List Rg} {m : Int} {n : Nat} {E : List Int} (hm : 0 ≤ m) (h : EP (EQ (a ++ b) m) n E) {i : Nat} (hi : i + 1 < E.length) {c : Int} (h1 : E[i] ≤ c) (h2 : c < E[i + 1]) : qB kd a b c = qB kd a b E[i] := by
  have b1 := edge_bd hm h (List.getElem_mem (show i < E.length by omega))
  have b2 := edge_bd hm h (List.getElem_mem hi)
  have hg : ∀ z, EQ (a ++ b) m z → E[i] < z → z < E[i + 1] → False := fun z hz => edge_gap h.1 hi ((h.2.1 z).2 hz)
  unfold qB
  rw [has_const (L := a ++ b) (fun r hr => List.mem_append_left _ hr) b1.1 b2.2 hg h1 h2, has_const (L := a ++ b) (fun r hr => List.mem_append_right _ hr) b1.1 b2.2 hg h1 h2]

/-- how far Join has come: what is in below the i-th edge -/
def JI (kd : Int) (a b : List Rg) (E : List Int) (i : Nat) (O : List Rg) : Prop := Canon O ∧ (∀ c, Has O c ↔ 0 ≤ c ∧ c < E.getD i 0 ∧ qB kd a b c = true) ∧ O.length ≤ i
/-- the edges, or none where there is no number -/
def Ed (l : List Rg) (m : Int) (E : List Int) : Prop := (E = [] ∧ m < 0) ∨ (0 ≤ m ∧ EP (EQ l m) (2 * l.length + 2) E)
theorem ji_start {kd m : Int} {a b : List Rg} {E : List Int} (h : Ed (a ++ b) m E) : JI kd a b E 0 [] := by
  refine ⟨canon_nil, fun c => ⟨fun h => absurd h (has_nil _), fun ⟨h1, h2, _⟩ => ?_⟩, Nat.le_refl _⟩
  exfalso
  rcases h with ⟨rfl, _⟩ | ⟨hm, h⟩
  · simp at h2
    omega
  · have h0 := (h.2.1 0).2 (Or.inl rfl)
    obtain ⟨j, hj, e⟩ := List.getElem_of_mem h0
    rw [show E.getD 0 0 = E[0] by simp [List.getD, show 0 < E.length by omega]] at h2
    rcases Nat.eq_zero_or_pos j with h3 | h3
    · subst h3
      omega
    · have := List.pairwise_iff_getElem.1 h.1 0 j (by omega) hj h3
      omega
theorem ji_end {kd m : Int} {a b : List Rg} {E : List Int} (h : Ed (a ++ b) m E) {i : Nat} {O : List Rg} (hJ : JI kd a b E i O) (hi : i < E.length ∨ i = 0) (hi2 : ¬ i + 1 < E.length) : Canon O ∧ ∀ c, Has O c ↔ 0 ≤ c ∧ c ≤ m ∧ qB kd a b c = true := by
  refine ⟨hJ.1, fun c => ?_⟩
  rw [hJ.2.1]
  rcases h with ⟨rfl, h0⟩ | ⟨hm, h⟩
  · simp
    omega
  · have h0 := (h.2.1 (m + 1)).2 (Or.inr (Or.inl rfl))
    obtain ⟨j, hj, e⟩ := List.getElem_of_mem h0
    have hlt : i < E.length := by omega
    have hij : E[i] = m + 1 := by
      have b1 := edge_bd hm h (List.getElem_mem hlt)
      rcases Nat.lt_or_ge j i with h3 | h3
      · have := List.pairwise_iff_getElem.1 h.1 j i hj hlt h3
        omega
      · have h4 : j = i := by omega
        subst h4
        exact e
    rw [show E.getD i 0 = E[i] by simp [List.getD, hlt], hij]
    constructor
    · exact fun ⟨x, y, z⟩ => ⟨x, by omega, z⟩
    · exact fun ⟨x, y, z⟩ => ⟨x, by omega, z⟩
section
variable {kd m : Int} {a b : List Rg} {E : List Int} {n i : Nat} {O : List Rg} (hm : 0 ≤ m) (hm2 : m ≤ 1114111) (h : EP (EQ (a ++ b) m) n E) (hi : i + 1 < E.length) (hJ : JI kd a b E i O)
include hm h hi hJ
theorem ji_out (hq : qB kd a b E[i] = false) : JI kd a b E (i + 1) O := by
  have e1 : E.getD i 0 = E[i] := by simp [List.getD, show i < E.length by omega]
  have e2 : E.getD (i + 1) 0 = E[i + 1] := by simp [List.getD, hi]
  have hup := List.pairwise_iff_getElem.1 h.1 i (i + 1) (by omega) hi (by omega)
  refine ⟨hJ.1, fun c => ?_, Nat.le_succ_of_le hJ.2.2⟩
  rw [hJ.2.1, e1, e2]
  constructor
  · exact fun ⟨x, y, z⟩ => ⟨x, by omega, z⟩
  · rintro ⟨x, y, z⟩
    refine ⟨x, ?_, z⟩
    rcases Int.lt_or_le c E[i] with h3 | h3
    · exact h3
    · have := q_const (kd := kd) hm h hi h3 y
      rw [this, hq] at z
      cases z
omit hJ in
theorem ji_has {O' : List Rg} (hq : qB kd a b E[i] = true) (hO : ∀ c, Has O' c ↔ (0 ≤ c ∧ c < E[i] ∧ qB kd a b c = true) ∨ (E[i] ≤ c ∧ c < E[i + 1])) (c : Int) : Has O' c ↔ 0 ≤ c ∧ c < E.getD (i + 1) 0 ∧ qB kd a b c = true := by
  have e2 : E.getD (i + 1) 0 = E[i + 1] := by simp [List.getD, hi]
  have hup := List.pairwise_iff_getElem.1 h.1 i (i + 1) (by omega) hi (by omega)
  have b1 := edge_bd hm h (List.getElem_mem (show i < E.length by omega))
  rw [hO, e2]
  constructor
  · rintro (⟨x, y, z⟩ | ⟨x, y⟩)
    · exact ⟨x, by omega, z⟩
    · exact ⟨by omega, y, by rw [q_const (kd := kd) hm h hi x y]; exact hq⟩
  · rintro ⟨x, y, z⟩
    rcases Int.lt_or_le c E[i] with h3 | h3
    · exact Or.inl ⟨x, h3, z⟩
    · exact Or.inr ⟨h3, y⟩
include hm2
theorem ji_app (hq : qB kd a b E[i] = true) (hl : ∀ W0 r, O = W0 ++ [r] → r.2 + 1 ≠ E[i]) : JI kd a b E (i + 1) (O ++ [(E[i], E[i + 1] - 1)]) := by
  have e1 : E.getD i 0 = E[i] := by simp [List.getD, show i < E.length by omega]
  have hup := List.pairwise_iff_getElem.1 h.1 i (i + 1) (by omega) hi (by omega)
  have b1 := edge_bd hm h (List.getElem_mem (show i < E.length by omega))
  have b2 := edge_bd hm h (List.getElem_mem hi)
  have hJ2 := hJ.2.1
  rw [e1] at hJ2
  refine ⟨canon_snoc hJ.1 (fun r hr => ?_) b1.1 (by omega) (by omega), ji_has hm h hi hq fun c => ?_, by simpa using hJ.2.2⟩
  · have hr2 := hJ.1.2 r hr
    have h5 := (hJ2 r.2).1 ⟨r, hr, hr2.2.1, Int.le_refl _⟩
    rcases List.eq_nil_or_concat O with h6 | ⟨W0, x, h6⟩
    · subst h6
      cases hr
    · rw [List.concat_eq_append] at h6
      subst h6
      have h7 := hl W0 x rfl
      rcases List.mem_append.1 hr with h8 | h8
      · have h9 := (List.pairwise_append.1 hJ.1.1).2.2 r h8 x (by simp)
        have h10 := hJ.1.2 x (by simp)
        have h11 := (hJ2 x.2).1 ⟨x, by simp, h10.2.1, Int.le_refl _⟩
        omega
      · obtain rfl := List.mem_singleton.1 h8
        omega
  · rw [has_append, has_one, hJ2]
    simp only
    constructor
    · rintro (x | x)
      · exact Or.inl x
      · exact Or.inr (by omega)
    · rintro (x | x)
      · exact Or.inl x
      · exact Or.inr (by omega)
theorem ji_mrg (hq : qB kd a b E[i] = true) {W0 : List Rg} {p r : Int} (hO : O = W0 ++ [(p, r)]) (hr : r + 1 = E[i]) : JI kd a b E (i + 1) (W0 ++ [(p, E[i + 1] - 1)]) := by
  have e1 : E.getD i 0 = E[i] := by simp [List.getD, show i < E.length by omega]
  have hup := List.pairwise_iff_getElem.1 h.1 i (i + 1) (by omega) hi (by omega)
  have b2 := edge_bd hm h (List.getElem_mem hi)
  have hJ2 := hJ.2.1
  rw [e1] at hJ2
  subst hO
  have hC := hJ.1
  have hp := hC.2 (p, r) (by simp)
  simp only at hp
  have hW : Canon W0 := ⟨(List.pairwise_append.1 hC.1).1, fun x hx => hC.2 x (List.mem_append_left _ hx)⟩
  have hl := hJ.2.2
  refine ⟨canon_snoc hW (fun x hx => ?_) (by omega) (by omega) (by omega), ji_has hm h hi hq fun c => ?_, by simp only [List.length_append, List.length_singleton] at hl ⊢; omega⟩
  · exact (List.pairwise_append.1 hC.1).2.2 x hx (p, r) (by simp)
  · rw [← hJ2, has_append, has_one, has_append, has_one]
    simp only
    by_cases hx : Has W0 c <;> simp [hx]
    omega
end

theorem rcs_len : ∀ l : List Rg, (rcs l).length = l.length * 2
  | [] => rfl
  | r :: l => by
    have e : rcs (r :: l) = [.int .i64 r.1, .int .i64 r.2] ++ rcs l := rfl
    rw [e, List.length_append, rcs_len l]
    simp only [List.length_cons, List.length_nil]
    omega
/-- nothing, put behind what the call itself has laid -/
theorem below_draws {B : Nat} {w w' : World} (h : Below B w w') (n : Nat) : Below B w (w'.drewN n) := ⟨h.os, h.tape, h.output, h.size, h.block⟩
theorem run_append_zero {P : Program} {w : World} {base : Nat} {e : TypeId} {size : Nat} {v : Value} {n : Nat} {xs : List Value} (t ty : TypeId) (i : TypeInfo) (ht : P.underlying t = some (.slice e)) (hi : P.info? e = some i) (hown : w.ownsRow base e size v n xs) (a : Option Addr) (c : Nat) :
    (Builtin.append_ #[t, t] ty #[v, .slice a 0 c]).run P w = .ok v w := by
  rcases hown.2 with ⟨rfl, rfl⟩ | ⟨g, cap, cur, rfl, _, _, hnc, _⟩
  · cases a <;> simp [Builtin.append_, run_underlying ht, sizeOf, typeInfo, hi, Builtin.lenOf, Builtin.firstCells, loadCells, loadCellsFrom]
  · cases a <;> simp [Builtin.append_, run_underlying ht, sizeOf, typeInfo, hi, Builtin.lenOf, Builtin.firstCells, hnc, storeCells, loadCells, loadCellsFrom]
/-- ranges that came in, put behind those of the call's own -/
theorem wpList_append_rs {ops : Array Oper} {rest : List Oper} {o : Oper} {a : Act} {w : World} {Q : Exit → Act → World → Prop} (hgd : o.guard = none) (s x : Operand)
    (ho : o.op = .call { callee := .builtin .append, args := #[s, x], argTypes := #[22, 22] }) (base : Nat) (v : Value) (D : List Rg) (hs : a.eval s = v) (hown : OwnR w base v D)
    (vx : Value) (S : List Rg) (hx : a.eval x = vx) (hz : RsAt w vx S) (hlen : D.length + S.length ≤ 100000000) (hbase : base ≤ w.heap.size)
    (h : ∀ v' w', OwnR w' base v' (D ++ S) → (∀ B w1, Below B w1 w → B ≤ base → Below B w1 w') → wpList Tryd.prog ops Q rest (a.put o.dst v') w') :
    wpList Tryd.prog ops Q (o :: rest) a w := by
  obtain ⟨i0, hi, hz0, hz1, hz2⟩ := info_parts infoRange
  rcases hz with ⟨_, ⟨hS, ad, cap, rfl, _⟩ | ⟨hS, g, off, cap, rfl, hc1, hc2, hc⟩⟩
  · subst hS
    refine wpList_plain hgd fun K hK => ?_
    have hrun := run_append_zero (P := Tryd.prog) (w := w) 22 o.type i0 Tryd.underlying22 hi hown.1 ad cap
    unfold Oper.wp
    simp [execOp, ho, resolve, invoke, builtin, hs, hx, hrun, Result.andThen]
    exact hK _ _ (h v w (by simpa using hown) (fun B w0 hb _ => hb))
  · refine wpList_append_own w hgd s x _ ho base 52 i0 (.agg #[.int .i64 0, .int .i64 0]) 2 16 Tryd.underlying22 hi hz0 hz1 hz2 rfl (by decide) v _ _ hs hown.1 ⟨g, off, none⟩ S.length cap (rcs S) hx ?_ ?_ ?_ (by unfold maxLen; omega) (by omega) hbase ?_
    · exact rcs_len S
    · intro j u hj
      have hplain : (⟨g, off, none⟩ : Addr).add j = ⟨g, off + j, none⟩ := by unfold Addr.add; split <;> simp_all
      rw [hplain]
      have hr : ∀ (l : List Rg) (off j : Nat), (∀ i (hi : i < l.length), w.cell? ⟨g, off + i * 2, none⟩ = some (.int .i64 l[i].1) ∧ w.cell? ⟨g, off + i * 2 + 1, none⟩ = some (.int .i64 l[i].2)) → (rcs l)[j]? = some u → w.cell? ⟨g, off + j, none⟩ = some u := by
        intro l
        induction l with
        | nil => intro off j _ hj; simp [rcs] at hj
        | cons r l ih =>
          intro off j hc hj
          have e1 : rcs (r :: l) = [.int .i64 r.1, .int .i64 r.2] ++ rcs l := rfl
          rw [e1] at hj
          match j, hj with
          | 0, hj =>
            have := (hc 0 (by simp)).1
            simp at hj
            simpa [hj] using this
          | 1, hj =>
            have := (hc 0 (by simp)).2
            simp at hj
            simpa [hj] using this
          | j + 2, hj =>
            rw [List.getElem?_append_right (by simp)] at hj
            have h2 := ih (off + 2) j (fun i hi => by
              have := hc (i + 1) (by simpa using hi)
              rw [show off + (i + 1) * 2 = off + 2 + i * 2 by omega] at this
              simpa using this) (by simpa using hj)
            rw [show off + (j + 2) = off + 2 + j by omega]
            exact h2
      exact hr S off j hc hj
    · intro u hu
      simp only [rcs, List.mem_flatMap] at hu
      obtain ⟨r, _, hu⟩ := hu
      simp only [List.mem_cons, List.not_mem_nil, or_false] at hu
      rcases hu with rfl | rfl <;> rfl
    · intro v' w' hown' hgr hnil
      refine h v' w' ?_ (fun B w0 hb hB => hb.grown hgr (by omega) (fun k hk => ?_))
      · have e : rcs (D ++ S) = rcs D ++ rcs S := by simp [rcs]
        unfold OwnR
        rw [e]
        exact ⟨by simpa using hown', fun h => absurd (List.append_eq_nil_iff.1 h).2 hS⟩
      · have := (World.ownsRow.lt hown.1) k hk
        omega
theorem ownR_mono {w : World} {base base' : Nat} {v : Value} {D : List Rg} (h : OwnR w base v D) (hb : base' ≤ base) : OwnR w base' v D := by
  refine ⟨⟨h.1.1, ?_⟩, h.2⟩
  rcases h.1.2 with h2 | ⟨g, cap, cur, hv, hg, r⟩
  · exact Or.inl h2
  · exact Or.inr ⟨g, cap, cur, hv, Nat.le_trans hb hg, r⟩
theorem ownR_below {w w' : World} {base : Nat} {v : Value} {D : List Rg} (h : OwnR w base v D) (hb : Below w.heap.size w w') : OwnR w' base v D := by
  refine ⟨⟨h.1.1, ?_⟩, h.2⟩
  rcases h.1.2 with h2 | ⟨g, cap, cur, hv, hg, hh, r⟩
  · exact Or.inl h2
  · have hlt : g < w.heap.size := by
      rcases Nat.lt_or_ge g w.heap.size with h | h
      · exact h
      · rw [Array.getElem?_eq_none h] at hh; cases hh
    exact Or.inr ⟨g, cap, cur, hv, hg, (hb.block g hlt).trans hh, r⟩
/-- the last range's end, overwritten -/
theorem ownR_last {w : World} {base g m cap : Nat} {W0 : List Rg} {p r z : Int} (hm : W0.length = m) (h : OwnR w base (.slice (some ⟨g, 0, none⟩) (m + 1) cap) (W0 ++ [(p, r)])) :
    OwnR (w.setCell ⟨g, m * 2 + 1, none⟩ (.int .i64 z)) base (.slice (some ⟨g, 0, none⟩) (m + 1) cap) (W0 ++ [(p, z)]) ∧ w.frozen? ⟨g, m * 2 + 1, none⟩ = false ∧ ∀ B w0, Below B w0 w → B ≤ base → Below B w0 (w.setCell ⟨g, m * 2 + 1, none⟩ (.int .i64 z)) := by
  subst hm
  have hl : (W0 ++ [(p, r)]).length = W0.length + 1 := by simp
  have h1 := h.1
  rw [hl] at h1
  have h2 := World.ownsRow.stored h1 (W0.length * 2 + 1) (.int .i64 z)
  have hlen := rcs_len W0
  have he : (rcs (W0 ++ [(p, r)])).set (W0.length * 2 + 1) (.int .i64 z) = rcs (W0 ++ [(p, z)]) := by
    have e1 : rcs (W0 ++ [(p, r)]) = rcs W0 ++ [.int .i64 p, .int .i64 r] := by simp [rcs]
    have e2 : rcs (W0 ++ [(p, z)]) = rcs W0 ++ [.int .i64 p, .int .i64 z] := by simp [rcs]
    rw [e1, e2, List.set_append_right _ _ (by rw [hlen]; omega), hlen, show W0.length * 2 + 1 - W0.length * 2 = 1 by omega]
    rfl
  rw [he] at h2
  refine ⟨⟨by rw [show (W0 ++ [(p, z)]).length = W0.length + 1 by simp]; exact h2.1, fun h => absurd h (by simp)⟩, World.ownsRow.frozenAt h1 _, fun B w0 hb hB => ?_⟩
  have := (World.ownsRow.lt h1) g rfl
  exact hb.setCell (by show B ≤ g; omega) _
/-- a new range, put behind those of the call's own, where an operation of a region that draws is carried out -/
theorem held_append_r {o : Oper} {a : Act} {w W : World} {K : Act → World → Prop} {Q : Exit → Act → World → Prop} {ys : Nat → Option Bool} (hgd : o.guard = none) (s x : Operand)
    (ho : o.op = .call { callee := .builtin .append, args := #[s, x], argTypes := #[22, 22] }) (base : Nat) (v : Value) (D : List Rg) (hs : a.eval s = v) (hown : OwnR w base v D)
    (q1 q2 : Int) (B : Nat) (hW : W = w.alloc (.cells #[.int .i64 q1, .int .i64 q2] 52)) (hx : a.eval x = .slice (some ⟨B, 0, none⟩) 1 1) (hB : B = w.heap.size) (hlen : D.length ≤ 100000000) (hbase : base ≤ w.heap.size)
    (h : ∀ v' w', OwnR w' base v' (D ++ [(q1, q2)]) → (∀ B w1, Below B w1 w → B ≤ base → Below B w1 w') → K (a.put o.dst v') w') :
    if Region.wanted o ys = true then Oper.wp Tryd.prog o a W K Q else K (a.put o.dst undef) W := by
  subst hW
  rw [if_pos (by unfold Region.wanted; rw [hgd])]
  subst hB
  obtain ⟨i0, hi, hz0, hz1, hz2⟩ := info_parts infoRange
  refine wp_append_own _ s x _ ho base 52 i0 (.agg #[.int .i64 0, .int .i64 0]) 2 16 Tryd.underlying22 hi hz0 hz1 hz2 rfl (by decide) v _ _ hs (World.ownsRow.alloc hown.1 _) ⟨w.heap.size, 0, none⟩ 1 1 [.int .i64 q1, .int .i64 q2] hx rfl ?_ ?_ (by unfold maxLen; omega) (by omega) (by rw [World.size_alloc]; omega) ?_
  · intro j u hj
    have hplain : (⟨w.heap.size, 0, none⟩ : Addr).add j = ⟨w.heap.size, j, none⟩ := by unfold Addr.add; split <;> simp_all
    rw [hplain, World.cell?_alloc_new]
    rcases j with _ | _ | j
    · simpa using hj
    · simpa using hj
    · simp at hj
  · intro u hu
    simp only [List.mem_cons, List.not_mem_nil, or_false] at hu
    rcases hu with rfl | rfl <;> rfl
  · intro v' w' hown' hgr _
    refine h v' w' ?_ (fun B w1 hb hB => (hb.alloc (by have := hb.size; omega) _).grown hgr (by rw [World.size_alloc]; omega) (fun k hk => ?_))
    · have e : rcs (D ++ [(q1, q2)]) = rcs D ++ [.int .i64 q1, .int .i64 q2] := by simp [rcs]
      unfold OwnR
      rw [e]
      exact ⟨by simpa using hown', fun h => absurd h (by simp)⟩
    · have := (World.ownsRow.lt hown.1) k hk
      omega
/-- what Edges answers, whatever the greatest number -/
theorem edges_any (v : Value) (l : List Rg) (most : Int) (w : World) (hv : RsAt w v l) (hl : l.length ≤ 1000000) (h1 : -9223372036854775808 ≤ most) (h2 : most ≤ 9223372036854775807) :
    Calls Tryd.prog 46 #[v, .int .i64 most] w fun e w' => ∃ v E, e = .returned v ∧ IntsAt w.heap.size w' v E ∧ Ed l (min most 1114111) E ∧ Below w.heap.size w w' := by
  rcases Int.lt_or_le most 0 with h | h
  · refine (edges_none v l most w hv h h1).mono ?_
    rintro e w' ⟨rfl, rfl⟩
    exact ⟨_, [], rfl, Or.inl ⟨rfl, rfl⟩, Or.inl ⟨rfl, by omega⟩, Below.refl _ _⟩
  · rcases Int.lt_or_le 1114111 most with h3 | h3
    · refine (edges_gt v l most w hv hl h3).mono ?_
      rintro e w' ⟨v', E, rfl, a, b, c⟩
      exact ⟨v', E, rfl, a, Or.inr ⟨by omega, by rw [show min most 1114111 = 1114111 by omega]; exact b⟩, c⟩
    · refine (edges_le v l most w hv hl h h3).mono ?_
      rintro e w' ⟨v', E, rfl, a, b, c⟩
      exact ⟨v', E, rfl, a, Or.inr ⟨by omega, by rw [show min most 1114111 = most by omega]; exact b⟩, c⟩
/-- what Join answers -/
def JoinB (kd : Int) (a b : List Rg) (m : Int) (w : World) (e : Ending) (w' : World) : Prop := ∃ v S, e = .returned v ∧ Canon S ∧ (∀ c, Has S c ↔ 0 ≤ c ∧ c ≤ m ∧ qB kd a b c = true) ∧ OwnR w' w.heap.size v S ∧ Below w.heap.size w w'
/-- how far Join has come -/
def JoRel (kd : Int) (a b : List Rg) (E : List Int) (w4 : World) (v i : Value) (wr : World) : Prop :=
  ∃ (k : Nat) (O : List Rg), (k < E.length ∨ k = 0) ∧ i = .int .i64 k ∧ OwnR wr w4.heap.size v O ∧ JI kd a b E k O ∧ Below w4.heap.size w4 wr
end Go.Proofs.YtgdhhpbpbkgmeaaDoor.setw
