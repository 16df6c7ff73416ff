/- Texts that TokensQuoteLaw leans on, merged: what the functions of the program answer. -/
import Derived.Laws.BytesArg
import Derived.Lib.Hide
import Derived.Test.YtkcmjcgjfjfimaaGreatDoorBQu01
section
namespace Go.Proofs.YtkcmjcgjfjfimaaGreatDoor.setp
abbrev Rg := Int × Int
def Has (S : List Rg) (c : Int) : Prop := ∃ r ∈ S, r.1 ≤ c ∧ c ≤ r.2
def InR (S : List Rg) : Prop := ∀ r ∈ S, 0 ≤ r.1 ∧ r.1 ≤ r.2 ∧ r.2 ≤ 1114111
def Canon (S : List Rg) : Prop := S.Pairwise (fun a b => a.2 + 1 < b.1) ∧ InR S
theorem has_nil (c : Int) : ¬ Has [] c := by rintro ⟨_, h, _⟩; cases h
theorem has_cons {r : Rg} {S : List Rg} {c : Int} : Has (r :: S) c ↔ (r.1 ≤ c ∧ c ≤ r.2) ∨ Has S c := by simp [Has]
theorem has_append {S T : List Rg} {c : Int} : Has (S ++ T) c ↔ Has S c ∨ Has T c := by
 simp only [Has, List.mem_append]
 constructor
 · rintro ⟨r, h | h, h2⟩
   · exact Or.inl ⟨r, h, h2⟩
   · exact Or.inr ⟨r, h, h2⟩
 · rintro (⟨r, h, h2⟩ | ⟨r, h, h2⟩)
   · exact ⟨r, Or.inl h, h2⟩
   · exact ⟨r, Or.inr h, h2⟩
theorem has_one {r : Rg} {c : Int} : Has [r] c ↔ r.1 ≤ c ∧ c ≤ r.2 := by simp [Has]
theorem has_perm {S T : List Rg} (h : S.Perm T) (c : Int) : Has S c ↔ Has T c := by
 unfold Has
 constructor
 · rintro ⟨r, hr, h2⟩
   exact ⟨r, h.mem_iff.1 hr, h2⟩
 · rintro ⟨r, hr, h2⟩
   exact ⟨r, h.mem_iff.2 hr, h2⟩
theorem inR_nil : InR [] := fun _ h => by cases h
theorem inR_append {S T : List Rg} (h1 : InR S) (h2 : InR T) : InR (S ++ T) := fun r hr => (List.mem_append.1 hr).elim (h1 r) (h2 r)
theorem inR_one {a b : Int} (h1 : 0 ≤ a) (h2 : a ≤ b) (h3 : b ≤ 1114111) : InR [(a, b)] := by
 intro r hr
 obtain rfl := List.mem_singleton.1 hr
 exact ⟨h1, h2, h3⟩
theorem canon_nil : Canon [] := ⟨List.Pairwise.nil, inR_nil⟩
theorem canon_tail {r : Rg} {S : List Rg} (h : Canon (r :: S)) : Canon S := ⟨(List.pairwise_cons.1 h.1).2, fun x hx => h.2 x (List.mem_cons_of_mem _ hx)⟩
theorem canon_head {r : Rg} {S : List Rg} (h : Canon (r :: S)) {c : Int} (hc : Has S c) : r.2 + 1 < c := by
 obtain ⟨x, hx, h2⟩ := hc
 have := (List.pairwise_cons.1 h.1).1 x hx
 omega
theorem has_bd {S : List Rg} (h : InR S) {c : Int} (hc : Has S c) : 0 ≤ c ∧ c ≤ 1114111 := by
 obtain ⟨r, hr, h2⟩ := hc
 have := h r hr
 omega
theorem canon_ext : ∀ {S T : List Rg}, Canon S → Canon T → (∀ c, Has S c ↔ Has T c) → S = T
 | [], [], _, _, _ => rfl
 | [], t :: T, _, hT, h => by
   have ht := hT.2 t (List.mem_cons_self ..)
   exact absurd ((h t.1).2 (has_cons.2 (Or.inl (by omega)))) (has_nil _)
 | r :: S, [], hS, _, h => by
   have ht := hS.2 r (List.mem_cons_self ..)
   exact absurd ((h r.1).1 (has_cons.2 (Or.inl (by omega)))) (has_nil _)
 | r :: S, t :: T, hS, hT, h => by
   have hr := hS.2 r (List.mem_cons_self ..)
   have ht := hT.2 t (List.mem_cons_self ..)
   have a1 : t.1 ≤ r.1 := by
     rcases has_cons.1 ((h r.1).1 (has_cons.2 (Or.inl (by omega)))) with x | x
     · omega
     · have := canon_head hT x; omega
   have a2 : r.1 ≤ t.1 := by
     rcases has_cons.1 ((h t.1).2 (has_cons.2 (Or.inl (by omega)))) with x | x
     · omega
     · have := canon_head hS x; omega
   have b1 : ¬ r.2 < t.2 := by
     intro hlt
     rcases has_cons.1 ((h (r.2 + 1)).2 (has_cons.2 (Or.inl (by omega)))) with x | x
     · omega
     · have := canon_head hS x; omega
   have b2 : ¬ t.2 < r.2 := by
     intro hlt
     rcases has_cons.1 ((h (t.2 + 1)).1 (has_cons.2 (Or.inl (by omega)))) with x | x
     · omega
     · have := canon_head hT x; omega
   have e : r = t := Prod.ext (by omega) (by omega)
   subst e
   have e2 := canon_ext (canon_tail hS) (canon_tail hT) (fun c => by
     constructor
     · intro hc
       have h1 := canon_head hS hc
       rcases has_cons.1 ((h c).1 (has_cons.2 (Or.inr hc))) with x | x
       · omega
       · exact x
     · intro hc
       have h1 := canon_head hT hc
       rcases has_cons.1 ((h c).2 (has_cons.2 (Or.inr hc))) with x | x
       · omega
       · exact x)
   rw [e2]
theorem canon_len_from : ∀ {S : List Rg} {lo : Int}, Canon S → (∀ r ∈ S, lo ≤ r.1) → 0 ≤ lo → lo ≤ 1114112 → lo + S.length ≤ 1114112
 | [], lo, _, _, _, h => by simpa using h
 | r :: S, lo, h, hl, h0, _ => by
   have hr := h.2 r (List.mem_cons_self ..)
   have h1 := hl r (List.mem_cons_self ..)
   have := canon_len_from (lo := r.2 + 1) (canon_tail h) (fun x hx => by have := (List.pairwise_cons.1 h.1).1 x hx; omega) (by omega) (by omega)
   simp only [List.length_cons]
   omega
theorem canon_len {S : List Rg} (h : Canon S) : S.length ≤ 1114112 := by
 have := canon_len_from (lo := 0) h (fun r hr => (h.2 r hr).1) (by omega) (by omega)
 omega
theorem take_snoc {S : List Rg} {i : Nat} (h : i < S.length) : S.take (i + 1) = S.take i ++ [S[i]] := by
 rw [List.take_succ_eq_append_getElem h]
theorem drop_cons {S : List Rg} {i : Nat} (h : i < S.length) : S.drop i = S[i] :: S.drop (i + 1) := List.drop_eq_getElem_cons h
theorem mem_drop {S : List Rg} {i : Nat} (h : i < S.length) : S[i] ∈ S.drop i := by
 have h2 := drop_cons h
 exact h2 ▸ List.mem_cons_self ..
theorem has_take {S : List Rg} {i : Nat} (h : i < S.length) (c : Int) : Has (S.take (i + 1)) c ↔ Has (S.take i) c ∨ (S[i].1 ≤ c ∧ c ≤ S[i].2) := by
 rw [take_snoc h, has_append, has_one]
theorem has_split {S : List Rg} (i : Nat) (c : Int) : Has S c ↔ Has (S.take i) c ∨ Has (S.drop i) c := by
 rw [← has_append, List.take_append_drop]
theorem canon_behind {S : List Rg} (h : Canon S) {i : Nat} (hi : i < S.length) {r : Rg} (hr : r ∈ S.drop (i + 1)) : S[i].2 + 1 < r.1 := by
 have h1 := h.1.sublist (List.drop_sublist i S)
 rw [drop_cons hi] at h1
 exact (List.pairwise_cons.1 h1).1 r hr
theorem canon_snoc {S : List Rg} (h : Canon S) {a b : Int} (h1 : ∀ r ∈ S, r.2 + 1 < a) (h0 : 0 ≤ a) (h2 : a ≤ b) (h3 : b ≤ 1114111) : Canon (S ++ [(a, b)]) := by
 refine ⟨List.pairwise_append.2 ⟨h.1, List.pairwise_singleton _ _, fun r hr x hx => ?_⟩, inR_append h.2 (inR_one h0 h2 h3)⟩
 obtain rfl := List.mem_singleton.1 hx
 exact h1 r hr
def addP (D : List Rg) (a b : Int) : List Rg := if b < a then D else D ++ [(a, b)]
theorem addP_has {D : List Rg} {a b c : Int} : Has (addP D a b) c ↔ Has D c ∨ (a ≤ c ∧ c ≤ b) := by
 unfold addP
 split
 · constructor
   · exact Or.inl
   · rintro (h | h)
     · exact h
     · omega
 · rw [has_append, has_one]
theorem addP_inR {D : List Rg} {a b : Int} (h : InR D) (h0 : 0 ≤ a) (h3 : b ≤ 1114111) : InR (addP D a b) := by
 unfold addP
 split
 · exact h
 · exact inR_append h (inR_one h0 (by omega) h3)
theorem addP_len (D : List Rg) (a b : Int) : (addP D a b).length ≤ D.length + 1 := by
 unfold addP
 split <;> simp
theorem addP_canon {D : List Rg} {a b : Int} (h : Canon D) (h1 : ∀ r ∈ D, r.2 + 1 < a) (h0 : 0 ≤ a) (h3 : b ≤ 1114111) : Canon (addP D a b) := by
 unfold addP
 split
 · exact h
 · exact canon_snoc h h1 h0 (by omega) h3
theorem addP_mem {D : List Rg} {a b : Int} {r : Rg} (h : r ∈ addP D a b) : r ∈ D ∨ (r = (a, b) ∧ a ≤ b) := by
 unfold addP at h
 split at h
 · exact Or.inl h
 · rcases List.mem_append.1 h with h | h
   · exact Or.inl h
   · exact Or.inr ⟨List.mem_singleton.1 h, by omega⟩
def JInv (D : List Rg) (k : Nat) (W : List Rg) : Prop := Canon W ∧ (∀ c, Has W c ↔ Has (D.take k) c) ∧ (∀ e ∈ W, ∀ r ∈ D.drop k, e.1 ≤ r.1) ∧ W.length ≤ k
def Rises (D : List Rg) : Prop := D.Pairwise fun a b => a.1 ≤ b.1
theorem rises_behind {S : List Rg} (h : Rises S) {i : Nat} (hi : i < S.length) {r : Rg} (hr : r ∈ S.drop (i + 1)) : S[i].1 ≤ r.1 := by
 have h1 := h.sublist (List.drop_sublist i S)
 rw [drop_cons hi] at h1
 exact (List.pairwise_cons.1 h1).1 r hr
theorem jinv_start (D : List Rg) : JInv D 0 [] := ⟨canon_nil, fun c => (by simp [Has]), fun e he => (by cases he), by simp⟩
theorem jinv_first {D : List Rg} (hD : InR D) (hs : Rises D) {k : Nat} (hk : k < D.length) (h : JInv D k []) : JInv D (k + 1) [D[k]] := by
 obtain ⟨h1, h2, h3, h4⟩ := h
 have hr := hD D[k] (List.getElem_mem hk)
 refine ⟨⟨List.pairwise_singleton _ _, fun x hx => ?_⟩, fun c => ?_, fun e he r hr2 => ?_, by simp⟩
 · obtain rfl := List.mem_singleton.1 hx
   exact hr
 · rw [has_take hk, ← h2, has_one]
   constructor
   · exact Or.inr
   · rintro (h | h)
     · exact absurd h (has_nil _)
     · exact h
 · obtain rfl := List.mem_singleton.1 he
   exact rises_behind hs hk hr2
theorem jinv_apart {D : List Rg} (hD : InR D) (hs : Rises D) {k : Nat} (hk : k < D.length) {W : List Rg} {e : Rg} (h : JInv D k (W ++ [e])) (hg : e.2 + 1 < D[k].1) : JInv D (k + 1) (W ++ [e] ++ [D[k]]) := by
 obtain ⟨h1, h2, h3, h4⟩ := h
 have hr := hD D[k] (List.getElem_mem hk)
 have hlast : ∀ r ∈ W ++ [e], r.2 + 1 < D[k].1 := by
   intro r hr
   rcases List.mem_append.1 hr with hr | hr
   · have := (List.pairwise_append.1 h1.1).2.2 r hr e (by simp)
     have he := h1.2 e (by simp)
     omega
   · obtain rfl := List.mem_singleton.1 hr
     exact hg
 refine ⟨canon_snoc h1 hlast hr.1 hr.2.1 hr.2.2, fun c => ?_, fun x hx r hr2 => ?_, by simp at h4 ⊢; omega⟩
 · rw [has_take hk, has_append, h2, has_one]
 · rcases List.mem_append.1 hx with hx | hx
   · exact h3 x hx r (List.mem_of_mem_drop (i := 1) (by simpa [List.drop_drop] using hr2))
   · obtain rfl := List.mem_singleton.1 hx
     exact rises_behind hs hk hr2
theorem jinv_join {D : List Rg} (hD : InR D) {k : Nat} (hk : k < D.length) {W : List Rg} {e : Rg} (h : JInv D k (W ++ [e])) (hg : D[k].1 ≤ e.2 + 1) : JInv D (k + 1) (W ++ [(e.1, max e.2 D[k].2)]) := by
 obtain ⟨h1, h2, h3, h4⟩ := h
 have hr := hD D[k] (List.getElem_mem hk)
 have he := h1.2 e (by simp)
 have hle : e.1 ≤ D[k].1 := h3 e (by simp) _ (mem_drop hk)
 obtain ⟨p1, p2, p3⟩ := List.pairwise_append.1 h1.1
 refine ⟨canon_snoc ⟨p1, fun r hr => h1.2 r (by simp [hr])⟩ (fun r hr => p3 r hr e (by simp)) he.1 (by omega) (by omega), fun c => ?_, fun x hx r hr2 => ?_, by simp at h4 ⊢; omega⟩
 · have := h2 c
   rw [has_append, has_one] at this
   rw [has_take hk, ← h2, has_append, has_append, has_one, has_one]
   constructor
   · rintro (h | h)
     · exact Or.inl (Or.inl h)
     · by_cases hc : c ≤ e.2
       · exact Or.inl (Or.inr ⟨h.1, hc⟩)
       · exact Or.inr ⟨by omega, by have := h.2; simp only at this; omega⟩
   · rintro ((h | h) | h)
     · exact Or.inl h
     · exact Or.inr ⟨h.1, by simp only; omega⟩
     · exact Or.inr ⟨by simp only; omega, by simp only; omega⟩
 · rcases List.mem_append.1 hx with hx | hx
   · exact h3 x (by simp [hx]) r (List.mem_of_mem_drop (i := 1) (by simpa [List.drop_drop] using hr2))
   · obtain rfl := List.mem_singleton.1 hx
     exact h3 e (by simp) r (List.mem_of_mem_drop (i := 1) (by simpa [List.drop_drop] using hr2))
theorem jinv_end {D W : List Rg} (h : JInv D D.length W) : Canon W ∧ ∀ c, Has W c ↔ Has D c := by
 obtain ⟨h1, h2, _⟩ := h
 rw [List.take_length] at h2
 exact ⟨h1, h2⟩
def AInv (l : List Rg) (m : Int) (k : Nat) (D : List Rg) : Prop := InR D ∧ (∀ c, Has D c ↔ Has (l.take k) c ∧ 0 ≤ c ∧ c ≤ m) ∧ D.length ≤ k
theorem ainv_start (l : List Rg) (m : Int) : AInv l m 0 [] := ⟨inR_nil, fun c => by simp [Has], by simp⟩
theorem ainv_step {l : List Rg} {m : Int} (hm : m ≤ 1114111) {k : Nat} (hk : k < l.length) {D : List Rg} (h : AInv l m k D) : AInv l m (k + 1) (addP D (max l[k].1 0) (min l[k].2 m)) := by
 obtain ⟨h1, h2, h3⟩ := h
 refine ⟨addP_inR h1 (by omega) (by omega), fun c => ?_, by have := addP_len D (max l[k].1 0) (min l[k].2 m); omega⟩
 rw [addP_has, h2, has_take hk]
 constructor
 · rintro (⟨h, h4⟩ | h)
   · exact ⟨Or.inl h, h4⟩
   · exact ⟨Or.inr ⟨by omega, by omega⟩, by omega, by omega⟩
 · rintro ⟨h | h, h4, h5⟩
   · exact Or.inl ⟨h, h4, h5⟩
   · exact Or.inr ⟨by omega, by omega⟩
theorem has_at {S : List Rg} {i : Nat} (hi : i < S.length) {c : Int} (h1 : S[i].1 ≤ c) (h2 : c ≤ S[i].2) : Has S c := ⟨S[i], List.getElem_mem hi, h1, h2⟩
def NInv (S : List Rg) (m : Int) (i : Nat) (fr : Int) (D : List Rg) : Prop :=
 Canon D ∧ (∀ c, Has D c ↔ 0 ≤ c ∧ c ≤ m ∧ c < fr ∧ ¬ Has S c) ∧ (∀ r ∈ D, r.2 + 1 < fr) ∧ (∀ r ∈ S.take i, r.2 < fr) ∧ (∀ r ∈ S.drop i, fr ≤ r.1) ∧ 0 ≤ fr ∧ fr ≤ 1114112 ∧ D.length ≤ i
theorem ninv_start {S : List Rg} (h : Canon S) (m : Int) : NInv S m 0 0 [] :=
 ⟨canon_nil, fun c => ⟨fun h => absurd h (has_nil _), fun h => by omega⟩, fun r hr => (by cases hr), fun r hr => by simp at hr, fun r hr => by have := h.2 r (by simpa using hr); omega, by omega, by omega, by simp⟩
theorem ninv_step {S : List Rg} (hS : Canon S) {m : Int} (hm : m ≤ 1114111) {i : Nat} (hi : i < S.length) {fr : Int} {D : List Rg} (h : NInv S m i fr D) : NInv S m (i + 1) (S[i].2 + 1) (addP D fr (min (S[i].1 - 1) m)) := by
 obtain ⟨h1, h2, h3, h4, h5, h6, h7, h8⟩ := h
 have ha := hS.2 _ (List.getElem_mem hi)
 have hf := h5 S[i] (mem_drop hi)
 refine ⟨addP_canon h1 h3 h6 (by omega), fun c => ?_, fun r hr => ?_, fun r hr => ?_, fun r hr => ?_, by omega, by omega, by have := addP_len D fr (min (S[i].1 - 1) m); omega⟩
 · rw [addP_has, h2]
   constructor
   · rintro (⟨a, b, c1, d⟩ | a)
     · exact ⟨a, b, by omega, d⟩
     · refine ⟨by omega, by omega, by omega, ?_⟩
       intro hc
       rcases (has_split i c).1 hc with ⟨x, hx, h9⟩ | ⟨x, hx, h9⟩
       · have := h4 x hx
         omega
       · rw [drop_cons hi] at hx
         rcases List.mem_cons.1 hx with rfl | hx
         · omega
         · have := canon_behind hS hi hx
           omega
   · rintro ⟨a, b, c1, d⟩
     by_cases hc : c < fr
     · exact Or.inl ⟨a, b, hc, d⟩
     · refine Or.inr ⟨by omega, ?_⟩
       have : c < S[i].1 := by
         apply Classical.byContradiction
         intro hge
         exact d (has_at hi (by omega) (by omega))
       omega
 · rcases addP_mem hr with hr | ⟨rfl, hle⟩
   · have := h3 r hr
     omega
   · simp only
     omega
 · rw [take_snoc hi] at hr
   rcases List.mem_append.1 hr with hr | hr
   · have := h4 r hr
     omega
   · obtain rfl := List.mem_singleton.1 hr
     omega
 · have := canon_behind hS hi hr
   omega
theorem ninv_end {S : List Rg} {m : Int} (hm : m ≤ 1114111) {fr : Int} {D : List Rg} (h : NInv S m S.length fr D) : Canon (addP D fr m) ∧ ∀ c, Has (addP D fr m) c ↔ 0 ≤ c ∧ c ≤ m ∧ ¬ Has S c := by
 obtain ⟨h1, h2, h3, h4, _, h6, h7, _⟩ := h
 rw [List.take_length] at h4
 refine ⟨addP_canon h1 h3 h6 hm, fun c => ?_⟩
 rw [addP_has, h2]
 constructor
 · rintro (⟨a, b, _, d⟩ | a)
   · exact ⟨a, b, d⟩
   · refine ⟨by omega, by omega, ?_⟩
     rintro ⟨x, hx, h9⟩
     have := h4 x hx
     omega
 · rintro ⟨a, b, d⟩
   by_cases hc : c < fr
   · exact Or.inl ⟨a, b, hc, d⟩
   · exact Or.inr ⟨by omega, by omega⟩
end Go.Proofs.YtkcmjcgjfjfimaaGreatDoor.setp
end
section
namespace Go.Proofs.YtkcmjcgjfjfimaaGreatDoor.setw
open Go Go.RowKit bulk ucdp ucdw setp
def Wf (l : List Rg) : Prop := ∀ r ∈ l, (-9223372036854775808 ≤ r.1 ∧ r.1 ≤ 9223372036854775807) ∧ (-9223372036854775808 ≤ r.2 ∧ r.2 ≤ 9223372036854775807)
def RsAt (w : World) (v : Value) (l : List Rg) : Prop :=
 Wf l ∧ ((l = [] ∧ ∃ a cap, v = .slice a 0 cap ∧ cap ≤ 9223372036854775807) ∨ (l ≠ [] ∧ ∃ b off cap, v = .slice (some ⟨b, off, none⟩) l.length cap ∧ l.length ≤ cap ∧ cap ≤ 9223372036854775807 ∧
   ∀ i (hi : i < l.length), w.cell? ⟨b, off + i * 2, none⟩ = some (.int .i64 l[i].1) ∧ w.cell? ⟨b, off + i * 2 + 1, none⟩ = some (.int .i64 l[i].2)))
theorem rsAt_below {w w' : World} {v : Value} {l : List Rg} (h : RsAt w v l) (hb : Below w.heap.size w w') : RsAt w' v l := by
 obtain ⟨hw, h | ⟨hS, b, off, cap, hv, h1, h2, hc⟩⟩ := h
 · exact ⟨hw, Or.inl h⟩
 · exact ⟨hw, Or.inr ⟨hS, b, off, cap, hv, h1, h2, fun i hi => ⟨below_cell hb (hc i hi).1, below_cell hb (hc i hi).2⟩⟩⟩
theorem rsAt_len {w : World} {v : Value} {l : List Rg} (h : RsAt w v l) : ∃ a cap, v = .slice a l.length cap := by
 obtain ⟨_, ⟨h, a, cap, hv, _⟩ | ⟨_, b, off, cap, hv, _⟩⟩ := h
 · subst h; exact ⟨_, _, hv⟩
 · exact ⟨_, _, hv⟩
theorem infoRange : (Tryz.prog.info? 43).map (fun i => (i.zero, i.size, i.bytes)) = some (some (.agg #[.int .i64 0, .int .i64 0]), 2, 16) := by kernel_rfl
def rcs (l : List Rg) : List Value := l.flatMap fun r => [.int .i64 r.1, .int .i64 r.2]
def OwnR (w : World) (base : Nat) (v : Value) (D : List Rg) : Prop := w.ownsRow base 43 2 v D.length (rcs D) ∧ (D = [] → v = .slice none 0 0)
theorem ownR_nil (w : World) (base : Nat) : OwnR w base (.slice none 0 0) [] := ⟨World.ownsRow_nil w base _ 2, fun _ => rfl⟩
theorem wpList_append_r {ops : Array Oper} {rest : List Oper} {o : Oper} {a : Act} {w : World} {Q : Exit → Act → World → Prop} (hgd : o.guard = none) (s x : Operand)
   (ho : o.op = .call { callee := .builtin .append, args := #[s, x], argTypes := #[28, 28] }) (base : Nat) (v : Value) (D : List Rg) (hs : a.eval s = v) (hown : OwnR w base v D)
   (q1 q2 : Int) (B : Nat) (hx : a.eval x = .slice (some ⟨B, 0, none⟩) 1 1) (hB : B = w.heap.size) (hlen : D.length ≤ 100000000) (hbase : base ≤ w.heap.size)
   (h : ∀ v' w', OwnR w' base v' (D ++ [(q1, q2)]) → (∀ B w1, Below B w1 w → B ≤ base → Below B w1 w') → wpList Tryz.prog ops Q rest (a.put o.dst v') w') :
   wpList Tryz.prog ops Q (o :: rest) a (w.alloc (.cells #[.int .i64 q1, .int .i64 q2] 43)) := by
 subst hB
 obtain ⟨i0, hi, hz0, hz1, hz2⟩ := info_parts infoRange
 refine wpList_append_own _ hgd s x _ ho base 43 i0 (.agg #[.int .i64 0, .int .i64 0]) 2 16 Tryz.underlying28 hi hz0 hz1 hz2 rfl (by decide) v _ _ hs (World.ownsRow.alloc hown.1 _) ⟨w.heap.size, 0, none⟩ 1 1 [.int .i64 q1, .int .i64 q2] hx rfl ?_ ?_ (by unfold maxLen; omega) (by omega) (by rw [World.size_alloc]; omega) ?_
 · intro j u hj
   have hplain : (⟨w.heap.size, 0, none⟩ : Addr).add j = ⟨w.heap.size, j, none⟩ := by unfold Addr.add; split <;> simp_all
   rw [hplain, World.cell?_alloc_new]
   rcases j with _ | _ | j
   · simpa using hj
   · simpa using hj
   · simp at hj
 · intro u hu
   simp only [List.mem_cons, List.not_mem_nil, or_false] at hu
   rcases hu with rfl | rfl <;> rfl
 · intro v' w' hown' hgr _
   refine h v' w' ?_ (fun B w1 hb hB => (hb.alloc (by have := hb.size; omega) _).grown hgr (by rw [World.size_alloc]; omega) (fun k hk => ?_))
   · have e : rcs (D ++ [(q1, q2)]) = rcs D ++ [.int .i64 q1, .int .i64 q2] := by simp [rcs]
     unfold OwnR
     rw [e]
     exact ⟨by simpa using hown', fun h => absurd h (by simp)⟩
   · have := (World.ownsRow.lt hown.1) k hk
     omega
def hasB (S : List Rg) (c : Int) : Bool := S.any fun r => decide (r.1 ≤ c) && decide (c ≤ r.2)
theorem ownR_slice {w : World} {base : Nat} {v : Value} {S : List Rg} (h : OwnR w base v S) (hS : S ≠ []) : ∃ g cap : Nat, v = .slice (some ⟨g, 0, none⟩) S.length cap ∧ base ≤ g ∧ S.length ≤ cap ∧ cap ≤ 9223372036854775807 ∧
   ∀ i (hi : i < S.length), w.cell? ⟨g, i * 2, none⟩ = some (.int .i64 S[i].1) ∧ w.cell? ⟨g, i * 2 + 1, none⟩ = some (.int .i64 S[i].2) := by
 have h1 := h.1
 obtain ⟨_, h2⟩ := h.1
 rcases h2 with ⟨_, hn⟩ | ⟨g, cap, cur, hv, hg, hh, hnc, hcm, _⟩
 · exact absurd (List.eq_nil_of_length_eq_zero hn) hS
 · unfold maxLen at hcm
   rw [hv] at h1
   refine ⟨g, cap, hv, hg, hnc, by omega, fun i hi => ?_⟩
   have hr : ∀ (l : List Rg) (i : Nat) (hi : i < l.length), (rcs l)[i * 2]? = some (.int .i64 l[i].1) ∧ (rcs l)[i * 2 + 1]? = some (.int .i64 l[i].2) := by
     intro l
     induction l with
     | nil => intro i hi; cases hi
     | cons r l ih =>
       intro i hi
       cases i with
       | zero => exact ⟨rfl, rfl⟩
       | succ i =>
         have := ih i (by simpa using hi)
         have e1 : rcs (r :: l) = [.int .i64 r.1, .int .i64 r.2] ++ rcs l := rfl
         rw [e1, show (i + 1) * 2 = i * 2 + 2 by omega]
         constructor
         · rw [List.getElem?_append_right (by simp)]; simpa using this.1
         · rw [List.getElem?_append_right (by simp)]; simpa using this.2
   have := hr S i hi
   constructor
   · rw [h1.cellAt _ (by omega)]; exact this.1
   · rw [h1.cellAt _ (by omega)]; exact this.2
theorem ownR_len {w : World} {base : Nat} {v : Value} {S : List Rg} (h : OwnR w base v S) : ∃ a cap, v = .slice a S.length cap := by
 by_cases hS : S = []
 · subst hS; exact ⟨_, _, h.2 rfl⟩
 · obtain ⟨g, cap, hv, _⟩ := ownR_slice h hS
   exact ⟨_, _, hv⟩
theorem wf_canon {S : List Rg} (h : InR S) : Wf S := fun r hr => by
 have := h r hr
 omega
theorem rs_own {w : World} {base : Nat} {v : Value} {S : List Rg} (h : OwnR w base v S) (hw : Wf S) : RsAt w v S := by
 refine ⟨hw, ?_⟩
 by_cases hS : S = []
 · subst hS
   exact Or.inl ⟨rfl, _, _, h.2 rfl, by omega⟩
 · obtain ⟨g, cap, hv, _, h1, h2, hc⟩ := ownR_slice h hS
   exact Or.inr ⟨hS, g, 0, cap, hv, h1, h2, fun i hi => by simpa using hc i hi⟩
end Go.Proofs.YtkcmjcgjfjfimaaGreatDoor.setw
end
section
namespace Go.Proofs.YtkcmjcgjfjfimaaGreatDoor.prp
open ucdp setp
def starts : List Int := [0, 32, 33, 36, 37, 40, 41, 42, 43, 44, 45, 46, 48, 58, 60, 63, 65, 91, 92, 93, 94, 95, 96, 97, 123, 124, 125, 126, 127, 160, 161, 162, 166, 167, 168, 169, 170, 171, 172, 173, 174, 175, 176, 177, 178, 180, 181, 182, 184, 185, 186, 187, 188, 191, 192, 215, 216, 223, 247, 248, 256, 383, 384, 768, 880, 913, 930, 931, 940, 945, 972, 1040, 1072, 1104, 1488, 1515, 1632, 1642, 8192, 8203, 8232, 8233, 8234, 8364, 8365, 8490, 8491, 12353, 12439, 19968, 40960, 127744, 128512, 1114112]
def st (i : Nat) : Int := starts.getD i 0
def kinds : List (ByteArray × Int) := [(⟨#[85, 110, 107, 110, 111, 119, 110]⟩, 4),
 (⟨#[72, 97, 110]⟩, 4),
 (⟨#[72, 105, 114, 97, 103, 97, 110, 97]⟩, 4),
 (⟨#[65, 114, 97, 98, 105, 99]⟩, 4),
 (⟨#[72, 101, 98, 114, 101, 119]⟩, 4),
 (⟨#[67, 121, 114, 105, 108, 108, 105, 99]⟩, 4),
 (⟨#[71, 114, 101, 101, 107]⟩, 4),
 (⟨#[76, 97, 116, 105, 110]⟩, 4),
 (⟨#[73, 110, 104, 101, 114, 105, 116, 101, 100]⟩, 4),
 (⟨#[67, 111, 109, 109, 111, 110]⟩, 4),
 (⟨#[67, 110]⟩, 2),
 (⟨#[67, 102]⟩, 2),
 (⟨#[67, 99]⟩, 2),
 (⟨#[90, 112]⟩, 2),
 (⟨#[90, 108]⟩, 2),
 (⟨#[90, 115]⟩, 2),
 (⟨#[83, 111]⟩, 2),
 (⟨#[83, 107]⟩, 2),
 (⟨#[83, 99]⟩, 2),
 (⟨#[83, 109]⟩, 2),
 (⟨#[80, 111]⟩, 2),
 (⟨#[80, 102]⟩, 2),
 (⟨#[80, 105]⟩, 2),
 (⟨#[80, 101]⟩, 2),
 (⟨#[80, 115]⟩, 2),
 (⟨#[80, 100]⟩, 2),
 (⟨#[80, 99]⟩, 2),
 (⟨#[78, 111]⟩, 2),
 (⟨#[78, 100]⟩, 2),
 (⟨#[77, 110]⟩, 2),
 (⟨#[76, 111]⟩, 2),
 (⟨#[76, 108]⟩, 2),
 (⟨#[76, 117]⟩, 2),
 (⟨#[67]⟩, 2),
 (⟨#[90]⟩, 2),
 (⟨#[83]⟩, 2),
 (⟨#[80]⟩, 2),
 (⟨#[78]⟩, 2),
 (⟨#[77]⟩, 2),
 (⟨#[76]⟩, 2),
 (⟨#[76, 38]⟩, 3),
 (⟨#[65, 110, 121]⟩, 1)]
def posix : List (ByteArray × List Rg) := [(⟨#[97, 115, 99, 105, 105]⟩, [(0, 127)]),
 (⟨#[119, 111, 114, 100]⟩, [(48, 57), (65, 90), (95, 95), (97, 122)]),
 (⟨#[120, 100, 105, 103, 105, 116]⟩, [(48, 57), (65, 70), (97, 102)]),
 (⟨#[112, 114, 105, 110, 116]⟩, [(32, 126)]),
 (⟨#[103, 114, 97, 112, 104]⟩, [(33, 126)]),
 (⟨#[99, 110, 116, 114, 108]⟩, [(0, 31), (127, 127)]),
 (⟨#[112, 117, 110, 99, 116]⟩, [(33, 47), (58, 64), (91, 96), (123, 126)]),
 (⟨#[98, 108, 97, 110, 107]⟩, [(9, 9), (32, 32)]),
 (⟨#[115, 112, 97, 99, 101]⟩, [(9, 13), (32, 32)]),
 (⟨#[108, 111, 119, 101, 114]⟩, [(97, 122)]),
 (⟨#[117, 112, 112, 101, 114]⟩, [(65, 90)]),
 (⟨#[97, 108, 110, 117, 109]⟩, [(48, 57), (65, 90), (97, 122)]),
 (⟨#[100, 105, 103, 105, 116]⟩, [(48, 57)]),
 (⟨#[97, 108, 112, 104, 97]⟩, [(65, 90), (97, 122)])]
def lookP {A : Type} : List (ByteArray × A) → ByteArray → A → A
 | [], _, z => z
 | (k, v) :: l, n, z => if n = k then v else lookP l n z
def kind (n : ByteArray) : Int := lookP kinds n 0
def pre (s t : ByteArray) : Bool := decide (t.size ≤ s.size) && decide (s.extract 0 t.size = t)
def cased (s : ByteArray) : Bool := decide (s = ⟨#[76, 117]⟩) || decide (s = ⟨#[76, 108]⟩)
def hp (n : ByteArray) (k s : Nat) : Bool := if kind n = 1 then true else if kind n = 2 then pre (catB k) n else if kind n = 3 then cased (catB k) else if kind n = 4 then decide (scrB s = n) else false
def propP (n : ByteArray) (c : Int) : Bool := hp n (cls c).1 (cls c).2.1
def gapOk (i : Nat) : Bool := thr.all fun t => !(decide (st i ≤ t + 1) && decide (t + 1 < st (i + 1))) || ((cls (t + 1)).1 == (cls (st i)).1 && (cls (t + 1)).2.1 == (cls (st i)).2.1)
theorem gap_all : ((List.range 93).all gapOk) = true := by decide +kernel
theorem most_of {c : Int} : ∀ {L : List Int} {x : Int}, x ∈ L → x ≤ c → ∃ u ∈ L, u ≤ c ∧ ∀ v ∈ L, v ≤ c → v ≤ u
 | [], _, h, _ => by cases h
 | y :: L, x, hx, hc => by
   by_cases hL : ∃ z ∈ L, z ≤ c
   · obtain ⟨z, hz, hzc⟩ := hL
     obtain ⟨u, hu, huc, hm⟩ := most_of hz hzc
     by_cases hy : y ≤ c ∧ u < y
     · exact ⟨y, List.mem_cons_self .., hy.1, fun v hv hvc => by
         rcases List.mem_cons.1 hv with rfl | hv
         · exact Int.le_refl _
         · have := hm v hv hvc; omega⟩
     · exact ⟨u, List.mem_cons_of_mem _ hu, huc, fun v hv hvc => by
         rcases List.mem_cons.1 hv with rfl | hv
         · omega
         · exact hm v hv hvc⟩
   · rcases List.mem_cons.1 hx with rfl | hx
     · exact ⟨x, List.mem_cons_self .., hc, fun v hv hvc => by
         rcases List.mem_cons.1 hv with rfl | hv
         · exact Int.le_refl _
         · exact absurd ⟨v, hv, hvc⟩ hL⟩
     · exact absurd ⟨x, hx, hc⟩ hL
theorem gap {i : Nat} (hi : i < 93) {c : Int} (h1 : st i ≤ c) (h2 : c < st (i + 1)) : (cls c).1 = (cls (st i)).1 ∧ (cls c).2.1 = (cls (st i)).2.1 := by
 have ha := List.all_eq_true.1 gap_all i (by simpa using hi)
 unfold gapOk at ha
 rw [List.all_eq_true] at ha
 obtain ⟨u, hu, huc, hm⟩ := most_of (L := st i :: (thr.map (· + 1)).filter fun v => decide (st i ≤ v) && decide (v < st (i + 1))) (List.mem_cons_self ..) h1
 have hsu : st i ≤ u := hm (st i) (List.mem_cons_self ..) h1
 have e : cls c = cls u := cls_congr fun t ht => by
   constructor
   · intro h; omega
   · intro h
     rcases Int.lt_or_le t c with h3 | h3
     · have := hm (t + 1) (List.mem_cons_of_mem _ (List.mem_filter.2 ⟨List.mem_map.2 ⟨t, ht, rfl⟩, by simp only [Bool.and_eq_true, decide_eq_true_eq]; omega⟩)) (by omega)
       omega
     · exact h3
 rw [e]
 rcases List.mem_cons.1 hu with rfl | hu
 · exact ⟨rfl, rfl⟩
 · obtain ⟨hu1, hu2⟩ := List.mem_filter.1 hu
   obtain ⟨t, ht, rfl⟩ := List.mem_map.1 hu1
   have h3 := ha t ht
   rw [hu2] at h3
   simpa using h3
theorem st_in (c : Int) : ∀ n : Nat, st 0 ≤ c → c < st n → ∃ i, i < n ∧ st i ≤ c ∧ c < st (i + 1)
 | 0, h1, h2 => by omega
 | n + 1, h1, h2 => by
   by_cases h : c < st n
   · obtain ⟨i, hi, r⟩ := st_in c n h1 h
     exact ⟨i, by omega, r⟩
   · exact ⟨n, by omega, by omega, h2⟩
theorem st_bd (i : Nat) (h : i < 94) : 0 ≤ st i ∧ st i ≤ 1114112 := by
 have all : ((List.range 94).all fun i => decide (0 ≤ st i) && decide (st i ≤ 1114112)) = true := by decide +kernel
 have := List.all_eq_true.1 all i (by simpa using h)
 simpa using this
def wl (h : Int → Bool) : Nat → List Rg
 | 0 => []
 | k + 1 => if h (st k) = true then wl h k ++ [(st k, st (k + 1) - 1)] else wl h k
theorem wl_succ (h : Int → Bool) (k : Nat) : wl h (k + 1) = if h (st k) = true then wl h k ++ [(st k, st (k + 1) - 1)] else wl h k := rfl
theorem wl_len (h : Int → Bool) : ∀ k, (wl h k).length ≤ k
 | 0 => Nat.le_refl _
 | k + 1 => by
   have := wl_len h k
   rw [wl_succ]
   split
   · simp; omega
   · omega
theorem wl_has (h : Int → Bool) (c : Int) : ∀ k, Has (wl h k) c ↔ ∃ i, i < k ∧ h (st i) = true ∧ st i ≤ c ∧ c < st (i + 1)
 | 0 => by simp [wl, Has]
 | k + 1 => by
   have ih := wl_has h c k
   have e : Has (wl h (k + 1)) c ↔ Has (wl h k) c ∨ (h (st k) = true ∧ st k ≤ c ∧ c < st (k + 1)) := by
     rw [wl_succ]
     split
     · rename_i hk
       rw [has_append, has_one]
       simp only [hk, true_and]
       constructor
       · rintro (a | a)
         · exact Or.inl a
         · exact Or.inr ⟨a.1, by omega⟩
       · rintro (a | a)
         · exact Or.inl a
         · exact Or.inr ⟨a.1, by omega⟩
     · rename_i hk
       simp [hk]
   rw [e, ih]
   constructor
   · rintro (⟨i, hi, a⟩ | a)
     · exact ⟨i, by omega, a⟩
     · exact ⟨k, by omega, a⟩
   · rintro ⟨i, hi, a⟩
     by_cases hik : i = k
     · subst hik; exact Or.inr a
     · exact Or.inl ⟨i, by omega, a⟩
theorem wl_all (g : Nat → Nat → Bool) (c : Int) : (Has (wl (fun c => g (cls c).1 (cls c).2.1) 93) c ∧ 0 ≤ c ∧ c ≤ 1114111) ↔ 0 ≤ c ∧ c ≤ 1114111 ∧ g (cls c).1 (cls c).2.1 = true := by
 rw [wl_has]
 constructor
 · rintro ⟨⟨i, hi, hg, a, b⟩, h0, h1⟩
   have := gap hi a b
   rw [this.1, this.2]
   exact ⟨h0, h1, hg⟩
 · rintro ⟨h0, h1, hg⟩
   obtain ⟨i, hi, a, b⟩ := st_in c 93 h0 (by show c < 1114112; omega)
   have := gap hi a b
   rw [this.1, this.2] at hg
   exact ⟨⟨i, hi, hg, a, b⟩, h0, h1⟩
theorem wl_inR {h : Int → Bool} {k : Nat} (hk : k ≤ 93) : ∀ r ∈ wl h k, (-9223372036854775808 ≤ r.1 ∧ r.1 ≤ 9223372036854775807) ∧ (-9223372036854775808 ≤ r.2 ∧ r.2 ≤ 9223372036854775807) := by
 induction k with
 | zero => intro r hr; cases hr
 | succ k ih =>
   intro r hr
   rw [wl_succ] at hr
   have b1 := st_bd k (by omega)
   have b2 := st_bd (k + 1) (by omega)
   split at hr
   · rcases List.mem_append.1 hr with hr | hr
     · exact ih (by omega) r hr
     · obtain rfl := List.mem_singleton.1 hr
       simp only
       omega
   · exact ih (by omega) r hr
theorem posix_canon {p : ByteArray × List Rg} (h : p ∈ posix) : Canon p.2 := by
 have all : (posix.all fun p => (p.2.all fun r => decide (0 ≤ r.1) && decide (r.1 ≤ r.2) && decide (r.2 ≤ 1114111)) && decide (p.2.Pairwise (fun a b => a.2 + 1 < b.1))) = true := by decide +kernel
 have := List.all_eq_true.1 all p h
 simp only [Bool.and_eq_true, List.all_eq_true, decide_eq_true_eq] at this
 exact ⟨this.2, fun r hr => ⟨(this.1 r hr).1.1, (this.1 r hr).1.2, (this.1 r hr).2⟩⟩
def posixP (n : ByteArray) : List Rg := lookP posix n []
def posixB (n : ByteArray) : Bool := posix.any fun p => decide (p.1 = n)
def escP (c : Int) : List Rg := if c = 100 then [(48, 57)] else if c = 115 then [(9, 13), (32, 32)] else if c = 119 then [(48, 57), (65, 90), (95, 95), (97, 122)] else if c = 104 then [(9, 9), (32, 32), (160, 160), (8192, 8202)] else if c = 118 then [(10, 13), (133, 133), (8232, 8233)] else []
def escB (c : Int) : Bool := decide (c = 100) || decide (c = 115) || decide (c = 119) || decide (c = 104) || decide (c = 118)
def isP (n : ByteArray) : Bool := decide (kind n = 1) || decide (kind n = 2) || decide (kind n = 3) || decide (kind n = 4)
end Go.Proofs.YtkcmjcgjfjfimaaGreatDoor.prp
end
section
namespace Go.Proofs.YtkcmjcgjfjfimaaGreatDoor.tkp
open Go utfp ucdp setp prp
structure Pt where
 g : Nat → Int
 n : Nat
 u : Bool
 x : Bool
def Pt.most (p : Pt) : Int := if p.u = true then 1114111 else 255
structure Tk where
 kind : Int
 at_ : Nat := 0
 «to» : Nat := 0
 c : Int := 0
 set : List Rg := []
 neg : Bool := false
 n : Int := 0
 m : Int := 0
 mode : Int := 0
 name : ByteArray := ⟨#[]⟩
 on : Int := 0
 off : Int := 0
abbrev R (α : Type) := Except (Int × Int) α
def Pt.er (p : Pt) (e : Int) (f : Nat) : Int × Int := if e = 20 then (20, p.n) else (e, f)
def isDig (c : Int) : Bool := decide (48 ≤ c) && decide (c ≤ 57)
def isLet (c : Int) : Bool := decide (65 ≤ c) && decide (c ≤ 90) || decide (97 ≤ c) && decide (c ≤ 122)
def isWrd (c : Int) : Bool := isLet c || isDig c || decide (c = 95)
def isHexd (c : Int) : Bool := isDig c || decide (65 ≤ c) && decide (c ≤ 70) || decide (97 ≤ c) && decide (c ≤ 102)
def optV (c : Int) : Nat := if c = 105 then 1 else if c = 109 then 2 else if c = 115 then 4 else if c = 85 then 16 else 0
def isOpt (c : Int) : Bool := optV c != 0
def Pt.has (p : Pt) : List UInt8 → Nat → Bool
 | [], _ => true
 | c :: l, a => decide (a < p.n) && decide (p.g a = (c.toNat : Int)) && p.has l (a + 1)
def Pt.char (p : Pt) (a : Nat) : Int × Nat := ((nextP p.u p.g p.n a).1, (nextP p.u p.g p.n a).2.toNat)
def Pt.run (p : Pt) (fits : Int → Bool) : Nat → Nat → Nat
 | 0, a => a
 | k + 1, a => if decide (a < p.n) && fits (p.g a) then p.run fits k (a + 1) else a
def Pt.sub (p : Pt) (a b : Nat) : ByteArray := strOfNums ((List.range (b - a)).map fun i => p.g (a + i))
def Pt.find (p : Pt) (c : Int) : Nat → Nat → Option Nat
 | 0, _ => none
 | k + 1, a => if p.g a = c then some a else p.find c k (a + 1)
def Pt.until (p : Pt) (c : Int) (a : Nat) : Option Nat := p.find c (p.n - a) a
def Pt.val (p : Pt) (a : Nat) : Nat → Int
 | 0 => 0
 | k + 1 => min (p.val a k * 10 + (p.g (a + k) - 48)) 256
def Pt.digits (p : Pt) (a : Nat) : Int × Nat := (p.val a (p.run isDig 1000 a - a), p.run isDig 1000 a)
def Pt.number (p : Pt) (f a : Nat) : R (Int × Nat) := if 255 < (p.digits a).1 then .error (25, f) else .ok (p.digits a)
def Pt.sign (p : Pt) (a : Nat) : Int × Nat := if p.has [45] a = true then (1, a + 1) else if p.has [43] a = true then (2, a + 1) else (0, a)
def Pt.signed (p : Pt) (f a : Nat) : R (Option (Int × Int × Nat)) :=
 match p.number f (p.sign a).2 with
 | .error e => .error e
 | .ok (n, b) => if b = (p.sign a).2 then .ok none else .ok (some (n, (p.sign a).1, b))
def Pt.name (p : Pt) (a : Nat) : Nat × Bool := (p.run isWrd 1000 a, decide (a < p.run isWrd 1000 a) && !isDig (p.g a) && decide (p.run isWrd 1000 a - a ≤ 32))
def Pt.mode (p : Pt) (a : Nat) : Int × Nat := if p.has [63] a = true then (1, a + 1) else if p.has [43] a = true then (2, a + 1) else (0, a)
def Pt.bounds (p : Pt) (a : Nat) : Option (Int × Int × Nat) :=
 if (p.digits a).2 = a then none
 else if p.has [44] (p.digits a).2 = true then some ((p.digits a).1, (if (p.digits ((p.digits a).2 + 1)).2 = (p.digits a).2 + 1 then -1 else (p.digits ((p.digits a).2 + 1)).1), (p.digits ((p.digits a).2 + 1)).2)
 else some ((p.digits a).1, (p.digits a).1, (p.digits a).2)
def Pt.braces (p : Pt) (f : Nat) : R (Option (Int × Int × Nat)) :=
 if p.has [123] f = true then
   match p.bounds (f + 1) with
   | none => .ok none
   | some (n, m, b) => if p.has [125] b = true then
       (if 255 < n ∨ 255 < m then .error (25, f) else if 0 ≤ m ∧ m < n then .error (23, f) else .ok (some (n, m, b + 1)))
     else .ok none
 else .ok none
def Pt.quant (p : Pt) (f : Nat) : R (Option (Tk × Nat)) :=
 if p.has [42] f = true then .ok (some ({ kind := 9, n := 0, m := -1, mode := (p.mode (f + 1)).1 }, (p.mode (f + 1)).2))
 else if p.has [43] f = true then .ok (some ({ kind := 9, n := 1, m := -1, mode := (p.mode (f + 1)).1 }, (p.mode (f + 1)).2))
 else if p.has [63] f = true then .ok (some ({ kind := 9, n := 0, m := 1, mode := (p.mode (f + 1)).1 }, (p.mode (f + 1)).2))
 else match p.braces f with
   | .error e => .error e
   | .ok none => .ok none
   | .ok (some (n, m, b)) => .ok (some ({ kind := 9, n := n, m := m, mode := (p.mode b).1 }, (p.mode b).2))
def insR : Int → Int → List Rg → List Rg
 | a, b, [] => [(a, b)]
 | a, b, r :: S => if b + 1 < r.1 then (a, b) :: r :: S else if r.2 + 1 < a then r :: insR a b S else insR (min a r.1) (max b r.2) S
def normR (m : Int) : List Rg → List Rg
 | [] => []
 | r :: l => if min r.2 m < max r.1 0 then normR m l else insR (max r.1 0) (min r.2 m) (normR m l)
def notF (m : Int) : Int → List Rg → List Rg
 | lo, [] => addP [] lo m
 | lo, r :: S => if min (r.1 - 1) m < lo then notF m (r.2 + 1) S else (lo, min (r.1 - 1) m) :: notF m (r.2 + 1) S
def notR (m : Int) (S : List Rg) : List Rg := notF m 0 S
def propL (n : ByteArray) : List Rg := wl (fun c => hp n (cls c).1 (cls c).2.1) 93
def hexV (c : Int) : Int := if c ≤ 57 then c - 48 else if c ≤ 70 then c - 55 else c - 87
def Pt.hexVal (p : Pt) (a : Nat) : Nat → Int
 | 0 => 0
 | k + 1 => p.hexVal a k * 16 + hexV (p.g (a + k))
def Pt.hexd (p : Pt) (most a : Nat) : Int × Nat := (p.hexVal a (p.run isHexd most a - a), p.run isHexd most a)
def Pt.hexa (p : Pt) (f a : Nat) : R (Int × Nat) :=
 if p.has [123] a = true then
   (if (p.hexd 6 (a + 1)).2 = a + 1 ∨ p.has [125] (p.hexd 6 (a + 1)).2 = false ∨ p.most < (p.hexd 6 (a + 1)).1 ∨ (p.u = true ∧ 55296 ≤ (p.hexd 6 (a + 1)).1 ∧ (p.hexd 6 (a + 1)).1 ≤ 57343) then .error (21, f)
    else .ok ((p.hexd 6 (a + 1)).1, (p.hexd 6 (a + 1)).2 + 1))
 else .ok (p.hexd 2 a)
def Pt.propName (p : Pt) (a : Nat) : ByteArray × Nat :=
 if p.has [123] a = true then
   match p.until 125 (a + 1) with
   | none => (⟨#[]⟩, a + 1)
   | some i => (p.sub (a + 1) i, i + 1)
 else (p.sub a (p.char a).2, (p.char a).2)
def hat (s : ByteArray) : Bool := pre s ⟨#[94]⟩
def unhat (s : ByteArray) : ByteArray := if hat s = true then s.extract 1 s.size else s
def Pt.prop (p : Pt) (f a : Nat) (neg : Bool) : R (Tk × Nat) :=
 if isP (unhat (p.propName a).1) = true then .ok ({ kind := 2, set := normR p.most (propL (unhat (p.propName a).1)), neg := neg != hat (p.propName a).1 }, (p.propName a).2)
 else .error (24, f)
def simpleE (c : Int) : Int := if c = 97 then 7 else if c = 101 then 27 else if c = 102 then 12 else if c = 110 then 10 else if c = 114 then 13 else if c = 116 then 9 else 0
def assertE (c : Int) : Int := if c = 98 then 3 else if c = 66 then 4 else if c = 65 then 5 else if c = 122 then 6 else if c = 90 then 7 else if c = 71 then 8 else 0
def capB (c : Int) : Bool := decide (65 ≤ c) && decide (c ≤ 90)
def lowC (c : Int) : Int := if capB c = true then c + 32 else c
def Pt.common (p : Pt) (f : Nat) (c : Int) (a : Nat) : R (Option (Tk × Nat)) :=
 if simpleE c ≠ 0 then .ok (some ({ kind := 1, c := simpleE c }, a))
 else if c = 120 then (match p.hexa f a with | .error e => .error e | .ok (v, b) => .ok (some ({ kind := 1, c := v }, b)))
 else if c = 112 ∨ c = 80 then (match p.prop f a (decide (c = 80)) with | .error e => .error e | .ok r => .ok (some r))
 else if escB (lowC c) = true then .ok (some ({ kind := 2, set := normR p.most (escP (lowC c)), neg := capB c }, a))
 else .ok none
def Pt.posix (p : Pt) (f : Nat) : R (Option (Tk × Nat)) :=
 if p.has [91, 58] f = true then
   (let b := if p.has [94] (f + 2) = true then f + 3 else f + 2
    let e := p.run isLet 1000 b
    if p.has [58, 93] e = true then
      (if posixB (p.sub b e) = true then .ok (some ({ kind := 2, set := normR p.most (posixP (p.sub b e)), neg := p.has [94] (f + 2) }, e + 2)) else .error (22, f))
    else .ok none)
 else .ok none
def Pt.classEsc (p : Pt) (f a : Nat) : R (Tk × Nat) :=
 if a = p.n then .error (20, p.n)
 else match p.common f (p.char a).1 (p.char a).2 with
   | .error e => .error e
   | .ok (some r) => .ok r
   | .ok none => if (p.char a).1 = 98 then .ok ({ kind := 1, c := 8 }, (p.char a).2)
     else if (isLet (p.char a).1 || isDig (p.char a).1) = true then .error (21, f)
     else .ok ({ kind := 1, c := (p.char a).1 }, (p.char a).2)
def Pt.item (p : Pt) (a : Nat) : R (Tk × Nat) :=
 if a = p.n then .error (20, p.n)
 else match p.posix a with
   | .error e => .error e
   | .ok (some r) => .ok r
   | .ok none => if (p.char a).1 = 92 then p.classEsc a (p.char a).2 else .ok ({ kind := 1, c := (p.char a).1 }, (p.char a).2)
def Pt.members (p : Pt) (t : Tk) : List Rg := if t.kind = 1 then [(t.c, t.c)] else if t.neg = true then notR p.most t.set else t.set
def Pt.dash (p : Pt) (a : Nat) : Bool := !p.has [45, 93] a && p.has [45] a
def Pt.items (p : Pt) (a : Nat) : R (List Rg × Nat) :=
 match p.item a with
 | .error e => .error e
 | .ok (c, b) =>
   if (decide (c.kind = 1) && p.dash b) = true then
     match p.item (b + 1) with
     | .error e => .error e
     | .ok (d, b') => if d.kind ≠ 1 ∨ d.c < c.c then .error (23, a) else .ok ([(c.c, d.c)], b')
   else .ok (p.members c, b)
def Pt.more (p : Pt) : Nat → List Rg → Nat → R (List Rg × Nat)
 | 0, _, _ => .error (20, p.n)
 | k + 1, l, a => if p.has [93] a = true then .ok (l, a + 1)
   else match p.items a with
     | .error e => .error e
     | .ok (m, b) => p.more k (l ++ m) b
def Pt.cls (p : Pt) (a : Nat) : R (Tk × Nat) :=
 match p.items (if p.has [94] a = true then a + 1 else a) with
 | .error e => .error e
 | .ok (l, b) => match p.more (p.n + 1 - b) l b with
   | .error e => .error e
   | .ok (l', b') => .ok ({ kind := 2, set := normR p.most l', neg := p.has [94] a }, b')
def Pt.quotes (p : Pt) (a : Nat) : Int × List UInt8 × Nat :=
 if p.has [60] a = true then (12, [62], a + 1) else if p.has [39] a = true then (12, [39], a + 1) else if p.has [123] a = true then (11, [125], a + 1) else (11, [], a)
def Pt.refer (p : Pt) (f a : Nat) : R (Tk × Nat) :=
 match p.signed f (p.quotes a).2.2 with
 | .error e => .error e
 | .ok (some (n, m, b)) => if p.has (p.quotes a).2.1 b = false then .error (21, f)
   else if n = 0 ∧ ((p.quotes a).1 ≠ 12 ∨ m ≠ 0) then .error (25, f)
   else .ok ({ kind := (p.quotes a).1, n := n, m := m }, b + (p.quotes a).2.1.length)
 | .ok none => if (p.name (p.quotes a).2.2).2 = false ∨ (p.quotes a).2.1 = [] ∨ p.has (p.quotes a).2.1 (p.name (p.quotes a).2.2).1 = false then .error (21, f)
   else .ok ({ kind := (p.quotes a).1, m := 3, name := p.sub (p.quotes a).2.2 (p.name (p.quotes a).2.2).1 }, (p.name (p.quotes a).2.2).1 + (p.quotes a).2.1.length)
def Pt.nback (p : Pt) (f a : Nat) : R (Tk × Nat) :=
 if (p.name (p.quotes a).2.2).2 = false ∨ (p.quotes a).2.1 = [] ∨ p.has (p.quotes a).2.1 (p.name (p.quotes a).2.2).1 = false then .error (27, f)
 else .ok ({ kind := 11, m := 3, name := p.sub (p.quotes a).2.2 (p.name (p.quotes a).2.2).1 }, (p.name (p.quotes a).2.2).1 + (p.quotes a).2.1.length)
def lay (t : Tk) (f b : Nat) : Tk := { t with at_ := f, «to» := b }
def one (f : Nat) : R (Tk × Nat) → R (List Tk × Nat)
 | .error e => .error e
 | .ok (t, b) => .ok ([lay t f b], b)
def Pt.quoted (p : Pt) : Nat → Nat → List Tk × Nat
 | 0, a => ([], a)
 | k + 1, a => if a = p.n then ([], a) else if p.has [92, 69] a = true then ([], a + 2)
   else (lay { kind := 1, c := (p.char a).1 } a (p.char a).2 :: (p.quoted k (p.char a).2).1, (p.quoted k (p.char a).2).2)
def Pt.escape (p : Pt) (f a : Nat) : R (List Tk × Nat) :=
 if a = p.n then .error (20, p.n)
 else
   let c := (p.char a).1
   let b := (p.char a).2
   match p.common f c b with
   | .error e => .error e
   | .ok (some r) => one f (.ok r)
   | .ok none =>
     if assertE c ≠ 0 then one f (.ok ({ kind := 4, n := assertE c }, b))
     else if c = 81 then .ok (p.quoted (p.n - b) b)
     else if c = 69 then .ok ([], b)
     else if c = 78 then one f (.ok ({ kind := 2, set := [(10, 10)], neg := true }, b))
     else if c = 75 then one f (.ok ({ kind := 5 }, b))
     else if c = 82 then one f (.ok ({ kind := 6 }, b))
     else if c = 103 then one f (p.refer f b)
     else if c = 107 then one f (p.nback f b)
     else if c ≠ 48 ∧ isDig c = true then (match p.number f a with | .error e => .error e | .ok (n, b') => one f (.ok ({ kind := 11, n := n }, b')))
     else if c = 48 ∨ isLet c = true then .error (21, f)
     else one f (.ok ({ kind := 1, c := c }, b))
def groupsT : List (List UInt8 × Int) := [([124], 3), ([62], 4), ([61], 5), ([33], 6), ([60, 61], 7), ([60, 33], 8)]
def namingsT : List (List UInt8 × List UInt8 × Int × Int × Int) := [([60], [62], 10, 1, 0), ([80, 60], [62], 10, 1, 0), ([39], [39], 10, 1, 0), ([38], [41], 12, 0, 3), ([80, 62], [41], 12, 0, 3), ([80, 61], [41], 11, 0, 3)]
def looksT : List (List UInt8) := [[40, 63, 61], [40, 63, 33], [40, 63, 60, 61], [40, 63, 60, 33]]
def Pt.plainK (p : Pt) (a : Nat) : List (List UInt8 × Int) → Option (Tk × Nat)
 | [] => none
 | (s, k) :: l => if p.has s a = true then some ({ kind := 10, n := k }, a + s.length) else p.plainK a l
def Pt.naming (p : Pt) (f a : Nat) : List (List UInt8 × List UInt8 × Int × Int × Int) → R (Option (Tk × Nat))
 | [] => .ok none
 | (s, z, k, n, m) :: l => if p.has s a = true then
     (if (p.name (a + s.length)).1 = p.n then .error (20, p.n)
      else if (p.name (a + s.length)).2 = false ∨ p.has z (p.name (a + s.length)).1 = false then .error (27, f)
      else .ok (some ({ kind := k, n := n, m := m, name := p.sub (a + s.length) (p.name (a + s.length)).1 }, (p.name (a + s.length)).1 + z.length)))
   else p.naming f a l
def Pt.broken (p : Pt) (f a : Nat) : Int × Int := if a = p.n then (20, p.n) else (26, f)
def Pt.close (p : Pt) (f a : Nat) : R Nat := if p.has [41] a = true then .ok (a + 1) else .error (p.broken f a)
def Pt.counted (p : Pt) (f a : Nat) : R (Option (Tk × Nat)) :=
 match p.signed f a with
 | .error e => .error e
 | .ok none => .ok none
 | .ok (some (n, m, b)) => match p.close f b with
   | .error e => .error e
   | .ok b' => if n = 0 ∧ m ≠ 0 then .error (25, f) else .ok (some ({ kind := 12, n := n, m := m }, b'))
def Pt.orV (p : Pt) (a : Nat) : Nat → Nat
 | 0 => 0
 | k + 1 => p.orV a k ||| optV (p.g (a + k))
def Pt.letters (p : Pt) (a : Nat) : Nat × Nat := (p.orV a (p.run isOpt 1000 a - a), p.run isOpt 1000 a)
def Pt.minus (p : Pt) (a : Nat) : Nat × Nat := if p.has [45] a = true then p.letters (a + 1) else (0, a)
def Pt.settings (p : Pt) (f a : Nat) : R (Tk × Nat) :=
 let on := p.letters a
 let off := p.minus on.2
 if p.has [58] off.2 = true then .ok ({ kind := 10, n := 2, on := on.1, off := off.1 }, off.2 + 1)
 else match p.close f off.2 with
   | .error e => .error e
   | .ok b => .ok ({ kind := 15, on := on.1, off := off.1 }, b)
def Pt.test (p : Pt) (f a : Nat) : R (Option (Tk × Nat)) :=
 if p.has [68, 69, 70, 73, 78, 69] a = true then .ok (some ({ kind := 10, n := 12 }, a + 6))
 else if p.has [82, 38] a = true then .ok (if (p.name (a + 2)).2 = true then some ({ kind := 10, n := 11, m := 3, name := p.sub (a + 2) (p.name (a + 2)).1 }, (p.name (a + 2)).1) else none)
 else if p.has [82] a = true then (match p.number f (a + 1) with
   | .error e => .error e
   | .ok (n, b) => .ok (some ({ kind := 10, n := 11, mode := if b = a + 1 then -1 else n }, b)))
 else if p.has [60] a = true then .ok (if (p.name (a + 1)).2 = true ∧ p.has [62] (p.name (a + 1)).1 = true then some ({ kind := 10, n := 10, name := p.sub (a + 1) (p.name (a + 1)).1 }, (p.name (a + 1)).1 + 1) else none)
 else if p.has [39] a = true then .ok (if (p.name (a + 1)).2 = true ∧ p.has [39] (p.name (a + 1)).1 = true then some ({ kind := 10, n := 10, name := p.sub (a + 1) (p.name (a + 1)).1 }, (p.name (a + 1)).1 + 1) else none)
 else match p.signed f a with
   | .error e => .error e
   | .ok none => .ok none
   | .ok (some (n, m, b)) => .ok (some ({ kind := 10, n := 9, m := m, mode := n }, b))
def Pt.cond (p : Pt) (f a : Nat) : R (Tk × Nat) :=
 if looksT.any (fun s => p.has s a) = true then .ok ({ kind := 10, n := 13 }, a)
 else match p.test f (a + 1) with
   | .error e => .error e
   | .ok none => .error (32, f)
   | .ok (some (t, b)) => if p.has [41] b = false then .error (32, f) else if t.n = 9 ∧ t.mode = 0 then .error (25, f) else .ok (t, b + 1)
def verbsT : List (ByteArray × Int × Int) := [(⟨#[65, 67, 67, 69, 80, 84]⟩, 1, 0), (⟨#[70, 65, 73, 76]⟩, 2, 0), (⟨#[70]⟩, 2, 0), (⟨#[67, 79, 77, 77, 73, 84]⟩, 3, 1), (⟨#[80, 82, 85, 78, 69]⟩, 4, 1), (⟨#[83, 75, 73, 80]⟩, 5, 1), (⟨#[84, 72, 69, 78]⟩, 6, 1), (⟨#[77, 65, 82, 75]⟩, 7, 2), (⟨#[]⟩, 7, 2)]
def verbF (word name : ByteArray) (named : Bool) : List (ByteArray × Int × Int) → Option Int
 | [] => none
 | (v, n, k) :: l => if word = v then (if (named && (decide (k = 0) || decide (name = ⟨#[]⟩)) || !named && decide (k = 2)) = true then none else some n) else verbF word name named l
def Pt.verb (p : Pt) (f a : Nat) : R (Tk × Nat) :=
 match p.until 41 a with
 | none => .error (20, p.n)
 | some i =>
   let word := match p.find 58 (i - a) a with | none => p.sub a i | some j => p.sub a j
   let name := match p.find 58 (i - a) a with | none => ⟨#[]⟩ | some j => p.sub (j + 1) i
   match verbF word name (p.find 58 (i - a) a).isSome verbsT with
   | none => .error (28, f)
   | some n => .ok ({ kind := 13, n := n, name := name }, i + 1)
def Pt.special (p : Pt) (f a : Nat) : R (List Tk × Nat) :=
 match p.plainK a groupsT with
 | some r => one f (.ok r)
 | none => match p.naming f a namingsT with
   | .error e => .error e
   | .ok (some r) => one f (.ok r)
   | .ok none => match p.counted f a with
     | .error e => .error e
     | .ok (some r) => one f (.ok r)
     | .ok none =>
       if p.has [35] a = true then (match p.until 41 (a + 1) with | none => .error (20, p.n) | some i => .ok ([], i + 1))
       else if p.has [40] a = true then one f (p.cond f a)
       else if p.has [82] a = true then one f (match p.close f (a + 1) with | .error e => .error e | .ok b => .ok ({ kind := 12 }, b))
       else if p.has [67] a = true then one f (match p.number f (a + 1) with | .error e => .error e | .ok (n, b) => match p.close f b with | .error e => .error e | .ok b' => .ok ({ kind := 14, n := n }, b'))
       else if p.has [43] a = true then .error (p.broken f (a + 1))
       else one f (p.settings f a)
def Pt.group (p : Pt) (f a : Nat) : R (List Tk × Nat) :=
 if p.has [42] a = true then one f (p.verb f (a + 1))
 else if p.has [63] a = true then p.special f (a + 1)
 else one f (.ok ({ kind := 10, n := 1 }, a))
def Pt.ign (p : Pt) (c : Int) (a : Nat) : Option Nat :=
 if p.x = false then none
 else if c = 35 then some (match p.until 10 a with | none => p.n | some i => i + 1)
 else if 9 ≤ c ∧ c ≤ 13 ∨ c = 32 then some a else none
def Pt.token (p : Pt) (f : Nat) : R (List Tk × Nat) :=
 match p.quant f with
 | .error e => .error e
 | .ok (some r) => one f (.ok r)
 | .ok none =>
   let c := (p.char f).1
   let b := (p.char f).2
   if c = 92 then p.escape f b
   else if c = 91 then one f (p.cls b)
   else if c = 40 then p.group f b
   else if c = 41 then one f (.ok ({ kind := 8 }, b))
   else if c = 124 then one f (.ok ({ kind := 7 }, b))
   else if c = 46 then one f (.ok ({ kind := 3 }, b))
   else if c = 94 then one f (.ok ({ kind := 4, n := 1 }, b))
   else if c = 36 then one f (.ok ({ kind := 4, n := 2 }, b))
   else match p.ign c b with
     | some b' => .ok ([], b')
     | none => one f (.ok ({ kind := 1, c := c }, b))
def Pt.read (p : Pt) : Nat → List Tk → Nat → R (List Tk)
 | 0, T, _ => .ok T
 | k + 1, T, a => if a = p.n then .ok T else match p.token a with
   | .error e => .error e
   | .ok (ts, b) => p.read k (T ++ ts) b
def lexP (g : Nat → Int) (n : Nat) (o : Int) : R (List Tk) :=
 if o < 0 ∨ 65535 < o then .error (1, 0)
 else if 1000 < n then .error (10, 1000)
 else if o.toNat.testBit 5 = true ∧ (validP g n).2 = false then .error (13, (validP g n).1)
 else ({ g := g, n := n, u := o.toNat.testBit 5, x := o.toNat.testBit 3 } : Pt).read (n + 1) [] 0
end Go.Proofs.YtkcmjcgjfjfimaaGreatDoor.tkp
end
section
namespace Go.Proofs.YtkcmjcgjfjfimaaGreatDoor.tkp
open Go utfp ucdp setp prp
theorem insR_has : ∀ {S : List Rg} {a b c : Int}, InR S → a ≤ b → (Has (insR a b S) c ↔ (a ≤ c ∧ c ≤ b) ∨ Has S c)
 | [], a, b, c, _, _ => by simp [insR, Has]
 | r :: S, a, b, c, hS, hab => by
   have hr := hS r (List.mem_cons_self ..)
   have hT : InR S := fun x hx => hS x (List.mem_cons_of_mem _ hx)
   unfold insR
   by_cases h1 : b + 1 < r.1
   · rw [if_pos h1, has_cons]
   · rw [if_neg h1]
     by_cases h2 : r.2 + 1 < a
     · rw [if_pos h2, has_cons, insR_has hT hab, has_cons]
       constructor
       · rintro (h | h | h)
         · exact Or.inr (Or.inl h)
         · exact Or.inl h
         · exact Or.inr (Or.inr h)
       · rintro (h | h | h)
         · exact Or.inr (Or.inl h)
         · exact Or.inl h
         · exact Or.inr (Or.inr h)
     · rw [if_neg h2, insR_has hT (by omega), has_cons]
       constructor
       · rintro (h | h)
         · by_cases h3 : a ≤ c ∧ c ≤ b
           · exact Or.inl h3
           · exact Or.inr (Or.inl (by omega))
         · exact Or.inr (Or.inr h)
       · rintro (h | h | h)
         · exact Or.inl (by omega)
         · exact Or.inl (by omega)
         · exact Or.inr h
theorem insR_from : ∀ {S : List Rg} {a b lo : Int}, lo ≤ a → (∀ r ∈ S, lo ≤ r.1) → ∀ e ∈ insR a b S, lo ≤ e.1
 | [], a, b, lo, h, _ => by
   intro e he
   simp only [insR, List.mem_singleton] at he
   subst he
   exact h
 | r :: S, a, b, lo, h, hS => by
   have hr := hS r (List.mem_cons_self ..)
   have hT : ∀ x ∈ S, lo ≤ x.1 := fun x hx => hS x (List.mem_cons_of_mem _ hx)
   unfold insR
   intro e he
   by_cases h1 : b + 1 < r.1
   · rw [if_pos h1] at he
     rcases List.mem_cons.1 he with rfl | he
     · exact h
     · exact hS e he
   · rw [if_neg h1] at he
     by_cases h2 : r.2 + 1 < a
     · rw [if_pos h2] at he
       rcases List.mem_cons.1 he with rfl | he
       · exact hr
       · exact insR_from h hT e he
     · rw [if_neg h2] at he
       exact insR_from (by omega) hT e he
theorem insR_canon : ∀ {S : List Rg} {a b : Int}, Canon S → 0 ≤ a → a ≤ b → b ≤ 1114111 → Canon (insR a b S)
 | [], a, b, _, h0, h1, h2 => ⟨List.pairwise_singleton _ _, inR_one h0 h1 h2⟩
 | r :: S, a, b, hS, h0, h1, h2 => by
   have hr := hS.2 r (List.mem_cons_self ..)
   have hT := canon_tail hS
   have hP := (List.pairwise_cons.1 hS.1).1
   unfold insR
   by_cases h3 : b + 1 < r.1
   · rw [if_pos h3]
     refine ⟨List.pairwise_cons.2 ⟨fun x hx => ?_, hS.1⟩, fun x hx => ?_⟩
     · rcases List.mem_cons.1 hx with rfl | hx
       · exact h3
       · have := hP x hx
         show b + 1 < x.1
         omega
     · rcases List.mem_cons.1 hx with rfl | hx
       · exact ⟨h0, h1, h2⟩
       · exact hS.2 x hx
   · rw [if_neg h3]
     by_cases h4 : r.2 + 1 < a
     · rw [if_pos h4]
       have ih := insR_canon hT h0 h1 h2
       refine ⟨List.pairwise_cons.2 ⟨fun x hx => ?_, ih.1⟩, fun x hx => ?_⟩
       · have := insR_from (lo := r.2 + 2) (S := S) (a := a) (b := b) (by omega) (fun y hy => by have := hP y hy; omega) x hx
         omega
       · rcases List.mem_cons.1 hx with rfl | hx
         · exact hr
         · exact ih.2 x hx
     · rw [if_neg h4]
       exact insR_canon hT (by omega) (by omega) (by omega)
theorem normR_canon {m : Int} (hm : m ≤ 1114111) : ∀ l : List Rg, Canon (normR m l)
 | [] => canon_nil
 | r :: l => by
   unfold normR
   split
   · exact normR_canon hm l
   · exact insR_canon (normR_canon hm l) (by omega) (by omega) (by omega)
theorem normR_has {m : Int} (hm : m ≤ 1114111) : ∀ (l : List Rg) (c : Int), Has (normR m l) c ↔ Has l c ∧ 0 ≤ c ∧ c ≤ m
 | [], c => by simp [normR, Has]
 | r :: l, c => by
   have ih := normR_has hm l c
   unfold normR
   rw [has_cons]
   split
   · rw [ih]
     constructor
     · rintro ⟨h1, h2⟩; exact ⟨Or.inr h1, h2⟩
     · rintro ⟨h1 | h1, h2⟩
       · omega
       · exact ⟨h1, h2⟩
   · rw [insR_has (normR_canon hm l).2 (by omega), ih]
     constructor
     · rintro (h | ⟨h1, h2⟩)
       · exact ⟨Or.inl (by omega), by omega⟩
       · exact ⟨Or.inr h1, h2⟩
     · rintro ⟨h1 | h1, h2⟩
       · exact Or.inl (by omega)
       · exact Or.inr ⟨h1, h2⟩
theorem normR_only {m : Int} (hm : m ≤ 1114111) {l S : List Rg} (hS : Canon S) (h : ∀ c, Has S c ↔ Has l c ∧ 0 ≤ c ∧ c ≤ m) : S = normR m l :=
 canon_ext hS (normR_canon hm l) fun c => by rw [h, normR_has hm]
theorem notF_both {m : Int} (hm : m ≤ 1114111) : ∀ {S : List Rg} {lo : Int}, Canon S → 0 ≤ lo → (∀ r ∈ S, lo ≤ r.1) → Canon (notF m lo S) ∧ (∀ e ∈ notF m lo S, lo ≤ e.1) ∧ ∀ c, Has (notF m lo S) c ↔ lo ≤ c ∧ c ≤ m ∧ ¬ Has S c
 | [], lo, _, h0, _ => by
   unfold notF
   refine ⟨addP_canon canon_nil (fun _ h => by cases h) h0 hm, fun e he => ?_, fun c => ?_⟩
   · rcases addP_mem he with h | ⟨rfl, _⟩
     · cases h
     · exact Int.le_refl _
   · rw [addP_has]
     simp [Has]
 | r :: S, lo, hS, h0, hl => by
   have hr := hS.2 r (List.mem_cons_self ..)
   have hlr := hl r (List.mem_cons_self ..)
   have hP := (List.pairwise_cons.1 hS.1).1
   obtain ⟨i1, i2, i3⟩ := notF_both hm (lo := r.2 + 1) (canon_tail hS) (by omega) (fun x hx => by have := hP x hx; omega)
   have hT : ∀ c, Has S c → r.2 + 1 < c := fun c hc => canon_head hS hc
   unfold notF
   split
   · refine ⟨i1, fun e he => by have := i2 e he; omega, fun c => ?_⟩
     rw [i3, has_cons]
     constructor
     · rintro ⟨a, b, d⟩
       exact ⟨by omega, b, fun h => h.elim (fun h => by omega) d⟩
     · rintro ⟨a, b, d⟩
       refine ⟨?_, b, fun h => d (Or.inr h)⟩
       have : ¬ (r.1 ≤ c ∧ c ≤ r.2) := fun h => d (Or.inl h)
       omega
   · refine ⟨⟨List.pairwise_cons.2 ⟨fun x hx => ?_, i1.1⟩, fun x hx => ?_⟩, fun e he => ?_, fun c => ?_⟩
     · have := i2 x hx
       show min (r.1 - 1) m + 1 < x.1
       omega
     · rcases List.mem_cons.1 hx with rfl | hx
       · exact ⟨h0, by show lo ≤ min (r.1 - 1) m; omega, by show min (r.1 - 1) m ≤ 1114111; omega⟩
       · exact i1.2 x hx
     · rcases List.mem_cons.1 he with rfl | he
       · exact Int.le_refl _
       · have := i2 e he; omega
     · rw [has_cons, i3, has_cons]
       constructor
       · rintro (h | ⟨a, b, d⟩)
         · refine ⟨h.1, by omega, ?_⟩
           rintro (k | k)
           · omega
           · have := hT c k; omega
         · exact ⟨by omega, b, fun h => h.elim (fun h => by omega) d⟩
       · rintro ⟨a, b, d⟩
         by_cases h : c ≤ r.1 - 1
         · exact Or.inl ⟨a, by omega⟩
         · refine Or.inr ⟨?_, b, fun h => d (Or.inr h)⟩
           have : ¬ (r.1 ≤ c ∧ c ≤ r.2) := fun h => d (Or.inl h)
           omega
theorem notR_canon {m : Int} (hm : m ≤ 1114111) {S : List Rg} (hS : Canon S) : Canon (notR m S) := (notF_both hm hS (Int.le_refl _) fun r hr => (hS.2 r hr).1).1
theorem notR_has {m : Int} (hm : m ≤ 1114111) {S : List Rg} (hS : Canon S) (c : Int) : Has (notR m S) c ↔ 0 ≤ c ∧ c ≤ m ∧ ¬ Has S c := (notF_both hm hS (Int.le_refl _) fun r hr => (hS.2 r hr).1).2.2 c
theorem notR_only {m : Int} (hm : m ≤ 1114111) {R S : List Rg} (hR : Canon R) (hS : Canon S) (h : ∀ c, Has R c ↔ 0 ≤ c ∧ c ≤ m ∧ ¬ Has S c) : R = notR m S :=
 canon_ext hR (notR_canon hm hS) fun c => by rw [h, notR_has hm hS]
theorem most_le (p : Pt) : p.most ≤ 1114111 := by unfold Pt.most; split <;> omega
theorem most_ge (p : Pt) : 255 ≤ p.most := by unfold Pt.most; split <;> omega
theorem prop_norm {m : Int} (hm : m ≤ 1114111) {n : ByteArray} {S T : List Rg} (hS : ∀ c, Has S c ↔ 0 ≤ c ∧ c ≤ 1114111 ∧ propP n c = true) (hT : Canon T) (h : ∀ c, Has T c ↔ Has S c ∧ 0 ≤ c ∧ c ≤ m) : T = normR m (propL n) :=
 canon_ext hT (normR_canon hm _) fun c => by
   rw [h, normR_has hm, hS]
   have := wl_all (hp n) c
   unfold propL
   unfold propP
   constructor
   · rintro ⟨⟨a, b, d⟩, e, f⟩
     exact ⟨(this.2 ⟨a, b, d⟩).1, e, f⟩
   · rintro ⟨a, e, f⟩
     exact ⟨this.1 ⟨a, e, by omega⟩, e, f⟩
end Go.Proofs.YtkcmjcgjfjfimaaGreatDoor.tkp
end
