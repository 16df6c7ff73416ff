/- T -/
import Derived.Test.YtnpcombfgdbhkaaDoorBPs18
set_option maxHeartbeats 16000000
set_option maxRecDepth 1000000
section
namespace Go.Proofs.YtnpcombfgdbhkaaDoor.psw
open sq
open Go.Sort Go Go.RowKit Go.Maps tkp trp trw rpp psp
open tkw (qO)
open rpw (sees jB qU fC jP FSub vw jQ app_sub jH jm jd qp vW oneR zk jV lab_ok rg_nil qh qA jU)
def Rn (v u : Value) : Prop := ∀ b, v.ownBlock = some b → u.ownBlock ≠ some b
def vals : List Gv → List Value
 | [] => []
 | G :: T => G.kv :: G.iv :: vals T
theorem mem_vals : ∀ {T : List Gv} {u : Value}, u ∈ vals T → ∃ G ∈ T, u = G.kv ∨ u = G.iv
 | G :: T, u, h => by
  simp only [vals, List.mem_cons] at h;rcases h with rfl | rfl | h
  ·exact ⟨G, List.mem_cons_self .., Or.inl rfl⟩
  ·exact ⟨G, List.mem_cons_self .., Or.inr rfl⟩
  ·obtain ⟨G', h1, h2⟩ := mem_vals h;exact ⟨G', List.mem_cons_of_mem _ h1, h2⟩
theorem vals_mem : ∀ {T : List Gv} {G : Gv}, G ∈ T → G.kv ∈ vals T ∧ G.iv ∈ vals T
 | A :: T, G, h => by
  rcases List.mem_cons.1 h with rfl | h
  ·simp [vals]
  ·have := vals_mem h;simp [vals, this.1, this.2]
structure Gr (H : Nat → Bool) (n : Nat) (w : World) (q : Nat) (G : Gv) : Prop where
 k : Nr H n w G.kv G.kf
 i : Nr H n w G.iv G.jf
 kg : G.kv.ownBlock ≠ some q
 ig : G.iv.ownBlock ≠ some q
 rg : RgAt (sees H w) G.sv G.t.set
 ok : TkO G.t
structure PaI (zh H : Nat → Bool) (n : Nat) (w : World) (P q cap : Nat) (cur : Array Value) (T : List Gv) : Prop where
 p : w.heap[P]? = some (.cells #[.slice (some ⟨q, 0, none⟩) T.length cap] 62 (0, 0))
 c : w.heap[q]? = some (.cells cur 59 (0, 0))
 cz : cur.size = cap * 14
 cl : T.length ≤ cap
 cm : cap ≤ maxLen
 tk : cur.toList.take (T.length * 14) = gC T
 g : ∀ G ∈ T, Gr H n w q G
 ap : (vals T).Pairwise Rn
 hp : H P = true
 hq : H q = true
 ho : ∀ i, H i = true → i < w.heap.size
 hn : ∀ i, H i = true → n ≤ i + 1 ∨ zh i = true
 nq : n ≤ q
 np : n ≤ P
 hr : ∀ R, zh R = true ∧ R + 1 ≤ n → H R = true
 n : n ≤ w.heap.size
theorem PaI.cell {zh H : Nat → Bool} {n : Nat} {w : World} {P q cap : Nat} {cur : Array Value} {T : List Gv} (h : PaI zh H n w P q cap cur T) : w.cell? ⟨P, 0, none⟩ = some (.slice (some ⟨q, 0, none⟩) T.length cap) ∧ w.frozen? ⟨P, 0, none⟩ = false := by unfold World.cell? World.frozen?;rw [h.p];exact ⟨rfl, rfl⟩
theorem PaI.pq {zh H : Nat → Bool} {n : Nat} {w : World} {P q cap : Nat} {cur : Array Value} {T : List Gv} (h : PaI zh H n w P q cap cur T) : P ≠ q := by intro e;have h1 := h.p;rw [e, h.c] at h1;simp only [Option.some.injEq, Obj.cells.injEq] at h1;exact absurd h1.2.1 (by decide)
theorem row_neP {w : World} {n g m : Nat} {v : Value} {xs : List Value} {C : Array Value} (h : w.ownsRow n 31 12 v m xs) (hg : w.heap[g]? = some (.cells C 62 (0, 0))) : v.ownBlock ≠ some g := by
 intro e;rcases h.2 with ⟨rfl, _⟩ | ⟨q, _, _, rfl, _, hq, _⟩
 ·cases e
 ·simp only [Value.ownBlock, Option.some.injEq] at e;subst e;rw [hq] at hg;simp only [Option.some.injEq, Obj.cells.injEq] at hg;exact absurd hg.2.1 (by decide)
theorem PaI.top {zh H : Nat → Bool} {n : Nat} {w : World} {P q cap : Nat} {cur : Array Value} {G : Gv} {T : List Gv} (h : PaI zh H n w P q cap cur (G :: T)) : Gi H n w q (T.length * 14) cur G := by
 have hg := h.g G (List.mem_cons_self ..);have hcl : T.length + 1 ≤ cap := h.cl;refine ⟨h.c, by rw [h.cz]; omega, fun j u hj => ?_, hg.k, hg.i, h.hq, hg.kg, hg.ig, ?_, h.ho, h.n, hg.rg, hg.ok⟩
 ·have h14 := (List.getElem?_eq_some_iff.1 hj).1;rw [grpC_len] at h14;have e : (cur.toList.take ((T.length + 1) * 14))[T.length * 14 + j]? = some u := by rw [show cur.toList.take ((T.length + 1) * 14) = gC (G :: T) from h.tk, gC, List.getElem?_append_right (by rw [gC_len]; omega), gC_len, Nat.add_sub_cancel_left];exact hj
  rw [List.getElem?_take, if_pos (by omega)] at e;simpa using e
 ·have := h.ap;simp only [vals, List.pairwise_cons, List.mem_cons] at this;exact this.1 G.iv (Or.inl rfl)
theorem below_of {b : Nat → Bool} {n : Nat} {w w' : World} (hc : Ch b w w') (hb : ∀ i, b i = true → n ≤ i) (h : n ≤ w.heap.size) : Below n w w' :=
 ⟨hc.os, hc.tape, hc.output, hc.size, fun k hk => hc.block k (by omega) (by
  cases e : b k with
  | false => rfl
  | true => have := hb k e; omega)⟩
theorem PaI.upd {zh H H' : Nat → Bool} {n : Nat} {w w' : World} {P q cap : Nat} {cur cur' : Array Value} {G G' : Gv} {T : List Gv} (h : PaI zh H n w P q cap cur (G :: T)) (s : Gs H n w q (T.length * 14) cur G H' w' cur' G') : PaI zh H' n w' P q cap cur' (G' :: T) ∧ Below n w w' := by
 have ht := h.top;have hg := h.g G (List.mem_cons_self ..);have hap := h.ap;simp only [vals, List.pairwise_cons, List.mem_cons] at hap;have hkP : G.kv.ownBlock ≠ some P := row_neP hg.k.r h.p;have hiP : G.iv.ownBlock ≠ some P := row_neP hg.i.r h.p;have htop : ∀ i, psw.top q G.kv G.iv i = true → H i = true := fun i e => top_own ht e
 have hsee : ∀ a v, (sees H w).cell? a = some v → (sees H' w').cell? a = some v := sees_ch s.ch (fun i _ e => htop i e) (fun i hi e => by
  cases e2 : H' i with
  | false => rfl
  | true =>
   rcases s.h2 i e2 with e3 | e3
   ·rw [e] at e3; cases e3
   ·omega)
 have hlen : (G' :: T).length = (G :: T).length := rfl;have hrow : ∀ {v : Value} {m : Nat} {xs : List Value}, w.ownsRow n 31 12 v m xs → v ∈ vals T → v.ownBlock ≠ some q → w'.ownsRow n 31 12 v m xs := fun {v} {m} {xs} hr hv hq => tkw.jJ hr fun b hb => s.ch.block b (World.ownsRow.lt hr b hb).2 (by
  simp only [psw.top, Bool.or_eq_false_iff, decide_eq_false_iff_not];exact ⟨⟨fun e => hq (by rw [hb, e]), fun e => hap.1 v (Or.inr hv) b e hb⟩, fun e => hap.2.1 v hv b e hb⟩)
 have hhid : ∀ {v : Value}, v ∈ vals T → ∀ b, v.ownBlock = some b → H b = true → H' b = true := fun {v} hv b hb e => s.h1 b e (fun e2 => hap.1 v (Or.inr hv) b e2 hb) (fun e2 => hap.2.1 v hv b e2 hb)
 refine ⟨⟨?_, s.i.c, by rw [s.z]; exact h.cz, h.cl, h.cm, ?_, fun A hA => ?_, ?_, s.h1 P h.hp hkP hiP, s.i.hg, s.i.ho, fun i e => ?_, h.nq, h.np, fun R hR => s.h1 R (h.hr R hR) (fun e => by have := (World.ownsRow.lt hg.k.r R e).1; omega) (fun e => by have := (World.ownsRow.lt hg.i.r R e).1; omega), s.i.n⟩, below_of s.ch (fun i e => by
  simp only [psw.top, Bool.or_eq_true, decide_eq_true_eq] at e;rcases e with (rfl | e) | e
  ·exact h.nq
  ·exact (World.ownsRow.lt hg.k.r i e).1
  ·exact (World.ownsRow.lt hg.i.r i e).1) h.n⟩
 ·rw [s.ch.block P (h.ho P h.hp) (by
   simp only [psw.top, Bool.or_eq_false_iff, decide_eq_false_iff_not];exact ⟨⟨h.pq, hkP⟩, hiP⟩)]
  exact h.p
 ·refine List.ext_getElem? fun j => ?_
  have h1 := congrArg (fun l => l[j]?) h.tk;simp only [gC, List.length_cons] at h1 ⊢;rw [List.getElem?_take] at h1 ⊢;by_cases hj : j < (T.length + 1) * 14
  ·rw [if_pos hj] at h1 ⊢;by_cases hj2 : j < T.length * 14
   ·rw [List.getElem?_append_left (by rw [gC_len]; exact hj2)] at h1 ⊢;rw [← h1];have := s.out j (Or.inl hj2);simpa using this
   ·rw [List.getElem?_append_right (by rw [gC_len]; omega), gC_len];have h14 : (grpC G')[j - T.length * 14]? = some ((grpC G')[j - T.length * 14]'(by rw [grpC_len]; omega)) := List.getElem?_eq_getElem _;have := s.i.l _ _ h14;rw [show T.length * 14 + (j - T.length * 14) = j by omega] at this;rw [h14];simpa using this
  ·rw [if_neg hj, List.getElem?_eq_none (by rw [List.length_append, gC_len, grpC_len]; omega)]
 ·rcases List.mem_cons.1 hA with rfl | hA
  ·exact ⟨s.i.k, s.i.i, s.i.kg, s.i.ig, s.i.rg, s.i.ok⟩
  ·have ha := h.g A (List.mem_cons_of_mem _ hA);have hv := vals_mem hA;exact ⟨⟨hrow ha.k.r hv.1 ha.kg, ha.k.z, vw hsee ha.k.s, fun b e => hhid hv.1 b e (ha.k.h b e)⟩, ⟨hrow ha.i.r hv.2 ha.ig, ha.i.z, vw hsee ha.i.s, fun b e => hhid hv.2 b e (ha.i.h b e)⟩, ha.kg, ha.ig, rgAt_mono hsee ha.rg, ha.ok⟩
 ·simp only [vals, List.pairwise_cons, List.mem_cons];have hold : ∀ u ∈ vals T, ∀ b, u.ownBlock = some b → b < w.heap.size := fun u hu b hb => by
   obtain ⟨A, hA, e⟩ := mem_vals hu;have ha := h.g A (List.mem_cons_of_mem _ hA);rcases e with rfl | rfl
   ·exact (World.ownsRow.lt ha.k.r b hb).2
   ·exact (World.ownsRow.lt ha.i.r b hb).2
  refine ⟨fun u hu => ?_, fun u hu b hb e => ?_, hap.2.2⟩
  ·rcases hu with rfl | hu
   ·exact s.i.d
   ·intro b hb e;rcases s.kb b hb with e2 | e2
    ·exact hap.1 u (Or.inr hu) b e2 e
    ·have := hold u hu b e;omega
  ·rcases s.ib b hb with e2 | e2
   ·exact hap.2.1 u hu b e2 e
   ·have := hold u hu b e;omega
 ·rcases s.h2 i e with e2 | e2
  ·exact h.hn i e2
  ·have := h.n;exact Or.inl (by omega)
theorem PaI.below {zh H : Nat → Bool} {n : Nat} {w w' : World} {P q cap : Nat} {cur : Array Value} {T : List Gv} (h : PaI zh H n w P q cap cur T) (hb : Below w.heap.size w w') : PaI zh H n w' P q cap cur T := by
 have hs : ∀ a v, (sees H w).cell? a = some v → (sees H w').cell? a = some v := qU fun _ _ e hc => ⟨e, trw.qf hb hc⟩
 exact ⟨(hb.block P (h.ho P h.hp)).trans h.p, (hb.block q (h.ho q h.hq)).trans h.c, h.cz, h.cl, h.cm, h.tk, fun A hA => by have ha := h.g A hA;exact ⟨⟨tkw.jJ ha.k.r fun b hb2 => hb.block b (World.ownsRow.lt ha.k.r b hb2).2, ha.k.z, vw hs ha.k.s, ha.k.h⟩, ⟨tkw.jJ ha.i.r fun b hb2 => hb.block b (World.ownsRow.lt ha.i.r b hb2).2, ha.i.z, vw hs ha.i.s, ha.i.h⟩, ha.kg, ha.ig, rgAt_mono hs ha.rg, ha.ok⟩, h.ap, h.hp, h.hq, fun i e => Nat.lt_of_lt_of_le (h.ho i e) hb.size, h.hn, h.nq, h.np, h.hr, Nat.le_trans h.n hb.size⟩
theorem PaI.pop {zh H : Nat → Bool} {n : Nat} {w : World} {P q cap : Nat} {cur : Array Value} {G : Gv} {T : List Gv} (h : PaI zh H n w P q cap cur (G :: T)) : PaI zh (hm H G.kv) n (w.setCell ⟨P, 0, none⟩ (.slice (some ⟨q, 0, none⟩) T.length cap)) P q cap cur T ∧ Below n w (w.setCell ⟨P, 0, none⟩ (.slice (some ⟨q, 0, none⟩) T.length cap)) := by
 have hg := h.g G (List.mem_cons_self ..);have hap := h.ap;simp only [vals, List.pairwise_cons, List.mem_cons] at hap;have hkP : G.kv.ownBlock ≠ some P := row_neP hg.k.r h.p;have hsz : (w.setCell ⟨P, 0, none⟩ (.slice (some ⟨q, 0, none⟩) T.length cap)).heap.size = w.heap.size := World.size_setCell ..;have hoth : ∀ b, b ≠ P → (w.setCell ⟨P, 0, none⟩ (.slice (some ⟨q, 0, none⟩) T.length cap)).heap[b]? = w.heap[b]? := fun b hb => rpw.qx 0 _ hb
 have hs : ∀ a v, (sees H w).cell? a = some v → (sees (hm H G.kv) (w.setCell ⟨P, 0, none⟩ (.slice (some ⟨q, 0, none⟩) T.length cap))).cell? a = some v := qU fun a v e hc => ⟨by simp [hm, e], (World.cell?_of_block (hoth a.block (fun e2 => by rw [e2, h.hp] at e; cases e))).trans hc⟩
 have hcl : T.length + 1 ≤ cap := h.cl;refine ⟨⟨?_, (hoth q h.pq.symm).trans h.c, h.cz, by omega, h.cm, ?_, fun A hA => ?_, hap.2.2, by simp [hm, h.hp, hkP], by simp [hm, h.hq, hg.kg], fun i e => ?_, fun i e => ?_, h.nq, h.np, fun R hR => by
  have e : G.kv.ownBlock ≠ some R := fun e => by have := (World.ownsRow.lt hg.k.r R e).1; omega
  simp [hm, h.hr R hR, e], by rw [hsz]; exact h.n⟩, ?_⟩
 ·exact tkw.heap_set (o := 0) (v := .slice (some ⟨q, 0, none⟩) T.length cap) h.p
 ·have e := congrArg (List.take (T.length * 14)) h.tk;rw [List.take_take, show min (T.length * 14) ((G :: T).length * 14) = T.length * 14 by simp only [List.length_cons]; omega] at e;rw [e, gC, ← gC_len T, List.take_left]
 ·have ha := h.g A (List.mem_cons_of_mem _ hA);have hv := vals_mem hA;have hP1 : A.kv.ownBlock ≠ some P := row_neP ha.k.r h.p;have hP2 : A.iv.ownBlock ≠ some P := row_neP ha.i.r h.p;refine ⟨⟨tkw.jJ ha.k.r fun b hb => hoth b (fun e => hP1 (by rw [hb, e])), ha.k.z, vw hs ha.k.s, fun b e => ?_⟩, ⟨tkw.jJ ha.i.r fun b hb => hoth b (fun e => hP2 (by rw [hb, e])), ha.i.z, vw hs ha.i.s, fun b e => ?_⟩, ha.kg, ha.ig, rgAt_mono hs ha.rg, ha.ok⟩
  ·have : G.kv.ownBlock ≠ some b := fun e2 => hap.1 A.kv (Or.inr hv.1) b e2 e
   simp [hm, ha.k.h b e, this]
  ·have : G.kv.ownBlock ≠ some b := fun e2 => hap.1 A.iv (Or.inr hv.2) b e2 e
   simp [hm, ha.i.h b e, this]
 ·simp only [hm, Bool.and_eq_true] at e;rw [hsz];exact h.ho i e.1
 ·simp only [hm, Bool.and_eq_true] at e;exact h.hn i e.1
 ·exact ⟨rfl, rfl, rfl, by rw [hsz]; exact Nat.le_refl _, fun k hk => hoth k (fun e => by have := h.np; omega)⟩
theorem PaI.push {zh H : Nat → Bool} {n : Nat} {w w' : World} {P q cap q' cap' : Nat} {cur cur' : Array Value} {T : List Gv} {t : Tk} {sv : Value} (h : PaI zh H n w P q cap cur T) (hg : w.grownBy w' (some q)) (hc : w'.heap[q']? = some (.cells cur' 59 (0, 0))) (hz : cur'.size = cap' * 14) (hl : T.length + 1 ≤ cap') (hm' : cap' ≤ maxLen)
 (ht : cur'.toList.take ((T.length + 1) * 14) = gC T ++ grpC ⟨t, sv, nil3, .nil, nil3, .nil⟩) (hq : q' = q ∨ w.heap.size ≤ q') (hrg : RgAt (sees H w) sv t.set) (hok : TkO t) : PaI zh (h1 H q') n (w'.setCell ⟨P, 0, none⟩ (.slice (some ⟨q', 0, none⟩) (T.length + 1) cap')) P q' cap' cur' (⟨t, sv, nil3, .nil, nil3, .nil⟩ :: T) ∧ Below n w (w'.setCell ⟨P, 0, none⟩ (.slice (some ⟨q', 0, none⟩) (T.length + 1) cap')) := by
 have hPl := h.ho P h.hp;have hpq' : P ≠ q' := fun e => by
  rcases hq with e2 | e2
  ·exact h.pq (by omega)
  ·omega
 have hnq : n ≤ q' := by
  rcases hq with e2 | e2
  ·rw [e2]; exact h.nq
  ·have := h.n; omega
 have hql : q' < w'.heap.size := (Array.getElem?_eq_some_iff.1 hc).1;have hp' : w'.heap[P]? = some (.cells #[.slice (some ⟨q, 0, none⟩) T.length cap] 62 (0, 0)) := (hg.block P hPl (fun e => h.pq (Option.some.inj e))).trans h.p;obtain ⟨w3, hw3⟩ : ∃ w3, w'.setCell ⟨P, 0, none⟩ (.slice (some ⟨q', 0, none⟩) (T.length + 1) cap') = w3 := ⟨_, rfl⟩;have hsz : w3.heap.size = w'.heap.size := by rw [← hw3]; exact World.size_setCell ..
 have hoth : ∀ b, b ≠ P → w3.heap[b]? = w'.heap[b]? := fun b hb => by rw [← hw3]; exact rpw.qx 0 _ hb
 have hold : ∀ b, b < w.heap.size → b ≠ P → b ≠ q → w3.heap[b]? = w.heap[b]? := fun b hb e1 e2 => (hoth b e1).trans (hg.block b hb (fun e => e2 (Option.some.inj e)))
 have hsee : ∀ a v, (sees H w).cell? a = some v → (sees (h1 H q') w3).cell? a = some v := qU fun a v e hcc => by
  have hl := cell_lt hcc;have e1 : a.block ≠ P := fun e2 => by rw [e2, h.hp] at e; cases e
  have e2 : a.block ≠ q := fun e2 => by rw [e2, h.hq] at e; cases e
  refine ⟨?_, (World.cell?_of_block (hold a.block hl e1 e2)).trans hcc⟩;simp only [h1, e, Bool.false_or, decide_eq_false_iff_not];intro e3;rcases hq with e4 | e4
  ·exact e2 (by omega)
  ·omega
 have hnew : Nr (h1 H q') n w3 nil3 .nil := nr_nil _ _ _;rw [hw3];refine ⟨⟨?_, (hoth q' hpq'.symm).trans hc, hz, hl, hm', ht, fun A hA => ?_, ?_, by simp [h1, h.hp], by simp [h1], fun i e => ?_, fun i e => ?_, hnq, h.np, fun R hR => by simp [h1, h.hr R hR], ?_⟩, ?_⟩
 ·rw [← hw3];exact tkw.heap_set (o := 0) (v := .slice (some ⟨q', 0, none⟩) (T.length + 1) cap') hp'
 ·rcases List.mem_cons.1 hA with rfl | hA
  ·exact ⟨hnew, hnew, fun e => (by cases e), fun e => (by cases e), rgAt_mono hsee hrg, hok⟩
  ·have ha := h.g A hA;have hP1 : A.kv.ownBlock ≠ some P := row_neP ha.k.r h.p;have hP2 : A.iv.ownBlock ≠ some P := row_neP ha.i.r h.p;have hne : ∀ {v : Value} {m : Nat} {xs : List Value}, w.ownsRow n 31 12 v m xs → v.ownBlock ≠ some q → v.ownBlock ≠ some q' := fun {v} {m} {xs} hr h1 e => by
    rcases hq with e4 | e4
    ·exact h1 (by rw [e, e4])
    ·have := (World.ownsRow.lt hr q' e).2;omega
   exact ⟨⟨tkw.jJ ha.k.r fun b hb => hold b (World.ownsRow.lt ha.k.r b hb).2 (fun e => hP1 (by rw [hb, e])) (fun e => ha.kg (by rw [hb, e])), ha.k.z, vw hsee ha.k.s, fun b e => by simp [h1, ha.k.h b e]⟩, ⟨tkw.jJ ha.i.r fun b hb => hold b (World.ownsRow.lt ha.i.r b hb).2 (fun e => hP2 (by rw [hb, e])) (fun e => ha.ig (by rw [hb, e])), ha.i.z, vw hsee ha.i.s, fun b e => by simp [h1, ha.i.h b e]⟩, hne ha.k.r ha.kg, hne ha.i.r ha.ig, rgAt_mono hsee ha.rg, ha.ok⟩
 ·simp only [vals, List.pairwise_cons];exact ⟨fun _ _ b e => (by cases e), fun _ _ b e => (by cases e), h.ap⟩
 ·simp only [h1, Bool.or_eq_true, decide_eq_true_eq] at e;rw [hsz];rcases e with e | e
  ·have := h.ho i e;have := hg.size;omega
  ·omega
 ·simp only [h1, Bool.or_eq_true, decide_eq_true_eq] at e;rcases e with e | e
  ·exact h.hn i e
  ·exact Or.inl (by omega)
 ·rw [hsz];exact Nat.le_trans h.n hg.size
 ·rw [← hw3];refine ⟨hg.os, hg.tape, hg.output, by rw [World.size_setCell]; exact hg.size, fun k hk => ?_⟩;have hnP := h.np;have hnQ := h.nq;rw [hw3];exact hold k (by have := h.n; omega) (by omega) (by omega)
theorem many_eq {g : psp.G} (h1 : 1 ≤ g.t.n) (h13 : g.t.n ≤ 13) {x : Lab} {fk : F} (hx : strip (F.one x fk) = nodeG g) (hk : x.kind = gK g.t.n.toNat) (hn : x.n = if x.kind = 18 ∨ x.kind = 19 then g.t.n else 0) : manyG g = (decide (x.kind = 19) && decide (mostK x.n < (fk.len : Int))) := by
 have hc : g.t.n = 1 ∨ g.t.n = 2 ∨ g.t.n = 3 ∨ g.t.n = 4 ∨ g.t.n = 5 ∨ g.t.n = 6 ∨ g.t.n = 7 ∨ g.t.n = 8 ∨ g.t.n = 9 ∨ g.t.n = 10 ∨ g.t.n = 11 ∨ g.t.n = 12 ∨ g.t.n = 13 := by omega
 have key : x.kind = 19 → fk.len = (endG g).kf.len := fun e => by
  have h9 : ¬ (g.t.n ≤ 8) := fun e2 => by rcases hc with q | q | q | q | q | q | q | q | q | q | q | q | q <;> (rw [hk, q] at e; simp [gK] at e) <;> omega
  have e3 : nodeG g = F.one { lab 19 g.t.at_ with n := g.t.n, m := g.t.m, mode := g.t.mode, name := g.t.name } (endG g).kf := by unfold nodeG jf;rw [if_neg (by omega), if_neg (by omega), if_neg (by omega), if_neg (by omega), if_neg (by omega)];rfl
  rw [e3] at hx;have : strip fk = (endG g).kf := by simp only [F.one, strip, F.cons.injEq] at hx;exact hx.2.1
  rw [← this, jm]
 rcases hc with q | q | q | q | q | q | q | q | q | q | q | q | q
 all_goals
  have ek : x.kind = gK (g.t.n.toNat) := hk;rw [q] at ek hn;simp [gK] at ek;by_cases e19 : x.kind = 19
  ·first | (exfalso; omega) | (have hl := key e19; rw [hl]; rw [e19] at hn; simp at hn; rw [hn, e19]; unfold manyG condT mostK; simp [q] <;> omega)
  ·have hne : decide (x.kind = 19) = false := decide_eq_false e19;rw [hne];unfold manyG condT;first | (exfalso; omega) | simp [q]
end Go.Proofs.YtnpcombfgdbhkaaDoor.psw
end
section
namespace Go.Proofs.YtnpcombfgdbhkaaDoor.psw
open sq
open Go.Sort Go Go.RowKit Go.Maps tkp trp trw rpp psp
open tkw (qO)
open rpw (sees jB qU fC jP FSub vw jQ app_sub jH jm jd qp vW oneR zk jV lab_ok rg_nil qh qA jU)
def closeR (t : Tk) : List psp.G → E2 (List psp.G)
 | [] => .ok []
 | g :: T => (match T with
  | [] => .error (31, t.at_)
  | q :: U => if manyG g = true then .error (32, g.t.at_) else .ok (putG q (nodeG g) :: U))
def StB (zh : Nat → Bool) (n P : Nat) (r : E2 (List psp.G)) (w : World) (e : Ending) (w' : World) : Prop := Below n w w' ∧ match r with
 | .error x => e = .returned (.tuple #[.int .i64 x.1, .int .i64 x.2])
 | .ok U => e = .returned (.tuple #[.int .i64 0, .int .i64 0]) ∧ ∃ H' q' cap' cur' T', PaI zh H' n w' P q' cap' cur' T' ∧ T'.map Gv.g = U
theorem stB_er {zh : Nat → Bool} {n P : Nat} {w w' : World} {a b : Int} (hb : Below n w w') : StB zh n P (.error (a, b)) w (.returned (.tuple #[.int .i64 a, .int .i64 b])) w' := ⟨hb, rfl⟩
theorem stB_ok {n P q cap : Nat} {w w' : World} {zh H : Nat → Bool} {cur : Array Value} {T : List Gv} {U : List psp.G} (hb : Below n w w') (h : PaI zh H n w' P q cap cur T) (e : T.map Gv.g = U) : StB zh n P (.ok U) w (.returned (.tuple #[.int .i64 0, .int .i64 0])) w' := ⟨hb, rfl, H, q, cap, cur, T, h, e⟩
theorem dn_below (w : World) (k : Nat) : Below w.heap.size w (w.drewN k) := tkw.zI (Below.refl _ _) k
theorem close_err {n P q cap : Nat} {zh H : Nat → Bool} {w : World} {cur : Array Value} {G : Gv} (tsv : Value) (t : Tk) (h : PaI zh H n w P q cap cur [G]) : Calls Tryd.prog 42 #[.pointer (some ⟨P, 0, none⟩), .agg (tA tsv t)] w (StB zh n P (.error (31, t.at_)) w) := by
 have HB1 := xH (qg w (.cells (tA tsv t) 53));have HR1 := xH (heap_alloc_new w (.cells (tA tsv t) 53));have HN := xH h.n;have cP : (w.alloc (.cells (tA tsv t) 53)).cell? ⟨P, 0, none⟩ = some (.slice (some ⟨q, 0, none⟩) 1 cap) := (h.below HB1.out).cell.1;have t1 : (w.alloc (.cells (tA tsv t) 53)).cell? ⟨w.heap.size, 1, none⟩ = some (.int .i64 (t.at_ : Int)) := tk_cells HR1.out rfl;clear h HR1;unfold tA at HB1 cP t1 ⊢;go_enter Tryd.func42, Tryd.ntmps42;go_wp2_with fail
 go_quiet (fail)
 go_wp2_with fail
 refine bodyPost_ret (results_tmp2 rfl _ _ _) rfl ?_;exact stB_er ((HB1.out.mono HN.out).trans ((dn_below _ _).mono (Nat.le_trans HN.out HB1.out.size)))
theorem close_any {n P q cap : Nat} {zh H : Nat → Bool} {w : World} {cur : Array Value} {G A : Gv} {U : List Gv} (tsv : Value) (t : Tk) (h : PaI zh H n w P q cap cur (G :: A :: U)) (hT : TabP w) (hU : U.length ≤ 100) (hl : ∀ B ∈ G :: A :: U, B.kf.len ≤ 60000 ∧ B.jf.len ≤ 60000) (h10 : G.t.kind = 10) (hn1 : 1 ≤ G.t.n) (hn13 : G.t.n ≤ 13) :
 Calls Tryd.prog 42 #[.pointer (some ⟨P, 0, none⟩), .agg (tA tsv t)] w (StB zh n P (closeR t ((G :: A :: U).map Gv.g)) w) := by
 obtain ⟨R, hR⟩ : ∃ R, closeR t ((G :: A :: U).map Gv.g) = R := ⟨_, rfl⟩;rw [hR];have HR0 := xH (hR.symm.trans (show _ = (if manyG G.g = true then .error (32, (G.t.at_ : Int)) else .ok (putG A.g (nodeG G.g) :: U.map Gv.g) : E2 (List psp.G)) from rfl));clear hR;have HL := xH hl;have H10 := xH (And.intro h10 (And.intro hn1 hn13));have HN := xH h.n;have HB1 := xH (qg w (.cells (tA tsv t) 53));have HI1 := xH (h.below HB1.out);have HT1 := xH (tabP_below HB1.out hT);have cP : (w.alloc (.cells (tA tsv t) 53)).cell? ⟨P, 0, none⟩ = some (.slice (some ⟨q, 0, none⟩) (U.length + 2) cap) := HI1.out.cell.1;have b0 : ((U.length : Int) + 1 == 0) = false := by simp; omega
 have hu2 : ((U.length + 2 : Nat) : Int) - 1 = (U.length : Int) + 1 := by omega
 clear h hT hl h10 hn1 hn13;unfold tA at HB1 HI1 HT1 cP ⊢;go_enter Tryd.func42, Tryd.ntmps42;go_wp2_with fail
 refine (last_any (m := U.length + 1) _ (by omega) cP).mono ?_;rintro e w2 ⟨rfl, hb2⟩;have HI2 := xH (HI1.out.below hb2);have HT2 := xH (tabP_below hb2 HT1.out);have HBW := xH ((HB1.out.mono HN.out).trans (hb2.mono (Nat.le_trans HN.out HB1.out.size)));clear HI1 HT1 HB1 hb2 cP;dsimp only;go_wp2_with fail
 refine (node_any (o := (U.length + 1) * 14) HI2.out.top (HL.out G (List.mem_cons_self ..)).1 HT2.out H10.out.1 H10.out.2.1 H10.out.2.2).mono ?_;rintro e w3 ⟨r, H', C', G', rfl, hs, x, fk, rfl, hnd, hst, hg, hxn, hxk, hxa⟩;obtain ⟨hi3, hb3⟩ := HI2.out.upd hs;have HI3 := xH hi3;have HB3 := xH (HBW.out.trans hb3);have HST := xH hst;have HMN := xH (many_eq H10.out.2.1 H10.out.2.2 hst hxk hxn);have HXA := xH hxa;have H1 := xH (qp hnd);have HND := xH hnd;obtain ⟨xa, xc, hkv, _⟩ := id hnd.2.2;simp only at hkv;have HKV := xH hkv;clear hs hi3 hb3 hst hg hxn hxk hxa hnd hkv HI2 HBW HT2;have HB4 := xH (jU w3 zC.toArray (ndC x).toArray 31);have HGA := xH (heap_alloc_new w3 (.cells zC.toArray 31));have HV4 := xH (setRow_heap _ _ _ (ndC x).toArray _ _ HGA.out);have HI4 := xH (HI3.out.below HB4.out);have HN4 := xH (qY (qU fun _ _ e hc => ⟨e, trw.qf HB4.out hc⟩) HND.out);have HBB := xH (HB3.out.trans (HB4.out.mono HI3.out.n));have HVH := xH (show H' w3.heap.size = false from by
  cases e : H' w3.heap.size with
  | false => rfl
  | true => have := HI3.out.ho _ e; omega)
 unfold zC at HGA HV4 HI4 HN4 HBB;dsimp only;go_upto_region 5 with (refine qh rfl rfl _ _ rfl w3.heap.size rfl _ x HGA.out rfl H1.out rfl ?_)
 clear HGA HB4 HND HB3 HI3;generalize (w3.alloc _).setRow w3.heap.size _ = w4 at *;obtain ⟨V, hV⟩ : ∃ V, w3.heap.size = V := ⟨_, rfl⟩;rw [hV] at HV4 HVH ⊢;clear hV;have e0 : w4.cell? ⟨V, 0, none⟩ = some (.int .i64 x.kind) := ndc_at HV4.out rfl;have e1 : w4.cell? ⟨V, 1, none⟩ = some (.int .i64 x.at_) := ndc_at HV4.out rfl;have e5 : w4.cell? ⟨V, 5, none⟩ = some (.int .i64 x.n) := ndc_at HV4.out rfl;have e11 : w4.cell? ⟨V, 11, none⟩ = some (.slice xa fk.len xc) := ndc_at HV4.out (by rw [← HKV.out]; rfl);by_cases hk19 : x.kind = 19
 ·by_cases hmk : mostK x.n < (fk.len : Int)
  ·have HRR := xH (HR0.out.trans (if_pos (by rw [HMN.out, hk19]; simp [hmk])));have HM := xH (fun W => most_any x.n W);have dm : decide (mostK x.n < (fk.len : Int)) = true := by simpa using hmk
   have b19 : (x.kind == 19) = true := by simp [hk19]
   clear HR0 HMN hk19 hmk;generalize mostK x.n = mk at *;go_wp2_with fail
   go_quiet ((go_at_call 71; exact Calls.quiet_of_same (HM.out _)))
   go_wp2_with fail
   go_quiet (fail)
   go_wp2_with fail
   refine bodyPost_ret (results_tmp2 rfl _ _ _) rfl ?_;rw [HRR.out, show (G.t.at_ : Int) = x.at_ from HXA.out.symm];exact stB_er (HBB.out.trans ((qi (dn_below _ _) (dn_below _ _)).mono HI4.out.n))
  ·have HRR := xH (HR0.out.trans (if_neg (by rw [HMN.out]; simp [hmk])));have HM := xH (fun W => most_any x.n W);have dm : decide (mostK x.n < (fk.len : Int)) = false := by simpa using hmk
   have b19 : (x.kind == 19) = true := by simp [hk19]
   clear HR0 HMN hk19 hmk;generalize mostK x.n = mk at *;go_wp2_with fail
   go_quiet ((go_at_call 71; exact Calls.quiet_of_same (HM.out _)))
   rename_i nq;have HI5 := xH (HI4.out.below (dn_below w4 nq));have HV5 := xH (show (w4.drewN nq).heap[V]? = some (.cells (ndC x).toArray 31 (0, 0)) from HV4.out);have HN5 := xH (qY (qU fun _ _ e hc => ⟨e, trw.qf (dn_below w4 nq) hc⟩) HN4.out);have HB5 := xH (HBB.out.trans ((dn_below w4 nq).mono HI4.out.n));generalize w4.drewN nq = w5 at *;clear HI4 HV4 HN4 HBB e0 e1 e5 e11;have HPP := xH HI5.out.pop;have cP : w5.cell? ⟨P, 0, none⟩ = some (.slice (some ⟨q, 0, none⟩) (U.length + 2) cap) := HI5.out.cell.1;have fP : w5.frozen? ⟨P, 0, none⟩ = false := HI5.out.cell.2;have hcap := HI5.out.cl;have hcl : (U.length : Int) + 1 ≤ (cap : Int) := by simp only [List.length_cons] at hcap; omega
   have hcl0 : (0 : Int) ≤ (U.length : Int) + 1 := by omega
   have HVP := xH (show V ≠ P from fun e => by have := HI5.out.p;rw [← e, HV5.out] at this;simp only [Option.some.injEq, Obj.cells.injEq] at this;exact absurd this.2.1 (by decide))
   clear hcap;go_upto_region 8 with (fail)
   clear cP fP;have HV6 := xH ((rpw.qx 0 (.slice (some ⟨q, 0, none⟩) (U.length + 1) cap) HVP.out).trans HV5.out);have HI6 := xH (show PaI zh _ n (w5.setCell ⟨P, 0, none⟩ (.slice (some ⟨q, 0, none⟩) (U.length + 1) cap)) P q cap C' (A :: U) from HPP.out.1);have HB6 := xH (HB5.out.trans (show Below n w5 (w5.setCell ⟨P, 0, none⟩ (.slice (some ⟨q, 0, none⟩) (U.length + 1) cap)) from HPP.out.2));have HN6 := xH (show NdAt (sees (hm H' G'.kv) (w5.setCell ⟨P, 0, none⟩ (.slice (some ⟨q, 0, none⟩) (U.length + 1) cap))) (x, fk) from qY (qU fun a u e hc => ⟨e, (World.cell?_of_block (rpw.qx 0 _ (fun e2 => by rw [e2, HI6.out.hp] at e; cases e))).trans hc⟩) HN5.out);clear HPP HN5 HV5 HI5 HB5 HVP;generalize w5.setCell ⟨P, 0, none⟩ (.slice (some ⟨q, 0, none⟩) (U.length + 1) cap) = w6 at *;go_wp2_with fail
   refine wp_region_held_drew (S := fun w' => w'.heap[V]? = some (.cells (ndC x).toArray 31 (0, 0))) (by kernel_rfl) HV6.out (fun hHeld => ?_);have hbd := trw.qL w6;have HI7 := xH (HI6.out.below hbd);have HB7 := xH (HB6.out.trans (hbd.mono HI6.out.n));have HN7 := xH (qY (qU fun _ _ e hc => ⟨e, trw.qf hbd hc⟩) HN6.out);clear hbd HI6 HB6 HN6 HV6;generalize hwd : w6.drew = wd at *;clear hwd;refine xT 0 rfl ?_ ?_ ?_;rotate_left
   ·intro w' hSw;go_simp;try rfl
   simp only [xS];refine xT 2 rfl ?_ ?_ ?_;rotate_left
   ·intro w' hSw;refine jT (x := .tmp 7) (b := V) (off := 0) (l := x) ?_ ?_ (fun j v hj => by rw [cell_of_row _ _ _ _ _ _ hSw, Nat.zero_add]; simpa using hj) <;> rfl
   simp only [xS];refine xD 1 rfl (fun K hK => ?_);go_simp;refine (last_any (m := U.length) _ (by omega) HI7.out.cell.1).mono ?_;rintro e w8 ⟨rfl, hb8⟩;have HI8 := xH (HI7.out.below hb8);have HB8 := xH (HB7.out.trans (hb8.mono HI7.out.n));have HN8 := xH (qY (qU fun _ _ e hc => ⟨e, trw.qf hb8 hc⟩) HN7.out);refine hK.out _ _ ((hb8.block V (Array.getElem?_eq_some_iff.1 hHeld).1).trans hHeld) (fun hHeld => ?_);clear hK K;try simp only [xS]
   clear hb8 HI7 HB7 HN7;refine xD 3 rfl (fun K hK => ?_);go_simp;refine (put_any (o := U.length * 14) x fk HI8.out.top HN8.out (HL.out A (by simp)).1 (HL.out A (by simp)).2).mono ?_;rintro e w9 ⟨r9, H9, C9, G9, rfl, hs9, rfl, hg9⟩;obtain ⟨hi9, hb9⟩ := HI8.out.upd hs9;have HI9 := xH hi9;have HB9 := xH (HB8.out.trans hb9);have HG9 := xH hg9;have hv9 := hs9.ch.block V (Array.getElem?_eq_some_iff.1 hHeld).1 (by
    cases e : psw.top q A.kv A.iv V with
    | false => rfl
    | true =>
     have e2 := top_own HI8.out.top e;simp only [hm, HVH.out, Bool.false_and] at e2;cases e2)
   refine hK.out _ _ (hv9.trans hHeld) (fun hHeld => ?_);clear hK K;try simp only [xS]
   clear hs9 hi9 hb9 hg9 hv9;refine wpAnyH_done (by kernel_rfl) ?_ _;go_wp2_with fail
   refine bodyPost_ret (results_tmp2 rfl _ _ _) rfl ?_;rw [HRR.out];refine stB_ok HB9.out HI9.out ?_;show G9.g :: U.map Gv.g = _;rw [HG9.out, HST.out]
 ·have HRR := xH (HR0.out.trans (if_neg (by rw [HMN.out]; simp [hk19])));have b19 : (x.kind == 19) = false := by simp [hk19]
  clear HR0 HMN hk19;go_wp2_with fail
  go_quiet (fail)
  rename_i nq;have HI5 := xH (HI4.out.below (dn_below w4 nq));have HV5 := xH (show (w4.drewN nq).heap[V]? = some (.cells (ndC x).toArray 31 (0, 0)) from HV4.out);have HN5 := xH (qY (qU fun _ _ e hc => ⟨e, trw.qf (dn_below w4 nq) hc⟩) HN4.out);have HB5 := xH (HBB.out.trans ((dn_below w4 nq).mono HI4.out.n));generalize w4.drewN nq = w5 at *;clear HI4 HV4 HN4 HBB e0 e1 e5 e11;have HPP := xH HI5.out.pop;have cP : w5.cell? ⟨P, 0, none⟩ = some (.slice (some ⟨q, 0, none⟩) (U.length + 2) cap) := HI5.out.cell.1;have fP : w5.frozen? ⟨P, 0, none⟩ = false := HI5.out.cell.2;have hcap := HI5.out.cl;have hcl : (U.length : Int) + 1 ≤ (cap : Int) := by simp only [List.length_cons] at hcap; omega
  have hcl0 : (0 : Int) ≤ (U.length : Int) + 1 := by omega
  have HVP := xH (show V ≠ P from fun e => by have := HI5.out.p;rw [← e, HV5.out] at this;simp only [Option.some.injEq, Obj.cells.injEq] at this;exact absurd this.2.1 (by decide))
  clear hcap;go_upto_region 8 with (fail)
  clear cP fP;have HV6 := xH ((rpw.qx 0 (.slice (some ⟨q, 0, none⟩) (U.length + 1) cap) HVP.out).trans HV5.out);have HI6 := xH (show PaI zh _ n (w5.setCell ⟨P, 0, none⟩ (.slice (some ⟨q, 0, none⟩) (U.length + 1) cap)) P q cap C' (A :: U) from HPP.out.1);have HB6 := xH (HB5.out.trans (show Below n w5 (w5.setCell ⟨P, 0, none⟩ (.slice (some ⟨q, 0, none⟩) (U.length + 1) cap)) from HPP.out.2));have HN6 := xH (show NdAt (sees (hm H' G'.kv) (w5.setCell ⟨P, 0, none⟩ (.slice (some ⟨q, 0, none⟩) (U.length + 1) cap))) (x, fk) from qY (qU fun a u e hc => ⟨e, (World.cell?_of_block (rpw.qx 0 _ (fun e2 => by rw [e2, HI6.out.hp] at e; cases e))).trans hc⟩) HN5.out);clear HPP HN5 HV5 HI5 HB5 HVP;generalize w5.setCell ⟨P, 0, none⟩ (.slice (some ⟨q, 0, none⟩) (U.length + 1) cap) = w6 at *;go_wp2_with fail
  refine wp_region_held_drew (S := fun w' => w'.heap[V]? = some (.cells (ndC x).toArray 31 (0, 0))) (by kernel_rfl) HV6.out (fun hHeld => ?_);have hbd := trw.qL w6;have HI7 := xH (HI6.out.below hbd);have HB7 := xH (HB6.out.trans (hbd.mono HI6.out.n));have HN7 := xH (qY (qU fun _ _ e hc => ⟨e, trw.qf hbd hc⟩) HN6.out);clear hbd HI6 HB6 HN6 HV6;generalize hwd : w6.drew = wd at *;clear hwd;refine xT 0 rfl ?_ ?_ ?_;rotate_left
  ·intro w' hSw;go_simp;try rfl
  simp only [xS];refine xT 2 rfl ?_ ?_ ?_;rotate_left
  ·intro w' hSw;refine jT (x := .tmp 7) (b := V) (off := 0) (l := x) ?_ ?_ (fun j v hj => by rw [cell_of_row _ _ _ _ _ _ hSw, Nat.zero_add]; simpa using hj) <;> rfl
  simp only [xS];refine xD 1 rfl (fun K hK => ?_);go_simp;refine (last_any (m := U.length) _ (by omega) HI7.out.cell.1).mono ?_;rintro e w8 ⟨rfl, hb8⟩;have HI8 := xH (HI7.out.below hb8);have HB8 := xH (HB7.out.trans (hb8.mono HI7.out.n));have HN8 := xH (qY (qU fun _ _ e hc => ⟨e, trw.qf hb8 hc⟩) HN7.out);refine hK.out _ _ ((hb8.block V (Array.getElem?_eq_some_iff.1 hHeld).1).trans hHeld) (fun hHeld => ?_);clear hK K;try simp only [xS]
  clear hb8 HI7 HB7 HN7;refine xD 3 rfl (fun K hK => ?_);go_simp;refine (put_any (o := U.length * 14) x fk HI8.out.top HN8.out (HL.out A (by simp)).1 (HL.out A (by simp)).2).mono ?_;rintro e w9 ⟨r9, H9, C9, G9, rfl, hs9, rfl, hg9⟩;obtain ⟨hi9, hb9⟩ := HI8.out.upd hs9;have HI9 := xH hi9;have HB9 := xH (HB8.out.trans hb9);have HG9 := xH hg9;have hv9 := hs9.ch.block V (Array.getElem?_eq_some_iff.1 hHeld).1 (by
   cases e : psw.top q A.kv A.iv V with
   | false => rfl
   | true =>
    have e2 := top_own HI8.out.top e;simp only [hm, HVH.out, Bool.false_and] at e2;cases e2)
  refine hK.out _ _ (hv9.trans hHeld) (fun hHeld => ?_);clear hK K;try simp only [xS]
  clear hs9 hi9 hb9 hg9 hv9;refine wpAnyH_done (by kernel_rfl) ?_ _;go_wp2_with fail
  refine bodyPost_ret (results_tmp2 rfl _ _ _) rfl ?_;rw [HRR.out];refine stB_ok HB9.out HI9.out ?_;show G9.g :: U.map Gv.g = _;rw [HG9.out, HST.out]
end Go.Proofs.YtnpcombfgdbhkaaDoor.psw
end
section
namespace Go.Proofs.YtnpcombfgdbhkaaDoor.psw
open sq
open Go.Sort Go Go.RowKit Go.Maps tkp trp trw rpp psp
open tkw (qO)
open rpw (sees jB qU fC jP FSub vw jQ app_sub jH jm jd qp vW oneR zk jV lab_ok rg_nil qh qA jU)
theorem infoG : (Tryd.prog.info? 59).map (fun i => (i.zero, i.size, i.bytes)) = some (some (.agg #[.int .i64 0, .int .i64 0, .int .i64 0, .int .i64 0, .slice none 0 0, .bool false, .int .i64 0, .int .i64 0, .int .i64 0, .string ⟨#[]⟩, .int .i64 0, .int .i64 0, .slice none 0 0, .slice none 0 0]), 14, 168) := by kernel_rfl
def g0 (sv : Value) (t : Tk) : Gv := ⟨t, sv, nil3, .nil, nil3, .nil⟩
def gA (sv : Value) (t : Tk) : Array Value := #[.int .i64 t.kind, .int .i64 t.at_, .int .i64 t.to, .int .i64 t.c, sv, .bool t.neg, .int .i64 t.n, .int .i64 t.m, .int .i64 t.mode, .string t.name, .int .i64 t.on, .int .i64 t.off, .slice none 0 0, .slice none 0 0]
theorem gA_c (sv : Value) (t : Tk) : (gA sv t).toList = grpC (g0 sv t) := rfl
theorem held_build_g {o : Oper} {a : Act} {W : World} {K : Act → World → Prop} {Q : Exit → Act → World → Prop} {ys : Nat → Option Bool} (hgd : o.guard = none) (x : Operand) (ho : o.op = .buildSlice 60 1 #[(0, x)])
 (sv : Value) (t : Tk) (hx : a.eval x = .agg (gA sv t)) (h : ∀ W', W' = W.alloc (.cells (gA sv t) 59) → K (a.put o.dst (.slice (some ⟨W.heap.size, 0, none⟩) 1 1)) W') :
 if Region.wanted o ys = true then Oper.wp Tryd.prog o a W K Q else K (a.put o.dst undef) W := by
 rw [if_pos (by unfold Region.wanted; rw [hgd])];obtain ⟨i0, hi, hz0, hz1, hz2⟩ := info_parts infoG;refine wp_buildSlice _ 59 1 _ ho (gA sv t) i0 _ Tryd.underlying60 hi hz0 (by rw [hz1]; decide) (by rw [hz1]; decide) ?_ (h _ rfl);simp only [List.map_toArray, List.map_cons, List.map_nil, hx, hz1];kernel_rfl
theorem held_append_g {o : Oper} {a : Act} {W : World} {K : Act → World → Prop} {Q : Exit → Act → World → Prop} {ys : Nat → Option Bool} (hgd : o.guard = none) (s x : Operand)
 (ho : o.op = .call { callee := .builtin .append, args := #[s, x], argTypes := #[60, 60] }) {zh H : Nat → Bool} {n P q cap : Nat} {cur : Array Value} {T : List Gv} (hI : PaI zh H n W P q cap cur T) (hs : a.eval s = .slice (some ⟨q, 0, none⟩) T.length cap) (sv : Value) (t : Tk)
 (B : Nat) (hx : a.eval x = .slice (some ⟨B, 0, none⟩) 1 1) (hB : W.heap[B]? = some (.cells (gA sv t) 59 (0, 0))) (h1 : sv.oneCell' = true) (hn : T.length ≤ 1000)
 (h : ∀ w' q' cap' cur', W.grownBy w' (some q) → w'.heap[q']? = some (.cells cur' 59 (0, 0)) → cur'.size = cap' * 14 → T.length + 1 ≤ cap' → cap' ≤ maxLen → cur'.toList.take ((T.length + 1) * 14) = gC T ++ grpC (g0 sv t) → (q' = q ∨ W.heap.size ≤ q') → K (a.put o.dst (.slice (some ⟨q', 0, none⟩) (T.length + 1) cap')) w') :
 if Region.wanted o ys = true then Oper.wp Tryd.prog o a W K Q else K (a.put o.dst undef) W := by
 rw [if_pos (by unfold Region.wanted; rw [hgd])];obtain ⟨i0, hi, hz0, hz1, hz2⟩ := info_parts infoG;have hown : W.ownsRow n 59 14 (.slice (some ⟨q, 0, none⟩) T.length cap) T.length (gC T) := ⟨gC_len T, Or.inr ⟨q, cap, cur, rfl, hI.nq, hI.c, hI.cl, hI.cm, hI.cz, hI.tk⟩⟩;obtain ⟨v', w', hr, h2, h3, _, h5⟩ := run_append_own_at (P := Tryd.prog) W n 60 o.type 59 i0 _ 14 168 Tryd.underlying60 hi hz0 hz1 hz2 rfl (by decide) _ T.length (gC T) hown ⟨B, 0, none⟩ 1 1 (grpC (g0 sv t)) rfl
  (fun j u hj => by
   rw [add_plain, Nat.zero_add];unfold World.cell?;rw [hB];rw [← gA_c] at hj;simpa using hj) (fun u hu => by
   simp only [grpC, qO, g0, List.cons_append, List.nil_append, List.mem_cons, List.not_mem_nil, or_false] at hu;rcases hu with rfl | rfl | rfl | rfl | rfl | rfl | rfl | rfl | rfl | rfl | rfl | rfl | rfl | rfl <;> first | rfl | exact h1) (by unfold maxLen; omega) (by omega) hI.n
 unfold Oper.wp execOp;simp only [ho, resolve, invoke, builtin, Sem.run_bind, Sem.run_pure, Result.andThen_ok, List.map_toArray, List.map_cons, List.map_nil, hs, hx, hr];rcases h2.2 with ⟨_, hn0⟩ | ⟨q', cap', cur', rfl, _, hc, hl, hm, hz, ht⟩
 ·omega
 ·exact h w' q' cap' cur' h3 hc hz hl hm ht (by
   rcases h5 with e | e
   ·simp only [Value.ownBlock, Option.some.injEq] at e;exact Or.inl e
   ·simp only [Value.ownBlock, Option.some.injEq] at e;exact Or.inr (by omega))
theorem read_bar {n P q cap : Nat} {zh H : Nat → Bool} {w : World} {cur : Array Value} {G : Gv} {T : List Gv} (tsv : Value) (t : Tk) (h : PaI zh H n w P q cap cur (G :: T)) (hT : TabP w) (hU : T.length ≤ 40) (hl : ∀ B ∈ G :: T, B.kf.len ≤ 60000 ∧ B.jf.len ≤ 60000) (hk : t.kind = 7) : Calls Tryd.prog 22 #[.pointer (some ⟨P, 0, none⟩), .agg (tA tsv t)] w (StB zh n P (psp.stepG t ((G :: T).map Gv.g)) w) := by
 obtain ⟨R, hR⟩ : ∃ R, psp.stepG t ((G :: T).map Gv.g) = R := ⟨_, rfl⟩;rw [hR];have HRR := xH (hR.symm.trans (show _ = (.ok (endG G.g :: T.map Gv.g) : E2 (List psp.G)) from (step_c t G.g (T.map Gv.g)).trans (if_pos hk)));clear hR;have HN := xH h.n;have HL := xH hl;have HB1 := xH (qg w (.cells (tA tsv t) 53));have HR1 := xH (heap_alloc_new w (.cells (tA tsv t) 53));have HI1 := xH (h.below HB1.out);have HT1 := xH (tabP_below HB1.out hT);have HBW := xH (HB1.out.mono HN.out);have t0 : (w.alloc (.cells (tA tsv t) 53)).cell? ⟨w.heap.size, 0, none⟩ = some (.int .i64 t.kind) := tk_cells HR1.out rfl;have b7 : (t.kind == 7) = true := by simp [hk]
 have cP : (w.alloc (.cells (tA tsv t) 53)).cell? ⟨P, 0, none⟩ = some (.slice (some ⟨q, 0, none⟩) (T.length + 1) cap) := HI1.out.cell.1;clear h hT hl hk;unfold tA at HB1 HR1 HI1 HT1 HBW t0 cP ⊢;go_enter Tryd.func22, Tryd.ntmps22;go_wp2_with fail
 refine (last_any (m := T.length) _ (by omega) cP).mono ?_;rintro e w2 ⟨rfl, hb2⟩;have HI2 := xH (HI1.out.below hb2);have HB2 := xH (HBW.out.trans (hb2.mono HI1.out.n));clear HI1 HBW hb2 cP t0 HT1 HB1 HR1;dsimp only;go_wp2_with fail
 refine (end_any (o := T.length * 14) HI2.out.top (HL.out G (List.mem_cons_self ..)).1).mono ?_;rintro e w3 ⟨r, H3, C3, G3, rfl, hs, rfl, hg⟩;obtain ⟨hi3, hb3⟩ := HI2.out.upd hs;have HI3 := xH hi3;have HB3 := xH (HB2.out.trans hb3);have HG3 := xH hg;clear hs hi3 hb3 hg;dsimp only;go_wp2_with fail
 refine bodyPost_ret (results_tmp2 rfl _ _ _) rfl ?_;rw [HRR.out];exact stB_ok HB3.out HI3.out (by show G3.g :: T.map Gv.g = _; rw [HG3.out])
theorem read_close {n P q cap : Nat} {zh H : Nat → Bool} {w : World} {cur : Array Value} {G : Gv} {T : List Gv} (tsv : Value) (t : Tk) (h : PaI zh H n w P q cap cur (G :: T)) (hT : TabP w) (hU : T.length ≤ 40) (hl : ∀ B ∈ G :: T, B.kf.len ≤ 60000 ∧ B.jf.len ≤ 60000) (hk : t.kind = 8) (hop : T ≠ [] → G.t.kind = 10 ∧ 1 ≤ G.t.n ∧ G.t.n ≤ 13) : Calls Tryd.prog 22 #[.pointer (some ⟨P, 0, none⟩), .agg (tA tsv t)] w (StB zh n P (psp.stepG t ((G :: T).map Gv.g)) w) := by
 obtain ⟨R, hR⟩ : ∃ R, psp.stepG t ((G :: T).map Gv.g) = R := ⟨_, rfl⟩;rw [hR];have HRR := xH (hR.symm.trans (show _ = closeR t ((G :: T).map Gv.g) from (step_c t G.g (T.map Gv.g)).trans (by rw [if_neg (by omega), if_neg (by omega), if_neg (by omega), if_pos hk]; rfl)));clear hR;have HN := xH h.n;have HL := xH hl;have HB1 := xH (qg w (.cells (tA tsv t) 53));have HR1 := xH (heap_alloc_new w (.cells (tA tsv t) 53));have HI1 := xH (h.below HB1.out);have HT1 := xH (tabP_below HB1.out hT);have HBW := xH (HB1.out.mono HN.out);have t0 : (w.alloc (.cells (tA tsv t) 53)).cell? ⟨w.heap.size, 0, none⟩ = some (.int .i64 t.kind) := tk_cells HR1.out rfl;have b7 : (t.kind == 7) = false := by simp; omega
 have b9 : (t.kind == 9) = false := by simp; omega
 have b10 : (t.kind == 10) = false := by simp; omega
 have b8 : (t.kind == 8) = true := by simp [hk]
 have HC := xH (show Calls Tryd.prog 42 #[.pointer (some ⟨P, 0, none⟩), .agg (tA tsv t)] (w.alloc (.cells (tA tsv t) 53)) (StB zh n P R (w.alloc (.cells (tA tsv t) 53))) from by
  rw [HRR.out];cases T with
  | nil => exact close_err tsv t HI1.out
  | cons A U =>
   obtain ⟨a1, a2, a3⟩ := hop (by simp);exact close_any tsv t HI1.out HT1.out (by simp only [List.length_cons] at hU; omega) HL.out a1 a2 a3)
 have t12 : ∀ j u, (qO tsv t)[j]? = some u → (w.alloc (.cells (tA tsv t) 53)).cell? ⟨w.heap.size, j, none⟩ = some u := fun j u hj => tk_cells HR1.out hj
 have HT12 := xH t12;clear t12;clear h hT hl hk hop HRR;unfold tA at HB1 HR1 HI1 HT1 HBW t0 HC HT12 ⊢;go_enter Tryd.func22, Tryd.ntmps22;go_wp2_with (refine wpList_load_tg rfl _ rfl w.heap.size 0 rfl tsv t (fun j u hj => by rw [Nat.zero_add]; exact HT12.out j u hj) ?_)
 unfold tA;refine HC.out.mono ?_;intro e w2 hst;obtain ⟨hb, hm⟩ := hst;have HB2 := xH (HBW.out.trans hb);clear HC hb t0 HI1 HT1 HB1 HBW HR1 HT12;cases R with
 | error x =>
  obtain ⟨x1, x2⟩ := x;simp only at hm;subst hm;dsimp only;go_wp2_with fail
  refine bodyPost_ret (results_tmp2 rfl _ _ _) rfl ?_;exact stB_er HB2.out
 | ok U =>
  obtain ⟨rfl, hm⟩ := hm;have HM := xH hm;clear hm;dsimp only;go_wp2_with fail
  refine bodyPost_ret (results_tmp2 rfl _ _ _) rfl ?_;exact ⟨HB2.out, rfl, HM.out⟩
end Go.Proofs.YtnpcombfgdbhkaaDoor.psw
end
