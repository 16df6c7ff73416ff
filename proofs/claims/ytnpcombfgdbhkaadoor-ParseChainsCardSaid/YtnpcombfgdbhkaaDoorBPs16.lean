/- T -/
import Derived.Test.YtnpcombfgdbhkaaDoorBPs07
set_option maxHeartbeats 16000000
set_option maxRecDepth 1000000
section
namespace Go.Proofs.YtnpcombfgdbhkaaDoor.psw
open sq
open Go.Sort Go Go.RowKit Go.Maps tkp trp trw rpp psp
open tkw (qO)
open rpw (sees jB qU fC jP FSub vw jQ app_sub jH jm jd qp vW oneR zk jV lab_ok rg_nil qh qA jU)
structure Ap (w : World) (g : Nat) (C' : Array Value) (n : Nat) (v v' : Value) (m : Nat) (xs : List Value) (w' : World) : Prop where
 c : w'.heap[g]? = some (.cells C' 59 (0, 0))
 r : w'.ownsRow n 31 12 v' m xs
 ch : Ch (fun i => decide (i = g) || decide (v.ownBlock = some i)) w w'
 b : ∀ b, v'.ownBlock = some b → v.ownBlock = some b ∨ w.heap.size ≤ b
theorem Ap.start {H : Nat → Bool} {n : Nat} {w : World} {g o : Nat} {C : Array Value} {G : Gv} (h : Gi H n w g o C G) : Ap w g C n G.kv G.kv G.kf.len (fC G.kf) w ∧ Ap w g C n G.iv G.iv G.jf.len (fC G.jf) w :=
 ⟨⟨h.c, h.k.r, Ch.refl _ _, fun _ e => Or.inl e⟩, ⟨h.c, h.i.r, Ch.refl _ _, fun _ e => Or.inl e⟩⟩
theorem Ap.lt {w W : World} {g n m : Nat} {C : Array Value} {v0 v : Value} {xs : List Value} (h : Ap w g C n v0 v m xs W) : g < W.heap.size := (Array.getElem?_eq_some_iff.1 h.c).1
theorem Ap.below {w W W' : World} {g n m : Nat} {C : Array Value} {v0 v : Value} {xs : List Value} (h : Ap w g C n v0 v m xs W) (hb : Below W.heap.size W W') : Ap w g C n v0 v m xs W' :=
 ⟨(hb.block g h.lt).trans h.c, tkw.jJ h.r fun q hq => hb.block q (World.ownsRow.lt h.r q hq).2, h.ch.trans (Ch.of_below hb) (fun _ _ e => e) (fun _ _ e => e), h.b⟩
theorem Ap.drew {w W : World} {g n m : Nat} {C : Array Value} {v0 v : Value} {xs : List Value} (h : Ap w g C n v0 v m xs W) : Ap w g C n v0 v m xs W.drew := h.below (trw.qL W)
theorem Ap.fld {w W : World} {g n m : Nat} {C : Array Value} {v0 v : Value} {xs : List Value} (h : Ap w g C n v0 v m xs W) (hq : v.ownBlock ≠ some g) (o : Nat) (u : Value) : Ap w g (C.setIfInBounds o u) n v0 v m xs (W.setCell ⟨g, o, none⟩ u) :=
 ⟨tkw.heap_set h.c, tkw.jJ h.r fun k hk => rpw.qx o u (fun e => hq (by rw [hk, e])), h.ch.trans (Ch.cell _ W g o u (by simp)) (fun _ _ e => e) (fun _ _ e => e), h.b⟩
theorem Ap.cell {w W : World} {g n m : Nat} {C : Array Value} {v0 v : Value} {xs : List Value} (h : Ap w g C n v0 v m xs W) {o : Nat} {u : Value} (hc : C[o]? = some u) : W.cell? ⟨g, o, none⟩ = some u ∧ W.frozen? ⟨g, o, none⟩ = false := by unfold World.cell? World.frozen?;rw [h.c];simp [hc]
theorem Ap.row {w W : World} {g n m N : Nat} {C : Array Value} {v0 v : Value} {xs : List Value} {O : Obj} (h : Ap w g C n v0 v m xs W) (hN : w.heap[N]? = some O) (h1 : N ≠ g) (h2 : v0.ownBlock ≠ some N) : W.heap[N]? = some O :=
 (h.ch.block N (Array.getElem?_eq_some_iff.1 hN).1 (by simp [h1, h2])).trans hN
theorem held_ap_append {o : Oper} {a : Act} {W : World} {K : Act → World → Prop} {Q : Exit → Act → World → Prop} {ys : Nat → Option Bool} (hgd : o.guard = none) (s x : Operand)
 (ho : o.op = .call { callee := .builtin .append, args := #[s, x], argTypes := #[29, 29] }) {w : World} {g n len : Nat} {C : Array Value} {v0 : Value} {xs : List Value} (hA : Ap w g C n v0 v0 len xs W) (hs : a.eval s = v0)
 (B : Nat) (hx : a.eval x = .slice (some ⟨B, 0, none⟩) 1 1) (hc : ∀ j u, zC[j]? = some u → W.cell? ⟨B, j, none⟩ = some u) (hn : len ≤ 100000) (hne : v0.ownBlock ≠ some g) (hbase : n ≤ W.heap.size)
 (h : ∀ q cap w2, Ap w g C n v0 (.slice (some ⟨q, 0, none⟩) (len + 1) cap) (len + 1) (xs ++ zC) w2 → q ≠ g → (Value.slice (some ⟨q, 0, none⟩) (len + 1) cap).ownBlock ≠ some g → K (a.put o.dst (.slice (some ⟨q, 0, none⟩) (len + 1) cap)) w2) :
 if Region.wanted o ys = true then Oper.wp Tryd.prog o a W K Q else K (a.put o.dst undef) W := by
 rw [if_pos (by unfold Region.wanted; rw [hgd])];obtain ⟨i0, hi, hz0, hz1, hz2⟩ := info_parts infoNd;obtain ⟨v', w', hr, h2, h3, _, h5⟩ := run_append_own_at (P := Tryd.prog) W n 29 o.type 31 i0 _ 12 136 Tryd.underlying29 hi hz0 hz1 hz2 rfl (by decide) v0 len xs hA.r ⟨B, 0, none⟩ 1 1 zC rfl
  (fun j u hj => by rw [add_plain, Nat.zero_add]; exact hc j u hj) (fun u hu => by simp only [zC, List.mem_cons, List.not_mem_nil, or_false] at hu; rcases hu with rfl | rfl | rfl | rfl | rfl | rfl | rfl | rfl | rfl | rfl | rfl | rfl <;> rfl) (by unfold maxLen; omega) (by omega) hbase
 unfold Oper.wp execOp;simp only [ho, resolve, invoke, builtin, Sem.run_bind, Sem.run_pure, Result.andThen_ok, List.map_toArray, List.map_cons, List.map_nil, hs, hx, hr];have hlt := hA.lt;rcases h2.2 with ⟨_, hn0⟩ | ⟨q, cap, _, rfl, _⟩
 ·omega
 ·have hq : v0.ownBlock = some q ∨ W.heap.size ≤ q := by
   rcases h5 with e | e
   ·exact Or.inl e.symm
   ·simp only [Value.ownBlock, Option.some.injEq] at e;exact Or.inr (by omega)
  have hqg : q ≠ g := fun e => by
   rcases hq with e2 | e2
   ·exact hne (by rw [e2, e])
   ·omega
  refine h q cap w' ⟨(h3.block g hlt (fun e => hne e.symm)).trans hA.c, h2, hA.ch.trans (Ch.of_grown h3 (b := fun i => decide (v0.ownBlock = some i)) (fun k e => by simpa using e)) (fun _ _ e => e) (fun i _ e => by simp only [Bool.or_eq_false_iff] at e; exact e.2), fun b e => ?_⟩ hqg (fun e => hqg (by simpa [Value.ownBlock] using e));simp only [Value.ownBlock, Option.some.injEq] at e;subst e;rcases hq with e2 | e2
  ·exact Or.inl e2
  ·exact Or.inr (Nat.le_trans hA.ch.size e2)
theorem held_ap_elem {o : Oper} {a : Act} {W : World} {K : Act → World → Prop} {Q : Exit → Act → World → Prop} {ys : Nat → Option Bool} (hgd : o.guard = none) (hd : o.dst = none) (x y : Operand) (ho : o.op = .store 31 x y) {w : World} {g q n len cap : Nat} {C : Array Value} {v0 : Value} {xs : List Value}
 (hA : Ap w g C n v0 (.slice (some ⟨q, 0, none⟩) (len + 1) cap) (len + 1) (xs ++ zC) W) (hx : a.eval x = .pointer (some ⟨q, len * 12, none⟩)) (l : Lab) (h1 : ∀ u ∈ ndC l, u.oneCell' = true) (hy : a.eval y = ndV l) (hxl : xs.length = len * 12) (hq : q ≠ g)
 (h : ∀ W2, Ap w g C n v0 (.slice (some ⟨q, 0, none⟩) (len + 1) cap) (len + 1) (xs ++ ndC l) W2 → K a W2) :
 if Region.wanted o ys = true then Oper.wp Tryd.prog o a W K Q else K (a.put o.dst undef) W := by
 refine held_store_row hgd hd x y ho (g := q) (n := len) hx l h1 hy hA.r hxl fun W2 o2 g2 => h W2 ⟨(g2.block g hA.lt (fun e => hq (Option.some.inj e).symm)).trans hA.c, o2, ?_, hA.b⟩
 refine hA.ch.trans (Ch.of_grown g2 (b := fun i => decide (i = q)) (fun k e => by simp [Option.some.inj e])) (fun _ _ e => e) (fun i hi e => ?_);simp only [Bool.or_eq_false_iff, decide_eq_false_iff_not] at e ⊢;intro e2;rcases hA.b q rfl with e3 | e3
 ·exact e.2 (by rw [e3, e2])
 ·omega
theorem Gs.of_below {H H' : Nat → Bool} {n : Nat} {w w1 w' : World} {g o : Nat} {C C' : Array Value} {G G' : Gv} (h : Gs H n w1 g o C G H' w' C' G') (hb : Below w.heap.size w w1) (ho : ∀ i, H i = true → i < w.heap.size) : Gs H n w g o C G H' w' C' G' :=
 ⟨h.i, (Ch.of_below hb).trans h.ch (fun _ _ e => e) (fun _ _ e => e), h.h1, fun i e => (h.h2 i e).imp id (Nat.le_trans hb.size), h.z, h.out, h.t, h.sv, fun b e => (h.kb b e).imp id (Nat.le_trans hb.size), fun b e => (h.ib b e).imp id (Nat.le_trans hb.size), ho⟩
theorem zc_cells {W W' : World} (h : W.alloc (.cells zC.toArray 31) = W') : (∀ j u, zC[j]? = some u → W'.cell? ⟨W.heap.size, j, none⟩ = some u) ∧ Below W.heap.size W W' := by subst h;exact ⟨fun j u hj => by rw [World.cell?_alloc_new]; simpa using hj, qg _ _⟩
def hx (h : Nat → Bool) (v : Value) (i : Nat) : Bool := h i || decide (v.ownBlock = some i)
theorem set_l {C : Array Value} {o k : Nat} {v : Value} {l : List Value} (hs : o + 14 ≤ C.size) (hk : k < 14) (hl : ∀ j u, l[j]? = some u → C[o + j]? = some u) : ∀ j u, (l.set k v)[j]? = some u → (C.setIfInBounds (o + k) v)[o + j]? = some u := fun j u hj => by
 rw [List.getElem?_set] at hj;rw [Array.getElem?_setIfInBounds];by_cases e : k = j
 ·subst e;rw [if_pos rfl] at hj ⊢;split at hj
  ·rw [if_pos (by omega)];exact hj
  ·cases hj
 ·rw [if_neg e] at hj;rw [if_neg (by omega)];exact hl j u hj
theorem set_out {C : Array Value} {o k j : Nat} {v : Value} (hk : k < 14) (hj : j < o ∨ o + 14 ≤ j) : (C.setIfInBounds (o + k) v)[j]? = C[j]? := by rw [Array.getElem?_setIfInBounds, if_neg (by omega)]
theorem hx_seen {H b : Nat → Bool} {w w' : World} {v : Value} (h : Ch b w w') (hb : ∀ i, i < w.heap.size → b i = true → H i = true) (hv : ∀ i, v.ownBlock = some i → H i = true ∨ w.heap.size ≤ i) : ∀ a u, (sees H w).cell? a = some u → (sees (hx H v) w').cell? a = some u :=
 sees_ch h hb fun i hi e => by
  unfold hx;rw [e, Bool.false_or, decide_eq_false_iff_not];intro e2;rcases hv i e2 with e3 | e3
  ·rw [e] at e3; cases e3
  ·omega
theorem gs_kids {H : Nat → Bool} {n : Nat} {w w' : World} {g o : Nat} {C : Array Value} {G : Gv} {v : Value} {l : Lab} {k : F} (h : Gi H n w g o C G) (hn : NdAt (sees H w) (l, k)) (_hv : v ≠ nil3) (a : Ap w g (C.setIfInBounds (o + 12) v) n G.kv v (G.kf.len + 1) (fC G.kf ++ ndC l) w') :
 Gs H n w g o C G (hx H v) w' (C.setIfInBounds (o + 12) v) { G with kv := v, kf := F.app G.kf (F.one l k) } := by
 have htop : ∀ i, i < w.heap.size → (decide (i = g) || decide (G.kv.ownBlock = some i)) = true → H i = true := fun i _ e => by
  simp only [Bool.or_eq_true, decide_eq_true_eq] at e;rcases e with rfl | e
  ·exact h.hg
  ·exact h.k.h _ e
 have hvb : ∀ i, v.ownBlock = some i → H i = true ∨ w.heap.size ≤ i := fun i e => (a.b i e).imp (h.k.h i) id
 have hsee := hx_seen a.ch htop hvb;have hsz := a.ch.size;have hvs : ∀ i, v.ownBlock = some i → i < w'.heap.size := fun i e => (World.ownsRow.lt a.r i e).2
 have hir : w'.ownsRow n 31 12 G.iv G.jf.len (fC G.jf) := tkw.jJ h.i.r fun q hq => a.ch.block q (World.ownsRow.lt h.i.r q hq).2 (by
  simp only [Bool.or_eq_false_iff, decide_eq_false_iff_not];exact ⟨fun e => h.ig (by rw [hq, e]), fun e => h.d q e hq⟩)
 refine ⟨⟨a.c, by rw [Array.size_setIfInBounds]; exact h.s, set_l (k := 12) (v := v) h.s (by omega) h.l, ⟨?_, ?_, app_sub (vw hsee h.k.s) ⟨qY hsee hn, trivial⟩, fun b e => by simp [hx, show v.ownBlock = some b from e]⟩, ⟨hir, h.i.z, vw hsee h.i.s, fun b e => by simp [hx, h.i.h b e]⟩, by simp [hx, h.hg], fun e => ?_, h.ig, fun b e e2 => ?_, fun i e => ?_, Nat.le_trans h.n hsz, rgAt_mono hsee h.rg, h.ok⟩, ?_, fun i e _ _ => by simp [hx, e], fun i e => ?_, Array.size_setIfInBounds .., fun j hj => set_out (by omega) hj, rfl, rfl, fun b e => a.b b e, fun b e => Or.inl e, h.ho⟩
 ·show w'.ownsRow n 31 12 v (F.app G.kf (F.one l k)).len (fC (F.app G.kf (F.one l k)));rw [jd, jQ];simpa [F.one, F.len, fC] using a.r
 ·intro e;exact absurd e (by show (F.app G.kf (F.one l k)).len ≠ 0; rw [jd]; simp [F.one, F.len])
 ·rcases a.b g e with e2 | e2
  ·exact h.kg e2
  ·have := h.lt; omega
 ·rcases a.b b e with e3 | e3
  ·exact h.d b e3 e2
  ·have := (World.ownsRow.lt h.i.r b e2).2;omega
 ·simp only [hx, Bool.or_eq_true, decide_eq_true_eq] at e;rcases e with e | e
  ·exact Nat.lt_of_lt_of_le (h.ho i e) hsz
  ·exact hvs i e
 ·refine ⟨a.ch.os, a.ch.tape, a.ch.output, a.ch.size, fun i hi e => a.ch.block i hi ?_⟩;simp only [top, Bool.or_eq_false_iff] at e ⊢;exact e.1
 ·simp only [hx, Bool.or_eq_true, decide_eq_true_eq] at e;rcases e with e | e
  ·exact Or.inl e
  ·exact hvb i e
theorem gs_items {H : Nat → Bool} {n : Nat} {w w' : World} {g o : Nat} {C : Array Value} {G : Gv} {v : Value} {l : Lab} {k : F} (h : Gi H n w g o C G) (hn : NdAt (sees H w) (l, k)) (_hv : v ≠ nil3) (a : Ap w g (C.setIfInBounds (o + 13) v) n G.iv v (G.jf.len + 1) (fC G.jf ++ ndC l) w') :
 Gs H n w g o C G (hx H v) w' (C.setIfInBounds (o + 13) v) { G with iv := v, jf := F.app G.jf (F.one l k) } := by
 have htop : ∀ i, i < w.heap.size → (decide (i = g) || decide (G.iv.ownBlock = some i)) = true → H i = true := fun i _ e => by
  simp only [Bool.or_eq_true, decide_eq_true_eq] at e;rcases e with rfl | e
  ·exact h.hg
  ·exact h.i.h _ e
 have hvb : ∀ i, v.ownBlock = some i → H i = true ∨ w.heap.size ≤ i := fun i e => (a.b i e).imp (h.i.h i) id
 have hsee := hx_seen a.ch htop hvb;have hsz := a.ch.size;have hvs : ∀ i, v.ownBlock = some i → i < w'.heap.size := fun i e => (World.ownsRow.lt a.r i e).2
 have hir : w'.ownsRow n 31 12 G.kv G.kf.len (fC G.kf) := tkw.jJ h.k.r fun q hq => a.ch.block q (World.ownsRow.lt h.k.r q hq).2 (by
  simp only [Bool.or_eq_false_iff, decide_eq_false_iff_not];exact ⟨fun e => h.kg (by rw [hq, e]), fun e => h.d q hq e⟩)
 refine ⟨⟨a.c, by rw [Array.size_setIfInBounds]; exact h.s, set_l (k := 13) (v := v) h.s (by omega) h.l, ⟨hir, h.k.z, vw hsee h.k.s, fun b e => by simp [hx, h.k.h b e]⟩, ⟨?_, ?_, app_sub (vw hsee h.i.s) ⟨qY hsee hn, trivial⟩, fun b e => by simp [hx, show v.ownBlock = some b from e]⟩, by simp [hx, h.hg], h.kg, fun e => ?_, fun b e e2 => ?_, fun i e => ?_, Nat.le_trans h.n hsz, rgAt_mono hsee h.rg, h.ok⟩, ?_, fun i e _ _ => by simp [hx, e], fun i e => ?_, Array.size_setIfInBounds .., fun j hj => set_out (by omega) hj, rfl, rfl, fun b e => Or.inl e, fun b e => a.b b e, h.ho⟩
 ·show w'.ownsRow n 31 12 v (F.app G.jf (F.one l k)).len (fC (F.app G.jf (F.one l k)));rw [jd, jQ];simpa [F.one, F.len, fC] using a.r
 ·intro e;exact absurd e (by show (F.app G.jf (F.one l k)).len ≠ 0; rw [jd]; simp [F.one, F.len])
 ·rcases a.b g e with e2 | e2
  ·exact h.ig e2
  ·have := h.lt; omega
 ·rcases a.b b e2 with e3 | e3
  ·exact h.d b e e3
  ·have := (World.ownsRow.lt h.k.r b e).2;omega
 ·simp only [hx, Bool.or_eq_true, decide_eq_true_eq] at e;rcases e with e | e
  ·exact Nat.lt_of_lt_of_le (h.ho i e) hsz
  ·exact hvs i e
 ·refine ⟨a.ch.os, a.ch.tape, a.ch.output, a.ch.size, fun i hi e => a.ch.block i hi ?_⟩;simp only [top, Bool.or_eq_false_iff] at e ⊢;exact ⟨e.1.1, e.2⟩
 ·simp only [hx, Bool.or_eq_true, decide_eq_true_eq] at e;rcases e with e | e
  ·exact Or.inl e
  ·exact hvb i e
theorem Gi.below {H : Nat → Bool} {n : Nat} {w w' : World} {g o : Nat} {C : Array Value} {G : Gv} (h : Gi H n w g o C G) (hb : Below w.heap.size w w') : Gi H n w' g o C G := by
 have hs : ∀ a v, (sees H w).cell? a = some v → (sees H w').cell? a = some v := qU fun _ _ e hc => ⟨e, trw.qf hb hc⟩
 have hsz := hb.size;exact ⟨(hb.block g h.lt).trans h.c, h.s, h.l, ⟨tkw.jJ h.k.r fun q hq => hb.block q (World.ownsRow.lt h.k.r q hq).2, h.k.z, vw hs h.k.s, h.k.h⟩, ⟨tkw.jJ h.i.r fun q hq => hb.block q (World.ownsRow.lt h.i.r q hq).2, h.i.z, vw hs h.i.s, h.i.h⟩, h.hg, h.kg, h.ig, h.d, fun i e => Nat.lt_of_lt_of_le (h.ho i e) hsz, Nat.le_trans h.n hsz, rgAt_mono hs h.rg, h.ok⟩
theorem gi_cell {H : Nat → Bool} {n : Nat} {w : World} {g o : Nat} {C : Array Value} {G : Gv} (h : Gi H n w g o C G) {j : Nat} {u : Value} (hj : (grpC G)[j]? = some u) : w.cell? ⟨g, o + j, none⟩ = some u := by unfold World.cell?;rw [h.c];simpa using h.l j u hj
theorem gi_slice {w : World} {n m : Nat} {v : Value} {xs : List Value} (h : w.ownsRow n 31 12 v m xs) : ∃ a c, v = .slice a m c := by
 rcases h.2 with ⟨rfl, rfl⟩ | ⟨q, c, _, rfl, _⟩
 ·exact ⟨_, _, rfl⟩
 ·exact ⟨_, _, rfl⟩
def GB (H : Nat → Bool) (n : Nat) (w : World) (g o : Nat) (C : Array Value) (G : Gv) (P : (Nat → Bool) → World → Gv → Value → Prop) (e : Ending) (w' : World) : Prop := ∃ r H' C' G', e = .returned r ∧ Gs H n w g o C G H' w' C' G' ∧ P H' w' G' r
theorem put_any {H : Nat → Bool} {n : Nat} {w : World} {g o : Nat} {C : Array Value} {G : Gv} (l : Lab) (k : F) (h : Gi H n w g o C G) (hn : NdAt (sees H w) (l, k)) (hk : G.kf.len ≤ 60000) (hj : G.jf.len ≤ 60000) :
 Calls Tryd.prog 43 #[.pointer (some ⟨g, o, none⟩), ndV l] w (GB H n w g o C G fun _ _ G' r => r = .tuple #[] ∧ G'.g = putG G.g (strip (F.one l k))) := by
 obtain ⟨Gt, Gsv, Gkv, Gkf, Giv, Gjf⟩ := G;obtain ⟨ka, kc, hkv⟩ := gi_slice h.k.r;obtain ⟨ia, ic, hiv⟩ := gi_slice h.i.r;simp only at hkv hiv hk hj;subst hkv;subst hiv;have HGI := xH h;have HHO := xH h.ho;have HNV := xH hn;have HN1 := xH (qp hn);have HB1 := xH (qg w (.cells (ndC l).toArray 31));have HR1 := xH (heap_alloc_new w (.cells (ndC l).toArray 31));have HG1 := xH (h.below HB1.out);have HNV1 := xH (qY (qU fun _ _ e hc => ⟨e, trw.qf HB1.out hc⟩) hn);have hN := h.lt;clear h hn;go_enter Tryd.func43, Tryd.ntmps43;go_upto_region 1 with (refine wpList_box_nd rfl _ rfl l rfl ?_)
 generalize hg : w.alloc _ = w1;rw [hg] at HB1 HR1 HG1 HNV1;clear hg;have hN0 : w.heap.size < w1.heap.size := (Array.getElem?_eq_some_iff.1 HR1.out).1;obtain ⟨N0, hNN⟩ : ∃ N0, w.heap.size = N0 := ⟨_, rfl⟩;have HNN := xH hNN;rw [hNN] at HR1 hN0 hN ⊢;clear hNN;have hNg : N0 ≠ g := by omega
 have c6 : w1.cell? ⟨g, o + 6, none⟩ = some (.int .i64 Gt.n) := gi_cell HG1.out rfl;have c12 : w1.cell? ⟨g, o + 12, none⟩ = some (.slice ka Gkf.len kc) := gi_cell HG1.out rfl;have hbs : n ≤ w1.heap.size := HG1.out.n;by_cases hA : Gt.n = 13 ∧ Gkf.len = 0
 ·have HP := xH (fun (v : Value) => (show Gv.g ⟨Gt, Gsv, v, F.app Gkf (F.one l k), .slice ia Gjf.len ic, Gjf⟩ = putG (Gv.g ⟨Gt, Gsv, .slice ka Gkf.len kc, Gkf, .slice ia Gjf.len ic, Gjf⟩) (strip (F.one l k)) from by unfold Gv.g putG;simp only;rw [if_pos (show Gt.n = 13 ∧ (strip Gkf).len = 0 from ⟨hA.1, by rw [jm]; exact hA.2⟩), jH]))
  have HA0 := xH (Ap.start HG1.out).1.drew;have HNE := xH HG1.out.kg;have HCF := xH (show C[o + 12]? = some (.slice ka Gkf.len kc) from HG1.out.l 12 _ rfl);have HS := xH (fun (C' : Array Value) (v : Value) (m : Nat) (xs : List Value) (W : World) (e : Ap w1 g C' n (.slice ka Gkf.len kc) v m xs W) => e.row HR1.out hNg (fun e => by have := (World.ownsRow.lt HGI.out.k.r N0 e).2;have := HNN.out;omega))
  have e13 : (Gt.n == 13) = true := by simp [hA.1]
  have e0 : ((Gkf.len : Int) == 0) = true := by simp [hA.2]
  clear hA;go_upto_region 2 with (fail)
  clear c6 c12;go_wp2_with fail
  refine wp_region_held_drew (S := fun w' => w'.heap[N0]? = some (.cells (ndC l).toArray 31)) (by kernel_rfl) HR1.out (fun hHeld => ?_);generalize hwd : w1.drew = wd at *;clear hwd;refine xT 0 rfl ?_ ?_ ?_;rotate_left
  ·intro w' hSw;go_simp;try rfl
  simp only [xS];refine xT 1 rfl ?_ ?_ ?_;rotate_left
  ·intro w' hSw;go_simp;try rfl
  simp only [xS];refine xT 2 rfl ?_ ?_ ?_;rotate_left
  ·intro w' hSw;go_simp;try rfl
  simp only [xS];refine xT 4 rfl ?_ ?_ ?_;rotate_left
  ·intro w' hSw;refine jT (x := .tmp 3) (b := N0) (off := 0) (l := l) ?_ ?_ (fun j v hj => by rw [cell_of_row _ _ _ _ _ _ hSw, Nat.zero_add]; simpa using hj) <;> rfl
  simp only [xS];refine wpAnyH_ready (rs := [3, 6]) (by kernel_rfl) (by simp) ?_;refine AllReadyH.cons rfl (fun K hK => ?_) (AllReadyH.cons rfl (fun K hK => ?_) AllReadyH.nil)
  ·have c1 := (HA0.out.cell HCF.out).1;go_simp;clear c1;refine hK.out _ _ (HS.out _ _ _ _ _ HA0.out) (fun hHeld => ?_);clear hK K;try simp only [xS]
   refine xT 5 rfl ?_ ?_ ?_;rotate_left
   ·intro w' hSw;go_simp;try rfl
   simp only [xS];refine xD 6 rfl (fun K hK => ?_);go_simp;generalize hA : World.alloc _ _ = W2;obtain ⟨hz, hbn⟩ := zc_cells hA;clear hA;have HZ := xH hz;have HA2 := xH (HA0.out.below hbn);clear hz hbn;refine hK.out _ _ (HS.out _ _ _ _ _ HA2.out) (fun hHeld => ?_);clear hK K;try simp only [xS]
   refine xD 7 rfl (fun K hK => ?_);refine held_ap_append rfl _ _ rfl HA2.out rfl _ rfl HZ.out (by omega) HNE.out (Nat.le_trans hbs HA2.out.ch.size) ?_;intro q cap W3 ha hqg hqo;have HA3 := xH ha;clear ha HZ;refine hK.out _ _ (HS.out _ _ _ _ _ HA3.out) (fun hHeld => ?_);clear hK K;try simp only [xS]
   have hidx : (Gkf.len : Int) < (Gkf.len : Int) + 1 := by omega
   have hadd : (⟨q, 0, none⟩ : Addr).add (Gkf.len * 12) = ⟨q, Gkf.len * 12, none⟩ := by rw [add_plain, Nat.zero_add]
   refine xT 8 rfl ?_ ?_ ?_;rotate_left
   ·intro w' hSw;go_simp;try rfl
   simp only [xS];refine xT 10 rfl ?_ ?_ ?_;rotate_left
   ·intro w' hSw;go_simp;try rfl
   simp only [xS];refine xT 11 rfl ?_ ?_ ?_;rotate_left
   ·intro w' hSw;go_simp;try rfl
   simp only [xS];refine wpAnyH_ready (rs := [9, 12]) (by kernel_rfl) (by simp) ?_;refine AllReadyH.cons rfl (fun K hK => ?_) (AllReadyH.cons rfl (fun K hK => ?_) AllReadyH.nil)
   ·refine held_ap_elem rfl rfl _ _ rfl HA3.out rfl l HN1.out rfl (jP Gkf) hqg ?_;intro W4 ha;have HA4 := xH ha;clear ha;refine hK.out _ _ (HS.out _ _ _ _ _ HA4.out) (fun hHeld => ?_);clear hK K;try simp only [xS]
    refine xD 12 rfl (fun K hK => ?_);obtain ⟨c3, c4⟩ := HA4.out.cell HCF.out;have HA5 := xH (HA4.out.fld hqo (o + 12) (.slice (some ⟨q, 0, none⟩) (Gkf.len + 1) cap));go_simp;clear c3 c4;refine hK.out _ _ (HS.out _ _ _ _ _ HA5.out) (fun hHeld => ?_);clear hK K;try simp only [xS]
    refine wpAnyH_done (by kernel_rfl) ?_ _;go_wp2_with fail
    go_end0
    exact ⟨_, _, _, _, rfl, (gs_kids HG1.out HNV1.out (fun e => by cases e) HA5.out).of_below HB1.out HHO.out, rfl, HP.out _⟩
   ·obtain ⟨c3, c4⟩ := HA3.out.cell HCF.out;have HA6 := xH (HA3.out.fld hqo (o + 12) (.slice (some ⟨q, 0, none⟩) (Gkf.len + 1) cap));go_simp;clear c3 c4;refine hK.out _ _ (HS.out _ _ _ _ _ HA6.out) (fun hHeld => ?_);clear hK K;try simp only [xS]
    refine xD 9 rfl (fun K hK => ?_);refine held_ap_elem rfl rfl _ _ rfl HA6.out rfl l HN1.out rfl (jP Gkf) hqg ?_;intro W7 ha;have HA7 := xH ha;clear ha;refine hK.out _ _ (HS.out _ _ _ _ _ HA7.out) (fun hHeld => ?_);clear hK K;try simp only [xS]
    refine wpAnyH_done (by kernel_rfl) ?_ _;go_wp2_with fail
    go_end0
    exact ⟨_, _, _, _, rfl, (gs_kids HG1.out HNV1.out (fun e => by cases e) HA7.out).of_below HB1.out HHO.out, rfl, HP.out _⟩
  ·go_simp;generalize hA : World.alloc _ _ = W8;obtain ⟨hz, hbn⟩ := zc_cells hA;clear hA;have HZ := xH hz;have HA8 := xH (HA0.out.below hbn);clear hz hbn;refine hK.out _ _ (HS.out _ _ _ _ _ HA8.out) (fun hHeld => ?_);clear hK K;try simp only [xS]
   refine xD 3 rfl (fun K hK => ?_);have c9 := (HA8.out.cell HCF.out).1;go_simp;clear c9;refine hK.out _ _ (HS.out _ _ _ _ _ HA8.out) (fun hHeld => ?_);clear hK K;try simp only [xS]
   refine xT 5 rfl ?_ ?_ ?_;rotate_left
   ·intro w' hSw;go_simp;try rfl
   simp only [xS];refine xD 7 rfl (fun K hK => ?_);refine held_ap_append rfl _ _ rfl HA8.out rfl _ rfl HZ.out (by omega) HNE.out (Nat.le_trans hbs HA8.out.ch.size) ?_;intro q cap W10 ha hqg hqo;have HA10 := xH ha;clear ha HZ;refine hK.out _ _ (HS.out _ _ _ _ _ HA10.out) (fun hHeld => ?_);clear hK K;try simp only [xS]
   have hidx : (Gkf.len : Int) < (Gkf.len : Int) + 1 := by omega
   have hadd : (⟨q, 0, none⟩ : Addr).add (Gkf.len * 12) = ⟨q, Gkf.len * 12, none⟩ := by rw [add_plain, Nat.zero_add]
   refine xT 8 rfl ?_ ?_ ?_;rotate_left
   ·intro w' hSw;go_simp;try rfl
   simp only [xS];refine xT 10 rfl ?_ ?_ ?_;rotate_left
   ·intro w' hSw;go_simp;try rfl
   simp only [xS];refine xT 11 rfl ?_ ?_ ?_;rotate_left
   ·intro w' hSw;go_simp;try rfl
   simp only [xS];refine wpAnyH_ready (rs := [9, 12]) (by kernel_rfl) (by simp) ?_;refine AllReadyH.cons rfl (fun K hK => ?_) (AllReadyH.cons rfl (fun K hK => ?_) AllReadyH.nil)
   ·refine held_ap_elem rfl rfl _ _ rfl HA10.out rfl l HN1.out rfl (jP Gkf) hqg ?_;intro W11 ha;have HA11 := xH ha;clear ha;refine hK.out _ _ (HS.out _ _ _ _ _ HA11.out) (fun hHeld => ?_);clear hK K;try simp only [xS]
    refine xD 12 rfl (fun K hK => ?_);obtain ⟨c3, c4⟩ := HA11.out.cell HCF.out;have HA12 := xH (HA11.out.fld hqo (o + 12) (.slice (some ⟨q, 0, none⟩) (Gkf.len + 1) cap));go_simp;clear c3 c4;refine hK.out _ _ (HS.out _ _ _ _ _ HA12.out) (fun hHeld => ?_);clear hK K;try simp only [xS]
    refine wpAnyH_done (by kernel_rfl) ?_ _;go_wp2_with fail
    go_end0
    exact ⟨_, _, _, _, rfl, (gs_kids HG1.out HNV1.out (fun e => by cases e) HA12.out).of_below HB1.out HHO.out, rfl, HP.out _⟩
   ·obtain ⟨c3, c4⟩ := HA10.out.cell HCF.out;have HA13 := xH (HA10.out.fld hqo (o + 12) (.slice (some ⟨q, 0, none⟩) (Gkf.len + 1) cap));go_simp;clear c3 c4;refine hK.out _ _ (HS.out _ _ _ _ _ HA13.out) (fun hHeld => ?_);clear hK K;try simp only [xS]
    refine xD 9 rfl (fun K hK => ?_);refine held_ap_elem rfl rfl _ _ rfl HA13.out rfl l HN1.out rfl (jP Gkf) hqg ?_;intro W14 ha;have HA14 := xH ha;clear ha;refine hK.out _ _ (HS.out _ _ _ _ _ HA14.out) (fun hHeld => ?_);clear hK K;try simp only [xS]
    refine wpAnyH_done (by kernel_rfl) ?_ _;go_wp2_with fail
    go_end0
    exact ⟨_, _, _, _, rfl, (gs_kids HG1.out HNV1.out (fun e => by cases e) HA14.out).of_below HB1.out HHO.out, rfl, HP.out _⟩
 ·have HP := xH (fun (v : Value) => (show Gv.g ⟨Gt, Gsv, .slice ka Gkf.len kc, Gkf, v, F.app Gjf (F.one l k)⟩ = putG (Gv.g ⟨Gt, Gsv, .slice ka Gkf.len kc, Gkf, .slice ia Gjf.len ic, Gjf⟩) (strip (F.one l k)) from by unfold Gv.g putG;simp only;rw [if_neg (show ¬ (Gt.n = 13 ∧ (strip Gkf).len = 0) from fun e => hA ⟨e.1, by have := e.2; rw [jm] at this; exact this⟩), jH]))
  have HA0 := xH (Ap.start HG1.out).2.drew;have HNE := xH HG1.out.ig;have HCF := xH (show C[o + 13]? = some (.slice ia Gjf.len ic) from HG1.out.l 13 _ rfl);have HS := xH (fun (C' : Array Value) (v : Value) (m : Nat) (xs : List Value) (W : World) (e : Ap w1 g C' n (.slice ia Gjf.len ic) v m xs W) => e.row HR1.out hNg (fun e => by have := (World.ownsRow.lt HGI.out.i.r N0 e).2;have := HNN.out;omega))
  have cT : ∀ b : Bool, True := fun _ => trivial
  by_cases h13 : Gt.n = 13
  ·have e13 : (Gt.n == 13) = true := by simp [h13]
   have e0 : ((Gkf.len : Int) == 0) = false := by
    have := fun e => hA ⟨h13, e⟩
    simpa using this
   clear hA h13;go_upto_region 3 with (fail)
   clear c6 c12;go_wp2_with fail
   refine wp_region_held_drew (S := fun w' => w'.heap[N0]? = some (.cells (ndC l).toArray 31)) (by kernel_rfl) HR1.out (fun hHeld => ?_);generalize hwd : w1.drew = wd at *;clear hwd;refine xT 0 rfl ?_ ?_ ?_;rotate_left
   ·intro w' hSw;go_simp;try rfl
   simp only [xS];refine xT 1 rfl ?_ ?_ ?_;rotate_left
   ·intro w' hSw;go_simp;try rfl
   simp only [xS];refine xT 2 rfl ?_ ?_ ?_;rotate_left
   ·intro w' hSw;go_simp;try rfl
   simp only [xS];refine xT 4 rfl ?_ ?_ ?_;rotate_left
   ·intro w' hSw;refine jT (x := .tmp 3) (b := N0) (off := 0) (l := l) ?_ ?_ (fun j v hj => by rw [cell_of_row _ _ _ _ _ _ hSw, Nat.zero_add]; simpa using hj) <;> rfl
   simp only [xS];refine wpAnyH_ready (rs := [3, 6]) (by kernel_rfl) (by simp) ?_;refine AllReadyH.cons rfl (fun K hK => ?_) (AllReadyH.cons rfl (fun K hK => ?_) AllReadyH.nil)
   ·have c1 := (HA0.out.cell HCF.out).1;go_simp;clear c1;refine hK.out _ _ (HS.out _ _ _ _ _ HA0.out) (fun hHeld => ?_);clear hK K;try simp only [xS]
    refine xT 5 rfl ?_ ?_ ?_;rotate_left
    ·intro w' hSw;go_simp;try rfl
    simp only [xS];refine xD 6 rfl (fun K hK => ?_);go_simp;generalize hA : World.alloc _ _ = W2;obtain ⟨hz, hbn⟩ := zc_cells hA;clear hA;have HZ := xH hz;have HA2 := xH (HA0.out.below hbn);clear hz hbn;refine hK.out _ _ (HS.out _ _ _ _ _ HA2.out) (fun hHeld => ?_);clear hK K;try simp only [xS]
    refine xD 7 rfl (fun K hK => ?_);refine held_ap_append rfl _ _ rfl HA2.out rfl _ rfl HZ.out (by omega) HNE.out (Nat.le_trans hbs HA2.out.ch.size) ?_;intro q cap W3 ha hqg hqo;have HA3 := xH ha;clear ha HZ;refine hK.out _ _ (HS.out _ _ _ _ _ HA3.out) (fun hHeld => ?_);clear hK K;try simp only [xS]
    have hidx : (Gjf.len : Int) < (Gjf.len : Int) + 1 := by omega
    have hadd : (⟨q, 0, none⟩ : Addr).add (Gjf.len * 12) = ⟨q, Gjf.len * 12, none⟩ := by rw [add_plain, Nat.zero_add]
    refine xT 8 rfl ?_ ?_ ?_;rotate_left
    ·intro w' hSw;go_simp;try rfl
    simp only [xS];refine xT 10 rfl ?_ ?_ ?_;rotate_left
    ·intro w' hSw;go_simp;try rfl
    simp only [xS];refine xT 11 rfl ?_ ?_ ?_;rotate_left
    ·intro w' hSw;go_simp;try rfl
    simp only [xS];refine wpAnyH_ready (rs := [9, 12]) (by kernel_rfl) (by simp) ?_;refine AllReadyH.cons rfl (fun K hK => ?_) (AllReadyH.cons rfl (fun K hK => ?_) AllReadyH.nil)
    ·refine held_ap_elem rfl rfl _ _ rfl HA3.out rfl l HN1.out rfl (jP Gjf) hqg ?_;intro W4 ha;have HA4 := xH ha;clear ha;refine hK.out _ _ (HS.out _ _ _ _ _ HA4.out) (fun hHeld => ?_);clear hK K;try simp only [xS]
     refine xD 12 rfl (fun K hK => ?_);obtain ⟨c3, c4⟩ := HA4.out.cell HCF.out;have HA5 := xH (HA4.out.fld hqo (o + 13) (.slice (some ⟨q, 0, none⟩) (Gjf.len + 1) cap));go_simp;clear c3 c4;refine hK.out _ _ (HS.out _ _ _ _ _ HA5.out) (fun hHeld => ?_);clear hK K;try simp only [xS]
     refine wpAnyH_done (by kernel_rfl) ?_ _;go_wp2_with fail
     go_end0
     exact ⟨_, _, _, _, rfl, (gs_items HG1.out HNV1.out (fun e => by cases e) HA5.out).of_below HB1.out HHO.out, rfl, HP.out _⟩
    ·obtain ⟨c3, c4⟩ := HA3.out.cell HCF.out;have HA6 := xH (HA3.out.fld hqo (o + 13) (.slice (some ⟨q, 0, none⟩) (Gjf.len + 1) cap));go_simp;clear c3 c4;refine hK.out _ _ (HS.out _ _ _ _ _ HA6.out) (fun hHeld => ?_);clear hK K;try simp only [xS]
     refine xD 9 rfl (fun K hK => ?_);refine held_ap_elem rfl rfl _ _ rfl HA6.out rfl l HN1.out rfl (jP Gjf) hqg ?_;intro W7 ha;have HA7 := xH ha;clear ha;refine hK.out _ _ (HS.out _ _ _ _ _ HA7.out) (fun hHeld => ?_);clear hK K;try simp only [xS]
     refine wpAnyH_done (by kernel_rfl) ?_ _;go_wp2_with fail
     go_end0
     exact ⟨_, _, _, _, rfl, (gs_items HG1.out HNV1.out (fun e => by cases e) HA7.out).of_below HB1.out HHO.out, rfl, HP.out _⟩
   ·go_simp;generalize hA : World.alloc _ _ = W8;obtain ⟨hz, hbn⟩ := zc_cells hA;clear hA;have HZ := xH hz;have HA8 := xH (HA0.out.below hbn);clear hz hbn;refine hK.out _ _ (HS.out _ _ _ _ _ HA8.out) (fun hHeld => ?_);clear hK K;try simp only [xS]
    refine xD 3 rfl (fun K hK => ?_);have c9 := (HA8.out.cell HCF.out).1;go_simp;clear c9;refine hK.out _ _ (HS.out _ _ _ _ _ HA8.out) (fun hHeld => ?_);clear hK K;try simp only [xS]
    refine xT 5 rfl ?_ ?_ ?_;rotate_left
    ·intro w' hSw;go_simp;try rfl
    simp only [xS];refine xD 7 rfl (fun K hK => ?_);refine held_ap_append rfl _ _ rfl HA8.out rfl _ rfl HZ.out (by omega) HNE.out (Nat.le_trans hbs HA8.out.ch.size) ?_;intro q cap W10 ha hqg hqo;have HA10 := xH ha;clear ha HZ;refine hK.out _ _ (HS.out _ _ _ _ _ HA10.out) (fun hHeld => ?_);clear hK K;try simp only [xS]
    have hidx : (Gjf.len : Int) < (Gjf.len : Int) + 1 := by omega
    have hadd : (⟨q, 0, none⟩ : Addr).add (Gjf.len * 12) = ⟨q, Gjf.len * 12, none⟩ := by rw [add_plain, Nat.zero_add]
    refine xT 8 rfl ?_ ?_ ?_;rotate_left
    ·intro w' hSw;go_simp;try rfl
    simp only [xS];refine xT 10 rfl ?_ ?_ ?_;rotate_left
    ·intro w' hSw;go_simp;try rfl
    simp only [xS];refine xT 11 rfl ?_ ?_ ?_;rotate_left
    ·intro w' hSw;go_simp;try rfl
    simp only [xS];refine wpAnyH_ready (rs := [9, 12]) (by kernel_rfl) (by simp) ?_;refine AllReadyH.cons rfl (fun K hK => ?_) (AllReadyH.cons rfl (fun K hK => ?_) AllReadyH.nil)
    ·refine held_ap_elem rfl rfl _ _ rfl HA10.out rfl l HN1.out rfl (jP Gjf) hqg ?_;intro W11 ha;have HA11 := xH ha;clear ha;refine hK.out _ _ (HS.out _ _ _ _ _ HA11.out) (fun hHeld => ?_);clear hK K;try simp only [xS]
     refine xD 12 rfl (fun K hK => ?_);obtain ⟨c3, c4⟩ := HA11.out.cell HCF.out;have HA12 := xH (HA11.out.fld hqo (o + 13) (.slice (some ⟨q, 0, none⟩) (Gjf.len + 1) cap));go_simp;clear c3 c4;refine hK.out _ _ (HS.out _ _ _ _ _ HA12.out) (fun hHeld => ?_);clear hK K;try simp only [xS]
     refine wpAnyH_done (by kernel_rfl) ?_ _;go_wp2_with fail
     go_end0
     exact ⟨_, _, _, _, rfl, (gs_items HG1.out HNV1.out (fun e => by cases e) HA12.out).of_below HB1.out HHO.out, rfl, HP.out _⟩
    ·obtain ⟨c3, c4⟩ := HA10.out.cell HCF.out;have HA13 := xH (HA10.out.fld hqo (o + 13) (.slice (some ⟨q, 0, none⟩) (Gjf.len + 1) cap));go_simp;clear c3 c4;refine hK.out _ _ (HS.out _ _ _ _ _ HA13.out) (fun hHeld => ?_);clear hK K;try simp only [xS]
     refine xD 9 rfl (fun K hK => ?_);refine held_ap_elem rfl rfl _ _ rfl HA13.out rfl l HN1.out rfl (jP Gjf) hqg ?_;intro W14 ha;have HA14 := xH ha;clear ha;refine hK.out _ _ (HS.out _ _ _ _ _ HA14.out) (fun hHeld => ?_);clear hK K;try simp only [xS]
     refine wpAnyH_done (by kernel_rfl) ?_ _;go_wp2_with fail
     go_end0
     exact ⟨_, _, _, _, rfl, (gs_items HG1.out HNV1.out (fun e => by cases e) HA14.out).of_below HB1.out HHO.out, rfl, HP.out _⟩
  ·have e13 : (Gt.n == 13) = false := by simp [h13]
   clear hA h13;go_upto_region 3 with (fail)
   clear c6 c12;go_wp2_with fail
   refine wp_region_held_drew (S := fun w' => w'.heap[N0]? = some (.cells (ndC l).toArray 31)) (by kernel_rfl) HR1.out (fun hHeld => ?_);generalize hwd : w1.drew = wd at *;clear hwd;refine xT 0 rfl ?_ ?_ ?_;rotate_left
   ·intro w' hSw;go_simp;try rfl
   simp only [xS];refine xT 1 rfl ?_ ?_ ?_;rotate_left
   ·intro w' hSw;go_simp;try rfl
   simp only [xS];refine xT 2 rfl ?_ ?_ ?_;rotate_left
   ·intro w' hSw;go_simp;try rfl
   simp only [xS];refine xT 4 rfl ?_ ?_ ?_;rotate_left
   ·intro w' hSw;refine jT (x := .tmp 3) (b := N0) (off := 0) (l := l) ?_ ?_ (fun j v hj => by rw [cell_of_row _ _ _ _ _ _ hSw, Nat.zero_add]; simpa using hj) <;> rfl
   simp only [xS];refine wpAnyH_ready (rs := [3, 6]) (by kernel_rfl) (by simp) ?_;refine AllReadyH.cons rfl (fun K hK => ?_) (AllReadyH.cons rfl (fun K hK => ?_) AllReadyH.nil)
   ·have c1 := (HA0.out.cell HCF.out).1;go_simp;clear c1;refine hK.out _ _ (HS.out _ _ _ _ _ HA0.out) (fun hHeld => ?_);clear hK K;try simp only [xS]
    refine xT 5 rfl ?_ ?_ ?_;rotate_left
    ·intro w' hSw;go_simp;try rfl
    simp only [xS];refine xD 6 rfl (fun K hK => ?_);go_simp;generalize hA : World.alloc _ _ = W2;obtain ⟨hz, hbn⟩ := zc_cells hA;clear hA;have HZ := xH hz;have HA2 := xH (HA0.out.below hbn);clear hz hbn;refine hK.out _ _ (HS.out _ _ _ _ _ HA2.out) (fun hHeld => ?_);clear hK K;try simp only [xS]
    refine xD 7 rfl (fun K hK => ?_);refine held_ap_append rfl _ _ rfl HA2.out rfl _ rfl HZ.out (by omega) HNE.out (Nat.le_trans hbs HA2.out.ch.size) ?_;intro q cap W3 ha hqg hqo;have HA3 := xH ha;clear ha HZ;refine hK.out _ _ (HS.out _ _ _ _ _ HA3.out) (fun hHeld => ?_);clear hK K;try simp only [xS]
    have hidx : (Gjf.len : Int) < (Gjf.len : Int) + 1 := by omega
    have hadd : (⟨q, 0, none⟩ : Addr).add (Gjf.len * 12) = ⟨q, Gjf.len * 12, none⟩ := by rw [add_plain, Nat.zero_add]
    refine xT 8 rfl ?_ ?_ ?_;rotate_left
    ·intro w' hSw;go_simp;try rfl
    simp only [xS];refine xT 10 rfl ?_ ?_ ?_;rotate_left
    ·intro w' hSw;go_simp;try rfl
    simp only [xS];refine xT 11 rfl ?_ ?_ ?_;rotate_left
    ·intro w' hSw;go_simp;try rfl
    simp only [xS];refine wpAnyH_ready (rs := [9, 12]) (by kernel_rfl) (by simp) ?_;refine AllReadyH.cons rfl (fun K hK => ?_) (AllReadyH.cons rfl (fun K hK => ?_) AllReadyH.nil)
    ·refine held_ap_elem rfl rfl _ _ rfl HA3.out rfl l HN1.out rfl (jP Gjf) hqg ?_;intro W4 ha;have HA4 := xH ha;clear ha;refine hK.out _ _ (HS.out _ _ _ _ _ HA4.out) (fun hHeld => ?_);clear hK K;try simp only [xS]
     refine xD 12 rfl (fun K hK => ?_);obtain ⟨c3, c4⟩ := HA4.out.cell HCF.out;have HA5 := xH (HA4.out.fld hqo (o + 13) (.slice (some ⟨q, 0, none⟩) (Gjf.len + 1) cap));go_simp;clear c3 c4;refine hK.out _ _ (HS.out _ _ _ _ _ HA5.out) (fun hHeld => ?_);clear hK K;try simp only [xS]
     refine wpAnyH_done (by kernel_rfl) ?_ _;go_wp2_with fail
     go_end0
     exact ⟨_, _, _, _, rfl, (gs_items HG1.out HNV1.out (fun e => by cases e) HA5.out).of_below HB1.out HHO.out, rfl, HP.out _⟩
    ·obtain ⟨c3, c4⟩ := HA3.out.cell HCF.out;have HA6 := xH (HA3.out.fld hqo (o + 13) (.slice (some ⟨q, 0, none⟩) (Gjf.len + 1) cap));go_simp;clear c3 c4;refine hK.out _ _ (HS.out _ _ _ _ _ HA6.out) (fun hHeld => ?_);clear hK K;try simp only [xS]
     refine xD 9 rfl (fun K hK => ?_);refine held_ap_elem rfl rfl _ _ rfl HA6.out rfl l HN1.out rfl (jP Gjf) hqg ?_;intro W7 ha;have HA7 := xH ha;clear ha;refine hK.out _ _ (HS.out _ _ _ _ _ HA7.out) (fun hHeld => ?_);clear hK K;try simp only [xS]
     refine wpAnyH_done (by kernel_rfl) ?_ _;go_wp2_with fail
     go_end0
     exact ⟨_, _, _, _, rfl, (gs_items HG1.out HNV1.out (fun e => by cases e) HA7.out).of_below HB1.out HHO.out, rfl, HP.out _⟩
   ·go_simp;generalize hA : World.alloc _ _ = W8;obtain ⟨hz, hbn⟩ := zc_cells hA;clear hA;have HZ := xH hz;have HA8 := xH (HA0.out.below hbn);clear hz hbn;refine hK.out _ _ (HS.out _ _ _ _ _ HA8.out) (fun hHeld => ?_);clear hK K;try simp only [xS]
    refine xD 3 rfl (fun K hK => ?_);have c9 := (HA8.out.cell HCF.out).1;go_simp;clear c9;refine hK.out _ _ (HS.out _ _ _ _ _ HA8.out) (fun hHeld => ?_);clear hK K;try simp only [xS]
    refine xT 5 rfl ?_ ?_ ?_;rotate_left
    ·intro w' hSw;go_simp;try rfl
    simp only [xS];refine xD 7 rfl (fun K hK => ?_);refine held_ap_append rfl _ _ rfl HA8.out rfl _ rfl HZ.out (by omega) HNE.out (Nat.le_trans hbs HA8.out.ch.size) ?_;intro q cap W10 ha hqg hqo;have HA10 := xH ha;clear ha HZ;refine hK.out _ _ (HS.out _ _ _ _ _ HA10.out) (fun hHeld => ?_);clear hK K;try simp only [xS]
    have hidx : (Gjf.len : Int) < (Gjf.len : Int) + 1 := by omega
    have hadd : (⟨q, 0, none⟩ : Addr).add (Gjf.len * 12) = ⟨q, Gjf.len * 12, none⟩ := by rw [add_plain, Nat.zero_add]
    refine xT 8 rfl ?_ ?_ ?_;rotate_left
    ·intro w' hSw;go_simp;try rfl
    simp only [xS];refine xT 10 rfl ?_ ?_ ?_;rotate_left
    ·intro w' hSw;go_simp;try rfl
    simp only [xS];refine xT 11 rfl ?_ ?_ ?_;rotate_left
    ·intro w' hSw;go_simp;try rfl
    simp only [xS];refine wpAnyH_ready (rs := [9, 12]) (by kernel_rfl) (by simp) ?_;refine AllReadyH.cons rfl (fun K hK => ?_) (AllReadyH.cons rfl (fun K hK => ?_) AllReadyH.nil)
    ·refine held_ap_elem rfl rfl _ _ rfl HA10.out rfl l HN1.out rfl (jP Gjf) hqg ?_;intro W11 ha;have HA11 := xH ha;clear ha;refine hK.out _ _ (HS.out _ _ _ _ _ HA11.out) (fun hHeld => ?_);clear hK K;try simp only [xS]
     refine xD 12 rfl (fun K hK => ?_);obtain ⟨c3, c4⟩ := HA11.out.cell HCF.out;have HA12 := xH (HA11.out.fld hqo (o + 13) (.slice (some ⟨q, 0, none⟩) (Gjf.len + 1) cap));go_simp;clear c3 c4;refine hK.out _ _ (HS.out _ _ _ _ _ HA12.out) (fun hHeld => ?_);clear hK K;try simp only [xS]
     refine wpAnyH_done (by kernel_rfl) ?_ _;go_wp2_with fail
     go_end0
     exact ⟨_, _, _, _, rfl, (gs_items HG1.out HNV1.out (fun e => by cases e) HA12.out).of_below HB1.out HHO.out, rfl, HP.out _⟩
    ·obtain ⟨c3, c4⟩ := HA10.out.cell HCF.out;have HA13 := xH (HA10.out.fld hqo (o + 13) (.slice (some ⟨q, 0, none⟩) (Gjf.len + 1) cap));go_simp;clear c3 c4;refine hK.out _ _ (HS.out _ _ _ _ _ HA13.out) (fun hHeld => ?_);clear hK K;try simp only [xS]
     refine xD 9 rfl (fun K hK => ?_);refine held_ap_elem rfl rfl _ _ rfl HA13.out rfl l HN1.out rfl (jP Gjf) hqg ?_;intro W14 ha;have HA14 := xH ha;clear ha;refine hK.out _ _ (HS.out _ _ _ _ _ HA14.out) (fun hHeld => ?_);clear hK K;try simp only [xS]
     refine wpAnyH_done (by kernel_rfl) ?_ _;go_wp2_with fail
     go_end0
     exact ⟨_, _, _, _, rfl, (gs_items HG1.out HNV1.out (fun e => by cases e) HA14.out).of_below HB1.out HHO.out, rfl, HP.out _⟩
end Go.Proofs.YtnpcombfgdbhkaaDoor.psw
end
