/- T -/
import Derived.BigQuiet
import Derived.Deep.QuietTactic
import Derived.Laws.MakeOwn
import Derived.Lib.QuietBelow
import Derived.Maps.AppendAt
import Derived.RegionTactic
import Derived.StillTailTactics
import Derived.Test.YtdgfclbajjjcgaaBGs12
set_option maxHeartbeats 16000000
set_option maxRecDepth 1000000
namespace Go.Proofs.Ytdgfclbajjjcgaa
section
namespace gpp
open sq
open Go trp rpp
def refF (rs : Bool) (last : Int) : F → Int → F × Int
 | .nil, most => (.nil, most)
 | .cons x k r, most =>
  let a := if rs = true then last else most
  let b := if x.kind = 14 then a + 1 else a
  let q := refF (decide (x.kind = 16)) b k b
  let t := refF rs last r (if most < q.2 then q.2 else most)
  (.cons (if x.kind = 14 then { x with n := a + 1 } else x) q.1 t.1, t.2)
def capL : F → List Lab
 | .nil => []
 | .cons x k r => (if x.kind = 14 then [x] else []) ++ capL k ++ capL r
abbrev Nm := List (ByteArray × Int)
def addR (x : Lab) (l : Nm) : Int × Nm :=
 if 60 < x.n then (12, l) else if x.name.size = 0 then (0, l)
 else if (l.any fun q => decide (q.1 = x.name) && decide (q.2 ≠ x.n)) = true then (33, l)
 else if (l.any fun q => decide (q.1 = x.name)) = true then (0, l) else (0, l ++ [(x.name, x.n)])
def nameR : Nm → List Lab → (Int × Int) × Nm
 | l, [] => ((0, 0), l)
 | l, x :: c => if (addR x l).1 ≠ 0 then (((addR x l).1, x.at_), l) else nameR (addR x l).2 c
theorem name_app (l : Nm) : ∀ a b : List Lab, nameR l (a ++ b) = if (nameR l a).1.1 ≠ 0 then nameR l a else nameR (nameR l a).2 b := by
 intro a
 induction a generalizing l with
 | nil => intro b; simp [nameR]
 | cons x c ih =>
  intro b;rw [List.cons_append, nameR, nameR];by_cases h : (addR x l).1 ≠ 0
  ·rw [if_pos h, if_pos h, if_pos h]
  ·rw [if_neg h, if_neg h, ih]
def Un (l : Nm) : Prop := ∀ n a b, (n, a) ∈ l → (n, b) ∈ l → a = b
theorem un_snoc {l : Nm} (h : Un l) {n : ByteArray} (a : Int) (hn : ∀ b, (n, b) ∉ l) : Un (l ++ [(n, a)]) := fun m b c h1 h2 => by
 simp only [List.mem_append, List.mem_cons, List.not_mem_nil, or_false, Prod.mk.injEq] at h1 h2;rcases h1 with h1 | ⟨rfl, rfl⟩
 ·rcases h2 with h2 | ⟨rfl, rfl⟩
  ·exact h m b c h1 h2
  ·exact absurd h1 (hn b)
 ·rcases h2 with h2 | ⟨-, rfl⟩
  ·exact absurd h2 (hn c)
  ·rfl
theorem look_some {l : Nm} {n : ByteArray} {k : Int} (h : nmLook l n = some k) : (n, k) ∈ l := by unfold nmLook at h;rw [Option.map_eq_some_iff] at h;obtain ⟨q, h1, rfl⟩ := h;have a := List.mem_of_find?_eq_some h1;have b := List.find?_some h1;simp only [decide_eq_true_eq] at b;rw [List.mem_reverse] at a;rw [← b];exact a
theorem look_none {l : Nm} {n : ByteArray} (h : nmLook l n = none) (b : Int) : (n, b) ∉ l := fun hm => by
 unfold nmLook at h;rw [Option.map_eq_none_iff, List.find?_eq_none] at h;exact h _ (List.mem_reverse.2 hm) (decide_eq_true rfl)
theorem any_name {l : Nm} {n : ByteArray} : (l.any fun q => decide (q.1 = n)) = true ↔ ∃ b, (n, b) ∈ l := by
 rw [List.any_eq_true];constructor
 ·rintro ⟨⟨a, b⟩, h, e⟩;rw [decide_eq_true_eq] at e;simp only at e;subst e;exact ⟨b, h⟩
 ·rintro ⟨b, h⟩;exact ⟨_, h, decide_eq_true rfl⟩
theorem any_other {l : Nm} {n : ByteArray} {k : Int} : (l.any fun q => decide (q.1 = n) && decide (q.2 ≠ k)) = true ↔ ∃ b, (n, b) ∈ l ∧ b ≠ k := by
 rw [List.any_eq_true];constructor
 ·rintro ⟨⟨a, b⟩, h, e⟩;rw [Bool.and_eq_true, decide_eq_true_eq, decide_eq_true_eq] at e;simp only at e;obtain ⟨rfl, e⟩ := e;exact ⟨b, h, e⟩
 ·rintro ⟨b, h, e⟩;exact ⟨_, h, by rw [Bool.and_eq_true, decide_eq_true_eq, decide_eq_true_eq]; exact ⟨rfl, e⟩⟩
theorem enter_add {x : Lab} {a : Int} {l : Nm} (hu : Un l) : (zy x.name (a, l)).1 = (addR { x with n := a + 1 } l).1 ∧ ((addR { x with n := a + 1 } l).1 = 0 → (zy x.name (a, l)).2 = (a + 1, (addR { x with n := a + 1 } l).2)) ∧ Un (addR { x with n := a + 1 } l).2 := by
 unfold zy addR;simp only;by_cases h1 : 60 < a + 1
 ·rw [if_pos h1, if_pos h1];exact ⟨rfl, fun e => absurd (show (12 : Int) = 0 from e) (by decide), hu⟩
 rw [if_neg h1, if_neg h1];by_cases h2 : x.name.size = 0
 ·rw [if_pos h2, if_pos h2];exact ⟨rfl, fun _ => rfl, hu⟩
 rw [if_neg h2, if_neg h2];cases hl : nmLook l x.name with
 | some k =>
  have m := look_some hl;simp only;by_cases h3 : k = a + 1
  ·rw [if_pos h3];subst h3;rw [if_neg (fun e => by obtain ⟨b, hb, ne⟩ := any_other.1 e; exact ne (hu _ _ _ hb m)), if_pos (any_name.2 ⟨_, m⟩)];exact ⟨rfl, fun _ => rfl, hu⟩
  ·rw [if_neg h3, if_pos (any_other.2 ⟨k, m, h3⟩)];exact ⟨rfl, fun e => absurd (show (33 : Int) = 0 from e) (by decide), hu⟩
 | none =>
  have m := look_none hl;simp only;rw [if_neg (fun e => by obtain ⟨b, hb, _⟩ := any_other.1 e; exact m b hb), if_neg (fun e => by obtain ⟨b, hb⟩ := any_name.1 e; exact m b hb)];exact ⟨rfl, fun _ => rfl, un_snoc hu _ m⟩
theorem ref_le : ∀ (l : F) (rs : Bool) (last most : Int), most ≤ (refF rs last l most).2
 | .nil, _, _, _ => Int.le_refl _
 | .cons x k r, rs, last, most => by rw [refF];simp only;refine Int.le_trans ?_ (ref_le r rs last _);split <;> omega
theorem ent_ref {x : Lab} {a : Int} {l : Nm} (hu : Un l) :
 let x' := if x.kind = 14 then { x with n := a + 1 } else x
 let C := nameR l (if x'.kind = 14 then [x'] else [])
 (C.1.1 ≠ 0 → (entS x (a, l)).1 = C.1.1 ∧ C.1.2 = x.at_) ∧ (C.1.1 = 0 → (entS x (a, l)).1 = 0 ∧ (entS x (a, l)).2 = (if x.kind = 14 then a + 1 else a, C.2) ∧ C.1 = (0, 0) ∧ Un C.2) ∧ entL x (a, l) = x' := by
 unfold entS entL;by_cases h : x.kind = 14
 ·obtain ⟨e1, e2, e3⟩ := enter_add (x := x) (a := a) hu;simp only [if_pos h];have hk : ({ x with n := a + 1 } : Lab).kind = 14 := h;rw [nameR];by_cases z : (addR { x with n := a + 1 } l).1 ≠ 0
  ·rw [if_pos z];exact ⟨fun _ => ⟨e1, rfl⟩, fun c => absurd c z, trivial⟩
  ·rw [if_neg z, nameR];have z := Decidable.not_not.1 z;exact ⟨fun c => absurd rfl c, fun _ => ⟨by rw [e1, z], e2 z, rfl, e3⟩, trivial⟩
 ·simp only [if_neg h];rw [nameR];refine ⟨fun c => absurd rfl c, fun _ => ?_, trivial⟩;simp [hu]
theorem num_ref : ∀ (l : F) (rs : Bool) (bef lg : Int) (s : St), (rs = false → lg = s.1) → Un s.2 →
 ((nameR s.2 (capL (refF rs bef l lg).1)).1.1 ≠ 0 → (numF rs bef l lg s).1 = (nameR s.2 (capL (refF rs bef l lg).1)).1) ∧
 ((nameR s.2 (capL (refF rs bef l lg).1)).1.1 = 0 → (numF rs bef l lg s).1 = (0, 0) ∧ (numF rs bef l lg s).2.1 = (refF rs bef l lg).1 ∧ (numF rs bef l lg s).2.2.1 = (refF rs bef l lg).2 ∧ (numF rs bef l lg s).2.2.2.2 = (nameR s.2 (capL (refF rs bef l lg).1)).2 ∧ (rs = false → (numF rs bef l lg s).2.2.2.1 = (refF rs bef l lg).2) ∧ Un (nameR s.2 (capL (refF rs bef l lg).1)).2)
 | .nil, rs, bef, lg, s, hs, hu => ⟨fun c => absurd rfl c, fun _ => ⟨rfl, rfl, rfl, rfl, fun h => (hs h).symm, hu⟩⟩
 | .cons x k r, rs, bef, lg, s, hs, hu => by
  have ha : (if rs = true then bef else s.1) = if rs = true then bef else lg := by
   cases rs with
   | false => simp [hs rfl]
   | true => rfl
  rw [refF, numF];simp only;rw [ha];generalize ha2 : (if rs = true then bef else lg) = a;obtain ⟨e1, e2, e3⟩ := ent_ref (x := x) (a := a) hu;rw [capL];generalize hx' : (if x.kind = 14 then { x with n := a + 1 } else x) = x' at *;generalize hb : (if x.kind = 14 then a + 1 else a) = b at *;rw [e3, List.append_assoc, name_app];generalize hC : nameR s.2 (if x'.kind = 14 then [x'] else []) = C at *;by_cases c0 : C.1.1 ≠ 0
  ·obtain ⟨f1, f2⟩ := e1 c0;rw [if_pos c0, if_pos (show (entS x (a, s.2)).1 ≠ 0 by rw [f1]; exact c0)];exact ⟨fun _ => by rw [f1, ← f2], fun h => absurd h c0⟩
  obtain ⟨f1, f2, f3, f4⟩ := e2 (Decidable.not_not.1 c0);rw [if_neg c0, if_neg (show ¬ (entS x (a, s.2)).1 ≠ 0 from fun h => h f1), f2];simp only;have hab : a ≤ b := by rw [← hb]; split <;> omega
  obtain ⟨g1, g2⟩ := num_ref k (decide (x.kind = 16)) b b (b, C.2) (fun _ => rfl) f4;have gl := ref_le k (decide (x.kind = 16)) b b;simp only at g1 g2;rw [name_app];generalize hR : refF (decide (x.kind = 16)) b k b = R at *;generalize hD : nameR C.2 (capL R.1) = D at *;generalize numF (decide (x.kind = 16)) b k b (b, C.2) = q at *;by_cases d0 : D.1.1 ≠ 0
  ·rw [if_pos d0];have := g1 d0;rw [if_pos (show q.1.1 ≠ 0 by rw [this]; exact d0)];exact ⟨fun _ => this, fun h => absurd h d0⟩
  obtain ⟨k1, k2, k3, k4, -, k6⟩ := g2 (Decidable.not_not.1 d0);rw [if_neg d0, if_neg (show ¬ q.1.1 ≠ 0 by rw [k1]; exact fun h => h rfl), k2, k3, k4];have hmx : max lg R.2 = if lg < R.2 then R.2 else lg := by split <;> omega
  rw [hmx];obtain ⟨m1, m2⟩ := num_ref r rs bef (if lg < R.2 then R.2 else lg) (R.2, D.2) (fun h => by subst h;simp only [Bool.false_eq_true, if_false] at ha2;split <;> omega) k6
  simp only at m1 m2;refine ⟨fun h => m1 h, fun h => ?_⟩;obtain ⟨n1, n2, n3, n4, n5, n6⟩ := m2 h;exact ⟨n1, by rw [n2], n3, n4, n5, n6⟩
theorem num_00 (x : Lab) (k : F) (s : St) (h : (numN x k s).1.1 = 0) : (numN x k s).1 = (0, 0) := by
 unfold numN at h ⊢;simp only at h ⊢;by_cases h1 : (entS x s).1 ≠ 0
 ·rw [if_pos h1] at h;exact absurd h h1
 rw [if_neg h1] at h ⊢;generalize numF (decide (x.kind = 16)) (entS x s).2.1 k (entS x s).2.1 (entS x s).2 = q at *;by_cases h2 : q.1.1 ≠ 0
 ·rw [if_pos h2] at h;exact absurd h h2
 rw [if_neg h2]
theorem number_ref (t : Nd) :
 ((nameR [] (capL (refF false 0 (.cons t.1 t.2 .nil) 0).1)).1.1 ≠ 0 → (qH t).1 = (nameR [] (capL (refF false 0 (.cons t.1 t.2 .nil) 0).1)).1) ∧
 ((nameR [] (capL (refF false 0 (.cons t.1 t.2 .nil) 0).1)).1.1 = 0 → (qH t).1 = (0, 0) ∧ F.one (qH t).2.1.1 (qH t).2.1.2 = (refF false 0 (.cons t.1 t.2 .nil) 0).1 ∧ (qH t).2.2 = ((refF false 0 (.cons t.1 t.2 .nil) 0).2, (nameR [] (capL (refF false 0 (.cons t.1 t.2 .nil) 0).1)).2)) := by
 obtain ⟨a, b⟩ := num_ref (.cons t.1 t.2 .nil) false 0 0 (0, []) (fun _ => rfl) (fun _ _ _ h => by cases h);rw [numF_cons] at a b;simp only [Bool.false_eq_true, if_false] at a b;show ((_ → (numN t.1 t.2 (0, [])).1 = _) ∧ (_ → (numN t.1 t.2 (0, [])).1 = (0, 0) ∧ F.one (numN t.1 t.2 (0, [])).2.1.1 (numN t.1 t.2 (0, [])).2.1.2 = _ ∧ (numN t.1 t.2 (0, [])).2.2 = _));have h00 := num_00 t.1 t.2 (0, []);generalize numN t.1 t.2 (0, []) = q at *;generalize refF false 0 (.cons t.1 t.2 .nil) 0 = R at *;generalize nameR [] (capL R.1) = C at *;by_cases h : q.1.1 ≠ 0
 ·rw [if_pos h] at a b;refine ⟨a, fun c => ?_⟩;have z : q.1 = (0, 0) := (b c).1;exact absurd (by rw [z]) h
 ·rw [if_neg h] at a b;refine ⟨fun c => ?_, fun c => ?_⟩
  ·have z : ((0 : Int), (0 : Int)) = C.1 := a c;exact absurd (by rw [← z]) c
  ·obtain ⟨-, b2, -, b4, b5, -⟩ := b c;refine ⟨?_, b2, ?_⟩
   ·exact h00 (Decidable.not_not.1 h)
   ·exact Prod.ext (b5 trivial) b4
end gpp
end
section
namespace gqw
open sq
open Go.Sort Go Go.RowKit Go.Maps setp setw tkp trp trw rpp rsp gpp sq
open rpw (sees jB qU qp jH qh)
open rsw (Old hx OwnH hN nd_unN nd_fld qV NodB)
structure RF (h : Nat → Bool) (x : Lab) (j : F) (w w0 : World) : Prop where
 b : Below w.heap.size w w0
 n : w0.heap[w.heap.size]? = some (.cells (ndC x).toArray 27 (0, 0))
 r : w0.heap[w.heap.size + 1]? = some (.cells zC.toArray 27 (0, 0))
 t : NdAt (sees (hN h (w.heap.size + 1)) w0) (x, j)
 o : Old (hN h (w.heap.size + 1)) w0.heap.size
 s : w.heap.size + 2 ≤ w0.heap.size
theorem rf_start {h : Nat → Bool} {x : Lab} {j : F} {w : World} (ho : Old h w.heap.size) (hn : NdAt (sees h w) (x, j)) : RF h x j w ((w.alloc (.cells (ndC x).toArray 27)).alloc (.cells zC.toArray 27)) := by
 have z1 := World.size_alloc w (.cells (ndC x).toArray 27);have z2 := World.size_alloc (w.alloc (.cells (ndC x).toArray 27)) (.cells zC.toArray 27);have b1 := qg w (.cells (ndC x).toArray 27);have b2 := qg (w.alloc (.cells (ndC x).toArray 27)) (.cells zC.toArray 27);have g1 := heap_alloc_new w (.cells (ndC x).toArray 27);have g2 := heap_alloc_new (w.alloc (.cells (ndC x).toArray 27)) (.cells zC.toArray 27);rw [z1] at g2 z2;have hb := qi b1 b2;refine ⟨hb, (b2.block _ (by omega)).trans g1, g2, qY (qU fun a v k1 hc => ⟨?_, trw.qf hb hc⟩) hn, fun i hi => ?_, by omega⟩
 ·have := cell_lt hc;simp only [hN, k1, Bool.false_or, Bool.or_eq_false_iff, decide_eq_false_iff_not];omega
 ·simp only [hN, Bool.or_eq_true, decide_eq_true_eq] at hi;rcases hi with (hi | hi) | hi
  ·have := ho i hi;omega
  ·omega
  ·omega
theorem RF.below {h : Nat → Bool} {x : Lab} {j : F} {w w0 w1 : World} (hf : RF h x j w w0) (hb : Below w0.heap.size w0 w1) : RF h x j w w1 := by have hs := hf.s;exact ⟨qi hf.b hb, (hb.block _ (by omega)).trans hf.n, (hb.block _ (by omega)).trans hf.r, qV hb hf.t, hf.o.le hb.size, Nat.le_trans hs hb.size⟩
theorem RF.fld {h : Nat → Bool} {x : Lab} {j k : F} {w w0 : World} (hf : RF h x j w w0) (o : Nat) (v : Value) (L : Lab) (hL : (ndC x).toArray.setIfInBounds o v = (ndC L).toArray) (hok : LabOk L) (hs : L.sv = x.sv) (hs2 : L.set = x.set) (hk : jr (sees (hN h (w.heap.size + 1)) w0) L.kv k) : RF h L k w (w0.setCell ⟨w.heap.size, o, none⟩ v) := by
 have hz : (w0.setCell ⟨w.heap.size, o, none⟩ v).heap.size = w0.heap.size := by simp [World.setCell]
 refine ⟨hf.b.setCell (xL _) _, ?_, (heap_setCell_other w0 ⟨w.heap.size, o, none⟩ (w.heap.size + 1) v (show w.heap.size + 1 ≠ w.heap.size by omega)).trans hf.r, nd_fld (t := (L, k)) ⟨hok, by rw [show (L, k).1.sv = x.sv from hs, show (L, k).1.set = x.set from hs2]; exact hf.t.2.1, hk⟩, by rw [hz]; exact hf.o, by rw [hz]; exact hf.s⟩;have := tkw.heap_set (o := o) (v := v) hf.n;rw [hL] at this;exact this
theorem RF.fin {h : Nat → Bool} {L : Lab} {j : F} {w w0 : World} {r : F × Int} {e : Int} (hf : RF h L j w w0) (hs : strip (F.one L j) = r.1) (he : e = r.2) : NodB h r w (.returned (.tuple #[ndV L, .int .i64 e])) (w0.setRow (w.heap.size + 1) (ndC L).toArray) :=
 ⟨rpw.qC hf.b _ (Nat.le_succ _), L, j, by rw [he], nd_unN hf.t, hs⟩
theorem wpList_store_ny {ops : Array Oper} {rest : List Oper} {o : Oper} {a : Act} {w : World} {Q : Exit → Act → World → Prop} (hgd : o.guard = none) (hd : o.dst = none) (x y : Operand) (ho : o.op = .store 27 x y)
 (g : Nat) (hx : a.eval x = .pointer (some ⟨g, 0, none⟩)) (old : Array Value) (l : Lab) (hg : w.heap[g]? = some (.cells old 27 (0, 0))) (hs : old.size = 12) (h1 : ∀ u ∈ ndC l, u.oneCell' = true) (hy : a.eval y = ndV l)
 (h : ∀ w', Hid (w' = w.setRow g (ndC l).toArray) → wpList Try.prog ops Q rest a w') : wpList Try.prog ops Q (o :: rest) a w :=
 qh hgd hd x y ho g hx old l hg hs h1 hy (h _ (xH rfl))
def refN (x : Lab) (k : F) (last : Int) : F × Int :=
 let b := if x.kind = 14 then last + 1 else last
 let q := refF (decide (x.kind = 16)) b (strip k) b
 (F.one (if x.kind = 14 then { bare x with n := last + 1 } else bare x) q.1, q.2)
theorem refF_cons (rs : Bool) (last : Int) (x : Lab) (k r : F) (most : Int) : refF rs last (strip (.cons x k r)) most =
 (F.app (refN x k (if rs = true then last else most)).1 (refF rs last (strip r) (if most < (refN x k (if rs = true then last else most)).2 then (refN x k (if rs = true then last else most)).2 else most)).1,
  (refF rs last (strip r) (if most < (refN x k (if rs = true then last else most)).2 then (refN x k (if rs = true then last else most)).2 else most)).2) := by
 rw [strip, refF];rfl
theorem ref_hi : ∀ (l : F) (rs : Bool) (last most : Int), last ≤ most → (refF rs last l most).2 ≤ most + l.size
 | .nil, _, _, most, _ => by simp [refF, F.size]
 | .cons x k r, rs, last, most, h => by
  rw [refF];simp only;generalize ha : (if rs = true then last else most) = a;have ha : a ≤ most := by rw [← ha]; split <;> omega
  generalize hb : (if x.kind = 14 then a + 1 else a) = b;have hb : b ≤ a + 1 := by rw [← hb]; split <;> omega
  have h1 := ref_hi k (decide (x.kind = 16)) b b (Int.le_refl _);generalize refF (decide (x.kind = 16)) b k b = q at *;generalize hm : (if most < q.2 then q.2 else most) = m;have hm1 : most ≤ m ∧ m ≤ most + 1 + k.size := by rw [← hm]; split <;> omega
  have h2 := ref_hi r rs last m (by omega);rw [F.size];omega
theorem refN_hi (x : Lab) (k : F) (last : Int) : last ≤ (refN x k last).2 ∧ (refN x k last).2 ≤ last + 1 + k.size := by
 unfold refN;simp only;generalize hb : (if x.kind = 14 then last + 1 else last) = b;have hb : last ≤ b ∧ b ≤ last + 1 := by rw [← hb]; split <;> omega
 have h1 := ref_hi (strip k) (decide (x.kind = 16)) b b (Int.le_refl _);have h2 := ref_le (strip k) (decide (x.kind = 16)) b b;rw [rsp.strip_size] at h1;omega
def NumC (k : F) : Prop := ∀ (x : Lab) (last : Int) (w : World) (h : Nat → Bool), Old h w.heap.size → NdAt (sees h w) (x, k) → 0 ≤ last → last + k.size < 100000 → Calls Try.prog 37 #[ndV x, .int .i64 last] w (NodB h (refN x k last) w)
def NumRel (h : Nat → Bool) (k : F) (rs : Bool) (b : Int) (R : F × Int) (w0 : World) (vm vo vi : Value) (wr : World) : Prop :=
 ∃ (i : Nat) (m : Int) (g : F), vm = .int .i64 m ∧ vi = .int .i64 i ∧ i ≤ k.len ∧ g.len = i ∧ b ≤ m ∧ m + (k.drop i).size ≤ 100000 ∧ Hid (OwnH h w0.heap.size wr vo g) ∧ Hid (Below w0.heap.size w0 wr) ∧ Hid ((F.app (strip g) (refF rs b (strip (k.drop i)) m).1, (refF rs b (strip (k.drop i)) m).2) = R)
end gqw
end
section
namespace gqw
open sq
open Go.Sort Go Go.RowKit Go.Maps setp setw tkp trp trw rpp rsp gpp sq
open rpw (sees jB qU own_below qp jH qh ql jc qI)
open rsw (Old hx hx_old OwnH ownH_nil ownH_below ownH_kids wpList_append_h row1_kids hN qV zY sees_to old_add vG qZ NodB drop_size)
theorem num_of {k : F} (hN' : ∀ k' : F, k'.size < k.size → NumC k') : NumC k := by
 intro x last w h hold hnd h0 hl;have HN := xH hN';have HF0 := xH (rf_start hold hnd);obtain ⟨R, hR⟩ : ∃ R, refN x k last = R := ⟨_, rfl⟩;rw [hR];obtain ⟨b, hb⟩ : ∃ b : Int, (if x.kind = 14 then last + 1 else last) = b := ⟨_, rfl⟩;obtain ⟨L, hL⟩ : ∃ L : Lab, (if x.kind = 14 then { x with n := last + 1 } else x) = L := ⟨_, rfl⟩;obtain ⟨rs, hrs⟩ : ∃ rs : Bool, decide (x.kind = 16) = rs := ⟨_, rfl⟩;obtain ⟨Q, hQ⟩ : ∃ Q : F × Int, refF rs b (strip k) b = Q := ⟨_, rfl⟩;have HR1 := xH (show R = (F.one (bare L) Q.1, Q.2) from by rw [← hR, ← hQ, ← hL, ← hb, ← hrs];unfold refN;simp only;split <;> rfl)
 have HKL := xH (show L.kind = x.kind ∧ L.kv = x.kv by rw [← hL]; split <;> exact ⟨rfl, rfl⟩);have hb1 : last ≤ b ∧ b ≤ last + 1 := by rw [← hb]; split <;> omega
 have HLAB := xH hnd.1;obtain ⟨ka, kq, hkv⟩ := kids_len hnd.2.2;have HKV := xH hkv;have hkl : k.len ≤ 100000 := by have := rsp.len_size k; omega
 have HRS := xH hrs;have HQ := xH hQ;clear hold hnd hR hN' hkv hrs hQ;unfold ndC zC at HF0;go_enter Try.func37, Try.ntmps37;unfold ndV;go_upto_region 1 with (fail)
 generalize (w.alloc _).alloc _ = w0 at *;have e0 : w0.cell? ⟨w.heap.size, 0, none⟩ = some (.int .i64 x.kind) := by unfold World.cell?; rw [HF0.out.n]; rfl
 have e5 : w0.cell? ⟨w.heap.size, 5, none⟩ = some (.int .i64 x.n) := by unfold World.cell?; rw [HF0.out.n]; rfl
 have z5 : w0.frozen? ⟨w.heap.size, 5, none⟩ = false := by unfold World.frozen?; rw [HF0.out.n]; rfl
 go_upto_if 14 with (fail)
 go_cut [1] (fun v1 wx => v1 = .int .i64 b ∧ Hid (RF h L k w wx))
 case first =>
  by_cases h14 : x.kind = 14
  ·have b14 : (x.kind == 14) = true := by simp [h14]
   rw [if_pos h14] at hb hL;have HF1 := xH (HF0.out.fld 5 (.int .i64 (last + 1)) L (by rw [← hL]; rfl) (by
    rw [← hL];obtain ⟨a1, a2, a3, a4, a5, a6, a7, a8⟩ := HLAB.out;exact ⟨a1, a2, a3, by show I64 (last + 1); unfold I64; omega, a5, a6, a7, a8⟩) (by rw [← hL]) (by rw [← hL]) (by rw [← hL]; exact HF0.out.t.2.2))
   clear h14 hL;rw [hb] at HF1;go_wp2_with fail
   go_meet
   exact ⟨by first | rfl | rw [hb], HF1⟩
  ·have b14 : (x.kind == 14) = false := by simp [h14]
   rw [if_neg h14] at hb hL;have HF1 := xH (show RF h L k w w0 from hL ▸ HF0.out);clear h14 hL;go_wp2_with fail
   go_meet
   exact ⟨by first | rfl | rw [hb], HF1⟩
 case rest =>
  obtain ⟨rfl, HF1⟩ := hcut;generalize wc = w1 at *;clear e0 e5 z5 HF0 hb hL;have HR0 := xH (show (F.app (strip F.nil) (refF rs b (strip (k.drop 0)) b).1, (refF rs b (strip (k.drop 0)) b).2) = Q from by rw [drop_zero, ← HQ.out]; rfl);have e11 : w1.cell? ⟨w.heap.size, 11, none⟩ = some (.slice ka k.len kq) := by unfold World.cell?; rw [HF1.out.n]; show some L.kv = _; rw [HKL.out.2, HKV.out]
  have HKK := xH (show jr (sees (hN h (w.heap.size + 1)) w1) (.slice ka k.len kq) k from by have := HF1.out.t.2.2; rw [HKL.out.2, HKV.out] at this; exact this);have e0 : w1.cell? ⟨w.heap.size, 0, none⟩ = some (.int .i64 x.kind) := by unfold World.cell?; rw [HF1.out.n, ← HKL.out.1]; rfl
  have b16 : (x.kind == 16) = rs := by rw [← HRS.out]; rfl
  go_wp2_with fail
  go_loopw [6, 7, 8] (fun vm vo vi wr => NumRel (hN h (w.heap.size + 1)) k rs b Q w1 vm vo vi wr) (fun _ _ vi _ => k.len - (intOf vi).toNat)
  case atStart => exact ⟨0, b, F.nil, rfl, rfl, Nat.zero_le _, rfl, Int.le_refl _, by rw [drop_zero]; omega, xH (ownH_nil _ _ _), xH (Below.refl _ _), HR0⟩
  case round =>
   obtain ⟨i, m, g, rfl, rfl, hi, hg, hbm, hsz, hO, hB, hR⟩ := hrel;have HO := xH hO.out;have HB := xH hB.out;have HR := xH hR.out;have HG := xH hg;clear hO hB hR hg HR0;have d0 := trw.qf HB.out e0;have d11 := trw.qf HB.out e11;by_cases hlt : i < k.len
   ·obtain ⟨x', k', r, hd⟩ := drop_lt hlt;obtain ⟨b1, o, cap', hv, hc1, hc2, hil, hfa⟩ := kid_at HKK.out hd;cases hv;obtain ⟨fr, hfr⟩ : ∃ fr : Int, (if rs = true then b else m) = fr := ⟨_, rfl⟩;have hf1 : 0 ≤ fr ∧ fr ≤ m := by rw [← hfr]; split <;> omega
    have hds := drop_size hd;have HS := xH (size_lt hd);have HE := xH (fun j v hj => trw.qf HB.out (sees_to (hfa.1 j v hj)));have HX := xH (qY (zY HB.out (xL _) (fun q hq => (own_below HO.out.1 hq).1)) (fAt_head hfa));have HOXX := xH (fun (W : World) (hw : Below wr.heap.size wr W) => hx_old (v := u7) (m := W.heap.size) HF1.out.o (Nat.le_trans HB.out.size hw.size) HO.out.1 hw.size);obtain ⟨t, ht⟩ : ∃ t, refN x' k' fr = t := ⟨_, rfl⟩;have HT := xH ht;have ht2 := refN_hi x' k' fr;rw [ht] at ht2;have HCall := xH (show ∀ W (h2 : Nat → Bool), Old h2 W.heap.size → NdAt (sees h2 W) (x', k') → Calls Try.prog 37 #[ndV x', .int .i64 fr] W (NodB h2 t W) from fun W h2 ho2 hn2 => ht ▸ HN.out k' HS.out x' fr W h2 ho2 hn2 hf1.1 (by omega));have HD := xH hd;have a1 := add_row b1 o i 12;clear hd hfa ht;have i1 : (i : Int) < (k.len : Int) := by omega
    go_upto_if 30 with (fail)
    go_cut [9] from 20 to 49 (fun v9 wy => v9 = .int .i64 fr ∧ wr = wy)
    case first =>
     cases rs
     ·rw [if_neg (by decide)] at hfr;go_wp2_with fail
      go_meet
      exact ⟨by rw [← hfr], rfl⟩
     ·rw [if_pos rfl] at hfr;go_wp2_with fail
      go_meet
      exact ⟨by rw [← hfr], rfl⟩
    case rest =>
     obtain ⟨rfl, rfl⟩ := hcut;go_wp2_with (first
      | (refine jv rfl _ rfl b1 (o + i * 12) rfl x' HE.out ?_)
      | (refine (HCall.out _ (hx (hN h (w.heap.size + 1)) u7) (HOXX.out _ (Below.refl _ _)) HX.out).mono ?_))
     rintro e w2 ⟨hb2, y, j, rfl, hn2, hst2⟩;have HT4 := xH hst2;have HB2 := xH hb2;have HY := xH (qp hn2);have HG2 := xH (heap_alloc_new w2 (.cells zC.toArray 27));have HST := xH (show ∀ w4, w4 = (w2.alloc (.cells zC.toArray 27)).setRow w2.heap.size (ndC y).toArray → Below w2.heap.size w2 w4 ∧ w4.heap[w2.heap.size]? = some (.cells (ndC y).toArray 27 (0, 0)) from fun w4 h4 => by subst h4;exact ⟨rpw.jU w2 _ _ _, setRow_heap _ _ _ _ _ _ (heap_alloc_new w2 _)⟩)
     have HNY := xH hn2;unfold zC at HG2 HST;clear hb2 hn2 hst2;dsimp only;go_upto_region 13 with (refine wpList_store_ny rfl rfl _ _ rfl w2.heap.size rfl _ y HG2.out rfl HY.out rfl ?_; intro w4 h4; obtain ⟨hb4, hg4⟩ := HST.out w4 h4.out; have HB24 := xH hb4; have HG4 := xH hg4; clear h4 hb4 hg4)
     have HB4 := xH (qi HB2.out HB24.out);have HN4 := xH (qV HB24.out HNY.out);generalize w2.heap.size = B at *;clear HNY HB2 HB24 HG2 HST;have HO4 := xH (ownH_below HO.out HB4.out);have HB5 := xH (HB.out.trans (HB4.out.mono HB.out.size));have HOX4 := xH (HOXX.out w4 HB4.out);have H1 := xH (qp HN4.out);have HLN := xH (show g.len + (F.one y j).len ≤ 200000 by rw [HG.out]; simp only [F.one, F.len]; omega);obtain ⟨Z, hZ⟩ : ∃ Z, w4.heap.size = Z := ⟨_, rfl⟩;have HZZ := xH hZ;have HKD := xH (show ∀ w17, w17 = w4.alloc (.cells (ndC y).toArray 27) → jr (sees (hx (hN h (w.heap.size + 1)) u7) w17) (.slice (some ⟨Z, 0, none⟩) 1 1) (F.one y j) from fun w17 h17 => by subst h17;have := row1_kids HN4.out HOX4.out;rw [hZ] at this;exact this)
     have HNX := xH (show F.app (strip (F.app g (F.one y j))) (refF rs b (strip (k.drop (i + 1))) (if m < t.2 then t.2 else m)).1 = Q.1 ∧ (refF rs b (strip (k.drop (i + 1))) (if m < t.2 then t.2 else m)).2 = Q.2 from by rw [← HR.out, HD.out, refF_cons, hfr, HT.out, ← drop_succ HD.out, jH, HT4.out];exact ⟨app_assoc _ _ _, rfl⟩)
     obtain ⟨m2, hm2⟩ : ∃ m2 : Int, (if m < t.2 then t.2 else m) = m2 := ⟨_, rfl⟩;rw [hm2] at HNX;have hm3 : b ≤ m2 ∧ m2 + (k.drop (i + 1)).size ≤ 100000 := by rw [← hm2]; split <;> omega
     clear hZ HCall HOXX HX HE HKV HO HB HB4 HOX4 HN4 d0 d11 hfr HT HT4 HR HD hds;go_upto_region 14 with (first
      | (refine ql rfl _ rfl B rfl y HG4.out ?_)
      | (refine jc rfl _ rfl y rfl Z HZZ.out ?_; intro w17 h17; have HO17 := xH (ownH_below HO4.out (h17.out ▸ qg w4 _)); have HK17 := xH (HKD.out w17 h17.out); have HB17 := xH (HB5.out.trans ((show Below w4.heap.size w4 w17 from h17.out ▸ qg w4 _).mono HB5.out.size)); have HS17 := xH (show w1.heap.size ≤ w17.heap.size from HB17.out.size); clear h17)
      | (at_builtin; refine wpList_append_h rfl _ _ rfl (hN h (w.heap.size + 1)) w1.heap.size u7 g rfl HO17.out HF1.out.o _ (F.one y j) rfl HK17.out HLN.out HS17.out ?_; intro v18 w18 h18 hb18; have HO18 := xH h18; have HB18 := xH (HB17.out.trans hb18); clear h18 hb18))
     have hi1 : i + 1 ≤ k.len := by omega
     by_cases hgt : m < t.2
     ·rw [if_pos hgt] at hm2;exact z57
     ·rw [if_neg hgt] at hm2;exact z57
   ·have HE := xH (show k.drop i = .nil from drop_end (by omega));have hd : decide (i < k.len) = false := by simpa using hlt
    have HQ2 := xH (show strip g = Q.1 ∧ m = Q.2 from by have := HR.out;rw [HE.out] at this;rw [← this];show strip g = F.app (strip g) .nil ∧ m = m;rw [app_nil];exact ⟨rfl, rfl⟩)
    have HF2 := xH (HF1.out.below HB.out);have z11 : wr.frozen? ⟨w.heap.size, 11, none⟩ = false := by unfold World.frozen?; rw [HF2.out.n]; rfl
    obtain ⟨qa, qc, rfl⟩ : ∃ a c, u7 = .slice a g.len c := zJ HO.out.1;have HF3 := xH (HF2.out.fld (k := g) 11 (.slice qa g.len qc) { L with kv := .slice qa g.len qc } rfl HF2.out.t.1 rfl rfl (ownH_kids HO.out HF1.out.o));clear hlt HF2 d0;go_upto_region 17 with (fail)
    generalize wr.setCell _ _ = w3 at *;have H1 := xH (qp HF3.out.t);go_wp2_with (first
     | (refine ql rfl _ rfl w.heap.size rfl ({ L with kv := .slice qa g.len qc }) HF3.out.n ?_)
     | (refine qh rfl rfl _ _ rfl (w.heap.size + 1) rfl _ ({ L with kv := .slice qa g.len qc }) HF3.out.r rfl H1.out rfl ?_))
    refine xB (qZ rfl _ _ (w.heap.size + 1) ({ L with kv := .slice qa g.len qc }) rfl (setRow_heap _ _ _ _ _ _ HF3.out.r)) rfl ?_;exact HF3.out.fin (by rw [HR1.out]; show F.one _ (strip g) = _; rw [HQ2.out.1]; rfl) (by rw [HR1.out]; exact HQ2.out.2)
end gqw
end
section
namespace gqw
open sq
open Go.Sort Go Go.RowKit Go.Maps setp setw tkp trp trw rpp rsp gpp sq
open rpw (sees jB qU own_below qp jH qh ql jc)
open rsw (Old hx hx_old OwnH ownH_nil ownH_below ownH_kids ownH_base wpList_append_h row1_kids qV zY sees_to)
theorem num_any (k : F) : NumC k := by
 have key : ∀ (n : Nat) (k : F), k.size < n → NumC k := by
  intro n
  induction n with
  | zero => exact fun k h => absurd h (Nat.not_lt_zero _)
  | succ n ih => exact fun k h => num_of fun k' h' => ih k' (by omega)
 exact key (k.size + 1) k (Nat.lt_succ_self _)
def topL : F → List Lab
 | .nil => []
 | .cons x _ r => x :: topL r
theorem topL_app : ∀ f g : F, topL (F.app f g) = topL f ++ topL g
 | .nil, _ => rfl
 | .cons x k r, g => by rw [F.app, topL, topL_app r g]; rfl
theorem topL_len : ∀ f : F, (topL f).length = f.len
 | .nil => rfl
 | .cons x k r => by rw [topL, List.length_cons, topL_len r, F.len]
theorem capL_len : ∀ f : F, (capL f).length ≤ f.size
 | .nil => xL _
 | .cons x k r => by
  have a := capL_len k;have b := capL_len r;have c : (if x.kind = 14 then [x] else []).length ≤ 1 := by split <;> simp
  rw [capL, List.length_append, List.length_append, F.size];omega
def CapB (h : Nat → Bool) (C : List Lab) (w : World) (e : Ending) (w' : World) : Prop := Below w.heap.size w w' ∧ ∃ v f, e = .returned v ∧ OwnH h w.heap.size w' v f ∧ topL (strip f) = C
def capN (x : Lab) (k : F) : List Lab := (if x.kind = 14 then [bare x] else []) ++ capL (strip k)
def CapC (k : F) : Prop := ∀ (x : Lab) (w : World) (h : Nat → Bool), Old h w.heap.size → NdAt (sees h w) (x, k) → k.size ≤ 100000 → Calls Try.prog 38 #[ndV x] w (CapB h (capN x k) w)
theorem capL_cons (x : Lab) (k r : F) : capL (strip (.cons x k r)) = capN x k ++ capL (strip r) := by rw [strip, capL];rfl
theorem cap_of {k : F} (hN' : ∀ k' : F, k'.size < k.size → CapC k') : CapC k := by
 intro x w h hold hnd hl;have HN := xH hN';have HOLD := xH hold;obtain ⟨C, hC⟩ : ∃ C, capN x k = C := ⟨_, rfl⟩;rw [hC];have HCC := xH hC;have HCL := xH (show C.length ≤ 100001 by
  have := capL_len (strip k);rw [rsp.strip_size] at this;have c : (if x.kind = 14 then [bare x] else []).length ≤ 1 := by split <;> simp
  rw [← hC];unfold capN;rw [List.length_append];omega)
 obtain ⟨ka, kq, hkv⟩ := kids_len hnd.2.2;have hkl : k.len ≤ 100000 := by have := rsp.len_size k; omega
 have HKV := xH hkv;have HP := xH (heap_alloc_new w (.cells (ndC x).toArray 27));have HB := xH (qg w (.cells (ndC x).toArray 27));have HND := xH (qV (qg w (.cells (ndC x).toArray 27)) hnd);have HY := xH (qp hnd);have HZ := xH (World.size_alloc w (.cells (ndC x).toArray 27));clear hold hnd hC hN' hkv;unfold ndC at HP HB HND HZ;unfold ndV;go_enter Try.func38, Try.ntmps38;go_upto_region 2 with (fail)
 generalize w.alloc _ = w1 at *;have HP : Hid (w1.heap[w.heap.size]? = some (.cells (ndC x).toArray 27 (0, 0))) := HP;have HO1 := xH (show Old h w1.heap.size from HOLD.out.le HB.out.size);have c0 := yC 0 (.int .i64 x.kind) HP;have c11 : w1.cell? ⟨w.heap.size, 11, none⟩ = some (.slice ka k.len kq) := by unfold World.cell?; rw [HP.out]; show some x.kv = _; rw [HKV.out]
 have HKK := xH (show jr (sees h w1) (.slice ka k.len kq) k from HKV.out ▸ HND.out.2.2);go_upto_if 7 with (fail)
 go_cut [3] (fun v3 wx => ∃ f : F, Hid (OwnH h w1.heap.size wx v3 f) ∧ Hid (topL (strip f) ++ capL (strip k) = C) ∧ Hid (Below w1.heap.size w1 wx))
 case first =>
  by_cases h14 : x.kind = 14
  ·have b14 : (x.kind == 14) = true := by simp [h14]
   have HR := xH (show topL (strip (F.app .nil (F.one x k))) ++ capL (strip k) = C from by rw [← HCC.out]; unfold capN; rw [if_pos h14]; rfl);have HK1 := xH (row1_kids (h := hx h nil3) (qY (zY (Below.refl _ _) (xL _) (fun g e => by cases e)) HND.out) (hx_old HO1.out (xL _) (ownH_nil h w1.heap.size w1).1 (xL _)));obtain ⟨Z, hZ⟩ : ∃ Z, w1.heap.size = Z := ⟨_, rfl⟩;have HZZ := xH hZ;have HKD := xH (show ∀ w17, w17 = w1.alloc (.cells (ndC x).toArray 27) → jr (sees (hx h nil3) w17) (.slice (some ⟨Z, 0, none⟩) 1 1) (F.one x k) from fun w17 h17 => by subst h17;have := HK1.out;rw [hZ] at this;exact this)
   clear h14 hZ HK1;go_upto_region 4 with (first
    | (refine ql rfl _ rfl w.heap.size rfl x HP.out ?_)
    | (refine jc rfl _ rfl x rfl Z HZZ.out ?_; intro w17 h17; have HK17 := xH (HKD.out w17 h17.out); have HB17 := xH (show Below w1.heap.size w1 w17 from h17.out ▸ qg w1 _); clear h17)
    | (at_builtin; refine wpList_append_h rfl _ _ rfl h w1.heap.size nil3 .nil rfl (ownH_nil _ _ _) HO1.out _ (F.one x k) rfl HK17.out (by simp [F.len, F.one]) HB17.out.size ?_; intro v18 w18 h18 hb18; have HO18 := xH h18; have HB18 := xH (HB17.out.trans hb18); clear h18 hb18))
   go_meet
   exact ⟨_, HO18, HR, HB18⟩
  ·have b14 : (x.kind == 14) = false := by simp [h14]
   have HR := xH (show topL (strip F.nil) ++ capL (strip k) = C from by rw [← HCC.out]; unfold capN; rw [if_neg h14]; rfl);clear h14;go_wp2_with fail
   go_meet
   exact ⟨.nil, xH (ownH_nil _ _ _), HR, xH (Below.refl _ _)⟩
 case rest =>
  obtain ⟨f0, HO0, HR0, HB0⟩ := hcut;generalize wc = w2 at *;clear c0 HP HND HY;go_wp2_with fail
  go_loopw [3, 4] (fun v3 v4 wr => ∃ (i : Nat) (f : F), v4 = .int .i64 i ∧ i ≤ k.len ∧ Hid (OwnH h w1.heap.size wr v3 f) ∧ Hid (topL (strip f) ++ capL (strip (k.drop i)) = C) ∧ Hid (Below w1.heap.size w1 wr)) (fun _ v4 _ => k.len - (intOf v4).toNat)
  case atStart => exact ⟨0, f0, rfl, Nat.zero_le _, HO0, by rw [drop_zero]; exact HR0, HB0⟩
  case round =>
   obtain ⟨i, f, rfl, hi, HO, HR, HBB⟩ := hrel;have d11 := trw.qf HBB.out c11;by_cases hlt : i < k.len
   ·obtain ⟨x', kk, r, hd⟩ := drop_lt hlt;obtain ⟨b1, o, q, hv, _, _, _, hf⟩ := kid_at HKK.out hd;cases hv;have HE := xH (fun j v hj => trw.qf HBB.out (sees_to (hf.1 j v hj)));have HX := xH (qY (zY HBB.out (xL _) (fun q hq => (own_below HO.out.1 hq).1)) (fAt_head hf));have HOX := xH (hx_old (v := u3) (m := wr.heap.size) HO1.out HBB.out.size HO.out.1 (xL _));have HCall := xH (HN.out kk (size_lt hd) x' wr _ HOX.out HX.out (by have := size_lt hd; omega));have HD2 := xH (show capL (strip (k.drop i)) = capN x' kk ++ capL (strip (k.drop (i + 1))) from by rw [hd, drop_succ hd, capL_cons]);have a1 := add_row b1 o i 12;clear hd hf;have i1 : (i : Int) < (k.len : Int) := by omega
    go_wp2_with (first
     | (refine jv rfl _ rfl b1 (o + i * 12) rfl x' HE.out ?_)
     | (refine HCall.out.mono ?_))
    rintro e w5 ⟨hb, v5, f5, rfl, ho5, ht5⟩;have HK5 := xH (ownH_kids ho5 HOX.out);have HOA := xH (ownH_below HO.out hb);have HB5 := xH (HBB.out.trans (hb.mono HBB.out.size));have HEN := xH (show topL (strip (F.app f f5)) ++ capL (strip (k.drop (i + 1))) = C by rw [jH, topL_app, ht5, ← HR.out, HD2.out, List.append_assoc]);have HLN := xH (show f.len + f5.len ≤ 200000 by have h1 := HCL.out;rw [← HEN.out] at h1;have h2 := topL_len (strip (F.app f f5));rw [rpw.jm, rsp.jd] at h2;simp only [List.length_append] at h1;omega)
    clear hb ho5 ht5 HE HX HCall HO HR HD2;go_wp2_with (at_builtin; refine wpList_append_h rfl _ _ rfl h w1.heap.size _ f rfl HOA.out HO1.out v5 f5 rfl HK5.out HLN.out HB5.out.size ?_)
    intro va wa hoa hba;have HOn := xH hoa;have HBn := xH (HB5.out.trans hba);clear hoa hba;go_wp2_with fail
    go_roundw
    case rel => exact ⟨i + 1, _, by go_num, by omega, HOn, HEN, HBn⟩
    case measure => simp [intOf]; omega
   ·have HRR := xH (show topL (strip f) = C from by have := HR.out;rw [show k.drop i = .nil from drop_end (by omega)] at this;rw [← this];exact (List.append_nil _).symm)
    have hd : decide (i < k.len) = false := by simpa using hlt
    clear hlt;go_wp2_with fail
    go_ret
    exact ⟨qi HB.out HBB.out, _, f, rfl, ownH_base HO.out HB.out.size, HRR.out⟩
theorem cap_any (k : F) : CapC k := by
 have key : ∀ (n : Nat) (k : F), k.size < n → CapC k := by
  intro n
  induction n with
  | zero => exact fun k h => absurd h (Nat.not_lt_zero _)
  | succ n ih => exact fun k h => cap_of fun k' h' => ih k' (by omega)
 exact key (k.size + 1) k (Nat.lt_succ_self _)
end gqw
end
section
namespace gpw
open sq
open Go.Sort Go Go.RowKit Go.Maps setp setw tkp trp trw rpp gpp
open rpw (fC jP FSub jQ jd own_below qp vW)
def SetIn (w : World) (lo hi : Nat) (v : Value) (S : List Rg) : Prop := OwnR w lo v S ∧ Wf S ∧ ∀ g, v.ownBlock = some g → g < hi
def Sub (w : World) : F → Nat → Nat → Prop
 | .nil, lo, hi => lo ≤ hi
 | .cons x k r, lo, hi => LabOk x ∧ ∃ a B m, lo ≤ a ∧ a ≤ B ∧ m ≤ hi ∧ SetIn w lo a x.sv x.set ∧ k.len ≤ 100000 ∧ x.kv = .slice (some ⟨B, 0, none⟩) k.len k.len ∧ w.heap[B]? = some (.cells (fC k).toArray 27 (0, 0)) ∧ Sub w k (B + 1) m ∧ Sub w r m hi
def NdI (w : World) (x : Lab) (k : F) (lo hi : Nat) : Prop :=
 LabOk x ∧ ∃ a B, lo ≤ a ∧ a ≤ B ∧ SetIn w lo a x.sv x.set ∧ k.len ≤ 100000 ∧ x.kv = .slice (some ⟨B, 0, none⟩) k.len k.len ∧ w.heap[B]? = some (.cells (fC k).toArray 27 (0, 0)) ∧ Sub w k (B + 1) hi
theorem sub_cons {w : World} {x : Lab} {k r : F} {lo hi : Nat} : Sub w (.cons x k r) lo hi ↔ ∃ m, m ≤ hi ∧ NdI w x k lo m ∧ Sub w r m hi := by
 constructor
 ·rintro ⟨h0, a, B, m, h1, h2, h3, h4, h5, h6, h7, h8, h9⟩;exact ⟨m, h3, ⟨h0, a, B, h1, h2, h4, h5, h6, h7, h8⟩, h9⟩
 ·rintro ⟨m, h3, ⟨h0, a, B, h1, h2, h4, h5, h6, h7, h8⟩, h9⟩;exact ⟨h0, a, B, m, h1, h2, h3, h4, h5, h6, h7, h8, h9⟩
theorem sub_le {w : World} : ∀ {f : F} {lo hi : Nat}, Sub w f lo hi → lo ≤ hi
 | .nil, _, _, h => h
 | .cons _ k r, _, _, h => by obtain ⟨_, a, B, m, h1, h2, h3, _, _, _, _, h8, _⟩ := h;have := sub_le h8;omega
theorem ndI_le {w : World} {x : Lab} {k : F} {lo hi : Nat} (h : NdI w x k lo hi) : lo < hi := by obtain ⟨_, a, B, h1, h2, _, _, _, _, h8⟩ := h;have := sub_le h8;omega
theorem set_keep {w w' : World} {lo hi a b : Nat} {v : Value} {S : List Rg} (h : SetIn w lo hi v S) (ha : a ≤ lo) (hb : hi ≤ b) (hk : ∀ j, a ≤ j → j < b → w'.heap[j]? = w.heap[j]?) : SetIn w' lo hi v S :=
 ⟨⟨tkw.jJ h.1.1 fun g hg => hk g (by have := (own_below h.1.1 hg).1; omega) (by have := h.2.2 g hg; omega), h.1.2⟩, h.2⟩
theorem sub_keep {w w' : World} {a b : Nat} (hk : ∀ j, a ≤ j → j < b → w'.heap[j]? = w.heap[j]?) : ∀ {f : F} {lo hi : Nat}, Sub w f lo hi → a ≤ lo → hi ≤ b → Sub w' f lo hi
 | .nil, _, _, h, _, _ => h
 | .cons _ k r, lo, hi, h, ha, hb => by obtain ⟨h0, c, B, m, h1, h2, h3, h4, h5, h6, h7, h8, h9⟩ := h;have e8 := sub_le h8;exact ⟨h0, c, B, m, h1, h2, h3, set_keep h4 ha (by omega) hk, h5, h6, (hk B (by omega) (by omega)).trans h7, sub_keep hk h8 (by omega) (by omega), sub_keep hk h9 (by omega) hb⟩
theorem ndI_keep {w w' : World} {x : Lab} {k : F} {lo hi : Nat} (h : NdI w x k lo hi) (hk : ∀ j, lo ≤ j → j < hi → w'.heap[j]? = w.heap[j]?) : NdI w' x k lo hi := by obtain ⟨h0, c, B, h1, h2, h4, h5, h6, h7, h8⟩ := h;have e8 := sub_le h8;exact ⟨h0, c, B, h1, h2, set_keep h4 (xL _) (by omega) hk, h5, h6, (hk B (by omega) (by omega)).trans h7, sub_keep hk h8 (by omega) (xL _)⟩
theorem sub_hi {w : World} : ∀ {f : F} {lo hi hj : Nat}, Sub w f lo hi → hi ≤ hj → Sub w f lo hj
 | .nil, _, _, _, h, hh => Nat.le_trans h hh
 | .cons _ k r, lo, hi, hj, h, hh => by obtain ⟨h0, c, B, m, h1, h2, h3, h4, h5, h6, h7, h8, h9⟩ := h;exact ⟨h0, c, B, m, h1, h2, Nat.le_trans h3 hh, h4, h5, h6, h7, h8, sub_hi h9 hh⟩
theorem ndI_hi {w : World} {x : Lab} {k : F} {lo hi hj : Nat} (h : NdI w x k lo hi) (hh : hi ≤ hj) : NdI w x k lo hj := by obtain ⟨h0, c, B, h1, h2, h4, h5, h6, h7, h8⟩ := h;exact ⟨h0, c, B, h1, h2, h4, h5, h6, h7, sub_hi h8 hh⟩
theorem ndI_lo {w : World} {x : Lab} {k : F} {lo lp hi : Nat} (h : NdI w x k lo hi) (hh : lp ≤ lo) : NdI w x k lp hi := by obtain ⟨h0, c, B, h1, h2, h4, h5, h6, h7, h8⟩ := h;exact ⟨h0, c, B, by omega, h2, ⟨setw.ownR_mono h4.1 hh, h4.2⟩, h5, h6, h7, h8⟩
theorem sub_app {w : World} : ∀ {f g : F} {lo m hi : Nat}, Sub w f lo m → Sub w g m hi → Sub w (F.app f g) lo hi
 | .nil, .nil, lo, m, hi, h, k => Nat.le_trans h k
 | .nil, .cons x k r, lo, m, hi, h, hg => by obtain ⟨p, hp, hn, hr⟩ := sub_cons.1 hg;exact sub_cons.2 ⟨p, hp, ndI_lo hn h, hr⟩
 | .cons _ _ _, g, lo, m, hi, h, hg => by obtain ⟨h0, c, B, p, h1, h2, h3, h4, h5, h6, h7, h8, h9⟩ := h;have e := sub_le hg;exact ⟨h0, c, B, p, h1, h2, by omega, h4, h5, h6, h7, h8, sub_app h9 hg⟩
theorem sub_one {w : World} {x : Lab} {k : F} {lo hi : Nat} (h : NdI w x k lo hi) : Sub w (F.one x k) lo hi := sub_cons.2 ⟨hi, xL _, h, xL _⟩
theorem set_rg {w : World} {lo hi : Nat} {v : Value} {S : List Rg} (h : SetIn w lo hi v S) : RgAt w v S := by
 by_cases hl : S = []
 ·subst hl;exact ⟨none, 0, h.1.2 rfl, by simp, by decide, Or.inl rfl⟩
 ·obtain ⟨g, cap, hv, hg, h1, h2, hc⟩ := ownR_slice h.1 hl;refine ⟨_, cap, hv, h1, h2, Or.inr ⟨g, 0, rfl, fun i r hr => ?_⟩⟩;have hi := (List.getElem?_eq_some_iff.1 hr).1;have he : S[i] = r := (List.getElem?_eq_some_iff.1 hr).2;have hw := h.2.1 r (he ▸ List.getElem_mem hi);refine ⟨?_, ?_, hw.1, hw.2⟩
  ·have := (hc i hi).1; rw [he] at this; simpa using this
  ·have := (hc i hi).2; rw [he] at this; simpa using this
theorem row_cells {w : World} {b : Nat} {f : F} (h : w.heap[b]? = some (.cells (fC f).toArray 27 (0, 0))) : ∀ j u, (fC f)[j]? = some u → w.cell? ⟨b, 0 + j, none⟩ = some u := fun j u hj => by
 rw [Nat.zero_add];unfold World.cell?;rw [h];simpa using hj
theorem sub_fAt {w : World} {b : Nat} : ∀ {f : F} {o lo hi : Nat}, Sub w f lo hi → (∀ j u, (fC f)[j]? = some u → w.cell? ⟨b, o + j, none⟩ = some u) → FAt w b o f
 | .nil, _, _, _, _, _ => trivial
 | .cons x k r, o, lo, hi, h, hc => by obtain ⟨h0, c, B, p, h1, h2, h3, h4, h5, h6, h7, h8, h9⟩ := h;refine ⟨fun j u hj => hc j u (by rw [fC, List.getElem?_append_left (List.getElem?_eq_some_iff.1 hj).1]; exact hj), ⟨h0, set_rg h4⟩, ⟨_, k.len, h6, xL _, by omega, Or.inr ⟨B, 0, rfl, sub_fAt h8 (row_cells h7)⟩⟩, sub_fAt h9 fun j u hj => ?_⟩;have := hc (12 + j) u (by rw [fC, List.getElem?_append_right (by simp [ndC])]; simpa [ndC] using hj);rw [show o + 12 + j = o + (12 + j) by omega];exact this
theorem ndI_at {w : World} {x : Lab} {k : F} {lo hi : Nat} (h : NdI w x k lo hi) : NdAt w (x, k) := by obtain ⟨h0, c, B, h1, h2, h4, h5, h6, h7, h8⟩ := h;exact ⟨h0, set_rg h4, _, k.len, h6, xL _, by omega, Or.inr ⟨B, 0, rfl, sub_fAt h8 (row_cells h7)⟩⟩
structure At (w : World) (b o : Nat) (x : Lab) : Prop where
 c : ∃ C : Array Value, w.heap[b]? = some (.cells C 27 (0, 0)) ∧ ∀ j u, (ndC x)[j]? = some u → C[o + j]? = some u
theorem at_cell {w : World} {b o : Nat} {x : Lab} (h : At w b o x) {j : Nat} {u : Value} (hj : (ndC x)[j]? = some u) : w.cell? ⟨b, o + j, none⟩ = some u := by obtain ⟨C, h1, h2⟩ := h.c;unfold World.cell?;rw [h1];exact h2 j u hj
theorem at_free {w : World} {b o : Nat} {x : Lab} (h : At w b o x) (j : Nat) : w.frozen? ⟨b, j, none⟩ = false := by obtain ⟨C, h1, h2⟩ := h.c;simp [World.frozen?, h1]
end gpw
end
section
namespace gpw
open sq
open Go.Sort Go Go.RowKit Go.Maps setp setw tkp trp trw rpp gpp sq prw
open rpw (fC jP FSub jQ jd own_below qp vW)
open prp (lookP)
def nmC (l : List (ByteArray × Int)) : List Value := l.flatMap fun q => [.string q.1, .int .i64 q.2]
theorem nmC_snoc (l : List (ByteArray × Int)) (q : ByteArray × Int) : nmC (l ++ [q]) = nmC l ++ [.string q.1, .int .i64 q.2] := by unfold nmC;simp
def mpL (l : List (ByteArray × Int)) : List (ByteArray × Value) := l.reverse.map fun q => (q.1, .int .i64 q.2)
theorem mpL_snoc (l : List (ByteArray × Int)) (q : ByteArray × Int) : mpL (l ++ [q]) = (q.1, .int .i64 q.2) :: mpL l := by unfold mpL;simp
theorem mp_look (s : ByteArray) : ∀ l : List (ByteArray × Int), lookP (l.map fun q => (q.1, Value.int .i64 q.2)) s (.int .i64 0) = .int .i64 (((l.find? fun q => decide (q.1 = s)).map (·.2)).getD 0) ∧
 ((l.map fun q => (q.1, Value.int .i64 q.2)).any fun p => decide (p.1 = s)) = ((l.find? fun q => decide (q.1 = s)).map (·.2)).isSome
 | [] => ⟨rfl, rfl⟩
 | q :: l => by
  obtain ⟨h1, h2⟩ := mp_look s l;obtain ⟨a, b⟩ := q;rw [List.map_cons, List.any_cons, h2, List.find?_cons];unfold lookP;by_cases h : a = s
  ·subst h;simp
  ·rw [if_neg (fun e => h e.symm), h1];simp [h]
theorem look_v (l : List (ByteArray × Int)) (s : ByteArray) : lookP (mpL l) s (.int .i64 0) = .int .i64 ((nmLook l s).getD 0) := (mp_look s l.reverse).1
theorem look_ok (l : List (ByteArray × Int)) (s : ByteArray) : ((mpL l).any fun p => decide (p.1 = s)) = (nmLook l s).isSome := (mp_look s l.reverse).2
structure StAt (w : World) (H G M : Nat) (v : Value) (s : St) : Prop where
 g : w.heap[G]? = some (.cells #[.int .i64 s.1, v, .map (some M)] 59 (0, 0))
 hg : H ≤ G
 hm : H ≤ M
 row : w.ownsRow H 67 2 v s.2.length (nmC s.2)
 nil : s.2 = [] → v = .slice none 0 0
 map : MapV w M s.2.length (mpL s.2)
structure Chg (H b lo hi : Nat) (w w' : World) : Prop where
 os : w'.os = w.os
 tape : w'.tape = w.tape
 output : w'.output = w.output
 size : w.heap.size ≤ w'.heap.size
 block : ∀ j, j < H → j ≠ b → (j < lo ∨ hi ≤ j) → w'.heap[j]? = w.heap[j]?
theorem Chg.refl (H b lo hi : Nat) (w : World) : Chg H b lo hi w w := ⟨rfl, rfl, rfl, xL _, fun _ _ _ _ => rfl⟩
theorem Chg.trans {H b lo hi : Nat} {x y z : World} (h : Chg H b lo hi x y) (k : Chg H b lo hi y z) : Chg H b lo hi x z :=
 ⟨k.os.trans h.os, k.tape.trans h.tape, k.output.trans h.output, Nat.le_trans h.size k.size, fun j h1 h2 h3 => (k.block j h1 h2 h3).trans (h.block j h1 h2 h3)⟩
theorem Chg.of_below {H b lo hi : Nat} {w w' : World} (h : Below w.heap.size w w') (hH : H ≤ w.heap.size) : Chg H b lo hi w w' := ⟨h.os, h.tape, h.output, h.size, fun j hj _ _ => h.block j (by omega)⟩
theorem Chg.of_grown {H b lo hi M : Nat} {w w' : World} (h : w.grownBy w' (some M)) (hH : H ≤ w.heap.size) (hM : H ≤ M) : Chg H b lo hi w w' :=
 ⟨h.os, h.tape, h.output, h.size, fun j hj _ _ => h.block j (by omega) (fun e => by cases e; omega)⟩
theorem Chg.cell {H b lo hi : Nat} (w : World) (c o : Nat) (u : Value) (h : c = b ∨ H ≤ c) : Chg H b lo hi w (w.setCell ⟨c, o, none⟩ u) :=
 ⟨rfl, rfl, rfl, by simp [World.setCell], fun j h1 h2 _ => heap_setCell_other w _ j u (by show j ≠ c; rcases h with h | h <;> omega)⟩
theorem Chg.wide {H b lo hi b2 lo2 hi2 : Nat} {w w' : World} (h : Chg H b lo hi w w') (hb : b = b2 ∨ (lo2 ≤ b ∧ b < hi2)) (h1 : lo2 ≤ lo ∨ hi ≤ lo) (h2 : hi ≤ hi2 ∨ hi ≤ lo) : Chg H b2 lo2 hi2 w w' :=
 ⟨h.os, h.tape, h.output, h.size, fun j k1 k2 k3 => h.block j k1 (by omega) (by omega)⟩
theorem gm_ne {w : World} {H G M n : Nat} {v : Value} {C : Array Value} {T : TypeId} {L : List (ByteArray × Value)} (hg : w.heap[G]? = some (.cells C T (0, 0))) (hm : MapV w M n L) : G ≠ M := fun e => by
 obtain ⟨es, clock, hb, _⟩ := hm;rw [← e, hg] at hb;cases hb
theorem row_ne {w : World} {H G n : Nat} {v : Value} {C : Array Value} {T : TypeId} {xs : List Value} (hg : w.heap[G]? = some (.cells C T (0, 0))) (hT : T ≠ 67) (hr : w.ownsRow H 67 2 v n xs) : v.ownBlock ≠ some G := fun e => by
 rcases hr.2 with ⟨h1, _⟩ | ⟨g, cap, cur, h1, _, h2, _⟩
 ·rw [h1] at e; cases e
 ·rw [h1] at e;simp only [Value.ownBlock, Option.some.injEq] at e;subst e;rw [hg] at h2;simp only [Option.some.injEq, Obj.cells.injEq] at h2;exact hT h2.2.1
theorem row_nm {w : World} {H M n k : Nat} {v : Value} {xs : List Value} {L : List (ByteArray × Value)} (hm : MapV w M k L) (hr : w.ownsRow H 67 2 v n xs) : v.ownBlock ≠ some M := fun e => by
 obtain ⟨es, clock, hb, _⟩ := hm;rcases hr.2 with ⟨h1, _⟩ | ⟨g, cap, cur, h1, _, h2, _⟩
 ·rw [h1] at e; cases e
 ·rw [h1] at e;simp only [Value.ownBlock, Option.some.injEq] at e;subst e;rw [hb] at h2;cases h2
theorem mapV_heap {w w' : World} {b n : Nat} {L : List (ByteArray × Value)} (h : MapV w b n L) (hb : w'.heap[b]? = w.heap[b]?) : MapV w' b n L := by obtain ⟨es, clock, h1, h2⟩ := h;exact ⟨es, clock, hb.trans h1, h2⟩
theorem StAt.lt {w : World} {j : Nat} {o : Obj} (e : w.heap[j]? = some o) : j < w.heap.size := by exact z136
theorem Chg.of_low {H b lo hi : Nat} {w w' : World} (h : Below H w w') : Chg H b lo hi w w' := ⟨h.os, h.tape, h.output, h.size, fun j hj _ _ => h.block j hj⟩
theorem StAt.keep {w w' : World} {H G M : Nat} {v : Value} {s : St} (h : StAt w H G M v s) (hk : ∀ j, H ≤ j → j < w.heap.size → w'.heap[j]? = w.heap[j]?) : StAt w' H G M v s := by
 have lt : ∀ {j : Nat} {o : Obj}, w.heap[j]? = some o → j < w.heap.size := fun {j} {o} e => by exact z136
 obtain ⟨es, clock, h1, h2⟩ := id h.map;exact ⟨(hk G h.hg (lt h.g)).trans h.g, h.hg, h.hm, tkw.jJ h.row fun k hk2 => hk k (own_below h.row hk2).1 (own_below h.row hk2).2, h.nil, mapV_heap h.map (hk M h.hm (lt h1))⟩
theorem StAt.last {w : World} {H G M : Nat} {v : Value} {s : St} (h : StAt w H G M v s) (n : Int) : StAt (w.setCell ⟨G, 0, none⟩ (.int .i64 n)) H G M v (n, s.2) :=
 ⟨by rw [tkw.heap_set h.g]; rfl, h.hg, h.hm, tkw.jJ h.row fun k hk => heap_setCell_other w _ _ _ (fun e => row_ne h.g (by decide) h.row (by rw [hk]; exact congrArg some e)), h.nil, mapV_heap h.map (heap_setCell_other w _ _ _ (Ne.symm (gm_ne (H := H) (v := v) h.g h.map)))⟩
structure SC (w : World) (G M : Nat) (v : Value) (s : St) : Prop where
 c0 : w.cell? ⟨G, 0, none⟩ = some (.int .i64 s.1)
 c1 : w.cell? ⟨G, 1, none⟩ = some v
 c2 : w.cell? ⟨G, 2, none⟩ = some (.map (some M))
 f0 : w.frozen? ⟨G, 0, none⟩ = false
 f1 : w.frozen? ⟨G, 1, none⟩ = false
theorem StAt.c {w : World} {H G M : Nat} {v : Value} {s : St} (h : StAt w H G M v s) : SC w G M v s := by have := h.g;refine ⟨?_, ?_, ?_, ?_, ?_⟩ <;> simp [World.cell?, World.frozen?, this]
theorem exec_look {o : Oper} {ρ : Operand → Value} {w : World} (m x : Operand) (hop : o.op = Op.lookup 57 m x true) {b n : Nat} {l : List (ByteArray × Int)} (hm : ρ m = .map (some b)) (hown : MapV w b n (mpL l)) {key : ByteArray} (hx : ρ x = .string key) (hk : key.size ≤ maxLen) :
 (execOp ρ o).run Try.prog w = .ok (.value (.tuple #[.int .i64 ((nmLook l key).getD 0), .bool (nmLook l key).isSome])) w := by
 have hz : (zeroValue 3).run Try.prog w = .ok (.int .i64 0) w := by kernel_rfl
 obtain ⟨v, ps, hrun, hv⟩ := World.ownsMap.look_ok hown (string_keyed Try.underlying9) Try.underlying57 hz (show RV (.int .i64 0) = some (.held (.int .i64 0), []) from rfl) (WideMaps.keyOf_string_mk Try.underlying9 (s := key) hk);rw [show Lit.string key.data.toList = keyL key from rfl, at_LD, look_v] at hv;rw [show Lit.string key.data.toList = keyL key from rfl, has_LD, look_ok] at hrun;obtain rfl := rv_inv hv;simp [execOp, hop, hm, hx, hrun, Result.andThen]
theorem held_upd {o : Oper} {a : Act} {w : World} {K : Act → World → Prop} {Q : Exit → Act → World → Prop} {ys : Nat → Option Bool} (hgd : o.guard = none) (hd : o.dst = none) (m x v : Operand) (hop : o.op = Op.mapUpdate 57 m x v)
 {b n : Nat} {L : List (ByteArray × Value)} (hm : a.eval m = .map (some b)) (hown : MapV w b n L) (hn : n < maxLen) {key : ByteArray} (hx : a.eval x = .string key) (hk : key.size ≤ maxLen) {val : Value} (hv : a.eval v = val)
 (hK : ∀ w', MapV w' b (n + 1) ((key, val) :: L) → w.grownBy w' (some b) → K a w') : if Region.wanted o ys = true then Oper.wp Try.prog o a w K Q else K (a.put o.dst undef) w := by
 rw [if_pos (by unfold Region.wanted; rw [hgd])];obtain ⟨w', hrun, r1, r2⟩ := World.ownsMap.update hown (string_keyed Try.underlying9) Try.underlying57 hn (WideMaps.keyOf_string_mk Try.underlying9 (s := key) hk) (show RV val = some (.held val, []) from rfl);unfold Oper.wp;simp [execOp, hop, hm, hx, hv, hrun, Result.andThen];show K (a.put o.dst undef) w';rw [hd];exact hK w' r1 r2
theorem row_slice {w : World} {H n : Nat} {v : Value} {e : TypeId} {k : Nat} {xs : List Value} (h : w.ownsRow H e k v n xs) : ∃ a c, v = .slice a n c := by
 rcases h.2 with ⟨h1, h2⟩ | ⟨g, cap, cur, h1, _⟩
 ·subst h2; exact ⟨_, _, h1⟩
 ·exact ⟨_, _, h1⟩
theorem infoNm : (Try.prog.info? 67).map (fun i => (i.zero, i.size, i.bytes)) = some (some (.agg #[.string ⟨#[]⟩, .int .i64 0]), 2, 24) := by kernel_rfl
theorem held_app_nm {o : Oper} {a : Act} {w W : World} {K : Act → World → Prop} {Q : Exit → Act → World → Prop} {ys : Nat → Option Bool} (hgd : o.guard = none) (s x : Operand)
 (ho : o.op = .call { callee := .builtin .append, args := #[s, x], argTypes := #[30, 30] }) {H : Nat} {v : Value} {l : List (ByteArray × Int)} (hs : a.eval s = v) (hown : w.ownsRow H 67 2 v l.length (nmC l))
 {q : ByteArray × Int} {B : Nat} (hx : a.eval x = .slice (some ⟨B, 0, none⟩) 1 1) (hB : B = w.heap.size) (hW : W = w.alloc (.cells #[.string q.1, .int .i64 q.2] 67)) (hl : l.length ≤ 2000000) (hH : H ≤ w.heap.size)
 (h : ∀ v' w', w'.ownsRow H 67 2 v' (l ++ [q]).length (nmC (l ++ [q])) → (∀ j, j < w.heap.size → v.ownBlock ≠ some j → w'.heap[j]? = w.heap[j]?) → Below H w w' → K (a.put o.dst v') w') :
 if Region.wanted o ys = true then Oper.wp Try.prog o a W K Q else K (a.put o.dst undef) W := by
 rw [if_pos (by unfold Region.wanted; rw [hgd])];subst hB;subst hW;obtain ⟨i0, hi, hz0, hz1, hz2⟩ := info_parts infoNm;have hz := World.size_alloc w (.cells #[.string q.1, .int .i64 q.2] 67);obtain ⟨v', w', hr, h2, h3, _, h5⟩ := run_append_own_at (P := Try.prog) (w.alloc (.cells #[.string q.1, .int .i64 q.2] 67)) H 30 o.type 67 i0 _ 2 24 Try.underlying30 hi hz0 hz1 hz2 rfl (by decide) v l.length (nmC l) (World.ownsRow.alloc hown _) ⟨w.heap.size, 0, none⟩ 1 1 [.string q.1, .int .i64 q.2] rfl
  (fun j u hj => by
   rw [trw.add_plain, Nat.zero_add];unfold World.cell?;rw [heap_alloc_new];simpa using hj) (fun u hu => by simp only [List.mem_cons, List.not_mem_nil, or_false] at hu;rcases hu with rfl | rfl <;> rfl) (by unfold maxLen; omega) (by omega) (by omega)
 unfold Oper.wp execOp;simp only [ho, resolve, invoke, builtin, Sem.run_bind, Sem.run_pure, Result.andThen_ok, List.map_toArray, List.map_cons, List.map_nil, hs, hx, hr];have hk := h v' w' (by rw [nmC_snoc, List.length_append]; exact h2) (fun j hj hne => (h3.block j (by omega) (fun e => hne e.symm)).trans (heap_alloc_old _ _ hj))
  (((trw.qg w _).mono hH).trans (Below.grown (Below.refl H _) h3 (by omega) (fun k hk => (own_below hown hk).1)))
 simpa [Oper.upon] using hk
def EntB (H G M b o : Nat) (C : Array Value) (x : Lab) (s : St) (w : World) (e : Ending) (w' : World) : Prop := e = .returned (.int .i64 (zy x.name s).1) ∧ w'.heap[b]? = some (.cells (C.setIfInBounds (o + 5) (.int .i64 (s.1 + 1))) 27 (0, 0)) ∧ (∃ v, StAt w' H G M v (zy x.name s).2) ∧ Chg H b 0 0 w w'
end gpw
end
end Go.Proofs.Ytdgfclbajjjcgaa
