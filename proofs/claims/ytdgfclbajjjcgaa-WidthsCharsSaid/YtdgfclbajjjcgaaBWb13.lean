/- T -/
import Derived.BigQuiet
import Derived.Deep.Onto
import Derived.Lib.QuietBelow
import Derived.RegionTactic
import Derived.Test.YtdgfclbajjjcgaaBWb12
set_option maxHeartbeats 16000000
set_option maxRecDepth 1000000
namespace Go.Proofs.Ytdgfclbajjjcgaa
section
namespace trw
open sq
open Go.Sort Go Go.RowKit trp
def zC : List Value := [.int .i64 0, .int .i64 0, .int .i64 0, .slice none 0 0, .bool false, .int .i64 0, .int .i64 0, .int .i64 0, .string ⟨#[]⟩, .int .i64 0, .int .i64 0, .slice none 0 0]
theorem infoNd : (Try.prog.info? 27).map (fun i => (i.zero, i.size, i.bytes)) = some (some (.agg #[.int .i64 0, .int .i64 0, .int .i64 0, .slice none 0 0, .bool false, .int .i64 0, .int .i64 0, .int .i64 0, .string ⟨#[]⟩, .int .i64 0, .int .i64 0, .slice none 0 0]), 12, 136) := by kernel_rfl
end trw
end
section
namespace rpw
open sq
open Go.Sort Go Go.RowKit Go.Maps tkp trp trw rpp
open tkw (qO Kept Kept.refl Kept.trans Kept.mono Kept.then Kept.of_below Kept.below Kept.grown Kept.setCell)
def psC (v : Value) (s : Ps) : Array Value := #[v, .int .i64 s.i, .int .i64 s.op, .int .i64 s.e, .int .i64 s.at_]
def PsAt (w : World) (P : Nat) (v : Value) (s : Ps) : Prop := w.heap[P]? = some (.cells (psC v s) 96 (0, 0))
def TkIn (w : World) (v : Value) (L : List Tk) : Prop := ∃ a cap, v = .slice a L.length cap ∧ L.length ≤ cap ∧ cap ≤ 9223372036854775807 ∧ L.length ≤ 100000 ∧
 (L = [] ∨ ∃ g o, a = some ⟨g, o, none⟩ ∧ ∀ i t, L[i]? = some t → ∃ sv, RgAt w sv t.set ∧ ∀ j u, (qO sv t)[j]? = some u → w.cell? ⟨g, o + i * 12 + j, none⟩ = some u)
theorem tkIn_mono {w w' : World} (h : ∀ a v, w.cell? a = some v → w'.cell? a = some v) {v : Value} {L : List Tk} (hl : TkIn w v L) : TkIn w' v L := by
 obtain ⟨a, cap, h1, h2, h3, h4, h5 | ⟨g, o, h5, h6⟩⟩ := hl
 ·exact ⟨a, cap, h1, h2, h3, h4, Or.inl h5⟩
 ·refine ⟨a, cap, h1, h2, h3, h4, Or.inr ⟨g, o, h5, fun i t ht => ?_⟩⟩;obtain ⟨sv, hs, hc⟩ := h6 i t ht;exact ⟨sv, rgAt_mono h hs, fun j u hj => h _ _ (hc j u hj)⟩
theorem jE {P : Nat} {w w' : World} {v : Value} {s : Ps} (hp : PsAt w P v s) (hb : Below w.heap.size w w') : PsAt w' P v s := by
 unfold PsAt at *;rw [hb.block P (by
  apply dC;intro hn;rw [dH (by omega)] at hp;cases hp)]
 exact hp
theorem ps_lt {P : Nat} {w : World} {v : Value} {s : Ps} (hp : PsAt w P v s) : P < w.heap.size := by apply dC;intro hn;unfold PsAt at hp;rw [dH (by omega)] at hp;cases hp
structure PC (w : World) (P : Nat) (v : Value) (s : Ps) : Prop where
 c0 : w.cell? ⟨P, 0, none⟩ = some v
 c1 : w.cell? ⟨P, 1, none⟩ = some (.int .i64 s.i)
 c2 : w.cell? ⟨P, 2, none⟩ = some (.int .i64 s.op)
 c3 : w.cell? ⟨P, 3, none⟩ = some (.int .i64 s.e)
 c4 : w.cell? ⟨P, 4, none⟩ = some (.int .i64 s.at_)
 f1 : w.frozen? ⟨P, 1, none⟩ = false
 f2 : w.frozen? ⟨P, 2, none⟩ = false
 f3 : w.frozen? ⟨P, 3, none⟩ = false
 f4 : w.frozen? ⟨P, 4, none⟩ = false
theorem ps_c {P : Nat} {w : World} {v : Value} {s : Ps} (hp : PsAt w P v s) : PC w P v s := by unfold PsAt psC at hp;refine ⟨?_, ?_, ?_, ?_, ?_, ?_, ?_, ?_, ?_⟩ <;> simp [World.cell?, World.frozen?, hp]
theorem kind_any (P : Nat) (v : Value) (L : List Tk) (s : Ps) (w : World) (hp : PsAt w P v s) (hl : TkIn w v L) : Calls Try.prog 72 #[.pointer (some ⟨P, 0, none⟩)] w (IntB (kindS L s) w) := by
 obtain ⟨a, cap, rfl, hc1, hc2, hc3, hT⟩ := hl;obtain ⟨c0, c1, _, c3, _⟩ := ps_c hp;obtain ⟨i, op, e, at_⟩ := s;simp only at c1 c3;clear hp;by_cases h1 : L.length ≤ i
 ·have hR : kindS L ⟨i, op, e, at_⟩ = 0 := by
   unfold kindS;split
   ·rfl
   ·rw [List.getElem?_eq_none h1]
  rw [hR];have hli : (L.length : Int) ≤ (i : Int) := by omega
  exact z104
 have hli : ¬ (L.length : Int) ≤ (i : Int) := by omega
 have hln : decide (L.length ≤ i) = false := by simpa using h1
 by_cases h2 : e = 0
 ·subst h2;rcases hT with h0 | ⟨g, o, rfl, hT⟩
  ·subst h0; simp at h1
  obtain ⟨t, ht⟩ : ∃ t, L[i]? = some t := ⟨L[i]'(by omega), List.getElem?_eq_getElem (by omega)⟩;obtain ⟨sv, _, hcs⟩ := hT i t ht;have ck : w.cell? ⟨g, o + i * 12, none⟩ = some (.int .i64 t.kind) := hcs 0 _ rfl;have hR : kindS L ⟨i, op, 0, at_⟩ = t.kind := by unfold kindS; simp [ht]
  rw [hR];have hlt : i < L.length := by omega
  clear hcs hT ht hR h1;go_enter Try.func72, Try.ntmps72;go_wp2_with fail
  go_quiet (fail)
  rename_i nq;have hbq := tkw.zI (Below.refl w.heap.size w) nq;have d0 := trw.qf hbq c0;have d1 := trw.qf hbq c1;have dk := trw.qf hbq ck;have HB := xH hbq;generalize w.drewN nq = w1 at *;clear c0 c1 c3 ck hbq;go_wp2_with fail
  go_quiet (fail)
  go_wp2_with fail
  go_ret
  exact ⟨rfl, tkw.zI HB.out _⟩
 ·have hR : kindS L ⟨i, op, e, at_⟩ = 0 := by unfold kindS; rw [if_pos h2]
  rw [hR];have he : (e != 0) = true := by simpa using h2
  have he2 : decide (e = 0) = false := by simpa using h2
  have he3 : (e == 0) = false := by simpa using h2
  exact z104
def PsB (P : Nat) (v : Value) (s : Ps) (r : Value) (w : World) (e : Ending) (w' : World) : Prop := e = .returned r ∧ PsAt w' P v s ∧ Kept w.heap.size P w w'
theorem ps_set {P : Nat} {w : World} {v : Value} {s : Ps} (hp : PsAt w P v s) (o : Nat) (u : Value) {s' : Ps} (h : (psC v s).setIfInBounds o u = psC v s') : PsAt (w.setCell ⟨P, o, none⟩ u) P v s' := by unfold PsAt at *;have := tkw.heap_set (o := o) (v := u) hp;rw [h] at this;exact this
theorem fail_any (P : Nat) (v : Value) (s : Ps) (er at_ : Int) (w : World) (hp : PsAt w P v s) : Calls Try.prog 51 #[.pointer (some ⟨P, 0, none⟩), .int .i64 er, .int .i64 at_] w (PsB P v (failS s er at_) (.tuple #[]) w) := by
 have HP := xH hp;obtain ⟨c0, c1, c2, c3, c4, f1, f2, f3, f4⟩ := ps_c hp;clear hp;by_cases h : s.e = 0
 ·have b : (s.e == 0) = true := by simp [h]
  have h3 := ps_set HP.out 3 (.int .i64 er) (s' := { s with e := er }) rfl;have HR := xH (show PsAt ((w.setCell ⟨P, 3, none⟩ (.int .i64 er)).setCell ⟨P, 4, none⟩ (.int .i64 at_)) P v (failS s er at_) from by unfold failS; rw [if_pos h]; exact ps_set h3 4 (.int .i64 at_) rfl);obtain ⟨_, _, _, _, e4, _, _, _, g4⟩ := ps_c h3;clear h3 HP;go_enter Try.func51, Try.ntmps51;go_wp2_with fail
  go_end0
  exact ⟨rfl, HR.out, ((Kept.refl _ _ _).setCell 3 _).setCell 4 _⟩
 ·have b : (s.e == 0) = false := by simp [h]
  have HR := xH (show PsAt w P v (failS s er at_) from by unfold failS; rw [if_neg h]; exact HP.out);clear HP;go_enter Try.func51, Try.ntmps51;go_wp2_with fail
  go_end0
  exact ⟨rfl, HR.out, Kept.refl _ _ _⟩
theorem run_store_nd (w : World) (g : Nat) (old : Array Value) (x : Lab) (hg : w.heap[g]? = some (.cells old 27 (0, 0))) (hs : old.size = 12) (h1 : ∀ u ∈ ndC x, u.oneCell' = true) :
 (storeVar 27 ⟨g, 0, none⟩ (ndV x)).run Try.prog w = .ok () (w.setRow g (ndC x).toArray) := by
 have h := run_storeCells_at (P := Try.prog) g 0 27 (ndC x) 0 old w hg (by simp [ndC]; omega) h1;have e : (old.toList.take (0 + 0) ++ ndC x ++ old.toList.drop (0 + 0 + (ndC x).length)).toArray = (ndC x).toArray := by have h2 : old.toList.drop (0 + 0 + (ndC x).length) = [] := List.drop_eq_nil_of_le (by simp [ndC]; omega);rw [h2];simp
 rw [e] at h;have hz : (sizeOf 27).run Try.prog w = .ok 12 w := by kernel_rfl
 unfold storeVar ndV;unfold ndC at h;simp [Sem.run_bind, hz, Value.cells, Result.andThen, h];rfl
theorem qh {ops : Array Oper} {rest : List Oper} {o : Oper} {a : Act} {w : World} {Q : Exit → Act → World → Prop} (hgd : o.guard = none) (hd : o.dst = none) (x y : Operand) (ho : o.op = .store 27 x y)
 (g : Nat) (hx : a.eval x = .pointer (some ⟨g, 0, none⟩)) (old : Array Value) (l : Lab) (hg : w.heap[g]? = some (.cells old 27 (0, 0))) (hs : old.size = 12) (h1 : ∀ u ∈ ndC l, u.oneCell' = true) (hy : a.eval y = ndV l)
 (h : wpList Try.prog ops Q rest a (w.setRow g (ndC l).toArray)) : wpList Try.prog ops Q (o :: rest) a w :=
 wpList_plain hgd fun K hK => by unfold Oper.wp execOp;simp only [ho, hx, hy, Instr.storeAt, Instr.sureAddr, Sem.run_bind, Sem.run_pure, Result.andThen_ok, run_store_nd w g old l hg hs h1];have := hK _ _ h;simpa [Oper.upon, hd, Act.put] using this
theorem qA {fn : Func} {p : Tmp} (h : fn.results = #[.cell p 27]) (tmps : Array Value) (w : World) (g : Nat) (l : Lab) (hp : tmps.getD p undef = .pointer (some ⟨g, 0, none⟩)) (hg : w.heap[g]? = some (.cells (ndC l).toArray 27 (0, 0))) :
 (results fn tmps).run Try.prog w = .ok (ndV l) w := by
 exact results_cell_row h tmps w g 27 (ndC l).toArray (0, 0) _ hp hg Try.underlying27 rfl (by rw [ndInfo]; rfl)
theorem qp {w : World} {t : Nd} (h : NdAt w t) : ∀ u ∈ ndC t.1, u.oneCell' = true := by obtain ⟨_, ⟨a1, q1, e1, _⟩, ⟨a2, q2, e2, _⟩⟩ := h;intro u hu;simp only [ndC, e1, e2, List.mem_cons, dM, or_false] at hu;rcases hu with rfl | rfl | rfl | rfl | rfl | rfl | rfl | rfl | rfl | rfl | rfl | rfl <;> rfl
def oneR (kind : Int) (v : Value) : F → Nd
 | .cons x k .nil => (x, k)
 | l => ({ lab kind 0 with kv := v }, l)
theorem jV (kind : Int) (v : Value) : ∀ f : F, strip (F.one (oneR kind v f).1 (oneR kind v f).2) = oneF kind (strip f)
 | .nil => rfl
 | .cons _ _ .nil => rfl
 | .cons _ _ (.cons _ _ _) => rfl
theorem rg_nil (w : World) : RgAt w nil3 [] := ⟨none, 0, rfl, by simp, by decide, Or.inl rfl⟩
theorem lab_ok (kind : Int) (h : I64 kind) (v : Value) : LabOk { lab kind 0 with kv := v } := by
 have z : I64 0 := by unfold I64; omega
 exact ⟨h, z, z, z, z, z, z, z⟩
theorem zk {w : World} {v : Value} {f : F} (kind : Int) (hk : I64 kind) (h : jr w v f) : NdAt w (oneR kind v f) := by
 have key : NdAt w ({ lab kind 0 with kv := v }, f) := ⟨lab_ok kind hk v, rg_nil w, h⟩
 match f, h with
 | .nil, h => exact key
 | .cons _ _ (.cons _ _ _), h => exact key
 | .cons x k .nil, h =>
  obtain ⟨a, cap, h1, h2, h3, h4 | ⟨b, o, h4, h5⟩⟩ := h
  ·simp [F.len] at h4
  ·exact fAt_head h5
theorem jU (w : World) (c cs : Array Value) (t : TypeId) : Below w.heap.size w ((w.alloc (.cells c t)).setRow w.heap.size cs) :=
 (qg w _).trans ⟨rfl, rfl, rfl, by rw [tkw.setRow_size]; exact xL _, fun k hk => tkw.setRow_other _ _ k cs (by omega)⟩
theorem one_any (kind : Int) (hki : I64 kind) (v : Value) (f : F) (w : World) (hk : jr w v f) : Calls Try.prog 52 #[.int .i64 kind, v] w (fun e w' => e = .returned (ndV (oneR kind v f).1) ∧ Below w.heap.size w w') := by
 have H1 := xH (qp (zk kind hki hk));obtain ⟨a, cap, rfl⟩ := kids_len hk;have HK := xH hk;have hg := heap_alloc_new w (.cells zC.toArray 27);have HG := xH hg;clear hk hg;unfold zC at HG;by_cases h1 : f.len = 1
 ·obtain ⟨x, k, rfl⟩ : ∃ x k, f = .cons x k .nil := by
   match f, h1 with
   | .nil, h => simp [F.len] at h
   | .cons x k .nil, _ => exact ⟨x, k, rfl⟩
   | .cons _ _ (.cons _ _ _), h => simp [F.len] at h
  obtain ⟨b, o, q, hv, _, _, _, hf⟩ := kid_at HK.out (i := 0) rfl;cases hv;have hcs := hf.1;have hbl := qg w (.cells zC.toArray 27);have HC := xH (fun j u hj => trw.qf hbl (hcs j u hj));simp only [zC] at HC;clear hf hcs hbl HK h1;go_enter Try.func52, Try.ntmps52;go_wp2_with (first
   | (refine jv rfl _ rfl b (o + 0 * 12) rfl x HC.out ?_)
   | (refine qh rfl rfl _ _ rfl w.heap.size rfl _ x HG.out rfl H1.out rfl ?_))
  refine xB (qA rfl _ _ w.heap.size x rfl (setRow_heap _ _ _ _ _ _ HG.out)) rfl ?_;exact ⟨rfl, jU _ _ _ _⟩
 ·have h1i : ¬ (f.len : Int) = 1 := by omega
  have hR : oneR kind (.slice a f.len cap) f = ({ lab kind 0 with kv := .slice a f.len cap }, f) := by
   match f, h1 with
   | .nil, _ => rfl
   | .cons x k .nil, h => exact absurd rfl h
   | .cons _ _ (.cons _ _ _), _ => rfl
  rw [hR] at H1 ⊢;generalize f.len = n at *;clear HK hR;go_enter Try.func52, Try.ntmps52;go_wp2_with (refine qh rfl rfl _ _ rfl w.heap.size rfl _ { lab kind 0 with kv := .slice a n cap } HG.out rfl H1.out rfl ?_)
  refine xB (qA rfl _ _ w.heap.size { lab kind 0 with kv := .slice a n cap } rfl (setRow_heap _ _ _ _ _ _ HG.out)) rfl ?_;exact ⟨rfl, jU _ _ _ _⟩
theorem rrep_any (x : Lab) (w : World) : Calls Try.prog 108 #[ndV x] w (BoolB (repK x.kind) w) := by
 obtain ⟨xk, xa, xc, xs, xset, xneg, xn, xm, xmode, xname, xon, xoff, xkv⟩ := x;unfold ndV;simp only;have hbl := qg w (.cells #[.int .i64 xk, .int .i64 xa, .int .i64 xc, xs, .bool xneg, .int .i64 xn, .int .i64 xm, .int .i64 xmode, .string xname, .int .i64 xon, .int .i64 xoff, xkv] 27);have hgn := heap_alloc_new w (.cells #[.int .i64 xk, .int .i64 xa, .int .i64 xc, xs, .bool xneg, .int .i64 xn, .int .i64 xm, .int .i64 xmode, .string xname, .int .i64 xon, .int .i64 xoff, xkv] 27);have c0 : (w.alloc (.cells #[.int .i64 xk, .int .i64 xa, .int .i64 xc, xs, .bool xneg, .int .i64 xn, .int .i64 xm, .int .i64 xmode, .string xname, .int .i64 xon, .int .i64 xoff, xkv] 27)).cell? ⟨w.heap.size, 0, none⟩ = some (.int .i64 xk) := by unfold World.cell?; rw [hgn]; rfl
 have HB := xH hbl;clear hbl hgn;by_cases h4 : xk = 4
 ·have hR : repK xk = false := by simp [repK, h4]
  have b4 : (xk != 4) = false := by simp [h4]
  rw [hR];clear hR h4;go_enter Try.func108, Try.ntmps108;go_wp2_with fail
  go_ret
  exact ⟨rfl, HB.out⟩
 have b4 : (xk != 4) = true := by simp [h4]
 by_cases h5 : xk = 5
 ·have hR : repK xk = false := by simp [repK, h5]
  have b5 : (xk != 5) = false := by simp [h5]
  rw [hR];clear hR h4 h5;go_enter Try.func108, Try.ntmps108;go_wp2_with fail
  go_ret
  exact ⟨rfl, HB.out⟩
 have b5 : (xk != 5) = true := by simp [h5]
 by_cases h9 : xk = 9
 ·have hR : repK xk = false := by simp [repK, h9]
  have b9 : (xk != 9) = false := by simp [h9]
  rw [hR];clear hR h4 h5 h9;go_enter Try.func108, Try.ntmps108;go_wp2_with fail
  go_ret
  exact ⟨rfl, HB.out⟩
 have b9 : (xk != 9) = true := by simp [h9]
 by_cases h10 : xk = 10
 ·have hR : repK xk = false := by simp [repK, h10]
  have b10 : (xk != 10) = false := by simp [h10]
  rw [hR];clear hR h4 h5 h9 h10;go_enter Try.func108, Try.ntmps108;go_wp2_with fail
  go_ret
  exact ⟨rfl, HB.out⟩
 have b10 : (xk != 10) = true := by simp [h10]
 have hR : repK xk = (xk != 11) := by
  by_cases h11 : xk = 11
  ·simp [repK, h11]
  ·simp [repK, h4, h5, h9, h10, h11]
 rw [hR];clear hR h4 h5 h9 h10;go_enter Try.func108, Try.ntmps108;go_wp2_with fail
 go_ret
 exact ⟨rfl, HB.out⟩
variable {bl : Nat}
def sees (h : Nat → Bool) (w : World) : World := { w with heap := w.heap.mapIdx fun i o => if h i = true then .cells #[] 27 (0, 0) else o }
theorem sees_heap (h : Nat → Bool) (w : World) (k : Nat) : (sees h w).heap[k]? = if h k = true then (w.heap[k]?).map (fun _ => Obj.cells #[] 27 (0, 0)) else w.heap[k]? := by
 unfold sees;simp only [Array.getElem?_mapIdx];cases hk : w.heap[k]? with
 | none => simp
 | some o => by_cases hh : h k = true <;> simp [hh]
theorem jB {h : Nat → Bool} {w : World} {a : Addr} {v : Value} : (sees h w).cell? a = some v ↔ h a.block = false ∧ w.cell? a = some v := by
 unfold World.cell?;rw [sees_heap];by_cases hh : h a.block = true
 ·rw [if_pos hh];cases hk : w.heap[a.block]? with
  | none => simp
  | some o => simp [hh]
 ·rw [if_neg hh];have : h a.block = false := by simpa using hh
  simp [this]
theorem qU {h h' : Nat → Bool} {w w' : World} (H : ∀ a v, h a.block = false → w.cell? a = some v → h' a.block = false ∧ w'.cell? a = some v) : ∀ a v, (sees h w).cell? a = some v → (sees h' w').cell? a = some v :=
 fun a v hc => jB.2 (H a v (jB.1 hc).1 (jB.1 hc).2)
def mid (bl : Nat) (P n : Nat) (i : Nat) : Bool := decide (i < n) && (decide (P ≤ i + 1) || decide (i < bl))
def midx (bl : Nat) (P n : Nat) (g : Option Nat) (i : Nat) : Bool := mid bl P n i || decide (g = some i)
abbrev vis (bl : Nat) (P n : Nat) (w : World) : World := sees (mid bl P n) w
theorem vis_kept {P n n' : Nat} {w w' : World} (hk : Kept w.heap.size P w w') (hP : P < n) (hn : n' ≤ n) : ∀ a v, (vis bl P n w).cell? a = some v → (vis bl P n' w').cell? a = some v :=
 qU fun a v h1 hc => by
  have hne : a.block ≠ P := by intro e;simp [mid, e, hP] at h1
  refine ⟨?_, (World.cell?_of_block (hk.block a.block (cell_lt hc) hne)).trans hc⟩;simp only [mid, Bool.and_eq_false_iff, dE, dD] at h1 ⊢;omega
theorem vis_to {P n : Nat} {w : World} {a : Addr} {v : Value} (h : (vis bl P n w).cell? a = some v) : w.cell? a = some v := (jB.1 h).2
theorem zl {P n n' : Nat} {w w' : World} {t : Nd} (hk : Kept w.heap.size P w w') (hP : P < n) (hn : n' ≤ n) (h : NdAt (vis bl P n w) t) : NdAt (vis bl P n' w') t := qY (vis_kept hk hP hn) h
def fC : F → List Value
 | .nil => []
 | .cons x _ r => ndC x ++ fC r
theorem jP : ∀ f : F, (fC f).length = f.len * 12
 | .nil => rfl
 | .cons x _ r => by rw [fC, List.length_append, jP r];simp only [ndC, F.len, dB, dA];omega
def FSub (w : World) : F → Prop
 | .nil => True
 | .cons x k r => NdAt w (x, k) ∧ FSub w r
theorem vw {w w' : World} (h : ∀ a v, w.cell? a = some v → w'.cell? a = some v) : ∀ {f : F}, FSub w f → FSub w' f
 | .nil, _ => trivial
 | .cons _ _ _, hf => ⟨qY h hf.1, vw h hf.2⟩
def OwnN (bl : Nat) (P n : Nat) (w : World) (v : Value) (f : F) : Prop := w.ownsRow n 27 12 v f.len (fC f) ∧ (f.len = 0 → v = nil3) ∧ FSub (sees (midx bl P n v.ownBlock) w) f
theorem ownN_nil (P n : Nat) (w : World) : OwnN bl P n w nil3 .nil := ⟨World.ownsRow_nil w n _ 12, fun _ => rfl, trivial⟩
theorem jd : ∀ f g : F, (F.app f g).len = f.len + g.len
 | .nil, g => by simp [F.app, F.len]
 | .cons _ _ r, g => by rw [F.app, F.len, jd r g, F.len]; omega
theorem jQ : ∀ f g : F, fC (F.app f g) = fC f ++ fC g
 | .nil, g => rfl
 | .cons x _ r, g => by rw [F.app, fC, jQ r g, fC, List.append_assoc]
theorem app_sub {w : World} : ∀ {f g : F}, FSub w f → FSub w g → FSub w (F.app f g)
 | .nil, _, _, h => h
 | .cons _ _ _, _, h1, h2 => ⟨h1.1, app_sub h1.2 h2⟩
theorem jH : ∀ f g : F, strip (F.app f g) = F.app (strip f) (strip g)
 | .nil, _ => rfl
 | .cons x k r, g => by rw [F.app, strip, jH r g]; rfl
theorem jm : ∀ f : F, (strip f).len = f.len
 | .nil => rfl
 | .cons _ _ r => by rw [strip, F.len, jm r, F.len]
theorem own_below {w : World} {n : Nat} {e : TypeId} {s : Nat} {v : Value} {m : Nat} {xs : List Value} (h : w.ownsRow n e s v m xs) {g : Nat} (hg : v.ownBlock = some g) : n ≤ g ∧ g < w.heap.size := World.ownsRow.lt h g hg
theorem jL {P n : Nat} {w w' : World} {v : Value} {f : F} (h : OwnN bl P n w v f) (hk : Kept w.heap.size P w w') (hP : P < n) : OwnN bl P n w' v f := by
 refine ⟨World.ownsRow.kept h.1 hk.grown (tkw.own_lt h.1 hP), h.2.1, vw (qU fun a u h1 hc => ?_) h.2.2⟩;have hne : a.block ≠ P := by intro e;simp [midx, mid, e, hP] at h1
 exact ⟨h1, (World.cell?_of_block (hk.block a.block (cell_lt hc) hne)).trans hc⟩
theorem vW {w w' : World} {g : Nat} : ∀ {f : F} {o : Nat}, FSub w f → (∀ a v, w.cell? a = some v → w'.cell? a = some v) → (∀ j v, (fC f)[j]? = some v → w'.cell? ⟨g, o + j, none⟩ = some v) → FAt w' g o f
 | .nil, _, _, _, _ => trivial
 | .cons x k r, o, hs, hm, hc => by
  have h1 := qY hm hs.1;refine ⟨fun j v hj => hc j v ?_, ⟨h1.1, h1.2.1⟩, h1.2.2, vW (o := o + 12) hs.2 hm fun j v hj => ?_⟩
  ·rw [fC, List.getElem?_append_left (List.getElem?_eq_some_iff.1 hj).1];exact hj
  ·have := hc (12 + j) v (by rw [fC, List.getElem?_append_right (by simp [ndC])]; simpa [ndC] using hj);rw [show o + 12 + j = o + (12 + j) by omega];exact this
theorem zF {P n : Nat} {w : World} {v : Value} {f : F} (h : OwnN bl P n w v f) : jr (vis bl P n w) v f := by
 rcases h.1.2 with ⟨hv, h0⟩ | ⟨g, cap, cur, hv, hg, hh, h1, h2, _, _⟩
 ·exact ⟨none, 0, by rw [hv, h0], by omega, by decide, Or.inl h0⟩
 ·unfold maxLen at h2;refine ⟨_, cap, hv, h1, by omega, Or.inr ⟨g, 0, rfl, vW h.2.2 (qU fun a u k1 kc => ⟨?_, kc⟩) fun j u hj => jB.2 ⟨?_, ?_⟩⟩⟩
  ·simp only [midx, dE] at k1;exact k1.1
  ·simp only [mid, Bool.and_eq_false_iff, dE, dD];omega
  ·rw [Nat.zero_add, World.ownsRow.cellAt (hv ▸ h.1) j (by have := (List.getElem?_eq_some_iff.1 hj).1; rw [jP] at this; exact this)];exact hj
theorem zD {ops : Array Oper} {rest : List Oper} {o : Oper} {a : Act} {w : World} {Q : Exit → Act → World → Prop} (hgd : o.guard = none) (s x : Operand)
 (ho : o.op = .call { callee := .builtin .append, args := #[s, x], argTypes := #[25, 25] }) (P n m : Nat) (v : Value) (f : F) (hs : a.eval s = v) (hown : OwnN bl P n w v f)
 (l : Lab) (k : F) (hn : NdAt (vis bl P m w) (l, k)) (hm : n ≤ m) (hg : ∀ g, v.ownBlock = some g → P ≤ g ∧ g < m) (B : Nat) (hx : a.eval x = .slice (some ⟨B, 0, none⟩) 1 1) (hB : B = w.heap.size) (hlen : f.len ≤ 100000) (hbase : n ≤ w.heap.size)
 (h : ∀ v' w', OwnN bl P n w' v' (F.app f (F.one l k)) → Below n w w' → (∀ q, q < w.heap.size → v.ownBlock ≠ some q → w'.heap[q]? = w.heap[q]?) → wpList Try.prog ops Q rest (a.put o.dst v') w') :
 wpList Try.prog ops Q (o :: rest) a (w.alloc (.cells (ndC l).toArray 27)) := by
 subst hB;obtain ⟨i0, hi, hz0, hz1, hz2⟩ := info_parts infoNd;have h1c := qp hn;refine wpList_plain hgd fun K hK => ?_
 obtain ⟨v', w', hr, h2, h3, _, h5⟩ := run_append_own_at (P := Try.prog) (w.alloc (.cells (ndC l).toArray 27)) n 25 o.type 27 i0 _ 12 136 Try.underlying25 hi hz0 hz1 hz2 rfl (by decide) v f.len (fC f) (World.ownsRow.alloc hown.1 _) ⟨w.heap.size, 0, none⟩ 1 1 (ndC l) rfl
  (fun j u hj => by rw [add_plain, World.cell?_alloc_new]; simpa using hj) h1c (by unfold maxLen; omega) (by omega) (by rw [World.size_alloc]; omega)
 unfold Oper.wp execOp;simp only [ho, resolve, invoke, builtin, Sem.run_bind, Sem.run_pure, Result.andThen_ok, List.map_toArray, List.map_cons, List.map_nil, hs, hx, hr];have hlt := World.ownsRow.lt hown.1;have hblk : ∀ q, q < w.heap.size → v.ownBlock ≠ some q → w'.heap[q]? = w.heap[q]? := fun q hq hne => (h3.block q (by rw [World.size_alloc]; omega) (fun e => hne e.symm)).trans (Below.heap_alloc _ _ _ hq)
 have hbw : Below n w w' := ((Below.refl n w).alloc hbase _).grown h3 (by rw [World.size_alloc]; omega) (fun k hk => (hlt k hk).1);have hv' : ∀ g, v'.ownBlock = some g → v.ownBlock = some g ∨ w.heap.size ≤ g := fun g hg' => by
  rcases h5 with e | e
  ·exact Or.inl (e.symm.trans hg')
  ·rw [e] at hg';simp only [dG, World.size_alloc] at hg';exact Or.inr (by omega)
 have hK2 := hK _ _ (h v' w' ⟨?_, ?_, ?_⟩ hbw hblk)
 ·simpa [Oper.upon] using hK2
 ·rw [jd, jQ];simpa [F.one, F.len, fC] using h2
 ·intro h0;rw [jd] at h0;simp [F.one, F.len] at h0
 ·have key : ∀ a u, (midx bl P n v.ownBlock a.block = false) → w.cell? a = some u → midx bl P n v'.ownBlock a.block = false ∧ w'.cell? a = some u := fun a u k1 kc => by simp only [midx, dE, dD] at k1 ⊢;exact z106
  refine app_sub (vw (qU key) hown.2.2) ⟨qY (qU fun a u k1 kc => key a u ?_ kc) hn, trivial⟩;exact z111
variable {bl : Nat}
structure LOk (L : List Tk) : Prop where
 n : L.length ≤ 50000
 t : ∀ t ∈ L, t.at_ ≤ 100000 ∧ I64 t.kind ∧ I64 t.c ∧ I64 t.n ∧ I64 t.m ∧ I64 t.mode ∧ I64 t.on ∧ I64 t.off
structure Ok (bl : Nat) (w : World) (P : Nat) (v : Value) (L : List Tk) (s : Ps) : Prop where
 p : PsAt w P v s
 l : TkIn (vis bl P w.heap.size w) v L
 k : LOk L
 i : s.i ≤ L.length
 op : s.op ≤ 40
theorem Ok.step {w w' : World} {P : Nat} {v : Value} {L : List Tk} {s q : Ps} (h : Ok bl w P v L s) (hp : PsAt w' P v q) (hk : Kept w.heap.size P w w') (hi : Inv L s q) : Ok bl w' P v L q := by refine ⟨hp, tkIn_mono (qU fun a u h1 hc => ?_) h.l, h.k, hi.n, hi.op⟩;have hl := cell_lt hc;simp only [mid, Bool.and_eq_false_iff, dE, dD] at h1 ⊢;exact ⟨by omega, (World.cell?_of_block (hk.block a.block hl (by omega))).trans hc⟩
theorem Ok.low {w w' : World} {P n : Nat} {v : Value} {L : List Tk} {s : Ps} (h : Ok bl w P v L s) (hb : Below n w w') (hn : P < n) : Ok bl w' P v L s := by
 refine ⟨?_, tkIn_mono (qU fun a u h1 hc => ?_) h.l, h.k, h.i, h.op⟩
 ·have := h.p;unfold PsAt at *;rw [hb.block P hn];exact this
 ·have hl := cell_lt hc;simp only [mid, Bool.and_eq_false_iff, dE, dD] at h1 ⊢;exact ⟨by omega, (World.cell?_of_block (hb.block a.block (by omega))).trans hc⟩
theorem kept_low {w w' w'' : World} {P : Nat} (h : Kept w.heap.size P w w') (hb : Below w.heap.size w' w'') : Kept w.heap.size P w w'' := h.trans (Kept.of_below hb)
theorem Ok.tk {w : World} {P : Nat} {v : Value} {L : List Tk} {s : Ps} (h : Ok bl w P v L s) : TkIn w v L := tkIn_mono (fun _ _ hc => vis_to hc) h.l
theorem Ok.lt {w : World} {P : Nat} {v : Value} {L : List Tk} {s : Ps} (h : Ok bl w P v L s) : P < w.heap.size := ps_lt h.p
def RunB (bl : Nat) (P : Nat) (v : Value) (r : F × Ps) (w : World) (e : Ending) (w' : World) : Prop :=
 ∃ x k, e = .returned (ndV x) ∧ NdAt (vis bl P w.heap.size w') (x, k) ∧ strip (F.one x k) = r.1 ∧ PsAt w' P v r.2 ∧ Kept w.heap.size P w w'
def AltB (bl : Nat) (P : Nat) (v : Value) (r : F × Ps) (w : World) (e : Ending) (w' : World) : Prop :=
 ∃ u f, e = .returned u ∧ OwnN bl P w.heap.size w' u f ∧ strip f = r.1 ∧ PsAt w' P v r.2 ∧ Kept w.heap.size P w w'
def ThingC (bl : Nat) (P : Nat) (v : Value) (L : List Tk) (n : Nat) : Prop := ∀ (s : Ps) (w : World), Ok bl w P v L s → s.e = 0 → s.i < L.length → 3 * rem L s + 1 ≤ n → Calls Try.prog 107 #[.pointer (some ⟨P, 0, none⟩)] w (RunB bl P v (run L n .thing s) w)
def SeqC (bl : Nat) (P : Nat) (v : Value) (L : List Tk) (n : Nat) : Prop := ∀ (s : Ps) (w : World), Ok bl w P v L s → 3 * rem L s + 2 ≤ n → Calls Try.prog 71 #[.pointer (some ⟨P, 0, none⟩)] w (RunB bl P v (run L n (.seq .nil) s) w)
def AltC (bl : Nat) (P : Nat) (v : Value) (L : List Tk) (n : Nat) : Prop := ∀ (s : Ps) (w : World), Ok bl w P v L s → 3 * rem L s + 3 ≤ n → Calls Try.prog 50 #[.pointer (some ⟨P, 0, none⟩)] w (AltB bl P v (run L n (.alt .nil) s) w)
def remW (P n : Nat) (w : World) : Nat := match w.heap[P]? with
 | some (.cells c _ _) => if intOf (c.getD 3 undef) ≠ 0 then 0 else n - (intOf (c.getD 1 undef)).toNat
 | _ => 0
theorem remW_eq {w : World} {P : Nat} {v : Value} {L : List Tk} {s : Ps} (h : PsAt w P v s) : remW P L.length w = rem L s := by unfold PsAt psC at h;unfold remW rem;rw [h];simp [intOf]
theorem own_row1 {P n : Nat} {w : World} {x : Lab} {k : F} (h : NdAt (vis bl P n w) (x, k)) (hn : n ≤ w.heap.size) : OwnN bl P n (w.alloc (.cells (ndC x).toArray 27)) (.slice (some ⟨w.heap.size, 0, none⟩) 1 1) (F.one x k) := by refine ⟨⟨rfl, Or.inr ⟨w.heap.size, 1, (ndC x).toArray, rfl, hn, heap_alloc_new _ _, xL _, by decide, rfl, rfl⟩⟩, fun h => by simp [F.one, F.len] at h, ?_, trivial⟩;refine qY (qU fun a u h1 hc => ?_) h;have hl := cell_lt hc;refine ⟨?_, trw.qf (qg w _) hc⟩;simp only [midx, dE, dD, Value.ownBlock, dG];exact ⟨h1, by omega⟩
def ArRel (bl : Nat) (P : Nat) (v : Value) (L : List Tk) (N : Nat) (R : F × Ps) (w : World) (va : Value) (wr : World) : Prop :=
 ∃ (m : Nat) (f : F) (s : Ps), Hid (OwnN bl P w.heap.size wr va f) ∧ f.len ≤ s.i + 1 ∧ Hid (Ok bl wr P v L s) ∧ Hid (Kept w.heap.size P w wr) ∧ 3 * rem L s + 2 ≤ m ∧ m ≤ N ∧
  Hid ((if kindS L s = 7 then run L m (.alt (strip f)) { s with i := s.i + 1 } else (strip f, s)) = R)
theorem alt_of {P : Nat} {v : Value} {L : List Tk} {n : Nat} (hs : ∀ m, m ≤ n → SeqC bl P v L m) : AltC bl P v L (n + 1) := by
 intro s w hok hn;have HS := xH hs;have hlt := hok.lt;obtain ⟨R, hR⟩ : ∃ R, run L (n + 1) (.alt .nil) s = R := ⟨_, rfl⟩;rw [hR];have HR := xH hR;have HC := hs n (xL _) s w hok (by omega);have HI := xH (zq L n (.seq .nil) s hok.i hok.op (fun h => by cases h)).1;have HOK := xH hok;clear hs hok hR;go_enter Try.func50, Try.ntmps50;go_wp2_with fail
 refine HC.mono ?_;rintro e w1 ⟨x, k, rfl, hn1, hst, hp1, hk1⟩;have HOK1 := xH (HOK.out.step hp1 hk1 HI.out);have HO1 := xH (own_row1 hn1 hk1.size);have HK1 := xH (hk1.then (Kept.of_below (qg w1 (.cells (ndC x).toArray 27))));have HOK2 := xH (HOK1.out.step (jE hp1 (qg w1 (.cells (ndC x).toArray 27))) (Kept.of_below (qg w1 _)) (Inv.refl HOK1.out.i HOK1.out.op));have HST := xH hst;have hrem := HI.out.r;clear HC hn1 hst hp1 hk1;unfold ndC at HO1 HK1 HOK2;unfold ndV;have hf1 : (F.one x k).len ≤ (run L n (.seq .nil) s).2.i + 1 := by simp [F.one, F.len]
 have HR1 := xH (show (if kindS L (run L n (.seq .nil) s).2 = 7 then run L n (.alt (strip (F.one x k))) { (run L n (.seq .nil) s).2 with i := (run L n (.seq .nil) s).2.i + 1 } else (strip (F.one x k), (run L n (.seq .nil) s).2)) = R from by rw [HST.out, ← HR.out, run]; rfl);have hm : 3 * rem L (run L n (.seq .nil) s).2 + 2 ≤ n := by omega
 clear HR HST HI hrem HOK1;generalize (run L n (.seq .nil) s).2 = s1 at *;go_wp2_with fail
 generalize w1.alloc _ = w2 at *;generalize w1.heap.size = z1 at *
 go_loopw [3] (fun va wr => ArRel bl P v L n R w va wr) (fun _ wr => remW P L.length wr)
 case atStart => exact ⟨n, F.one x k, s1, HO1, hf1, HOK2, HK1, hm, xL _, HR1⟩
 case round =>
  obtain ⟨m, f, s, hO, hf, hOk, hK, hm, hmN, hR⟩ := hrel;have HO := hO;have HOk := hOk;have HK := hK;have HRr := hR;clear hO hOk hK hR HO1 HK1 HOK2 HR1;go_wp2_with fail
  refine (kind_any P v L s wr HOk.out.p HOk.out.tk).mono ?_;rintro e w3 ⟨rfl, hb⟩;have HO3 := xH (jL HO.out (Kept.of_below hb) hlt);have HOk3 := xH (HOk.out.step (jE HOk.out.p hb) (Kept.of_below hb) (Inv.refl HOk.out.i HOk.out.op));have HK3 := xH (HK.out.then (Kept.of_below hb));have hrw := remW_eq (L := L) HOk.out.p;have hsz3 : w.heap.size ≤ w3.heap.size := HK3.out.size;clear hb;by_cases h7 : kindS L s = 7
  ·have HR4 := xH (HRr.out.symm.trans (if_pos h7));obtain ⟨he, hi, _⟩ := zW (L := L) (s := s) (by rw [h7]; decide);have hop := HOk.out.op;have hin := HOk.out.k.n;have hr1 : rem L { s with i := s.i + 1 } < rem L s := rem_lt he hi (Or.inr (Nat.lt_succ_self _));have b7 : (kindS L s == 7) = true := by simp [h7]
   have HP4 := xH (ps_set HOk3.out.p 1 (.int .i64 ((s.i : Int) + 1)) (s' := { s with i := s.i + 1 }) rfl);obtain ⟨_, q1, _, _, _, g1, _⟩ := ps_c HOk3.out.p;have HKS := xH ((Kept.refl w3.heap.size P w3).setCell 1 (.int .i64 ((s.i : Int) + 1)));have HOk4 := xH (HOk3.out.step HP4.out HKS.out (inv_step hi hop));have HO4 := xH (jL HO3.out HKS.out hlt);have HK4 := xH (HK3.out.then HKS.out);have hsz4 : w.heap.size ≤ (w3.setCell ⟨P, 1, none⟩ (.int .i64 ((s.i : Int) + 1))).heap.size := HK4.out.size;obtain ⟨m, rfl⟩ : ∃ m', m = m' + 1 := ⟨m - 1, by omega⟩;have HI := xH (zq L m (.seq .nil) { s with i := s.i + 1 } HOk4.out.i HOk4.out.op (fun h => by cases h)).1;have HCC := xH (fun wx (h : Ok bl wx P v L { s with i := s.i + 1 }) => HS.out m (by omega) { s with i := s.i + 1 } wx h (by omega));have hwr : IntKind.i64.wrap ((s.i : Int) + 1) = (s.i : Int) + 1 := by rw [IntKind.wrap_i64]; omega
   clear h7 HP4 HO HK HOk HOk3 HK3 HKS;go_wp2_with fail
   generalize w3.setCell ⟨P, 1, none⟩ (.int .i64 ((s.i : Int) + 1)) = w4 at *;refine (HCC.out w4 HOk4.out).mono ?_;rintro e w5 ⟨y, j, rfl, hn5, hst, hp5, hk5⟩;have HN5 := xH hn5;have HST := xH hst;have HO5 := xH (jL HO4.out hk5 hlt);have HOk5 := xH (HOk4.out.step hp5 hk5 HI.out);have HK5 := xH (HK4.out.then hk5);have hg5 : ∀ g, u3.ownBlock = some g → P ≤ g ∧ g < w4.heap.size := fun g hg => by have := own_below HO4.out.1 hg;omega
   have hsz5 : w.heap.size ≤ w5.heap.size := HK5.out.size;have hfl : f.len ≤ 100000 := by omega
   clear hn5 hst hp5 hk5 HCC;unfold ndV;go_wp2_with (at_builtin; refine zD rfl _ _ rfl P w.heap.size w4.heap.size u3 f rfl HO5.out y j HN5.out hsz4 hg5 _ rfl rfl hfl hsz5 ?_; intro v6 w6 h6 hb6 _; have HO6 := xH h6; have HB6 := xH hb6; clear h6 hb6)
   have hi6 := HI.out.i;have hr6 := HI.out.r;refine ⟨⟨m, F.app f (F.one y j), (run L m (.seq .nil) { s with i := s.i + 1 }).2, HO6, ?_, xH (HOk5.out.low HB6.out hlt), xH (kept_low HK5.out HB6.out), by omega, by omega, xH ?_⟩, ?_⟩
   ·rw [jd]; simp only [F.one, F.len] at *; omega
   ·rw [jH, HST.out, HR4.out, run]
   ·rw [remW_eq (HOk5.out.low HB6.out hlt).p, hrw];omega
  ·have HR4 := xH (HRr.out.symm.trans (if_neg h7));have b7 : (kindS L s == 7) = false := by simp [h7]
   obtain ⟨qa, qc, rfl⟩ : ∃ a c, u3 = .slice a f.len c := zJ HO3.out.1;clear h7;go_wp2_with fail
   go_ret
   rw [HR4.out];exact ⟨_, f, rfl, HO3.out, rfl, HOk3.out.p, HK3.out⟩
end rpw
end
end Go.Proofs.Ytdgfclbajjjcgaa
