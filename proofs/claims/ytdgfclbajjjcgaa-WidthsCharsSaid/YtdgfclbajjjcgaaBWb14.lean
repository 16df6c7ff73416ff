/- T -/
import Derived.Test.YtdgfclbajjjcgaaBWb13
set_option maxHeartbeats 16000000
set_option maxRecDepth 1000000
namespace Go.Proofs.Ytdgfclbajjjcgaa
section
namespace rpw
open sq
open Go.Sort Go Go.RowKit Go.Maps tkp trp trw rpp
open tkw (qO Kept Kept.refl Kept.trans Kept.mono Kept.then Kept.of_below Kept.below Kept.grown Kept.setCell)
variable {bl : Nat}
def RvAt (w : World) (n : Nat) : Prop := ∃ old, w.heap[n]? = some (.cells old 27 (0, 0)) ∧ old.size = 12
theorem RvAt.below {w w' : World} {n : Nat} (h : RvAt w n) (hb : Below (n + 1) w w') : RvAt w' n := by obtain ⟨old, h1, h2⟩ := h;exact ⟨old, (hb.block n (Nat.lt_succ_self n)).trans h1, h2⟩
theorem RvAt.lt {w : World} {n : Nat} (h : RvAt w n) : n < w.heap.size := by obtain ⟨old, h1, _⟩ := h;apply dC;intro hn;rw [dH (by omega)] at h1;cases h1
theorem RvAt.kept {w w' : World} {n P : Nat} (h : RvAt w n) (hk : Kept w.heap.size P w w') (hP : P < n) : RvAt w' n := by have hl := h.lt;obtain ⟨old, h1, h2⟩ := h;exact ⟨old, (hk.block n hl (by omega)).trans h1, h2⟩
theorem nd_row {P n : Nat} {w : World} {t : Nd} (hP : P ≤ n) (cs : Array Value) (h : NdAt (vis bl P (n + 1) w) t) : NdAt (vis bl P n (w.setRow n cs)) t :=
 qY (qU fun a u h1 hc => by simp only [mid, Bool.and_eq_false_iff, dE, dD] at h1 ⊢;exact ⟨by omega, (World.cell?_of_block (tkw.setRow_other w n a.block cs (by omega))).trans hc⟩) h
theorem ps_row {P n : Nat} {w : World} {v : Value} {s : Ps} (hP : P < n) (cs : Array Value) (h : PsAt w P v s) : PsAt (w.setRow n cs) P v s := by unfold PsAt at *;rw [tkw.setRow_other w n P cs (by omega)];exact h
theorem kept_row {P n : Nat} {w w' : World} (h : Kept n P w w') (cs : Array Value) : Kept n P w (w'.setRow n cs) :=
 h.trans ⟨rfl, rfl, rfl, by rw [tkw.setRow_size]; exact xL _, fun k hk _ => tkw.setRow_other _ _ k cs (by omega)⟩
theorem run_end {P : Nat} {v : Value} {r : F × Ps} {w w' : World} {t : Nd} {q : Ps} (hP : P < w.heap.size) (hn : NdAt (vis bl P (w.heap.size + 1) w') t) (hs : strip (F.one t.1 t.2) = r.1) (hp : PsAt w' P v q) (hq : q = r.2) (hk : Kept w.heap.size P w w') : RunB bl P v r w (.returned (ndV t.1)) (w'.setRow w.heap.size (ndC t.1).toArray) := by subst hq;exact ⟨t.1, t.2, rfl, nd_row (Nat.le_of_lt hP) _ hn, hs, ps_row hP _ hp, kept_row hk _⟩
theorem zero_at (w : World) : NdAt w (lab 0 0, .nil) := ⟨lab_ok 0 (by unfold I64; omega) nil3, rg_nil w, ⟨none, 0, rfl, by simp [F.len], by decide, Or.inl rfl⟩⟩
theorem tk_at {w : World} {v : Value} {L : List Tk} {i : Nat} {t : Tk} {P n : Nat} (h : TkIn (vis bl P n w) v L) (ht : L[i]? = some t) : ∃ g o cap sv, v = .slice (some ⟨g, o, none⟩) L.length cap ∧ L.length ≤ cap ∧ cap ≤ 9223372036854775807 ∧ i < L.length ∧ mid bl P n g = false ∧ RgAt (vis bl P n w) sv t.set ∧ ∀ j u, (qO sv t)[j]? = some u → w.cell? ⟨g, o + i * 12 + j, none⟩ = some u := by
 obtain ⟨a, cap, h1, h2, h3, h4, h5 | ⟨g, o, rfl, h6⟩⟩ := h
 ·subst h5; cases ht
 ·obtain ⟨sv, hs, hc⟩ := h6 i t ht;refine ⟨g, o, cap, sv, h1, h2, h3, (List.getElem?_eq_some_iff.1 ht).1, (jB.1 (hc 0 _ rfl)).1, hs, fun j u hj => vis_to (hc j u hj)⟩
theorem failS_i (s : Ps) (e a : Int) : (failS s e a).i = s.i := by unfold failS; split <;> rfl
theorem rem_len (L : List Tk) (s : Ps) : rem L s ≤ L.length := by unfold rem; split <;> omega
theorem ql {ops : Array Oper} {rest : List Oper} {o : Oper} {a : Act} {w : World} {Q : Exit → Act → World → Prop} (hgd : o.guard = none) (x : Operand) (ho : o.op = .load 27 x)
 (b : Nat) (hx : a.eval x = .pointer (some ⟨b, 0, none⟩)) (l : Lab) (hg : w.heap[b]? = some (.cells (ndC l).toArray 27 (0, 0)))
 (h : wpList Try.prog ops Q rest (a.put o.dst (.agg #[.int .i64 l.kind, .int .i64 l.at_, .int .i64 l.c, l.sv, .bool l.neg, .int .i64 l.n, .int .i64 l.m, .int .i64 l.mode, .string l.name, .int .i64 l.on, .int .i64 l.off, l.kv])) w) : wpList Try.prog ops Q (o :: rest) a w :=
 jv hgd x ho b 0 hx l (fun j u hj => by rw [Nat.zero_add]; unfold World.cell?; rw [hg]; simpa using hj) h
theorem run_store_tk (w : World) (g : Nat) (old : Array Value) (v : Value) (t : Tk) (hg : w.heap[g]? = some (.cells old 90 (0, 0))) (hs : old.size = 12) (h1 : ∀ u ∈ qO v t, u.oneCell' = true) :
 (storeVar 90 ⟨g, 0, none⟩ (.agg (tkw.tkA v t))).run Try.prog w = .ok () (w.setRow g (tkw.tkA v t)) := by
 have h := run_storeCells_at (P := Try.prog) g 0 90 (qO v t) 0 old w hg (by simp [qO]; omega) h1;have e : (old.toList.take (0 + 0) ++ qO v t ++ old.toList.drop (0 + 0 + (qO v t).length)).toArray = tkw.tkA v t := by have h2 : old.toList.drop (0 + 0 + (qO v t).length) = [] := List.drop_eq_nil_of_le (by simp [qO]; omega);rw [h2];simp [qO, tkw.tkA]
 rw [e] at h;have hz : (sizeOf 90).run Try.prog w = .ok 12 w := by kernel_rfl
 have hc : (Value.agg (tkw.tkA v t)).cells = tkw.tkA v t := by simp [Value.cells]
 have hl : (tkw.tkA v t).toList = qO v t := rfl;have hsz : (tkw.tkA v t).size = 12 := rfl;unfold storeVar;simp [Sem.run_bind, hz, hc, hsz, Result.andThen, hl, h]
theorem held_store_tk {o : Oper} {a : Act} {W : World} {K : Act → World → Prop} {Q : Exit → Act → World → Prop} {ys : Nat → Option Bool} (hgd : o.guard = none) (hd : o.dst = none) (x y : Operand) (ho : o.op = .store 90 x y)
 (g : Nat) (hx : a.eval x = .pointer (some ⟨g, 0, none⟩)) (old : Array Value) (v : Value) (t : Tk) (hg : W.heap[g]? = some (.cells old 90 (0, 0))) (hs : old.size = 12) (h1 : ∀ u ∈ qO v t, u.oneCell' = true) (hy : a.eval y = .agg (tkw.tkA v t))
 (h : K a (W.setRow g (tkw.tkA v t))) : if Region.wanted o ys = true then Oper.wp Try.prog o a W K Q else K (a.put o.dst undef) W := by
 rw [if_pos (by unfold Region.wanted; rw [hgd])];unfold Oper.wp execOp;simp only [ho, hx, hy, Instr.storeAt, Instr.sureAddr, Sem.run_bind, Sem.run_pure, Result.andThen_ok, run_store_tk W g old v t hg hs h1];simpa [Oper.upon, hd, Act.put] using h
theorem jI {w : World} {a : Addr} {v : Value} {n : Nat} (cs : Array Value) (h : w.cell? a = some v) (hn : a.block ≠ n) : (w.setRow n cs).cell? a = some v := (World.cell?_of_block (tkw.setRow_other w n a.block cs hn)).trans h
theorem row_kids {P n b : Nat} {w : World} {x : Lab} {k : F} (hn : NdAt (vis bl P n w) (x, k)) (hb : n ≤ b) (hh : w.heap[b]? = some (.cells (ndC x).toArray 27 (0, 0))) : jr (vis bl P n w) (.slice (some ⟨b, 0, none⟩) 1 1) (F.one x k) := by
 refine ⟨_, 1, rfl, xL _, by decide, Or.inr ⟨b, 0, rfl, fun j u hj => jB.2 ⟨?_, ?_⟩, ⟨hn.1, hn.2.1⟩, hn.2.2, trivial⟩⟩
 ·simp only [mid, Bool.and_eq_false_iff, dE, dD];omega
 ·rw [Nat.zero_add];unfold World.cell?;rw [hh];simpa using hj
def repL (t : Tk) (kv : Value) : Lab := { lab 20 t.at_ with n := t.n, m := t.m, mode := t.mode, kv := kv }
theorem rep_at {P n : Nat} {w : World} {L : List Tk} {t : Tk} {kv : Value} {k : F} (hk : LOk L) (ht : t ∈ L) (h : jr (vis bl P n w) kv k) : NdAt (vis bl P n w) (repL t kv, k) := by
 obtain ⟨a1, a2, a3, a4, a5, a6, a7, a8⟩ := hk.t t ht;have z : I64 0 := by unfold I64; omega
 exact ⟨⟨by show I64 20; unfold I64; omega, by show I64 (t.at_ : Int); unfold I64; omega, z, a4, a5, a6, z, z⟩, rg_nil _, h⟩
def zT : Array Value := #[.int .i64 0, .int .i64 0, .int .i64 0, .int .i64 0, .slice none 0 0, .bool false, .int .i64 0, .int .i64 0, .int .i64 0, .string ⟨#[]⟩, .int .i64 0, .int .i64 0]
def SqRel (bl : Nat) (P : Nat) (v : Value) (L : List Tk) (N : Nat) (R : F × Ps) (w : World) (va : Value) (wr : World) : Prop :=
 ∃ (m : Nat) (f : F) (s : Ps), Hid (OwnN bl P (w.heap.size + 1) wr va f) ∧ f.len + rem L s ≤ L.length + 1 ∧ Hid (Ok bl wr P v L s) ∧ Hid (Kept w.heap.size P w wr) ∧ Hid (RvAt wr w.heap.size) ∧ 3 * rem L s + 2 ≤ m ∧ m ≤ N ∧ Hid (run L m (.seq (strip f)) s = R)
theorem seq_of {P : Nat} {v : Value} {L : List Tk} {n : Nat} (hs : ∀ m, m ≤ n → ThingC bl P v L m) : SeqC bl P v L (n + 1) := by
 intro s0 w hok hn;have HS := xH hs;have hlt := hok.lt;obtain ⟨R, hR⟩ : ∃ R, run L (n + 1) (.seq .nil) s0 = R := ⟨_, rfl⟩;rw [hR];have HR0 := xH hR;have hb0 := qg w (.cells zC.toArray 27);have HOK0 := xH (hok.step (jE hok.p hb0) (Kept.of_below hb0) (Inv.refl hok.i hok.op));have HK0 := xH (Kept.of_below (L := P) hb0);have HV0 := xH (show RvAt (w.alloc (.cells zC.toArray 27)) w.heap.size from ⟨_, heap_alloc_new _ _, rfl⟩);clear hs hok hR hb0;unfold zC at HOK0 HK0 HV0;go_enter Try.func71, Try.ntmps71;go_wp2_with fail
 generalize w.alloc _ = w0 at *
 go_loopw [3] (fun va wr => SqRel bl P v L (n + 1) R w va wr) (fun _ wr => remW P L.length wr)
 case atStart => exact ⟨n + 1, .nil, s0, xH (ownN_nil _ _ _), (by have := rem_len L s0; simp only [F.len]; omega), HOK0, HK0, HV0, hn, xL _, HR0⟩
 case round =>
  obtain ⟨m, f, s, hO, hf, hOk, hK, hV, hm, hmN, hR⟩ := hrel;have HO := hO;have HOk := hOk;have HK := hK;have HV := hV;have HRr := hR;clear hO hOk hK hV hR HOK0 HK0 HV0 HR0;go_wp2_with fail
  refine (kind_any P v L s wr HOk.out.p HOk.out.tk).mono ?_;rintro e w3 ⟨rfl, hb⟩;have HO3 := xH (jL HO.out (Kept.of_below hb) (show P < w.heap.size + 1 by omega));have HOk3 := xH (HOk.out.step (jE HOk.out.p hb) (Kept.of_below hb) (Inv.refl HOk.out.i HOk.out.op));have HK3 := xH (HK.out.then (Kept.of_below hb));have HV3 := xH (HV.out.kept (Kept.of_below (L := P) hb) hlt);have hrw := remW_eq (L := L) HOk.out.p;clear hb HO HOk HK HV;obtain ⟨m, rfl⟩ : ∃ m', m = m' + 1 := ⟨m - 1, by omega⟩;have HR1 := xH (HRr.out.symm.trans (show run L (m + 1) (.seq (strip f)) s = (if kindS L s = 0 ∨ kindS L s = 7 ∨ kindS L s = 8 then (oneF 12 (strip f), s) else if kindS L s = 9 then (zeroF, failS s 30 (L.getD s.i zeroT).at_) else (let r := run L m .thing s; if kindS L r.2 = 9 ∧ repK r.1.hd = true then run L m (.seq (F.app (strip f) (repF (L.getD r.2.i zeroT) r.1))) { r.2 with i := r.2.i + 1 } else run L m (.seq (F.app (strip f) r.1)) r.2)) by rw [run]));clear HRr;by_cases h078 : kindS L s = 0 ∨ kindS L s = 7 ∨ kindS L s = 8
  ·have HR := xH (HR1.out.trans (if_pos h078));have hq : kindS L s = 0 ∨ (kindS L s = 7 ∧ (kindS L s == 0) = false) ∨ (kindS L s = 8 ∧ (kindS L s == 0) = false ∧ (kindS L s == 7) = false) := by
    rcases h078 with h | h | h
    ·exact Or.inl h
    ·exact Or.inr (Or.inl ⟨h, by rw [h]; rfl⟩)
    ·exact Or.inr (Or.inr ⟨h, by rw [h]; rfl, by rw [h]; rfl⟩)
   have HKD := xH (zF HO3.out);have HN := xH (zk 12 (by unfold I64; omega) HKD.out);have HST := xH (jV 12 u3 f);have HON := xH (fun W (h : jr W u3 f) => one_any 12 (by unfold I64; omega) u3 f W h);have HK1 := xH (jh (fun _ _ hc => vis_to hc) HKD.out);generalize oneR 12 u3 f = t at *;clear HKD h078 HR1;rcases hq with h | ⟨h, k0⟩ | ⟨h, k0, k7⟩
   all_goals
    rw [h] at *;go_wp2_with fail
    refine (HON.out w3 HK1.out).mono ?_;rintro e w4 ⟨rfl, hb4⟩;have HN4 := xH (zl (Kept.of_below (L := P) hb4) (show P < w.heap.size + 1 by omega) (xL _) HN.out);have HOK4 := xH (jE HOk3.out.p hb4);have HK4 := xH (HK3.out.then (Kept.of_below hb4));obtain ⟨old, hg, hz⟩ := HV3.out.kept (Kept.of_below (L := P) hb4) hlt;have HG := xH hg;have H1 := xH (qp HN4.out);clear hb4 hg;go_wp2_with (refine qh rfl rfl _ _ rfl w.heap.size rfl _ t.1 HG.out hz H1.out rfl ?_)
    refine xB (qA rfl _ _ w.heap.size t.1 rfl (setRow_heap _ _ _ _ _ _ HG.out)) rfl ?_;exact run_end hlt HN4.out (by rw [HR.out]; exact HST.out) HOK4.out (by rw [HR.out]) HK4.out
  have HR2 := xH (HR1.out.trans (if_neg h078));clear HR1;obtain ⟨he, hi, tk, htk, hkk⟩ := zW (L := L) (s := s) (fun e => h078 (Or.inl e));have b0 : (kindS L s == 0) = false := by simpa using fun e => h078 (Or.inl e)
  have b7 : (kindS L s == 7) = false := by simpa using fun e => h078 (Or.inr (Or.inl e))
  have b8 : (kindS L s == 8) = false := by simpa using fun e => h078 (Or.inr (Or.inr e))
  have htd : L.getD s.i zeroT = tk := by rw [List.getD_eq_getElem?_getD, htk]; rfl
  by_cases h9 : kindS L s = 9
  ·have HR := xH (HR2.out.trans (if_pos h9));rw [htd] at HR;have b9 : (kindS L s == 9) = true := by simp [h9]
   obtain ⟨g, oo, cap, sv, rfl, hc1, hc2, hil, hgm, _, hcs⟩ := tk_at HOk3.out.l htk;have ca : w3.cell? ⟨g, oo + s.i * 12 + 1, none⟩ = some (.int .i64 tk.at_) := hcs 1 _ rfl;have hgP : g ≠ P := by have := HOk3.out.lt;simp only [mid, Bool.and_eq_false_iff, dE, dD] at hgm;omega
   have hil2 : s.i < L.length := hil;clear hcs hgm h9 htk htd hkk HR2;have hd3 : Below w3.heap.size w3 w3.drew := ⟨rfl, rfl, rfl, xL _, fun _ _ => rfl⟩;obtain ⟨e0, e1, _⟩ := ps_c HOk3.out.p;have HC0 := xH (trw.qf hd3 e0);have HC1 := xH (trw.qf hd3 e1);have HCA := xH (trw.qf hd3 ca);have HPD := xH (jE HOk3.out.p hd3);have HKD := xH (Kept.of_below (L := P) hd3);clear hd3 e0 e1 ca;go_wp2_with fail
   refine wp_region_held_drew (S := fun w' => w'.cell? ⟨P, 0, none⟩ = some (.slice (some ⟨g, oo, none⟩) L.length cap) ∧ w'.cell? ⟨P, 1, none⟩ = some (.int .i64 (s.i : Int)) ∧ w'.cell? ⟨g, oo + s.i * 12 + 1, none⟩ = some (.int .i64 (tk.at_ : Int))) (by kernel_rfl) ⟨HC0.out, HC1.out, HCA.out⟩ (fun hHeld => ?_);refine yT 0 ?_;simp only [xS];refine yT 1 ?_;simp only [xS];refine yT 2 ?_;simp only [xS];refine yT 3 ?_;simp only [xS];refine xT 4 rfl ?_ ?_ ?_;rotate_left
   ·intro w' hSw;obtain ⟨q0, q1, q2⟩ := hSw;go_simp;try rfl
   simp only [xS];refine yT 5 ?_;simp only [xS];refine yT 6 ?_;simp only [xS];refine yT 7 ?_;simp only [xS];refine xT 8 rfl ?_ ?_ ?_;rotate_left
   ·intro w' hSw;obtain ⟨q0, q1, q2⟩ := hSw;go_simp;try rfl
   simp only [xS];refine yT 9 ?_;simp only [xS];refine yT 10 ?_;simp only [xS];refine xT 11 rfl ?_ ?_ ?_;rotate_left
   ·intro w' hSw;obtain ⟨q0, q1, q2⟩ := hSw;go_simp;try rfl
   simp only [xS];refine xD 12 rfl (fun K hK => ?_);go_simp;refine (fail_any P _ s 30 tk.at_ w3.drew HPD.out).mono ?_;rintro e w5 ⟨rfl, hp5, hk5⟩;refine hK.out _ _ ⟨(ps_c hp5).c0, by have := (ps_c hp5).c1; rwa [failS_i] at this, (hk5.cell (cell_lt hHeld.2.2) hgP).trans hHeld.2.2⟩ (fun hHeld => ?_);clear hK K;try simp only [xS]
   refine wpAnyH_done (by kernel_rfl) ?_ _;obtain ⟨old, hg, hz⟩ := HV3.out.kept (HKD.out.then hk5) hlt;have HG := xH hg;have HP5 := xH hp5;have HK5 := xH (HK3.out.then (HKD.out.then hk5));clear hg hp5 hk5;have H1 := xH (qp (zero_at w5));go_wp2_with (refine qh rfl rfl _ _ rfl w.heap.size rfl _ (lab 0 0) HG.out hz H1.out rfl ?_)
   refine xB (qA rfl _ _ w.heap.size (lab 0 0) rfl (setRow_heap _ _ _ _ _ _ HG.out)) rfl ?_;exact run_end (t := (lab 0 0, .nil)) hlt (zero_at _) (by rw [HR.out]; rfl) HP5.out (by rw [HR.out]) HK5.out
  have HR3 := xH (HR2.out.trans (if_neg h9));clear HR2;have b9 : (kindS L s == 9) = false := by simp [h9]
  have HRI := xH (zq L m .thing s HOk3.out.i HOk3.out.op (fun _ => ⟨he, hi⟩)).1;have HRM := xH (run_rem (L := L) (n := m) (s := s) (by omega) HOk3.out.op he hi);have HCT := xH (HS.out m (by omega) s w3 HOk3.out he hi (by omega));generalize run L m .thing s = r at *;clear h078 h9 htk htd hkk;go_wp2_with fail
  refine HCT.out.mono ?_;rintro e w4 ⟨x, j, rfl, hn4, hst, hp4, hk4⟩;have HOk4 := xH (HOk3.out.step hp4 hk4 HRI.out);have HO4 := xH (jL HO3.out hk4 (show P < w.heap.size + 1 by omega));have HK4 := xH (HK3.out.then hk4);have HV4 := xH (HV3.out.kept hk4 hlt);have hsz3 : w.heap.size + 1 ≤ w3.heap.size := HV3.out.lt;have HN4 := xH hn4;have HST := xH hst;have HOW := xH (fun g (hg : u3.ownBlock = some g) => own_below HO3.out.1 hg);have hsz4 : w3.heap.size ≤ w4.heap.size := hk4.size;have HKA := xH hk4;clear hn4 hst hp4 hk4 HCT HOk3;have hb5 := jU w4 zC.toArray (ndC x).toArray 27;have HZ5 := xH (heap_alloc_new w4 (.cells zC.toArray 27));have HG5 := xH (setRow_heap _ _ _ (ndC x).toArray _ _ HZ5.out);have HOk5 := xH (HOk4.out.step (jE HOk4.out.p hb5) (Kept.of_below hb5) (Inv.refl HOk4.out.i HOk4.out.op));have HO5 := xH (jL HO4.out (Kept.of_below hb5) (show P < w.heap.size + 1 by omega));have HK5 := xH (HK4.out.then (Kept.of_below hb5));have HV5 := xH (HV4.out.kept (Kept.of_below (L := P) hb5) hlt);have HN5 := xH (zl (Kept.of_below (L := P) hb5) (show P < w3.heap.size by omega) (xL _) HN4.out);have H1x := xH (qp HN4.out);have HKB := xH (Kept.of_below (L := P) hb5);unfold zC at HZ5 HG5 HOk5 HO5 HK5 HV5 HN5 HKB;clear hb5 HOk4 HO4 HK4 HV4;have HPT := xH (HOk5.out.p);go_wp2_with (refine qh rfl rfl _ _ rfl w4.heap.size rfl _ x HZ5.out rfl H1x.out rfl ?_)
  generalize (w4.alloc _).setRow _ _ = w5 at *;obtain ⟨N, hN⟩ : ∃ N, w4.heap.size = N := ⟨_, rfl⟩;have HNN := xH hN;rw [hN] at HG5 hsz4 ⊢;refine (kind_any P v L r.2 w5 HOk5.out.p HOk5.out.tk).mono ?_;rintro e w6 ⟨rfl, hb⟩;have HOk6 := xH (HOk5.out.step (jE HOk5.out.p hb) (Kept.of_below hb) (Inv.refl HOk5.out.i HOk5.out.op));have HO6 := xH (jL HO5.out (Kept.of_below hb) (show P < w.heap.size + 1 by omega));have HK6 := xH (HK5.out.then (Kept.of_below hb));have HV6 := xH (HV5.out.kept (Kept.of_below (L := P) hb) hlt);have HN6 := xH (zl (Kept.of_below (L := P) hb) (show P < w3.heap.size by omega) (xL _) HN5.out);have HG6 := xH ((hb.block N (by
   have hh := HG5.out;apply dC;intro hn;rw [dH (by omega)] at hh;cases hh)).trans HG5.out)
  have HKC := xH (HKB.out.then (Kept.of_below hb));clear hb HOk5 HO5 HK5 HV5 HN5 HG5 hN HKB;have hg6 : ∀ g, u3.ownBlock = some g → P ≤ g ∧ g < w3.heap.size := fun g hg => by have := HOW.out g hg;omega
  have hrl := rem_len L s;have hfl : f.len ≤ 100000 := by have := HOk6.out.k.n; omega
  have hrm := HRM.out;have hxk : r.1.hd = x.kind := by rw [← HST.out]; rfl
  by_cases hk9 : kindS L r.2 = 9
  ·have b9r : (kindS L r.2 == 9) = true := by simp [hk9]
   obtain ⟨he2, hi2, tk, htk, _⟩ := zW (L := L) (s := r.2) (by rw [hk9]; decide);have HE2 := xH he2;clear he2;have c_all := HG6.out;have n0 : w6.cell? ⟨N, 0, none⟩ = some (.int .i64 x.kind) := by unfold World.cell?; rw [c_all]; rfl
   have n1 : w6.cell? ⟨N, 1, none⟩ = some (.int .i64 x.at_) := by unfold World.cell?; rw [c_all]; rfl
   have n2 : w6.cell? ⟨N, 2, none⟩ = some (.int .i64 x.c) := by unfold World.cell?; rw [c_all]; rfl
   have n3 : w6.cell? ⟨N, 3, none⟩ = some (x.sv) := by unfold World.cell?; rw [c_all]; rfl
   have n4 : w6.cell? ⟨N, 4, none⟩ = some (.bool x.neg) := by unfold World.cell?; rw [c_all]; rfl
   have n5 : w6.cell? ⟨N, 5, none⟩ = some (.int .i64 x.n) := by unfold World.cell?; rw [c_all]; rfl
   have n6 : w6.cell? ⟨N, 6, none⟩ = some (.int .i64 x.m) := by unfold World.cell?; rw [c_all]; rfl
   have n7 : w6.cell? ⟨N, 7, none⟩ = some (.int .i64 x.mode) := by unfold World.cell?; rw [c_all]; rfl
   have n8 : w6.cell? ⟨N, 8, none⟩ = some (.string x.name) := by unfold World.cell?; rw [c_all]; rfl
   have n9 : w6.cell? ⟨N, 9, none⟩ = some (.int .i64 x.on) := by unfold World.cell?; rw [c_all]; rfl
   have n10 : w6.cell? ⟨N, 10, none⟩ = some (.int .i64 x.off) := by unfold World.cell?; rw [c_all]; rfl
   have n11 : w6.cell? ⟨N, 11, none⟩ = some (x.kv) := by unfold World.cell?; rw [c_all]; rfl
   have HRP := xH (rrep_any x w6);unfold ndV at HRP;clear c_all;go_wp2_with fail
   refine HRP.out.mono ?_;rintro e w7 ⟨rfl, hb⟩;have HOk7 := xH (HOk6.out.step (jE HOk6.out.p hb) (Kept.of_below hb) (Inv.refl HOk6.out.i HOk6.out.op));have HO7 := xH (jL HO6.out (Kept.of_below hb) (show P < w.heap.size + 1 by omega));have HK7 := xH (HK6.out.then (Kept.of_below hb));have HV7 := xH (HV6.out.kept (Kept.of_below (L := P) hb) hlt);have HN7 := xH (zl (Kept.of_below (L := P) hb) (show P < w3.heap.size by omega) (xL _) HN6.out);have HG7 := xH ((hb.block N (by
    have hh := HG6.out;apply dC;intro hn;rw [dH (by omega)] at hh;cases hh)).trans HG6.out)
   have HKD := xH (HKC.out.then (Kept.of_below hb));clear hb n0 n1 n2 n3 n4 n5 n6 n7 n8 n9 n10 n11 HRP HOk6 HO6 HK6 HV6 HN6 HG6 HKC;cases hrk : repK x.kind with
   | false =>
    have HR4 := xH (HR3.out.trans (if_neg (fun h => by rw [hxk, hrk] at h; exact absurd h.2 (by simp))));clear hk9 HR3;have hszb : w.heap.size + 1 ≤ w7.heap.size := HV7.out.lt;go_wp2_with (first
     | (refine ql rfl _ rfl N rfl x HG7.out ?_)
     | (at_builtin; refine zD rfl _ _ rfl P (w.heap.size + 1) w3.heap.size u3 f rfl HO7.out x j HN7.out hsz3 hg6 _ rfl rfl hfl hszb ?_; intro v9 w9 h9 hb9 _; have HO9 := xH h9; have HB9 := xH hb9; clear h9 hb9))
    refine ⟨⟨m, F.app f (F.one x j), r.2, HO9, ?_, xH (HOk7.out.low HB9.out (by omega)), xH (HK7.out.trans (Kept.of_below (HB9.out.mono (Nat.le_succ _)))), xH (HV7.out.below HB9.out), by omega, by omega, xH ?_⟩, ?_⟩
    ·rw [jd]; simp only [F.one, F.len]; omega
    ·rw [jH, HST.out, HR4.out]
    ·rw [remW_eq (HOk7.out.low HB9.out (by omega)).p, hrw];omega
   | true =>
    have HR4 := xH (HR3.out.trans (if_pos ⟨hk9, by rw [hxk, hrk]⟩));have htd : L.getD r.2.i zeroT = tk := by rw [List.getD_eq_getElem?_getD, htk]; rfl
    rw [htd] at HR4;obtain ⟨g, oo, cap, sv, rfl, hc1, hc2, hil, hgm, hrg, hcs⟩ := tk_at HOk7.out.l htk;obtain ⟨sa, sq, hsv, _⟩ := hrg;subst hsv;have hgP : g ≠ P := by have := HOk7.out.lt;simp only [mid, Bool.and_eq_false_iff, dE, dD] at hgm;omega
    have hil2 : r.2.i < L.length := hil;have htm : tk ∈ L := List.mem_of_getElem? htk;have hPT : P < w7.heap.size := HOk7.out.lt;have hd7 : Below w7.heap.size w7 w7.drew := ⟨rfl, rfl, rfl, xL _, fun _ _ => rfl⟩;obtain ⟨e0, e1, _⟩ := ps_c HOk7.out.p;have HC0 := xH (trw.qf hd7 e0);have HC1 := xH (trw.qf hd7 e1);have HCT := xH (fun j u hj => trw.qf hd7 (hcs j u hj));clear hd7 e0 e1 hk9 HR3 htd hcs hgm htk hil;go_wp2_with fail
    refine wp_region_held_drew (S := fun w' => w'.cell? ⟨P, 0, none⟩ = some (.slice (some ⟨g, oo, none⟩) L.length cap) ∧ w'.cell? ⟨P, 1, none⟩ = some (.int .i64 (r.2.i : Int)) ∧ (∀ j u, (qO (.slice sa tk.set.length sq) tk)[j]? = some u → w'.cell? ⟨g, oo + r.2.i * 12 + j, none⟩ = some u)) (by kernel_rfl) ⟨HC0.out, HC1.out, HCT.out⟩ (fun hHeld => ?_);refine yT 0 ?_;simp only [xS];refine yT 1 ?_;simp only [xS];refine yT 2 ?_;simp only [xS];refine xT 3 rfl ?_ ?_ ?_;rotate_left
    ·intro w' hSw;obtain ⟨q0, q1, qT⟩ := hSw;go_simp;try rfl
    simp only [xS];refine yT 4 ?_;simp only [xS];refine yT 5 ?_;simp only [xS];refine yT 6 ?_;simp only [xS];refine xT 7 rfl ?_ ?_ ?_;rotate_left
    ·intro w' hSw;obtain ⟨q0, q1, qT⟩ := hSw;go_simp;try rfl
    simp only [xS];refine yT 8 ?_;simp only [xS];refine xT 9 rfl ?_ ?_ ?_;rotate_left
    ·intro w' hSw;exact z43
    simp only [xS];refine xD 10 rfl (fun K hK => ?_);go_simp;refine hK.out _ _ ⟨trw.qf (qg _ _) hHeld.1, trw.qf (qg _ _) hHeld.2.1, fun j u hj => trw.qf (qg _ _) (hHeld.2.2 j u hj)⟩ (fun hHeld => ?_);clear hK K;try simp only [xS]
    have hgT : g < w7.heap.size := cell_lt (HCT.out 0 _ rfl);refine xD 11 rfl (fun K hK => ?_);refine held_store_tk rfl rfl _ _ rfl w7.heap.size rfl zT (.slice sa tk.set.length sq) tk (heap_alloc_new w7.drew (.cells zT 90)) rfl (fun u hu => by simp only [qO, List.mem_cons, dM, or_false] at hu;rcases hu with rfl | rfl | rfl | rfl | rfl | rfl | rfl | rfl | rfl | rfl | rfl | rfl <;> rfl) rfl ?_
    refine hK.out _ _ ⟨jI _ hHeld.1 (by show P ≠ w7.heap.size; omega), jI _ hHeld.2.1 (by show P ≠ w7.heap.size; omega), fun j u hj => jI _ (hHeld.2.2 j u hj) (by show g ≠ w7.heap.size; omega)⟩ (fun _ => ?_);clear hK K hHeld;refine wpAnyH_done (by kernel_rfl) ?_ _;have hb8 : Below w7.heap.size w7 ((w7.alloc (.cells #[.int .i64 0, .int .i64 0, .int .i64 0, .int .i64 0, .slice none 0 0, .bool false, .int .i64 0, .int .i64 0, .int .i64 0, .string ⟨#[]⟩, .int .i64 0, .int .i64 0] 90)).drew.setRow w7.heap.size (tkw.tkA (.slice sa tk.set.length sq) tk)) :=
     ((qg w7 (.cells zT 90)).trans (show Below w7.heap.size (w7.alloc (.cells zT 90)) (w7.alloc (.cells zT 90)).drew from ⟨rfl, rfl, rfl, xL _, fun _ _ => rfl⟩)).trans ⟨rfl, rfl, rfl, by rw [tkw.setRow_size]; exact xL _, fun k hk => tkw.setRow_other _ _ k _ (by omega)⟩
    have ht8 : ((w7.alloc (.cells #[.int .i64 0, .int .i64 0, .int .i64 0, .int .i64 0, .slice none 0 0, .bool false, .int .i64 0, .int .i64 0, .int .i64 0, .string ⟨#[]⟩, .int .i64 0, .int .i64 0] 90)).drew.setRow w7.heap.size (tkw.tkA (.slice sa tk.set.length sq) tk)).heap[w7.heap.size]? = some (.cells (tkw.tkA (.slice sa tk.set.length sq) tk) 90 (0, 0)) := setRow_heap _ _ _ (tkw.tkA (.slice sa tk.set.length sq) tk) _ _ (show (w7.alloc (.cells zT 90)).drew.heap[w7.heap.size]? = _ from heap_alloc_new w7 (.cells zT 90));obtain ⟨w8, hw8⟩ : ∃ W, ((w7.alloc (.cells #[.int .i64 0, .int .i64 0, .int .i64 0, .int .i64 0, .slice none 0 0, .bool false, .int .i64 0, .int .i64 0, .int .i64 0, .string ⟨#[]⟩, .int .i64 0, .int .i64 0] 90)).drew.setRow w7.heap.size (tkw.tkA (.slice sa tk.set.length sq) tk)) = W := ⟨_, rfl⟩;rw [hw8] at hb8 ht8 ⊢;have HT8 := xH ht8;clear ht8 hw8;have HOk8 := xH (HOk7.out.step (jE HOk7.out.p hb8) (Kept.of_below hb8) (Inv.refl HOk7.out.i HOk7.out.op));have HKE := xH (HKD.out.then (Kept.of_below hb8));have HG8 := xH ((hb8.block N (by
     have hh := HG7.out;apply dC;intro hn;rw [dH (by omega)] at hh;cases hh)).trans HG7.out)
    have hsz8 : w7.heap.size ≤ w8.heap.size := hb8.size;clear hb8 HC0 HC1 HCT HOk7 HO7 HK7 HV7 HN7 HG7 HKD;generalize w7.heap.size = T at *;have k1 := yC 1 (.int .i64 (tk.at_ : Int)) HT8;have k6 := yC 6 (.int .i64 tk.n) HT8;have k7 := yC 7 (.int .i64 tk.m) HT8;have k8 := yC 8 (.int .i64 tk.mode) HT8;have hb9 : Below w8.heap.size w8 (w8.alloc (.cells #[.int .i64 x.kind, .int .i64 x.at_, .int .i64 x.c, x.sv, .bool x.neg, .int .i64 x.n, .int .i64 x.m, .int .i64 x.mode, .string x.name, .int .i64 x.on, .int .i64 x.off, x.kv] 27)) := qg w8 (.cells (ndC x).toArray 27);have HW9 := xH (show (w8.alloc (.cells #[.int .i64 x.kind, .int .i64 x.at_, .int .i64 x.c, x.sv, .bool x.neg, .int .i64 x.n, .int .i64 x.m, .int .i64 x.mode, .string x.name, .int .i64 x.on, .int .i64 x.off, x.kv] 27)).heap[w8.heap.size]? = some (.cells (ndC x).toArray 27 (0, 0)) from heap_alloc_new w8 (.cells (ndC x).toArray 27));have hNlt : N < w8.heap.size := by have hh := HG8.out;apply dC;intro hn;rw [dH (by omega)] at hh;cases hh
    have HG9 := xH ((hb9.block N hNlt).trans HG8.out);have hb10 : Below N w8 ((w8.alloc (.cells #[.int .i64 x.kind, .int .i64 x.at_, .int .i64 x.c, x.sv, .bool x.neg, .int .i64 x.n, .int .i64 x.m, .int .i64 x.mode, .string x.name, .int .i64 x.on, .int .i64 x.off, x.kv] 27)).setRow N (ndC (repL tk (.slice (some ⟨w8.heap.size, 0, none⟩) 1 1))).toArray) :=
     (hb9.mono (Nat.le_of_lt hNlt)).trans ⟨rfl, rfl, rfl, by rw [tkw.setRow_size]; exact xL _, fun q hq => tkw.setRow_other _ _ q _ (by omega)⟩
    have HKF := xH (show Kept w4.heap.size P w4 ((w8.alloc (.cells #[.int .i64 x.kind, .int .i64 x.at_, .int .i64 x.c, x.sv, .bool x.neg, .int .i64 x.n, .int .i64 x.m, .int .i64 x.mode, .string x.name, .int .i64 x.on, .int .i64 x.off, x.kv] 27)).setRow N (ndC (repL tk (.slice (some ⟨w8.heap.size, 0, none⟩) 1 1))).toArray) from HKE.out.trans (Kept.of_below (by rw [HNN.out]; exact hb10)));have HKG := xH (HKA.out.then HKF.out);have hP1 : P < w.heap.size + 1 := by omega
    have hP3 : P < w3.heap.size := by omega
    have HO10 := xH (jL HO3.out HKG.out hP1);have HK10 := xH (HK3.out.then HKG.out);have HV10 := xH (HV3.out.kept HKG.out hlt);have HOk10 := xH (HOk8.out.low hb10 (by omega));have HNX := xH (zl HKF.out hP3 (xL _) HN4.out);have hrow : ((w8.alloc (.cells #[.int .i64 x.kind, .int .i64 x.at_, .int .i64 x.c, x.sv, .bool x.neg, .int .i64 x.n, .int .i64 x.m, .int .i64 x.mode, .string x.name, .int .i64 x.on, .int .i64 x.off, x.kv] 27)).setRow N (ndC (repL tk (.slice (some ⟨w8.heap.size, 0, none⟩) 1 1))).toArray).heap[w8.heap.size]? = some (.cells (ndC x).toArray 27 (0, 0)) := (tkw.setRow_other _ N w8.heap.size _ (by omega)).trans HW9.out;have HRA := xH (rep_at (t := tk) HOk10.out.k htm (row_kids HNX.out (by omega) hrow));have H1R := xH (qp HRA.out);have HSTR := xH (show strip (F.one (repL tk (.slice (some ⟨w8.heap.size, 0, none⟩) 1 1)) (F.one x j)) = repF tk r.1 by rw [← HST.out]; rfl);have HG10 := xH (show ((w8.alloc (.cells #[.int .i64 x.kind, .int .i64 x.at_, .int .i64 x.c, x.sv, .bool x.neg, .int .i64 x.n, .int .i64 x.m, .int .i64 x.mode, .string x.name, .int .i64 x.on, .int .i64 x.off, x.kv] 27)).setRow N (ndC (repL tk (.slice (some ⟨w8.heap.size, 0, none⟩) 1 1))).toArray).heap[N]? = some (.cells (ndC (repL tk (.slice (some ⟨w8.heap.size, 0, none⟩) 1 1))).toArray 27 (0, 0)) from setRow_heap _ _ _ _ _ _ HG9.out);clear hb9 hb10 hrow HKF HKG HNX HW9;go_upto_region 12 with (first
     | (refine ql rfl _ rfl N rfl x HG8.out ?_)
     | (refine qh rfl rfl _ _ rfl N rfl _ (repL tk (.slice (some ⟨w8.heap.size, 0, none⟩) 1 1)) HG9.out rfl H1R.out rfl ?_))
    clear HG8 HG9 HOk8 HKE k1 k6 k7 k8 HT8;generalize ((w8.alloc (.cells #[.int .i64 x.kind, .int .i64 x.at_, .int .i64 x.c, x.sv, .bool x.neg, .int .i64 x.n, .int .i64 x.m, .int .i64 x.mode, .string x.name, .int .i64 x.on, .int .i64 x.off, x.kv] 27)).setRow N (ndC (repL tk (.slice (some ⟨w8.heap.size, 0, none⟩) 1 1))).toArray) = w10 at *;generalize (repL tk (.slice (some ⟨w8.heap.size, 0, none⟩) 1 1)) = rl at *;have hop := HOk10.out.op;have hin := HOk10.out.k.n;have hwr : IntKind.i64.wrap ((r.2.i : Int) + 1) = (r.2.i : Int) + 1 := by rw [IntKind.wrap_i64]; omega
    have hr1 : rem L { r.2 with i := r.2.i + 1 } < rem L r.2 := rem_lt HE2.out hi2 (Or.inr (Nat.lt_succ_self _));obtain ⟨_, p1, _, _, _, g1, _⟩ := ps_c HOk10.out.p;have HP11 := xH (ps_set HOk10.out.p 1 (.int .i64 ((r.2.i : Int) + 1)) (s' := { r.2 with i := r.2.i + 1 }) rfl);have HKS := xH ((Kept.refl w10.heap.size P w10).setCell 1 (.int .i64 ((r.2.i : Int) + 1)));have HOk11 := xH (HOk10.out.step HP11.out HKS.out (inv_step hi2 hop));have HO11 := xH (jL HO10.out HKS.out hP1);have HK11 := xH (HK10.out.then HKS.out);have HV11 := xH (HV10.out.kept HKS.out hlt);have HR11 := xH (zl HKS.out hP3 (xL _) HRA.out);have HG11 := xH ((HKS.out.block N (by
     have hh := HG10.out;apply dC;intro hn;rw [dH (by omega)] at hh;cases hh) (by omega)).trans HG10.out)
    have hs11 : w.heap.size + 1 ≤ (w10.setCell ⟨P, 1, none⟩ (.int .i64 ((r.2.i : Int) + 1))).heap.size := HV11.out.lt;clear HP11 HOk10 HO10 HK10 HV10 HRA HG10 HKS;go_upto_region 13 with (fail)
    generalize w10.setCell ⟨P, 1, none⟩ (.int .i64 ((r.2.i : Int) + 1)) = w11 at *;go_wp2_with (first
     | (refine ql rfl _ rfl N rfl rl HG11.out ?_)
     | (at_builtin; refine zD rfl _ _ rfl P (w.heap.size + 1) w3.heap.size u3 f rfl HO11.out rl (F.one x j) HR11.out hsz3 hg6 _ rfl rfl hfl hs11 ?_; intro v9 w9 h9 hb9 _; have HO9 := xH h9; have HB9 := xH hb9; clear h9 hb9))
    refine ⟨⟨m, F.app f (F.one rl (F.one x j)), { r.2 with i := r.2.i + 1 }, HO9, ?_, xH (HOk11.out.low HB9.out hP1), xH (HK11.out.trans (Kept.of_below (HB9.out.mono (Nat.le_succ _)))), xH (HV11.out.below HB9.out), by omega, by omega, xH ?_⟩, ?_⟩
    ·rw [jd, show (F.one rl (F.one x j)).len = 1 from rfl]; omega
    ·rw [jH, HSTR.out, HR4.out]
    ·rw [remW_eq (HOk11.out.low HB9.out hP1).p, hrw];omega
  ·have b9r : (kindS L r.2 == 9) = false := by simp [hk9]
   have HR4 := xH (HR3.out.trans (if_neg (fun h => hk9 h.1)));clear hk9 HR3;have hszb : w.heap.size + 1 ≤ w6.heap.size := HV6.out.lt;go_wp2_with (first
    | (refine ql rfl _ rfl N rfl x HG6.out ?_)
    | (at_builtin; refine zD rfl _ _ rfl P (w.heap.size + 1) w3.heap.size u3 f rfl HO6.out x j HN6.out hsz3 hg6 _ rfl rfl hfl hszb ?_; intro v9 w9 h9 hb9 _; have HO9 := xH h9; have HB9 := xH hb9; clear h9 hb9))
   refine ⟨⟨m, F.app f (F.one x j), r.2, HO9, ?_, xH (HOk6.out.low HB9.out (by omega)), xH (HK6.out.trans (Kept.of_below (HB9.out.mono (Nat.le_succ _)))), xH (HV6.out.below HB9.out), by omega, by omega, xH ?_⟩, ?_⟩
   ·rw [jd]; simp only [F.one, F.len]; omega
   ·rw [jH, HST.out, HR4.out]
   ·rw [remW_eq (HOk6.out.low HB9.out (by omega)).p, hrw];omega
variable {bl : Nat}
theorem qP {P n : Nat} {w w' : World} (h : Kept n P w w') {b : Nat} (hb : n ≤ b) (o : Nat) (v : Value) : Kept n P w (w'.setCell ⟨b, o, none⟩ v) :=
 h.trans ⟨rfl, rfl, rfl, by simp [World.setCell], fun k hk _ => Below.heap_setCell w' ⟨b, o, none⟩ v k (by show k ≠ b; omega)⟩
theorem qx {w : World} {b k : Nat} (o : Nat) (v : Value) (h : k ≠ b) : (w.setCell ⟨b, o, none⟩ v).heap[k]? = w.heap[k]? := Below.heap_setCell w ⟨b, o, none⟩ v k h
theorem leaf_at {P n : Nat} {w : World} {L : List Tk} {t : Tk} {sv : Value} (hk : LOk L) (ht : t ∈ L) (h : RgAt (vis bl P n w) sv t.set) : NdAt (vis bl P n w) (leafL t sv, .nil) := by
 obtain ⟨a1, a2, a3, a4, a5, a6, a7, a8⟩ := hk.t t ht;have z : I64 0 := by unfold I64; omega
 refine ⟨⟨?_, by show I64 (t.at_ : Int); unfold I64; omega, a3, a4, a5, z, a7, a8⟩, h, none, 0, rfl, by simp [F.len], by decide, Or.inl rfl⟩;show I64 (leafK t.kind);unfold leafK I64
 repeat' (first | omega | split)
theorem thing_leaf {P : Nat} {v : Value} {L : List Tk} {n : Nat} (s : Ps) (w : World) (hok : Ok bl w P v L s) (_he : s.e = 0) (hi : s.i < L.length) (hkd : (L.getD s.i zeroT).kind ≠ 10 ∨ s.op = 40) : Calls Try.prog 107 #[.pointer (some ⟨P, 0, none⟩)] w (RunB bl P v (run L (n + 1) .thing s) w) := by
 have hlt := hok.lt;obtain ⟨R, hR⟩ : ∃ R, run L (n + 1) .thing s = R := ⟨_, rfl⟩;rw [hR];obtain ⟨tk, htk⟩ : ∃ tk, L[s.i]? = some tk := ⟨L[s.i], List.getElem?_eq_getElem hi⟩;have htd : L.getD s.i zeroT = tk := by rw [List.getD_eq_getElem?_getD, htk]; rfl
 have HR0 := xH (hR.symm.trans (show run L (n + 1) .thing s = (if tk.kind ≠ 10 then (F.one (leafL tk nil3) .nil, { s with i := s.i + 1 }) else if s.op = 40 then (zeroF, failS s 11 tk.at_) else (let s1 : Ps := { s with i := s.i + 1, op := s.op + 1 }; let q := if tk.n = 13 ∧ kindS L s1 = 10 then run L n .thing s1 else (.nil, s1); let r := run L n (.alt .nil) q.2; if kindS L r.2 ≠ 8 then (zeroF, failS r.2 20 (-1)) else (jf tk q.1 r.1, zf tk r.1 { r.2 with i := r.2.i + 1, op := r.2.op - 1 }))) by rw [run, htd]));have hb0 := qg w (.cells zC.toArray 27);have HOk0 := xH (hok.step (jE hok.p hb0) (Kept.of_below hb0) (Inv.refl hok.i hok.op));have HK0 := xH (Kept.of_below (L := P) hb0);have HV0 := xH (show RvAt (w.alloc (.cells zC.toArray 27)) w.heap.size from ⟨_, heap_alloc_new _ _, rfl⟩);have HSZ := xH (World.size_alloc w (.cells zC.toArray 27));have htm : tk ∈ L := List.mem_of_getElem? htk;obtain ⟨g, oo, cap, sv, hv, hc1, hc2, hil, hgm, hrg, hcs⟩ := tk_at hok.l htk;obtain ⟨sa, sq, hsv, _⟩ := id hrg;subst hsv;subst hv;have HRG := xH hrg;obtain ⟨e0, e1, _⟩ := ps_c (jE hok.p hb0);have hd7 : Below (w.alloc (.cells zC.toArray 27)).heap.size (w.alloc (.cells zC.toArray 27)) (w.alloc (.cells zC.toArray 27)).drew := ⟨rfl, rfl, rfl, xL _, fun _ _ => rfl⟩;have HC0 := xH (trw.qf hd7 e0);have HC1 := xH (trw.qf hd7 e1);have HCT := xH (fun j u hj => trw.qf hd7 (trw.qf hb0 (hcs j u hj)));rw [htd] at hkd;clear hok hR hb0 hrg hcs hd7 e0 e1 htd hgm htk;unfold zC at HOk0 HK0 HV0 HC0 HC1 HCT HSZ;go_enter Try.func107, Try.ntmps107;go_wp2_with fail
 generalize w.alloc _ = w0 at *;have hPT : P < w0.heap.size := HOk0.out.lt;refine wp_region_held_drew (S := fun w' => w'.cell? ⟨P, 0, none⟩ = some (.slice (some ⟨g, oo, none⟩) L.length cap) ∧ w'.cell? ⟨P, 1, none⟩ = some (.int .i64 (s.i : Int)) ∧ (∀ j u, (qO (.slice sa tk.set.length sq) tk)[j]? = some u → w'.cell? ⟨g, oo + s.i * 12 + j, none⟩ = some u)) (by kernel_rfl) ⟨HC0.out, HC1.out, HCT.out⟩ (fun hHeld => ?_);refine yT 0 ?_;simp only [xS];refine yT 1 ?_;simp only [xS];refine yT 2 ?_;simp only [xS];refine xT 3 rfl ?_ ?_ ?_;rotate_left
 ·intro w' hSw;obtain ⟨q0, q1, qT⟩ := hSw;go_simp;try rfl
 simp only [xS];refine yT 4 ?_;simp only [xS];refine yT 5 ?_;simp only [xS];refine yT 6 ?_;simp only [xS];refine xT 7 rfl ?_ ?_ ?_;rotate_left
 ·intro w' hSw;obtain ⟨q0, q1, qT⟩ := hSw;go_simp;try rfl
 simp only [xS];refine yT 8 ?_;simp only [xS];refine xT 9 rfl ?_ ?_ ?_;rotate_left
 ·intro w' hSw;exact z43
 simp only [xS];refine xD 10 rfl (fun K hK => ?_);go_simp;refine hK.out _ _ ⟨trw.qf (qg _ _) hHeld.1, trw.qf (qg _ _) hHeld.2.1, fun j u hj => trw.qf (qg _ _) (hHeld.2.2 j u hj)⟩ (fun hHeld => ?_);clear hK K;try simp only [xS]
 have hgT : g < w0.heap.size := cell_lt (HCT.out 0 _ rfl);refine xD 11 rfl (fun K hK => ?_);refine held_store_tk rfl rfl _ _ rfl w0.heap.size rfl zT (.slice sa tk.set.length sq) tk (heap_alloc_new w0.drew (.cells zT 90)) rfl (fun u hu => by simp only [qO, List.mem_cons, dM, or_false] at hu;rcases hu with rfl | rfl | rfl | rfl | rfl | rfl | rfl | rfl | rfl | rfl | rfl | rfl <;> rfl) rfl ?_
 refine hK.out _ _ ⟨jI _ hHeld.1 (by show P ≠ w0.heap.size; omega), jI _ hHeld.2.1 (by show P ≠ w0.heap.size; omega), fun j u hj => jI _ (hHeld.2.2 j u hj) (by show g ≠ w0.heap.size; omega)⟩ (fun _ => ?_);clear hK K hHeld;refine wpAnyH_done (by kernel_rfl) ?_ _;have hb8 : Below w0.heap.size w0 ((w0.alloc (.cells #[.int .i64 0, .int .i64 0, .int .i64 0, .int .i64 0, .slice none 0 0, .bool false, .int .i64 0, .int .i64 0, .int .i64 0, .string ⟨#[]⟩, .int .i64 0, .int .i64 0] 90)).drew.setRow w0.heap.size (tkw.tkA (.slice sa tk.set.length sq) tk)) :=
  ((qg w0 (.cells zT 90)).trans (show Below w0.heap.size (w0.alloc (.cells zT 90)) (w0.alloc (.cells zT 90)).drew from ⟨rfl, rfl, rfl, xL _, fun _ _ => rfl⟩)).trans ⟨rfl, rfl, rfl, by rw [tkw.setRow_size]; exact xL _, fun k hk => tkw.setRow_other _ _ k _ (by omega)⟩
 have ht8 : ((w0.alloc (.cells #[.int .i64 0, .int .i64 0, .int .i64 0, .int .i64 0, .slice none 0 0, .bool false, .int .i64 0, .int .i64 0, .int .i64 0, .string ⟨#[]⟩, .int .i64 0, .int .i64 0] 90)).drew.setRow w0.heap.size (tkw.tkA (.slice sa tk.set.length sq) tk)).heap[w0.heap.size]? = some (.cells (tkw.tkA (.slice sa tk.set.length sq) tk) 90 (0, 0)) := setRow_heap _ _ _ (tkw.tkA (.slice sa tk.set.length sq) tk) _ _ (show (w0.alloc (.cells zT 90)).drew.heap[w0.heap.size]? = _ from heap_alloc_new w0 (.cells zT 90));obtain ⟨w8, hw8⟩ : ∃ W, ((w0.alloc (.cells #[.int .i64 0, .int .i64 0, .int .i64 0, .int .i64 0, .slice none 0 0, .bool false, .int .i64 0, .int .i64 0, .int .i64 0, .string ⟨#[]⟩, .int .i64 0, .int .i64 0] 90)).drew.setRow w0.heap.size (tkw.tkA (.slice sa tk.set.length sq) tk)) = W := ⟨_, rfl⟩;rw [hw8] at hb8 ht8 ⊢;have HT8 := xH ht8;clear ht8 hw8;have HOk8 := xH (HOk0.out.step (jE HOk0.out.p hb8) (Kept.of_below hb8) (Inv.refl HOk0.out.i HOk0.out.op));have HK8 := xH (HK0.out.then (Kept.of_below hb8));have HV8 := xH (HV0.out.kept (Kept.of_below (L := P) hb8) hlt);have hT8 : w.heap.size + 1 ≤ w0.heap.size := by rw [HSZ.out]; exact xL _
 clear hb8 HC0 HC1 HCT HOk0 HK0 HV0 HSZ;generalize w0.heap.size = T at *;have k0 := yC 0 (.int .i64 tk.kind) HT8;have k1 := yC 1 (.int .i64 (tk.at_ : Int)) HT8;have k2 := yC 2 (.int .i64 (tk.to : Int)) HT8;have k3 := yC 3 (.int .i64 tk.c) HT8;have k4 := yC 4 (.slice sa tk.set.length sq) HT8;have k5 := yC 5 (.bool tk.neg) HT8;have k6 := yC 6 (.int .i64 tk.n) HT8;have k7 := yC 7 (.int .i64 tk.m) HT8;have k8 := yC 8 (.int .i64 tk.mode) HT8;have k9 := yC 9 (.string tk.name) HT8;have k10 := yC 10 (.int .i64 tk.on) HT8;have k11 := yC 11 (.int .i64 tk.off) HT8;by_cases hk10 : tk.kind ≠ 10
 ·have HR := xH (HR0.out.trans (if_pos hk10));have b10 : (tk.kind != 10) = true := by simpa using hk10
  have hin := HOk8.out.k.n;have hwr : IntKind.i64.wrap ((s.i : Int) + 1) = (s.i : Int) + 1 := by rw [IntKind.wrap_i64]; omega
  obtain ⟨_, p1, _, _, _, g1, _⟩ := ps_c HOk8.out.p;have HP9 := xH (ps_set HOk8.out.p 1 (.int .i64 ((s.i : Int) + 1)) (s' := { s with i := s.i + 1 }) rfl);have HKS := xH ((Kept.refl w8.heap.size P w8).setCell 1 (.int .i64 ((s.i : Int) + 1)));have HOk9 := xH (HOk8.out.step HP9.out HKS.out (inv_step hi HOk8.out.op));have HK9 := xH (HK8.out.then HKS.out);have HV9 := xH (HV8.out.kept HKS.out hlt);have HT9 := xH ((HKS.out.block T (by
   have hh := HT8.out;apply dC;intro hn;rw [dH (by omega)] at hh;cases hh) (by omega)).trans HT8.out)
  have HN9 := xH (leaf_at (t := tk) (sv := .slice sa tk.set.length sq) HOk9.out.k htm (rgAt_mono (qU fun a u h1 hc => by have hl := cell_lt hc;simp only [mid, Bool.and_eq_false_iff, dE, dD] at h1;exact ⟨by simp only [mid, Bool.and_eq_false_iff, dE, dD]; omega, (World.cell?_of_block (HK9.out.block a.block hl (by omega))).trans hc⟩ : ∀ a u, (vis bl P w.heap.size w).cell? a = some u → (vis bl P (w.heap.size + 1) (w8.setCell ⟨P, 1, none⟩ (.int .i64 ((s.i : Int) + 1)))).cell? a = some u) HRG.out))
  clear HR0 HP9 HOk8 HK8 HV8 HT8 HKS;go_upto_region 4 with (fail)
  clear k0 k1 k2 k3 k4 k5 k6 k7 k8 k9 k10 k11 p1 g1;generalize w8.setCell ⟨P, 1, none⟩ (.int .i64 ((s.i : Int) + 1)) = w9 at *;have k0 := yC 0 (.int .i64 tk.kind) HT9;have k1 := yC 1 (.int .i64 (tk.at_ : Int)) HT9;have k2 := yC 2 (.int .i64 (tk.to : Int)) HT9;have k3 := yC 3 (.int .i64 tk.c) HT9;have k4 := yC 4 (.slice sa tk.set.length sq) HT9;have k5 := yC 5 (.bool tk.neg) HT9;have k6 := yC 6 (.int .i64 tk.n) HT9;have k7 := yC 7 (.int .i64 tk.m) HT9;have k8 := yC 8 (.int .i64 tk.mode) HT9;have k9 := yC 9 (.string tk.name) HT9;have k10 := yC 10 (.int .i64 tk.on) HT9;have k11 := yC 11 (.int .i64 tk.off) HT9;have hsz9 : w.heap.size + 1 ≤ w9.heap.size := HV9.out.lt;have hb10 : Below w9.heap.size w9 (w9.alloc (.cells #[.int .i64 0, .int .i64 (tk.at_ : Int), .int .i64 tk.c, .slice sa tk.set.length sq, .bool tk.neg, .int .i64 tk.n, .int .i64 tk.m, .int .i64 0, .string tk.name, .int .i64 tk.on, .int .i64 tk.off, .slice none 0 0] 27)) := qg w9 _;have HG10 := xH (heap_alloc_new w9 (.cells #[.int .i64 0, .int .i64 (tk.at_ : Int), .int .i64 tk.c, .slice sa tk.set.length sq, .bool tk.neg, .int .i64 tk.n, .int .i64 tk.m, .int .i64 0, .string tk.name, .int .i64 tk.on, .int .i64 tk.off, .slice none 0 0] 27));have HP10 := xH (jE HOk9.out.p hb10);have HK10 := xH (HK9.out.then (Kept.of_below hb10));have HV10 := xH (HV9.out.kept (Kept.of_below (L := P) hb10) hlt);have HN10 := xH (zl (Kept.of_below (L := P) hb10) (show P < w.heap.size + 1 by omega) (xL _) HN9.out);have HT10 := xH ((hb10.block T (by
   have hh := HT9.out;apply dC;intro hn;rw [dH (by omega)] at hh;cases hh)).trans HT9.out)
  have m0 := yC 0 (.int .i64 tk.kind) HT10;have z0 := yC 0 (.int .i64 0) HG10;have y0 := yK 0 HG10;have HKX := xH (Kept.of_below (L := P) hb10);clear hb10 HT9 HK9 HV9 HN10;go_upto_region 7 with (fail)
  generalize w9.alloc (.cells #[.int .i64 0, .int .i64 (tk.at_ : Int), .int .i64 tk.c, .slice sa tk.set.length sq, .bool tk.neg, .int .i64 tk.n, .int .i64 tk.m, .int .i64 0, .string tk.name, .int .i64 tk.on, .int .i64 tk.off, .slice none 0 0] 27) = w10 at *;clear k0 k1 k2 k3 k4 k5 k6 k7 k8 k9 k10 k11;obtain ⟨old, hg, hz⟩ := HV10.out;have ARM := xH (fun (k : Int) (hk : leafK tk.kind = k) =>
   have HN11 := xH (zl (qP HKX.out (xL _) 0 (.int .i64 k)) (show P < w.heap.size + 1 by omega) (xL _) HN9.out)
   And.intro (xH (show (w10.setCell ⟨w9.heap.size, 0, none⟩ (.int .i64 k)).heap[w9.heap.size]? = some (.cells (ndC (leafL tk (.slice sa tk.set.length sq))).toArray 27 (0, 0)) from by show _ = some (Obj.cells #[.int .i64 (leafK tk.kind), .int .i64 (tk.at_ : Int), .int .i64 tk.c, .slice sa tk.set.length sq, .bool tk.neg, .int .i64 tk.n, .int .i64 tk.m, .int .i64 0, .string tk.name, .int .i64 tk.on, .int .i64 tk.off, .slice none 0 0] 27 (0, 0));rw [hk];exact tkw.heap_set (o := 0) (v := .int .i64 k) HG10.out))
   (And.intro (xH (qP HK10.out (show w.heap.size ≤ w9.heap.size by omega) 0 (.int .i64 k)))
   (And.intro (xH (show PsAt (w10.setCell ⟨w9.heap.size, 0, none⟩ (.int .i64 k)) P _ { s with i := s.i + 1 } from (qx 0 (.int .i64 k) (show P ≠ w9.heap.size by omega)).trans HP10.out))
   (And.intro HN11
   (And.intro (xH ((qx 0 (.int .i64 k) (show w.heap.size ≠ w9.heap.size by omega)).trans hg)) (xH (qp HN11.out)))))))
  clear hg;by_cases e1 : tk.kind = 1
  ·have b1 : (tk.kind == 1) = true := by simp [e1]
   obtain ⟨HG11, HK11, HP11, HN11, HGR, H1⟩ := ARM.out 1 (by unfold leafK; simp [e1]);clear ARM HG10 HK10 HP10 HV10 HKX HN9 HT10;go_upto_region 27 with (fail)
   clear z0 y0 m0;generalize w10.setCell ⟨w9.heap.size, 0, none⟩ (.int .i64 1) = w11 at *;exact z28
  have b1 : (tk.kind == 1) = false := by simp [e1]
  by_cases e2 : tk.kind = 2
  ·have b2 : (tk.kind == 2) = true := by simp [e2]
   obtain ⟨HG11, HK11, HP11, HN11, HGR, H1⟩ := ARM.out 2 (by unfold leafK; simp [e2]);clear ARM HG10 HK10 HP10 HV10 HKX HN9 HT10;go_upto_region 27 with (fail)
   clear z0 y0 m0;generalize w10.setCell ⟨w9.heap.size, 0, none⟩ (.int .i64 2) = w11 at *;exact z28
  have b2 : (tk.kind == 2) = false := by simp [e2]
  by_cases e3 : tk.kind = 3
  ·have b3 : (tk.kind == 3) = true := by simp [e3]
   obtain ⟨HG11, HK11, HP11, HN11, HGR, H1⟩ := ARM.out 3 (by unfold leafK; simp [e3]);clear ARM HG10 HK10 HP10 HV10 HKX HN9 HT10;go_upto_region 27 with (fail)
   clear z0 y0 m0;generalize w10.setCell ⟨w9.heap.size, 0, none⟩ (.int .i64 3) = w11 at *;exact z28
  have b3 : (tk.kind == 3) = false := by simp [e3]
  by_cases e4 : tk.kind = 4
  ·have b4 : (tk.kind == 4) = true := by simp [e4]
   obtain ⟨HG11, HK11, HP11, HN11, HGR, H1⟩ := ARM.out 4 (by unfold leafK; simp [e4]);clear ARM HG10 HK10 HP10 HV10 HKX HN9 HT10;go_upto_region 27 with (fail)
   clear z0 y0 m0;generalize w10.setCell ⟨w9.heap.size, 0, none⟩ (.int .i64 4) = w11 at *;exact z28
  have b4 : (tk.kind == 4) = false := by simp [e4]
  by_cases e5 : tk.kind = 5
  ·have b5 : (tk.kind == 5) = true := by simp [e5]
   obtain ⟨HG11, HK11, HP11, HN11, HGR, H1⟩ := ARM.out 5 (by unfold leafK; simp [e5]);clear ARM HG10 HK10 HP10 HV10 HKX HN9 HT10;go_upto_region 27 with (fail)
   clear z0 y0 m0;generalize w10.setCell ⟨w9.heap.size, 0, none⟩ (.int .i64 5) = w11 at *;exact z28
  have b5 : (tk.kind == 5) = false := by simp [e5]
  by_cases e6 : tk.kind = 6
  ·have b6 : (tk.kind == 6) = true := by simp [e6]
   obtain ⟨HG11, HK11, HP11, HN11, HGR, H1⟩ := ARM.out 6 (by unfold leafK; simp [e6]);clear ARM HG10 HK10 HP10 HV10 HKX HN9 HT10;go_upto_region 27 with (fail)
   clear z0 y0 m0;generalize w10.setCell ⟨w9.heap.size, 0, none⟩ (.int .i64 6) = w11 at *;exact z28
  have b6 : (tk.kind == 6) = false := by simp [e6]
  by_cases e11 : tk.kind = 11
  ·have b11 : (tk.kind == 11) = true := by simp [e11]
   obtain ⟨HG11, HK11, HP11, HN11, HGR, H1⟩ := ARM.out 7 (by unfold leafK; simp [e11]);clear ARM HG10 HK10 HP10 HV10 HKX HN9 HT10;go_upto_region 27 with (fail)
   clear z0 y0 m0;generalize w10.setCell ⟨w9.heap.size, 0, none⟩ (.int .i64 7) = w11 at *;exact z28
  have b11 : (tk.kind == 11) = false := by simp [e11]
  by_cases e12 : tk.kind = 12
  ·have b12 : (tk.kind == 12) = true := by simp [e12]
   obtain ⟨HG11, HK11, HP11, HN11, HGR, H1⟩ := ARM.out 8 (by unfold leafK; simp [e12]);clear ARM HG10 HK10 HP10 HV10 HKX HN9 HT10;go_upto_region 27 with (fail)
   clear z0 y0 m0;generalize w10.setCell ⟨w9.heap.size, 0, none⟩ (.int .i64 8) = w11 at *;exact z28
  have b12 : (tk.kind == 12) = false := by simp [e12]
  by_cases e13 : tk.kind = 13
  ·have b13 : (tk.kind == 13) = true := by simp [e13]
   obtain ⟨HG11, HK11, HP11, HN11, HGR, H1⟩ := ARM.out 9 (by unfold leafK; simp [e13]);clear ARM HG10 HK10 HP10 HV10 HKX HN9 HT10;go_upto_region 27 with (fail)
   clear z0 y0 m0;generalize w10.setCell ⟨w9.heap.size, 0, none⟩ (.int .i64 9) = w11 at *;exact z28
  have b13 : (tk.kind == 13) = false := by simp [e13]
  by_cases e14 : tk.kind = 14
  ·have b14 : (tk.kind == 14) = true := by simp [e14]
   obtain ⟨HG11, HK11, HP11, HN11, HGR, H1⟩ := ARM.out 10 (by unfold leafK; simp [e14]);clear ARM HG10 HK10 HP10 HV10 HKX HN9 HT10;go_upto_region 27 with (fail)
   clear z0 y0 m0;generalize w10.setCell ⟨w9.heap.size, 0, none⟩ (.int .i64 10) = w11 at *;exact z28
  have b14 : (tk.kind == 14) = false := by simp [e14]
  obtain ⟨HG11, HK11, HP11, HN11, HGR, H1⟩ := ARM.out 11 (by unfold leafK; simp [e1, e2, e3, e4, e5, e6, e11, e12, e13, e14]);clear ARM HG10 HK10 HP10 HV10 HKX HN9 HT10;go_upto_region 27 with (fail)
  clear z0 y0 m0;generalize w10.setCell ⟨w9.heap.size, 0, none⟩ (.int .i64 11) = w11 at *;exact z28
 have h10 : tk.kind = 10 := dC hk10;have h40 : s.op = 40 := hkd.resolve_left hk10;have HR := xH ((HR0.out.trans (if_neg hk10)).trans (if_pos h40));have b10 : (tk.kind != 10) = false := by simp [h10]
 have b40 : ((s.op : Int) == 40) = true := by simp [h40]
 obtain ⟨_, _, p2, _⟩ := ps_c HOk8.out.p;clear HR0 hk10 HT8 h10 h40 hkd;go_wp2_with fail
 refine (fail_any P _ s 11 tk.at_ w8 HOk8.out.p).mono ?_;rintro e w9 ⟨rfl, hp9, hk9⟩;obtain ⟨old, hg, hz⟩ := HV8.out.kept hk9 hlt;have HG := xH hg;have HP9 := xH hp9;have HK9 := xH (HK8.out.then hk9);clear hg hp9 hk9;have H1 := xH (qp (zero_at w9));go_wp2_with (refine qh rfl rfl _ _ rfl w.heap.size rfl _ (lab 0 0) HG.out hz H1.out rfl ?_)
 refine xB (qA rfl _ _ w.heap.size (lab 0 0) rfl (setRow_heap _ _ _ _ _ _ HG.out)) rfl ?_;exact run_end (t := (lab 0 0, .nil)) hlt (zero_at _) (by rw [HR.out]; rfl) HP9.out (by rw [HR.out]) HK9.out
end rpw
end
end Go.Proofs.Ytdgfclbajjjcgaa
