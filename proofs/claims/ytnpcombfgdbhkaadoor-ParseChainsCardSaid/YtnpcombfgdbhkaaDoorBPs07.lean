/- T -/
import Derived.Carry
import Derived.ChangeMaps5
import Derived.Deep.DeepHandedRow
import Derived.Laws.Shifts
import Derived.Lib.BytesEntry
import Derived.Lib.LaidTab
import Derived.SizedLaws
import Derived.Stop.LaidErr
import Derived.Test.YtnpcombfgdbhkaaDoorCards
import Derived.Test.YtnpcombfgdbhkaaDoorTie
import Derived.Test.YtnpcombfgdbhkaaDoorBPs06
set_option maxHeartbeats 16000000
set_option maxRecDepth 1000000
section
namespace Go.Proofs.YtnpcombfgdbhkaaDoor.rpw
open sq
open Go.Sort Go Go.RowKit Go.Maps tkp trp trw rpp
open tkw (qO Kept Kept.refl Kept.trans Kept.mono Kept.then Kept.of_below Kept.below Kept.grown Kept.setCell)
variable {bl : Nat}
theorem qP {P n : Nat} {w w' : World} (h : Kept n P w w') {b : Nat} (hb : n ≤ b) (o : Nat) (v : Value) : Kept n P w (w'.setCell ⟨b, o, none⟩ v) :=
 h.trans ⟨rfl, rfl, rfl, by simp [World.setCell], fun k hk _ => Below.heap_setCell w' ⟨b, o, none⟩ v k (by show k ≠ b; omega)⟩
theorem qx {w : World} {b k : Nat} (o : Nat) (v : Value) (h : k ≠ b) : (w.setCell ⟨b, o, none⟩ v).heap[k]? = w.heap[k]? := Below.heap_setCell w ⟨b, o, none⟩ v k h
theorem leaf_at {P n : Nat} {w : World} {L : List Tk} {t : Tk} {sv : Value} (hk : LOk L) (ht : t ∈ L) (h : RgAt (vis bl P n w) sv t.set) : NdAt (vis bl P n w) (leafL t sv, .nil) := by
 obtain ⟨a1, a2, a3, a4, a5, a6, a7, a8⟩ := hk.t t ht;have z : I64 0 := by unfold I64; omega
 refine ⟨⟨?_, by show I64 (t.at_ : Int); unfold I64; omega, a3, a4, a5, z, a7, a8⟩, h, none, 0, rfl, by simp [F.len], by decide, Or.inl rfl⟩;show I64 (leafK t.kind);unfold leafK I64
 repeat' (first | omega | split)
theorem thing_leaf {P : Nat} {v : Value} {L : List Tk} {n : Nat} (s : Ps) (w : World) (hok : Ok bl w P v L s) (_he : s.e = 0) (hi : s.i < L.length) (hkd : (L.getD s.i zeroT).kind ≠ 10 ∨ s.op = 40) : Calls Tryd.prog 73 #[.pointer (some ⟨P, 0, none⟩)] w (RunB bl P v (run L (n + 1) .thing s) w) := by
 have hlt := hok.lt;obtain ⟨R, hR⟩ : ∃ R, run L (n + 1) .thing s = R := ⟨_, rfl⟩;rw [hR];obtain ⟨tk, htk⟩ : ∃ tk, L[s.i]? = some tk := ⟨L[s.i], List.getElem?_eq_getElem hi⟩;have htd : L.getD s.i zeroT = tk := by rw [List.getD_eq_getElem?_getD, htk]; rfl
 have HR0 := xH (hR.symm.trans (show run L (n + 1) .thing s = (if tk.kind ≠ 10 then (F.one (leafL tk nil3) .nil, { s with i := s.i + 1 }) else if s.op = 40 then (zeroF, failS s 11 tk.at_) else (let s1 : Ps := { s with i := s.i + 1, op := s.op + 1 }; let q := if tk.n = 13 ∧ kindS L s1 = 10 then run L n .thing s1 else (.nil, s1); let r := run L n (.alt .nil) q.2; if kindS L r.2 ≠ 8 then (zeroF, failS r.2 20 (-1)) else (jf tk q.1 r.1, zf tk r.1 { r.2 with i := r.2.i + 1, op := r.2.op - 1 }))) by rw [run, htd]));have hb0 := qg w (.cells zC.toArray 31);have HOk0 := xH (hok.step (jE hok.p hb0) (Kept.of_below hb0) (Inv.refl hok.i hok.op));have HK0 := xH (Kept.of_below (L := P) hb0);have HV0 := xH (show RvAt (w.alloc (.cells zC.toArray 31)) w.heap.size from ⟨_, heap_alloc_new _ _, rfl⟩);have HSZ := xH (World.size_alloc w (.cells zC.toArray 31));have htm : tk ∈ L := List.mem_of_getElem? htk;obtain ⟨g, oo, cap, sv, hv, hc1, hc2, hil, hgm, hrg, hcs⟩ := tk_at hok.l htk;obtain ⟨sa, sq, hsv, _⟩ := id hrg;subst hsv;subst hv;have HRG := xH hrg;obtain ⟨e0, e1, _⟩ := ps_c (jE hok.p hb0);have hd7 : Below (w.alloc (.cells zC.toArray 31)).heap.size (w.alloc (.cells zC.toArray 31)) (w.alloc (.cells zC.toArray 31)).drew := ⟨rfl, rfl, rfl, Nat.le_refl _, fun _ _ => rfl⟩;have HC0 := xH (trw.qf hd7 e0);have HC1 := xH (trw.qf hd7 e1);have HCT := xH (fun j u hj => trw.qf hd7 (trw.qf hb0 (hcs j u hj)));rw [htd] at hkd;clear hok hR hb0 hrg hcs hd7 e0 e1 htd hgm htk;unfold zC at HOk0 HK0 HV0 HC0 HC1 HCT HSZ;go_enter Tryd.func73, Tryd.ntmps73;go_wp2_with fail
 generalize w.alloc _ = w0 at *;have hPT : P < w0.heap.size := HOk0.out.lt;refine wp_region_held_drew (S := fun w' => w'.cell? ⟨P, 0, none⟩ = some (.slice (some ⟨g, oo, none⟩) L.length cap) ∧ w'.cell? ⟨P, 1, none⟩ = some (.int .i64 (s.i : Int)) ∧ (∀ j u, (qO (.slice sa tk.set.length sq) tk)[j]? = some u → w'.cell? ⟨g, oo + s.i * 12 + j, none⟩ = some u)) (by kernel_rfl) ⟨HC0.out, HC1.out, HCT.out⟩ (fun hHeld => ?_);refine xT 0 rfl ?_ ?_ ?_;rotate_left
 ·intro w' hSw;go_simp;try rfl
 simp only [xS];refine xT 1 rfl ?_ ?_ ?_;rotate_left
 ·intro w' hSw;go_simp;try rfl
 simp only [xS];refine xT 2 rfl ?_ ?_ ?_;rotate_left
 ·intro w' hSw;go_simp;try rfl
 simp only [xS];refine xT 3 rfl ?_ ?_ ?_;rotate_left
 ·intro w' hSw;obtain ⟨q0, q1, qT⟩ := hSw;go_simp;try rfl
 simp only [xS];refine xT 4 rfl ?_ ?_ ?_;rotate_left
 ·intro w' hSw;go_simp;try rfl
 simp only [xS];refine xT 5 rfl ?_ ?_ ?_;rotate_left
 ·intro w' hSw;go_simp;try rfl
 simp only [xS];refine xT 6 rfl ?_ ?_ ?_;rotate_left
 ·intro w' hSw;go_simp;try rfl
 simp only [xS];refine xT 7 rfl ?_ ?_ ?_;rotate_left
 ·intro w' hSw;obtain ⟨q0, q1, qT⟩ := hSw;go_simp;try rfl
 simp only [xS];refine xT 8 rfl ?_ ?_ ?_;rotate_left
 ·intro w' hSw;go_simp;try rfl
 simp only [xS];refine xT 9 rfl ?_ ?_ ?_;rotate_left
 ·intro w' hSw;obtain ⟨q0, q1, qT⟩ := hSw;have t0 := qT 0 _ rfl;have t1 := qT 1 _ rfl;have t2 := qT 2 _ rfl;have t3 := qT 3 _ rfl;have t4 := qT 4 _ rfl;have t5 := qT 5 _ rfl;have t6 := qT 6 _ rfl;have t7 := qT 7 _ rfl;have t8 := qT 8 _ rfl;have t9 := qT 9 _ rfl;have t10 := qT 10 _ rfl;have t11 := qT 11 _ rfl;rw [Nat.add_zero] at t0;go_simp;try rfl
 simp only [xS];refine xD 10 rfl (fun K hK => ?_);go_simp;refine hK.out _ _ ⟨trw.qf (qg _ _) hHeld.1, trw.qf (qg _ _) hHeld.2.1, fun j u hj => trw.qf (qg _ _) (hHeld.2.2 j u hj)⟩ (fun hHeld => ?_);clear hK K;try simp only [xS]
 have hgT : g < w0.heap.size := cell_lt (HCT.out 0 _ rfl);refine xD 11 rfl (fun K hK => ?_);refine held_store_tk rfl rfl _ _ rfl w0.heap.size rfl zT (.slice sa tk.set.length sq) tk (heap_alloc_new w0.drew (.cells zT 53)) rfl (fun u hu => by simp only [qO, List.mem_cons, List.not_mem_nil, or_false] at hu;rcases hu with rfl | rfl | rfl | rfl | rfl | rfl | rfl | rfl | rfl | rfl | rfl | rfl <;> rfl) rfl ?_
 refine hK.out _ _ ⟨jI _ hHeld.1 (by show P ≠ w0.heap.size; omega), jI _ hHeld.2.1 (by show P ≠ w0.heap.size; omega), fun j u hj => jI _ (hHeld.2.2 j u hj) (by show g ≠ w0.heap.size; omega)⟩ (fun _ => ?_);clear hK K hHeld;refine wpAnyH_done (by kernel_rfl) ?_ _;have hb8 : Below w0.heap.size w0 ((w0.alloc (.cells #[.int .i64 0, .int .i64 0, .int .i64 0, .int .i64 0, .slice none 0 0, .bool false, .int .i64 0, .int .i64 0, .int .i64 0, .string ⟨#[]⟩, .int .i64 0, .int .i64 0] 53)).drew.setRow w0.heap.size (tkw.tkA (.slice sa tk.set.length sq) tk)) :=
  ((qg w0 (.cells zT 53)).trans (show Below w0.heap.size (w0.alloc (.cells zT 53)) (w0.alloc (.cells zT 53)).drew from ⟨rfl, rfl, rfl, Nat.le_refl _, fun _ _ => rfl⟩)).trans ⟨rfl, rfl, rfl, by rw [tkw.setRow_size]; exact Nat.le_refl _, fun k hk => tkw.setRow_other _ _ k _ (by omega)⟩
 have ht8 : ((w0.alloc (.cells #[.int .i64 0, .int .i64 0, .int .i64 0, .int .i64 0, .slice none 0 0, .bool false, .int .i64 0, .int .i64 0, .int .i64 0, .string ⟨#[]⟩, .int .i64 0, .int .i64 0] 53)).drew.setRow w0.heap.size (tkw.tkA (.slice sa tk.set.length sq) tk)).heap[w0.heap.size]? = some (.cells (tkw.tkA (.slice sa tk.set.length sq) tk) 53 (0, 0)) := setRow_heap _ _ _ (tkw.tkA (.slice sa tk.set.length sq) tk) _ _ (show (w0.alloc (.cells zT 53)).drew.heap[w0.heap.size]? = _ from heap_alloc_new w0 (.cells zT 53));obtain ⟨w8, hw8⟩ : ∃ W, ((w0.alloc (.cells #[.int .i64 0, .int .i64 0, .int .i64 0, .int .i64 0, .slice none 0 0, .bool false, .int .i64 0, .int .i64 0, .int .i64 0, .string ⟨#[]⟩, .int .i64 0, .int .i64 0] 53)).drew.setRow w0.heap.size (tkw.tkA (.slice sa tk.set.length sq) tk)) = W := ⟨_, rfl⟩;rw [hw8] at hb8 ht8 ⊢;have HT8 := xH ht8;clear ht8 hw8;have HOk8 := xH (HOk0.out.step (jE HOk0.out.p hb8) (Kept.of_below hb8) (Inv.refl HOk0.out.i HOk0.out.op));have HK8 := xH (HK0.out.then (Kept.of_below hb8));have HV8 := xH (HV0.out.kept (Kept.of_below (L := P) hb8) hlt);have hT8 : w.heap.size + 1 ≤ w0.heap.size := by rw [HSZ.out]; exact Nat.le_refl _
 clear hb8 HC0 HC1 HCT HOk0 HK0 HV0 HSZ;generalize w0.heap.size = T at *;have k0 : w8.cell? ⟨T, 0, none⟩ = some (.int .i64 tk.kind) := by unfold World.cell?; rw [HT8.out]; rfl
 have k1 : w8.cell? ⟨T, 1, none⟩ = some (.int .i64 (tk.at_ : Int)) := by unfold World.cell?; rw [HT8.out]; rfl
 have k2 : w8.cell? ⟨T, 2, none⟩ = some (.int .i64 (tk.to : Int)) := by unfold World.cell?; rw [HT8.out]; rfl
 have k3 : w8.cell? ⟨T, 3, none⟩ = some (.int .i64 tk.c) := by unfold World.cell?; rw [HT8.out]; rfl
 have k4 : w8.cell? ⟨T, 4, none⟩ = some (.slice sa tk.set.length sq) := by unfold World.cell?; rw [HT8.out]; rfl
 have k5 : w8.cell? ⟨T, 5, none⟩ = some (.bool tk.neg) := by unfold World.cell?; rw [HT8.out]; rfl
 have k6 : w8.cell? ⟨T, 6, none⟩ = some (.int .i64 tk.n) := by unfold World.cell?; rw [HT8.out]; rfl
 have k7 : w8.cell? ⟨T, 7, none⟩ = some (.int .i64 tk.m) := by unfold World.cell?; rw [HT8.out]; rfl
 have k8 : w8.cell? ⟨T, 8, none⟩ = some (.int .i64 tk.mode) := by unfold World.cell?; rw [HT8.out]; rfl
 have k9 : w8.cell? ⟨T, 9, none⟩ = some (.string tk.name) := by unfold World.cell?; rw [HT8.out]; rfl
 have k10 : w8.cell? ⟨T, 10, none⟩ = some (.int .i64 tk.on) := by unfold World.cell?; rw [HT8.out]; rfl
 have k11 : w8.cell? ⟨T, 11, none⟩ = some (.int .i64 tk.off) := by unfold World.cell?; rw [HT8.out]; rfl
 by_cases hk10 : tk.kind ≠ 10
 ·have HR := xH (HR0.out.trans (if_pos hk10));have b10 : (tk.kind != 10) = true := by simpa using hk10
  have hin := HOk8.out.k.n;have hwr : IntKind.i64.wrap ((s.i : Int) + 1) = (s.i : Int) + 1 := by rw [IntKind.wrap_i64]; omega
  obtain ⟨_, p1, _, _, _, g1, _⟩ := ps_c HOk8.out.p;have HP9 := xH (ps_set HOk8.out.p 1 (.int .i64 ((s.i : Int) + 1)) (s' := { s with i := s.i + 1 }) rfl);have HKS := xH ((Kept.refl w8.heap.size P w8).setCell 1 (.int .i64 ((s.i : Int) + 1)));have HOk9 := xH (HOk8.out.step HP9.out HKS.out (inv_step hi HOk8.out.op));have HK9 := xH (HK8.out.then HKS.out);have HV9 := xH (HV8.out.kept HKS.out hlt);have HT9 := xH ((HKS.out.block T (by
   have hh := HT8.out;apply Classical.byContradiction;intro hn;rw [Array.getElem?_eq_none (by omega)] at hh;cases hh) (by omega)).trans HT8.out)
  have HN9 := xH (leaf_at (t := tk) (sv := .slice sa tk.set.length sq) HOk9.out.k htm (rgAt_mono (qU fun a u h1 hc => by have hl := cell_lt hc;simp only [mid, Bool.and_eq_false_iff, Bool.or_eq_false_iff, decide_eq_false_iff_not] at h1;exact ⟨by simp only [mid, Bool.and_eq_false_iff, Bool.or_eq_false_iff, decide_eq_false_iff_not]; omega, (World.cell?_of_block (HK9.out.block a.block hl (by omega))).trans hc⟩ : ∀ a u, (vis bl P w.heap.size w).cell? a = some u → (vis bl P (w.heap.size + 1) (w8.setCell ⟨P, 1, none⟩ (.int .i64 ((s.i : Int) + 1)))).cell? a = some u) HRG.out))
  clear HR0 HP9 HOk8 HK8 HV8 HT8 HKS;go_upto_region 4 with (fail)
  clear k0 k1 k2 k3 k4 k5 k6 k7 k8 k9 k10 k11 p1 g1;generalize w8.setCell ⟨P, 1, none⟩ (.int .i64 ((s.i : Int) + 1)) = w9 at *;have k0 : w9.cell? ⟨T, 0, none⟩ = some (.int .i64 tk.kind) := by unfold World.cell?; rw [HT9.out]; rfl
  have k1 : w9.cell? ⟨T, 1, none⟩ = some (.int .i64 (tk.at_ : Int)) := by unfold World.cell?; rw [HT9.out]; rfl
  have k2 : w9.cell? ⟨T, 2, none⟩ = some (.int .i64 (tk.to : Int)) := by unfold World.cell?; rw [HT9.out]; rfl
  have k3 : w9.cell? ⟨T, 3, none⟩ = some (.int .i64 tk.c) := by unfold World.cell?; rw [HT9.out]; rfl
  have k4 : w9.cell? ⟨T, 4, none⟩ = some (.slice sa tk.set.length sq) := by unfold World.cell?; rw [HT9.out]; rfl
  have k5 : w9.cell? ⟨T, 5, none⟩ = some (.bool tk.neg) := by unfold World.cell?; rw [HT9.out]; rfl
  have k6 : w9.cell? ⟨T, 6, none⟩ = some (.int .i64 tk.n) := by unfold World.cell?; rw [HT9.out]; rfl
  have k7 : w9.cell? ⟨T, 7, none⟩ = some (.int .i64 tk.m) := by unfold World.cell?; rw [HT9.out]; rfl
  have k8 : w9.cell? ⟨T, 8, none⟩ = some (.int .i64 tk.mode) := by unfold World.cell?; rw [HT9.out]; rfl
  have k9 : w9.cell? ⟨T, 9, none⟩ = some (.string tk.name) := by unfold World.cell?; rw [HT9.out]; rfl
  have k10 : w9.cell? ⟨T, 10, none⟩ = some (.int .i64 tk.on) := by unfold World.cell?; rw [HT9.out]; rfl
  have k11 : w9.cell? ⟨T, 11, none⟩ = some (.int .i64 tk.off) := by unfold World.cell?; rw [HT9.out]; rfl
  have hsz9 : w.heap.size + 1 ≤ w9.heap.size := HV9.out.lt;have hb10 : Below w9.heap.size w9 (w9.alloc (.cells #[.int .i64 0, .int .i64 (tk.at_ : Int), .int .i64 tk.c, .slice sa tk.set.length sq, .bool tk.neg, .int .i64 tk.n, .int .i64 tk.m, .int .i64 0, .string tk.name, .int .i64 tk.on, .int .i64 tk.off, .slice none 0 0] 31)) := qg w9 _;have HG10 := xH (heap_alloc_new w9 (.cells #[.int .i64 0, .int .i64 (tk.at_ : Int), .int .i64 tk.c, .slice sa tk.set.length sq, .bool tk.neg, .int .i64 tk.n, .int .i64 tk.m, .int .i64 0, .string tk.name, .int .i64 tk.on, .int .i64 tk.off, .slice none 0 0] 31));have HP10 := xH (jE HOk9.out.p hb10);have HK10 := xH (HK9.out.then (Kept.of_below hb10));have HV10 := xH (HV9.out.kept (Kept.of_below (L := P) hb10) hlt);have HN10 := xH (zl (Kept.of_below (L := P) hb10) (show P < w.heap.size + 1 by omega) (Nat.le_refl _) HN9.out);have HT10 := xH ((hb10.block T (by
   have hh := HT9.out;apply Classical.byContradiction;intro hn;rw [Array.getElem?_eq_none (by omega)] at hh;cases hh)).trans HT9.out)
  have m0 : (w9.alloc (.cells #[.int .i64 0, .int .i64 (tk.at_ : Int), .int .i64 tk.c, .slice sa tk.set.length sq, .bool tk.neg, .int .i64 tk.n, .int .i64 tk.m, .int .i64 0, .string tk.name, .int .i64 tk.on, .int .i64 tk.off, .slice none 0 0] 31)).cell? ⟨T, 0, none⟩ = some (.int .i64 tk.kind) := by unfold World.cell?; rw [HT10.out]; rfl
  have z0 : (w9.alloc (.cells #[.int .i64 0, .int .i64 (tk.at_ : Int), .int .i64 tk.c, .slice sa tk.set.length sq, .bool tk.neg, .int .i64 tk.n, .int .i64 tk.m, .int .i64 0, .string tk.name, .int .i64 tk.on, .int .i64 tk.off, .slice none 0 0] 31)).cell? ⟨w9.heap.size, 0, none⟩ = some (.int .i64 0) := by unfold World.cell?; rw [HG10.out]; rfl
  have y0 : (w9.alloc (.cells #[.int .i64 0, .int .i64 (tk.at_ : Int), .int .i64 tk.c, .slice sa tk.set.length sq, .bool tk.neg, .int .i64 tk.n, .int .i64 tk.m, .int .i64 0, .string tk.name, .int .i64 tk.on, .int .i64 tk.off, .slice none 0 0] 31)).frozen? ⟨w9.heap.size, 0, none⟩ = false := by unfold World.frozen?; rw [HG10.out]; rfl
  have HKX := xH (Kept.of_below (L := P) hb10);clear hb10 HT9 HK9 HV9 HN10;go_upto_region 7 with (fail)
  generalize w9.alloc (.cells #[.int .i64 0, .int .i64 (tk.at_ : Int), .int .i64 tk.c, .slice sa tk.set.length sq, .bool tk.neg, .int .i64 tk.n, .int .i64 tk.m, .int .i64 0, .string tk.name, .int .i64 tk.on, .int .i64 tk.off, .slice none 0 0] 31) = w10 at *;clear k0 k1 k2 k3 k4 k5 k6 k7 k8 k9 k10 k11;by_cases e1 : tk.kind = 1
  ·have b1 : (tk.kind == 1) = true := by simp [e1]
   have hk : leafK tk.kind = 1 := by unfold leafK; simp [e1]
   have HG11 := xH (show (w10.setCell ⟨w9.heap.size, 0, none⟩ (.int .i64 1)).heap[w9.heap.size]? = some (.cells (ndC (leafL tk (.slice sa tk.set.length sq))).toArray 31 (0, 0)) from by show _ = some (Obj.cells #[.int .i64 (leafK tk.kind), .int .i64 (tk.at_ : Int), .int .i64 tk.c, .slice sa tk.set.length sq, .bool tk.neg, .int .i64 tk.n, .int .i64 tk.m, .int .i64 0, .string tk.name, .int .i64 tk.on, .int .i64 tk.off, .slice none 0 0] 31 (0, 0));rw [hk];exact tkw.heap_set (o := 0) (v := .int .i64 1) HG10.out)
   have HK11 := xH (qP HK10.out (show w.heap.size ≤ w9.heap.size by omega) 0 (.int .i64 1));have HP11 := xH (show PsAt (w10.setCell ⟨w9.heap.size, 0, none⟩ (.int .i64 1)) P _ { s with i := s.i + 1 } from (qx 0 (.int .i64 1) (show P ≠ w9.heap.size by omega)).trans HP10.out);have HN11 := xH (zl (qP HKX.out (Nat.le_refl _) 0 (.int .i64 1)) (show P < w.heap.size + 1 by omega) (Nat.le_refl _) HN9.out);obtain ⟨old, hg, hz⟩ := HV10.out;have HGR := xH ((qx 0 (.int .i64 1) (show w.heap.size ≠ w9.heap.size by omega)).trans hg);have H1 := xH (qp HN11.out);clear hg HG10 HK10 HP10 HV10 HKX HN9 hk HT10;go_upto_region 27 with (fail)
   clear z0 y0 m0;generalize w10.setCell ⟨w9.heap.size, 0, none⟩ (.int .i64 1) = w11 at *;go_wp2_with (first
    | (refine ql rfl _ rfl w9.heap.size rfl (leafL tk (.slice sa tk.set.length sq)) HG11.out ?_)
    | (refine qh rfl rfl _ _ rfl w.heap.size rfl _ (leafL tk (.slice sa tk.set.length sq)) HGR.out hz H1.out rfl ?_))
   refine bodyPost_ret (qA rfl _ _ w.heap.size (leafL tk (.slice sa tk.set.length sq)) rfl (setRow_heap _ _ _ _ _ _ HGR.out)) rfl ?_;exact run_end (t := ((leafL tk (.slice sa tk.set.length sq)), .nil)) hlt HN11.out (by rw [HR.out]; rfl) HP11.out (by rw [HR.out]) HK11.out
  have b1 : (tk.kind == 1) = false := by simp [e1]
  by_cases e2 : tk.kind = 2
  ·have b2 : (tk.kind == 2) = true := by simp [e2]
   have hk : leafK tk.kind = 2 := by unfold leafK; simp [e2]
   have HG11 := xH (show (w10.setCell ⟨w9.heap.size, 0, none⟩ (.int .i64 2)).heap[w9.heap.size]? = some (.cells (ndC (leafL tk (.slice sa tk.set.length sq))).toArray 31 (0, 0)) from by show _ = some (Obj.cells #[.int .i64 (leafK tk.kind), .int .i64 (tk.at_ : Int), .int .i64 tk.c, .slice sa tk.set.length sq, .bool tk.neg, .int .i64 tk.n, .int .i64 tk.m, .int .i64 0, .string tk.name, .int .i64 tk.on, .int .i64 tk.off, .slice none 0 0] 31 (0, 0));rw [hk];exact tkw.heap_set (o := 0) (v := .int .i64 2) HG10.out)
   have HK11 := xH (qP HK10.out (show w.heap.size ≤ w9.heap.size by omega) 0 (.int .i64 2));have HP11 := xH (show PsAt (w10.setCell ⟨w9.heap.size, 0, none⟩ (.int .i64 2)) P _ { s with i := s.i + 1 } from (qx 0 (.int .i64 2) (show P ≠ w9.heap.size by omega)).trans HP10.out);have HN11 := xH (zl (qP HKX.out (Nat.le_refl _) 0 (.int .i64 2)) (show P < w.heap.size + 1 by omega) (Nat.le_refl _) HN9.out);obtain ⟨old, hg, hz⟩ := HV10.out;have HGR := xH ((qx 0 (.int .i64 2) (show w.heap.size ≠ w9.heap.size by omega)).trans hg);have H1 := xH (qp HN11.out);clear hg HG10 HK10 HP10 HV10 HKX HN9 hk HT10;go_upto_region 27 with (fail)
   clear z0 y0 m0;generalize w10.setCell ⟨w9.heap.size, 0, none⟩ (.int .i64 2) = w11 at *;go_wp2_with (first
    | (refine ql rfl _ rfl w9.heap.size rfl (leafL tk (.slice sa tk.set.length sq)) HG11.out ?_)
    | (refine qh rfl rfl _ _ rfl w.heap.size rfl _ (leafL tk (.slice sa tk.set.length sq)) HGR.out hz H1.out rfl ?_))
   refine bodyPost_ret (qA rfl _ _ w.heap.size (leafL tk (.slice sa tk.set.length sq)) rfl (setRow_heap _ _ _ _ _ _ HGR.out)) rfl ?_;exact run_end (t := ((leafL tk (.slice sa tk.set.length sq)), .nil)) hlt HN11.out (by rw [HR.out]; rfl) HP11.out (by rw [HR.out]) HK11.out
  have b2 : (tk.kind == 2) = false := by simp [e2]
  by_cases e3 : tk.kind = 3
  ·have b3 : (tk.kind == 3) = true := by simp [e3]
   have hk : leafK tk.kind = 3 := by unfold leafK; simp [e3]
   have HG11 := xH (show (w10.setCell ⟨w9.heap.size, 0, none⟩ (.int .i64 3)).heap[w9.heap.size]? = some (.cells (ndC (leafL tk (.slice sa tk.set.length sq))).toArray 31 (0, 0)) from by show _ = some (Obj.cells #[.int .i64 (leafK tk.kind), .int .i64 (tk.at_ : Int), .int .i64 tk.c, .slice sa tk.set.length sq, .bool tk.neg, .int .i64 tk.n, .int .i64 tk.m, .int .i64 0, .string tk.name, .int .i64 tk.on, .int .i64 tk.off, .slice none 0 0] 31 (0, 0));rw [hk];exact tkw.heap_set (o := 0) (v := .int .i64 3) HG10.out)
   have HK11 := xH (qP HK10.out (show w.heap.size ≤ w9.heap.size by omega) 0 (.int .i64 3));have HP11 := xH (show PsAt (w10.setCell ⟨w9.heap.size, 0, none⟩ (.int .i64 3)) P _ { s with i := s.i + 1 } from (qx 0 (.int .i64 3) (show P ≠ w9.heap.size by omega)).trans HP10.out);have HN11 := xH (zl (qP HKX.out (Nat.le_refl _) 0 (.int .i64 3)) (show P < w.heap.size + 1 by omega) (Nat.le_refl _) HN9.out);obtain ⟨old, hg, hz⟩ := HV10.out;have HGR := xH ((qx 0 (.int .i64 3) (show w.heap.size ≠ w9.heap.size by omega)).trans hg);have H1 := xH (qp HN11.out);clear hg HG10 HK10 HP10 HV10 HKX HN9 hk HT10;go_upto_region 27 with (fail)
   clear z0 y0 m0;generalize w10.setCell ⟨w9.heap.size, 0, none⟩ (.int .i64 3) = w11 at *;go_wp2_with (first
    | (refine ql rfl _ rfl w9.heap.size rfl (leafL tk (.slice sa tk.set.length sq)) HG11.out ?_)
    | (refine qh rfl rfl _ _ rfl w.heap.size rfl _ (leafL tk (.slice sa tk.set.length sq)) HGR.out hz H1.out rfl ?_))
   refine bodyPost_ret (qA rfl _ _ w.heap.size (leafL tk (.slice sa tk.set.length sq)) rfl (setRow_heap _ _ _ _ _ _ HGR.out)) rfl ?_;exact run_end (t := ((leafL tk (.slice sa tk.set.length sq)), .nil)) hlt HN11.out (by rw [HR.out]; rfl) HP11.out (by rw [HR.out]) HK11.out
  have b3 : (tk.kind == 3) = false := by simp [e3]
  by_cases e4 : tk.kind = 4
  ·have b4 : (tk.kind == 4) = true := by simp [e4]
   have hk : leafK tk.kind = 4 := by unfold leafK; simp [e4]
   have HG11 := xH (show (w10.setCell ⟨w9.heap.size, 0, none⟩ (.int .i64 4)).heap[w9.heap.size]? = some (.cells (ndC (leafL tk (.slice sa tk.set.length sq))).toArray 31 (0, 0)) from by show _ = some (Obj.cells #[.int .i64 (leafK tk.kind), .int .i64 (tk.at_ : Int), .int .i64 tk.c, .slice sa tk.set.length sq, .bool tk.neg, .int .i64 tk.n, .int .i64 tk.m, .int .i64 0, .string tk.name, .int .i64 tk.on, .int .i64 tk.off, .slice none 0 0] 31 (0, 0));rw [hk];exact tkw.heap_set (o := 0) (v := .int .i64 4) HG10.out)
   have HK11 := xH (qP HK10.out (show w.heap.size ≤ w9.heap.size by omega) 0 (.int .i64 4));have HP11 := xH (show PsAt (w10.setCell ⟨w9.heap.size, 0, none⟩ (.int .i64 4)) P _ { s with i := s.i + 1 } from (qx 0 (.int .i64 4) (show P ≠ w9.heap.size by omega)).trans HP10.out);have HN11 := xH (zl (qP HKX.out (Nat.le_refl _) 0 (.int .i64 4)) (show P < w.heap.size + 1 by omega) (Nat.le_refl _) HN9.out);obtain ⟨old, hg, hz⟩ := HV10.out;have HGR := xH ((qx 0 (.int .i64 4) (show w.heap.size ≠ w9.heap.size by omega)).trans hg);have H1 := xH (qp HN11.out);clear hg HG10 HK10 HP10 HV10 HKX HN9 hk HT10;go_upto_region 27 with (fail)
   clear z0 y0 m0;generalize w10.setCell ⟨w9.heap.size, 0, none⟩ (.int .i64 4) = w11 at *;go_wp2_with (first
    | (refine ql rfl _ rfl w9.heap.size rfl (leafL tk (.slice sa tk.set.length sq)) HG11.out ?_)
    | (refine qh rfl rfl _ _ rfl w.heap.size rfl _ (leafL tk (.slice sa tk.set.length sq)) HGR.out hz H1.out rfl ?_))
   refine bodyPost_ret (qA rfl _ _ w.heap.size (leafL tk (.slice sa tk.set.length sq)) rfl (setRow_heap _ _ _ _ _ _ HGR.out)) rfl ?_;exact run_end (t := ((leafL tk (.slice sa tk.set.length sq)), .nil)) hlt HN11.out (by rw [HR.out]; rfl) HP11.out (by rw [HR.out]) HK11.out
  have b4 : (tk.kind == 4) = false := by simp [e4]
  by_cases e5 : tk.kind = 5
  ·have b5 : (tk.kind == 5) = true := by simp [e5]
   have hk : leafK tk.kind = 5 := by unfold leafK; simp [e5]
   have HG11 := xH (show (w10.setCell ⟨w9.heap.size, 0, none⟩ (.int .i64 5)).heap[w9.heap.size]? = some (.cells (ndC (leafL tk (.slice sa tk.set.length sq))).toArray 31 (0, 0)) from by show _ = some (Obj.cells #[.int .i64 (leafK tk.kind), .int .i64 (tk.at_ : Int), .int .i64 tk.c, .slice sa tk.set.length sq, .bool tk.neg, .int .i64 tk.n, .int .i64 tk.m, .int .i64 0, .string tk.name, .int .i64 tk.on, .int .i64 tk.off, .slice none 0 0] 31 (0, 0));rw [hk];exact tkw.heap_set (o := 0) (v := .int .i64 5) HG10.out)
   have HK11 := xH (qP HK10.out (show w.heap.size ≤ w9.heap.size by omega) 0 (.int .i64 5));have HP11 := xH (show PsAt (w10.setCell ⟨w9.heap.size, 0, none⟩ (.int .i64 5)) P _ { s with i := s.i + 1 } from (qx 0 (.int .i64 5) (show P ≠ w9.heap.size by omega)).trans HP10.out);have HN11 := xH (zl (qP HKX.out (Nat.le_refl _) 0 (.int .i64 5)) (show P < w.heap.size + 1 by omega) (Nat.le_refl _) HN9.out);obtain ⟨old, hg, hz⟩ := HV10.out;have HGR := xH ((qx 0 (.int .i64 5) (show w.heap.size ≠ w9.heap.size by omega)).trans hg);have H1 := xH (qp HN11.out);clear hg HG10 HK10 HP10 HV10 HKX HN9 hk HT10;go_upto_region 27 with (fail)
   clear z0 y0 m0;generalize w10.setCell ⟨w9.heap.size, 0, none⟩ (.int .i64 5) = w11 at *;go_wp2_with (first
    | (refine ql rfl _ rfl w9.heap.size rfl (leafL tk (.slice sa tk.set.length sq)) HG11.out ?_)
    | (refine qh rfl rfl _ _ rfl w.heap.size rfl _ (leafL tk (.slice sa tk.set.length sq)) HGR.out hz H1.out rfl ?_))
   refine bodyPost_ret (qA rfl _ _ w.heap.size (leafL tk (.slice sa tk.set.length sq)) rfl (setRow_heap _ _ _ _ _ _ HGR.out)) rfl ?_;exact run_end (t := ((leafL tk (.slice sa tk.set.length sq)), .nil)) hlt HN11.out (by rw [HR.out]; rfl) HP11.out (by rw [HR.out]) HK11.out
  have b5 : (tk.kind == 5) = false := by simp [e5]
  by_cases e6 : tk.kind = 6
  ·have b6 : (tk.kind == 6) = true := by simp [e6]
   have hk : leafK tk.kind = 6 := by unfold leafK; simp [e6]
   have HG11 := xH (show (w10.setCell ⟨w9.heap.size, 0, none⟩ (.int .i64 6)).heap[w9.heap.size]? = some (.cells (ndC (leafL tk (.slice sa tk.set.length sq))).toArray 31 (0, 0)) from by show _ = some (Obj.cells #[.int .i64 (leafK tk.kind), .int .i64 (tk.at_ : Int), .int .i64 tk.c, .slice sa tk.set.length sq, .bool tk.neg, .int .i64 tk.n, .int .i64 tk.m, .int .i64 0, .string tk.name, .int .i64 tk.on, .int .i64 tk.off, .slice none 0 0] 31 (0, 0));rw [hk];exact tkw.heap_set (o := 0) (v := .int .i64 6) HG10.out)
   have HK11 := xH (qP HK10.out (show w.heap.size ≤ w9.heap.size by omega) 0 (.int .i64 6));have HP11 := xH (show PsAt (w10.setCell ⟨w9.heap.size, 0, none⟩ (.int .i64 6)) P _ { s with i := s.i + 1 } from (qx 0 (.int .i64 6) (show P ≠ w9.heap.size by omega)).trans HP10.out);have HN11 := xH (zl (qP HKX.out (Nat.le_refl _) 0 (.int .i64 6)) (show P < w.heap.size + 1 by omega) (Nat.le_refl _) HN9.out);obtain ⟨old, hg, hz⟩ := HV10.out;have HGR := xH ((qx 0 (.int .i64 6) (show w.heap.size ≠ w9.heap.size by omega)).trans hg);have H1 := xH (qp HN11.out);clear hg HG10 HK10 HP10 HV10 HKX HN9 hk HT10;go_upto_region 27 with (fail)
   clear z0 y0 m0;generalize w10.setCell ⟨w9.heap.size, 0, none⟩ (.int .i64 6) = w11 at *;go_wp2_with (first
    | (refine ql rfl _ rfl w9.heap.size rfl (leafL tk (.slice sa tk.set.length sq)) HG11.out ?_)
    | (refine qh rfl rfl _ _ rfl w.heap.size rfl _ (leafL tk (.slice sa tk.set.length sq)) HGR.out hz H1.out rfl ?_))
   refine bodyPost_ret (qA rfl _ _ w.heap.size (leafL tk (.slice sa tk.set.length sq)) rfl (setRow_heap _ _ _ _ _ _ HGR.out)) rfl ?_;exact run_end (t := ((leafL tk (.slice sa tk.set.length sq)), .nil)) hlt HN11.out (by rw [HR.out]; rfl) HP11.out (by rw [HR.out]) HK11.out
  have b6 : (tk.kind == 6) = false := by simp [e6]
  by_cases e11 : tk.kind = 11
  ·have b11 : (tk.kind == 11) = true := by simp [e11]
   have hk : leafK tk.kind = 7 := by unfold leafK; simp [e11]
   have HG11 := xH (show (w10.setCell ⟨w9.heap.size, 0, none⟩ (.int .i64 7)).heap[w9.heap.size]? = some (.cells (ndC (leafL tk (.slice sa tk.set.length sq))).toArray 31 (0, 0)) from by show _ = some (Obj.cells #[.int .i64 (leafK tk.kind), .int .i64 (tk.at_ : Int), .int .i64 tk.c, .slice sa tk.set.length sq, .bool tk.neg, .int .i64 tk.n, .int .i64 tk.m, .int .i64 0, .string tk.name, .int .i64 tk.on, .int .i64 tk.off, .slice none 0 0] 31 (0, 0));rw [hk];exact tkw.heap_set (o := 0) (v := .int .i64 7) HG10.out)
   have HK11 := xH (qP HK10.out (show w.heap.size ≤ w9.heap.size by omega) 0 (.int .i64 7));have HP11 := xH (show PsAt (w10.setCell ⟨w9.heap.size, 0, none⟩ (.int .i64 7)) P _ { s with i := s.i + 1 } from (qx 0 (.int .i64 7) (show P ≠ w9.heap.size by omega)).trans HP10.out);have HN11 := xH (zl (qP HKX.out (Nat.le_refl _) 0 (.int .i64 7)) (show P < w.heap.size + 1 by omega) (Nat.le_refl _) HN9.out);obtain ⟨old, hg, hz⟩ := HV10.out;have HGR := xH ((qx 0 (.int .i64 7) (show w.heap.size ≠ w9.heap.size by omega)).trans hg);have H1 := xH (qp HN11.out);clear hg HG10 HK10 HP10 HV10 HKX HN9 hk HT10;go_upto_region 27 with (fail)
   clear z0 y0 m0;generalize w10.setCell ⟨w9.heap.size, 0, none⟩ (.int .i64 7) = w11 at *;go_wp2_with (first
    | (refine ql rfl _ rfl w9.heap.size rfl (leafL tk (.slice sa tk.set.length sq)) HG11.out ?_)
    | (refine qh rfl rfl _ _ rfl w.heap.size rfl _ (leafL tk (.slice sa tk.set.length sq)) HGR.out hz H1.out rfl ?_))
   refine bodyPost_ret (qA rfl _ _ w.heap.size (leafL tk (.slice sa tk.set.length sq)) rfl (setRow_heap _ _ _ _ _ _ HGR.out)) rfl ?_;exact run_end (t := ((leafL tk (.slice sa tk.set.length sq)), .nil)) hlt HN11.out (by rw [HR.out]; rfl) HP11.out (by rw [HR.out]) HK11.out
  have b11 : (tk.kind == 11) = false := by simp [e11]
  by_cases e12 : tk.kind = 12
  ·have b12 : (tk.kind == 12) = true := by simp [e12]
   have hk : leafK tk.kind = 8 := by unfold leafK; simp [e12]
   have HG11 := xH (show (w10.setCell ⟨w9.heap.size, 0, none⟩ (.int .i64 8)).heap[w9.heap.size]? = some (.cells (ndC (leafL tk (.slice sa tk.set.length sq))).toArray 31 (0, 0)) from by show _ = some (Obj.cells #[.int .i64 (leafK tk.kind), .int .i64 (tk.at_ : Int), .int .i64 tk.c, .slice sa tk.set.length sq, .bool tk.neg, .int .i64 tk.n, .int .i64 tk.m, .int .i64 0, .string tk.name, .int .i64 tk.on, .int .i64 tk.off, .slice none 0 0] 31 (0, 0));rw [hk];exact tkw.heap_set (o := 0) (v := .int .i64 8) HG10.out)
   have HK11 := xH (qP HK10.out (show w.heap.size ≤ w9.heap.size by omega) 0 (.int .i64 8));have HP11 := xH (show PsAt (w10.setCell ⟨w9.heap.size, 0, none⟩ (.int .i64 8)) P _ { s with i := s.i + 1 } from (qx 0 (.int .i64 8) (show P ≠ w9.heap.size by omega)).trans HP10.out);have HN11 := xH (zl (qP HKX.out (Nat.le_refl _) 0 (.int .i64 8)) (show P < w.heap.size + 1 by omega) (Nat.le_refl _) HN9.out);obtain ⟨old, hg, hz⟩ := HV10.out;have HGR := xH ((qx 0 (.int .i64 8) (show w.heap.size ≠ w9.heap.size by omega)).trans hg);have H1 := xH (qp HN11.out);clear hg HG10 HK10 HP10 HV10 HKX HN9 hk HT10;go_upto_region 27 with (fail)
   clear z0 y0 m0;generalize w10.setCell ⟨w9.heap.size, 0, none⟩ (.int .i64 8) = w11 at *;go_wp2_with (first
    | (refine ql rfl _ rfl w9.heap.size rfl (leafL tk (.slice sa tk.set.length sq)) HG11.out ?_)
    | (refine qh rfl rfl _ _ rfl w.heap.size rfl _ (leafL tk (.slice sa tk.set.length sq)) HGR.out hz H1.out rfl ?_))
   refine bodyPost_ret (qA rfl _ _ w.heap.size (leafL tk (.slice sa tk.set.length sq)) rfl (setRow_heap _ _ _ _ _ _ HGR.out)) rfl ?_;exact run_end (t := ((leafL tk (.slice sa tk.set.length sq)), .nil)) hlt HN11.out (by rw [HR.out]; rfl) HP11.out (by rw [HR.out]) HK11.out
  have b12 : (tk.kind == 12) = false := by simp [e12]
  by_cases e13 : tk.kind = 13
  ·have b13 : (tk.kind == 13) = true := by simp [e13]
   have hk : leafK tk.kind = 9 := by unfold leafK; simp [e13]
   have HG11 := xH (show (w10.setCell ⟨w9.heap.size, 0, none⟩ (.int .i64 9)).heap[w9.heap.size]? = some (.cells (ndC (leafL tk (.slice sa tk.set.length sq))).toArray 31 (0, 0)) from by show _ = some (Obj.cells #[.int .i64 (leafK tk.kind), .int .i64 (tk.at_ : Int), .int .i64 tk.c, .slice sa tk.set.length sq, .bool tk.neg, .int .i64 tk.n, .int .i64 tk.m, .int .i64 0, .string tk.name, .int .i64 tk.on, .int .i64 tk.off, .slice none 0 0] 31 (0, 0));rw [hk];exact tkw.heap_set (o := 0) (v := .int .i64 9) HG10.out)
   have HK11 := xH (qP HK10.out (show w.heap.size ≤ w9.heap.size by omega) 0 (.int .i64 9));have HP11 := xH (show PsAt (w10.setCell ⟨w9.heap.size, 0, none⟩ (.int .i64 9)) P _ { s with i := s.i + 1 } from (qx 0 (.int .i64 9) (show P ≠ w9.heap.size by omega)).trans HP10.out);have HN11 := xH (zl (qP HKX.out (Nat.le_refl _) 0 (.int .i64 9)) (show P < w.heap.size + 1 by omega) (Nat.le_refl _) HN9.out);obtain ⟨old, hg, hz⟩ := HV10.out;have HGR := xH ((qx 0 (.int .i64 9) (show w.heap.size ≠ w9.heap.size by omega)).trans hg);have H1 := xH (qp HN11.out);clear hg HG10 HK10 HP10 HV10 HKX HN9 hk HT10;go_upto_region 27 with (fail)
   clear z0 y0 m0;generalize w10.setCell ⟨w9.heap.size, 0, none⟩ (.int .i64 9) = w11 at *;go_wp2_with (first
    | (refine ql rfl _ rfl w9.heap.size rfl (leafL tk (.slice sa tk.set.length sq)) HG11.out ?_)
    | (refine qh rfl rfl _ _ rfl w.heap.size rfl _ (leafL tk (.slice sa tk.set.length sq)) HGR.out hz H1.out rfl ?_))
   refine bodyPost_ret (qA rfl _ _ w.heap.size (leafL tk (.slice sa tk.set.length sq)) rfl (setRow_heap _ _ _ _ _ _ HGR.out)) rfl ?_;exact run_end (t := ((leafL tk (.slice sa tk.set.length sq)), .nil)) hlt HN11.out (by rw [HR.out]; rfl) HP11.out (by rw [HR.out]) HK11.out
  have b13 : (tk.kind == 13) = false := by simp [e13]
  by_cases e14 : tk.kind = 14
  ·have b14 : (tk.kind == 14) = true := by simp [e14]
   have hk : leafK tk.kind = 10 := by unfold leafK; simp [e14]
   have HG11 := xH (show (w10.setCell ⟨w9.heap.size, 0, none⟩ (.int .i64 10)).heap[w9.heap.size]? = some (.cells (ndC (leafL tk (.slice sa tk.set.length sq))).toArray 31 (0, 0)) from by show _ = some (Obj.cells #[.int .i64 (leafK tk.kind), .int .i64 (tk.at_ : Int), .int .i64 tk.c, .slice sa tk.set.length sq, .bool tk.neg, .int .i64 tk.n, .int .i64 tk.m, .int .i64 0, .string tk.name, .int .i64 tk.on, .int .i64 tk.off, .slice none 0 0] 31 (0, 0));rw [hk];exact tkw.heap_set (o := 0) (v := .int .i64 10) HG10.out)
   have HK11 := xH (qP HK10.out (show w.heap.size ≤ w9.heap.size by omega) 0 (.int .i64 10));have HP11 := xH (show PsAt (w10.setCell ⟨w9.heap.size, 0, none⟩ (.int .i64 10)) P _ { s with i := s.i + 1 } from (qx 0 (.int .i64 10) (show P ≠ w9.heap.size by omega)).trans HP10.out);have HN11 := xH (zl (qP HKX.out (Nat.le_refl _) 0 (.int .i64 10)) (show P < w.heap.size + 1 by omega) (Nat.le_refl _) HN9.out);obtain ⟨old, hg, hz⟩ := HV10.out;have HGR := xH ((qx 0 (.int .i64 10) (show w.heap.size ≠ w9.heap.size by omega)).trans hg);have H1 := xH (qp HN11.out);clear hg HG10 HK10 HP10 HV10 HKX HN9 hk HT10;go_upto_region 27 with (fail)
   clear z0 y0 m0;generalize w10.setCell ⟨w9.heap.size, 0, none⟩ (.int .i64 10) = w11 at *;go_wp2_with (first
    | (refine ql rfl _ rfl w9.heap.size rfl (leafL tk (.slice sa tk.set.length sq)) HG11.out ?_)
    | (refine qh rfl rfl _ _ rfl w.heap.size rfl _ (leafL tk (.slice sa tk.set.length sq)) HGR.out hz H1.out rfl ?_))
   refine bodyPost_ret (qA rfl _ _ w.heap.size (leafL tk (.slice sa tk.set.length sq)) rfl (setRow_heap _ _ _ _ _ _ HGR.out)) rfl ?_;exact run_end (t := ((leafL tk (.slice sa tk.set.length sq)), .nil)) hlt HN11.out (by rw [HR.out]; rfl) HP11.out (by rw [HR.out]) HK11.out
  have b14 : (tk.kind == 14) = false := by simp [e14]
  have hk : leafK tk.kind = 11 := by unfold leafK; simp [e1, e2, e3, e4, e5, e6, e11, e12, e13, e14]
  have HG11 := xH (show (w10.setCell ⟨w9.heap.size, 0, none⟩ (.int .i64 11)).heap[w9.heap.size]? = some (.cells (ndC (leafL tk (.slice sa tk.set.length sq))).toArray 31 (0, 0)) from by show _ = some (Obj.cells #[.int .i64 (leafK tk.kind), .int .i64 (tk.at_ : Int), .int .i64 tk.c, .slice sa tk.set.length sq, .bool tk.neg, .int .i64 tk.n, .int .i64 tk.m, .int .i64 0, .string tk.name, .int .i64 tk.on, .int .i64 tk.off, .slice none 0 0] 31 (0, 0));rw [hk];exact tkw.heap_set (o := 0) (v := .int .i64 11) HG10.out)
  have HK11 := xH (qP HK10.out (show w.heap.size ≤ w9.heap.size by omega) 0 (.int .i64 11));have HP11 := xH (show PsAt (w10.setCell ⟨w9.heap.size, 0, none⟩ (.int .i64 11)) P _ { s with i := s.i + 1 } from (qx 0 (.int .i64 11) (show P ≠ w9.heap.size by omega)).trans HP10.out);have HN11 := xH (zl (qP HKX.out (Nat.le_refl _) 0 (.int .i64 11)) (show P < w.heap.size + 1 by omega) (Nat.le_refl _) HN9.out);obtain ⟨old, hg, hz⟩ := HV10.out;have HGR := xH ((qx 0 (.int .i64 11) (show w.heap.size ≠ w9.heap.size by omega)).trans hg);have H1 := xH (qp HN11.out);clear hg HG10 HK10 HP10 HV10 HKX HN9 hk HT10;go_upto_region 27 with (fail)
  clear z0 y0 m0;generalize w10.setCell ⟨w9.heap.size, 0, none⟩ (.int .i64 11) = w11 at *;go_wp2_with (first
   | (refine ql rfl _ rfl w9.heap.size rfl (leafL tk (.slice sa tk.set.length sq)) HG11.out ?_)
   | (refine qh rfl rfl _ _ rfl w.heap.size rfl _ (leafL tk (.slice sa tk.set.length sq)) HGR.out hz H1.out rfl ?_))
  refine bodyPost_ret (qA rfl _ _ w.heap.size (leafL tk (.slice sa tk.set.length sq)) rfl (setRow_heap _ _ _ _ _ _ HGR.out)) rfl ?_;exact run_end (t := ((leafL tk (.slice sa tk.set.length sq)), .nil)) hlt HN11.out (by rw [HR.out]; rfl) HP11.out (by rw [HR.out]) HK11.out
 have h10 : tk.kind = 10 := Classical.byContradiction hk10;have h40 : s.op = 40 := hkd.resolve_left hk10;have HR := xH ((HR0.out.trans (if_neg hk10)).trans (if_pos h40));have b10 : (tk.kind != 10) = false := by simp [h10]
 have b40 : ((s.op : Int) == 40) = true := by simp [h40]
 obtain ⟨_, _, p2, _⟩ := ps_c HOk8.out.p;clear HR0 hk10 HT8 h10 h40 hkd;go_wp2_with fail
 refine (fail_any P _ s 11 tk.at_ w8 HOk8.out.p).mono ?_;rintro e w9 ⟨rfl, hp9, hk9⟩;obtain ⟨old, hg, hz⟩ := HV8.out.kept hk9 hlt;have HG := xH hg;have HP9 := xH hp9;have HK9 := xH (HK8.out.then hk9);clear hg hp9 hk9;have H1 := xH (qp (zero_at w9));go_wp2_with (refine qh rfl rfl _ _ rfl w.heap.size rfl _ (lab 0 0) HG.out hz H1.out rfl ?_)
 refine bodyPost_ret (qA rfl _ _ w.heap.size (lab 0 0) rfl (setRow_heap _ _ _ _ _ _ HG.out)) rfl ?_;exact run_end (t := (lab 0 0, .nil)) hlt (zero_at _) (by rw [HR.out]; rfl) HP9.out (by rw [HR.out]) HK9.out
end Go.Proofs.YtnpcombfgdbhkaaDoor.rpw
end
section
namespace Go.Proofs.YtnpcombfgdbhkaaDoor.psw
open sq
open Go.Sort Go Go.RowKit Go.Maps tkp trp trw rpp psp
open tkw (qO)
open rpw (sees jB qU fC jP FSub vw jQ app_sub jH jm jd qp vW oneR zk jV lab_ok rg_nil)
structure Gv where
 t : Tk
 sv : Value
 kv : Value
 kf : F
 iv : Value
 jf : F
def grpC (G : Gv) : List Value := qO G.sv G.t ++ [G.kv, G.iv]
def gC : List Gv → List Value
 | [] => []
 | G :: T => gC T ++ grpC G
theorem grpC_len (G : Gv) : (grpC G).length = 14 := rfl
theorem gC_len : ∀ T : List Gv, (gC T).length = T.length * 14
 | [] => rfl
 | G :: T => by rw [gC, List.length_append, gC_len T, grpC_len, List.length_cons]; omega
def Gv.g (G : Gv) : psp.G := ⟨G.t, strip G.kf, strip G.jf⟩
def TkO (t : Tk) : Prop := t.at_ ≤ 100000 ∧ I64 t.kind ∧ I64 t.c ∧ I64 t.n ∧ I64 t.m ∧ I64 t.mode ∧ I64 t.on ∧ I64 t.off
structure Ch (b : Nat → Bool) (w w' : World) : Prop where
 os : w'.os = w.os
 tape : w'.tape = w.tape
 output : w'.output = w.output
 size : w.heap.size ≤ w'.heap.size
 block : ∀ k, k < w.heap.size → b k = false → w'.heap[k]? = w.heap[k]?
theorem Ch.refl (b : Nat → Bool) (w : World) : Ch b w w := ⟨rfl, rfl, rfl, Nat.le_refl _, fun _ _ _ => rfl⟩
theorem Ch.of_below {b : Nat → Bool} {w w' : World} (h : Below w.heap.size w w') : Ch b w w' := ⟨h.os, h.tape, h.output, h.size, fun k hk _ => h.block k hk⟩
theorem Ch.trans {b c d : Nat → Bool} {x y z : World} (h : Ch b x y) (k : Ch c y z) (h1 : ∀ i, i < x.heap.size → d i = false → b i = false) (h2 : ∀ i, i < x.heap.size → d i = false → c i = false) : Ch d x z :=
 ⟨k.os.trans h.os, k.tape.trans h.tape, k.output.trans h.output, Nat.le_trans h.size k.size, fun i hi hd => (k.block i (Nat.lt_of_lt_of_le hi h.size) (h2 i hi hd)).trans (h.block i hi (h1 i hi hd))⟩
theorem Ch.cell (b : Nat → Bool) (w : World) (g o : Nat) (v : Value) (h : b g = true) : Ch b w (w.setCell ⟨g, o, none⟩ v) :=
 ⟨rfl, rfl, rfl, by simp [World.setCell], fun k _ hk => rpw.qx o v (fun e => by rw [e, h] at hk; cases hk)⟩
theorem Ch.row (b : Nat → Bool) (w : World) (g : Nat) (cs : Array Value) (h : b g = true) : Ch b w (w.setRow g cs) :=
 ⟨rfl, rfl, rfl, by rw [tkw.setRow_size]; exact Nat.le_refl _, fun k _ hk => tkw.setRow_other _ _ k cs (fun e => by rw [e, h] at hk; cases hk)⟩
theorem Ch.of_grown {b : Nat → Bool} {w w' : World} {r : Option Nat} (h : w.grownBy w' r) (hr : ∀ k, r = some k → b k = true) : Ch b w w' :=
 ⟨h.os, h.tape, h.output, h.size, fun k hk hb => h.block k hk (fun e => by rw [hr k e.symm] at hb; cases hb)⟩
theorem sees_ch {H H' b : Nat → Bool} {w w' : World} (h : Ch b w w') (hb : ∀ i, i < w.heap.size → b i = true → H i = true) (hH : ∀ i, i < w.heap.size → H i = false → H' i = false) : ∀ a v, (sees H w).cell? a = some v → (sees H' w').cell? a = some v :=
 qU fun a v h1 hc => by
  have hl := cell_lt hc;refine ⟨hH _ hl h1, (World.cell?_of_block (h.block a.block hl ?_)).trans hc⟩;cases e : b a.block with
  | false => rfl
  | true => rw [hb _ hl e] at h1; cases h1
def top (g : Nat) (kv iv : Value) (i : Nat) : Bool := decide (i = g) || decide (kv.ownBlock = some i) || decide (iv.ownBlock = some i)
structure Nr (H : Nat → Bool) (n : Nat) (w : World) (v : Value) (f : F) : Prop where
 r : w.ownsRow n 31 12 v f.len (fC f)
 z : f.len = 0 → v = nil3
 s : FSub (sees H w) f
 h : ∀ b, v.ownBlock = some b → H b = true
theorem nr_nil (H : Nat → Bool) (n : Nat) (w : World) : Nr H n w nil3 .nil := ⟨World.ownsRow_nil w n _ 12, fun _ => rfl, trivial, fun b e => by cases e⟩
structure Gi (H : Nat → Bool) (n : Nat) (w : World) (g o : Nat) (C : Array Value) (G : Gv) : Prop where
 c : w.heap[g]? = some (.cells C 59 (0, 0))
 s : o + 14 ≤ C.size
 l : ∀ j u, (grpC G)[j]? = some u → C[o + j]? = some u
 k : Nr H n w G.kv G.kf
 i : Nr H n w G.iv G.jf
 hg : H g = true
 kg : G.kv.ownBlock ≠ some g
 ig : G.iv.ownBlock ≠ some g
 d : ∀ b, G.kv.ownBlock = some b → G.iv.ownBlock ≠ some b
 ho : ∀ i, H i = true → i < w.heap.size
 n : n ≤ w.heap.size
 rg : RgAt (sees H w) G.sv G.t.set
 ok : TkO G.t
structure Gs (H : Nat → Bool) (n : Nat) (w : World) (g o : Nat) (C : Array Value) (G : Gv) (H' : Nat → Bool) (w' : World) (C' : Array Value) (G' : Gv) : Prop where
 i : Gi H' n w' g o C' G'
 ch : Ch (top g G.kv G.iv) w w'
 h1 : ∀ i, H i = true → G.kv.ownBlock ≠ some i → G.iv.ownBlock ≠ some i → H' i = true
 h2 : ∀ i, H' i = true → H i = true ∨ w.heap.size ≤ i
 z : C'.size = C.size
 out : ∀ j, (j < o ∨ o + 14 ≤ j) → C'[j]? = C[j]?
 t : G'.t = G.t
 sv : G'.sv = G.sv
 kb : ∀ b, G'.kv.ownBlock = some b → G.kv.ownBlock = some b ∨ w.heap.size ≤ b
 ib : ∀ b, G'.iv.ownBlock = some b → G.iv.ownBlock = some b ∨ w.heap.size ≤ b
 ho : ∀ i, H i = true → i < w.heap.size
theorem Gi.lt {H : Nat → Bool} {n : Nat} {w : World} {g o : Nat} {C : Array Value} {G : Gv} (h : Gi H n w g o C G) : g < w.heap.size := h.ho _ h.hg
theorem top_own {H : Nat → Bool} {n : Nat} {w : World} {g o : Nat} {C : Array Value} {G : Gv} (h : Gi H n w g o C G) {i : Nat} (e : top g G.kv G.iv i = true) : H i = true := by
 simp only [top, Bool.or_eq_true, decide_eq_true_eq] at e;rcases e with (rfl | e) | e
 ·exact h.hg
 ·exact h.k.h _ e
 ·exact h.i.h _ e
theorem Gs.refl {H : Nat → Bool} {n : Nat} {w : World} {g o : Nat} {C : Array Value} {G : Gv} (h : Gi H n w g o C G) : Gs H n w g o C G H w C G :=
 ⟨h, Ch.refl _ _, fun _ e _ _ => e, fun _ e => Or.inl e, rfl, fun _ _ => rfl, rfl, rfl, fun _ e => Or.inl e, fun _ e => Or.inl e, h.ho⟩
theorem Gs.trans {H H1 H2 : Nat → Bool} {n : Nat} {w w1 w2 : World} {g o : Nat} {C C1 C2 : Array Value} {G G1 G2 : Gv} (a : Gs H n w g o C G H1 w1 C1 G1) (b : Gs H1 n w1 g o C1 G1 H2 w2 C2 G2) : Gs H n w g o C G H2 w2 C2 G2 := by
 refine ⟨b.i, ?_, fun i e e1 e2 => ?_, fun i e => ?_, b.z.trans a.z, fun j hj => (b.out j hj).trans (a.out j hj), b.t.trans a.t, b.sv.trans a.sv, fun i e => ?_, fun i e => ?_, a.ho⟩
 ·refine a.ch.trans b.ch (fun _ _ e => e) (fun i hi e => ?_);cases h : top g G1.kv G1.iv i with
  | false => rfl
  | true =>
   simp only [top, Bool.or_eq_true, decide_eq_true_eq] at h;simp only [top, Bool.or_eq_false_iff, decide_eq_false_iff_not] at e;rcases h with (h | h) | h
   ·exact absurd h e.1.1
   ·rcases a.kb _ h with h | h
    ·exact absurd h e.1.2
    ·omega
   ·rcases a.ib _ h with h | h
    ·exact absurd h e.2
    ·omega
 ·have hl := a.ho i e;refine b.h1 i (a.h1 i e e1 e2) (fun h => ?_) (fun h => ?_)
  ·rcases a.kb _ h with h | h
   ·exact e1 h
   ·omega
  ·rcases a.ib _ h with h | h
   ·exact e2 h
   ·omega
 ·rcases b.h2 i e with h | h
  ·exact a.h2 i h
  ·exact Or.inr (Nat.le_trans a.ch.size h)
 ·rcases b.kb i e with h | h
  ·exact a.kb i h
  ·exact Or.inr (Nat.le_trans a.ch.size h)
 ·rcases b.ib i e with h | h
  ·exact a.ib i h
  ·exact Or.inr (Nat.le_trans a.ch.size h)
end Go.Proofs.YtnpcombfgdbhkaaDoor.psw
end
section
namespace Go.Proofs.YtnpcombfgdbhkaaDoor.psw
open sq
open Go.Sort Go Go.RowKit Go.Maps tkp trp trw rpp psp
open tkw (qO)
open rpw (sees jB qU fC jP FSub vw jQ app_sub jH jm jd qp vW oneR zk jV lab_ok rg_nil qh qA jU)
theorem gather_any (kind : Int) (hki : I64 kind) (v : Value) (f : F) (w : World) (hk : jr w v f) : Calls Tryd.prog 45 #[.int .i64 kind, v] w (fun e w' => e = .returned (ndV (oneR kind v f).1) ∧ Below w.heap.size w w') := by
 have H1 := xH (qp (zk kind hki hk));obtain ⟨a, cap, rfl⟩ := kids_len hk;have HK := xH hk;have hg := heap_alloc_new w (.cells zC.toArray 31);have HG := xH hg;clear hk hg;unfold zC at HG;by_cases h1 : f.len = 1
 ·obtain ⟨x, k, rfl⟩ : ∃ x k, f = .cons x k .nil := by
   match f, h1 with
   | .nil, h => simp [F.len] at h
   | .cons x k .nil, _ => exact ⟨x, k, rfl⟩
   | .cons _ _ (.cons _ _ _), h => simp [F.len] at h
  obtain ⟨b, o, q, hv, _, _, _, hf⟩ := kid_at HK.out (i := 0) rfl;cases hv;have hcs := hf.1;have hbl := qg w (.cells zC.toArray 31);have HC := xH (fun j u hj => trw.qf hbl (hcs j u hj));simp only [zC] at HC;clear hf hcs hbl HK h1;go_enter Tryd.func45, Tryd.ntmps45;go_wp2_with (first
   | (refine jv rfl _ rfl b (o + 0 * 12) rfl x HC.out ?_)
   | (refine qh rfl rfl _ _ rfl w.heap.size rfl _ x HG.out rfl H1.out rfl ?_))
  refine bodyPost_ret (qA rfl _ _ w.heap.size x rfl (setRow_heap _ _ _ _ _ _ HG.out)) rfl ?_;exact ⟨rfl, jU _ _ _ _⟩
 ·have h1i : ¬ (f.len : Int) = 1 := by omega
  have hR : oneR kind (.slice a f.len cap) f = ({ lab kind 0 with kv := .slice a f.len cap }, f) := by
   match f, h1 with
   | .nil, _ => rfl
   | .cons x k .nil, h => exact absurd rfl h
   | .cons _ _ (.cons _ _ _), _ => rfl
  rw [hR] at H1 ⊢;generalize f.len = n at *;clear HK hR;go_enter Tryd.func45, Tryd.ntmps45;go_wp2_with (refine qh rfl rfl _ _ rfl w.heap.size rfl _ { lab kind 0 with kv := .slice a n cap } HG.out rfl H1.out rfl ?_)
  refine bodyPost_ret (qA rfl _ _ w.heap.size { lab kind 0 with kv := .slice a n cap } rfl (setRow_heap _ _ _ _ _ _ HG.out)) rfl ?_;exact ⟨rfl, jU _ _ _ _⟩
theorem prep_any (k : Int) (w : World) : Calls Tryd.prog 69 #[.int .i64 k] w (fun e w' => e = .returned (.bool (repK k && decide (k ≠ 20))) ∧ w' = w) := by
 by_cases h4 : k = 4
 ·have hR : (repK k && decide (k ≠ 20)) = false := by simp [repK, h4]
  have b4 : (k == 4) = true := by simp [h4]
  rw [hR];clear hR h4;go_enter Tryd.func69, Tryd.ntmps69;go_wp2_with fail
  go_ret
  exact ⟨rfl, rfl⟩
 have b4 : (k == 4) = false := by simp [h4]
 by_cases h5 : k = 5
 ·have hR : (repK k && decide (k ≠ 20)) = false := by simp [repK, h5]
  have b5 : (k == 5) = true := by simp [h5]
  rw [hR];clear hR h4 h5;go_enter Tryd.func69, Tryd.ntmps69;go_wp2_with fail
  go_ret
  exact ⟨rfl, rfl⟩
 have b5 : (k == 5) = false := by simp [h5]
 by_cases h9 : k = 9
 ·have hR : (repK k && decide (k ≠ 20)) = false := by simp [repK, h9]
  have b9 : (k == 9) = true := by simp [h9]
  rw [hR];clear hR h4 h5 h9;go_enter Tryd.func69, Tryd.ntmps69;go_wp2_with fail
  go_ret
  exact ⟨rfl, rfl⟩
 have b9 : (k == 9) = false := by simp [h9]
 by_cases h10 : k = 10
 ·have hR : (repK k && decide (k ≠ 20)) = false := by simp [repK, h10]
  have b10 : (k == 10) = true := by simp [h10]
  rw [hR];clear hR h4 h5 h9 h10;go_enter Tryd.func69, Tryd.ntmps69;go_wp2_with fail
  go_ret
  exact ⟨rfl, rfl⟩
 have b10 : (k == 10) = false := by simp [h10]
 by_cases h11 : k = 11
 ·have hR : (repK k && decide (k ≠ 20)) = false := by simp [repK, h11]
  have b11 : (k == 11) = true := by simp [h11]
  rw [hR];clear hR h4 h5 h9 h10 h11;go_enter Tryd.func69, Tryd.ntmps69;go_wp2_with fail
  go_ret
  exact ⟨rfl, rfl⟩
 have b11 : (k == 11) = false := by simp [h11]
 by_cases h20 : k = 20
 ·have hR : (repK k && decide (k ≠ 20)) = false := by simp [repK, h20]
  have b20 : (k == 20) = true := by simp [h20]
  rw [hR];clear hR h4 h5 h9 h10 h11 h20;go_enter Tryd.func69, Tryd.ntmps69;go_wp2_with fail
  go_ret
  exact ⟨rfl, rfl⟩
 have b20 : (k == 20) = false := by simp [h20]
 have hR : (repK k && decide (k ≠ 20)) = true := by simp [repK, h4, h5, h9, h10, h11, h20]
 rw [hR];clear hR h4 h5 h9 h10 h11 h20;go_enter Tryd.func69, Tryd.ntmps69;go_wp2_with fail
 go_ret
 exact ⟨rfl, rfl⟩
def mostK (n : Int) : Int := if n = 12 then 1 else if n = 13 then 3 else 2
theorem most_any (k : Int) (w : World) : Calls Tryd.prog 71 #[.int .i64 k] w (fun e w' => e = .returned (.int .i64 (mostK k)) ∧ w' = w) := by
 by_cases h12 : k = 12
 ·have hR : mostK k = 1 := by simp [mostK, h12]
  have b12 : (k == 12) = true := by simp [h12]
  rw [hR];clear hR h12;go_enter Tryd.func71, Tryd.ntmps71;go_wp2_with fail
  go_ret
  exact ⟨rfl, rfl⟩
 have b12 : (k == 12) = false := by simp [h12]
 by_cases h13 : k = 13
 ·have hR : mostK k = 3 := by simp [mostK, h13]
  have b13 : (k == 13) = true := by simp [h13]
  rw [hR];clear hR h13;go_enter Tryd.func71, Tryd.ntmps71;go_wp2_with fail
  go_ret
  exact ⟨rfl, rfl⟩
 have b13 : (k == 13) = false := by simp [h13]
 have hR : mostK k = 2 := by simp [mostK, h12, h13]
 rw [hR];clear hR h12 h13;go_enter Tryd.func71, Tryd.ntmps71;go_wp2_with fail
 go_ret
 exact ⟨rfl, rfl⟩
def gK (n : Nat) : Int := if n = 0 then 0 else if n = 1 then 14 else if n = 2 then 15 else if n = 3 then 16 else if n = 4 then 17 else if n ≤ 8 then 18 else 19
def eK (n : Nat) : Int := if n ≤ 6 then n else if n ≤ 10 then 0 else n - 4
def TabP (w : World) : Prop := (∀ i, i < 14 → w.cell? ⟨0, i, none⟩ = some (.int .i64 (gK i))) ∧ (∀ i, i < 16 → w.cell? ⟨1, i, none⟩ = some (.int .i64 (eK i)))
theorem tabP_below {w w' : World} (h : Below w.heap.size w w') (hT : TabP w) : TabP w' := ⟨fun i hi => trw.qf h (hT.1 i hi), fun i hi => trw.qf h (hT.2 i hi)⟩
theorem eK_leaf {k : Nat} (h0 : 1 ≤ k) (h1 : k ≤ 15) (h2 : ¬ (7 ≤ k ∧ k ≤ 10)) : eK k = leafK k := by
 have h : k = 1 ∨ k = 2 ∨ k = 3 ∨ k = 4 ∨ k = 5 ∨ k = 6 ∨ k = 11 ∨ k = 12 ∨ k = 13 ∨ k = 14 ∨ k = 15 := by omega
 rcases h with rfl | rfl | rfl | rfl | rfl | rfl | rfl | rfl | rfl | rfl | rfl <;> decide
def kindT (t : Tk) : Int := if t.kind = 10 then gK t.n.toNat else eK t.kind.toNat
def tA (sv : Value) (t : Tk) : Array Value := #[.int .i64 t.kind, .int .i64 t.at_, .int .i64 t.to, .int .i64 t.c, sv, .bool t.neg, .int .i64 t.n, .int .i64 t.m, .int .i64 t.mode, .string t.name, .int .i64 t.on, .int .i64 t.off]
theorem kindOf_any (sv : Value) (t : Tk) (w : World) (hT : TabP w) (h1 : 1 ≤ t.kind ∧ t.kind ≤ 15) (h2 : t.kind = 10 → 0 ≤ t.n ∧ t.n ≤ 13) : Calls Tryd.prog 72 #[.agg (tA sv t)] w (IntB (kindT t) w) := by
 obtain ⟨tk, ta, tt, tc, tset, tneg, tn, tm, tmo, tna, ton, tof⟩ := t;unfold tA;simp only at h1 h2 ⊢;have hbl := qg w (.cells #[.int .i64 tk, .int .i64 ta, .int .i64 tt, .int .i64 tc, sv, .bool tneg, .int .i64 tn, .int .i64 tm, .int .i64 tmo, .string tna, .int .i64 ton, .int .i64 tof] 53);have hgn := heap_alloc_new w (.cells #[.int .i64 tk, .int .i64 ta, .int .i64 tt, .int .i64 tc, sv, .bool tneg, .int .i64 tn, .int .i64 tm, .int .i64 tmo, .string tna, .int .i64 ton, .int .i64 tof] 53);have c0 : (w.alloc (.cells #[.int .i64 tk, .int .i64 ta, .int .i64 tt, .int .i64 tc, sv, .bool tneg, .int .i64 tn, .int .i64 tm, .int .i64 tmo, .string tna, .int .i64 ton, .int .i64 tof] 53)).cell? ⟨w.heap.size, 0, none⟩ = some (.int .i64 tk) := by unfold World.cell?; rw [hgn]; rfl
 have c6 : (w.alloc (.cells #[.int .i64 tk, .int .i64 ta, .int .i64 tt, .int .i64 tc, sv, .bool tneg, .int .i64 tn, .int .i64 tm, .int .i64 tmo, .string tna, .int .i64 ton, .int .i64 tof] 53)).cell? ⟨w.heap.size, 6, none⟩ = some (.int .i64 tn) := by unfold World.cell?; rw [hgn]; rfl
 have HT := tabP_below hbl hT;have HB := xH hbl;clear hbl hgn hT;by_cases h10 : tk = 10
 ·subst h10;obtain ⟨a0, a1⟩ := h2 rfl;obtain ⟨n, rfl⟩ := Int.eq_ofNat_of_zero_le a0;have cg := HT.1 n (by omega);rw [show kindT ⟨10, ta, tt, tc, tset, tneg, (n : Int), tm, tmo, tna, ton, tof⟩ = gK n from rfl];have a2 : (n : Int) < 14 := by omega
  have a3 : n < 14 := by omega
  clear HT h2 h1 a0 a1;generalize gK n = z at *;go_enter Tryd.func72, Tryd.ntmps72;go_wp2_with fail
  go_ret
  exact ⟨rfl, HB.out⟩
 ·obtain ⟨n, rfl⟩ := Int.eq_ofNat_of_zero_le (show 0 ≤ tk by omega);have cg := HT.2 n (by omega);have b10 : ((n : Int) == 10) = false := by simp [h10]
  rw [show kindT ⟨(n : Int), ta, tt, tc, tset, tneg, tn, tm, tmo, tna, ton, tof⟩ = eK n from by unfold kindT; rw [if_neg h10]; rfl];have a2 : (n : Int) < 16 := by omega
  have a3 : n < 16 := by omega
  clear HT h2 h1 h10;generalize eK n = z at *;go_enter Tryd.func72, Tryd.ntmps72;go_wp2_with fail
  go_ret
  exact ⟨rfl, HB.out⟩
end Go.Proofs.YtnpcombfgdbhkaaDoor.psw
end
section
namespace Go.Proofs.YtnpcombfgdbhkaaDoor.psr
open sq
open Go Go.RowKit Go.ChangeShapes Go.WideShapes Go.ChangeAt psw utfp utfw
theorem own : ownKnob Tryd.prog.godebug = none := by kernel_rfl
theorem laidOut : laidOutB Tryd.prog = true := by kernel_rfl
theorem cellsByte : Tryd.prog.cellsOf 5 = 1 := by kernel_rfl
theorem bytesByte : Tryd.prog.bytesOf 5 = 1 := by kernel_rfl
theorem recBytes : Tryd.prog.readableRec 22 = true := by kernel_rfl
theorem rowBytes : (22 : TypeId) < Tryd.prog.types.size := of_decide_eq_true (by kernel_rfl)
theorem cellsInt : Tryd.prog.cellsOf 3 = 1 := by kernel_rfl
theorem gElements : Tryd.prog.globalNamed "lurcher/parse.elements" = some 1 := by kernel_rfl
theorem gGroups : Tryd.prog.globalNamed "lurcher/parse.groups" = some 0 := by kernel_rfl
theorem gElementsType : (Tryd.prog.globals[1]?).map (·.type) = some 118 := by kernel_rfl
theorem gGroupsType : (Tryd.prog.globals[0]?).map (·.type) = some 117 := by kernel_rfl
theorem cellsElements : Tryd.prog.cellsOf 118 = 16 := by kernel_rfl
theorem cellsGroups : Tryd.prog.cellsOf 117 = 14 := by kernel_rfl
def elems : List Int := [0, 1, 2, 3, 4, 5, 6, 0, 0, 0, 0, 7, 8, 9, 10, 11]
def grps : List Int := [0, 14, 15, 16, 17, 18, 18, 18, 18, 19, 19, 19, 19, 19]
def laidList : List (String × DataW Unit) := [("lurcher/parse.elements", Rows.laid_lurcher_parse_elements), ("lurcher/parse.groups", Rows.laid_lurcher_parse_groups)]
theorem tabP_of {W : World} (h : laidMetH Tryd.prog laidList W) : TabP W := by
 have h1 : laidMet Tryd.prog laidList W := h;have h2 := h1.tail;have T1 : Lib.TabIs Tryd.prog W "lurcher/parse.elements" .i64 elems := Lib.tabIs_of_head gElements gElementsType Tryd.underlying118 Tryd.underlying3 cellsInt cellsElements h1;have T2 : Lib.TabIs Tryd.prog W "lurcher/parse.groups" .i64 grps := Lib.tabIs_of_head (rest := []) gGroups gGroupsType Tryd.underlying117 Tryd.underlying3 cellsInt cellsGroups h2;refine ⟨fun i hi => ?_, fun i hi => ?_⟩
 ·rw [T2.cell gGroups i (by simpa [grps] using hi)];have : i = 0 ∨ i = 1 ∨ i = 2 ∨ i = 3 ∨ i = 4 ∨ i = 5 ∨ i = 6 ∨ i = 7 ∨ i = 8 ∨ i = 9 ∨ i = 10 ∨ i = 11 ∨ i = 12 ∨ i = 13 := by omega
  rcases this with rfl | rfl | rfl | rfl | rfl | rfl | rfl | rfl | rfl | rfl | rfl | rfl | rfl | rfl <;> rfl
 ·rw [T1.cell gElements i (by simpa [elems] using hi)];have : i = 0 ∨ i = 1 ∨ i = 2 ∨ i = 3 ∨ i = 4 ∨ i = 5 ∨ i = 6 ∨ i = 7 ∨ i = 8 ∨ i = 9 ∨ i = 10 ∨ i = 11 ∨ i = 12 ∨ i = 13 ∨ i = 14 ∨ i = 15 := by omega
  rcases this with rfl | rfl | rfl | rfl | rfl | rfl | rfl | rfl | rfl | rfl | rfl | rfl | rfl | rfl | rfl | rfl <;> rfl
def layCells (l : List Int) : Obj → Obj
 | .cells _ t frozen => .cells (l.map (Value.int .i64)).toArray t frozen
 | o => o
theorem wf_byte {n : Int} (h : (Lit.int .u8 n).wf = true) : 0 ≤ n ∧ n ≤ 255 := by
 have h2 : IntKind.u8.min ≤ n ∧ n ≤ IntKind.u8.max := by simpa [Lit.wf] using h
 rw [show IntKind.u8.min = 0 by decide, show IntKind.u8.max = 255 by decide] at h2;exact h2
theorem open_bytes {H : Type} {enc : TypeId × Value → H} {W : World} {base : Nat} {v : Value} {d : DataW H} {ps : List MemPlace} (hval : Value.okWide Tryd.prog W .any base 22 v)
 (h : DataW.Trod enc Tryd.prog W 0 (fun _ => true) true 22 v d ps) (hsz : ∀ elems spare, d = .slice elems spare → (elems.length + spare.length) * Tryd.prog.bytesOf 5 ≤ reachBytes) :
 ∃ n g, Sl W v n g := by
 obtain ⟨a0, len, cap, rfl⟩ := okWide_slice Tryd.underlying22 hval;obtain ⟨fuel, hf⟩ := h;rcases open_ints Tryd.underlying22 Tryd.underlying5 cellsByte hf with ⟨hcs, _⟩ | ⟨a, len', cap', zs, hcs, _, hl, hm, hz, hx, hcell, hwz⟩
 ·simp [Value.cells] at hcs;obtain ⟨rfl, rfl, rfl⟩ := hcs;exact ⟨0, fun _ => 0, fun _ => by simp, by simp, Or.inl ⟨rfl, _, _, rfl, by omega⟩⟩
 ·simp [Value.cells] at hcs;obtain ⟨rfl, rfl, rfl⟩ := hcs;simp only [Prod.mk.injEq] at hx;obtain ⟨rfl, _⟩ := hx;simp only [if_true] at hz;have hr := hsz _ _ rfl;rw [bytesByte] at hr;simp only [lits, List.length_map, List.length_take, List.length_drop, reachBytes] at hr;unfold maxLen at hm;have hgb : ∀ i, 0 ≤ zs.getD i 0 ∧ zs.getD i 0 ≤ 255 := by
   intro i;by_cases hi : i < zs.length
   ·simp only [List.getD, List.getElem?_eq_getElem hi, Option.getD_some];exact wf_byte (hwz _ (List.getElem_mem hi))
   ·simp [List.getD, List.getElem?_eq_none (Nat.le_of_not_lt hi)]
  by_cases h0 : len = 0
  ·subst h0;exact ⟨0, fun _ => 0, fun _ => by simp, by simp, Or.inl ⟨rfl, _, _, rfl, by omega⟩⟩
  ·obtain ⟨b, off, spot⟩ := a;have c0 := hcell 0 (by omega);cases spot with
   | some s =>
    exfalso;have : ((⟨b, off, some s⟩ : Addr).add 0).spot.isSome = true := by unfold Addr.add; split <;> simp_all
    unfold World.cell? at c0;split at c0
    ·simp [this] at c0
    ·simp at c0
   | none =>
    refine ⟨len, fun i => zs.getD i 0, hgb, by omega, Or.inr ⟨b, off, cap, rfl, ⟨hl, by omega⟩, fun i hi => ?_⟩⟩;have := hcell i (by omega);have hplain : (⟨b, off, none⟩ : Addr).add i = ⟨b, off + i, none⟩ := by unfold Addr.add; split <;> simp_all
    rw [hplain] at this;exact this
end Go.Proofs.YtnpcombfgdbhkaaDoor.psr
end
section
namespace Go.Proofs.YtnpcombfgdbhkaaDoor.tkw
open sq
open Go Go.RowKit Go.Maps utfp utfw ucdp setp setw prp tkp
def hv (s : ByteArray) : Nat → Int
 | 0 => 0
 | k + 1 => hv s k * 16 + hexV (sg s k)
end Go.Proofs.YtnpcombfgdbhkaaDoor.tkw
end
section
namespace Go.Proofs.YtnpcombfgdbhkaaDoor.tkw
open sq
open Go Go.RowKit Go.Maps utfp utfw ucdp setp setw prp tkp
theorem norm_prop {m : Int} (hm : m ≤ 1114111) {n : ByteArray} {S : List Rg} (hS : ∀ c, Has S c ↔ 0 ≤ c ∧ c ≤ 1114111 ∧ propP n c = true) : normR m S = normR m (propL n) :=
 prop_norm hm hS (ja hm S) (normR_has hm S)
end Go.Proofs.YtnpcombfgdbhkaaDoor.tkw
end
