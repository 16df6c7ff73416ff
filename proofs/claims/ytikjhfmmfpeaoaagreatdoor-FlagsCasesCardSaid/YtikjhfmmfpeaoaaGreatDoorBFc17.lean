/- T -/
import Derived.Test.YtikjhfmmfpeaoaaGreatDoorBFc16
set_option maxHeartbeats 16000000
set_option maxRecDepth 1000000
section
namespace Go.Proofs.YtikjhfmmfpeaoaaGreatDoor.rpw
open sq
open Go.Sort Go Go.RowKit Go.Maps tkp trp trw rpp
open tkw (qO Kept Kept.refl Kept.trans Kept.mono Kept.then Kept.of_below Kept.below Kept.grown Kept.setCell)
variable {bl : Nat}
theorem qP {P n : Nat} {w w' : World} (h : Kept n P w w') {b : Nat} (hb : n ≤ b) (o : Nat) (v : Value) : Kept n P w (w'.setCell ⟨b, o, none⟩ v) :=
 h.trans ⟨rfl, rfl, rfl, by simp [World.setCell], fun k hk _ => Below.heap_setCell w' ⟨b, o, none⟩ v k (by show k ≠ b; omega)⟩
theorem qx {w : World} {b k : Nat} (o : Nat) (v : Value) (h : k ≠ b) : (w.setCell ⟨b, o, none⟩ v).heap[k]? = w.heap[k]? := Below.heap_setCell w ⟨b, o, none⟩ v k h
theorem leaf_at {P n : Nat} {w : World} {L : List Tk} {t : Tk} {sv : Value} (hk : LOk L) (ht : t ∈ L) (h : RgAt (vis bl P n w) sv t.set) : NdAt (vis bl P n w) (leafL t sv, .nil) := by
 obtain ⟨a1, a2, a3, a4, a5, a6, a7, a8⟩ := hk.t t ht;have z : I64 0 := by unfold I64; omega
 refine ⟨⟨?_, by show I64 (t.at_ : Int); unfold I64; omega, a3, a4, a5, z, a7, a8⟩, h, none, 0, rfl, by simp [F.len], by decide, Or.inl rfl⟩;show I64 (leafK t.kind);unfold leafK I64
 repeat' (first | omega | split)
theorem thing_leaf {P : Nat} {v : Value} {L : List Tk} {n : Nat} (s : Ps) (w : World) (hok : Ok bl w P v L s) (_he : s.e = 0) (hi : s.i < L.length) (hkd : (L.getD s.i zeroT).kind ≠ 10 ∨ s.op = 40) : Calls Tryz.prog 78 #[.pointer (some ⟨P, 0, none⟩)] w (RunB bl P v (run L (n + 1) .thing s) w) := by
 have hlt := hok.lt;obtain ⟨R, hR⟩ : ∃ R, run L (n + 1) .thing s = R := ⟨_, rfl⟩;rw [hR];obtain ⟨tk, htk⟩ : ∃ tk, L[s.i]? = some tk := ⟨L[s.i], List.getElem?_eq_getElem hi⟩;have htd : L.getD s.i zeroT = tk := by rw [List.getD_eq_getElem?_getD, htk]; rfl
 have HR0 := xH (hR.symm.trans (show run L (n + 1) .thing s = (if tk.kind ≠ 10 then (F.one (leafL tk nil3) .nil, { s with i := s.i + 1 }) else if s.op = 40 then (zeroF, failS s 11 tk.at_) else (let s1 : Ps := { s with i := s.i + 1, op := s.op + 1 }; let q := if tk.n = 13 ∧ kindS L s1 = 10 then run L n .thing s1 else (.nil, s1); let r := run L n (.alt .nil) q.2; if kindS L r.2 ≠ 8 then (zeroF, failS r.2 20 (-1)) else (jf tk q.1 r.1, zf tk r.1 { r.2 with i := r.2.i + 1, op := r.2.op - 1 }))) by rw [run, htd]));have hb0 := qg w (.cells zC.toArray 27);have HOk0 := xH (hok.step (jE hok.p hb0) (Kept.of_below hb0) (Inv.refl hok.i hok.op));have HK0 := xH (Kept.of_below (L := P) hb0);have HV0 := xH (show RvAt (w.alloc (.cells zC.toArray 27)) w.heap.size from ⟨_, heap_alloc_new _ _, rfl⟩);have HSZ := xH (World.size_alloc w (.cells zC.toArray 27));have htm : tk ∈ L := List.mem_of_getElem? htk;obtain ⟨g, oo, cap, sv, hv, hc1, hc2, hil, hgm, hrg, hcs⟩ := tk_at hok.l htk;obtain ⟨sa, sq, hsv, _⟩ := id hrg;subst hsv;subst hv;have HRG := xH hrg;obtain ⟨e0, e1, _⟩ := ps_c (jE hok.p hb0);have hd7 : Below (w.alloc (.cells zC.toArray 27)).heap.size (w.alloc (.cells zC.toArray 27)) (w.alloc (.cells zC.toArray 27)).drew := ⟨rfl, rfl, rfl, Nat.le_refl _, fun _ _ => rfl⟩;have HC0 := xH (trw.qf hd7 e0);have HC1 := xH (trw.qf hd7 e1);have HCT := xH (fun j u hj => trw.qf hd7 (trw.qf hb0 (hcs j u hj)));rw [htd] at hkd;clear hok hR hb0 hrg hcs hd7 e0 e1 htd hgm htk;unfold zC at HOk0 HK0 HV0 HC0 HC1 HCT HSZ;go_enter Tryz.func78, Tryz.ntmps78;go_wp2_with fail
 generalize w.alloc _ = w0 at *;have hPT : P < w0.heap.size := HOk0.out.lt;refine wp_region_held_drew (S := fun w' => w'.cell? ⟨P, 0, none⟩ = some (.slice (some ⟨g, oo, none⟩) L.length cap) ∧ w'.cell? ⟨P, 1, none⟩ = some (.int .i64 (s.i : Int)) ∧ (∀ j u, (qO (.slice sa tk.set.length sq) tk)[j]? = some u → w'.cell? ⟨g, oo + s.i * 12 + j, none⟩ = some u)) (by kernel_rfl) ⟨HC0.out, HC1.out, HCT.out⟩ (fun hHeld => ?_);refine xT 0 rfl ?_ ?_ ?_;rotate_left
 ·intro w' hSw;go_simp;try rfl
 simp only [xS];refine xT 1 rfl ?_ ?_ ?_;rotate_left
 ·intro w' hSw;go_simp;try rfl
 simp only [xS];refine xT 2 rfl ?_ ?_ ?_;rotate_left
 ·intro w' hSw;go_simp;try rfl
 simp only [xS];refine xT 3 rfl ?_ ?_ ?_;rotate_left
 ·intro w' hSw;obtain ⟨q0, q1, qT⟩ := hSw;go_simp;try rfl
 simp only [xS];refine xT 4 rfl ?_ ?_ ?_;rotate_left
 ·intro w' hSw;go_simp;try rfl
 simp only [xS];refine xT 5 rfl ?_ ?_ ?_;rotate_left
 ·intro w' hSw;go_simp;try rfl
 simp only [xS];refine xT 6 rfl ?_ ?_ ?_;rotate_left
 ·intro w' hSw;go_simp;try rfl
 simp only [xS];refine xT 7 rfl ?_ ?_ ?_;rotate_left
 ·intro w' hSw;obtain ⟨q0, q1, qT⟩ := hSw;go_simp;try rfl
 simp only [xS];refine xT 8 rfl ?_ ?_ ?_;rotate_left
 ·intro w' hSw;go_simp;try rfl
 simp only [xS];refine xT 9 rfl ?_ ?_ ?_;rotate_left
 ·intro w' hSw;obtain ⟨q0, q1, qT⟩ := hSw;have t0 := qT 0 _ rfl;have t1 := qT 1 _ rfl;have t2 := qT 2 _ rfl;have t3 := qT 3 _ rfl;have t4 := qT 4 _ rfl;have t5 := qT 5 _ rfl;have t6 := qT 6 _ rfl;have t7 := qT 7 _ rfl;have t8 := qT 8 _ rfl;have t9 := qT 9 _ rfl;have t10 := qT 10 _ rfl;have t11 := qT 11 _ rfl;rw [Nat.add_zero] at t0;go_simp;try rfl
 simp only [xS];refine xD 10 rfl (fun K hK => ?_);go_simp;refine hK.out _ _ ⟨trw.qf (qg _ _) hHeld.1, trw.qf (qg _ _) hHeld.2.1, fun j u hj => trw.qf (qg _ _) (hHeld.2.2 j u hj)⟩ (fun hHeld => ?_);clear hK K;try simp only [xS]
 have hgT : g < w0.heap.size := cell_lt (HCT.out 0 _ rfl);refine xD 11 rfl (fun K hK => ?_);refine held_store_tk rfl rfl _ _ rfl w0.heap.size rfl zT (.slice sa tk.set.length sq) tk (heap_alloc_new w0.drew (.cells zT 68)) rfl (fun u hu => by simp only [qO, List.mem_cons, List.not_mem_nil, or_false] at hu;rcases hu with rfl | rfl | rfl | rfl | rfl | rfl | rfl | rfl | rfl | rfl | rfl | rfl <;> rfl) rfl ?_
 refine hK.out _ _ ⟨jI _ hHeld.1 (by show P ≠ w0.heap.size; omega), jI _ hHeld.2.1 (by show P ≠ w0.heap.size; omega), fun j u hj => jI _ (hHeld.2.2 j u hj) (by show g ≠ w0.heap.size; omega)⟩ (fun _ => ?_);clear hK K hHeld;refine wpAnyH_done (by kernel_rfl) ?_ _;have hb8 : Below w0.heap.size w0 ((w0.alloc (.cells #[.int .i64 0, .int .i64 0, .int .i64 0, .int .i64 0, .slice none 0 0, .bool false, .int .i64 0, .int .i64 0, .int .i64 0, .string ⟨#[]⟩, .int .i64 0, .int .i64 0] 68)).drew.setRow w0.heap.size (tkw.tkA (.slice sa tk.set.length sq) tk)) :=
  ((qg w0 (.cells zT 68)).trans (show Below w0.heap.size (w0.alloc (.cells zT 68)) (w0.alloc (.cells zT 68)).drew from ⟨rfl, rfl, rfl, Nat.le_refl _, fun _ _ => rfl⟩)).trans ⟨rfl, rfl, rfl, by rw [tkw.setRow_size]; exact Nat.le_refl _, fun k hk => tkw.setRow_other _ _ k _ (by omega)⟩
 have ht8 : ((w0.alloc (.cells #[.int .i64 0, .int .i64 0, .int .i64 0, .int .i64 0, .slice none 0 0, .bool false, .int .i64 0, .int .i64 0, .int .i64 0, .string ⟨#[]⟩, .int .i64 0, .int .i64 0] 68)).drew.setRow w0.heap.size (tkw.tkA (.slice sa tk.set.length sq) tk)).heap[w0.heap.size]? = some (.cells (tkw.tkA (.slice sa tk.set.length sq) tk) 68 (0, 0)) := setRow_heap _ _ _ (tkw.tkA (.slice sa tk.set.length sq) tk) _ _ (show (w0.alloc (.cells zT 68)).drew.heap[w0.heap.size]? = _ from heap_alloc_new w0 (.cells zT 68));obtain ⟨w8, hw8⟩ : ∃ W, ((w0.alloc (.cells #[.int .i64 0, .int .i64 0, .int .i64 0, .int .i64 0, .slice none 0 0, .bool false, .int .i64 0, .int .i64 0, .int .i64 0, .string ⟨#[]⟩, .int .i64 0, .int .i64 0] 68)).drew.setRow w0.heap.size (tkw.tkA (.slice sa tk.set.length sq) tk)) = W := ⟨_, rfl⟩;rw [hw8] at hb8 ht8 ⊢;have HT8 := xH ht8;clear ht8 hw8;have HOk8 := xH (HOk0.out.step (jE HOk0.out.p hb8) (Kept.of_below hb8) (Inv.refl HOk0.out.i HOk0.out.op));have HK8 := xH (HK0.out.then (Kept.of_below hb8));have HV8 := xH (HV0.out.kept (Kept.of_below (L := P) hb8) hlt);have hT8 : w.heap.size + 1 ≤ w0.heap.size := by rw [HSZ.out]; exact Nat.le_refl _
 clear hb8 HC0 HC1 HCT HOk0 HK0 HV0 HSZ;generalize w0.heap.size = T at *;have k0 : w8.cell? ⟨T, 0, none⟩ = some (.int .i64 tk.kind) := by unfold World.cell?; rw [HT8.out]; rfl
 have k1 : w8.cell? ⟨T, 1, none⟩ = some (.int .i64 (tk.at_ : Int)) := by unfold World.cell?; rw [HT8.out]; rfl
 have k2 : w8.cell? ⟨T, 2, none⟩ = some (.int .i64 (tk.to : Int)) := by unfold World.cell?; rw [HT8.out]; rfl
 have k3 : w8.cell? ⟨T, 3, none⟩ = some (.int .i64 tk.c) := by unfold World.cell?; rw [HT8.out]; rfl
 have k4 : w8.cell? ⟨T, 4, none⟩ = some (.slice sa tk.set.length sq) := by unfold World.cell?; rw [HT8.out]; rfl
 have k5 : w8.cell? ⟨T, 5, none⟩ = some (.bool tk.neg) := by unfold World.cell?; rw [HT8.out]; rfl
 have k6 : w8.cell? ⟨T, 6, none⟩ = some (.int .i64 tk.n) := by unfold World.cell?; rw [HT8.out]; rfl
 have k7 : w8.cell? ⟨T, 7, none⟩ = some (.int .i64 tk.m) := by unfold World.cell?; rw [HT8.out]; rfl
 have k8 : w8.cell? ⟨T, 8, none⟩ = some (.int .i64 tk.mode) := by unfold World.cell?; rw [HT8.out]; rfl
 have k9 : w8.cell? ⟨T, 9, none⟩ = some (.string tk.name) := by unfold World.cell?; rw [HT8.out]; rfl
 have k10 : w8.cell? ⟨T, 10, none⟩ = some (.int .i64 tk.on) := by unfold World.cell?; rw [HT8.out]; rfl
 have k11 : w8.cell? ⟨T, 11, none⟩ = some (.int .i64 tk.off) := by unfold World.cell?; rw [HT8.out]; rfl
 by_cases hk10 : tk.kind ≠ 10
 ·have HR := xH (HR0.out.trans (if_pos hk10));have b10 : (tk.kind != 10) = true := by simpa using hk10
  have hin := HOk8.out.k.n;have hwr : IntKind.i64.wrap ((s.i : Int) + 1) = (s.i : Int) + 1 := by rw [IntKind.wrap_i64]; omega
  obtain ⟨_, p1, _, _, _, g1, _⟩ := ps_c HOk8.out.p;have HP9 := xH (ps_set HOk8.out.p 1 (.int .i64 ((s.i : Int) + 1)) (s' := { s with i := s.i + 1 }) rfl);have HKS := xH ((Kept.refl w8.heap.size P w8).setCell 1 (.int .i64 ((s.i : Int) + 1)));have HOk9 := xH (HOk8.out.step HP9.out HKS.out (inv_step hi HOk8.out.op));have HK9 := xH (HK8.out.then HKS.out);have HV9 := xH (HV8.out.kept HKS.out hlt);have HT9 := xH ((HKS.out.block T (by
   have hh := HT8.out;apply Classical.byContradiction;intro hn;rw [Array.getElem?_eq_none (by omega)] at hh;cases hh) (by omega)).trans HT8.out)
  have HN9 := xH (leaf_at (t := tk) (sv := .slice sa tk.set.length sq) HOk9.out.k htm (rgAt_mono (qU fun a u h1 hc => by have hl := cell_lt hc;simp only [mid, Bool.and_eq_false_iff, Bool.or_eq_false_iff, decide_eq_false_iff_not] at h1;exact ⟨by simp only [mid, Bool.and_eq_false_iff, Bool.or_eq_false_iff, decide_eq_false_iff_not]; omega, (World.cell?_of_block (HK9.out.block a.block hl (by omega))).trans hc⟩ : ∀ a u, (vis bl P w.heap.size w).cell? a = some u → (vis bl P (w.heap.size + 1) (w8.setCell ⟨P, 1, none⟩ (.int .i64 ((s.i : Int) + 1)))).cell? a = some u) HRG.out))
  clear HR0 HP9 HOk8 HK8 HV8 HT8 HKS;go_upto_region 4 with (fail)
  clear k0 k1 k2 k3 k4 k5 k6 k7 k8 k9 k10 k11 p1 g1;generalize w8.setCell ⟨P, 1, none⟩ (.int .i64 ((s.i : Int) + 1)) = w9 at *;have k0 : w9.cell? ⟨T, 0, none⟩ = some (.int .i64 tk.kind) := by unfold World.cell?; rw [HT9.out]; rfl
  have k1 : w9.cell? ⟨T, 1, none⟩ = some (.int .i64 (tk.at_ : Int)) := by unfold World.cell?; rw [HT9.out]; rfl
  have k2 : w9.cell? ⟨T, 2, none⟩ = some (.int .i64 (tk.to : Int)) := by unfold World.cell?; rw [HT9.out]; rfl
  have k3 : w9.cell? ⟨T, 3, none⟩ = some (.int .i64 tk.c) := by unfold World.cell?; rw [HT9.out]; rfl
  have k4 : w9.cell? ⟨T, 4, none⟩ = some (.slice sa tk.set.length sq) := by unfold World.cell?; rw [HT9.out]; rfl
  have k5 : w9.cell? ⟨T, 5, none⟩ = some (.bool tk.neg) := by unfold World.cell?; rw [HT9.out]; rfl
  have k6 : w9.cell? ⟨T, 6, none⟩ = some (.int .i64 tk.n) := by unfold World.cell?; rw [HT9.out]; rfl
  have k7 : w9.cell? ⟨T, 7, none⟩ = some (.int .i64 tk.m) := by unfold World.cell?; rw [HT9.out]; rfl
  have k8 : w9.cell? ⟨T, 8, none⟩ = some (.int .i64 tk.mode) := by unfold World.cell?; rw [HT9.out]; rfl
  have k9 : w9.cell? ⟨T, 9, none⟩ = some (.string tk.name) := by unfold World.cell?; rw [HT9.out]; rfl
  have k10 : w9.cell? ⟨T, 10, none⟩ = some (.int .i64 tk.on) := by unfold World.cell?; rw [HT9.out]; rfl
  have k11 : w9.cell? ⟨T, 11, none⟩ = some (.int .i64 tk.off) := by unfold World.cell?; rw [HT9.out]; rfl
  have hsz9 : w.heap.size + 1 ≤ w9.heap.size := HV9.out.lt;have hb10 : Below w9.heap.size w9 (w9.alloc (.cells #[.int .i64 0, .int .i64 (tk.at_ : Int), .int .i64 tk.c, .slice sa tk.set.length sq, .bool tk.neg, .int .i64 tk.n, .int .i64 tk.m, .int .i64 0, .string tk.name, .int .i64 tk.on, .int .i64 tk.off, .slice none 0 0] 27)) := qg w9 _;have HG10 := xH (heap_alloc_new w9 (.cells #[.int .i64 0, .int .i64 (tk.at_ : Int), .int .i64 tk.c, .slice sa tk.set.length sq, .bool tk.neg, .int .i64 tk.n, .int .i64 tk.m, .int .i64 0, .string tk.name, .int .i64 tk.on, .int .i64 tk.off, .slice none 0 0] 27));have HP10 := xH (jE HOk9.out.p hb10);have HK10 := xH (HK9.out.then (Kept.of_below hb10));have HV10 := xH (HV9.out.kept (Kept.of_below (L := P) hb10) hlt);have HN10 := xH (zl (Kept.of_below (L := P) hb10) (show P < w.heap.size + 1 by omega) (Nat.le_refl _) HN9.out);have HT10 := xH ((hb10.block T (by
   have hh := HT9.out;apply Classical.byContradiction;intro hn;rw [Array.getElem?_eq_none (by omega)] at hh;cases hh)).trans HT9.out)
  have m0 : (w9.alloc (.cells #[.int .i64 0, .int .i64 (tk.at_ : Int), .int .i64 tk.c, .slice sa tk.set.length sq, .bool tk.neg, .int .i64 tk.n, .int .i64 tk.m, .int .i64 0, .string tk.name, .int .i64 tk.on, .int .i64 tk.off, .slice none 0 0] 27)).cell? ⟨T, 0, none⟩ = some (.int .i64 tk.kind) := by unfold World.cell?; rw [HT10.out]; rfl
  have z0 : (w9.alloc (.cells #[.int .i64 0, .int .i64 (tk.at_ : Int), .int .i64 tk.c, .slice sa tk.set.length sq, .bool tk.neg, .int .i64 tk.n, .int .i64 tk.m, .int .i64 0, .string tk.name, .int .i64 tk.on, .int .i64 tk.off, .slice none 0 0] 27)).cell? ⟨w9.heap.size, 0, none⟩ = some (.int .i64 0) := by unfold World.cell?; rw [HG10.out]; rfl
  have y0 : (w9.alloc (.cells #[.int .i64 0, .int .i64 (tk.at_ : Int), .int .i64 tk.c, .slice sa tk.set.length sq, .bool tk.neg, .int .i64 tk.n, .int .i64 tk.m, .int .i64 0, .string tk.name, .int .i64 tk.on, .int .i64 tk.off, .slice none 0 0] 27)).frozen? ⟨w9.heap.size, 0, none⟩ = false := by unfold World.frozen?; rw [HG10.out]; rfl
  have HKX := xH (Kept.of_below (L := P) hb10);clear hb10 HT9 HK9 HV9 HN10;go_upto_region 7 with (fail)
  generalize w9.alloc (.cells #[.int .i64 0, .int .i64 (tk.at_ : Int), .int .i64 tk.c, .slice sa tk.set.length sq, .bool tk.neg, .int .i64 tk.n, .int .i64 tk.m, .int .i64 0, .string tk.name, .int .i64 tk.on, .int .i64 tk.off, .slice none 0 0] 27) = w10 at *;clear k0 k1 k2 k3 k4 k5 k6 k7 k8 k9 k10 k11;by_cases e1 : tk.kind = 1
  ·have b1 : (tk.kind == 1) = true := by simp [e1]
   have hk : leafK tk.kind = 1 := by unfold leafK; simp [e1]
   have HG11 := xH (show (w10.setCell ⟨w9.heap.size, 0, none⟩ (.int .i64 1)).heap[w9.heap.size]? = some (.cells (ndC (leafL tk (.slice sa tk.set.length sq))).toArray 27 (0, 0)) from by show _ = some (Obj.cells #[.int .i64 (leafK tk.kind), .int .i64 (tk.at_ : Int), .int .i64 tk.c, .slice sa tk.set.length sq, .bool tk.neg, .int .i64 tk.n, .int .i64 tk.m, .int .i64 0, .string tk.name, .int .i64 tk.on, .int .i64 tk.off, .slice none 0 0] 27 (0, 0));rw [hk];exact tkw.heap_set (o := 0) (v := .int .i64 1) HG10.out)
   have HK11 := xH (qP HK10.out (show w.heap.size ≤ w9.heap.size by omega) 0 (.int .i64 1));have HP11 := xH (show PsAt (w10.setCell ⟨w9.heap.size, 0, none⟩ (.int .i64 1)) P _ { s with i := s.i + 1 } from (qx 0 (.int .i64 1) (show P ≠ w9.heap.size by omega)).trans HP10.out);have HN11 := xH (zl (qP HKX.out (Nat.le_refl _) 0 (.int .i64 1)) (show P < w.heap.size + 1 by omega) (Nat.le_refl _) HN9.out);obtain ⟨old, hg, hz⟩ := HV10.out;have HGR := xH ((qx 0 (.int .i64 1) (show w.heap.size ≠ w9.heap.size by omega)).trans hg);have H1 := xH (qp HN11.out);clear hg HG10 HK10 HP10 HV10 HKX HN9 hk HT10;go_upto_region 27 with (fail)
   clear z0 y0 m0;generalize w10.setCell ⟨w9.heap.size, 0, none⟩ (.int .i64 1) = w11 at *;go_wp2_with (first
    | (refine ql rfl _ rfl w9.heap.size rfl (leafL tk (.slice sa tk.set.length sq)) HG11.out ?_)
    | (refine qh rfl rfl _ _ rfl w.heap.size rfl _ (leafL tk (.slice sa tk.set.length sq)) HGR.out hz H1.out rfl ?_))
   refine bodyPost_ret (qA rfl _ _ w.heap.size (leafL tk (.slice sa tk.set.length sq)) rfl (setRow_heap _ _ _ _ _ _ HGR.out)) rfl ?_;exact run_end (t := ((leafL tk (.slice sa tk.set.length sq)), .nil)) hlt HN11.out (by rw [HR.out]; rfl) HP11.out (by rw [HR.out]) HK11.out
  have b1 : (tk.kind == 1) = false := by simp [e1]
  by_cases e2 : tk.kind = 2
  ·have b2 : (tk.kind == 2) = true := by simp [e2]
   have hk : leafK tk.kind = 2 := by unfold leafK; simp [e2]
   have HG11 := xH (show (w10.setCell ⟨w9.heap.size, 0, none⟩ (.int .i64 2)).heap[w9.heap.size]? = some (.cells (ndC (leafL tk (.slice sa tk.set.length sq))).toArray 27 (0, 0)) from by show _ = some (Obj.cells #[.int .i64 (leafK tk.kind), .int .i64 (tk.at_ : Int), .int .i64 tk.c, .slice sa tk.set.length sq, .bool tk.neg, .int .i64 tk.n, .int .i64 tk.m, .int .i64 0, .string tk.name, .int .i64 tk.on, .int .i64 tk.off, .slice none 0 0] 27 (0, 0));rw [hk];exact tkw.heap_set (o := 0) (v := .int .i64 2) HG10.out)
   have HK11 := xH (qP HK10.out (show w.heap.size ≤ w9.heap.size by omega) 0 (.int .i64 2));have HP11 := xH (show PsAt (w10.setCell ⟨w9.heap.size, 0, none⟩ (.int .i64 2)) P _ { s with i := s.i + 1 } from (qx 0 (.int .i64 2) (show P ≠ w9.heap.size by omega)).trans HP10.out);have HN11 := xH (zl (qP HKX.out (Nat.le_refl _) 0 (.int .i64 2)) (show P < w.heap.size + 1 by omega) (Nat.le_refl _) HN9.out);obtain ⟨old, hg, hz⟩ := HV10.out;have HGR := xH ((qx 0 (.int .i64 2) (show w.heap.size ≠ w9.heap.size by omega)).trans hg);have H1 := xH (qp HN11.out);clear hg HG10 HK10 HP10 HV10 HKX HN9 hk HT10;go_upto_region 27 with (fail)
   clear z0 y0 m0;generalize w10.setCell ⟨w9.heap.size, 0, none⟩ (.int .i64 2) = w11 at *;go_wp2_with (first
    | (refine ql rfl _ rfl w9.heap.size rfl (leafL tk (.slice sa tk.set.length sq)) HG11.out ?_)
    | (refine qh rfl rfl _ _ rfl w.heap.size rfl _ (leafL tk (.slice sa tk.set.length sq)) HGR.out hz H1.out rfl ?_))
   refine bodyPost_ret (qA rfl _ _ w.heap.size (leafL tk (.slice sa tk.set.length sq)) rfl (setRow_heap _ _ _ _ _ _ HGR.out)) rfl ?_;exact run_end (t := ((leafL tk (.slice sa tk.set.length sq)), .nil)) hlt HN11.out (by rw [HR.out]; rfl) HP11.out (by rw [HR.out]) HK11.out
  have b2 : (tk.kind == 2) = false := by simp [e2]
  by_cases e3 : tk.kind = 3
  ·have b3 : (tk.kind == 3) = true := by simp [e3]
   have hk : leafK tk.kind = 3 := by unfold leafK; simp [e3]
   have HG11 := xH (show (w10.setCell ⟨w9.heap.size, 0, none⟩ (.int .i64 3)).heap[w9.heap.size]? = some (.cells (ndC (leafL tk (.slice sa tk.set.length sq))).toArray 27 (0, 0)) from by show _ = some (Obj.cells #[.int .i64 (leafK tk.kind), .int .i64 (tk.at_ : Int), .int .i64 tk.c, .slice sa tk.set.length sq, .bool tk.neg, .int .i64 tk.n, .int .i64 tk.m, .int .i64 0, .string tk.name, .int .i64 tk.on, .int .i64 tk.off, .slice none 0 0] 27 (0, 0));rw [hk];exact tkw.heap_set (o := 0) (v := .int .i64 3) HG10.out)
   have HK11 := xH (qP HK10.out (show w.heap.size ≤ w9.heap.size by omega) 0 (.int .i64 3));have HP11 := xH (show PsAt (w10.setCell ⟨w9.heap.size, 0, none⟩ (.int .i64 3)) P _ { s with i := s.i + 1 } from (qx 0 (.int .i64 3) (show P ≠ w9.heap.size by omega)).trans HP10.out);have HN11 := xH (zl (qP HKX.out (Nat.le_refl _) 0 (.int .i64 3)) (show P < w.heap.size + 1 by omega) (Nat.le_refl _) HN9.out);obtain ⟨old, hg, hz⟩ := HV10.out;have HGR := xH ((qx 0 (.int .i64 3) (show w.heap.size ≠ w9.heap.size by omega)).trans hg);have H1 := xH (qp HN11.out);clear hg HG10 HK10 HP10 HV10 HKX HN9 hk HT10;go_upto_region 27 with (fail)
   clear z0 y0 m0;generalize w10.setCell ⟨w9.heap.size, 0, none⟩ (.int .i64 3) = w11 at *;go_wp2_with (first
    | (refine ql rfl _ rfl w9.heap.size rfl (leafL tk (.slice sa tk.set.length sq)) HG11.out ?_)
    | (refine qh rfl rfl _ _ rfl w.heap.size rfl _ (leafL tk (.slice sa tk.set.length sq)) HGR.out hz H1.out rfl ?_))
   refine bodyPost_ret (qA rfl _ _ w.heap.size (leafL tk (.slice sa tk.set.length sq)) rfl (setRow_heap _ _ _ _ _ _ HGR.out)) rfl ?_;exact run_end (t := ((leafL tk (.slice sa tk.set.length sq)), .nil)) hlt HN11.out (by rw [HR.out]; rfl) HP11.out (by rw [HR.out]) HK11.out
  have b3 : (tk.kind == 3) = false := by simp [e3]
  by_cases e4 : tk.kind = 4
  ·have b4 : (tk.kind == 4) = true := by simp [e4]
   have hk : leafK tk.kind = 4 := by unfold leafK; simp [e4]
   have HG11 := xH (show (w10.setCell ⟨w9.heap.size, 0, none⟩ (.int .i64 4)).heap[w9.heap.size]? = some (.cells (ndC (leafL tk (.slice sa tk.set.length sq))).toArray 27 (0, 0)) from by show _ = some (Obj.cells #[.int .i64 (leafK tk.kind), .int .i64 (tk.at_ : Int), .int .i64 tk.c, .slice sa tk.set.length sq, .bool tk.neg, .int .i64 tk.n, .int .i64 tk.m, .int .i64 0, .string tk.name, .int .i64 tk.on, .int .i64 tk.off, .slice none 0 0] 27 (0, 0));rw [hk];exact tkw.heap_set (o := 0) (v := .int .i64 4) HG10.out)
   have HK11 := xH (qP HK10.out (show w.heap.size ≤ w9.heap.size by omega) 0 (.int .i64 4));have HP11 := xH (show PsAt (w10.setCell ⟨w9.heap.size, 0, none⟩ (.int .i64 4)) P _ { s with i := s.i + 1 } from (qx 0 (.int .i64 4) (show P ≠ w9.heap.size by omega)).trans HP10.out);have HN11 := xH (zl (qP HKX.out (Nat.le_refl _) 0 (.int .i64 4)) (show P < w.heap.size + 1 by omega) (Nat.le_refl _) HN9.out);obtain ⟨old, hg, hz⟩ := HV10.out;have HGR := xH ((qx 0 (.int .i64 4) (show w.heap.size ≠ w9.heap.size by omega)).trans hg);have H1 := xH (qp HN11.out);clear hg HG10 HK10 HP10 HV10 HKX HN9 hk HT10;go_upto_region 27 with (fail)
   clear z0 y0 m0;generalize w10.setCell ⟨w9.heap.size, 0, none⟩ (.int .i64 4) = w11 at *;go_wp2_with (first
    | (refine ql rfl _ rfl w9.heap.size rfl (leafL tk (.slice sa tk.set.length sq)) HG11.out ?_)
    | (refine qh rfl rfl _ _ rfl w.heap.size rfl _ (leafL tk (.slice sa tk.set.length sq)) HGR.out hz H1.out rfl ?_))
   refine bodyPost_ret (qA rfl _ _ w.heap.size (leafL tk (.slice sa tk.set.length sq)) rfl (setRow_heap _ _ _ _ _ _ HGR.out)) rfl ?_;exact run_end (t := ((leafL tk (.slice sa tk.set.length sq)), .nil)) hlt HN11.out (by rw [HR.out]; rfl) HP11.out (by rw [HR.out]) HK11.out
  have b4 : (tk.kind == 4) = false := by simp [e4]
  by_cases e5 : tk.kind = 5
  ·have b5 : (tk.kind == 5) = true := by simp [e5]
   have hk : leafK tk.kind = 5 := by unfold leafK; simp [e5]
   have HG11 := xH (show (w10.setCell ⟨w9.heap.size, 0, none⟩ (.int .i64 5)).heap[w9.heap.size]? = some (.cells (ndC (leafL tk (.slice sa tk.set.length sq))).toArray 27 (0, 0)) from by show _ = some (Obj.cells #[.int .i64 (leafK tk.kind), .int .i64 (tk.at_ : Int), .int .i64 tk.c, .slice sa tk.set.length sq, .bool tk.neg, .int .i64 tk.n, .int .i64 tk.m, .int .i64 0, .string tk.name, .int .i64 tk.on, .int .i64 tk.off, .slice none 0 0] 27 (0, 0));rw [hk];exact tkw.heap_set (o := 0) (v := .int .i64 5) HG10.out)
   have HK11 := xH (qP HK10.out (show w.heap.size ≤ w9.heap.size by omega) 0 (.int .i64 5));have HP11 := xH (show PsAt (w10.setCell ⟨w9.heap.size, 0, none⟩ (.int .i64 5)) P _ { s with i := s.i + 1 } from (qx 0 (.int .i64 5) (show P ≠ w9.heap.size by omega)).trans HP10.out);have HN11 := xH (zl (qP HKX.out (Nat.le_refl _) 0 (.int .i64 5)) (show P < w.heap.size + 1 by omega) (Nat.le_refl _) HN9.out);obtain ⟨old, hg, hz⟩ := HV10.out;have HGR := xH ((qx 0 (.int .i64 5) (show w.heap.size ≠ w9.heap.size by omega)).trans hg);have H1 := xH (qp HN11.out);clear hg HG10 HK10 HP10 HV10 HKX HN9 hk HT10;go_upto_region 27 with (fail)
   clear z0 y0 m0;generalize w10.setCell ⟨w9.heap.size, 0, none⟩ (.int .i64 5) = w11 at *;go_wp2_with (first
    | (refine ql rfl _ rfl w9.heap.size rfl (leafL tk (.slice sa tk.set.length sq)) HG11.out ?_)
    | (refine qh rfl rfl _ _ rfl w.heap.size rfl _ (leafL tk (.slice sa tk.set.length sq)) HGR.out hz H1.out rfl ?_))
   refine bodyPost_ret (qA rfl _ _ w.heap.size (leafL tk (.slice sa tk.set.length sq)) rfl (setRow_heap _ _ _ _ _ _ HGR.out)) rfl ?_;exact run_end (t := ((leafL tk (.slice sa tk.set.length sq)), .nil)) hlt HN11.out (by rw [HR.out]; rfl) HP11.out (by rw [HR.out]) HK11.out
  have b5 : (tk.kind == 5) = false := by simp [e5]
  by_cases e6 : tk.kind = 6
  ·have b6 : (tk.kind == 6) = true := by simp [e6]
   have hk : leafK tk.kind = 6 := by unfold leafK; simp [e6]
   have HG11 := xH (show (w10.setCell ⟨w9.heap.size, 0, none⟩ (.int .i64 6)).heap[w9.heap.size]? = some (.cells (ndC (leafL tk (.slice sa tk.set.length sq))).toArray 27 (0, 0)) from by show _ = some (Obj.cells #[.int .i64 (leafK tk.kind), .int .i64 (tk.at_ : Int), .int .i64 tk.c, .slice sa tk.set.length sq, .bool tk.neg, .int .i64 tk.n, .int .i64 tk.m, .int .i64 0, .string tk.name, .int .i64 tk.on, .int .i64 tk.off, .slice none 0 0] 27 (0, 0));rw [hk];exact tkw.heap_set (o := 0) (v := .int .i64 6) HG10.out)
   have HK11 := xH (qP HK10.out (show w.heap.size ≤ w9.heap.size by omega) 0 (.int .i64 6));have HP11 := xH (show PsAt (w10.setCell ⟨w9.heap.size, 0, none⟩ (.int .i64 6)) P _ { s with i := s.i + 1 } from (qx 0 (.int .i64 6) (show P ≠ w9.heap.size by omega)).trans HP10.out);have HN11 := xH (zl (qP HKX.out (Nat.le_refl _) 0 (.int .i64 6)) (show P < w.heap.size + 1 by omega) (Nat.le_refl _) HN9.out);obtain ⟨old, hg, hz⟩ := HV10.out;have HGR := xH ((qx 0 (.int .i64 6) (show w.heap.size ≠ w9.heap.size by omega)).trans hg);have H1 := xH (qp HN11.out);clear hg HG10 HK10 HP10 HV10 HKX HN9 hk HT10;go_upto_region 27 with (fail)
   clear z0 y0 m0;generalize w10.setCell ⟨w9.heap.size, 0, none⟩ (.int .i64 6) = w11 at *;go_wp2_with (first
    | (refine ql rfl _ rfl w9.heap.size rfl (leafL tk (.slice sa tk.set.length sq)) HG11.out ?_)
    | (refine qh rfl rfl _ _ rfl w.heap.size rfl _ (leafL tk (.slice sa tk.set.length sq)) HGR.out hz H1.out rfl ?_))
   refine bodyPost_ret (qA rfl _ _ w.heap.size (leafL tk (.slice sa tk.set.length sq)) rfl (setRow_heap _ _ _ _ _ _ HGR.out)) rfl ?_;exact run_end (t := ((leafL tk (.slice sa tk.set.length sq)), .nil)) hlt HN11.out (by rw [HR.out]; rfl) HP11.out (by rw [HR.out]) HK11.out
  have b6 : (tk.kind == 6) = false := by simp [e6]
  by_cases e11 : tk.kind = 11
  ·have b11 : (tk.kind == 11) = true := by simp [e11]
   have hk : leafK tk.kind = 7 := by unfold leafK; simp [e11]
   have HG11 := xH (show (w10.setCell ⟨w9.heap.size, 0, none⟩ (.int .i64 7)).heap[w9.heap.size]? = some (.cells (ndC (leafL tk (.slice sa tk.set.length sq))).toArray 27 (0, 0)) from by show _ = some (Obj.cells #[.int .i64 (leafK tk.kind), .int .i64 (tk.at_ : Int), .int .i64 tk.c, .slice sa tk.set.length sq, .bool tk.neg, .int .i64 tk.n, .int .i64 tk.m, .int .i64 0, .string tk.name, .int .i64 tk.on, .int .i64 tk.off, .slice none 0 0] 27 (0, 0));rw [hk];exact tkw.heap_set (o := 0) (v := .int .i64 7) HG10.out)
   have HK11 := xH (qP HK10.out (show w.heap.size ≤ w9.heap.size by omega) 0 (.int .i64 7));have HP11 := xH (show PsAt (w10.setCell ⟨w9.heap.size, 0, none⟩ (.int .i64 7)) P _ { s with i := s.i + 1 } from (qx 0 (.int .i64 7) (show P ≠ w9.heap.size by omega)).trans HP10.out);have HN11 := xH (zl (qP HKX.out (Nat.le_refl _) 0 (.int .i64 7)) (show P < w.heap.size + 1 by omega) (Nat.le_refl _) HN9.out);obtain ⟨old, hg, hz⟩ := HV10.out;have HGR := xH ((qx 0 (.int .i64 7) (show w.heap.size ≠ w9.heap.size by omega)).trans hg);have H1 := xH (qp HN11.out);clear hg HG10 HK10 HP10 HV10 HKX HN9 hk HT10;go_upto_region 27 with (fail)
   clear z0 y0 m0;generalize w10.setCell ⟨w9.heap.size, 0, none⟩ (.int .i64 7) = w11 at *;go_wp2_with (first
    | (refine ql rfl _ rfl w9.heap.size rfl (leafL tk (.slice sa tk.set.length sq)) HG11.out ?_)
    | (refine qh rfl rfl _ _ rfl w.heap.size rfl _ (leafL tk (.slice sa tk.set.length sq)) HGR.out hz H1.out rfl ?_))
   refine bodyPost_ret (qA rfl _ _ w.heap.size (leafL tk (.slice sa tk.set.length sq)) rfl (setRow_heap _ _ _ _ _ _ HGR.out)) rfl ?_;exact run_end (t := ((leafL tk (.slice sa tk.set.length sq)), .nil)) hlt HN11.out (by rw [HR.out]; rfl) HP11.out (by rw [HR.out]) HK11.out
  have b11 : (tk.kind == 11) = false := by simp [e11]
  by_cases e12 : tk.kind = 12
  ·have b12 : (tk.kind == 12) = true := by simp [e12]
   have hk : leafK tk.kind = 8 := by unfold leafK; simp [e12]
   have HG11 := xH (show (w10.setCell ⟨w9.heap.size, 0, none⟩ (.int .i64 8)).heap[w9.heap.size]? = some (.cells (ndC (leafL tk (.slice sa tk.set.length sq))).toArray 27 (0, 0)) from by show _ = some (Obj.cells #[.int .i64 (leafK tk.kind), .int .i64 (tk.at_ : Int), .int .i64 tk.c, .slice sa tk.set.length sq, .bool tk.neg, .int .i64 tk.n, .int .i64 tk.m, .int .i64 0, .string tk.name, .int .i64 tk.on, .int .i64 tk.off, .slice none 0 0] 27 (0, 0));rw [hk];exact tkw.heap_set (o := 0) (v := .int .i64 8) HG10.out)
   have HK11 := xH (qP HK10.out (show w.heap.size ≤ w9.heap.size by omega) 0 (.int .i64 8));have HP11 := xH (show PsAt (w10.setCell ⟨w9.heap.size, 0, none⟩ (.int .i64 8)) P _ { s with i := s.i + 1 } from (qx 0 (.int .i64 8) (show P ≠ w9.heap.size by omega)).trans HP10.out);have HN11 := xH (zl (qP HKX.out (Nat.le_refl _) 0 (.int .i64 8)) (show P < w.heap.size + 1 by omega) (Nat.le_refl _) HN9.out);obtain ⟨old, hg, hz⟩ := HV10.out;have HGR := xH ((qx 0 (.int .i64 8) (show w.heap.size ≠ w9.heap.size by omega)).trans hg);have H1 := xH (qp HN11.out);clear hg HG10 HK10 HP10 HV10 HKX HN9 hk HT10;go_upto_region 27 with (fail)
   clear z0 y0 m0;generalize w10.setCell ⟨w9.heap.size, 0, none⟩ (.int .i64 8) = w11 at *;go_wp2_with (first
    | (refine ql rfl _ rfl w9.heap.size rfl (leafL tk (.slice sa tk.set.length sq)) HG11.out ?_)
    | (refine qh rfl rfl _ _ rfl w.heap.size rfl _ (leafL tk (.slice sa tk.set.length sq)) HGR.out hz H1.out rfl ?_))
   refine bodyPost_ret (qA rfl _ _ w.heap.size (leafL tk (.slice sa tk.set.length sq)) rfl (setRow_heap _ _ _ _ _ _ HGR.out)) rfl ?_;exact run_end (t := ((leafL tk (.slice sa tk.set.length sq)), .nil)) hlt HN11.out (by rw [HR.out]; rfl) HP11.out (by rw [HR.out]) HK11.out
  have b12 : (tk.kind == 12) = false := by simp [e12]
  by_cases e13 : tk.kind = 13
  ·have b13 : (tk.kind == 13) = true := by simp [e13]
   have hk : leafK tk.kind = 9 := by unfold leafK; simp [e13]
   have HG11 := xH (show (w10.setCell ⟨w9.heap.size, 0, none⟩ (.int .i64 9)).heap[w9.heap.size]? = some (.cells (ndC (leafL tk (.slice sa tk.set.length sq))).toArray 27 (0, 0)) from by show _ = some (Obj.cells #[.int .i64 (leafK tk.kind), .int .i64 (tk.at_ : Int), .int .i64 tk.c, .slice sa tk.set.length sq, .bool tk.neg, .int .i64 tk.n, .int .i64 tk.m, .int .i64 0, .string tk.name, .int .i64 tk.on, .int .i64 tk.off, .slice none 0 0] 27 (0, 0));rw [hk];exact tkw.heap_set (o := 0) (v := .int .i64 9) HG10.out)
   have HK11 := xH (qP HK10.out (show w.heap.size ≤ w9.heap.size by omega) 0 (.int .i64 9));have HP11 := xH (show PsAt (w10.setCell ⟨w9.heap.size, 0, none⟩ (.int .i64 9)) P _ { s with i := s.i + 1 } from (qx 0 (.int .i64 9) (show P ≠ w9.heap.size by omega)).trans HP10.out);have HN11 := xH (zl (qP HKX.out (Nat.le_refl _) 0 (.int .i64 9)) (show P < w.heap.size + 1 by omega) (Nat.le_refl _) HN9.out);obtain ⟨old, hg, hz⟩ := HV10.out;have HGR := xH ((qx 0 (.int .i64 9) (show w.heap.size ≠ w9.heap.size by omega)).trans hg);have H1 := xH (qp HN11.out);clear hg HG10 HK10 HP10 HV10 HKX HN9 hk HT10;go_upto_region 27 with (fail)
   clear z0 y0 m0;generalize w10.setCell ⟨w9.heap.size, 0, none⟩ (.int .i64 9) = w11 at *;go_wp2_with (first
    | (refine ql rfl _ rfl w9.heap.size rfl (leafL tk (.slice sa tk.set.length sq)) HG11.out ?_)
    | (refine qh rfl rfl _ _ rfl w.heap.size rfl _ (leafL tk (.slice sa tk.set.length sq)) HGR.out hz H1.out rfl ?_))
   refine bodyPost_ret (qA rfl _ _ w.heap.size (leafL tk (.slice sa tk.set.length sq)) rfl (setRow_heap _ _ _ _ _ _ HGR.out)) rfl ?_;exact run_end (t := ((leafL tk (.slice sa tk.set.length sq)), .nil)) hlt HN11.out (by rw [HR.out]; rfl) HP11.out (by rw [HR.out]) HK11.out
  have b13 : (tk.kind == 13) = false := by simp [e13]
  by_cases e14 : tk.kind = 14
  ·have b14 : (tk.kind == 14) = true := by simp [e14]
   have hk : leafK tk.kind = 10 := by unfold leafK; simp [e14]
   have HG11 := xH (show (w10.setCell ⟨w9.heap.size, 0, none⟩ (.int .i64 10)).heap[w9.heap.size]? = some (.cells (ndC (leafL tk (.slice sa tk.set.length sq))).toArray 27 (0, 0)) from by show _ = some (Obj.cells #[.int .i64 (leafK tk.kind), .int .i64 (tk.at_ : Int), .int .i64 tk.c, .slice sa tk.set.length sq, .bool tk.neg, .int .i64 tk.n, .int .i64 tk.m, .int .i64 0, .string tk.name, .int .i64 tk.on, .int .i64 tk.off, .slice none 0 0] 27 (0, 0));rw [hk];exact tkw.heap_set (o := 0) (v := .int .i64 10) HG10.out)
   have HK11 := xH (qP HK10.out (show w.heap.size ≤ w9.heap.size by omega) 0 (.int .i64 10));have HP11 := xH (show PsAt (w10.setCell ⟨w9.heap.size, 0, none⟩ (.int .i64 10)) P _ { s with i := s.i + 1 } from (qx 0 (.int .i64 10) (show P ≠ w9.heap.size by omega)).trans HP10.out);have HN11 := xH (zl (qP HKX.out (Nat.le_refl _) 0 (.int .i64 10)) (show P < w.heap.size + 1 by omega) (Nat.le_refl _) HN9.out);obtain ⟨old, hg, hz⟩ := HV10.out;have HGR := xH ((qx 0 (.int .i64 10) (show w.heap.size ≠ w9.heap.size by omega)).trans hg);have H1 := xH (qp HN11.out);clear hg HG10 HK10 HP10 HV10 HKX HN9 hk HT10;go_upto_region 27 with (fail)
   clear z0 y0 m0;generalize w10.setCell ⟨w9.heap.size, 0, none⟩ (.int .i64 10) = w11 at *;go_wp2_with (first
    | (refine ql rfl _ rfl w9.heap.size rfl (leafL tk (.slice sa tk.set.length sq)) HG11.out ?_)
    | (refine qh rfl rfl _ _ rfl w.heap.size rfl _ (leafL tk (.slice sa tk.set.length sq)) HGR.out hz H1.out rfl ?_))
   refine bodyPost_ret (qA rfl _ _ w.heap.size (leafL tk (.slice sa tk.set.length sq)) rfl (setRow_heap _ _ _ _ _ _ HGR.out)) rfl ?_;exact run_end (t := ((leafL tk (.slice sa tk.set.length sq)), .nil)) hlt HN11.out (by rw [HR.out]; rfl) HP11.out (by rw [HR.out]) HK11.out
  have b14 : (tk.kind == 14) = false := by simp [e14]
  have hk : leafK tk.kind = 11 := by unfold leafK; simp [e1, e2, e3, e4, e5, e6, e11, e12, e13, e14]
  have HG11 := xH (show (w10.setCell ⟨w9.heap.size, 0, none⟩ (.int .i64 11)).heap[w9.heap.size]? = some (.cells (ndC (leafL tk (.slice sa tk.set.length sq))).toArray 27 (0, 0)) from by show _ = some (Obj.cells #[.int .i64 (leafK tk.kind), .int .i64 (tk.at_ : Int), .int .i64 tk.c, .slice sa tk.set.length sq, .bool tk.neg, .int .i64 tk.n, .int .i64 tk.m, .int .i64 0, .string tk.name, .int .i64 tk.on, .int .i64 tk.off, .slice none 0 0] 27 (0, 0));rw [hk];exact tkw.heap_set (o := 0) (v := .int .i64 11) HG10.out)
  have HK11 := xH (qP HK10.out (show w.heap.size ≤ w9.heap.size by omega) 0 (.int .i64 11));have HP11 := xH (show PsAt (w10.setCell ⟨w9.heap.size, 0, none⟩ (.int .i64 11)) P _ { s with i := s.i + 1 } from (qx 0 (.int .i64 11) (show P ≠ w9.heap.size by omega)).trans HP10.out);have HN11 := xH (zl (qP HKX.out (Nat.le_refl _) 0 (.int .i64 11)) (show P < w.heap.size + 1 by omega) (Nat.le_refl _) HN9.out);obtain ⟨old, hg, hz⟩ := HV10.out;have HGR := xH ((qx 0 (.int .i64 11) (show w.heap.size ≠ w9.heap.size by omega)).trans hg);have H1 := xH (qp HN11.out);clear hg HG10 HK10 HP10 HV10 HKX HN9 hk HT10;go_upto_region 27 with (fail)
  clear z0 y0 m0;generalize w10.setCell ⟨w9.heap.size, 0, none⟩ (.int .i64 11) = w11 at *;go_wp2_with (first
   | (refine ql rfl _ rfl w9.heap.size rfl (leafL tk (.slice sa tk.set.length sq)) HG11.out ?_)
   | (refine qh rfl rfl _ _ rfl w.heap.size rfl _ (leafL tk (.slice sa tk.set.length sq)) HGR.out hz H1.out rfl ?_))
  refine bodyPost_ret (qA rfl _ _ w.heap.size (leafL tk (.slice sa tk.set.length sq)) rfl (setRow_heap _ _ _ _ _ _ HGR.out)) rfl ?_;exact run_end (t := ((leafL tk (.slice sa tk.set.length sq)), .nil)) hlt HN11.out (by rw [HR.out]; rfl) HP11.out (by rw [HR.out]) HK11.out
 have h10 : tk.kind = 10 := Classical.byContradiction hk10;have h40 : s.op = 40 := hkd.resolve_left hk10;have HR := xH ((HR0.out.trans (if_neg hk10)).trans (if_pos h40));have b10 : (tk.kind != 10) = false := by simp [h10]
 have b40 : ((s.op : Int) == 40) = true := by simp [h40]
 obtain ⟨_, _, p2, _⟩ := ps_c HOk8.out.p;clear HR0 hk10 HT8 h10 h40 hkd;go_wp2_with fail
 refine (fail_any P _ s 11 tk.at_ w8 HOk8.out.p).mono ?_;rintro e w9 ⟨rfl, hp9, hk9⟩;obtain ⟨old, hg, hz⟩ := HV8.out.kept hk9 hlt;have HG := xH hg;have HP9 := xH hp9;have HK9 := xH (HK8.out.then hk9);clear hg hp9 hk9;have H1 := xH (qp (zero_at w9));go_wp2_with (refine qh rfl rfl _ _ rfl w.heap.size rfl _ (lab 0 0) HG.out hz H1.out rfl ?_)
 refine bodyPost_ret (qA rfl _ _ w.heap.size (lab 0 0) rfl (setRow_heap _ _ _ _ _ _ HG.out)) rfl ?_;exact run_end (t := (lab 0 0, .nil)) hlt (zero_at _) (by rw [HR.out]; rfl) HP9.out (by rw [HR.out]) HK9.out
end Go.Proofs.YtikjhfmmfpeaoaaGreatDoor.rpw
end
