/- T -/
import Derived.Lib.SlBytesConst
import Derived.Test.YtikjhfmmfpeaoaaGreatDoorBFc27
set_option maxHeartbeats 16000000
set_option maxRecDepth 1000000
section
namespace Go.Proofs.YtikjhfmmfpeaoaaGreatDoor.fll
open sq
open Go Go.RowKit Go.Maps utfw tkp trp trw rpp rsp rtp setw fgp fkw
open rpw (sees jB qh ql qp jm)
open ucdw (Tab3)
open tkw (sg)
theorem okF_strip8 : ∀ {f : F}, OkF f ↔ OkF (strip f)
 | .nil => Iff.rfl
 | .cons x k r => by rw [strip];unfold OkF;rw [okF_strip8 (f := k), okF_strip8 (f := r), jm]
theorem size_strip8 : ∀ f : F, (strip f).size = f.size
 | .nil => rfl
 | .cons x k r => by rw [strip, F.size, F.size, size_strip8 k, size_strip8 r]
theorem both_strip8 (u : Bool) (m : Int) : ∀ (l : F) (f : Int), bothP u m (strip l) f = bothP u m l f
 | .nil, _ => rfl
 | .cons x k r, f => by
  have e : (fun g => bothP u m (strip k) g) = fun g => bothP u m k g := funext fun g => both_strip8 u m k g
  have e1 : (fun g => (bothP u m (strip k) g).1) = fun g => (bothP u m k g).1 := funext fun g => by rw [both_strip8 u m k g]
  have e2 : (fun g => (bothP u m (strip k) g).2) = fun g => (bothP u m k g).2 := funext fun g => by rw [both_strip8 u m k g]
  rw [strip, bothP, bothP, e1, e2];simp only [both_strip8 u m r];rfl
theorem answer_strip8 (x : Lab) (k : F) (o : Int) : answerP (bare x, strip k) o = answerP (x, k) o := by
 unfold answerP;have e1 : ∀ u m, (fun g => (bothP u m (strip k) g).1) = fun g => (bothP u m k g).1 := fun u m => funext fun g => by rw [both_strip8 u m k g]
 have e2 : ∀ u m, (fun g => (bothP u m (strip k) g).2) = fun g => (bothP u m k g).2 := fun u m => funext fun g => by rw [both_strip8 u m k g]
 simp only [e1, e2];rfl
def ansP (t : F) (o : Int) : F := match t with
 | .cons x k _ => answerP (x, k) o
 | .nil => .nil
theorem ans_strip (y : Lab) (j : F) (o : Int) : ansP (strip (F.one y j)) o = answerP (y, j) o := answer_strip8 y j o
theorem sees_none (w : World) {t : Nd} (h : NdAt (sees (fun _ => false) w) t) : NdAt w t := qY (fun _ _ hc => (jB.1 hc).2) h
theorem res8 {g : Nat → Int} {n : Nat} {o : Int} {t : F} (ht : rawP (sg (strOf n g)) n o = some t) {y : Lab} {j : F} (hs : strip (F.one y j) = t) (p : Int) (h : Nat → Bool) (w : World) (hold : rsw.Old h w.heap.size) (hn : NdAt w (y, j)) (hT : Tab3 w) : Calls Tryz.prog 10 #[ndV y, .int .i64 p] w (SelfB h (ansP t p) w) := by
 obtain ⟨h1, h2, -, -⟩ := rawP_ok ht;subst hs;rw [ans_strip];exact fresolve_any h y j p w hold hn (okF_strip8.2 h1) (by
  rw [size_strip8] at h2;simp only [F.one, F.size] at h2;omega) hT
theorem sl_lit8 (w : World) (t : TypeId) (fr : Nat × Nat) (l : List Int) (hl : ∀ x ∈ l, 0 ≤ x ∧ x ≤ 255) (hn : l.length ≤ 140737488355328) : Sl (w.alloc (.cells (l.map (Value.int .u8)).toArray t fr)) (.slice (some ⟨w.heap.size, 0, none⟩) l.length l.length) l.length (at_ l) := by
 refine ⟨fun i => ?_, hn, Or.inr ⟨w.heap.size, 0, l.length, rfl, ⟨Nat.le_refl _, by omega⟩, fun i hi => ?_⟩⟩
 ·unfold at_;by_cases hi : i < l.length
  ·have : l.getD i 0 ∈ l := by rw [show l.getD i 0 = l[i] by simp [List.getD, hi]];exact List.getElem_mem hi
   exact hl _ this
  ·rw [show l.getD i 0 = 0 by simp [List.getD, Nat.not_lt.1 hi]];omega
 ·rw [cell_of_row _ _ _ _ _ _ (heap_alloc_new w _)];simp [at_, List.getD, hi]
theorem raw_lit8 (w : World) (l : List Int) (hl : ∀ x ∈ l, 0 ≤ x ∧ x ≤ 255) (hn : l.length ≤ 140737488355328) (o : Int) : Calls Tryz.prog 9 #[.slice (some ⟨w.heap.size, 0, none⟩) l.length l.length, .int .i64 o] (w.alloc (.cells (l.map (Value.int .u8)).toArray 5 (l.length, l.length + 1)))
 fun e w' => ∃ R, rawP (sg (strOf l.length (at_ l))) l.length o = R ∧ RawB R w e w' := by
 refine (raw_any _ l.length (at_ l) o _ (sl_lit8 w 5 _ l hl hn)).mono ?_;intro e w' h;exact ⟨_, rfl, trw.qi (trw.qg w _) h.1, h.2⟩
def lA : List Int := [97, 40, 63, 105, 41, 98, 124, 99]
def lB : List Int := [40, 63, 85, 41, 97, 42, 63]
def ckA : F → Bool
 | .cons x (.cons _ (.cons p _ (.cons q _ .nil)) (.cons z _ .nil)) .nil => decide (x.kind = 13) && decide (p.set.length = 1) && decide (q.set.length = 2) && decide (z.set.length = 2)
 | _ => false
def ckB : F → Bool
 | .cons x _ .nil => decide (x.kind = 20) && decide (x.mode = 0)
 | _ => false
theorem awk_A8 : (match rawP (sg (strOf 8 (at_ lA))) 8 0 with | some t => ckA (ansP t 0) | none => false) = true := by decide +kernel
theorem awk_B8 : (match rawP (sg (strOf 7 (at_ lB))) 7 0 with | some t => ckB (ansP t 0) | none => false) = true := by decide +kernel
theorem awk_some8 {n : Nat} {l : List Int} {R : F → Bool} (h : (match rawP (sg (strOf n (at_ l))) n 0 with | some t => R t | none => false) = true) : ∃ t, rawP (sg (strOf n (at_ l))) n 0 = some t ∧ R t = true := by
 cases e : rawP (sg (strOf n (at_ l))) n 0 with
 | none => rw [e] at h; cases h
 | some t => rw [e] at h; exact ⟨t, rfl, h⟩
theorem ckA_mem {w : World} {y : Lab} {j : F} (hn : NdAt w (y, j)) (h : ckA (strip (F.one y j)) = true) : y.kind = 13 ∧ ∃ b o c b2 o2 c2 a3 c3 a4 c4 a5 c5, y.kv = .slice (some ⟨b, o, none⟩) 2 c ∧ w.cell? ⟨b, o + 11, none⟩ = some (.slice (some ⟨b2, o2, none⟩) 2 c2) ∧
 w.cell? ⟨b2, o2 + 3, none⟩ = some (.slice a3 1 c3) ∧ w.cell? ⟨b2, o2 + 12 + 3, none⟩ = some (.slice a4 2 c4) ∧ w.cell? ⟨b, o + 12 + 3, none⟩ = some (.slice a5 2 c5) := by
 match j, hn, h with
 | .cons y1 (.cons p kp (.cons q kq .nil)) (.cons z kz .nil), hn, h =>
  simp only [F.one, strip, ckA, Bool.and_eq_true, decide_eq_true_eq] at h;obtain ⟨⟨⟨h1, h2⟩, h3⟩, h4⟩ := h;obtain ⟨a, cap, e1, e2, e3, e4⟩ := hn.2.2;rcases e4 with e4 | ⟨b, o, rfl, hf⟩
  ·simp [F.len] at e4
  obtain ⟨g1, -, ⟨a2, c2, k1, k2, k3, k4⟩, hz, ⟨-, a5, c5, m1, -⟩, -⟩ := hf;rcases k4 with k4 | ⟨b2, o2, rfl, p1, ⟨-, a3, c3, m3, -⟩, -, q1, ⟨-, a4, c4, m4, -⟩, -⟩
  ·simp [F.len] at k4
  refine ⟨h1, b, o, cap, b2, o2, c2, a3, c3, a4, c4, a5, c5, e1, ?_, ?_, ?_, ?_⟩
  ·exact (g1 11 _ rfl).trans (congrArg some k1)
  ·rw [← h2, ← m3]; exact p1 3 _ rfl
  ·rw [← h3, ← m4]; exact q1 3 _ rfl
  ·rw [← h4, ← m1]; exact hz 3 _ rfl
 | .nil, _, h => cases h
 | .cons y1 .nil _, _, h => cases h
 | .cons y1 (.cons p kp .nil) _, _, h => cases h
 | .cons y1 (.cons p kp (.cons q kq (.cons _ _ _))) _, _, h => cases h
 | .cons y1 (.cons p kp (.cons q kq .nil)) .nil, _, h => cases h
 | .cons y1 (.cons p kp (.cons q kq .nil)) (.cons z kz (.cons _ _ _)), _, h => cases h
theorem kidsNd {w w' : World} {t : Nd} (h : NdAt w t) (hb : Below w.heap.size w w') : NdAt w' t := qY (fun _ _ hc => trw.qf hb hc) h
theorem ckB_of {y : Lab} {j : F} (h : ckB (strip (F.one y j)) = true) : y.kind = 20 ∧ y.mode = 0 := by simp only [F.one, strip, ckB, Bool.and_eq_true, decide_eq_true_eq] at h;exact h
theorem tab_below8 {w w' : World} (hT : Tab3 w) (hb : Below w.heap.size w w') : Tab3 w' := fun i hi => trw.qf hb (hT i hi)
theorem awake_any8 (w : World) (hT : Tab3 w) : Calls Tryz.prog 8 #[] w (trw.BoolB true w) := by
 obtain ⟨tA, hA, cA⟩ := awk_some8 (n := 8) (l := lA) (R := fun t => ckA (ansP t 0)) awk_A8;obtain ⟨tB, hB, cB⟩ := awk_some8 (n := 7) (l := lB) (R := fun t => ckB (ansP t 0)) awk_B8;have L1 := xH (raw_lit8 w lA (by decide) (by decide) 0);have L3 := xH (fun w => raw_lit8 w lB (by decide) (by decide) 0);have HT := xH hT;have HA := xH hA;have HB := xH hB;have CA := xH cA;have CB := xH cB;clear hT hA hB cA cB;unfold lA at L1;unfold lB at L3;have kc := fun (w : World) (C : Array Value) (n c : Nat) => Lib.run_convert_bytes_const (P := Tryz.prog) w 22 5 C n c Tryz.underlying22 Tryz.underlying5
 go_enter Tryz.func8, Tryz.ntmps8;go_wp2_with fail
 refine L1.out.mono ?_;rintro e w1 ⟨R, hR, hb, h⟩;obtain rfl : some tA = R := HA.out.symm.trans hR;obtain ⟨y, j, rfl, hn, hs⟩ := h;have HB1 := xH hb;have HN := xH hn;have HS := xH hs;have HO := xH (qp hn);have HG := xH (heap_alloc_new w1 (.cells zC.toArray 27));unfold zC at HG;clear hb hn hs hR L1;dsimp only;go_upto_region 2 with (refine wpList_store_nw rfl rfl _ _ rfl w1.heap.size rfl _ y HG.out rfl HO.out rfl ?_; intro w2 h2; have HB2 := xH (show Below w1.heap.size w1 w2 from h2.out ▸ rpw.jU w1 _ _ _); have HG2 := xH (show w2.heap[w1.heap.size]? = some (.cells (ndC y).toArray 27 (0, 0)) from h2.out ▸ setRow_heap _ _ _ _ _ _ HG.out); clear h2)
 have HB02 := xH (trw.qi HB1.out HB2.out);have HR2 := xH (res8 HA.out HS.out 0 (fun _ => false) w2 (fun i hi => by cases hi) (kidsNd HN.out HB2.out) (tab_below8 HT.out HB02.out));go_wp2_with (refine ql rfl _ rfl w1.heap.size rfl y HG2.out ?_)
 refine HR2.out.mono ?_;rintro e w3 ⟨z, q, rfl, hn, hs, hb⟩;have HA3 := xH (show z.kind = 13 ∧ _ from ckA_mem (sees_none _ hn) (by rw [hs]; exact CA.out));have HB3 := xH (trw.qi HB02.out hb);have HO3 := xH (qp hn);have HG3 := xH (heap_alloc_new w3 (.cells zC.toArray 27));unfold zC at HG3;clear hn hs hb HG2 HG HO HR2 HN HS;dsimp only;go_upto_region 3 with (refine wpList_store_nw rfl rfl _ _ rfl w3.heap.size rfl _ z HG3.out rfl HO3.out rfl ?_; intro w4 h4; have HB4 := xH (show Below w3.heap.size w3 w4 from h4.out ▸ rpw.jU w3 _ _ _); have HG4 := xH (show w4.heap[w3.heap.size]? = some (.cells (ndC z).toArray 27 (0, 0)) from h4.out ▸ setRow_heap _ _ _ _ _ _ HG3.out); clear h4)
 have HB04 := xH (trw.qi HB3.out HB4.out);have L4 := xH (L3.out w4);go_wp2_with fail
 refine L4.out.mono ?_;rintro e w5 ⟨R, hR, hb, h⟩;obtain rfl : some tB = R := HB.out.symm.trans hR;obtain ⟨y', j', rfl, hn, hs⟩ := h;have HB5 := xH (trw.qi HB4.out hb);have HG5' := xH (trw.qi HB04.out hb);have HGR5 := xH hb;have HN := xH hn;have HS := xH hs;have HO := xH (qp hn);have HG := xH (heap_alloc_new w5 (.cells zC.toArray 27));unfold zC at HG;clear hb hn hs hR L3 L4 HG3 HO3;dsimp only;go_upto_region 4 with (refine wpList_store_nw rfl rfl _ _ rfl w5.heap.size rfl _ y' HG.out rfl HO.out rfl ?_; intro w6 h6; have HB6 := xH (show Below w5.heap.size w5 w6 from h6.out ▸ rpw.jU w5 _ _ _); have HG6 := xH (show w6.heap[w5.heap.size]? = some (.cells (ndC y').toArray 27 (0, 0)) from h6.out ▸ setRow_heap _ _ _ _ _ _ HG.out); clear h6)
 have HR6 := xH (res8 HB.out HS.out 0 (fun _ => false) w6 (fun i hi => by cases hi) (kidsNd HN.out HB6.out) (tab_below8 HT.out (trw.qi HG5'.out HB6.out)));go_wp2_with (refine ql rfl _ rfl w5.heap.size rfl y' HG6.out ?_)
 refine HR6.out.mono ?_;rintro e w7 ⟨z', q', rfl, hn, hs, hb⟩;have HC7 := xH (ckB_of (y := z') (j := q') (by rw [hs]; exact CB.out));have HB47 := xH (trw.qi (trw.qi HGR5.out HB6.out) hb);have HB37 := xH (trw.qi HB4.out HB47.out);have HB07 := xH (trw.qi HB3.out HB37.out);have HO7 := xH (qp hn);have HG7 := xH (heap_alloc_new w7 (.cells zC.toArray 27));unfold zC at HG7;clear hn hs hb HG6 HG HO HR6 HN HS HB6 HG5' HB5 HGR5;dsimp only;go_upto_region 5 with (refine wpList_store_nw rfl rfl _ _ rfl w7.heap.size rfl _ z' HG7.out rfl HO7.out rfl ?_; intro w8 h8; have HB8 := xH (show Below w7.heap.size w7 w8 from h8.out ▸ rpw.jU w7 _ _ _); have HG8 := xH (show w8.heap[w7.heap.size]? = some (.cells (ndC z').toArray 27 (0, 0)) from h8.out ▸ setRow_heap _ _ _ _ _ _ HG7.out); clear h8)
 obtain ⟨k13, b, o, c, b2, o2, c2, a3, c3, a4, c4, a5, c5, e1, m1, m2, m3, m4⟩ := HA3.out;obtain ⟨k20, k0⟩ := HC7.out;have H48 := trw.qi HB47.out HB8.out;have H38 := trw.qi HB37.out HB8.out;have HG48 := (H48.block _ (Array.getElem?_eq_some_iff.1 HG4.out).1).trans HG4.out;have n0 : w8.cell? ⟨w3.heap.size, 0, none⟩ = some (.int .i64 13) := by unfold World.cell?; rw [HG48, ← k13]; rfl
 have n11 : w8.cell? ⟨w3.heap.size, 11, none⟩ = some (.slice (some ⟨b, o, none⟩) 2 c) := by unfold World.cell?; rw [HG48, ← e1]; rfl
 have r0 : w8.cell? ⟨w7.heap.size, 0, none⟩ = some (.int .i64 20) := by unfold World.cell?; rw [HG8.out, ← k20]; rfl
 have r7 : w8.cell? ⟨w7.heap.size, 7, none⟩ = some (.int .i64 0) := by unfold World.cell?; rw [HG8.out]; exact congrArg (fun v => some (Value.int .i64 v)) k0
 have d1 := trw.qf H38 m1;have d2 := trw.qf H38 m2;have d3 := trw.qf H38 m3;have d4 := trw.qf H38 m4;have HB08 := xH (trw.qi HB07.out HB8.out);have a0 : ∀ (b o : Nat), (⟨b, o, none⟩ : Addr).add (0 * 12) = ⟨b, o, none⟩ := fun b o => by unfold Addr.add; split <;> simp_all
 have a1 : ∀ (b o : Nat), (⟨b, o, none⟩ : Addr).add (1 * 12) = ⟨b, o + 12, none⟩ := fun b o => by unfold Addr.add; split <;> simp_all
 clear k13 e1 m1 m2 m3 m4 k20 k0 H48 H38 HG48 HA3 HC7 HG8 HG7 HG4 HB8 HB07 HB37 HB47 HB4 HB3 HB04 HO7 HB02 HB1 HB2;generalize w3.heap.size = V3 at *;generalize w7.heap.size = V7 at *;go_wp2_with fail
 go_ret
 exact ⟨rfl, HB08.out⟩
end Go.Proofs.YtikjhfmmfpeaoaaGreatDoor.fll
end
section
namespace Go.Proofs.YtikjhfmmfpeaoaaGreatDoor.fgp
open sq
open Go tkp trp rpp rsp setp setw
def cleanN (x : Lab) : Bool := !(decide (x.kind = 1) || decide (x.kind = 3) || decide (x.kind = 6) || decide (x.kind = 11) || decide (x.kind = 15) || (decide (x.kind = 2) && x.neg))
def cleanF : F → Bool
 | .nil => true
 | .cons x k r => cleanN x && cleanF k && cleanF r
theorem clean_app : ∀ f g : F, cleanF (F.app f g) = (cleanF f && cleanF g)
 | .nil, g => by rw [F.app, cleanF, Bool.true_and]
 | .cons x k r, g => by rw [F.app, cleanF, clean_app r g, cleanF, Bool.and_assoc, Bool.and_assoc, Bool.and_assoc]
theorem clean_one (x : Lab) (k : F) : cleanF (F.one x k) = (cleanN x && cleanF k) := by rw [F.one, cleanF, cleanF, Bool.and_true]
theorem clean_12 {l : F} (h : cleanF l = true) : cleanF (oneF 12 l) = true := by
 have p : cleanF (.cons (lab 12 0) l .nil) = true := by rw [cleanF, h]; rfl
 match l, h with
 | .nil, _ => exact p
 | .cons x k .nil, h => exact h
 | .cons x k (.cons y q r), h => exact p
theorem clean_own (u : Bool) (m : Int) {x : Lab} {k : F} (f : Int) (hk : cleanF k = true) (h1 : x.kind = 1 → x.neg = false) (h3 : x.kind = 3 → x.neg = false) (h : x.kind ≠ 11 ∧ x.kind ≠ 15) : cleanF (ownF u m x k f) = true := by
 unfold ownF;by_cases c1 : x.kind = 1
 ·rw [if_pos c1, clean_one, hk];simp [cleanN, bare, h1 c1]
 rw [if_neg c1];by_cases c2 : x.kind = 2
 ·rw [if_pos c2, clean_one, hk];simp [cleanN, bare, c2]
 rw [if_neg c2];by_cases c3 : x.kind = 3
 ·rw [if_pos c3, clean_one, hk];simp [cleanN, bare, h3 c3]
 rw [if_neg c3];by_cases c4 : x.kind = 4
 ·rw [if_pos c4, clean_one, hk];simp [cleanN, bare, c4]
 rw [if_neg c4];by_cases c6 : x.kind = 6
 ·rw [if_pos c6];simp [lineF, setL, F.one, F.app, cleanF, cleanN, lab]
 rw [if_neg c6];by_cases c7 : x.kind = 7
 ·rw [if_pos c7, clean_one, hk];simp [cleanN, bare, c7]
 rw [if_neg c7, clean_one, hk];simp [cleanN, bare, c1, c2, c3, c6, h.1, h.2]
theorem clean_both (u : Bool) (m : Int) : ∀ (l : F) (f : Int), RawF l → cleanF (bothP u m l f).1.1 = true ∧ cleanF (bothP u m l f).2 = true
 | .nil, _, _ => ⟨rfl, rfl⟩
 | .cons x k r, f, h => by
  obtain ⟨-, -, -, -, h1, -, h3, -, hk, hr⟩ := h;have t : cleanF (putP u m (fun g => (bothP u m k g).1) (fun g => (bothP u m k g).2) x f).1 = true := by
   unfold putP;by_cases c11 : x.kind = 11
   ·rw [if_pos c11]; rfl
   rw [if_neg c11];by_cases c12 : x.kind = 12
   ·rw [if_pos c12]; exact (clean_both u m k _ hk).1
   rw [if_neg c12];by_cases c15 : x.kind = 15
   ·rw [if_pos c15]; exact (clean_both u m k _ hk).1
   rw [if_neg c15];exact clean_own u m f (clean_both u m k _ hk).2 (fun c => (h1 c).2.2) (fun c => (h3 c).2.2.2) ⟨c11, c15⟩
  obtain ⟨a, b⟩ := clean_both u m r (putP u m (fun g => (bothP u m k g).1) (fun g => (bothP u m k g).2) x f).2 hr;rw [bothP];simp only [clean_app];rw [t, a, b, clean_12 t];exact ⟨rfl, rfl⟩
theorem clean_answer (t : Nd) (o : Int) (h : RawF (.cons t.1 t.2 .nil)) : cleanF (answerP t o) = true := by have := (clean_both (decide (andI o 32 ≠ 0)) (if andI o 32 ≠ 0 then 1114111 else 255) (.cons t.1 t.2 .nil) o h).2;rw [bothP] at this;simp only [bothP, clean_app] at this;rw [Bool.and_eq_true] at this;exact this.1
end Go.Proofs.YtikjhfmmfpeaoaaGreatDoor.fgp
end
section
namespace Go.Proofs.YtikjhfmmfpeaoaaGreatDoor.fll
open sq
open Go Go.RowKit Go.Maps utfw tkp trp trw rpp rsp rtp setw fgp fkw
open rpw (sees jB qh ql qp jm)
open ucdw (Tab3)
open tkw (sg)
theorem clean_drop : ∀ {k : F} {i : Nat} {x : Lab} {j r : F}, k.drop i = .cons x j r → cleanF k = true → cleanF (F.one x j) = true
 | .nil, 0, _, _, _, h, _ => by cases h
 | .nil, i + 1, _, _, _, h, _ => by cases h
 | .cons y q t, 0, _, _, _, h, hc => by cases h;rw [cleanF, Bool.and_eq_true, Bool.and_eq_true] at hc;rw [clean_one, hc.1.1, hc.1.2];rfl
 | .cons y q t, i + 1, _, _, _, h, hc => by rw [cleanF, Bool.and_eq_true, Bool.and_eq_true] at hc;exact clean_drop (k := t) (i := i) h hc.2
theorem clean_strip8 : ∀ f : F, cleanF (strip f) = cleanF f
 | .nil => rfl
 | .cons x k r => by rw [strip, cleanF, cleanF, clean_strip8 k, clean_strip8 r]; rfl
theorem clean_any : ∀ (z : Nat) (w : World) (x : Lab) (k : F) (_hz : k.size < z) (_hn : NdAt w (x, k)) (_hc : cleanF (F.one x k) = true) (_hl : k.size ≤ 100000), Calls Tryz.prog 14 #[ndV x] w (trw.BoolB true w) := by
 intro z
 induction z with
 | zero => exact fun w x k hz => absurd hz (Nat.not_lt_zero _)
 | succ z ih =>
 intro w x k hz hn hc hl;have IH := xH (@ih);clear ih;rw [clean_one, Bool.and_eq_true] at hc;obtain ⟨hx, hk⟩ := hc;simp only [cleanN, Bool.not_eq_true', Bool.or_eq_false_iff, decide_eq_false_iff_not, Bool.and_eq_false_iff] at hx;have HX := xH hx;have HK := xH hk;have HB := xH (trw.qg w (.cells (ndC x).toArray 27));have HG := xH (heap_alloc_new w (.cells (ndC x).toArray 27));have HN := xH hn;have HZ := xH hz;have hlen : k.len ≤ 100000 := by have := rsp.len_size k; omega
 obtain ⟨ka, kc, hkv⟩ := kids_len hn.2.2;have HKV := xH hkv;clear hx hk hn hz hkv;unfold ndC at HB HG;unfold ndV;go_enter Tryz.func14, Tryz.ntmps14;go_upto_region 1 with (fail)
 generalize w.alloc _ = w1 at *;have c0 : w1.cell? ⟨w.heap.size, 0, none⟩ = some (.int .i64 x.kind) := by unfold World.cell?; rw [HG.out]; rfl
 have c4 : w1.cell? ⟨w.heap.size, 4, none⟩ = some (.bool x.neg) := by unfold World.cell?; rw [HG.out]; rfl
 have c11 : w1.cell? ⟨w.heap.size, 11, none⟩ = some (.slice ka k.len kc) := by unfold World.cell?; rw [HG.out]; show some x.kv = _; rw [HKV.out]
 have b1 : (x.kind == 1) = false := by simpa using HX.out.1.1.1.1.1
 have b3 : (x.kind == 3) = false := by simpa using HX.out.1.1.1.1.2
 have b6 : (x.kind == 6) = false := by simpa using HX.out.1.1.1.2
 have b11 : (x.kind == 11) = false := by simpa using HX.out.1.1.2
 have b15 : (x.kind == 15) = false := by simpa using HX.out.1.2
 rcases HX.out.2 with h | h
 ·have b2 : (x.kind == 2) = false := by simpa using h
  clear h;go_upto_region 3 with (fail)
  go_wp2_with fail
  clear c4
  go_loopw [3] (fun v3 wr => ∃ i : Nat, v3 = .int .i64 i ∧ i ≤ k.len ∧ Hid (Below w1.heap.size w1 wr)) (fun v3 _ => k.len - (intOf v3).toNat)
  case atStart => exact ⟨0, rfl, Nat.zero_le _, xH (Below.refl _ _)⟩
  case round =>
   obtain ⟨i, rfl, hi, hB⟩ := hrel;have HBR := xH hB.out;have d11 := trw.qf HBR.out c11;clear hB;by_cases hlt : i < k.len
   ·obtain ⟨x', kk, r, hd⟩ := drop_lt hlt;obtain ⟨bb, o, cap', hv, _, _, hil, hfa⟩ := kid_at HN.out.2.2 hd;rw [HKV.out] at hv;cases hv;have HBW := xH (trw.qi HB.out HBR.out);have HE := xH (fun j v hj => trw.qf HBW.out (hfa.1 j v hj));have HIH := xH (IH.out wr x' kk (by have := size_lt hd; have := HZ.out; omega) (kidsNd (fAt_head hfa) HBW.out) (clean_drop hd HK.out) (by have := size_lt hd; omega));have a1 := add_row bb o i 12;clear hd hfa;have i1 : (i : Int) < (k.len : Int) := by omega
    go_wp2_with (refine jv rfl _ rfl bb (o + i * 12) rfl x' HE.out ?_)
    refine HIH.out.mono ?_;rintro e w3 ⟨rfl, hb⟩;have HB3 := xH (trw.qi HBR.out hb);clear hb HIH;try dsimp only
    go_wp2_with fail
    have hi1 : i + 1 ≤ k.len := by omega
    refine ⟨⟨i + 1, ?_, hi1, HB3⟩, ?_⟩
    ·rfl
    ·simp only [intOf];omega
   ·have hge : ¬ ((i : Int) < (k.len : Int)) := by omega
    clear hlt;go_wp2_with fail
    go_ret
    exact ⟨rfl, trw.qi HB.out HBR.out⟩
 ·rw [h] at c4;clear h;by_cases h2 : x.kind = 2
  ·have b2 : (x.kind == 2) = true := by simpa using h2
   clear h2;go_upto_region 3 with (fail)
   go_wp2_with fail
   clear c4
   go_loopw [3] (fun v3 wr => ∃ i : Nat, v3 = .int .i64 i ∧ i ≤ k.len ∧ Hid (Below w1.heap.size w1 wr)) (fun v3 _ => k.len - (intOf v3).toNat)
   case atStart => exact ⟨0, rfl, Nat.zero_le _, xH (Below.refl _ _)⟩
   case round =>
    obtain ⟨i, rfl, hi, hB⟩ := hrel;have HBR := xH hB.out;have d11 := trw.qf HBR.out c11;clear hB;by_cases hlt : i < k.len
    ·obtain ⟨x', kk, r, hd⟩ := drop_lt hlt;obtain ⟨bb, o, cap', hv, _, _, hil, hfa⟩ := kid_at HN.out.2.2 hd;rw [HKV.out] at hv;cases hv;have HBW := xH (trw.qi HB.out HBR.out);have HE := xH (fun j v hj => trw.qf HBW.out (hfa.1 j v hj));have HIH := xH (IH.out wr x' kk (by have := size_lt hd; have := HZ.out; omega) (kidsNd (fAt_head hfa) HBW.out) (clean_drop hd HK.out) (by have := size_lt hd; omega));have a1 := add_row bb o i 12;clear hd hfa;have i1 : (i : Int) < (k.len : Int) := by omega
     go_wp2_with (refine jv rfl _ rfl bb (o + i * 12) rfl x' HE.out ?_)
     refine HIH.out.mono ?_;rintro e w3 ⟨rfl, hb⟩;have HB3 := xH (trw.qi HBR.out hb);clear hb HIH;try dsimp only
     go_wp2_with fail
     have hi1 : i + 1 ≤ k.len := by omega
     refine ⟨⟨i + 1, ?_, hi1, HB3⟩, ?_⟩
     ·rfl
     ·simp only [intOf];omega
    ·have hge : ¬ ((i : Int) < (k.len : Int)) := by omega
     clear hlt;go_wp2_with fail
     go_ret
     exact ⟨rfl, trw.qi HB.out HBR.out⟩
  ·have b2 : (x.kind == 2) = false := by simpa using h2
   clear h2;go_upto_region 3 with (fail)
   go_wp2_with fail
   clear c4
   go_loopw [3] (fun v3 wr => ∃ i : Nat, v3 = .int .i64 i ∧ i ≤ k.len ∧ Hid (Below w1.heap.size w1 wr)) (fun v3 _ => k.len - (intOf v3).toNat)
   case atStart => exact ⟨0, rfl, Nat.zero_le _, xH (Below.refl _ _)⟩
   case round =>
    obtain ⟨i, rfl, hi, hB⟩ := hrel;have HBR := xH hB.out;have d11 := trw.qf HBR.out c11;clear hB;by_cases hlt : i < k.len
    ·obtain ⟨x', kk, r, hd⟩ := drop_lt hlt;obtain ⟨bb, o, cap', hv, _, _, hil, hfa⟩ := kid_at HN.out.2.2 hd;rw [HKV.out] at hv;cases hv;have HBW := xH (trw.qi HB.out HBR.out);have HE := xH (fun j v hj => trw.qf HBW.out (hfa.1 j v hj));have HIH := xH (IH.out wr x' kk (by have := size_lt hd; have := HZ.out; omega) (kidsNd (fAt_head hfa) HBW.out) (clean_drop hd HK.out) (by have := size_lt hd; omega));have a1 := add_row bb o i 12;clear hd hfa;have i1 : (i : Int) < (k.len : Int) := by omega
     go_wp2_with (refine jv rfl _ rfl bb (o + i * 12) rfl x' HE.out ?_)
     refine HIH.out.mono ?_;rintro e w3 ⟨rfl, hb⟩;have HB3 := xH (trw.qi HBR.out hb);clear hb HIH;try dsimp only
     go_wp2_with fail
     have hi1 : i + 1 ≤ k.len := by omega
     refine ⟨⟨i + 1, ?_, hi1, HB3⟩, ?_⟩
     ·rfl
     ·simp only [intOf];omega
    ·have hge : ¬ ((i : Int) < (k.len : Int)) := by omega
     clear hlt;go_wp2_with fail
     go_ret
     exact ⟨rfl, trw.qi HB.out HBR.out⟩
end Go.Proofs.YtikjhfmmfpeaoaaGreatDoor.fll
end
section
namespace Go.Proofs.YtikjhfmmfpeaoaaGreatDoor.fll
open sq
open Go Go.RowKit Go.Maps utfw tkp trp trw rpp rsp rtp setw fgp fkw
open rpw (sees jB qh ql qp jm)
open ucdw (Tab3)
open tkw (sg)
theorem ans_clean {g : Nat → Int} {n : Nat} {o : Int} {t : F} (ht : rawP (sg (strOf n g)) n o = some t) (p : Int) {z : Lab} {q : F} (hs : strip (F.one z q) = ansP t p) : cleanF (F.one z q) = true := by obtain ⟨-, -, h3, x, k, rfl⟩ := rawP_ok ht;rw [← clean_strip8, hs];exact clean_answer (x, k) p h3
theorem own_size8 (u : Bool) (m : Int) (x : Lab) (k : F) (f : Int) : (ownF u m x k f).size ≤ k.size + 6 := by
 unfold ownF
 repeat' split
 all_goals simp only [lineF, F.one, F.size, F.app, setL]
 all_goals omega
theorem app_size8 : ∀ f g : F, (F.app f g).size = f.size + g.size
 | .nil, g => by simp [F.app, F.size]
 | .cons x k r, g => by simp only [F.app, F.size, app_size8 r g];omega
theorem one_size8 (k : Int) (l : F) : (oneF k l).size ≤ l.size + 1 := by
 match l with
 | .nil => simp [oneF, F.size]
 | .cons x q .nil => simp [oneF, F.size]
 | .cons x q (.cons y p r) => simp [oneF, F.size]
theorem put_size8 (u : Bool) (m : Int) (rp : Int → F × Int) (rk : Int → F) (x : Lab) (f : Int) (z : Nat) (h1 : ∀ g, (rp g).1.size ≤ z) (h2 : ∀ g, (rk g).size ≤ z) : (putP u m rp rk x f).1.size ≤ z + 6 := by
 unfold putP;split
 ·simp [F.size]
 split
 ·have := h1 f; omega
 split
 ·have := h1 (turnI f x.on x.off); simp only; omega
 ·have := own_size8 u m x (rk f) f;have := h2 f;simp only;omega
theorem both_size8 (u : Bool) (m : Int) : ∀ (l : F) (f : Int), (bothP u m l f).1.1.size ≤ 7 * l.size ∧ (bothP u m l f).2.size ≤ 7 * l.size
 | .nil, _ => by simp [bothP, F.size]
 | .cons x k r, f => by rw [bothP];simp only [app_size8, F.size];have h1 := put_size8 u m (fun g => (bothP u m k g).1) (fun g => (bothP u m k g).2) x f (7 * k.size) (fun g => (both_size8 u m k g).1) (fun g => (both_size8 u m k g).2);have h2 := both_size8 u m r (putP u m (fun g => (bothP u m k g).1) (fun g => (bothP u m k g).2) x f).2;have h3 := one_size8 12 (putP u m (fun g => (bothP u m k g).1) (fun g => (bothP u m k g).2) x f).1;omega
theorem ans_size8 {g : Nat → Int} {n : Nat} {o : Int} {t : F} (ht : rawP (sg (strOf n g)) n o = some t) (p : Int) {z : Lab} {q : F} (hs : strip (F.one z q) = ansP t p) : q.size ≤ 100000 := by
 obtain ⟨-, h2, -, x, k, rfl⟩ := rawP_ok ht;have h4 : (F.one z q).size = (answerP (x, k) p).size := by rw [← size_strip8, hs]; rfl
 have h5 : (answerP (x, k) p).size ≤ 7 * k.size + 7 := by unfold answerP;refine Nat.le_trans (one_size8 _ _) ?_;have := put_size8 (decide (andI p 32 ≠ 0)) (if andI p 32 ≠ 0 then 1114111 else 255) (fun g => (bothP (decide (andI p 32 ≠ 0)) (if andI p 32 ≠ 0 then 1114111 else 255) k g).1) (fun g => (bothP (decide (andI p 32 ≠ 0)) (if andI p 32 ≠ 0 then 1114111 else 255) k g).2) x p (7 * k.size) (fun g => (both_size8 _ _ k g).1) (fun g => (both_size8 _ _ k g).2);simp only at this ⊢;omega
 simp only [F.one, F.size] at h2 h4;omega
theorem clean_law (v : Value) (n : Nat) (g : Nat → Int) (o : Int) (w : World) (hT : Tab3 w) (hv : Sl w v n g) : Calls Tryz.prog 4 #[v, .int .i64 o] w (trw.BoolB true w) := by
 have LA := xH (awake_any8 w hT);have HT := xH hT;have HV := xH hv;clear hT hv;go_enter Tryz.func4, Tryz.ntmps4;go_wp2_with fail
 refine LA.out.mono ?_;rintro e w1 ⟨rfl, hb⟩;have HB1 := xH hb;clear hb LA;have LR := xH (raw_any v n g o w1 (utfw.below_sl HB1.out HV.out));obtain ⟨R, hR⟩ : ∃ R, rawP (sg (strOf n g)) n o = R := ⟨_, rfl⟩;rw [hR] at LR;have HR := xH hR;clear hR HV;try dsimp only
 go_upto_region 4 with (fail)
 go_wp2_with fail
 refine LR.out.mono ?_;cases R with
 | none =>
  rintro e w2 ⟨hb, rfl⟩;have HB2 := xH (trw.qi HB1.out hb);have HG := xH (heap_alloc_new w2 (.cells zC.toArray 27));have HO := xH (qp (t := (lab 0 0, F.nil)) (rpw.zero_at w2));unfold zC at HG;clear hb LR;try dsimp only
  unfold ndV;go_upto_region 5 with (refine wpList_store_nw rfl rfl _ _ rfl w2.heap.size rfl _ (lab 0 0) HG.out rfl HO.out rfl ?_; intro w3 h3; have HB3 := xH (show Below w2.heap.size w2 w3 from h3.out ▸ rpw.jU w2 _ _ _); clear h3)
  go_wp2_with fail
  go_ret
  exact ⟨rfl, trw.qi HB2.out HB3.out⟩
 | some t =>
  rintro e w2 ⟨hb, y, j, rfl, hn, hs⟩;have HB2 := xH (trw.qi HB1.out hb);have HG := xH (heap_alloc_new w2 (.cells zC.toArray 27));have HO := xH (qp hn);have HN := xH hn;have HS := xH hs;unfold zC at HG;clear hb LR hn hs;try dsimp only
  unfold ndV;go_upto_region 5 with (refine wpList_store_nw rfl rfl _ _ rfl w2.heap.size rfl _ y HG.out rfl HO.out rfl ?_; intro w3 h3; have HB3 := xH (show Below w2.heap.size w2 w3 from h3.out ▸ rpw.jU w2 _ _ _); have HG3 := xH (show w3.heap[w2.heap.size]? = some (.cells (ndC y).toArray 27 (0, 0)) from h3.out ▸ setRow_heap _ _ _ _ _ _ HG.out); clear h3)
  have HB03 := xH (trw.qi HB2.out HB3.out);have LS := xH (res8 HR.out HS.out o (fun _ => false) w3 (fun i hi => by cases hi) (kidsNd HN.out HB3.out) (tab_below8 HT.out HB03.out));clear HG HO HN HS;have c0 : w3.cell? ⟨w2.heap.size, 0, none⟩ = some (.int .i64 y.kind) := by unfold World.cell?; rw [HG3.out]; rfl
  have c1 : w3.cell? ⟨w2.heap.size, 1, none⟩ = some (.int .i64 y.at_) := by unfold World.cell?; rw [HG3.out]; rfl
  have c2 : w3.cell? ⟨w2.heap.size, 2, none⟩ = some (.int .i64 y.c) := by unfold World.cell?; rw [HG3.out]; rfl
  have c3 : w3.cell? ⟨w2.heap.size, 3, none⟩ = some (y.sv) := by unfold World.cell?; rw [HG3.out]; rfl
  have c4 : w3.cell? ⟨w2.heap.size, 4, none⟩ = some (.bool y.neg) := by unfold World.cell?; rw [HG3.out]; rfl
  have c5 : w3.cell? ⟨w2.heap.size, 5, none⟩ = some (.int .i64 y.n) := by unfold World.cell?; rw [HG3.out]; rfl
  have c6 : w3.cell? ⟨w2.heap.size, 6, none⟩ = some (.int .i64 y.m) := by unfold World.cell?; rw [HG3.out]; rfl
  have c7 : w3.cell? ⟨w2.heap.size, 7, none⟩ = some (.int .i64 y.mode) := by unfold World.cell?; rw [HG3.out]; rfl
  have c8 : w3.cell? ⟨w2.heap.size, 8, none⟩ = some (.string y.name) := by unfold World.cell?; rw [HG3.out]; rfl
  have c9 : w3.cell? ⟨w2.heap.size, 9, none⟩ = some (.int .i64 y.on) := by unfold World.cell?; rw [HG3.out]; rfl
  have c10 : w3.cell? ⟨w2.heap.size, 10, none⟩ = some (.int .i64 y.off) := by unfold World.cell?; rw [HG3.out]; rfl
  have c11 : w3.cell? ⟨w2.heap.size, 11, none⟩ = some (y.kv) := by unfold World.cell?; rw [HG3.out]; rfl
  unfold ndV at LS;go_wp2_with fail
  refine LS.out.mono ?_;rintro e w4 ⟨z, q, rfl, hn, hs, hb⟩;have LC := xH (clean_any (q.size + 1) w4 z q (Nat.lt_succ_self _) (sees_none _ hn) (ans_clean HR.out o hs) (ans_size8 HR.out o hs));have HB4 := xH (trw.qi HB03.out hb);clear hn hs hb LS c0 c1 c2 c3 c4 c5 c6 c7 c8 c9 c10 c11;try dsimp only
  go_wp2_with fail
  refine LC.out.mono ?_;rintro e w5 ⟨rfl, hb⟩;have HB5 := xH (trw.qi HB4.out hb);clear hb LC;try dsimp only
  go_wp2_with fail
  go_ret
  exact ⟨rfl, HB5.out⟩
end Go.Proofs.YtikjhfmmfpeaoaaGreatDoor.fll
end
