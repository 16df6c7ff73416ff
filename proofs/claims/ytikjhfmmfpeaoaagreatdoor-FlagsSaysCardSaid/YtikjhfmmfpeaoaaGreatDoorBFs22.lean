/- T -/
import Derived.StillTailTactics
import Derived.Test.YtikjhfmmfpeaoaaGreatDoorBFs21
set_option maxHeartbeats 16000000
set_option maxRecDepth 1000000
namespace Go.Proofs.YtikjhfmmfpeaoaaGreatDoor
section
namespace fkw
open sq
open Go.Sort Go Go.RowKit Go.Maps setp setw tkp trp trw rpp rsp rsw fgp
open rpw (sees jB qU fC jP FSub vw jQ app_sub jH jm own_below qp)
structure Ch (b : Nat) (v v' : Value) (w w' : World) : Prop where
 os : w'.os = w.os
 tape : w'.tape = w.tape
 output : w'.output = w.output
 size : w.heap.size ≤ w'.heap.size
 block : ∀ q, q < w.heap.size → q ≠ b → v.ownBlock ≠ some q → w'.heap[q]? = w.heap[q]?
 own : ∀ g, v'.ownBlock = some g → v.ownBlock = some g ∨ w.heap.size ≤ g
theorem Ch.refl (b : Nat) (v : Value) (w : World) : Ch b v v w w := ⟨rfl, rfl, rfl, xL _, fun _ _ _ _ => rfl, fun _ e => Or.inl e⟩
theorem Ch.trans {b : Nat} {v v' v'' : Value} {w w' w'' : World} (h : Ch b v v' w w') (k : Ch b v' v'' w' w'') : Ch b v v'' w w'' :=
 ⟨k.os.trans h.os, k.tape.trans h.tape, k.output.trans h.output, Nat.le_trans h.size k.size, fun q hq hb hv => (k.block q (Nat.lt_of_lt_of_le hq h.size) hb (fun e => by
  rcases h.own q e with e2 | e2
  ·exact hv e2
  ·omega)).trans (h.block q hq hb hv), fun g e => by
  rcases k.own g e with e2 | e2
  ·exact h.own g e2
  ·exact Or.inr (Nat.le_trans h.size e2)⟩
theorem Ch.of_below {w w' : World} (h : Below w.heap.size w w') (b : Nat) (v : Value) : Ch b v v w w' := ⟨h.os, h.tape, h.output, h.size, fun q hq _ _ => h.block q hq, fun _ e => Or.inl e⟩
theorem Ch.inner {b b' : Nat} {v v' : Value} {w w1 w' : World} (hb : Below w.heap.size w w1) (h : Ch b' v v' w1 w') (hb' : w.heap.size ≤ b') : Ch b v v' w w' :=
 ⟨h.os.trans hb.os, h.tape.trans hb.tape, h.output.trans hb.output, Nat.le_trans hb.size h.size, fun q hq _ hv => (h.block q (Nat.lt_of_lt_of_le hq hb.size) (by omega) hv).trans (hb.block q hq), fun g e => by
  rcases h.own g e with e2 | e2
  ·exact Or.inl e2
  ·exact Or.inr (Nat.le_trans hb.size e2)⟩
theorem Ch.below {b N : Nat} {v v' : Value} {w0 w w' : World} (h : Ch b v v' w w') (hB : Below N w0 w) (hN : N ≤ w.heap.size) (hb : N ≤ b) (hv : ∀ g, v.ownBlock = some g → N ≤ g) : Below N w0 w' :=
 ⟨h.os.trans hB.os, h.tape.trans hB.tape, h.output.trans hB.output, Nat.le_trans hB.size h.size, fun q hq => (h.block q (by omega) (by omega) (fun e => by have := hv q e; omega)).trans (hB.block q hq)⟩
theorem Ch.drop {b : Nat} {v v' : Value} {w w' : World} (h : Ch b v v' w w') : Ch b v nil3 w w' := ⟨h.os, h.tape, h.output, h.size, h.block, fun _ e => by cases e⟩
def ScAt (w : World) (b : Nat) (u : Bool) (m f : Int) : Prop := w.heap[b]? = some (.cells #[.bool u, .int .i64 m, .int .i64 f] 50 (0, 0))
theorem ScAt.lt {w : World} {b : Nat} {u : Bool} {m f : Int} (h : ScAt w b u m f) : b < w.heap.size := (Array.getElem?_eq_some_iff.1 h).1
theorem ScAt.keep {w w' : World} {b : Nat} {u : Bool} {m f : Int} (h : ScAt w b u m f) (hb : Below w.heap.size w w') : ScAt w' b u m f := (hb.block b h.lt).trans h
theorem ScAt.ch {w w' : World} {b b' : Nat} {v v' : Value} {u : Bool} {m f : Int} (h : ScAt w b u m f) (hc : Ch b' v v' w w') (hb : b ≠ b') (hv : v.ownBlock ≠ some b) : ScAt w' b u m f := (hc.block b h.lt hb hv).trans h
theorem ownH_ch {h : Nat → Bool} {n b : Nat} {r v' : Value} {w w' : World} {f : F} (H : OwnH h n w r f) (hc : Ch b nil3 v' w w') (hb : h b = true) (hr : r.ownBlock ≠ some b) : OwnH h n w' r f :=
 ⟨tkw.jJ H.1 (fun k hk => hc.block k (own_below H.1 hk).2 (fun e => hr (e ▸ hk)) (by intro e; cases e)), H.2.1,
  vw (qU fun a u h1 hk => ⟨h1, (World.cell?_of_block (hc.block a.block (cell_lt hk) (fun e => by simp [hx, e, hb] at h1) (by intro e; cases e))).trans hk⟩) H.2.2⟩
theorem ownH_hide {h h' : Nat → Bool} {n : Nat} {v : Value} {w w' : World} {f : F} (H : OwnH h n w v f) (hb : Below w.heap.size w w') (hh : ∀ i, h' i = true → h i = true ∨ w.heap.size ≤ i) : OwnH h' n w' v f :=
 ⟨tkw.jJ H.1 (fun k hk => hb.block k (own_below H.1 hk).2), H.2.1, vw (qU fun a u h1 hk => by
  have hl := cell_lt hk;refine ⟨?_, trw.qf hb hk⟩;simp only [hx, dE, dD] at h1 ⊢;refine ⟨?_, h1.2⟩;cases e : h' a.block with
  | false => rfl
  | true =>
   rcases hh _ e with e2 | e2
   ·rw [h1.1] at e2; cases e2
   ·omega) H.2.2⟩
theorem ownH_show {h h' : Nat → Bool} {n : Nat} {v : Value} {w : World} {f : F} (H : OwnH h' n w v f) (hh : ∀ i, h i = true → h' i = true) : OwnH h n w v f :=
 ⟨H.1, H.2.1, vw (qU fun a u h1 hk => by
  refine ⟨?_, hk⟩;simp only [hx, dE, dD] at h1 ⊢;refine ⟨?_, h1.2⟩;cases e : h a.block with
  | false => rfl
  | true => rw [hh _ e] at h1; exact absurd h1.1 (by simp)) H.2.2⟩
theorem nd_show {h h' : Nat → Bool} {w : World} {t : Nd} (H : NdAt (sees h' w) t) (hh : ∀ i, h i = true → h' i = true) : NdAt (sees h w) t :=
 qY (qU fun a u h1 hk => by
  refine ⟨?_, hk⟩;cases e : h a.block with
  | false => rfl
  | true =>
   rw [hh _ e] at h1;cases h1) H
end fkw
end
section
namespace fgp
open sq
open Go ucdp tkp rsp setp setw
theorem others_low {c d : Int} (h : c ∈ jy d false) : d ≤ 255 := by
 unfold jy at h;rw [if_pos rfl] at h;by_cases a : 65 ≤ d ∧ d ≤ 90
 ·omega
 rw [if_neg a] at h;by_cases b : 97 ≤ d ∧ d ≤ 122
 ·omega
 rw [if_neg b] at h;cases h
theorem class_is {u : Bool} {m : Int} {l N C W Z : List Rg} {cl neg : Bool} (hu : (u = true ∧ m = 1114111) ∨ (u = false ∧ m = 255))
 (hc : ∀ c, (Has (caseM (normR m l) u) c ∧ 0 ≤ c ∧ c ≤ min 1114111 1114111) ↔ Has (normR m l) c ∨ ∃ d, Has (normR m l) d ∧ c ∈ jy d u)
 (hN : ∀ c, Has N c ↔ Has l c ∧ 0 ≤ c ∧ c ≤ 1114111) (hC : ∀ c, Has C c ↔ Has N c ∨ ∃ d, Has N d ∧ c ∈ jy d u)
 (hW : Canon W) (hW2 : ∀ c, Has W c ↔ Has (if cl = true then C else l) c ∧ 0 ≤ c ∧ c ≤ m)
 (hZ : neg = true → Canon Z ∧ ∀ c, Has Z c ↔ 0 ≤ c ∧ c ≤ m ∧ ¬ Has W c) : (if neg = true then Z else W) = setP u m l cl neg := by
 have hm : m ≤ 1114111 := by rcases hu with h | h <;> omega
 have y : W = if cl = true then normR m (caseM (normR m l) u) else normR m l := by
  cases cl with
  | false => exact normR_only hm hW hW2
  | true =>
   refine normR_only hm hW fun c => ?_
   rw [hW2];constructor
   ·rintro ⟨a, h0, h1⟩;refine ⟨((hc c).2 ?_).1, h0, h1⟩;rcases (hC c).1 a with a | ⟨d, a, b⟩
    ·exact .inl ((normR_has hm l c).2 ⟨((hN c).1 a).1, h0, h1⟩)
    ·have a := (hN d).1 a;refine .inr ⟨d, (normR_has hm l d).2 ⟨a.1, a.2.1, ?_⟩, b⟩;rcases hu with ⟨rfl, rfl⟩ | ⟨rfl, rfl⟩
     ·exact a.2.2
     ·exact others_low b
   ·rintro ⟨a, h0, h1⟩;refine ⟨(hC c).2 ?_, h0, h1⟩;rcases (hc c).1 ⟨a, h0, by omega⟩ with a | ⟨d, a, b⟩
    ·have a := (normR_has hm l c).1 a;exact .inl ((hN c).2 ⟨a.1, h0, by omega⟩)
    ·have a := (normR_has hm l d).1 a;exact .inr ⟨d, (hN d).2 ⟨a.1, a.2.1, by omega⟩, b⟩
 have yn : normR m W = W := (normR_only hm hW fun c => ⟨fun e => ⟨e, ((hW2 c).1 e).2⟩, fun e => e.1⟩).symm;unfold setP;simp only;rw [← y, yn];cases neg with
 | false => rfl
 | true => exact notR_only hm (hZ rfl).1 hW (hZ rfl).2
end fgp
end
section
namespace fkw
open sq
open Go.Sort Go Go.RowKit Go.Maps setp setw tkp trp trw rpp rsp rsw fgp ucdp ucdw
open rpw (sees jB qU fC jP FSub vw jQ app_sub jH jm own_below qp)
def alV (u : Bool) (m : Int) : Value := .agg #[.bool u, .int .i64 m]
def RgB (p : Int → Prop) (w : World) (e : Ending) (w' : World) : Prop := ∃ v S, e = .returned v ∧ Canon S ∧ (∀ c, Has S c ↔ p c) ∧ OwnR w' w.heap.size v S ∧ Below w.heap.size w w'
theorem restricted_any (u : Bool) (m : Int) (v : Value) (l : List Rg) (w : World) (hv : RsAt w v l) (hl : l.length ≤ 1000000) (hm0 : 0 ≤ m) (hm : m ≤ 1114111) :
 Calls Tryz.prog 97 #[alV u m, v] w (RgB (fun c => Has l c ∧ 0 ≤ c ∧ c ≤ m) w) := by
 have HB0 := xH (trw.qg w (.cells #[.bool u, .int .i64 m] 47));have HV := xH (jl hv HB0.out);have hc0 : (w.alloc (.cells #[.bool u, .int .i64 m] 47)).cell? ⟨w.heap.size, 0, none⟩ = some (.bool u) := by unfold World.cell?; rw [heap_alloc_new]; rfl
 have hc1 : (w.alloc (.cells #[.bool u, .int .i64 m] 47)).cell? ⟨w.heap.size, 1, none⟩ = some (.int .i64 m) := by unfold World.cell?; rw [heap_alloc_new]; rfl
 have HN := xH (new_any v l m _ HV.out hl (by omega) (by omega));clear hv;unfold alV;go_enter Tryz.func97, Tryz.ntmps97;go_wp2_with fail
 refine HN.out.mono ?_;rintro e w1 ⟨v1, S, rfl, hS, hh, hz, hb⟩;have HR := xH (ranges_any v1 S _ w1 hS hz);have HB := xH (trw.qi HB0.out hb);have HH := xH hh;have HS := xH hS;clear hz hb hh hS HN;dsimp only;go_wp2_with fail
 refine HR.out.mono ?_;rintro e w2 ⟨v2, rfl, ho, hb2⟩;have HO := xH ho;have HB2 := xH hb2;clear ho hb2 HR;dsimp only;go_wp2_with fail
 go_ret
 exact ⟨v2, S, rfl, HS.out, fun c => (HH.out c).trans (by rw [show min m 1114111 = m by omega]), ownR_mono HO.out HB.out.size, trw.qi HB.out HB2.out⟩
theorem cases_any (u : Bool) (m : Int) (v : Value) (l : List Rg) (w : World) (hv : RsAt w v l) (hl : l.length ≤ 1000000) (hT : Tab3 w) :
 Calls Tryz.prog 95 #[alV u m, v] w (fun e w' => ∃ N, (∀ c, Has N c ↔ Has l c ∧ 0 ≤ c ∧ c ≤ 1114111) ∧ RgB (fun c => Has N c ∨ ∃ d, Has N d ∧ c ∈ jy d u) w e w') := by
 have HB0 := xH (trw.qg w (.cells #[.bool u, .int .i64 m] 47));have HV := xH (jl hv HB0.out);have hc0 : (w.alloc (.cells #[.bool u, .int .i64 m] 47)).cell? ⟨w.heap.size, 0, none⟩ = some (.bool u) := by unfold World.cell?; rw [heap_alloc_new]; rfl
 have hc1 : (w.alloc (.cells #[.bool u, .int .i64 m] 47)).cell? ⟨w.heap.size, 1, none⟩ = some (.int .i64 m) := by unfold World.cell?; rw [heap_alloc_new]; rfl
 have HT1 := xH (show Tab3 (w.alloc (.cells #[.bool u, .int .i64 m] 47)) from fun i hi => trw.qf HB0.out (hT i hi));clear hv hT;unfold alV;go_enter Tryz.func95, Tryz.ntmps95;go_upto_region 1 with (fail)
 generalize w.alloc _ = w1 at *;have HC0 := xH hc0;clear hc0 hc1;refine wp_region_held_drew (S := fun w' => Below w1.heap.size w1 w') (by kernel_rfl) (trw.qL w1) (fun hHeld => ?_);refine yT 0 ?_;simp only [xS];refine yT 2 ?_;simp only [xS];refine yF 3 (fun w' hSw => trw.qf hSw HC0.out) ?_;simp only [xS];refine xD 1 rfl (fun K hK => ?_);go_simp;have HN := xH (new_any v l 1114111 _ (jl HV.out hHeld) hl (by omega) (by omega));refine HN.out.mono ?_;rintro e w2 ⟨v2, N, rfl, hS, hh, hz, hb⟩;have HB2 := xH (trw.qi hHeld hb);have HR := xH (caseless_any v2 N _ u w2 hS hz (fun i hi => trw.qf HB2.out (HT1.out i hi)));have HH := xH hh;clear hz hb hh hS HN;dsimp only;refine hK.out _ _ HB2.out (fun hHeld => ?_);clear hK K;try simp only [xS]
 refine xD 4 rfl (fun K hK => ?_);go_simp;refine HR.out.mono ?_;rintro e w3 ⟨v3, C, rfl, hS, hh, hz, hb⟩;have HB3 := xH (trw.qi HB2.out hb);have HR3 := xH (ranges_any v3 C _ w3 hS hz);have HS := xH hS;have HH2 := xH hh;clear hz hb hh hS HR;dsimp only;refine hK.out _ _ HB3.out (fun hHeld => ?_);clear hK K;try simp only [xS]
 refine xD 5 rfl (fun K hK => ?_);go_simp;refine HR3.out.mono ?_;rintro e w4 ⟨v4, rfl, ho, hb⟩;have HB4 := xH (trw.qi HB3.out hb);have HO := xH ho;clear ho hb HR3;dsimp only;refine hK.out _ _ HB4.out (fun hHeld => ?_);clear hK K;try simp only [xS]
 refine yT 6 ?_;simp only [xS];refine wpAnyH_done (by kernel_rfl) ?_ _;go_wp2_with fail
 go_ret
 exact ⟨N, fun c => (HH.out c).trans (by rw [show min (1114111 : Int) 1114111 = 1114111 by omega]), v4, C, rfl, HS.out, HH2.out, ownR_mono HO.out (Nat.le_trans HB0.out.size HB3.out.size), trw.qi HB0.out HB4.out⟩
theorem others_any (u : Bool) (m : Int) (v : Value) (l : List Rg) (w : World) (hv : RsAt w v l) (hl : l.length ≤ 1000000) (hm0 : 0 ≤ m) (hm : m ≤ 1114111) :
 Calls Tryz.prog 96 #[alV u m, v] w (fun e w' => ∃ W, Canon W ∧ (∀ c, Has W c ↔ Has l c ∧ 0 ≤ c ∧ c ≤ m) ∧ RgB (fun c => 0 ≤ c ∧ c ≤ m ∧ ¬ Has W c) w e w') := by
 have HB0 := xH (trw.qg w (.cells #[.bool u, .int .i64 m] 47));have HV := xH (jl hv HB0.out);have hc0 : (w.alloc (.cells #[.bool u, .int .i64 m] 47)).cell? ⟨w.heap.size, 0, none⟩ = some (.bool u) := by unfold World.cell?; rw [heap_alloc_new]; rfl
 have hc1 : (w.alloc (.cells #[.bool u, .int .i64 m] 47)).cell? ⟨w.heap.size, 1, none⟩ = some (.int .i64 m) := by unfold World.cell?; rw [heap_alloc_new]; rfl
 clear hv;unfold alV;go_enter Tryz.func96, Tryz.ntmps96;go_upto_region 1 with (fail)
 generalize w.alloc _ = w1 at *;have HC0 := xH hc1;clear hc0 hc1;refine wp_region_held_drew (S := fun w' => Below w1.heap.size w1 w') (by kernel_rfl) (trw.qL w1) (fun hHeld => ?_);refine yT 0 ?_;simp only [xS];refine yT 1 ?_;simp only [xS];refine yF 2 (fun w' hSw => trw.qf hSw HC0.out) ?_;simp only [xS];refine yT 4 ?_;simp only [xS];refine yF 5 (fun w' hSw => trw.qf hSw HC0.out) ?_;simp only [xS];refine xD 3 rfl (fun K hK => ?_);go_simp;have HN := xH (new_any v l m _ (jl HV.out hHeld) hl (by omega) (by omega));refine HN.out.mono ?_;rintro e w2 ⟨v2, W, rfl, hS, hh, hz, hb⟩;have HB2 := xH (trw.qi hHeld hb);have HR := xH (not_any v2 W _ m w2 hS hz (by omega) (by omega));have HH := xH hh;have HS1 := xH hS;clear hz hb hh hS HN;dsimp only;refine hK.out _ _ HB2.out (fun hHeld => ?_);clear hK K;try simp only [xS]
 refine xD 6 rfl (fun K hK => ?_);go_simp;refine HR.out.mono ?_;rintro e w3 ⟨v3, C, rfl, hS, hh, hz, hb⟩;have HB3 := xH (trw.qi HB2.out hb);have HR3 := xH (ranges_any v3 C _ w3 hS hz);have HS := xH hS;have HH2 := xH hh;clear hz hb hh hS HR;dsimp only;refine hK.out _ _ HB3.out (fun hHeld => ?_);clear hK K;try simp only [xS]
 refine xD 7 rfl (fun K hK => ?_);go_simp;refine HR3.out.mono ?_;rintro e w4 ⟨v4, rfl, ho, hb⟩;have HB4 := xH (trw.qi HB3.out hb);have HO := xH ho;clear ho hb HR3;dsimp only;refine hK.out _ _ HB4.out (fun hHeld => ?_);clear hK K;try simp only [xS]
 refine yT 8 ?_;simp only [xS];refine wpAnyH_done (by kernel_rfl) ?_ _;go_wp2_with fail
 go_ret
 exact ⟨W, HS1.out, fun c => (HH.out c).trans (by rw [show min m 1114111 = m by omega]), v4, C, rfl, HS.out, fun c => (HH2.out c).trans (by rw [show min m 1114111 = m by omega]), ownR_mono HO.out (Nat.le_trans HB0.out.size HB3.out.size), trw.qi HB0.out HB4.out⟩
theorem wpList_store_al {ops : Array Oper} {rest : List Oper} {o : Oper} {a : Act} {w : World} {Q : Exit → Act → World → Prop} (hgd : o.guard = none) (hd : o.dst = none) (x y : Operand) (ho : o.op = .store 47 x y)
 (g : Nat) (hx : a.eval x = .pointer (some ⟨g, 0, none⟩)) (v0 v1 : Value) (hg : w.heap[g]? = some (.cells #[v0, v1] 47 (0, 0))) (u : Bool) (m : Int) (hy : a.eval y = alV u m)
 (h : wpList Tryz.prog ops Q rest a (w.setRow g #[.bool u, .int .i64 m])) : wpList Tryz.prog ops Q (o :: rest) a w :=
 wpList_plain hgd fun K hK => by
  have h2 := run_storeCells_at (P := Tryz.prog) g 0 47 [.bool u, .int .i64 m] 0 _ w hg (by simp) (by simp [Value.oneCell']);have hz : (sizeOf 47).run Tryz.prog w = .ok 2 w := by kernel_rfl
  have hst : (storeVar 47 ⟨g, 0, none⟩ (alV u m)).run Tryz.prog w = .ok () (w.setRow g #[.bool u, .int .i64 m]) := by unfold storeVar alV;simp [Sem.run_bind, hz, Value.cells, Result.andThen] at h2 ⊢;rw [h2]
  exact z91
theorem alInfo : (Tryz.prog.info? 47).map (·.size) = some 2 := by kernel_rfl
theorem results_al {fn : Func} {p : Tmp} (h : fn.results = #[.cell p 47]) (tmps : Array Value) (w : World) (g : Nat) (u : Bool) (m : Int) (hp : tmps.getD p undef = .pointer (some ⟨g, 0, none⟩)) (hg : w.heap[g]? = some (.cells #[.bool u, .int .i64 m] 47 (0, 0))) :
 (results fn tmps).run Tryz.prog w = .ok (alV u m) w := by
 exact results_cell_row h tmps w g 47 #[.bool u, .int .i64 m] (0, 0) _ hp hg Tryz.underlying47 rfl (by rw [alInfo]; rfl)
theorem alphabet_any (o : Int) (w : World) : Calls Tryz.prog 19 #[.int .i64 o] w (fun e w' => e = .returned (alV (decide (andI o 32 ≠ 0)) (if andI o 32 ≠ 0 then 1114111 else 255)) ∧ Below w.heap.size w w') := by
 have HG := xH (heap_alloc_new w (.cells #[.bool false, .int .i64 0] 47));by_cases h : andI o 32 = 0
 ·have hb : (bits BinOp.and IntKind.i64 o 32 != 0) = false := by unfold andI at h; simp [h]
  simp only [h, ne_eq, not_true_eq_false, decide_false, if_false];clear h;go_enter Tryz.func19, Tryz.ntmps19;go_wp2_with (refine wpList_store_al rfl rfl _ _ rfl w.heap.size rfl _ _ HG.out false 255 rfl ?_)
  refine xB (results_al rfl _ _ w.heap.size false 255 rfl (setRow_heap _ _ _ _ _ _ HG.out)) rfl ?_;exact ⟨rfl, rpw.jU _ _ _ _⟩
 ·have hb : (bits BinOp.and IntKind.i64 o 32 != 0) = true := by unfold andI at h; simp [h]
  simp only [h, ne_eq, not_false_eq_true, decide_true, if_true];clear h;go_enter Tryz.func19, Tryz.ntmps19;go_wp2_with (refine wpList_store_al rfl rfl _ _ rfl w.heap.size rfl _ _ HG.out true 1114111 rfl ?_)
  refine xB (results_al rfl _ _ w.heap.size true 1114111 rfl (setRow_heap _ _ _ _ _ _ HG.out)) rfl ?_;exact ⟨rfl, rpw.jU _ _ _ _⟩
theorem ScAt.cells {w : World} {b : Nat} {u : Bool} {m f : Int} (h : ScAt w b u m f) : w.cell? ⟨b, 0, none⟩ = some (.bool u) ∧ w.cell? ⟨b, 1, none⟩ = some (.int .i64 m) ∧ w.cell? ⟨b, 2, none⟩ = some (.int .i64 f) ∧ w.frozen? ⟨b, 2, none⟩ = false := by unfold ScAt at h;unfold World.cell? World.frozen?;rw [h];exact ⟨rfl, rfl, rfl, rfl⟩
theorem has_any (b : Nat) (u : Bool) (m f n : Int) (w : World) (h : ScAt w b u m f) : Calls Tryz.prog 84 #[.pointer (some ⟨b, 0, none⟩), .int .i64 n] w (trw.BoolB (decide (andI f n ≠ 0)) w) := by
 obtain ⟨-, -, c2, -⟩ := h.cells;clear h;go_enter Tryz.func84, Tryz.ntmps84;go_wp2_with fail
 go_ret
 refine ⟨?_, Below.refl _ _⟩;unfold andI;by_cases e : bits BinOp.and IntKind.i64 f n = 0 <;> simp [e]
theorem change_any (b : Nat) (u : Bool) (m f : Int) (x : Lab) (w : World) (h : ScAt w b u m f) (v : Value) : Calls Tryz.prog 53 #[.pointer (some ⟨b, 0, none⟩), ndV x] w (fun e w' => e = .returned (.tuple #[]) ∧ ScAt w' b u m (turnI f x.on x.off) ∧ Ch b v v w w') := by
 have HB := xH (trw.qg w (.cells (ndC x).toArray 27));have HS := xH (h.keep HB.out);have HG := xH (heap_alloc_new w (.cells (ndC x).toArray 27));have HL := xH h.lt;clear h;unfold ndC at HB HS HG;unfold ndV;go_enter Tryz.func53, Tryz.ntmps53;go_upto_region 1 with (fail)
 generalize w.alloc _ = w1 at *;obtain ⟨-, -, c2, f2⟩ := HS.out.cells;have c9 := yC 9 (.int .i64 x.on) HG;have c10 := yC 10 (.int .i64 x.off) HG
 go_still_tail 13, (by kernel_rfl)
 change wpList _ _ _ _ _ w1.drew;have HD := xH (show Below w1.heap.size w1 w1.drew from trw.qL w1);have HS2 := xH (HS.out.keep HD.out);have HB2 := xH (trw.qi HB.out HD.out);clear c2 f2 c9 c10;obtain ⟨-, -, c2, f2⟩ := HS2.out.cells;generalize w1.drew = w2 at *;go_wp2_with fail
 refine bodyPost_end (results_none rfl _ _ _) rfl ?_;refine ⟨rfl, tkw.heap_set HS2.out, HB2.out.os, HB2.out.tape, HB2.out.output, by have := HB2.out.size; simp [World.setCell]; exact this, fun q hq hb _ => (heap_setCell_other _ _ q _ (show q ≠ b from hb)).trans (HB2.out.block q hq), fun _ e => Or.inl e⟩
theorem mode_any (b : Nat) (u : Bool) (m f n : Int) (w : World) (h : ScAt w b u m f) : Calls Tryz.prog 85 #[.pointer (some ⟨b, 0, none⟩), .int .i64 n] w (trw.IntB (repM f 20 n) w) := by
 have HH := xH (has_any b u m f 16 w h);clear h;go_enter Tryz.func85, Tryz.ntmps85;go_wp2_with fail
 refine HH.out.mono ?_;rintro e w1 ⟨rfl, hb⟩;by_cases h : andI f 16 = 0
 ·simp only [h, ne_eq, not_true_eq_false, decide_false];go_wp2_with fail
  go_ret
  exact ⟨by simp [repM, h], hb⟩
 ·simp only [h, ne_eq, not_false_eq_true, decide_true];by_cases h0 : n = 0
  ·subst h0;go_wp2_with fail
   go_ret
   exact ⟨by simp [repM, h], hb⟩
  by_cases h1 : n = 1
  ·subst h1;go_wp2_with fail
   go_ret
   exact ⟨by simp [repM, h], hb⟩
  have q0 : (n == 0) = false := by simpa using h0
  have q1 : (n == 1) = false := by simpa using h1
  go_wp2_with fail
  go_ret
  exact ⟨by simp [repM, h, h0, h1], hb⟩
theorem assertion_any (b : Nat) (u : Bool) (m f n : Int) (w : World) (h : ScAt w b u m f) : Calls Tryz.prog 83 #[.pointer (some ⟨b, 0, none⟩), .int .i64 n] w (trw.IntB (assN f n) w) := by
 have HH := xH (has_any b u m f 2 w h);clear h;go_enter Tryz.func83, Tryz.ntmps83;go_wp2_with fail
 refine HH.out.mono ?_;rintro e w1 ⟨rfl, hb⟩;by_cases h : andI f 2 = 0
 ·simp only [h, ne_eq, not_true_eq_false, decide_false];go_wp2_with fail
  go_ret
  exact ⟨by simp [assN, h], hb⟩
 ·simp only [h, ne_eq, not_false_eq_true, decide_true];by_cases h0 : n = 1
  ·subst h0;go_wp2_with fail
   go_ret
   exact ⟨by simp [assN, h], hb⟩
  by_cases h1 : n = 2
  ·subst h1;go_wp2_with fail
   go_ret
   exact ⟨by simp [assN, h], hb⟩
  have q0 : (n == 1) = false := by simpa using h0
  have q1 : (n == 2) = false := by simpa using h1
  go_wp2_with fail
  go_ret
  exact ⟨by simp [assN, h, h0, h1], hb⟩
end fkw
end
section
namespace fkw
open sq
open Go.Sort Go Go.RowKit Go.Maps setp setw tkp trp trw rpp rsp fgp ucdp ucdw
def AlOk (u : Bool) (m : Int) : Prop := (u = true ∧ m = 1114111) ∨ (u = false ∧ m = 255)
theorem AlOk.b {u : Bool} {m : Int} (h : AlOk u m) : 0 ≤ m ∧ m ≤ 1114111 := by rcases h with h | h <;> omega
def ClB (S : List Rg) (w : World) (e : Ending) (w' : World) : Prop := Canon S ∧ ∃ v, e = .returned v ∧ OwnR w' w.heap.size v S ∧ Below w.heap.size w w'
theorem fk_wf {S : List Rg} (h : Canon S) : Wf S := fun r hr => by
 have := h.2 r hr;omega
theorem fk_rs {w : World} {n : Nat} {v : Value} {S : List Rg} (h : OwnR w n v S) (hS : Canon S) : RsAt w v S := rsw.rg_rs (h := fun _ => false) (rsw.own_rg h (fk_wf hS) (fun i hi => by cases hi))
theorem cls_is {u : Bool} {m : Int} {l W Z : List Rg} {neg : Bool} (hu : AlOk u m) (hW : Canon W) (hW2 : ∀ c, Has W c ↔ Has l c ∧ 0 ≤ c ∧ c ≤ m)
 (hZ : neg = true → Canon Z ∧ ∀ c, Has Z c ↔ 0 ≤ c ∧ c ≤ m ∧ ¬ Has W c) : (if neg = true then Z else W) = setP u m l false neg := by
 have y := normR_only hu.b.2 hW hW2;have yn : normR m W = W := (normR_only hu.b.2 hW fun c => ⟨fun e => ⟨e, ((hW2 c).1 e).2⟩, fun e => e.1⟩).symm;unfold setP;simp only [Bool.false_eq_true, if_false];rw [← y, yn];cases neg with
 | false => rfl
 | true => exact notR_only hu.b.2 (hZ rfl).1 hW (hZ rfl).2
theorem cls_is2 {u : Bool} {m : Int} {l N C W Z : List Rg} {neg : Bool} (hu : AlOk u m) (hN : ∀ c, Has N c ↔ Has l c ∧ 0 ≤ c ∧ c ≤ 1114111) (hC : ∀ c, Has C c ↔ Has N c ∨ ∃ d, Has N d ∧ c ∈ jy d u)
 (hW : Canon W) (hW2 : ∀ c, Has W c ↔ Has C c ∧ 0 ≤ c ∧ c ≤ m) (hZ : neg = true → Canon Z ∧ ∀ c, Has Z c ↔ 0 ≤ c ∧ c ≤ m ∧ ¬ Has W c) : (if neg = true then Z else W) = setP u m l true neg :=
 class_is (C := C) hu (fun c => caseM_has (ja hu.b.2 l).2 c) hN hC hW (fun c => by rw [if_pos rfl]; exact hW2 c) hZ
theorem class_any (b : Nat) (u : Bool) (m f : Int) (v : Value) (l : List Rg) (neg : Bool) (w : World) (ha : AlOk u m) (h : ScAt w b u m f) (hv : RsAt w v l) (hl : l.length ≤ 1000000) (hT : Tab3 w) :
 Calls Tryz.prog 80 #[.pointer (some ⟨b, 0, none⟩), v, .bool neg] w (ClB (setP u m l (decide (andI f 1 ≠ 0)) neg) w) := by
 have HS := xH h;have HH := xH (has_any b u m f 1 w h);have HA := xH ha;have HV := xH hv;have HT := xH hT;obtain ⟨cl, hcl⟩ : ∃ cl, decide (andI f 1 ≠ 0) = cl := ⟨_, rfl⟩;rw [hcl] at HH ⊢;clear h hv ha hT hcl;go_enter Tryz.func80, Tryz.ntmps80;go_wp2_with fail
 refine HH.out.mono ?_;rintro e w1 ⟨rfl, hb⟩;have HB := xH hb;obtain ⟨c0, c1, -, -⟩ := (HS.out.keep hb).cells;have HV1 := xH (jl HV.out HB.out);have HS1 := xH (HS.out.keep hb);clear hb HH;cases cl with
 | false =>
  cases neg with
  | false =>
   have HR := xH (restricted_any u m v l w1 HV1.out hl HA.out.b.1 HA.out.b.2);unfold alV at HR;go_wp2_with fail
   refine HR.out.mono ?_;rintro e w2 ⟨v2, W, rfl, hW, hh, ho, hb⟩;try dsimp only
   go_wp2_with fail
   go_ret
   have e := cls_is (Z := []) (neg := false) HA.out hW hh (by intro h; cases h);rw [if_neg (by simp)] at e;subst e;exact ⟨hW, v2, rfl, ownR_mono ho HB.out.size, trw.qi HB.out hb⟩
  | true =>
   have HR := xH (others_any u m v l w1 HV1.out hl HA.out.b.1 HA.out.b.2);exact z48
 | true =>
  have HC := xH (cases_any u m v l w1 HV1.out hl (fun i hi => trw.qf HB.out (HT.out i hi)));unfold alV at HC;go_wp2_with fail
  refine HC.out.mono ?_;rintro e w2 ⟨N, hN, v2, C, rfl, hC, hh, ho, hb⟩;have HB2 := xH (trw.qi HB.out hb);obtain ⟨d0, d1, -, -⟩ := (HS1.out.keep hb).cells;have HN := xH hN;have HC2 := xH hC;have HH2 := xH hh;have HV2 := xH (fk_rs ho hC);have hcl := canon_len hC;have hcl2 := rsw.canon_half hC;clear hb hN hC hh ho c0 c1 HC;try dsimp only
  cases neg with
  | false =>
   have HR := xH (restricted_any u m v2 C w2 HV2.out (by omega) HA.out.b.1 HA.out.b.2);unfold alV at HR;go_wp2_with fail
   refine HR.out.mono ?_;rintro e w3 ⟨v3, W, rfl, hW, hh, ho, hb⟩;try dsimp only
   go_wp2_with fail
   go_ret
   have e := cls_is2 (Z := []) (neg := false) HA.out HN.out HH2.out hW hh (by intro h; cases h);rw [if_neg (by simp)] at e;subst e;exact ⟨hW, v3, rfl, ownR_mono ho HB2.out.size, trw.qi HB2.out hb⟩
  | true =>
   have HR := xH (others_any u m v2 C w2 HV2.out (by omega) HA.out.b.1 HA.out.b.2);unfold alV at HR;go_wp2_with fail
   refine HR.out.mono ?_;rintro e w3 ⟨W, hW, hh, v3, Z, rfl, hZ, hz, ho, hb⟩;try dsimp only
   go_wp2_with fail
   go_ret
   have e := cls_is2 (neg := true) HA.out HN.out HH2.out hW hh (fun _ => ⟨hZ, hz⟩);rw [if_pos rfl] at e;subst e;exact ⟨hZ, v3, rfl, ownR_mono ho HB2.out.size, trw.qi HB2.out hb⟩
theorem dot_any (b : Nat) (u : Bool) (m f : Int) (w : World) (ha : AlOk u m) (h : ScAt w b u m f) :
 Calls Tryz.prog 81 #[.pointer (some ⟨b, 0, none⟩)] w (ClB (setP u m (if andI f 4 = 0 then [(10, 10)] else []) false true) w) := by
 have HS := xH h;have HH := xH (has_any b u m f 4 w h);have HA := xH ha;obtain ⟨cl, L, hcl, hL, hf, ht⟩ : ∃ (cl : Bool) (L : List Rg), decide (andI f 4 ≠ 0) = cl ∧ (if andI f 4 = 0 then [(10, 10)] else []) = L ∧ (cl = false → L = [(10, 10)]) ∧ (cl = true → L = []) := ⟨_, _, rfl, rfl, fun h => if_pos (by simpa using h), fun h => if_neg (by simpa using h)⟩;rw [hcl] at HH;rw [hL];clear h ha hcl hL;go_enter Tryz.func81, Tryz.ntmps81;go_wp2_with fail
 refine HH.out.mono ?_;rintro e w1 ⟨rfl, hb⟩;have HB := xH hb;obtain ⟨c0, c1, -, -⟩ := (HS.out.keep hb).cells;clear hb HH;cases cl with
 | false =>
  have hl := hf rfl;clear hf ht;subst hl;have HO := xH (rsw.own_lit (R := [(10, 10)]) (n := 1) (B := w1.heap.size) (cs := #[.int .i64 10, .int .i64 10]) (w := w1) rfl rfl rfl (by simp) (by simp));have HBA := xH (trw.qg w1 (.cells #[.int .i64 10, .int .i64 10] 57));have HR := xH (others_any u m (.slice (some ⟨w1.heap.size, 0, none⟩) 1 1) [(10, 10)] _ (fk_rs HO.out ⟨by simp, by intro r hr; simp at hr; subst hr; simp⟩) (by simp) HA.out.b.1 HA.out.b.2);unfold alV at HR;go_wp2_with fail
  refine HR.out.mono ?_;rintro e w2 ⟨W, hW, hh, v2, Z, rfl, hZ, hz, ho, hb⟩;try dsimp only
  go_wp2_with fail
  go_ret
  have e := cls_is (neg := true) HA.out hW hh (fun _ => ⟨hZ, hz⟩);rw [if_pos rfl] at e;subst e;exact ⟨hZ, v2, rfl, ownR_mono ho (Nat.le_trans HB.out.size HBA.out.size), trw.qi (trw.qi HB.out HBA.out) hb⟩
 | true =>
  have hl := ht rfl;clear hf ht;subst hl;have HR := xH (others_any u m (.slice none 0 0) [] w1 (fk_rs (qm _ 0) canon_nil) (by simp) HA.out.b.1 HA.out.b.2);exact z48
end fkw
end
section
namespace fkw
open sq
open Go.Sort Go Go.RowKit Go.Maps tkp trp trw rpp rsp rsw fgp
open rpw (sees jB qU fC jP FSub vw jQ app_sub jH jm own_below qp oneR zk jV qA qh ql jU)
theorem wpList_append_k {ops : Array Oper} {rest : List Oper} {o : Oper} {a : Act} {w : World} {Q : Exit → Act → World → Prop} (hgd : o.guard = none) (s x : Operand)
 (ho : o.op = .call { callee := .builtin .append, args := #[s, x], argTypes := #[25, 25] }) (h : Nat → Bool) (n : Nat) (v : Value) (f : F) (hs : a.eval s = v) (hown : OwnH h n w v f)
 (vx : Value) (gf : F) (hx' : a.eval x = vx) (hgf : jr (sees (hx h v) w) vx gf) (hlen : f.len + gf.len ≤ 200000) (hbase : n ≤ w.heap.size)
 (hq : ∀ v' w', OwnH h n w' v' (F.app f gf) → (∀ b, Ch b v v' w w') → wpList Tryz.prog ops Q rest (a.put o.dst v') w') :
 wpList Tryz.prog ops Q (o :: rest) a w := by
 obtain ⟨i0, hi, hz0, hz1, hz2⟩ := info_parts infoNd;by_cases h0 : gf.len = 0
 ·obtain ⟨ga, gc, rfl, hgc1, hgc2, _⟩ := hgf;have hgn : gf = .nil := by
   cases gf with
   | nil => rfl
   | cons _ _ _ => simp [F.len] at h0
  subst hgn;refine wpList_plain hgd fun K hK => ?_
  have hrun := setw.run_append_zero (P := Tryz.prog) (w := w) 25 o.type i0 Tryz.underlying25 hi hown.1 ga gc;unfold Oper.wp;simp [execOp, ho, resolve, invoke, builtin, hs, hx', hrun, Result.andThen, F.len];exact hK _ _ (hq v w (by rw [app_nil]; exact hown) (fun b => Ch.refl b v w))
 ·obtain ⟨ga, gc, rfl, hgc1, hgc2, h1 | ⟨b, go, rfl, hfa⟩⟩ := hgf
  ·exact absurd h1 h0
  refine wpList_plain hgd fun K hK => ?_
  obtain ⟨v', w', hr, h2, h3, _, h5⟩ := run_append_own_at (P := Tryz.prog) w n 25 o.type 27 i0 _ 12 136 Tryz.underlying25 hi hz0 hz1 hz2 rfl (by decide) v f.len (fC f) hown.1 ⟨b, go, none⟩ gf.len gc (fC gf) (jP gf)
   (fun j u hj => by rw [add_plain];exact sees_to (fAt_C hfa j u hj)) (fC_one (fAt_sub hfa)) (by unfold maxLen; omega) (by omega) hbase
  unfold Oper.wp execOp;simp only [ho, resolve, invoke, builtin, Sem.run_bind, Sem.run_pure, Result.andThen_ok, List.map_toArray, List.map_cons, List.map_nil, hs, hx', hr];have hlt := World.ownsRow.lt hown.1;have hblk : ∀ q, q < w.heap.size → v.ownBlock ≠ some q → w'.heap[q]? = w.heap[q]? := fun q hq hne => h3.block q hq (fun e => hne e.symm)
  have hbw : Below n w w' := (Below.refl n w).grown h3 hbase (fun k hk => (hlt k hk).1);have hv' : ∀ g, v'.ownBlock = some g → v.ownBlock = some g ∨ w.heap.size ≤ g := fun g hg' => by exact z127
  have hK2 := hK _ _ (hq v' w' ⟨by rw [jd, jQ]; exact h2, fun e => by rw [jd] at e;exact absurd (show gf.len = 0 by omega) h0, ?_⟩ (fun b => ⟨hbw.os, hbw.tape, hbw.output, hbw.size, fun q hq _ hne => hblk q hq hne, fun g hg => hv' g hg⟩))
  ·simpa [Oper.upon] using hK2
  ·have key : ∀ a u, hx h v a.block = false → w.cell? a = some u → hx h v' a.block = false ∧ w'.cell? a = some u := fun a u k1 kc => by exact z75
   exact app_sub (vw (qU key) hown.2.2) (vw (qU key) (fAt_sub hfa))
theorem hx_old2 {h : Nat → Bool} {n m base : Nat} {w : World} {v : Value} {e : TypeId} {s k : Nat} {xs : List Value} (H : Old h n) (hn : n ≤ m) (hr : w.ownsRow base e s v k xs) (hw : w.heap.size ≤ m) : Old (hx h v) m := fun i hi => by
 exact z126
structure Cx (w0 w : World) (h : Nat → Bool) (b : Nat) (u : Bool) (m f : Int) : Prop where
 be : Below w0.heap.size w0 w
 old : Old h w.heap.size
 hb : h b = true
 b0 : w0.heap.size ≤ b
 sc : ScAt w b u m f
def Vis (h : Nat → Bool) (v : Value) : Prop := ∀ g, v.ownBlock = some g → h g = false
theorem ScAt.ch0 {w w' : World} {h : Nat → Bool} {b : Nat} {v v' : Value} {u : Bool} {m f : Int} (H : ScAt w b u m f) (hc : Ch (w.heap.size) v v' w w') (hv : Vis h v) (hb : h b = true) : ScAt w' b u m f :=
 (hc.block b H.lt (Nat.ne_of_lt H.lt) (fun e => by rw [hv b e] at hb; cases hb)).trans H
theorem vis_nil (h : Nat → Bool) : Vis h nil3 := fun _ e => by cases e
theorem Vis.next {h : Nat → Bool} {b : Nat} {v v' : Value} {w w' : World} (hv : Vis h v) (hc : Ch b v v' w w') (ho : Old h w.heap.size) : Vis h v' := fun g e => by
 rcases hc.own g e with e2 | e2
 ·exact hv g e2
 ·cases q : h g with
  | false => rfl
  | true => have := ho g q; omega
theorem Cx.keep {w0 w w' : World} {h : Nat → Bool} {b : Nat} {u : Bool} {m f : Int} (C : Cx w0 w h b u m f) (hb : Below w.heap.size w w') : Cx w0 w' h b u m f :=
 ⟨C.be.trans (hb.mono C.be.size), C.old.le hb.size, C.hb, C.b0, C.sc.keep hb⟩
theorem Cx.ch {w0 w w' : World} {h : Nat → Bool} {b : Nat} {u : Bool} {m f f' : Int} {v v' : Value} (C : Cx w0 w h b u m f) (hc : Ch b v v' w w') (hs : ScAt w' b u m f') (hv : ∀ g, v.ownBlock = some g → w0.heap.size ≤ g) : Cx w0 w' h b u m f' :=
 ⟨hc.below C.be C.be.size C.b0 hv, C.old.le hc.size, C.hb, C.b0, hs⟩
theorem Cx.hide {w0 w : World} {h h' : Nat → Bool} {b : Nat} {u : Bool} {m f : Int} (C : Cx w0 w h b u m f) (ho : Old h' w.heap.size) (hb : h' b = true) : Cx w0 w h' b u m f := ⟨C.be, ho, hb, C.b0, C.sc⟩
theorem Ch.after {b : Nat} {v v' : Value} {w w1 w' : World} (hb : Below w.heap.size w w1) (h : Ch b v v' w1 w') : Ch b v v' w w' := (Ch.of_below hb b v).trans h
theorem Ch.row {b : Nat} {v v' : Value} {w w' : World} (h : Ch b v v' w w') {q : Nat} (hq : w.heap.size ≤ q) (cs : Array Value) : Ch b v v' w (w'.setRow q cs) :=
 ⟨h.os, h.tape, h.output, by rw [tkw.setRow_size]; exact h.size, fun i hi hb hv => (tkw.setRow_other _ _ i cs (by omega)).trans (h.block i hi hb hv), h.own⟩
theorem kids_own {h : Nat → Bool} {n : Nat} {w : World} {v : Value} {f : F} (H : OwnH h n w v f) (hv : Vis h v) : jr (sees h w) v f := by
 rcases H.1.2 with ⟨hv0, h0⟩ | ⟨g, cap, cur, hv2, hg, hh, h1, h2, _, _⟩
 ·exact ⟨none, 0, by rw [hv0, h0], by omega, by decide, Or.inl h0⟩
 ·unfold maxLen at h2;refine ⟨_, cap, hv2, h1, by omega, Or.inr ⟨g, 0, rfl, own_fAtH H.2.2 (qU fun a u k1 kc => ⟨?_, kc⟩) fun j u hj => jB.2 ⟨hv g (by rw [hv2]; rfl), ?_⟩⟩⟩
  ·simp only [hx, dE] at k1;exact k1.1
  ·rw [Nat.zero_add, World.ownsRow.cellAt (hv2 ▸ H.1) j (by have := (List.getElem?_eq_some_iff.1 hj).1; rw [jP] at this; exact this)];exact hj
def h1 (h : Nat → Bool) (q : Nat) (i : Nat) : Bool := h i || decide (i = q)
theorem h1_old {h : Nat → Bool} {n q : Nat} (ho : Old h n) {k : Nat} (hn : n ≤ k) (hq : q < k) : Old (h1 h q) k := fun i hi => by
 simp only [h1, Bool.or_eq_true, dF] at hi;rcases hi with hi | hi
 ·have := ho i hi; omega
 ·omega
theorem h1_mono (h : Nat → Bool) (q : Nat) : ∀ i, h i = true → h1 h q i = true := fun i hi => by simp [h1, hi]
theorem h1_self (h : Nat → Bool) (q : Nat) : h1 h q q = true := by simp [h1]
theorem nd_unh1 {h : Nat → Bool} {q : Nat} {w : World} {cs : Array Value} {t : Nd} (H : NdAt (sees (h1 h q) w) t) : NdAt (sees h (w.setRow q cs)) t :=
 qY (qU fun a v k1 hc => by simp only [h1, dE, dD] at k1;exact ⟨k1.1, rpw.jI cs hc k1.2⟩) H
def PutB (n : Nat) (h : Nat → Bool) (b : Nat) (u : Bool) (m : Int) (v : Value) (g0 : F) (R : F × Int) (w : World) (e : Ending) (w' : World) : Prop :=
 ∃ v' g, e = .returned v' ∧ OwnH h n w' v' (F.app g0 g) ∧ strip g = R.1 ∧ ScAt w' b u m R.2 ∧ Ch b v v' w w'
def OneB (h : Nat → Bool) (b : Nat) (u : Bool) (m : Int) (R : F × Int) (w : World) (e : Ending) (w' : World) : Prop :=
 ∃ y j, e = .returned (ndV y) ∧ NdAt (sees h w') (y, j) ∧ strip (F.one y j) = oneF 12 R.1 ∧ ScAt w' b u m R.2 ∧ Ch b nil3 nil3 w w'
def PutC (w0 : World) (u : Bool) (m : Int) (x : Lab) (k : F) : Prop := ∀ (w : World) (h : Nat → Bool) (b : Nat) (f : Int) (v : Value) (g0 : F), Cx w0 w h b u m f → OwnH h w0.heap.size w v g0 → Vis h v → g0.len + k.size ≤ 100000 →
 Calls Tryz.prog 31 #[.pointer (some ⟨b, 0, none⟩), v, ndV x] w (PutB w0.heap.size h b u m v g0 (putP u m (fun g => (bothP u m k g).1) (fun g => (bothP u m k g).2) x f) w)
def AllC (w0 : World) (u : Bool) (m : Int) (k : F) : Prop := ∀ (w : World) (h : Nat → Bool) (b : Nat) (f : Int) (v kv : Value) (g0 : F), Cx w0 w h b u m f → OwnH h w0.heap.size w v g0 → Vis h v → g0.len + k.size ≤ 100000 → jr w0 kv k →
 Calls Tryz.prog 54 #[.pointer (some ⟨b, 0, none⟩), v, kv] w (PutB w0.heap.size h b u m v g0 (bothP u m k f).1 w)
def ResC (w0 : World) (u : Bool) (m : Int) (x : Lab) (k : F) : Prop := ∀ (w : World) (h : Nat → Bool) (b : Nat) (f : Int), Cx w0 w h b u m f → k.size ≤ 100000 →
 Calls Tryz.prog 20 #[.pointer (some ⟨b, 0, none⟩), ndV x] w (OneB h b u m (putP u m (fun g => (bothP u m k g).1) (fun g => (bothP u m k g).2) x f) w)
def KidsB (h : Nat → Bool) (r : F) (w : World) (e : Ending) (w' : World) : Prop := ∃ v g, e = .returned v ∧ OwnH h w.heap.size w' v g ∧ strip g = r ∧ Below w.heap.size w w'
def KidsC (w0 : World) (u : Bool) (m : Int) (k : F) : Prop := ∀ (w : World) (h : Nat → Bool) (b : Nat) (f : Int) (kv : Value), Cx w0 w h b u m f → k.size ≤ 100000 → jr w0 kv k →
 Calls Tryz.prog 56 #[.pointer (some ⟨b, 0, none⟩), kv] w (KidsB h (bothP u m k f).2 w)
theorem result_of {w0 : World} {u : Bool} {m : Int} {x : Lab} {k : F} (hP : PutC w0 u m x k) (hn : NdAt w0 (x, k)) : ResC w0 u m x k := by
 intro w h b f hC hk;obtain ⟨R, hR⟩ : ∃ R, putP u m (fun g => (bothP u m k g).1) (fun g => (bothP u m k g).2) x f = R := ⟨_, rfl⟩;rw [hR];have z1 := World.size_alloc w (.cells (ndC x).toArray 27);have z2 := World.size_alloc (w.alloc (.cells (ndC x).toArray 27)) (.cells zC.toArray 27);have b1 := qg w (.cells (ndC x).toArray 27);have b2 := qg (w.alloc (.cells (ndC x).toArray 27)) (.cells zC.toArray 27);have g1 := heap_alloc_new w (.cells (ndC x).toArray 27);have g2 := heap_alloc_new (w.alloc (.cells (ndC x).toArray 27)) (.cells zC.toArray 27);rw [z1] at g2 z2;have HB := xH (qi b1 b2);have HG := xH ((b2.block _ (by omega)).trans g1);have HRV := xH g2;have HZ := xH z2;have HC := xH (hC.keep (qi b1 b2));have HLT := xH hC.sc.lt;have HP := xH hP;have HNO := xH (qp hn);have HRD := xH hR;clear z1 b1 b2 g1 g2 z2 hC hP hn hR;unfold ndC zC at HB HG HRV HZ HC;unfold ndV;go_enter Tryz.func20, Tryz.ntmps20;go_upto_region 1 with (fail)
 generalize (w.alloc _).alloc _ = w1 at *;have HCall := xH (HP.out w1 (h1 h (w.heap.size + 1)) b f nil3 .nil (HC.out.hide (h1_old HC.out.old (xL _) (by have := HZ.out; omega)) (h1_mono _ _ _ HC.out.hb)) (ownH_nil _ _ _) (vis_nil _) (by simpa [F.len] using hk));rw [HRD.out] at HCall;go_wp2_with (first
  | (refine ql rfl _ rfl w.heap.size rfl x HG.out ?_))
 refine HCall.out.mono ?_;rintro e w2 ⟨v', g, rfl, ho, hs, hsc, hch⟩;have HO := xH (show OwnH (h1 h (w.heap.size + 1)) w0.heap.size w2 v' g from ho);have HS := xH hs;have HSC := xH hsc;have HCH := xH (Ch.after HB.out hch);have HG2 := xH ((hch.block _ (by have := HZ.out; omega) (by have := HLT.out; omega) (by intro e; cases e)).trans HRV.out);have HV := xH ((vis_nil (h1 h (w.heap.size + 1))).next hch (h1_old HC.out.old (xL _) (by have := HZ.out; omega)));clear ho hs hsc hch HCall;have HK := xH (kids_own HO.out HV.out);have HN1 := xH (zk 12 (by unfold I64; omega) HK.out);have H1 := xH (qp HN1.out);have HE := xH (show OneB h b u m R w (.returned (ndV (oneR 12 v' g).1)) (w2.setRow (w.heap.size + 1) (ndC (oneR 12 v' g).1).toArray) from
  ⟨_, (oneR 12 v' g).2, rfl, nd_unh1 HN1.out, by rw [jV, HS.out], (tkw.setRow_other _ _ _ _ (by have := HLT.out; omega)).trans HSC.out, (HCH.out.row (by omega) _).drop⟩)
 obtain ⟨a, cap, hv'⟩ := kids_len HK.out;subst hv';dsimp only;by_cases hl : g.len = 1
 ·obtain ⟨y, j, rfl⟩ : ∃ y j, g = .cons y j .nil := by
   match g, hl with
   | .nil, h => simp [F.len] at h
   | .cons x k .nil, _ => exact ⟨x, k, rfl⟩
   | .cons _ _ (.cons _ _ _), h => simp [F.len] at h
  obtain ⟨bb, o, q, hv, _, _, _, hf⟩ := kid_at HK.out (i := 0) rfl;cases hv;have HCS := xH (fun j u hj => sees_to (hf.1 j u hj));clear hf hl;go_wp2_with (first
   | (refine jv rfl _ rfl bb (o + 0 * 12) rfl y HCS.out ?_)
   | (refine qh rfl rfl _ _ rfl (w.heap.size + 1) rfl _ y HG2.out rfl H1.out rfl ?_))
  refine xB (qA rfl _ _ (w.heap.size + 1) y rfl (setRow_heap _ _ _ _ _ _ HG2.out)) rfl ?_;exact HE.out
 ·have hl2 : ¬ (g.len : Int) = 1 := by omega
  have hO : oneR 12 (.slice a g.len cap) g = ({ lab 12 0 with kv := .slice a g.len cap }, g) := by
   match g, hl with
   | .nil, _ => rfl
   | .cons x k .nil, h => exact absurd rfl h
   | .cons _ _ (.cons _ _ _), _ => rfl
  rw [hO] at HE H1;clear hl hO;go_wp2_with (refine qh rfl rfl _ _ rfl (w.heap.size + 1) rfl _ { lab 12 0 with kv := .slice a g.len cap } HG2.out rfl H1.out rfl ?_)
  refine xB (qA rfl _ _ (w.heap.size + 1) { lab 12 0 with kv := .slice a g.len cap } rfl (setRow_heap _ _ _ _ _ _ HG2.out)) rfl ?_;exact HE.out
end fkw
end
section
namespace fkp
open sq
open Go tkp trp rpp rsp setp setw fgp
theorem fk_app_len : ∀ f g : F, (F.app f g).len = f.len + g.len
 | .nil, g => by simp [F.app, F.len]
 | .cons x k r, g => by simp only [F.app, F.len, fk_app_len r g];omega
theorem own_len1 (u : Bool) (m : Int) (x : Lab) (k : F) (f : Int) : (ownF u m x k f).len = 1 := by
 unfold ownF
 repeat' split
 all_goals rfl
theorem put_len (u : Bool) (m : Int) (rp : Int → F × Int) (rk : Int → F) (x : Lab) (f : Int) (z : Nat) (h : ∀ g, (rp g).1.len ≤ z) : (putP u m rp rk x f).1.len ≤ z + 1 := by
 unfold putP;split
 ·simp [F.len]
 split
 ·have := h f; omega
 split
 ·have := h (turnI f x.on x.off); simp only; omega
 ·simp only [own_len1]; omega
theorem both_len (u : Bool) (m : Int) : ∀ (l : F) (f : Int), (bothP u m l f).1.1.len ≤ l.size
 | .nil, _ => by simp [bothP, F.len, F.size]
 | .cons x k r, f => by rw [bothP];simp only [fk_app_len, F.size];have h1 := put_len u m (fun g => (bothP u m k g).1) (fun g => (bothP u m k g).2) x f k.size (fun g => both_len u m k g);have h2 := both_len u m r (putP u m (fun g => (bothP u m k g).1) (fun g => (bothP u m k g).2) x f).2;omega
end fkp
end
section
namespace fkw
open sq
open Go.Sort Go Go.RowKit Go.Maps tkp trp trw rpp rsp rsw fgp
open rpw (sees jB qU fC jP FSub vw jQ app_sub jH jm own_below qp oneR zk jV qA qh ql jU jc)
def scC (u : Bool) (m f : Int) : Array Value := #[.bool u, .int .i64 m, .int .i64 f]
theorem scInfo : (Tryz.prog.info? 50).map (·.size) = some 3 := by kernel_rfl
theorem wpList_load_sc {ops : Array Oper} {rest : List Oper} {o : Oper} {a : Act} {w : World} {Q : Exit → Act → World → Prop} (hgd : o.guard = none) (x : Operand) (ho : o.op = .load 50 x)
 (b : Nat) (hx : a.eval x = .pointer (some ⟨b, 0, none⟩)) (u : Bool) (m f : Int) (hc : ScAt w b u m f)
 (h : wpList Tryz.prog ops Q rest (a.put o.dst (.agg #[.bool u, .int .i64 m, .int .i64 f])) w) : wpList Tryz.prog ops Q (o :: rest) a w :=
 wpList_load_at hgd 50 x ho ⟨b, 0, none⟩ hx [.bool u, .int .i64 m, .int .i64 f] _ (fun j v hj => by rw [add_plain, Nat.zero_add];unfold ScAt at hc;unfold World.cell?;rw [hc];simpa using hj) Tryz.underlying50 rfl (by rw [scInfo]; rfl) h
theorem wpList_store_sc {ops : Array Oper} {rest : List Oper} {o : Oper} {a : Act} {w : World} {Q : Exit → Act → World → Prop} (hgd : o.guard = none) (hd : o.dst = none) (x y : Operand) (ho : o.op = .store 50 x y)
 (g : Nat) (hx : a.eval x = .pointer (some ⟨g, 0, none⟩)) (u0 : Bool) (m0 f0 : Int) (hg : ScAt w g u0 m0 f0) (u : Bool) (m f : Int) (hy : a.eval y = .agg #[.bool u, .int .i64 m, .int .i64 f])
 (h : wpList Tryz.prog ops Q rest a (w.setRow g (scC u m f))) : wpList Tryz.prog ops Q (o :: rest) a w :=
 wpList_plain hgd fun K hK => by
  have h2 := run_storeCells_at (P := Tryz.prog) g 0 50 [.bool u, .int .i64 m, .int .i64 f] 0 _ w hg (by simp) (by simp [Value.oneCell']);have hz : (sizeOf 50).run Tryz.prog w = .ok 3 w := by kernel_rfl
  have hst : (storeVar 50 ⟨g, 0, none⟩ (.agg #[.bool u, .int .i64 m, .int .i64 f])).run Tryz.prog w = .ok () (w.setRow g (scC u m f)) := by unfold storeVar scC;simp [Sem.run_bind, hz, Value.cells, Result.andThen] at h2 ⊢;rw [h2]
  exact z91
theorem sc_row {w : World} {g : Nat} {u0 : Bool} {m0 f0 : Int} (hg : ScAt w g u0 m0 f0) (u : Bool) (m f : Int) : ScAt (w.setRow g (scC u m f)) g u m f := setRow_heap _ _ _ _ _ _ hg
theorem drop_size2 {f : F} {i : Nat} {x : Lab} {k r : F} (h : f.drop i = .cons x k r) : (f.drop i).size = 1 + k.size + (f.drop (i + 1)).size := by rw [drop_succ h, h];simp only [F.size];omega
theorem own_ge {h : Nat → Bool} {n : Nat} {w : World} {v : Value} {f : F} (H : OwnH h n w v f) : ∀ g, v.ownBlock = some g → n ≤ g := fun _ hg => (own_below H.1 hg).1
def AllRel (w0 w : World) (h : Nat → Bool) (b : Nat) (u : Bool) (m : Int) (v : Value) (g0 k : F) (R : F × Int) (vp vi : Value) (wr : World) : Prop :=
 ∃ (i : Nat) (f : Int) (g : F), vi = .int .i64 i ∧ i ≤ k.len ∧ g.len + (k.drop i).size ≤ k.size ∧ Hid (OwnH h w0.heap.size wr vp (F.app g0 g)) ∧ Hid (Cx w0 wr h b u m f) ∧ Hid (Vis h vp) ∧ Hid (Ch b v vp w wr) ∧
  Hid ((F.app (strip g) (bothP u m (k.drop i) f).1.1, (bothP u m (k.drop i) f).1.2) = R)
theorem all_of {w0 : World} {u : Bool} {m : Int} {k : F} (hok : OkF k) (hP : ∀ (x : Lab) (k' : F), k'.size < k.size → NdAt w0 (x, k') → OkF (F.one x k') → PutC w0 u m x k') : AllC w0 u m k := by
 intro w h b f v kv g0 hC hO hV hsz hkv;have HP := xH hP;have HOK := xH hok;have HKV := xH hkv;have HC0 := xH hC;have HO0 := xH hO;have HV0 := xH hV;have hlen : k.len ≤ 100000 := by have := rsp.len_size k; omega
 obtain ⟨R, hR⟩ : ∃ R, (bothP u m k f).1 = R := ⟨_, rfl⟩;rw [hR];have HR0 := xH (show (F.app (strip F.nil) (bothP u m (k.drop 0) f).1.1, (bothP u m (k.drop 0) f).1.2) = R by rw [drop_zero, ← hR]; rfl);obtain ⟨a, cap, rfl⟩ := kids_len hkv;clear hok hP hC hO hV hkv hR;go_enter Tryz.func54, Tryz.ntmps54;go_wp2_with fail
 go_loopw [1, 11] (fun vp vi wr => AllRel w0 w h b u m v g0 k R vp vi wr) (fun _ vi _ => k.len - (intOf vi).toNat)
 case atStart => exact ⟨0, f, F.nil, rfl, Nat.zero_le _, by rw [drop_zero]; simp [F.len], xH (by rw [app_nil]; exact HO0.out), HC0, HV0, xH (Ch.refl _ _ _), HR0⟩
 case round =>
  obtain ⟨i, f, g, rfl, hi, hg, hO, hC, hV, hH, hR⟩ := hrel;have HO := xH hO.out;have HC := xH hC.out;have HV := xH hV.out;have HH := xH hH.out;have HR := xH hR.out;have HG := xH hg;clear hO hC hV hH hR hg HR0;by_cases hlt : i < k.len
  ·obtain ⟨x, k', r, hd⟩ := drop_lt hlt;obtain ⟨bb, o, cap', hv, hc1, hc2, hil, hfa⟩ := kid_at HKV.out hd;cases hv;have HS := xH (drop_size2 hd);have HE := xH (fun j v hj => (World.cell?_of_block (HC.out.be.block bb (cell_lt (hfa.1 j v hj)))).trans (hfa.1 j v hj));have HNX := xH (qp (fAt_head hfa));have HD := xH hd;have HCall := xH (HP.out x k' (size_lt hd) (fAt_head hfa) (okF_at HOK.out hd));have a1 := add_row bb o i 12;clear hd hfa;have i1 : (i : Int) < (k.len : Int) := by omega
   have HZN := xH (heap_alloc_new wr (.cells zC.toArray 27));have HG1 := xH (setRow_heap _ _ _ (ndC x).toArray _ _ (heap_alloc_new wr (.cells zC.toArray 27)));have HB1 := xH (jU wr zC.toArray (ndC x).toArray 27);have HCL := xH (HCall.out _ h b f u1 (F.app g0 g) (HC.out.keep HB1.out) (ownH_below HO.out HB1.out) HV.out (by rw [rsp.jd]; have := HG.out; have := HS.out; omega));obtain ⟨t, ht⟩ : ∃ t, putP u m (fun g => (bothP u m k' g).1) (fun g => (bothP u m k' g).2) x f = t := ⟨_, rfl⟩;have HT := xH ht;rw [ht] at HCL;have HTL := xH (show t.1.len ≤ k'.size + 1 from ht ▸ fkp.put_len u m _ _ x f k'.size (fun q => fkp.both_len u m k' q));clear ht HCall HP HKV;unfold zC at HZN HG1 HB1 HCL;go_wp2_with (first
    | (refine jv rfl _ rfl bb (o + i * 12) rfl x HE.out ?_)
    | (refine qh rfl rfl _ _ rfl wr.heap.size rfl _ x HZN.out rfl HNX.out rfl ?_)
    | (refine ql rfl _ rfl wr.heap.size rfl x HG1.out ?_))
   refine HCL.out.mono ?_;rintro e w2 ⟨v', g', rfl, ho, hs, hsc, hch⟩;have HO2 := xH (show OwnH h w0.heap.size w2 v' (F.app g0 (F.app g g')) by rw [← app_assoc]; exact ho);have HS2 := xH hs;have HCH := xH (Ch.after HB1.out hch);have HC2 := xH (HC.out.ch HCH.out hsc (own_ge HO.out));have HV2 := xH (HV.out.next HCH.out HC.out.old);clear ho hs hsc hch HCL;dsimp only;go_wp2_with fail
   have hi1 : i + 1 ≤ k.len := by omega
   refine ⟨⟨i + 1, t.2, F.app g g', ?_, hi1, ?_, HO2, HC2, HV2, xH (HH.out.trans HCH.out), xH ?_⟩, ?_⟩
   ·rfl
   ·have e1 : g'.len = t.1.len := by rw [← HS2.out, jm]
    have := HTL.out;have := HS.out;have := HG.out;rw [rsp.jd];omega
   ·rw [← HR.out, jH, HS2.out, HD.out, bothP, HT.out, drop_succ HD.out];simp only;rw [app_assoc]
   ·simp only [intOf];omega
  ·have hge : ¬ ((i : Int) < (k.len : Int)) := by omega
   have hend : k.drop i = .nil := drop_end (by omega);have HE := xH hend;obtain ⟨qa, qc, rfl⟩ : ∃ a c, u1 = .slice a (F.app g0 g).len c := zJ HO.out.1;clear hlt hend;go_wp2_with fail
   go_ret
   refine ⟨_, g, rfl, HO.out, ?_, ?_, HH.out⟩
   ·rw [← HR.out, HE.out];show strip g = F.app (strip g) .nil;rw [app_nil]
   ·rw [← HR.out, HE.out];exact HC.out.sc
def KidRel (w0 w : World) (h : Nat → Bool) (b : Nat) (u : Bool) (m : Int) (k : F) (R : F) (vo vi : Value) (wr : World) : Prop :=
 ∃ (i : Nat) (f : Int) (g : F), vi = .int .i64 i ∧ i ≤ k.len ∧ g.len = i ∧ Hid (OwnH (h1 h b) w.heap.size wr vo g) ∧ Hid (Cx w0 wr (h1 h b) b u m f) ∧ Hid (Vis (h1 h b) vo) ∧ Hid (Below w.heap.size w wr) ∧
  Hid (F.app (strip g) (bothP u m (k.drop i) f).2 = R)
theorem kids_of {w0 : World} {u : Bool} {m : Int} {k : F} (hok : OkF k) (hP : ∀ (x : Lab) (k' : F), k'.size < k.size → NdAt w0 (x, k') → OkF (F.one x k') → ResC w0 u m x k') : KidsC w0 u m k := by
 intro w h b f kv hC hsz hkv;have HP := xH hP;have HOK := xH hok;have HKV := xH hkv;have HC0 := xH hC;have hlen : k.len ≤ 100000 := by have := rsp.len_size k; omega
 obtain ⟨R, hR⟩ : ∃ R, (bothP u m k f).2 = R := ⟨_, rfl⟩;rw [hR];have HR0 := xH (show F.app (strip F.nil) (bothP u m (k.drop 0) f).2 = R by rw [drop_zero, ← hR]; rfl);obtain ⟨a, cap, rfl⟩ := kids_len hkv;obtain ⟨c0, c1, c2, -⟩ := hC.sc.cells;clear hok hP hC hkv hR;have HSA := xH (show ScAt (w.alloc (.cells (scC false 0 0) 50)) w.heap.size false 0 0 from heap_alloc_new w (.cells (scC false 0 0) 50));have HSC := xH (sc_row HSA.out u m f);have HB0 := xH (jU w (scC false 0 0) (scC u m f) 50);have HS0 := xH (HC0.out.sc);have HS1 := xH (HC0.out.sc.keep (qg w (.cells (scC false 0 0) 50)));have HZ0 := xH (show ((w.alloc (.cells (scC false 0 0) 50)).setRow w.heap.size (scC u m f)).heap.size = w.heap.size + 1 by rw [tkw.setRow_size, World.size_alloc]);clear c0 c1 c2;unfold scC at HSA HSC HB0 HS1 HZ0;go_enter Tryz.func56, Tryz.ntmps56;go_wp2_with (first
  | (refine wpList_load_sc rfl _ rfl b rfl u m f HS0.out ?_)
  | (refine wpList_load_sc rfl _ rfl b rfl u m f HS1.out ?_)
  | (refine wpList_store_sc rfl rfl _ _ rfl w.heap.size rfl false 0 0 HSA.out u m f rfl ?_; unfold scC))
 generalize (w.alloc _).setRow _ _ = w1 at *;have HC1 := xH (show Cx w0 w1 (h1 h w.heap.size) w.heap.size u m f from ⟨HC0.out.be.trans (HB0.out.mono HC0.out.be.size), h1_old HC0.out.old (by rw [HZ0.out]; omega) (by rw [HZ0.out]; omega), h1_self _ _, HC0.out.be.size, HSC.out⟩)
 go_loopw [6, 14] (fun vo vi wr => KidRel w0 w h w.heap.size u m k R vo vi wr) (fun _ vi _ => k.len - (intOf vi).toNat)
 case atStart => exact ⟨0, f, F.nil, rfl, Nat.zero_le _, rfl, xH (ownH_nil _ _ _), HC1, xH (vis_nil _), HB0, HR0⟩
 case round =>
  obtain ⟨i, f', g, rfl, hi, hg, hO, hC, hV, hH, hR⟩ := hrel;have HO := xH hO.out;have HC := xH hC.out;have HV := xH hV.out;have HH := xH hH.out;have HR := xH hR.out;have HG := xH hg;clear hO hC hV hH hR hg HR0;by_cases hlt : i < k.len
  ·obtain ⟨x, k', r, hd⟩ := drop_lt hlt;obtain ⟨bb, o, cap', hv, hc1, hc2, hil, hfa⟩ := kid_at HKV.out hd;cases hv;have HS := xH (drop_size2 hd);have HSL := xH (size_lt hd);have HE := xH (fun j v hj => (World.cell?_of_block (HC.out.be.block bb (cell_lt (hfa.1 j v hj)))).trans (hfa.1 j v hj));have HNX := xH (qp (fAt_head hfa));have HD := xH hd;have HCall := xH (HP.out x k' (size_lt hd) (fAt_head hfa) (okF_at HOK.out hd));have a1 := add_row bb o i 12;clear hd hfa;have i1 : (i : Int) < (k.len : Int) := by omega
   have HZN := xH (heap_alloc_new wr (.cells zC.toArray 27));have HG1 := xH (setRow_heap _ _ _ (ndC x).toArray _ _ (heap_alloc_new wr (.cells zC.toArray 27)));have HB1 := xH (jU wr zC.toArray (ndC x).toArray 27);have HOX := xH (hx_old2 (m := wr.heap.size) HC.out.old (xL _) HO.out.1 (xL _));have HHB := xH (show hx (h1 h w.heap.size) u6 w.heap.size = true by simp [hx, h1_self]);have HCL := xH (HCall.out _ (hx (h1 h w.heap.size) u6) w.heap.size f' ((HC.out.hide HOX.out HHB.out).keep HB1.out) (by have := HSL.out; omega));obtain ⟨t, ht⟩ : ∃ t, putP u m (fun g => (bothP u m k' g).1) (fun g => (bothP u m k' g).2) x f' = t := ⟨_, rfl⟩;have HT := xH ht;rw [ht] at HCL;clear ht HCall HP HKV;unfold zC at HZN HG1 HB1 HCL;go_wp2_with (first
    | (refine jv rfl _ rfl bb (o + i * 12) rfl x HE.out ?_)
    | (refine qh rfl rfl _ _ rfl wr.heap.size rfl _ x HZN.out rfl HNX.out rfl ?_)
    | (refine ql rfl _ rfl wr.heap.size rfl x HG1.out ?_))
   refine HCL.out.mono ?_;rintro e w2 ⟨y, j, rfl, hn, hs, hsc, hch⟩;have HN2 := xH hn;have HS2 := xH hs;have HCH := xH (Ch.after HB1.out hch);have HC2 := xH (HC.out.ch HCH.out hsc (by intro g e; cases e));have HO2 := xH (ownH_ch HO.out HCH.out HC.out.hb (fun e => by have := HV.out _ e; rw [HC.out.hb] at this; cases this));have HB2 := xH (show Below w.heap.size w w2 from HCH.out.below HH.out HH.out.size (xL _) (by intro g e; cases e));have HY := xH (qp hn);have HOX2 := xH (HOX.out.le HCH.out.size);have HLN := xH (show g.len + (F.one y j).len ≤ 200000 by rw [HG.out]; simp only [F.one, F.len]; omega);obtain ⟨Z, hZ⟩ : ∃ Z, w2.heap.size = Z := ⟨_, rfl⟩;have HZZ := xH hZ;have HKD := xH (show ∀ w17, w17 = w2.alloc (.cells (ndC y).toArray 27) → jr (sees (hx (h1 h w.heap.size) u6) w17) (.slice (some ⟨Z, 0, none⟩) 1 1) (F.one y j) from fun w17 h17 => by subst h17;have := row1_kids HN2.out HOX2.out;rw [hZ] at this;exact this)
   clear hZ hn hs hsc hch HCL HE HO;dsimp only;go_wp2_with (first
    | (refine jc rfl _ rfl y rfl Z HZZ.out ?_; intro w17 h17; have HO17 := xH (ownH_below HO2.out (h17.out ▸ qg w2 _)); have HK17 := xH (HKD.out w17 h17.out); have HB17 := xH (show Below w2.heap.size w2 w17 from h17.out ▸ qg w2 _); have HS17 := xH (show w.heap.size ≤ w17.heap.size from Nat.le_trans HB2.out.size HB17.out.size); clear h17)
    | (at_builtin; refine wpList_append_k rfl _ _ rfl (h1 h w.heap.size) w.heap.size u6 g rfl HO17.out _ (F.one y j) rfl HK17.out HLN.out HS17.out ?_; intro v18 w18 h18 hb18; have HO18 := xH h18; have HCH18 := xH (hb18 w.heap.size); have HCHX := xH (hb18 w17.heap.size); clear h18 hb18))
   have hi1 : i + 1 ≤ k.len := by omega
   have HC17 := xH (HC2.out.keep HB17.out);have HB18 := xH (show Below w.heap.size w w18 from HCH18.out.below (HB2.out.trans (HB17.out.mono HB2.out.size)) HS17.out (xL _) (own_ge HO17.out));have HS18 := xH (HC17.out.sc.ch0 HCHX.out HV.out HC17.out.hb);refine ⟨⟨i + 1, t.2, F.app g (F.one y j), ?_, hi1, ?_, HO18, xH (HC17.out.ch HCH18.out HS18.out (fun g e => Nat.le_trans HC0.out.be.size (own_ge HO17.out g e))), xH (HV.out.next HCH18.out HC17.out.old), HB18, xH ?_⟩, ?_⟩
   ·rfl
   ·rw [rsp.jd, HG.out]; rfl
   ·rw [← HR.out, jH, HS2.out, HD.out, bothP, HT.out, drop_succ HD.out];simp only;rw [app_assoc]
   ·simp only [intOf];omega
  ·have hge : ¬ ((i : Int) < (k.len : Int)) := by omega
   have hend : k.drop i = .nil := drop_end (by omega);have HE := xH hend;obtain ⟨qa, qc, rfl⟩ : ∃ a c, u6 = .slice a g.len c := zJ HO.out.1;clear hlt hend;go_wp2_with fail
   go_ret
   refine ⟨_, g, rfl, ownH_show HO.out (h1_mono _ _), ?_, HH.out⟩;rw [← HR.out, HE.out];show strip g = F.app (strip g) .nil;rw [app_nil]
end fkw
end
end Go.Proofs.YtikjhfmmfpeaoaaGreatDoor
