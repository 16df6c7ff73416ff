/- T -/
import Derived.BigQuiet
import Derived.BigRegion
import Derived.Carry
import Derived.Deep.Cut
import Derived.Deep.CutBlock
import Derived.Deep.DeepCutAuto
import Derived.Deep.DeepHandedRow
import Derived.Deep.Onto
import Derived.Deep.QuietTactic
import Derived.Deep.RegionHeld3
import Derived.Deep.RegionWith
import Derived.Great.BuildSlice
import Derived.IntWalk
import Derived.KernelRfl
import Derived.Laws.AppendOwn
import Derived.Laws.AppendOwnNone
import Derived.Laws.BitsLemmas
import Derived.Laws.BytesArg
import Derived.Laws.Closers25b
import Derived.Laws.ComplexArith
import Derived.Laws.CopyRow
import Derived.Laws.Cover2
import Derived.Laws.Cover3
import Derived.Laws.FloatArith
import Derived.Laws.MakeOwn
import Derived.Laws.OwnMore
import Derived.Laws.RangeAny
import Derived.Laws.Rows
import Derived.Laws.Shifts
import Derived.Laws.StructEq
import Derived.Lib.BytesEntry
import Derived.Lib.ConvBytes
import Derived.Lib.Hide
import Derived.Lib.LaidTab
import Derived.Lib.OwnBridge
import Derived.Lib.QuietBelow
import Derived.Lib.SlBytesConst
import Derived.LoopN
import Derived.Maps.AppendAt
import Derived.Maps.OwnSet
import Derived.OpenShut
import Derived.Outline
import Derived.OwnWalk
import Derived.ProofKit
import Derived.RegionTactic
import Derived.Shelf.Abstract
import Derived.Shelf.Bytes.SlIndexAt
import Derived.Shelf.Lays8
import Derived.Shelf.SlLaysC2
import Derived.Shelf.SlLaysE
import Derived.Shelf.SlLaysE0
import Derived.Shelf.SlLaysF
import Derived.Shelf.SlLaysH
import Derived.Shelf.SlicesE.Clone
import Derived.Shelf.SlicesE.Equal
import Derived.Shelf.SlicesE.IndexFunc
import Derived.Shelf.SlicesG.Cmp
import Derived.Shelf.Spec.SlicesGrow
import Derived.SizedLaws
import Derived.Sort.Grow
import Derived.Sort.Walk0
import Derived.StillTailTactics
import Derived.Stop.LaidErr
import Derived.Test.YtdgfclbajjjcgaaChecked
import Derived.Test.YtdgfclbajjjcgaaRows
import Derived.WalkKit
import Derived.WalkLawsBesides
import Derived.WalkMore
import Derived.WalkSpells
import GoSem.Core.Float
import Derived.Test.YtdgfclbajjjcgaaBWb01
set_option maxHeartbeats 16000000
set_option maxRecDepth 1000000
/- Z -/
namespace Go.Proofs.Ytdgfclbajjjcgaa
namespace sq
open sq
theorem z190 {p : Prop} (h : p := by
 intro e w9 h;obtain ⟨v, rfl, HO, F9, old, HG, hz⟩ := yJ F8 h;clear h c0 c1 c2 c3;go_wp2_with (refine yR HG hz HO ?_)
 exact yW HG F9 HR HO
 ) : p := h
theorem z191 {p : Prop} (h : p := by
 intro e w3 h;obtain ⟨v, rfl, HO, F3, old, HG, hz⟩ := yJ F2 h;clear h c0 c1 c2 c3;go_wp2_with (refine yR HG hz HO ?_)
 exact yW HG F3 HR HO
 ) : p := h
theorem z182 {p : Prop} (h : p := by
 clear ha;go_wp2_with fail
 refine xM (qw _ _ _) ?_;exact z190
 ) : p := h
theorem z183 {p : Prop} (h : p := by
 go_wp2_with fail
 refine xM (qw _ _ _) ?_;exact z191
 ) : p := h
theorem z184 {p : Prop} (h : p := by
 go_wp2_with fail
 refine xB (qE rfl _ _ _) rfl ?_;exact mab_some HR.out (qM HO.out (Nat.le_of_eq F3.out.hB)) F3.out.bel
 ) : p := h
theorem z185 {p : Prop} (h : p := by
 intro e w17 h;obtain ⟨v, rfl, HO, F17, old, HG, hz⟩ := yJ F16 h;clear h c0 c1 c2 c3;go_wp2_with (refine yR HG hz HO ?_)
 exact yW HG F17 HR HO
 ) : p := h
theorem z186 {p : Prop} (h : p := by
 exact z190
 ) : p := h
theorem z187 {p : Prop} (h : p := by
 intro e w6 h;obtain ⟨v, rfl, HO, F6, old, HG, hz⟩ := yJ F5 h;clear h c0 c1 c2 c3;go_wp2_with (refine yR HG hz HO ?_)
 exact yW HG F6 HR HO
 ) : p := h
theorem z188 {p : Prop} (h : p := by
 intro e w5 h;obtain ⟨v, rfl, HO, F5, old, HG, hz⟩ := yJ F4 h;clear h c0 c1 c2 c3;go_wp2_with (refine yR HG hz HO ?_)
 exact yW HG F5 HR HO
 ) : p := h
theorem z189 {p : Prop} (h : p := by
 exact vX HF3.out HB.out HT.out (by rw [HR.out]; show F.one _ (strip g3) = _; rw [HST.out]; rfl) (by rw [HR.out])
 ) : p := h
theorem z145 {p : Prop} (h : p := by
 rw [List.concat_eq_append] at *;obtain ⟨g, cw, hv, hg1, hg3, hg4, hcw⟩ := ownR_slice HO.out (by simp);have hce := hcw W0.length (by simp);have hlen : (W0 ++ [(p, r)]).length = W0.length + 1 := by simp
 have hr := HJ.out.1.2 (p, r) (by simp);have HLn := xH (show (W0 ++ [(p, r)]).length ≤ 100000000 by have := HJ.out.2.2; omega);rw [hlen] at hv hg3;simp only [List.getElem_concat_length] at hce;obtain ⟨hce1, hce2⟩ := hce;obtain ⟨hr0, hr1, hr2⟩ := hr;simp only at hr0 hr1 hr2;obtain ⟨m, hm⟩ : ∃ m, W0.length = m := ⟨_, rfl⟩;have HMm := xH hm;rw [hm] at hv hg3 hce1 hce2;subst hv;have hix : (m : Int) < (m : Int) + 1 := by omega
 have hwr : IntKind.i64.wrap (r + 1) = r + 1 := IntWalk.i64_in _ (by omega);clear hcw hlen hm;by_cases hj : r + 1 = x
 ·have HJ1 := xH (HO3.out hq W0 p r rfl hj);go_wp2_with fail
  go_quiet (fail)
  generalize hwq : World.drewN _ _ = wq;obtain ⟨h0, hoq, hc2, hd1, hd2⟩ : Below w4.heap.size w4 wq ∧ OwnR wq w4.heap.size (.slice (some ⟨g, 0, none⟩) (m + 1) cw) (W0 ++ [(p, r)]) ∧ wq.cell? ⟨b, k + 1, none⟩ = some (.int .i64 y) ∧ wq.cell? ⟨g, m * 2, none⟩ = some (.int .i64 p) ∧ wq.cell? ⟨g, m * 2 + 1, none⟩ = some (.int .i64 r) := by rw [← hwq];exact ⟨below_draws HB.out _, HO.out, c2, hce1, hce2⟩
  clear hwq;obtain ⟨hn1, hn2, hn3⟩ := ownR_last (z := y - 1) HMm.out hoq;have HN := xH hn1;have HNB := xH (hn3 _ _ h0 (xL _));clear hn1 hn3 hoq h0;go_wp2_with fail
  go_roundw
  case rel => exact ⟨k + 1, W0 ++ [(p, y - 1)], Or.inl hlt, by go_num, HN.out, HJ1.out, HNB.out⟩
  case measure => simp [intOf]; omega
 ·have HJ1 := xH (HO2.out hq (fun W1 r1 h => by obtain ⟨_, h2⟩ := List.append_inj' h rfl;obtain rfl := (List.cons.inj h2).1;exact hj))
  have hjb : (r + 1 == x) = false := by simp [hj]
  go_wp2_with fail
  go_quiet (fail)
  go_wp2_with fail
  generalize hwq : World.drewN _ _ = wq;obtain ⟨h0, hoq⟩ : Below w4.heap.size w4 wq.drew ∧ OwnR wq.drew w4.heap.size (.slice (some ⟨g, 0, none⟩) (m + 1) cw) ((W0 ++ [(p, r)])) := by rw [← hwq];exact ⟨(below_draws HB.out _).drew, HO.out⟩
  clear hwq;have HOQ := xH hoq;clear hoq;refine wp_region_held_drew (S := fun w' => Below w4.heap.size w4 w') (by kernel_rfl) h0 (fun hHeld => ?_);refine yG 0 (fun w' hSw => qf hSw C1.out) (fun w' hSw => qf hSw C2.out) ?_;simp only [xS];refine yG 1 (fun w' hSw => qf hSw C1.out) (fun w' hSw => qf hSw C2.out) ?_;simp only [xS];refine yG 2 (fun w' hSw => qf hSw C1.out) (fun w' hSw => qf hSw C2.out) ?_;simp only [xS];refine yG 3 (fun w' hSw => qf hSw C1.out) (fun w' hSw => qf hSw C2.out) ?_;simp only [xS];refine yG 4 (fun w' hSw => qf hSw C1.out) (fun w' hSw => qf hSw C2.out) ?_;simp only [xS];refine yG 5 (fun w' hSw => qf hSw C1.out) (fun w' hSw => qf hSw C2.out) ?_;simp only [xS];refine yG 6 (fun w' hSw => qf hSw C1.out) (fun w' hSw => qf hSw C2.out) ?_;simp only [xS];refine yG 7 (fun w' hSw => qf hSw C1.out) (fun w' hSw => qf hSw C2.out) ?_;simp only [xS];refine yG 8 (fun w' hSw => qf hSw C1.out) (fun w' hSw => qf hSw C2.out) ?_;simp only [xS];refine yG 9 (fun w' hSw => qf hSw C1.out) (fun w' hSw => qf hSw C2.out) ?_;simp only [xS];refine yG 10 (fun w' hSw => qf hSw C1.out) (fun w' hSw => qf hSw C2.out) ?_;simp only [xS];refine yG 11 (fun w' hSw => qf hSw C1.out) (fun w' hSw => qf hSw C2.out) ?_;simp only [xS];refine xD 12 rfl (fun K hK => ?_);go_simp;have hA : Below w4.heap.size w4 ((wq.alloc (Obj.cells #[Value.int IntKind.i64 x, Value.int IntKind.i64 (y - 1)] 69)).drew) := (h0.alloc h0.size _);refine hK.out _ _ hA (fun hHeld => ?_);clear hK K hA;try simp only [xS]
  refine xD 13 rfl (fun K hK => ?_);refine zK (w := wq.drew) rfl _ _ rfl w4.heap.size _ ((W0 ++ [(p, r)])) rfl HOQ.out x (y - 1) _ rfl rfl rfl (HLn.out) h0.size ?_;intro va2 wa2 hoa hba;have HOA := xH hoa;have HBA := xH (hba _ _ h0 (xL _));clear hoa hba;refine hK.out _ _ HBA.out (fun hHeld => ?_);clear hK K;try simp only [xS]
  refine yT 14 ?_;simp only [xS];refine wpAnyH_done (by kernel_rfl) ?_ _;go_wp2_with fail
  go_roundw
  case rel => exact ⟨k + 1, (W0 ++ [(p, r)]) ++ [(x, y - 1)], Or.inl hlt, by go_num, HOA.out, HJ1.out, HBA.out⟩
  case measure => simp [intOf]; omega
 ) : p := h
theorem z146 {p : Prop} (h : p := by
 obtain rfl := HO.out.2 rfl;have HJ1 := xH (HO2.out hq (fun W0 r h => by have := congrArg List.length h; simp at this));go_wp2_with fail
 go_quiet (fail)
 go_wp2_with fail
 generalize hwq : World.drewN _ _ = wq;obtain ⟨h0, hoq⟩ : Below w4.heap.size w4 wq.drew ∧ OwnR wq.drew w4.heap.size (.slice none 0 0) ([]) := by rw [← hwq];exact ⟨(below_draws HB.out _).drew, HO.out⟩
 clear hwq;have HOQ := xH hoq;clear hoq;refine wp_region_held_drew (S := fun w' => Below w4.heap.size w4 w') (by kernel_rfl) h0 (fun hHeld => ?_);refine yG 0 (fun w' hSw => qf hSw C1.out) (fun w' hSw => qf hSw C2.out) ?_;simp only [xS];refine yG 1 (fun w' hSw => qf hSw C1.out) (fun w' hSw => qf hSw C2.out) ?_;simp only [xS];refine yG 2 (fun w' hSw => qf hSw C1.out) (fun w' hSw => qf hSw C2.out) ?_;simp only [xS];refine yG 3 (fun w' hSw => qf hSw C1.out) (fun w' hSw => qf hSw C2.out) ?_;simp only [xS];refine yG 4 (fun w' hSw => qf hSw C1.out) (fun w' hSw => qf hSw C2.out) ?_;simp only [xS];refine yG 5 (fun w' hSw => qf hSw C1.out) (fun w' hSw => qf hSw C2.out) ?_;simp only [xS];refine yG 6 (fun w' hSw => qf hSw C1.out) (fun w' hSw => qf hSw C2.out) ?_;simp only [xS];refine yG 7 (fun w' hSw => qf hSw C1.out) (fun w' hSw => qf hSw C2.out) ?_;simp only [xS];refine yG 8 (fun w' hSw => qf hSw C1.out) (fun w' hSw => qf hSw C2.out) ?_;simp only [xS];refine yG 9 (fun w' hSw => qf hSw C1.out) (fun w' hSw => qf hSw C2.out) ?_;simp only [xS];refine yG 10 (fun w' hSw => qf hSw C1.out) (fun w' hSw => qf hSw C2.out) ?_;simp only [xS];refine yG 11 (fun w' hSw => qf hSw C1.out) (fun w' hSw => qf hSw C2.out) ?_;simp only [xS];refine xD 12 rfl (fun K hK => ?_);go_simp;have hA : Below w4.heap.size w4 ((wq.alloc (Obj.cells #[Value.int IntKind.i64 x, Value.int IntKind.i64 (y - 1)] 69)).drew) := (h0.alloc h0.size _);refine hK.out _ _ hA (fun hHeld => ?_);clear hK K hA;try simp only [xS]
 refine xD 13 rfl (fun K hK => ?_);refine zK (w := wq.drew) rfl _ _ rfl w4.heap.size _ ([]) rfl HOQ.out x (y - 1) _ rfl rfl rfl (by simp) h0.size ?_;intro va2 wa2 hoa hba;have HOA := xH hoa;have HBA := xH (hba _ _ h0 (xL _));clear hoa hba;refine hK.out _ _ HBA.out (fun hHeld => ?_);clear hK K;try simp only [xS]
 refine yT 14 ?_;simp only [xS];refine wpAnyH_done (by kernel_rfl) ?_ _;go_wp2_with fail
 go_roundw
 case rel => exact ⟨k + 1, [] ++ [(x, y - 1)], Or.inl hlt, by go_num, HOA.out, HJ1.out, HBA.out⟩
 case measure => simp [intOf]; omega
 ) : p := h
theorem z147 {p : Prop} (h : p := by
 by_cases hnb : p.n ≤ b
 ·have hs : shutR p { kind := 12, n := n, m := m } f b [41] 26 = Except.error (20, (p.n : Int)) := by unfold shutR; rw [if_neg h41, if_pos hnb]
  rw [hs] at HS;have HR := xH (HR2.out.trans (show _ = Except.error (20, (p.n : Int)) by rw [hs]));clear HR2 hs;refine xM HS ?_;rintro e w17 ⟨v, rfl, ho, hb⟩;have F17 := xH (F16.out.step hb);have HO17 := xO F16.out.x ho;obtain ⟨x1, x2, rfl⟩ := qN ho;have hbw := qK w17 (.cells (gtC (.slice x1 (gtS (Except.error (20, (p.n : Int)))).length x2) (Except.error (20, (p.n : Int)))) 92);have hgn := heap_alloc_new w17 (.cells (gtC (.slice x1 (gtS (Except.error (20, (p.n : Int)))).length x2) (Except.error (20, (p.n : Int)))) 92);have F18 := xH (F17.out.step hbw);have HO18 := xH (jG HO17.out hbw);have ce : (w17.alloc (.cells (gtC (.slice x1 (gtS (Except.error (20, (p.n : Int)))).length x2) (Except.error (20, (p.n : Int)))) 92)).cell? ⟨w17.heap.size, 14, none⟩ = some (.int .i64 20) := by unfold World.cell?; rw [hgn]; rfl
  have HGN := xH hgn;clear hb ho c0 c1 c2 c3 HS hgn hbw;obtain ⟨c0, c1, c2, c3⟩ := F18.out.c;simp only [gtC, gtS, gtok, lay] at ce c0 c1 c2 c3 F18 HO18 HGN ⊢;obtain ⟨old, hg, hz⟩ := F18.out.g;have HG := xH hg;clear hg;go_wp2_with (first
   | (refine jk rfl _ rfl w17.heap.size rfl _ HGN.out rfl ?_)
   | (refine qJ rfl rfl _ _ rfl (B + 1) rfl _ _ HG.out hz rfl (jO HO18.out (Except.error (20, (p.n : Int)))) rfl ?_))
  refine xB (qW rfl _ _ (B + 1) _ rfl (setRow_heap _ _ _ _ _ _ HG.out) rfl) rfl ?_;exact qj (r := Except.error (20, (p.n : Int))) F18.out HR.out HO18.out (xL _)
 ·have hs : shutR p { kind := 12, n := n, m := m } f b [41] 26 = Except.error (26, (f : Int)) := by unfold shutR; rw [if_neg h41, if_neg hnb]
  rw [hs] at HS;have HR := xH (HR2.out.trans (show _ = Except.error (26, (f : Int)) by rw [hs]));clear HR2 hs;refine xM HS ?_;rintro e w17 ⟨v, rfl, ho, hb⟩;have F17 := xH (F16.out.step hb);have HO17 := xO F16.out.x ho;obtain ⟨x1, x2, rfl⟩ := qN ho;have hbw := qK w17 (.cells (gtC (.slice x1 (gtS (Except.error (26, (f : Int)))).length x2) (Except.error (26, (f : Int)))) 92);have hgn := heap_alloc_new w17 (.cells (gtC (.slice x1 (gtS (Except.error (26, (f : Int)))).length x2) (Except.error (26, (f : Int)))) 92);have F18 := xH (F17.out.step hbw);have HO18 := xH (jG HO17.out hbw);have ce : (w17.alloc (.cells (gtC (.slice x1 (gtS (Except.error (26, (f : Int)))).length x2) (Except.error (26, (f : Int)))) 92)).cell? ⟨w17.heap.size, 14, none⟩ = some (.int .i64 26) := by unfold World.cell?; rw [hgn]; rfl
  have HGN := xH hgn;clear hb ho c0 c1 c2 c3 HS hgn hbw;obtain ⟨c0, c1, c2, c3⟩ := F18.out.c;simp only [gtC, gtS, gtok, lay] at ce c0 c1 c2 c3 F18 HO18 HGN ⊢;obtain ⟨old, hg, hz⟩ := F18.out.g;have HG := xH hg;clear hg;go_wp2_with (first
   | (refine jk rfl _ rfl w17.heap.size rfl _ HGN.out rfl ?_)
   | (refine qJ rfl rfl _ _ rfl (B + 1) rfl _ _ HG.out hz rfl (jO HO18.out (Except.error (26, (f : Int)))) rfl ?_))
  refine xB (qW rfl _ _ (B + 1) _ rfl (setRow_heap _ _ _ _ _ _ HG.out) rfl) rfl ?_;exact qj (r := Except.error (26, (f : Int))) F18.out HR.out HO18.out (xL _)
 ) : p := h
theorem z148 {p : Prop} (h : p := by
 clear z11 y11;generalize w3.setCell ⟨w.heap.size + 1, 11, none⟩ (.slice p3 g3.len c3) = w4 at *;go_wp2_with (first
  | (refine ql rfl _ rfl (w.heap.size + 1) rfl ({ x with kv := .slice p3 g3.len c3 }) HG.out ?_)
  | (refine qh rfl rfl _ _ rfl (w.heap.size + 2) rfl _ ({ x with kv := .slice p3 g3.len c3 }) HRV.out rfl H1.out rfl ?_))
 refine xB (qZ rfl _ _ (w.heap.size + 2) ({ x with kv := .slice p3 g3.len c3 }) rfl (setRow_heap _ _ _ _ _ _ HRV.out)) rfl ?_;exact z189
 ) : p := h
theorem z149 {p : Prop} (h : p := by
 obtain ⟨old, hg, hz⟩ := F18.out.g;have HG := xH hg;clear hg;go_wp2_with (first
  | (refine jk rfl _ rfl w17.heap.size rfl _ HGN.out rfl ?_)
  | (refine qJ rfl rfl _ _ rfl (B + 1) rfl _ _ HG.out hz rfl (jO HO18.out (gtok { kind := 12, n := n, m := m } f (b + 1))) rfl ?_))
 refine xB (qW rfl _ _ (B + 1) _ rfl (setRow_heap _ _ _ _ _ _ HG.out) rfl) rfl ?_;exact qj (r := gtok { kind := 12, n := n, m := m } f (b + 1)) F18.out HR.out HO18.out (xL _)
 ) : p := h
theorem z150 {p : Prop} (h : p := by
 rintro e w2 ⟨v, rfl, ho, hb⟩;have HO := xO F1.out.x ho;have F2 := xH (F1.out.step hb);clear hb ho c0 c1 c2 c3;obtain ⟨old, hg, hz⟩ := F2.out.g;have HG := xH hg;clear hg;go_wp2_with (refine xR HG hz HO rfl rfl rfl rfl rfl ?_)
 refine xB (xE HG rfl rfl) rfl ?_;exact fh_fin F2.out HR.out HO.out (xL _)
 ) : p := h
theorem z151 {p : Prop} (h : p := by
 go_wp2_with fail
 refine xM (cut_any S p _ HP.out _ Z HZR.out (by have := HZL.out; omega)) ?_;rintro e w3 ⟨v3, rfl, ho, hb⟩;have HO := xO F2.out.x ho;rw [HNP.out] at HO;have F3 := xH (F2.out.step hb);clear hb ho c0 c1 c2 c3;obtain ⟨a1, a2, rfl⟩ := qN HO.out;exact z184
 ) : p := h
theorem z152 {p : Prop} (h : p := by
 go_wp2_with fail
 refine (HC2.out _ (by omega)).mono ?_;rintro e w9 ⟨v9, E9, rfl, ho9, hE9, hb9⟩;have HO9 := xH ho9;have HE9 := xH hE9;have HB9 := xH hb9;clear ho9 hE9 hb9;go_wp2_with fail
 go_roundw
 case rel => exact ⟨k + 1, E9, by omega, by go_num, HO9.out, jY HE9.out (fun z => by rw [HQ.out]; generalize EQ (l.take k) (1114111) z = p; by_cases hp : p <;> simp [hp]; omega) (by omega), HB9.out⟩
 case measure => simp [intOf]; omega
 ) : p := h
theorem z153 {p : Prop} (h : p := by
 go_wp2_with fail
 refine (HC2.out _ (by omega)).mono ?_;rintro e w9 ⟨v9, E9, rfl, ho9, hE9, hb9⟩;have HO9 := xH ho9;have HE9 := xH hE9;have HB9 := xH hb9;clear ho9 hE9 hb9;go_wp2_with fail
 go_roundw
 case rel => exact ⟨k + 1, E9, by omega, by go_num, HO9.out, jY HE9.out (fun z => by rw [HQ.out]; generalize EQ (l.take k) (most) z = p; by_cases hp : p <;> simp [hp]; omega) (by omega), HB9.out⟩
 case measure => simp [intOf]; omega
 ) : p := h
theorem z154 {p : Prop} (h : p := by
 rw [HE1.out] at hne;have HNE := xH hne;clear hne;obtain ⟨_, e1, _, _, _, _, _, e7, _, _, _, _⟩ := nd129 HF6.out.n;go_wp2_with (refine HNE.out.mono ?_)
 rintro e w7 rfl hd7 hc7;have HD7 := xH hd7;have HF7 := xH (HF6.out.cg hc7);clear hd7 hc7 HNE HF6 HD6 e1 e7;go_wp2_with fail
 go_meet
 exact ⟨rfl, HF7, HD7⟩
 ) : p := h
theorem z155 {p : Prop} (h : p := by
 have bn : (n == 0) = true := by simp [hn0]
 have bm : (m != 0) = true := by simp [hm0]
 clear hn0 hm0;go_wp2_with fail
 refine xM (qw _ _ _) ?_;intro e w19 h;obtain ⟨v, rfl, HO, F19, old, HG, hz⟩ := yJ F18 h;clear h c0 c1 c2 c3;go_wp2_with (refine yR HG hz HO ?_)
 exact yW HG F19 HR HO
 ) : p := h
theorem z156 {p : Prop} (h : p := by
 go_upto_region 16 with (fail)
 go_quiet (fail)
 rename_i nq;go_wp2_with fail
 go_roundw
 case rel => exact ⟨m + 1, by go_num, by omega, by rw [HC2.out], HO2, xH (HBi6.out.trans ((tkw.zI (Below.refl _ _) nq).mono HBi6.out.size))⟩
 case measure => simp [intOf]; omega
 ) : p := h
theorem z157 {p : Prop} (h : p := by
 go_wp2_with fail
 go_roundw
 case rel => exact ⟨k + 1, E, by omega, by go_num, HO.out, jY HE.out (fun z => by rw [HQ.out]; generalize EQ (l.take k) (1114111) z = p; by_cases hp : p <;> simp [hp]; omega) (by omega), HB.out⟩
 case measure => simp [intOf]; omega
 ) : p := h
theorem z158 {p : Prop} (h : p := by
 go_wp2_with fail
 go_roundw
 case rel => exact ⟨k + 1, E, by omega, by go_num, HO.out, jY HE.out (fun z => by rw [HQ.out]; generalize EQ (l.take k) (most) z = p; by_cases hp : p <;> simp [hp]; omega) (by omega), HB.out⟩
 case measure => simp [intOf]; omega
 ) : p := h
theorem z159 {p : Prop} (h : p := by
 have ba := jR (l := []) ha;have bb := emp_y ha;exact z182
 ) : p := h
theorem z160 {p : Prop} (h : p := by
 rintro e w6 ⟨rfl, ho, hb⟩;have F6 := xH (F5.out.step hb);have HO := xH ho;clear hb ho c0 c1 c2 c3;obtain ⟨old, hg, hz⟩ := F6.out.g;have HG := xH hg;clear hg;go_wp2_with (refine yR HG hz HO ?_)
 exact yW HG F6 HR HO
 ) : p := h
theorem z161 {p : Prop} (h : p := by
 rintro e w9 ⟨rfl, ho, hb⟩;have F9 := xH (F8.out.step hb);have HO := xH ho;clear hb ho c0 c1 c2 c3;obtain ⟨old, hg, hz⟩ := F9.out.g;have HG := xH hg;clear hg;go_wp2_with (refine yR HG hz HO ?_)
 exact yW HG F9 HR HO
 ) : p := h
theorem z162 {p : Prop} (h : p := by
 rintro e w7 ⟨rfl, ho, hb⟩;have F7 := xH (F6.out.step hb);have HO := xH ho;clear hb ho c0 c1 c2 c3;obtain ⟨old, hg, hz⟩ := F7.out.g;have HG := xH hg;clear hg;go_wp2_with (refine yR HG hz HO ?_)
 exact yW HG F7 HR HO
 ) : p := h
theorem z163 {p : Prop} (h : p := by
 rintro e w3 ⟨rfl, ho, hb⟩;have F3 := xH (F2.out.step hb);have HO := xH ho;clear hb ho c0 c1 c2 c3;obtain ⟨old, hg, hz⟩ := F3.out.g;have HG := xH hg;clear hg;go_wp2_with (refine yR HG hz HO ?_)
 exact yW HG F3 HR HO
 ) : p := h
theorem z164 {p : Prop} (h : p := by
 clear h48;exact z183
 ) : p := h
theorem z165 {p : Prop} (h : p := by
 exact z182
 ) : p := h
theorem z166 {p : Prop} (h : p := by
 go_wp2_with fail
 refine xM (qw _ _ _) ?_;exact z185
 ) : p := h
theorem z167 {p : Prop} (h : p := by
 go_wp2_with fail
 refine xM (qw _ _ _) ?_;exact z187
 ) : p := h
theorem z168 {p : Prop} (h : p := by
 go_wp2_with fail
 refine xM (qw _ _ _) ?_;exact z186
 ) : p := h
theorem z169 {p : Prop} (h : p := by
 exact z183
 ) : p := h
theorem z170 {p : Prop} (h : p := by
 go_wp2_with fail
 refine xM (qw _ _ _) ?_;intro e w7 h;obtain ⟨v, rfl, HO, F7, old, HG, hz⟩ := yJ F6 h;clear h c0 c1 c2 c3;go_wp2_with (refine yR HG hz HO ?_)
 exact yW HG F7 HR HO
 ) : p := h
theorem z171 {p : Prop} (h : p := by
 go_wp2_with fail
 refine xM (qw _ _ _) ?_;exact z188
 ) : p := h
theorem z172 {p : Prop} (h : p := by
 exact z184
 ) : p := h
theorem z173 {p : Prop} (h : p := by
 intro e w16 h;obtain ⟨v, rfl, HO, F16, old, HG, hz⟩ := yJ F15 h;clear h c0 c1 c2 c3;go_wp2_with (refine yR HG hz HO ?_)
 exact yW HG F16 HR HO
 ) : p := h
theorem z174 {p : Prop} (h : p := by
 intro e w13 h;obtain ⟨v, rfl, HO, F13, old, HG, hz⟩ := yJ F12 h;clear h c0 c1 c2 c3;go_wp2_with (refine yR HG hz HO ?_)
 exact yW HG F13 HR HO
 ) : p := h
theorem z175 {p : Prop} (h : p := by
 intro e w12 h;obtain ⟨v, rfl, HO, F12, old, HG, hz⟩ := yJ F11 h;clear h c0 c1 c2 c3;go_wp2_with (refine yR HG hz HO ?_)
 exact yW HG F12 HR HO
 ) : p := h
theorem z176 {p : Prop} (h : p := by
 intro e w10 h;obtain ⟨v, rfl, HO, F10, old, HG, hz⟩ := yJ F9 h;clear h c0 c1 c2 c3;go_wp2_with (refine yR HG hz HO ?_)
 exact yW HG F10 HR HO
 ) : p := h
theorem z177 {p : Prop} (h : p := by
 go_wp2_with fail
 go_roundw
 case rel => exact ⟨k + 1, O, Or.inl hlt, by go_num, HO.out, HJ1.out, HB.out⟩
 case measure => simp [intOf]; omega
 ) : p := h
theorem z178 {p : Prop} (h : p := by
 go_wp2_with fail
 refine HS.out.mono ?_;rintro e w2 ⟨rfl, hr, hi⟩;unfold cW;go_wp2_with fail
 go_ret
 exact ⟨rfl, HX.out.tr HRI.out.1 hr, hi⟩
 ) : p := h
theorem z179 {p : Prop} (h : p := by
 intro e w8 h;obtain ⟨v, rfl, HO, F8, old, HG, hz⟩ := yJ F7 h;clear h c0 c1 c2 c3;go_wp2_with (refine yR HG hz HO ?_)
 exact yW HG F8 HR HO
 ) : p := h
theorem z180 {p : Prop} (h : p := by
 exact z188
 ) : p := h
theorem z181 {p : Prop} (h : p := by
 go_wp2_with fail
 go_ret2
 exact ⟨⟨_, (i + 1 + l + 1), rfl, by omega, Or.inr HX.out⟩, F3.out.bel⟩
 ) : p := h
theorem z1 {p : Prop} (h : p := by
 clear hE hEd hb4;go_wp2_with fail
 go_loopw [11, 12] (fun v i wr => JoRel 0 l1 l2 E w4 v i wr) (fun _ i _ => E.length - (intOf i).toNat)
 case atStart => exact ⟨0, [], Or.inr rfl, rfl, qm _ _, ji_start HD.out, Below.refl _ _⟩
 case round =>
  obtain ⟨k, O, hk, rfl, ho, hJ, hb⟩ := hrel;have HO := xH ho;have HJ := xH hJ;have HB := xH hb;have HK := xH hk;have HBw := xH (HB4.out.trans (hb.mono HB4.out.size));have HF1 := xH (jl HV1.out HBw.out);have HF2 := xH (jl HV2.out HBw.out);have hwk : IntKind.i64.wrap ((k : Int) + 1) = (k : Int) + 1 := IntWalk.i64_in _ (by omega);clear ho hJ hb hk;by_cases hlt : k + 1 < E.length
  ·have hlti : (k : Int) + 1 < (E.length : Int) := by omega
   have hki : (k : Int) < (E.length : Int) := by omega
   have hk0 : (0 : Int) ≤ (k : Int) + 1 := by omega
   rcases HE.out with ⟨h0, _⟩ | ⟨_, b, cap, hve, _, hbb, _, _, hc⟩
   ·rw [h0] at hlt; simp at hlt
   cases hve;have hm : 0 ≤ min most 1114111 := by
    rcases HD.out with ⟨h, _⟩ | ⟨h, _⟩
    ·rw [h] at hlt; simp at hlt
    ·exact h
   have hEP : EP (EQ (l1 ++ l2) (min most 1114111)) (2 * (l1 ++ l2).length + 2) E := by
    rcases HD.out with ⟨h, _⟩ | ⟨_, h⟩
    ·rw [h] at hlt; simp at hlt
    ·exact h
   have c01 := hc k (by omega);have c02 := hc (k + 1) hlt;rw [show E.getD k 0 = E[k] by simp [List.getD, show k < E.length by omega]] at c01;rw [show E.getD (k + 1) 0 = E[k + 1] by simp [List.getD, hlt]] at c02;have c1 := qf HB.out c01;have c2 := qf HB.out c02;have C1 := xH c01;have C2 := xH c02;clear c01 c02;have bd1 := yh hm hEP (dI (show k < E.length by omega));have bd2 := yh hm hEP (dI hlt);have HO1 := xH (fun hq => ji_out hm hEP hlt HJ.out hq);have HO2 := xH (fun hq hl => ji_app hm (by omega) hEP hlt HJ.out hq hl);have HO3 := xH (fun (hq : qB 0 l1 l2 E[k] = true) (W0 : List Rg) (p r : Int) (h : O = W0 ++ [(p, r)]) (hr : r + 1 = E[k]) => ji_mrg hm (by omega) hEP hlt HJ.out hq h hr);have HI1 := xH (rin_any _ l1 E[k] wr HF1.out (by have := HL4.out; omega));have HI2 := xH (rin_any _ l2 E[k] wr HF2.out (by have := HL5.out; omega));have hE1 : E[k] ≤ 1114112 := by omega
   have hE2 : E[k + 1] ≤ 1114112 := by omega
   have hE3 : 0 ≤ E[k] := bd1.1;have hE4 : 0 ≤ E[k + 1] := bd2.1;clear hc bd1 bd2 hm hEP;unfold qB at HO1 HO2 HO3;generalize E[k] = x at *;generalize E[k + 1] = y at *;generalize hasB l1 x = p1 at *;generalize hasB l2 x = p2 at *;have hwy : IntKind.i64.wrap (y - 1) = y - 1 := IntWalk.i64_in _ (by omega);go_wp2_with fail
   refine HI1.out.mono ?_;rintro e wr ⟨rfl, rfl⟩;go_wp2_with fail
   refine HI2.out.mono ?_;rintro e wr ⟨rfl, rfl⟩;go_upto_region 11 with (fail)
   go_cut [15] from 25 to 103 (fun c wx => c = .bool (inP 0 p1 p2) ∧ wx = wr)
   case first =>
    cases p1 <;> cases p2 <;> (go_wp2_with fail; go_meet; exact ⟨rfl, rfl⟩)
   case rest =>
    obtain ⟨rfl, rfl⟩ := hcut;cases hq : inP 0 p1 p2
    ·have HJ1 := xH (HO1.out hq);exact z177
    ·rcases List.eq_nil_or_concat O with hO | ⟨W0, ⟨p, r⟩, hO⟩
     ·subst hO;exact z146
     ·subst hO;exact z145
  ·go_wp2_with fail
   go_ret
   have he := ji_end HD.out HJ.out HK.out hlt;exact ⟨_, O, rfl, he.1, he.2, ownR_mono HO.out HB4.out.size, HBw.out⟩
 ) : p := h
theorem z2 {p : Prop} (h : p := by
 as_aux_lemma =>
  have HK0 := xH (HO3.out.trans (if_pos HB));have HNR := xH (show ∀ x, sgn p (f + 2) = x → numR p f (f + 2) = (if x.2.2.2 = true then Except.error (25, (f : Int)) else if x.2.2.1 = f + 2 then (if f + 2 + 1 = p.n then Except.error (20, (p.n : Int)) else Except.error (26, (f : Int))) else match shutR p { kind := 12, n := x.1, m := x.2.1 } f x.2.2.1 [41] 26 with | .error e => Except.error e | .ok r => if x.1 = 0 ∧ x.2.1 ≠ 0 then Except.error (25, (f : Int)) else .ok r) from fun x hx => by subst hx; rfl);go_wp2_with fail
  refine xM (zQ S p _ HP.out (f + 2) (by rw [HN.out]; omega)) ?_;rintro e w16 ⟨rfl, hb⟩;have F16 := xH (F15.out.step hb);clear hb c0 c1 c2 c3;obtain ⟨c0, c1, c2, c3⟩ := F16.out.c;obtain ⟨m1, m2⟩ := sgn_bd HP.out (a := f + 2) (by rw [HN.out]; omega);obtain ⟨q, hq⟩ : ∃ q, sgn p (f + 2) = q := ⟨_, rfl⟩;have HR0 := xH (HK0.out.trans (HNR.out q hq));rw [hq] at m1 m2 ⊢;clear hq HNR HK0;obtain ⟨n, m, b, gr⟩ := q;simp only at m1 m2 HR0;cases gr with
  | true =>
   have HR := xH (HR0.out.trans (if_pos rfl));exact z166
  | false =>
   have HR1 := xH (HR0.out.trans (if_neg (by simp)));clear HR0;by_cases hb0 : b = f + 2
   ·subst hb0;have HR2 := xH (HR1.out.trans (if_pos rfl));have hbe : (((f + 2 : Nat) : Int) == (f : Int) + 2) = true := by simp
    have hbe2 : ((f + 2 : Nat) : Int) = (f : Int) + 2 := by omega
    by_cases hz : f + 2 + 1 = S.size
    ·have HR := xH (HR2.out.trans (if_pos (by rw [HN.out]; exact hz)));have hzi : (f : Int) + 2 + 1 = (S.size : Int) := by omega
     go_wp2_with fail
     refine xM (end_any S p _ HP.out) ?_;exact z185
    ·have HR := xH (HR2.out.trans (if_neg (by rw [HN.out]; exact hz)));have hzi : ¬ (f : Int) + 2 + 1 = (S.size : Int) := by omega
     exact z166
   have hbi : ¬ (b : Int) = (f : Int) + 2 := by omega
   have HR2 := xH (HR1.out.trans (if_neg hb0));clear HR1;go_wp2_with fail
   have HS := shut_any S p w16 HP.out { kind := 12, n := n, m := m } rfl f b m2 [41] ⟨#[41]⟩ rfl (by decide) 26;by_cases h41 : p.has [41] b = true
   ·have hs : shutR p { kind := 12, n := n, m := m } f b [41] 26 = gtok { kind := 12, n := n, m := m } f (b + 1) := by unfold shutR; rw [if_pos h41]; rfl
    rw [hs] at HS;have HR3 := xH (HR2.out.trans (show _ = (if n = 0 ∧ m ≠ 0 then Except.error (25, (f : Int)) else gtok { kind := 12, n := n, m := m } f (b + 1)) by rw [hs]; rfl));clear HR2 hs;refine xM HS ?_;rintro e w17 ⟨v, rfl, ho, hb⟩;have F17 := xH (F16.out.step hb);have HO17 := xO F16.out.x ho;obtain ⟨x1, x2, rfl⟩ := qN ho;have hbw := qK w17 (.cells (gtC (.slice x1 (gtS (gtok { kind := 12, n := n, m := m } f (b + 1))).length x2) (gtok { kind := 12, n := n, m := m } f (b + 1))) 92);have hgn := heap_alloc_new w17 (.cells (gtC (.slice x1 (gtS (gtok { kind := 12, n := n, m := m } f (b + 1))).length x2) (gtok { kind := 12, n := n, m := m } f (b + 1))) 92);have F18 := xH (F17.out.step hbw);have HO18 := xH (jG HO17.out hbw);have ce : (w17.alloc (.cells (gtC (.slice x1 (gtS (gtok { kind := 12, n := n, m := m } f (b + 1))).length x2) (gtok { kind := 12, n := n, m := m } f (b + 1))) 92)).cell? ⟨w17.heap.size, 14, none⟩ = some (.int .i64 0) := by unfold World.cell?; rw [hgn]; rfl
    have HGN := xH hgn;clear hb ho c0 c1 c2 c3 HS hgn hbw;obtain ⟨c0, c1, c2, c3⟩ := F18.out.c;simp only [gtC, gtS, gtok, lay] at ce c0 c1 c2 c3 F18 HO18 HGN ⊢;by_cases hn0 : n = 0
    ·by_cases hm0 : m = 0
     ·have HR := xH (HR3.out.trans (if_neg (fun h => h.2 hm0)));have bn : (n == 0) = true := by simp [hn0]
      have bm : (m != 0) = false := by simp [hm0]
      clear hn0 hm0;exact z149
     ·have HR := xH (HR3.out.trans (if_pos ⟨hn0, hm0⟩));exact z155
    ·have HR := xH (HR3.out.trans (if_neg (fun h => hn0 h.1)));have bn : (n == 0) = false := by simp [hn0]
     clear hn0;exact z149
   exact z147
 ) : p := h
theorem z3 {p : Prop} (h : p := by
 rw [HVV.out] at HD;by_cases l0 : l = 0
 ·have HX := xH (show hexz p i = none by unfold hexz; rw [if_pos h123, if_pos]; rw [HD.out]; simp only; left; omega);have hl0 : ¬ (0 : Int) < (l : Int) := by omega
  clear l0;go_wp2_with fail
  go_ret2
  exact ⟨⟨-1, _, rfl, by omega, Or.inl ⟨HX.out, rfl⟩⟩, F2.out.bel⟩
 ·have hl1 : (0 : Int) < (l : Int) := by omega
  by_cases l7 : l = 7
  ·have HX := xH (show hexz p i = none by unfold hexz; rw [if_pos h123, if_pos]; rw [HD.out]; simp only; right; left; omega);have hl0 : ¬ (l : Int) < 7 := by omega
   clear l7;go_wp2_with fail
   go_ret2
   exact ⟨⟨-1, _, rfl, by omega, Or.inl ⟨HX.out, rfl⟩⟩, F2.out.bel⟩
  ·have hl2 : (l : Int) < 7 := by omega
   have hk : ((i : Int) + 1 + (l : Int) == (i : Int) + 1) = false := by simp; omega
   go_wp2_with fail
   refine xM (qG S p _ HP.out (i + 1 + l) (by omega) [125] ⟨#[125]⟩ rfl (by decide) (Or.inl (by rw [HN.out]; exact hl))) ?_;rintro e w3 ⟨rfl, hb⟩;have F3 := xH (F2.out.step hb);clear hb c0 c1 c2 c3;obtain ⟨c0, c1, c2, c3⟩ := F3.out.c;cases h125 : p.has [125] (i + 1 + l) with
   | false =>
    have HX := xH (show hexz p i = none by unfold hexz; rw [if_pos h123, if_pos]; rw [HD.out]; simp only; right; right; exact h125);go_wp2_with fail
    go_ret2
    exact ⟨⟨-1, _, rfl, by omega, Or.inl ⟨HX.out, rfl⟩⟩, F3.out.bel⟩
   | true =>
    have HR := xH (show hexz p i = hexC p (V, i + 1 + l + 1) by unfold hexz; rw [if_pos h123, if_neg, HD.out]; rw [HD.out]; simp only; rintro (h | h | h); omega; omega; rw [h125] at h; cases h);by_cases hm : p.most < V
    ·have HX := xH (HR.out.trans (show hexC p (V, (i + 1 + l + 1)) = none by unfold hexC; rw [if_pos]; simp only; exact Or.inl hm));go_wp2_with fail
     go_ret2
     exact ⟨⟨-1, (i + 1 + l + 1), rfl, by omega, Or.inl ⟨HX.out, rfl⟩⟩, F3.out.bel⟩
    ·have hm2 : V ≤ p.most := by omega
     cases hu : p.u with
     | false =>
      rw [hu] at c1;have HX := xH (HR.out.trans (show hexC p (V, (i + 1 + l + 1)) = some (V, (i + 1 + l + 1)) by unfold hexC; rw [if_neg]; simp only; rintro (h | ⟨h, _⟩); exact hm h; rw [hu] at h; cases h));exact z181
     | true =>
      rw [hu] at c1;by_cases h5 : 55296 ≤ V
      ·by_cases h6 : V ≤ 57343
       ·have HX := xH (HR.out.trans (show hexC p (V, (i + 1 + l + 1)) = none by unfold hexC; rw [if_pos]; simp only; exact Or.inr ⟨hu, h5, h6⟩));go_wp2_with fail
        go_ret2
        exact ⟨⟨-1, (i + 1 + l + 1), rfl, by omega, Or.inl ⟨HX.out, rfl⟩⟩, F3.out.bel⟩
       ·have HX := xH (HR.out.trans (show hexC p (V, (i + 1 + l + 1)) = some (V, (i + 1 + l + 1)) by unfold hexC; rw [if_neg]; simp only; rintro (h | ⟨_, _, h⟩); exact hm h; exact h6 h));exact z181
      ·have HX := xH (HR.out.trans (show hexC p (V, (i + 1 + l + 1)) = some (V, (i + 1 + l + 1)) by unfold hexC; rw [if_neg]; simp only; rintro (h | ⟨_, h, _⟩); exact hm h; exact h5 h));exact z181
 ) : p := h
theorem z4 {p : Prop} (h : p := by
 go_upto_region 15 with (fail)
 clear e0 e1 e5 e6 e7 e8 e11;have HF2 := xH (HF0.out.fld 5 (.int .i64 9) { x with n := 9 } rfl (by obtain ⟨a1, a2, a3, a4, a5, a6, a7, a8⟩ := HF0.out.t.1; exact ⟨a1, a2, a3, by show I64 9; unfold I64; omega, a5, a6, a7, a8⟩) rfl rfl HF0.out.t.2.2);have HD2 := xH (HD0.out.fld HW.out (by have := HF0.out.g.2; omega) 5 (.int .i64 9));obtain ⟨_, _, _, _, _, e5, _, _, _, _, _, _⟩ := nd129 HF0.out.n;have z5 := ndz HF0.out.n 5;go_upto_region 16 with (fail)
 generalize w1.setCell _ _ = w2 at *;have HF2 : Hid (DF h G { x with n := 9 } k w w2) := HF2;clear e5 z5 HF0 HD0;obtain ⟨_, e1, _, _, _, e5, e6, e7, e8, _, _, _⟩ := nd129 HF2.out.n;have HM2 := xH (HM.out _ HD2.out);go_wp2_with (refine HM2.out.mono ?_)
 rintro e w3 ⟨rfl, hb3⟩;have HF3 := xH (HF2.out.below hb3);have HD3 := xH (HD2.out.keep hb3);clear hb3 HM HM2 HF2 HD2 e1 e5 e6 e7 e8;have HF4 := xH (HF3.out.fld 7 (.int .i64 t) { x with n := 9, mode := t } rfl (by obtain ⟨a1, a2, a3, a4, a5, a6, a7, a8⟩ := HF3.out.t.1; exact ⟨a1, a2, a3, a4, a5, HTI.out, a7, a8⟩) rfl rfl HF3.out.t.2.2);have HD4 := xH (HD3.out.fld HW.out (by have := HF3.out.g.2; omega) 7 (.int .i64 t));obtain ⟨_, _, _, _, _, _, _, e7, _, _, _, _⟩ := nd129 HF3.out.n;have z7 := ndz HF3.out.n 7;go_upto_region 17 with (fail)
 generalize w3.setCell _ _ = w4 at *;have HF4 : Hid (DF h G { x with n := 9, mode := t } k w w4) := HF4;clear e7 z7 HF3 HD3;have HF5 := xH (HF4.out.fld 6 (.int .i64 0) { x with n := 9, mode := t, m := 0 } rfl (by obtain ⟨a1, a2, a3, a4, a5, a6, a7, a8⟩ := HF4.out.t.1; exact ⟨a1, a2, a3, a4, by show I64 0; unfold I64; omega, a6, a7, a8⟩) rfl rfl HF4.out.t.2.2);have HD5 := xH (HD4.out.fld HW.out (by have := HF4.out.g.2; omega) 6 (.int .i64 0));obtain ⟨_, _, _, _, _, _, e6, _, _, _, _, _⟩ := nd129 HF4.out.n;have z6 := ndz HF4.out.n 6;go_upto_region 18 with (fail)
 generalize w4.setCell _ _ = w5 at *;have HF5 : Hid (DF h G { x with n := 9, mode := t, m := 0 } k w w5) := HF5;clear e6 z6 HF4 HD4;have HF6 := xH (HF5.out.fld 8 (.string ⟨#[]⟩) { x with n := 9, mode := t, m := 0, name := ⟨#[]⟩ } rfl (HF5.out.t.1) rfl rfl HF5.out.t.2.2);have HD6 := xH (HD5.out.fld HW.out (by have := HF5.out.g.2; omega) 8 (.string ⟨#[]⟩));obtain ⟨_, _, _, _, _, _, _, _, e8, _, _, _⟩ := nd129 HF5.out.n;have z8 := ndz HF5.out.n 8;go_upto_region 19 with (fail)
 generalize w5.setCell _ _ = w6 at *;have HF6 : Hid (DF h G { x with n := 9, mode := t, m := 0, name := ⟨#[]⟩ } k w w6) := HF6;clear e8 z8 HF5 HD5;have hne := need_any HD6.out t 1 x.at_;exact z154
 ) : p := h
theorem z5 {p : Prop} (h : p := by
 clear hl;have HKD := xH (zF HO13.out);have HNT := xH (zk 13 (by unfold I64; omega) HKD.out);have HOS := xH (jV 13 (.slice ua f.len uc) f);have HON := xH (fun W (h : jr W (.slice ua f.len uc) f) => one_any 13 (by unfold I64; omega) (.slice ua f.len uc) f W h);have HKW := xH (jh (fun a v hc => vis_to (vis_kept HK15.out (show P < wc.heap.size by omega) (xL _) a v hc)) HKD.out);generalize oneR 13 (.slice ua f.len uc) f = t at *;go_wp2_with fail
 refine (HON.out w15 HKW.out).mono ?_;rintro e w16 ⟨rfl, hb⟩;obtain ⟨B, hB⟩ : ∃ B, w16.heap.size = B := ⟨_, rfl⟩;have H17 := xH (fun w17 h17 => group_17 (w17 := w17) (o := .cells (ndC t.1).toArray 27) HG15.out hb h17);have HE := xH (fun w17 w18 h17 h18 => group_end (w17 := w17) (w18 := w18) (l := l) hlt HV13.out HK13.out (show w.heap.size + 1 ≤ wc.heap.size by omega) hsz13 HK15.out HG15.out HP15.out hb HNT.out HLT.out hB h17 h18);have HT1 := xH (qp HNT.out);have HBB := xH hB;have HGS := xH (group_s (t := tk) (l := r.1) (s := { r.2 with i := r.2.i + 1, op := r.2.op - 1 }) (by omega) (by omega));clear hb hB HON HKW HKD HG15 HP15 HK15 HNT HV13 HK13 hsz13 hszW hPN hfu hrem;go_wp2_with (first
  | (refine jc rfl _ rfl t.1 rfl B HBB.out ?_; intro w17 h17)
  | (refine jW rfl rfl _ _ rfl w13.heap.size rfl _ _ _ rfl l (H17.out _ h17.out) ?_; intro w18 h18; obtain ⟨old, hg, hz, hG, hN, hP, hK⟩ := HE.out _ _ h17.out h18.out; have HGR := xH hg; have HG18 := xH hG; have HN18 := xH hN; have HP18 := xH hP; have HK18 := xH hK; have H1 := xH (qp hN); clear hg hG hN hP hK h17 h18 HE H17)
  | (refine ql rfl _ rfl w13.heap.size rfl ({ l with kv := .slice (some ⟨B, 0, none⟩) 1 1 } : Lab) HG18.out ?_)
  | (refine qh rfl rfl _ _ rfl w.heap.size rfl _ ({ l with kv := .slice (some ⟨B, 0, none⟩) 1 1 } : Lab) HGR.out hz H1.out rfl ?_))
 refine xB (qA rfl _ _ w.heap.size ({ l with kv := .slice (some ⟨B, 0, none⟩) 1 1 } : Lab) rfl (setRow_heap _ _ _ _ _ _ HGR.out)) rfl ?_;exact run_end (t := (({ l with kv := .slice (some ⟨B, 0, none⟩) 1 1 } : Lab), F.one t.1 t.2)) hlt HN18.out (by
  rw [HR3.out];show F.one { l with sv := nil3, kv := nil3 } (strip (F.one t.1 t.2)) = jf tk lks r.1;rw [HSL.out, HGF.out, HOS.out, HST.out]) HP18.out (by rw [HR3.out]; exact HGS.out.symm) HK18.out
 ) : p := h
theorem z6 {p : Prop} (h : p := by
 rw [hr] at HNC HR;clear hr HB HG HRV HBW HZ;go_wp2_with (refine ql rfl _ rfl w.heap.size rfl x HG1.out ?_)
 refine HNC.out.mono ?_;rintro e w2 ⟨hb, y, j, rfl, hn2, hs2⟩;have HN2 := xH hn2;have HS2 := xH hs2;have H1 := xH (qp hn2);have HB2 := xH (qi HB1.out hb);have HRV2 := xH ((hb.block _ (by have := HSZ.out; omega)).trans HRV1.out);have HZ2 := xH (show w.heap.size + 2 ≤ w2.heap.size by have := hb.size; have := HSZ.out; omega);have HG2 := xH (heap_alloc_new w2 (.cells #[.int .i64 0, .int .i64 0, .int .i64 0, .slice none 0 0, .bool false, .int .i64 0, .int .i64 0, .int .i64 0, .string ⟨#[]⟩, .int .i64 0, .int .i64 0, .slice none 0 0] 27));clear hb hn2 hs2 HNC d0 d1 HG1 HRV1;dsimp only;go_upto_region 5 with (refine qh rfl rfl _ _ rfl w2.heap.size rfl _ y HG2.out rfl H1.out rfl ?_)
 have HB5 := xH (rpw.qC (qg w2 (.cells #[.int .i64 0, .int .i64 0, .int .i64 0, .slice none 0 0, .bool false, .int .i64 0, .int .i64 0, .int .i64 0, .string ⟨#[]⟩, .int .i64 0, .int .i64 0, .slice none 0 0] 27)) (ndC y).toArray (xL _));have HG5 := xH (setRow_heap _ _ _ (ndC y).toArray _ _ HG2.out);generalize (w2.alloc (.cells #[.int .i64 0, .int .i64 0, .int .i64 0, .slice none 0 0, .bool false, .int .i64 0, .int .i64 0, .int .i64 0, .string ⟨#[]⟩, .int .i64 0, .int .i64 0, .slice none 0 0] 27)).setRow w2.heap.size (ndC y).toArray = w5 at *;have HRV5 := xH ((HB5.out.block _ (by have := HZ2.out; omega)).trans HRV2.out);go_wp2_with (first
  | (refine ql rfl _ rfl w2.heap.size rfl y HG5.out ?_)
  | (refine qh rfl rfl _ _ rfl (w.heap.size + 1) rfl _ y HRV5.out rfl H1.out rfl ?_))
 refine xB (qA rfl _ _ (w.heap.size + 1) y rfl (setRow_heap _ _ _ _ _ _ HRV5.out)) rfl ?_;refine ⟨rpw.qC (qi HB2.out HB5.out) _ (Nat.le_succ _), y, j, rfl, qY (qU fun a v h1 hc => ?_) HN2.out, by rw [HR.out, HS2.out]⟩;simp only [dE, dD] at h1;exact ⟨h1.1, rpw.jI _ (trw.qf HB5.out hc) h1.2⟩
 ) : p := h
theorem z7 {p : Prop} (h : p := by
 have HR := xH (HR0.out.trans (show _ = (F.one { bare x with mode := x.mode } (rowP u m k f).1, f) by rw [HNV.out]));clear d0 d1;have HRow := xH (HRC.out (x).kv f w0 (hN h (w.heap.size + 2)) HF0.out.o HF0.out.t.2.2 HOKF.out.2.2.1 hsz);have d0 : w0.cell? ⟨w.heap.size, 0, none⟩ = some (.bool u) := by unfold World.cell?; rw [HF0.out.c]; rfl
 have d1 : w0.cell? ⟨w.heap.size, 1, none⟩ = some (.int .i64 m) := by unfold World.cell?; rw [HF0.out.c]; rfl
 have e11 : w0.cell? ⟨w.heap.size + 1, 11, none⟩ = some (x.kv) := by unfold World.cell?; rw [HF0.out.n]; rfl
 generalize rowP u m k f = rr at *;go_wp2_with fail
 refine HRow.out.mono ?_;rintro e w3 ⟨hb, v3, g3, rfl, ho, hs⟩;obtain ⟨p3, c3, rfl⟩ := zJ ho.1;have HF3 := xH (HF0.out.below hb);have z11 : w3.cell? ⟨w.heap.size + 1, 11, none⟩ = some (x.kv) := by unfold World.cell?; rw [HF3.out.n]; rfl
 have y11 : w3.frozen? ⟨w.heap.size + 1, 11, none⟩ = false := by unfold World.frozen?; rw [HF3.out.n]; rfl
 obtain ⟨hg, hr, ht, hb4⟩ := fld_kids HF3.out (ownH_kids ho HF0.out.o);have HG := xH hg;have HRV := xH hr;have HT := xH ht;have HB := xH hb4;have H1 := xH (qp ht);have HST := xH hs;clear hg hr ht hb4 hb ho hs HRow d0 d1 e11;dsimp only;go_upto_region 50 with (fail)
 exact z148
 ) : p := h
theorem z8 {p : Prop} (h : p := by
 have HE := xH (sub_ext HP.out (show a ≤ a + l by omega) (show a + l ≤ p.n by rw [HN.out]; omega));have hz : (p.sub a (a + l)).size = l := by rw [tkw.sub_size]; omega
 have hix : ∀ (h : 0 < (p.sub a (a + l)).size), (((p.sub a (a + l))[0]'h).toNat : Int) = p.g a := fun h => tkw.sub_at (jS HP.out) h
 have hxt : S.extract a (a + l) = p.sub a (a + l) := HE.out;obtain ⟨g0, g1⟩ := jS HP.out a;by_cases l0 : l = 0
 ·have HR := xH (show (p.name a).2 = false by rw [HNM.out]; simp [l0]);have hl0 : ¬ (0 : Int) < (l : Int) := by omega
  have hzi : ¬ (0 : Int) < ((p.sub a (a + l)).size : Int) := by omega
  have hle : l ≤ 32 := by omega
  clear l0;go_wp2_with fail
  go_ret3
  unfold NamB;rw [HR.out, HNM.out];exact ⟨rfl, F1.out.bel⟩
 by_cases l32 : l ≤ 32
 ·have l1 : 0 < l := by omega
  have l2 : (l : Int) ≤ 32 := by omega
  have hl0 : (0 : Int) < (l : Int) := by omega
  have hzi : (0 : Int) < ((p.sub a (a + l)).size : Int) := by omega
  have hzj : ((p.sub a (a + l)).size : Int) ≤ 32 := by omega
  go_wp2_with fail
  refine xM (digit_any _ _ g0 g1) ?_;rintro e w1 ⟨rfl, rfl⟩;have HR := xH (show (p.name a).2 = !isDig (p.g a) by rw [HNM.out]; simp [l1, l32]);go_wp2_with fail
  go_ret3
  unfold NamB;rw [HR.out, HNM.out];exact ⟨rfl, F1.out.bel⟩
 have HR := xH (show (p.name a).2 = false by rw [HNM.out]; simp [l32]);have l1 : 0 < l := by omega
 have l2 : ¬ (l : Int) ≤ 32 := by omega
 have hzi : (0 : Int) < ((p.sub a (a + l)).size : Int) := by omega
 have hzj : ¬ ((p.sub a (a + l)).size : Int) ≤ 32 := by omega
 go_wp2_with fail
 go_ret3
 unfold NamB;rw [HR.out, HNM.out];exact ⟨rfl, F1.out.bel⟩
 ) : p := h
theorem z9 {p : Prop} (h : p := by
 as_aux_lemma =>
  go_wp2_with fail
  refine (fail_any P _ _ 32 (tk.at_ : Int) w17 HP17.out).mono ?_;rintro e w18 ⟨rfl, hp, hk⟩;have HP18 := xH hp;have HK18 := xH (HK17.out.then hk);have HN18 := xH (zl hk (show P < w.heap.size + 1 by omega) (xL _) HN17.out);have HG18 := xH ((hk.block w13.heap.size HNL.out HNP.out).trans HG17.out);obtain ⟨old, hg, hz⟩ := (show RvAt w17 w.heap.size from HRV.out).kept hk hlt;have HGR := xH hg;clear hp hk hg HG17 HP17 HK17 HN17 HRV;go_wp2_with (first
   | (refine ql rfl _ rfl w13.heap.size rfl ((Lab.mk 19 (tk.at_ : Int) 0 nil3 [] false tk.n tk.m tk.mode tk.name 0 0 (.slice a16 ((lk).len + f.len) c16)) : Lab) HG18.out ?_)
   | (refine qh rfl rfl _ _ rfl w.heap.size rfl _ ((Lab.mk 19 (tk.at_ : Int) 0 nil3 [] false tk.n tk.m tk.mode tk.name 0 0 (.slice a16 ((lk).len + f.len) c16)) : Lab) HGR.out hz H1.out rfl ?_))
  refine xB (qA rfl _ _ w.heap.size ((Lab.mk 19 (tk.at_ : Int) 0 nil3 [] false tk.n tk.m tk.mode tk.name 0 0 (.slice a16 ((lk).len + f.len) c16)) : Lab) rfl (setRow_heap _ _ _ _ _ _ HGR.out)) rfl ?_;exact run_end (t := (((Lab.mk 19 (tk.at_ : Int) 0 nil3 [] false tk.n tk.m tk.mode tk.name 0 0 (.slice a16 ((lk).len + f.len) c16)) : Lab), F.app lk f)) hlt HN18.out (by
   rw [HR3.out];show F.one ((Lab.mk 19 (tk.at_ : Int) 0 nil3 [] false tk.n tk.m tk.mode tk.name 0 0 nil3) : Lab) (strip (F.app lk f)) = jf tk lks r.1;rw [jH, HGF.out, HST.out, HSL.out]) HP18.out (by rw [HR3.out]; exact HGS.out.symm) HK18.out
 ) : p := h
theorem z10 {p : Prop} (h : p := by
 by_cases hm : p.most < V
 ·have HX := xH (HR.out.trans (show hexC p (V, (i + l)) = none by unfold hexC; rw [if_pos]; simp only; exact Or.inl hm));go_wp2_with fail
  go_ret2
  exact ⟨⟨-1, (i + l), rfl, by omega, Or.inl ⟨HX.out, rfl⟩⟩, F2.out.bel⟩
 ·have hm2 : V ≤ p.most := by omega
  cases hu : p.u with
  | false =>
   rw [hu] at c1;have HX := xH (HR.out.trans (show hexC p (V, (i + l)) = some (V, (i + l)) by unfold hexC; rw [if_neg]; simp only; rintro (h | ⟨h, _⟩); exact hm h; rw [hu] at h; cases h));go_wp2_with fail
   go_ret2
   exact ⟨⟨_, (i + l), rfl, by omega, Or.inr HX.out⟩, F2.out.bel⟩
  | true =>
   rw [hu] at c1;by_cases h5 : 55296 ≤ V
   ·by_cases h6 : V ≤ 57343
    ·have HX := xH (HR.out.trans (show hexC p (V, (i + l)) = none by unfold hexC; rw [if_pos]; simp only; exact Or.inr ⟨hu, h5, h6⟩));go_wp2_with fail
     go_ret2
     exact ⟨⟨-1, (i + l), rfl, by omega, Or.inl ⟨HX.out, rfl⟩⟩, F2.out.bel⟩
    ·have HX := xH (HR.out.trans (show hexC p (V, (i + l)) = some (V, (i + l)) by unfold hexC; rw [if_neg]; simp only; rintro (h | ⟨_, _, h⟩); exact hm h; exact h6 h));go_wp2_with fail
     go_ret2
     exact ⟨⟨_, (i + l), rfl, by omega, Or.inr HX.out⟩, F2.out.bel⟩
   ·have HX := xH (HR.out.trans (show hexC p (V, (i + l)) = some (V, (i + l)) by unfold hexC; rw [if_neg]; simp only; rintro (h | ⟨_, h, _⟩); exact hm h; exact h5 h));go_wp2_with fail
    go_ret2
    exact ⟨⟨_, (i + l), rfl, by omega, Or.inr HX.out⟩, F2.out.bel⟩
 ) : p := h
theorem z11 {p : Prop} (h : p := by
 have HR3 := xH (HR2.out.trans (if_neg (by simp [hh])));clear HR2;by_cases hn0 : n = 0
 ·subst hn0;by_cases hm0 : m = 0
  ·subst hm0;have HR := xH (HR3.out.trans (if_neg (by simp)));go_wp2_with fail
   refine xM (qF (.slice none 0 0) ({ kind := 12, n := 0, m := 0 }) (f) (b + 1) _ (k := B) (qm _ _)) ?_;exact z160
  ·have HR := xH (HR3.out.trans (if_pos ⟨rfl, Or.inr hm0⟩));have hb0 : (m != 0) = true := by simpa using hm0
   exact z167
 ·have HR := xH (HR3.out.trans (if_neg (by rintro ⟨h, _⟩; exact hn0 h)));have hb0 : (n == 0) = false := by simpa using hn0
  go_wp2_with fail
  refine xM (qF (.slice none 0 0) ({ kind := 12, n := n, m := m }) (f) (b + 1) _ (k := B) (qm _ _)) ?_;exact z160
 ) : p := h
theorem z12 {p : Prop} (h : p := by
 by_cases hy1 : 0 ≤ y
 ·by_cases hy2 : y < 1114111
  ·have hyw : IntKind.i64.wrap (y + 1) = y + 1 := IntWalk.i64_in _ (by omega);have HC2 := xH (fun a (ha : a ≤ 1114111) => put_edge (k := k) (a := a) HO.out HE.out (HM.out) ha HB.out hlt HL.out (by omega));exact z152
  ·have hy2b : decide (y < 1114111) = false := decide_eq_false hy2;exact z157
 ·have hy1b : decide (0 ≤ y) = false := decide_eq_false hy1;exact z157
 ) : p := h
theorem z13 {p : Prop} (h : p := by
 by_cases hy1 : 0 ≤ y
 ·by_cases hy2 : y < most
  ·have hyw : IntKind.i64.wrap (y + 1) = y + 1 := IntWalk.i64_in _ (by omega);have HC2 := xH (fun a (ha : a ≤ most) => put_edge (k := k) (a := a) HO.out HE.out (HM.out) ha HB.out hlt HL.out (by omega));exact z153
  ·have hy2b : decide (y < most) = false := decide_eq_false hy2;exact z158
 ·have hy1b : decide (0 ≤ y) = false := decide_eq_false hy1;exact z158
 ) : p := h
theorem z14 {p : Prop} (h : p := by
 go_wp2_with fail
 refine wp_region_quiet_below (by kernel_rfl) (by kernel_rfl) ?_
 repeat (go_big_quiet_step (first | exact cA _ _))
 refine wpQuiet_nil ?_;intro _ hw';obtain ⟨⟨dq, osq⟩, hw''⟩ := hw';subst hw'';have hb := below_regrown w5 dq osq;generalize grow (redrawn w5 dq) osq = w6 at *;have F6 := xH (F5.out.step hb);clear hb c0 c1 c2 c3 k0 k1 k2 k3 cA sl0 sl1 sl2;obtain ⟨c0, c1, c2, c3⟩ := F6.out.c;have HR2 := xH (HK.out.trans (Eq.trans (Eq.symm hbk.out) (HB.out.trans (if_pos (by simp [hh2])))));go_wp2_with fail
 refine xM (qF (.slice none 0 0) ({ kind := 11, name := nm, m := 3 }) (i) (y + 1) _ (k := B) (qm _ _)) ?_;rintro e w7 ⟨rfl, ho, hb⟩;have F7 := xH (F6.out.step hb);have HO := xH ho;clear hb ho c0 c1 c2 c3;obtain ⟨old, hg, hz⟩ := F7.out.g;have HG := xH hg;clear hg;go_wp2_with (refine xR HG hz HO rfl rfl rfl rfl rfl ?_)
 refine xB (xE HG rfl rfl) rfl ?_;exact qj F7.out HR2.out HO.out (xL _)
 ) : p := h
theorem z15 {p : Prop} (h : p := by
 go_enter Try.func56, Try.ntmps56;go_upto_region 12 with (fail)
 rw [HQ.out];by_cases h0 : k2 < 0
 ·have HE := xH (show -1 = r from by have := HR.out; rw [if_pos (Or.inl h0)] at this; exact this);have d0 : decide (k2 < 0) = true := decide_eq_true h0;clear h0;go_wp2_with fail
  go_ret
  exact ⟨by rw [← HE.out]; rfl, Below.refl _ _⟩
 ·have d0 : decide (k2 < 0) = false := decide_eq_false h0;by_cases h1 : cnt < k2
  ·have HE := xH (show -1 = r from by have := HR.out; rw [if_pos (Or.inr h1)] at this; exact this);have d1 : decide (k2 > cnt) = true := decide_eq_true h1;have d2 : decide (cnt < k2) = true := decide_eq_true h1;clear h0 h1;go_wp2_with fail
   go_ret
   exact ⟨by rw [← HE.out]; rfl, Below.refl _ _⟩
  ·have HE := xH (show k2 = r from by have := HR.out; rw [if_neg (fun e => e.elim h0 h1)] at this; exact this);have d1 : decide (k2 > cnt) = false := decide_eq_false h1;have d2 : decide (cnt < k2) = false := decide_eq_false h1;clear h0 h1;go_wp2_with fail
   go_ret
   exact ⟨by rw [← HE.out]; rfl, Below.refl _ _⟩
 ) : p := h
theorem z16 {p : Prop} (h : p := by
 as_aux_lemma =>
  go_wp2_with (first
   | (refine ql rfl _ rfl w13.heap.size rfl ((Lab.mk 19 (tk.at_ : Int) 0 nil3 [] false tk.n tk.m tk.mode tk.name 0 0 (.slice a16 ((lk).len + f.len) c16)) : Lab) HG17.out ?_)
   | (refine qh rfl rfl _ _ rfl w.heap.size rfl _ ((Lab.mk 19 (tk.at_ : Int) 0 nil3 [] false tk.n tk.m tk.mode tk.name 0 0 (.slice a16 ((lk).len + f.len) c16)) : Lab) HGR.out hz H1.out rfl ?_))
  refine xB (qA rfl _ _ w.heap.size ((Lab.mk 19 (tk.at_ : Int) 0 nil3 [] false tk.n tk.m tk.mode tk.name 0 0 (.slice a16 ((lk).len + f.len) c16)) : Lab) rfl (setRow_heap _ _ _ _ _ _ HGR.out)) rfl ?_;exact run_end (t := (((Lab.mk 19 (tk.at_ : Int) 0 nil3 [] false tk.n tk.m tk.mode tk.name 0 0 (.slice a16 ((lk).len + f.len) c16)) : Lab), F.app lk f)) hlt HN17.out (by
   rw [HR3.out];show F.one ((Lab.mk 19 (tk.at_ : Int) 0 nil3 [] false tk.n tk.m tk.mode tk.name 0 0 nil3) : Lab) (strip (F.app lk f)) = jf tk lks r.1;rw [jH, HGF.out, HST.out, HSL.out]) HP17.out (by rw [HR3.out]; exact HGS.out.symm) HK17.out
 ) : p := h
theorem z17 {p : Prop} (h : p := by
 by_cases ha : arg = ⟨#[]⟩
 ·have HR := xH (HZ.out.trans (show _ = Except.error (28, (f : Int)) by unfold verbG; rw [if_pos (by simp [ha])]));exact z159
 ·have HR := xH (HZ.out.trans (show _ = gtok { kind := 13, n := 7, name := arg } f (f + 2 + l + 1) by unfold verbG; rw [if_neg (by simp [hv, ha]), hv]));have ba := qy (l := []) ha;have bb := emp_n ha;clear ha;go_wp2_with fail
  refine xM (qF (.slice none 0 0) ({ kind := 13, n := 7, name := arg }) (f) (f + 2 + l + 1) _ (k := B) (qm _ _)) ?_;exact z161
 ) : p := h
theorem z18 {p : Prop} (h : p := by
 obtain ⟨l, neg, j⟩ := x;rw [hm] at HM;have HR := xH (HE10.out.trans (show _ = gtok { kind := 2, set := l, neg := neg } i j by rw [hm]));refine xM HM ?_;rintro e w2 ⟨⟨v, rfl, ho⟩, hb⟩;have HW := xO F1.out.x ho;have F2 := xH (F1.out.step hb);clear hb ho c0 c1 c2 c3 HM hm;obtain ⟨c0, c1, c2, c3⟩ := F2.out.c;obtain ⟨x1, x2, rfl⟩ := qN HW.out;go_wp2_with fail
 refine xM (qF (.slice x1 l.length x2) ({ kind := 2, set := l, neg := neg }) (i) (j) _ (k := B) (HW.out)) ?_;rintro e w3 ⟨rfl, ho, hb⟩;have F3 := xH (F2.out.step hb);have HO := xH ho;clear hb ho c0 c1 c2 c3;obtain ⟨old, hg, hz⟩ := F3.out.g;have HG := xH hg;clear hg;go_wp2_with (refine qJ rfl rfl _ _ rfl (B + 1) rfl _ _ HG.out hz (jw (.slice x1 l.length x2) _) (jO HO.out _) rfl ?_)
 refine xB (qW rfl _ _ (B + 1) _ rfl (setRow_heap _ _ _ _ _ _ HG.out) (jw (.slice x1 l.length x2) _)) rfl ?_;exact qj F3.out HR.out HO.out (xL _)
 ) : p := h
theorem z19 {p : Prop} (h : p := by
 rw [hE2] at hne;have HNE := xH hne;clear hne;have HE2 := xH hE2;clear hE2;obtain ⟨_, e1, _, _, _, e5, _, _, _, _, _, _⟩ := nd129 HF5.out.n;go_wp2_with (refine HNE.out.mono ?_)
 rintro e w6 rfl hd6 hc6;have HD6 := xH hd6;have HF6 := xH (HF5.out.cg hc6);have H1 := xH (qp HF6.out.t);clear hd6 hc6 HNE HF5 HD5 e1 e5;go_wp2_with (first
  | (refine ql rfl _ rfl w.heap.size rfl ({ x with n := t, m := 0, name := ⟨#[]⟩ }) HF6.out.n ?_)
  | (refine qh rfl rfl _ _ rfl (w.heap.size + 1) rfl _ ({ x with n := t, m := 0, name := ⟨#[]⟩ }) HF6.out.r rfl H1.out rfl ?_))
 refine xB (qZ rfl _ _ (w.heap.size + 1) ({ x with n := t, m := 0, name := ⟨#[]⟩ }) rfl (setRow_heap _ _ _ _ _ _ HF6.out.r)) rfl ?_;exact HF6.out.fin HD6.out HW.out (by rw [HRR.out]; rfl) (by rw [HRR.out]) (by rw [HRR.out]; exact HE2.out.symm)
 ) : p := h
theorem z20 {p : Prop} (h : p := by
 have HR := xH (HZ.out.trans (show _ = Except.error (28, (f : Int)) by unfold verbG; rw [if_pos (by simp [hv])]));by_cases ha : arg = ⟨#[]⟩
 ·have ba := jR (l := []) ha;have bb := emp_y ha;exact z165
 ·have ba := qy (l := []) ha;have bb := emp_n ha;exact z165
 ) : p := h
theorem z21 {p : Prop} (h : p := by
 have HR := xH (show many p c i = .ok (some (normR p.most (propL s), false, b)) by unfold many; rw [if_pos HC.out, hbr]; simp only [HU.out, hP, if_true]; simp [hh, HCV.out]);exact z151
 ) : p := h
theorem z22 {p : Prop} (h : p := by
 have HR := xH (show many p c i = .ok (some (normR p.most (propL s), true, b)) by unfold many; rw [if_pos HC.out, hbr]; simp only [HU.out, hP, if_true]; simp [hh, HCV.out]);exact z151
 ) : p := h
theorem z23 {p : Prop} (h : p := by
 exact z148
 ) : p := h
theorem z24 {p : Prop} (h : p := by
 have HR := xH (HR0.out.trans (show _ = (F.one (bare x) (strip k), f) by rw [HNV.out]; rfl));have H1 := xH (qp HF0.out.t);have HRV := xH HF0.out.r;have HG := xH HF0.out.n;go_wp2_with (first
  | (refine ql rfl _ rfl (w.heap.size + 1) rfl (x) HG.out ?_)
  | (refine qh rfl rfl _ _ rfl (w.heap.size + 2) rfl _ (x) HRV.out rfl H1.out rfl ?_))
 refine xB (qZ rfl _ _ (w.heap.size + 2) (x) rfl (setRow_heap _ _ _ _ _ _ HRV.out)) rfl ?_;exact vX HF0.out (Below.refl _ _) HF0.out.t (by rw [HR.out]; rfl) (by rw [HR.out])
 ) : p := h
theorem z25 {p : Prop} (h : p := by
 go_wp2_with fail
 refine xM (end_any S p _ HP.out) ?_;exact z150
 ) : p := h
theorem z26 {p : Prop} (h : p := by
 go_wp2_with fail
 refine xM (qw _ _ _) ?_;exact z150
 ) : p := h
theorem z27 {p : Prop} (h : p := by
 have HR := xH (HZ.out.trans (show _ = gtok { kind := 13, n := 2, name := ⟨#[]⟩ } f (f + 2 + l + 1) by unfold verbG; rw [if_neg (by simp [hv]), hv]));go_wp2_with fail
 refine xM (qF (.slice none 0 0) ({ kind := 13, n := 2, name := ⟨#[]⟩ }) (f) (f + 2 + l + 1) _ (k := B) (qm _ _)) ?_;exact z161
 ) : p := h
theorem z28 {p : Prop} (h : p := by
 go_wp2_with (first
  | (refine ql rfl _ rfl w9.heap.size rfl (leafL tk (.slice sa tk.set.length sq)) HG11.out ?_)
  | (refine qh rfl rfl _ _ rfl w.heap.size rfl _ (leafL tk (.slice sa tk.set.length sq)) HGR.out hz H1.out rfl ?_))
 refine xB (qA rfl _ _ w.heap.size (leafL tk (.slice sa tk.set.length sq)) rfl (setRow_heap _ _ _ _ _ _ HGR.out)) rfl ?_;exact run_end (t := ((leafL tk (.slice sa tk.set.length sq)), .nil)) hlt HN11.out (by rw [HR.out]; rfl) HP11.out (by rw [HR.out]) HK11.out
 ) : p := h
theorem z29 {p : Prop} (h : p := by
 exact z149
 ) : p := h
theorem z30 {p : Prop} (h : p := by
 have hx : x = 24 := many_err hm;subst hx;rw [hm] at HM;have HR := xH (HE10.out.trans (show _ = Except.error (24, (i : Int)) by rw [hm]));refine xM HM ?_;rintro e w2 ⟨⟨j, rfl⟩, hb⟩;have F2 := xH (F1.out.step hb);clear hb c0 c1 c2 c3 HM hm;obtain ⟨c0, c1, c2, c3⟩ := F2.out.c;exact z169
 ) : p := h
theorem z31 {p : Prop} (h : p := by
 clear h43 h45
 as_aux_lemma =>
  have HFL := xH (fun W => flags_any S p W HP.out f (f + 2) (by rw [HN.out]; omega));have HR := xH (HO3.out.trans (if_neg (by rw [HB]; decide)));clear HO3;generalize flagR p f (p.n + 1 - (f + 2)) (f + 2) false 0 0 = r at *;go_wp2_with fail
  refine xM (HFL.out _) ?_;exact z173
 ) : p := h
theorem z32 {p : Prop} (h : p := by
 have HR := xH (HE2.out.trans (show _ = gtok { kind := 1, c := 123 } i z by rw [HB2.out, if_neg (by simp [h125])]));go_wp2_with fail
 refine xM (qF (.slice none 0 0) ({ kind := 1, c := 123 }) (i) (z) _ (k := B) (qm _ _)) ?_;exact z160
 ) : p := h
theorem z33 {p : Prop} (h : p := by
 exact z151
 ) : p := h
theorem z34 {p : Prop} (h : p := by
 clear hv;go_enter Try.func75, Try.ntmps75;go_wp2_with fail
 refine HJ.out.mono ?_;rintro e w1 ⟨v1, S, rfl, hS, hh, ho, hb⟩;have HS := xH hS;have HH := xH hh;have HO := xH ho;clear hS hh ho;go_wp2_with fail
 go_ret
 refine ⟨_, S, rfl, HS.out, fun c => ?_, HO.out, hb⟩;rw [HH.out, qB_union];constructor
 ·rintro ⟨a, b, c | c⟩
  ·exact ⟨c, a, b⟩
  ·exact absurd c (has_nil _)
 ·rintro ⟨a, b, c⟩;exact ⟨b, c, Or.inl a⟩
 ) : p := h
theorem z35 {p : Prop} (h : p := by
 have HR := xH (HR2.out.trans (if_neg (by simp [hh])));go_wp2_with fail
 refine xM (qF (.slice none 0 0) ({ kind := 12, name := nm, m := 3 }) (f) (z + 1) _ (k := B) (qm _ _)) ?_;exact z162
 ) : p := h
theorem z36 {p : Prop} (h : p := by
 have HR := xH (HR1.out.trans (if_neg (by simp [hl, h48])));clear h48;go_wp2_with fail
 refine xM (qF (.slice none 0 0) ({ kind := 1, c := c }) (i) (z) _ (k := B) (qm _ _)) ?_;exact z163
 ) : p := h
theorem z37 {p : Prop} (h : p := by
 have HR := xH (show many p c i = .error 24 by unfold many; rw [if_pos HC.out, hbr]);go_wp2_with fail
 have HB := braced_any S p W HP.out i (by rw [HN.out]; exact hi);rw [hbr] at HB;refine xM HB ?_;rintro e w1 ⟨rfl, hb⟩;have F1 := xH (F0.out.step hb);clear hb c0 c1 c2 c3;obtain ⟨c0, c1, c2, c3⟩ := F1.out.c;go_wp2_with fail
 refine xB (qE rfl _ _ _) rfl ?_;exact mab_err HR.out F1.out.bel
 ) : p := h
theorem z38 {p : Prop} (h : p := by
 go_wp2_with fail
 go_quiet (fail)
 rename_i nq;have hbq := tkw.zI (Below.refl w6.heap.size w6) nq;have F7 := xH (F6.out.step hbq);generalize w6.drewN nq = w7 at *;clear c0 c1 c2 c3;obtain ⟨c0, c1, c2, c3⟩ := F7.out.c;go_wp2_with fail
 refine xM (qw _ _ _) ?_;exact z179
 ) : p := h
theorem z39 {p : Prop} (h : p := by
 simp only [xS];refine wpAnyH_done (by kernel_rfl) ?_ _;go_wp2_with fail
 refine xB (results_nd3 rfl _ _ w.heap.size (lab 0 0) rfl (setRow_heap _ _ _ _ _ _ HN.out)) rfl ?_;refine ⟨qC (HB.out.trans (Below.refl _ _).drew) _ (xL _), ?_⟩;rw [HR.out];rfl
 ) : p := h
theorem z40 {p : Prop} (h : p := by
 have HQ2 := xH (show orW u (0, 0) = Q by have := HQ.out; rw [if_pos h2] at this; exact this);clear h2;unfold cW at HO;unfold cW;go_wp2_with fail
 refine (HO.out w2).mono ?_;rintro e w3 ⟨rfl, hb3⟩;have HRI3 := xH (show R w w3 ∧ I w3 from ⟨HX.out.tr HRI2.out.1 (HX.out.bel HRI2.out.2 hb3).1, (HX.out.bel HRI2.out.2 hb3).2⟩);clear hb3;rw [HQ2.out];unfold cW;go_wp2_with fail
 go_ret
 exact ⟨rfl, HRI3.out⟩
 ) : p := h
theorem z41 {p : Prop} (h : p := by
 have HG := xH hg;clear hg;go_wp2_with (refine qJ rfl rfl _ _ rfl (B + 1) rfl _ (gtC (.slice none 0 0) (.ok (none, z))) HG.out hz (jw _ _) (jO (qm w 0) _) rfl ?_)
 refine xB (qW rfl _ _ (B + 1) _ rfl (setRow_heap _ _ _ _ _ _ HG.out) (jw _ _)) rfl ?_;exact qj F1.out HR.out (qm _ _) (xL _)
 ) : p := h
theorem z42 {p : Prop} (h : p := by
 clear e0 e1 e2 e3 e4 e5 e6 e7 e8;have HR := xH (HZ.out.trans (show _ = Except.error (28, (f : Int)) by unfold verbG; rw [if_pos (by simp [hv])]));exact z168
 ) : p := h
theorem z43 {p : Prop} (h : p := by
 obtain ⟨q0, q1, qT⟩ := hSw;have t0 := qT 0 _ rfl;have t1 := qT 1 _ rfl;have t2 := qT 2 _ rfl;have t3 := qT 3 _ rfl;have t4 := qT 4 _ rfl;have t5 := qT 5 _ rfl;have t6 := qT 6 _ rfl;have t7 := qT 7 _ rfl;have t8 := qT 8 _ rfl;have t9 := qT 9 _ rfl;have t10 := qT 10 _ rfl;have t11 := qT 11 _ rfl;rw [Nat.add_zero] at t0;go_simp;try rfl
 ) : p := h
theorem z44 {p : Prop} (h : p := by
 exact z154
 ) : p := h
theorem z45 {p : Prop} (h : p := by
 have HR := xH (HE.out.trans (show _ = Except.error (32, (f : Int)) by unfold condE; rw [if_pos (Or.inr h41)]));go_wp2_with fail
 refine xM (qw _ _ _) ?_;exact z174
 ) : p := h
theorem z46 {p : Prop} (h : p := by
 have HR := xH (HE2.out.trans (show _ = Except.error (25, (i : Int)) by rw [HB2.out, if_pos h125]; simp));exact z167
 ) : p := h
theorem z47 {p : Prop} (h : p := by
 subst hc3;clear heq hc2;exact z156
 ) : p := h
theorem z48 {p : Prop} (h : p := by
 have HR := xH (show many p c i = .ok (some (normR p.most (escP (c)), false, i)) by unfold many; rw [if_neg HC.out, HLC.out, hE, HCB.out]; rfl);exact z172
 ) : p := h
theorem z49 {p : Prop} (h : p := by
 have := ih i (by simpa using hi);have e1 : rcs (r :: l) = [.int .i64 r.1, .int .i64 r.2] ++ rcs l := rfl;rw [e1, show (i + 1) * 2 = i * 2 + 2 by omega];constructor
 ·rw [List.getElem?_append_right (by simp)]; simpa using this.1
 ·rw [List.getElem?_append_right (by simp)]; simpa using this.2
 ) : p := h
theorem z50 {p : Prop} (h : p := by
 have HR := xH (HR1.out.trans (if_neg (by simp [hl, hd])));have F6 := xH (F5.out.step (qK w5 (.cells #[.int .i64 (c), .int .i64 (c)] 69)));go_wp2_with fail
 refine xB (qE rfl _ _ _) rfl ?_;exact itb_ok HR.out (rs_one y1 y2) F6.out.bel
 ) : p := h
theorem z51 {p : Prop} (h : p := by
 go_wp2_with fail
 go_roundw
 case rel => exact ⟨k + 1, E1, by omega, by go_num, HO1.out, jY HE1.out (fun z => by rw [HQ.out]; generalize EQ (l.take k) (1114111) z = p; by_cases hp : p <;> simp [hp]; omega) (by omega), HB1.out⟩
 case measure => simp [intOf]; omega
 ) : p := h
theorem z52 {p : Prop} (h : p := by
 go_wp2_with fail
 go_roundw
 case rel => exact ⟨k + 1, E1, by omega, by go_num, HO1.out, jY HE1.out (fun z => by rw [HQ.out]; generalize EQ (l.take k) (most) z = p; by_cases hp : p <;> simp [hp]; omega) (by omega), HB1.out⟩
 case measure => simp [intOf]; omega
 ) : p := h
theorem z53 {p : Prop} (h : p := by
 have HR := xH (HR2.out.trans (if_pos (Or.inr (Or.inl rfl))));exact z167
 ) : p := h
theorem z54 {p : Prop} (h : p := by
 have HR := xH (HR1.out.trans (if_pos (Or.inr hl)));exact z164
 ) : p := h
theorem z55 {p : Prop} (h : p := by
 have HR := xH (HR2.out.trans (if_pos (Or.inr (Or.inr hh))));exact z170
 ) : p := h
theorem z56 {p : Prop} (h : p := by
 exact z159
 ) : p := h
theorem z57 {p : Prop} (h : p := by
 go_wp2_with fail
 go_roundw
 case rel =>
  refine ⟨i + 1, m2, F.app g (F.one y j), by rw [← hm2], by go_num, hi1, by rw [rsp.jd, HG.out]; rfl, hm3.1, hm3.2, HO18, HB18, xH (by rw [HNX.out.1, HNX.out.2])⟩
 case measure => simp [intOf]; omega
 ) : p := h
theorem z58 {p : Prop} (h : p := by
 have b48 : (c == 48) = true := by simp [h48]
 exact z164
 ) : p := h
theorem z59 {p : Prop} (h : p := by
 have HR := xH (HR3.out.trans (if_pos (by simp)));exact z167
 ) : p := h
theorem z60 {p : Prop} (h : p := by
 have HR := xH (HE0.out.trans (if_pos rfl));go_wp2_with fail
 refine xM (qw _ _ _) ?_;exact z175
 ) : p := h
theorem z61 {p : Prop} (h : p := by
 have q1 : w'.cell? ⟨a1, k, none⟩ = some (.string ⟨s.toArray⟩) := (by unfold World.cell?; rw [hSw.s]; exact HSS.out);have q2 : w'.cell? ⟨a1 + 1, k, none⟩ = some (.int .i64 n) := (by unfold World.cell?; rw [hSw.n]; exact HNN.out);go_simp;try rfl
 ) : p := h
theorem z62 {p : Prop} (h : p := by
 have HR := xH (HR0.out.trans (if_pos rfl));exact z171
 ) : p := h
theorem z63 {p : Prop} (h : p := by
 have HR := xH (HR2.out.trans (if_pos hh));exact z167
 ) : p := h
theorem z64 {p : Prop} (h : p := by
 rintro e w13 ⟨rfl, ho, hb⟩;have F13 := xH (F12.out.step hb);have HO := xH ho;clear hb ho c0 c1 c2 c3;obtain ⟨old, hg, hz⟩ := F13.out.g;have HG := xH hg;clear hg;go_wp2_with (refine yR HG hz HO ?_)
 exact yW HG F13 HR HO
 ) : p := h
theorem z65 {p : Prop} (h : p := by
 rintro e w10 ⟨rfl, ho, hb⟩;have F10 := xH (F9.out.step hb);have HO := xH ho;clear hb ho c0 c1 c2 c3;obtain ⟨old, hg, hz⟩ := F10.out.g;have HG := xH hg;clear hg;go_wp2_with (refine yR HG hz HO ?_)
 exact yW HG F10 HR HO
 ) : p := h
theorem z66 {p : Prop} (h : p := by
 rintro e w4 ⟨rfl, ho, hb⟩;have F4 := xH (F3.out.step hb);have HO := xH ho;clear hb ho c0 c1 c2 c3;obtain ⟨old, hg, hz⟩ := F4.out.g;have HG := xH hg;clear hg;go_wp2_with (refine yR HG hz HO ?_)
 exact yW HG F4 HR HO
 ) : p := h
theorem z67 {p : Prop} (h : p := by
 rintro e w5 ⟨rfl, ho, hb⟩;have F5 := xH (F4.out.step hb);have HO := xH ho;clear hb ho c0 c1 c2 c3;obtain ⟨old, hg, hz⟩ := F5.out.g;have HG := xH hg;clear hg;go_wp2_with (refine yR HG hz HO ?_)
 exact yW HG F5 HR HO
 ) : p := h
theorem z68 {p : Prop} (h : p := by
 exact z160
 ) : p := h
theorem z69 {p : Prop} (h : p := by
 rintro e w2 ⟨rfl, ho, hb⟩;have F2 := xH (F1.out.step hb);have HO := xH ho;clear hb ho c0 c1 c2 c3;obtain ⟨old, hg, hz⟩ := F2.out.g;have HG := xH hg;clear hg;go_wp2_with (refine yR HG hz HO ?_)
 exact yW HG F2 HR HO
 ) : p := h
theorem z70 {p : Prop} (h : p := by
 exact z163
 ) : p := h
theorem z71 {p : Prop} (h : p := by
 exact z161
 ) : p := h
theorem z72 {p : Prop} (h : p := by
 have hplain : (⟨w.heap.size, 0, none⟩ : Addr).add j = ⟨w.heap.size, j, none⟩ := by unfold Addr.add; split <;> simp_all
 rw [hplain, World.cell?_alloc_new];rcases j with _ | _ | j
 ·simpa using hj
 ·simpa using hj
 ·simp at hj
 ) : p := h
theorem z73 {p : Prop} (h : p := by
 have HR := xH (show many p c i = .error 24 by unfold many; rw [if_pos HC.out, hbr]; simp only [HU.out, hP]; rfl);go_wp2_with fail
 refine xB (qE rfl _ _ _) rfl ?_;exact mab_err HR.out F2.out.bel
 ) : p := h
theorem z74 {p : Prop} (h : p := by
 have HR := xH (show many p c i = .ok none by unfold many; rw [if_neg HC.out, HLC.out, hE]; rfl);go_wp2_with fail
 refine xB (qE rfl _ _ _) rfl ?_;exact mab_none HR.out ⟨_, _, _, rfl⟩ F3.out.bel
 ) : p := h
theorem z75 {p : Prop} (h : p := by
 go_wp2_with fail
 go_roundw
 case rel =>
  refine ⟨i + 1, m2, F.app g (F.one y j), _, by rw [← hm2], by go_num, hi1, by rw [rsp.jd, HG.out]; rfl, HM3.out, HO18, HB18, HD18, HNX⟩
 case measure => simp [intOf]; omega
 ) : p := h
theorem z76 {p : Prop} (h : p := by
 go_wp2_with fail
 refine ⟨⟨l + 1, by omega, xH (fun j hj => by
  by_cases e : j = l
  ·subst e; exact ⟨by rw [HN.out]; exact hlt, hlet⟩
  ·exact hd.out j (by omega)), rfl, F4.out⟩, by simp only [intOf]; omega⟩
 ) : p := h
theorem z77 {p : Prop} (h : p := by
 have := Nat.mul_lt_mul_of_pos_right (Nat.lt_log2_self (n := n)) (Nat.two_pow_pos (52 - n.log2));rw [← Nat.pow_add, show n.log2 + 1 + (52 - n.log2) = 53 by omega] at this;rw [Nat.shiftLeft_eq]; exact this
 ) : p := h
theorem z78 {p : Prop} (h : p := by
 have F1 := xH (F0.out.step hb);clear hb ho hS hh c0 c1 c2 c3;obtain ⟨a1, a2, rfl⟩ := qN HO.out;go_wp2_with fail
 go_ret
 exact ⟨_, rfl, qM HO.out (Nat.le_of_eq F1.out.hB), F1.out.bel⟩
 ) : p := h
theorem z79 {p : Prop} (h : p := by
 go_wp2_with fail
 refine xM (end_any S p _ HP.out) ?_;exact z180
 ) : p := h
theorem z80 {p : Prop} (h : p := by
 exact z166
 ) : p := h
theorem z81 {p : Prop} (h : p := by
 clear hN hg hc h0 h1 C q5;go_enter Try.func63, Try.ntmps63;go_wp2_with (go_at_call 62; refine HC.out.mono ?_; rintro e w' ⟨rfl, hb⟩; have hcell2 := qf hb hcell)
 go_ret2
 exact twoB rfl hb
 ) : p := h
theorem z82 {p : Prop} (h : p := by
 go_wp2_with fail
 refine xM (qw _ _ _) ?_;exact z176
 ) : p := h
theorem z83 {p : Prop} (h : p := by
 exact z171
 ) : p := h
theorem z84 {p : Prop} (h : p := by
 exact z167
 ) : p := h
theorem z85 {p : Prop} (h : p := by
 exact z169
 ) : p := h
theorem z86 {p : Prop} (h : p := by
 exact z168
 ) : p := h
theorem z87 {p : Prop} (h : p := by
 go_enter Try.func120, Try.ntmps120;go_wp2_with fail
 refine HP.out.mono ?_;rintro e w1 ⟨v, rfl, ho, hb⟩;have HO := xH ho;clear ho;go_wp2_with fail
 go_ret2
 exact ⟨v, rfl, HO.out, hb⟩
 ) : p := h
theorem z88 {p : Prop} (h : p := by
 cases rs
 ·rw [if_neg (by decide)] at hfr;go_wp2_with fail
  go_meet
  exact ⟨by rw [← hfr], rfl⟩
 ·rw [if_pos rfl] at hfr;go_wp2_with fail
  go_meet
  exact ⟨by rw [← hfr], rfl⟩
 ) : p := h
theorem z89 {p : Prop} (h : p := by
 rcases hv with ⟨rfl, a0, c0, rfl, hc0⟩ | ⟨b, off, cap, rfl, hcap, hc⟩
 all_goals
  clear hg;go_enter Try.func63, Try.ntmps63
  go_wp2
  go_ret2
  exact twoB HR.out (Below.refl _ _)
 ) : p := h
theorem z90 {p : Prop} (h : p := by
 go_enter Try.func121, Try.ntmps121;go_wp2_with fail
 go_ret2
 exact yt HP.out HQ.out ⟨_, rfl, rs_lit rfl rfl rfl (by simp) (by simp) (wf_of (by decide +kernel)), qg _ _⟩
 ) : p := h
theorem z91 {p : Prop} (h : p := by
 have HH := xH h;clear h hcb hn4
 go_wp2
 go_quiet (fail)
 go_wp2
 go_meet
 exact ⟨by rw [HC.out], by repeat (first | exact Drawn.refl _ | apply Drawn.drewN | apply Drawn.drew)⟩
 ) : p := h
theorem z92 {p : Prop} (h : p := by
 have := Nat.mul_le_mul_right (2 ^ (52 - n.log2)) (Nat.log2_self_le h);rw [← Nat.pow_add, show n.log2 + (52 - n.log2) = 52 by omega] at this;rw [Nat.shiftLeft_eq]; exact this
 ) : p := h
theorem z93 {p : Prop} (h : p := by
 have b1 := qR h h1;simp only [dB, dA] at b1;have nb := zh (p := p) (a := i + 1) (by omega);unfold condN at e;have := condE_bd h e;omega
 ) : p := h
theorem z94 {p : Prop} (h : p := by
 have h := qG S p (grow (redrawn w5 d) os) HP.out (y) (by omega) [125] ⟨#[125]⟩ rfl (by decide) (Or.inl (by rw [HN.out]; omega));rw [hh2] at h;exact Calls.regrown_of h
 ) : p := h
theorem z95 {p : Prop} (h : p := by
 have h := qG S p (grow (redrawn wr d) os) HP.out (z) (by omega) [123] ⟨#[123]⟩ rfl (by decide) (Or.inl (by rw [HN.out]; omega));rw [hh] at h;exact Calls.regrown_of h
 ) : p := h
theorem z96 {p : Prop} (h : p := by
 have h := qG S p (grow (redrawn w5 d) os) HP.out (y) (by omega) [62] ⟨#[62]⟩ rfl (by decide) (Or.inl (by rw [HN.out]; omega));rw [hh2] at h;exact Calls.regrown_of h
 ) : p := h
theorem z97 {p : Prop} (h : p := by
 have h := qG S p (grow (redrawn w5 d) os) HP.out (y) (by omega) [39] ⟨#[39]⟩ rfl (by decide) (Or.inl (by rw [HN.out]; omega));rw [hh2] at h;exact Calls.regrown_of h
 ) : p := h
theorem z98 {p : Prop} (h : p := by
 refine xB (qW rfl _ _ (B + 1) _ rfl (setRow_heap _ _ _ _ _ _ HG.out) (jw _ _)) rfl ?_;exact qj F2.out HR.out (qm _ _) (xL _)
 ) : p := h
theorem z99 {p : Prop} (h : p := by
 have h := qG S p (grow (redrawn wr d) os) HP.out (z) (by omega) [60] ⟨#[60]⟩ rfl (by decide) (Or.inl (by rw [HN.out]; omega));rw [hh] at h;exact Calls.regrown_of h
 ) : p := h
theorem z100 {p : Prop} (h : p := by
 have h := qG S p (grow (redrawn wr d) os) HP.out (z) (by omega) [39] ⟨#[39]⟩ rfl (by decide) (Or.inl (by rw [HN.out]; omega));rw [hh] at h;exact Calls.regrown_of h
 ) : p := h
theorem z101 {p : Prop} (h : p := by
 refine (tkw.val_bd _ (fun i hi => ?_)).1;have := tkw.run_fits (p := p) (fits := isDig) (k := 1000) (a := a) (i := a + i) (by omega) (by omega);simpa [isDig] using this
 ) : p := h
theorem z102 {p : Prop} (h : p := by
 unfold setP;cases cl <;> cases neg
 ·exact ja hm l
 ·exact notR_canon hm (ja hm _)
 ·exact ja hm _
 ·exact notR_canon hm (ja hm _)
 ) : p := h
theorem z103 {p : Prop} (h : p := by
 have HQ2 := xH (show u = Q by have := HQ.out; rw [if_neg h2] at this; exact this);clear h2;rw [HQ2.out];unfold cW;go_wp2_with fail
 go_ret
 exact ⟨rfl, HRI2.out⟩
 ) : p := h
theorem z104 {p : Prop} (h : p := by
 clear hT h1 hR;go_enter Try.func72, Try.ntmps72;go_wp2_with fail
 go_quiet (fail)
 rename_i nq;go_wp2_with fail
 go_ret
 exact ⟨rfl, tkw.zI (Below.refl _ _) nq⟩
 ) : p := h
theorem z105 {p : Prop} (h : p := by
 have HR := xH (HIT.out.trans (if_neg (by simp [hpB])));go_wp2_with fail
 refine xB (qE rfl _ _ _) rfl ?_;exact itb_err HR.out F6.out.bel
 ) : p := h
theorem z106 {p : Prop} (h : p := by
 have hl := cell_lt kc;refine ⟨⟨k1.1, fun e => ?_⟩, (World.cell?_of_block (hblk a.block hl k1.2)).trans kc⟩;rcases hv' _ e with e2 | e2
 ·exact k1.2 e2
 ·omega
 ) : p := h
theorem z107 {p : Prop} (h : p := by
 clear k2 k7 k12 k13;exact z178
 ) : p := h
theorem z108 {p : Prop} (h : p := by
 obtain ⟨h1, h2 | ⟨g, cap, cur, hv, hg, hh, r⟩⟩ := h
 ·exact ⟨h1, Or.inl h2⟩
 ·exact ⟨h1, Or.inr ⟨g, cap, cur, hv, hg, (hb g (by rw [hv]; rfl)).trans hh, r⟩⟩
 ) : p := h
theorem z109 {p : Prop} (h : p := by
 clear k2 k7 k12;exact z178
 ) : p := h
theorem z110 {p : Prop} (h : p := by
 by_cases c : z.e = 20
 ·rw [if_pos c] at h; cases h
 rw [if_neg c] at h;by_cases c : z.e ≠ 0
 ·rw [if_pos c] at h; cases h
 rw [if_neg c] at h;injection h
 ) : p := h
theorem z111 {p : Prop} (h : p := by
 simp only [midx, mid, dE, Bool.and_eq_false_iff, dD] at k1 ⊢;refine ⟨by omega, fun e => ?_⟩;have := hg _ e;omega
 ) : p := h
theorem z112 {p : Prop} (h : p := by
 go_enter Try.func87, Try.ntmps87;go_wp2_with fail
 refine (HB.out _).mono ?_;rintro e w1 ⟨rfl, hb⟩;unfold cW;go_wp2_with fail
 go_ret
 exact ⟨rfl, hb⟩
 ) : p := h
theorem z113 {p : Prop} (h : p := by
 refine jT (x := .tmp 1) (b := w.heap.size) (off := 0) (l := x) ?_ ?_ (fun j v hj => trw.qf hSw (cell_row HP.out j v hj)) <;> rfl
 ) : p := h
theorem z114 {p : Prop} (h : p := by
 go_enter Try.func57, Try.ntmps57;go_wp2_with fail
 refine bodyPost_end (results_none rfl _ _ _) rfl ?_;exact ⟨rfl, HF.out, Cg.of (Below.refl _ _)⟩
 ) : p := h
theorem z115 {p : Prop} (h : p := by
 have hE := HE.out;rw [List.take_length] at hE;have HE2 := xH hE;clear hE;go_wp2_with fail
 go_ret
 exact ⟨_, E, rfl, HO.out, HE2.out, HB.out⟩
 ) : p := h
theorem z116 {p : Prop} (h : p := by
 rcases hEd with ⟨h, _⟩ | ⟨_, h⟩
 ·rw [h]; simp
 ·have := h.2.2;have := HL4.out;have := HL5.out;simp only [List.length_append] at *;omega
 ) : p := h
theorem z117 {p : Prop} (h : p := by
 have : (s[0]'hs0) = 94 := UInt8.toNat_inj.1 (by rw [show (94 : UInt8).toNat = 94 from rfl]; omega);rw [(hat_iff s).2 ⟨hs0, this⟩] at hh;cases hh
 ) : p := h
theorem z118 {p : Prop} (h : p := by
 split
 ·rename_i e; have := qR h e; simp at this ⊢; omega
 ·split
  ·rename_i e; have := qR h e; simp at this ⊢; omega
  ·simp; omega
 ) : p := h
theorem z119 {p : Prop} (h : p := by
 go_wp2_with fail
 refine xB (qE rfl _ _ _) rfl ?_;exact itb_ok HR.out (vP HO.out (jX (notL_canon p _))) F7.out.bel
 ) : p := h
theorem z120 {p : Prop} (h : p := by
 have e : (⟨l.toArray⟩ : ByteArray).toList = l := by rw [Lib.toList_data]
 have := prw.beqS s ⟨l.toArray⟩;rw [e] at this;rw [this];simpa using h
 ) : p := h
theorem z121 {p : Prop} (h : p := by
 intro e w11 h;obtain ⟨v, rfl, HO, F11, old, HG, hz⟩ := yJ F10 h;clear h c0 c1 c2 c3;go_wp2_with (refine yR HG hz HO ?_)
 exact yW HG F11 HR HO
 ) : p := h
theorem z122 {p : Prop} (h : p := by
 exact z175
 ) : p := h
theorem z123 {p : Prop} (h : p := by
 exact z174
 ) : p := h
theorem z124 {p : Prop} (h : p := by
 exact z173
 ) : p := h
theorem z125 {p : Prop} (h : p := by
 apply dC;intro hn;have : w.heap[a.block]? = none := by simp; omega
 unfold World.cell? at h;rw [this] at h;simp at h
 ) : p := h
theorem z126 {p : Prop} (h : p := by
 go_enter Try.func117, Try.ntmps117;go_wp2_with fail
 refine D.out.mono ?_;rintro e w1 ⟨rfl, rfl⟩
 go_wp2
 go_ret
 rw [HR.out];exact ⟨rfl, rfl⟩
 ) : p := h
theorem z127 {p : Prop} (h : p := by
 clear hS hh ho4 hb4;go_wp2_with fail
 go_ret
 exact ⟨_, S, rfl, HSC.out, fun c => (HH.out c).trans (caseM_has HIR.out c), HO4.out, HB4.out⟩
 ) : p := h
theorem z128 {p : Prop} (h : p := by
 exact z187
 ) : p := h
theorem z129 {p : Prop} (h : p := by
 intro e w2 h;obtain ⟨v, rfl, HO, F2, old, HG, hz⟩ := yJ F1 h;clear h c0 c1 c2 c3;go_wp2_with (refine yR HG hz HO ?_)
 exact yW HG F2 HR HO
 ) : p := h
theorem z130 {p : Prop} (h : p := by
 exact z179
 ) : p := h
theorem z131 {p : Prop} (h : p := by
 rcases h5 with e | e
 ·exact Or.inl (e.symm.trans hg')
 ·rw [e] at hg';simp only [dG] at hg';exact Or.inr (by omega)
 ) : p := h
theorem z132 {p : Prop} (h : p := by
 rintro e w1 ⟨v, rfl, hr, hb⟩;have HR := xH hr;clear hr;go_wp2_with fail
 go_ret2
 exact yt HP.out HQ.out ⟨v, rfl, HR.out, hb⟩
 ) : p := h
theorem z133 {p : Prop} (h : p := by
 simp [results, h, hp', asAddr, run_loadVar_row w g 27 27 (ndC l).toArray (0, 0) _ hg Try.underlying27 rfl (by rw [ndInfo]; rfl)];rfl
 ) : p := h
theorem z134 {p : Prop} (h : p := by
 go_wp2_with fail
 go_meet
 exact ⟨rfl, F5.out, xH (by unfold itemR; rw [if_neg (by rw [HPB.out, HL.out, h3]; simp)])⟩
 ) : p := h
theorem z135 {p : Prop} (h : p := by
 go_wp2_with fail
 refine xB (yf rfl _ _ _) rfl ?_;rw [HR.out];exact ⟨rfl, F3.out.bel⟩
 ) : p := h
theorem z136 {p : Prop} (h : p := by
 rcases Nat.lt_or_ge g w.heap.size with h | h
 ·exact h
 ·rw [dH h] at hh; cases hh
 ) : p := h
theorem z137 {p : Prop} (h : p := by
 go_wp2_with fail
 refine xB (qE rfl _ _ _) rfl ?_;exact itb_err HR.out F5.out.bel
 ) : p := h
theorem z138 {p : Prop} (h : p := by
 simp only [dB, dA] at this;have := call_bd h (by simp) (by omega) e;omega
 ) : p := h
theorem z139 {p : Prop} (h : p := by
 obtain ⟨_, _, ⟨rfl, a, c, hv, _⟩ | ⟨b, off, cap, hv, _⟩⟩ := hv
 ·exact ⟨_, _, hv⟩
 ·exact ⟨_, _, hv⟩
 ) : p := h
theorem z140 {p : Prop} (h : p := by
 go_enter Try.func125, Try.ntmps125;go_wp2_with fail
 go_ret
 exact intsB_nil HE.out (Below.refl _ _)
 ) : p := h
theorem z141 {p : Prop} (h : p := by
 split
 ·rename_i h3;have := qR h h3;simp only [dA] at this;omega
 ·omega
 ) : p := h
theorem z142 {p : Prop} (h : p := by
 go_enter Try.func125, Try.ntmps125;go_wp2_with fail
 go_ret
 exact zg (Below.refl _ _) _
 ) : p := h
theorem z143 {p : Prop} (h : p := by
 simp only [List.mem_cons, dM, or_false] at hu;rcases hu with rfl | rfl <;> rfl
 ) : p := h
theorem z144 {p : Prop} (h : p := by
 go_enter Try.func82, Try.ntmps82;go_wp2_with fail
 go_ret
 exact ⟨by rw [HR.out]; rfl, HB.out⟩
 ) : p := h
end sq
end Go.Proofs.Ytdgfclbajjjcgaa
