/- T -/
import Derived.BigQuiet
import Derived.Carry
import Derived.Deep.DeepHandedRow
import Derived.Lib.LaidTab
import Derived.Lib.SlBytesConst
import Derived.RegionTactic
import Derived.SizedLaws
import Derived.Stop.LaidErr
import Derived.Test.YtdgfclbajjjcgaaBWb27
set_option maxHeartbeats 16000000
set_option maxRecDepth 1000000
namespace Go.Proofs.Ytdgfclbajjjcgaa
section
namespace wdw
open sq
open Go Go.RowKit Go.Maps trp trw rpp wdp wdf sq
open rpw (qp ql)
theorem wpList_look_in {env : Int → Wd} {w : World} {ops : Array Oper} {rest : List Oper} {o : Oper} {a : Act} {Q : Exit → Act → World → Prop} (hg : o.guard = none) (m x : Operand) (hop : o.op = Op.lookup 106 m x true)
 (b n : Nat) (L : List Int) (hm : a.eval m = .map (some b)) (hown : MapC env w b n L) (key : Int) (hx : a.eval x = .int .i64 key) (hk : (Lit.int .i64 key).wf = true) (hin : key ∈ L)
 (hK : wpList Try.prog ops Q rest (a.put o.dst (.tuple #[.complex .f64 (fl (env key).1) (fl (env key).2), .bool true])) w) : wpList Try.prog ops Q (o :: rest) a w :=
 wpList_look_c hg m x hop b n L hm hown key hx hk (by rw [if_pos hin, decide_eq_true hin]; exact hK)
theorem wpList_look_out {env : Int → Wd} {w : World} {ops : Array Oper} {rest : List Oper} {o : Oper} {a : Act} {Q : Exit → Act → World → Prop} (hg : o.guard = none) (m x : Operand) (hop : o.op = Op.lookup 106 m x true)
 (b n : Nat) (L : List Int) (hm : a.eval m = .map (some b)) (hown : MapC env w b n L) (key : Int) (hx : a.eval x = .int .i64 key) (hk : (Lit.int .i64 key).wf = true) (hin : key ∉ L)
 (hK : wpList Try.prog ops Q rest (a.put o.dst (.tuple #[.complex .f64 0 0, .bool false])) w) : wpList Try.prog ops Q (o :: rest) a w :=
 wpList_look_c hg m x hop b n L hm hown key hx hk (by rw [if_neg hin, decide_eq_false hin]; exact hK)
theorem call_out (G M : Nat) (y : Lab) (j : F) (hf : FitC (F.one y j)) : CallH (.pointer (some ⟨G, 0, none⟩)) (Ms G M y j) (Rm M) (callW (y, j)) := by
 intro w n h0 h1 hI;have c12 : w.cell? ⟨G, 12, none⟩ = some (.map (some M)) := by unfold World.cell?; rw [hI.g]; rfl
 have c13 : w.cell? ⟨G, 13, none⟩ = some (.bool false) := by unfold World.cell?; rw [hI.g]; rfl
 obtain ⟨cn, L, hm, hr⟩ := hI.m;have HM := xH hm;have HRO := xH hr;have HI := xH hI;have HNB := xH (show 0 ≤ n ∧ n ≤ 1000000 from ⟨h0, h1⟩);have HX := xH (cx2 G M y j);have HGR := xH (group_any (mv := .map (some M)) (bv := false) n w hI.g hI.nd hf);have HWF := xH (wf_c h0 h1);have HR0 := xH (HX.out.bel hI (Below.refl _ _)).1;clear hI hm hr h0 h1 hf;by_cases hin : n ∈ L
 ·have HIN := xH hin;clear hin HGR;go_enter Try.func88, Try.ntmps88;go_wp2_with (refine wpList_look_in rfl _ _ rfl M cn L rfl HM.out n rfl HWF.out HIN.out ?_)
  go_ret
  exact ⟨rfl, HR0.out, HI.out⟩
 ·have HIN := xH hin;clear hin;go_enter Try.func88, Try.ntmps88;go_wp2_with (refine wpList_look_out rfl _ _ rfl M cn L rfl HM.out n rfl HWF.out HIN.out ?_)
  refine HGR.out.mono ?_;rintro e w1 ⟨rfl, hb⟩;have HR1 := xH (HX.out.bel HI.out hb);have HM1 := xH (mapC_below HM.out hb);have HCN := xH (show cn < 9000000 by have := HRO.out; omega);have d12 : w1.cell? ⟨G, 12, none⟩ = some (.map (some M)) := trw.qf hb c12;clear hb c12 c13 HGR;unfold cW;go_wp2_with (refine wpList_put_c rfl rfl _ _ _ rfl n rfl M cn L rfl HM1.out HCN.out HWF.out rfl ?_; intro w2 hm2 hg2; have HU2 := xH (HR1.out.2.up hm2 HRO.out HNB.out.1 HNB.out.2 HIN.out hg2); clear hm2 hg2)
  go_ret
  exact ⟨rfl, HX.out.tr HR1.out.1 HU2.out.1, HU2.out.2⟩
theorem part_out {G M : Nat} {y : Lab} {j : F} (w : World) (x : Lab) (k : F) (hI : Ms G M y j w) (hn : NdAt w (x, k)) (hf : FitC (F.one x k)) (hr : FitC (F.one y j)) :
 Calls Try.prog 44 #[.pointer (some ⟨G, 0, none⟩), ndV x] w (WX (Ms G M y j) (Rm M) (partW (callW (y, j)) (x, k)) w) :=
 part_of (cx2 G M y j) (bw_call (y, j)) (call_out G M y j hr) w x k hI hn hf
def MsB (y : Lab) (j : F) (w : World) (e : Ending) (w' : World) : Prop := ∃ G M, e = .returned (.pointer (some ⟨G, 0, none⟩)) ∧ Below w.heap.size w w' ∧ Ms G M y j w' ∧ w.heap.size ≤ M
theorem measuring_any (y : Lab) (j : F) (w : World) (hn : NdAt w (y, j)) : Calls Try.prog 43 #[ndV y] w (MsB y j w) := by
 have HP := xH (heap_alloc_new w (.cells (ndC y).toArray 27));have HB := xH (trw.qg w (.cells (ndC y).toArray 27));have HN := xH (trw.vO (trw.qg w (.cells (ndC y).toArray 27)) hn);clear hn;unfold ndC at HP HB HN;unfold ndV;go_enter Try.func43, Try.ntmps43;go_upto_region 1 with (fail)
 generalize w.alloc _ = w1 at *;have hmm : (Instr.makeMap 106 none).run Try.prog w1 = .ok (.map (some w1.heap.size)) (w1.alloc (.map #[] 0)) := rfl;have HBM := xH (trw.qg w1 (.map #[] 0));have HMM := xH (mapC_made (callW (y, j)) w1);have HZ := xH (World.size_alloc w1 (.map #[] 0));have HBG := xH (trw.qg (w1.alloc (.map #[] 0)) (.cells (ndC y ++ [Value.map (some w1.heap.size), Value.bool false]).toArray 108));have HG := xH (heap_alloc_new (w1.alloc (.map #[] 0)) (.cells (ndC y ++ [Value.map (some w1.heap.size), Value.bool false]).toArray 108));have HMS := xH (show Ms (w1.alloc (.map #[] 0)).heap.size w1.heap.size y j ((w1.alloc (.map #[] 0)).alloc (.cells (ndC y ++ [Value.map (some w1.heap.size), Value.bool false]).toArray 108)) from
  ⟨HG.out, ⟨0, [], mapC_below HMM.out HBG.out, by rw [Nat.zero_add]; exact Nat.le_trans (List.countP_le_length) (by rw [List.length_range]; exact xL _)⟩, trw.vO (trw.qi HBM.out HBG.out) HN.out⟩)
 have HBA := xH (trw.qi HB.out (trw.qi HBM.out HBG.out));have HLE := xH HB.out.size;clear HG HBG HMM HBM;go_wp2_with (refine ql rfl _ rfl w.heap.size rfl y HP.out ?_)
 go_ret
 have hms := HMS.out;rw [HZ.out] at hms;exact ⟨_, _, rfl, HBA.out, hms, HLE.out⟩
theorem rm_below {M : Nat} {w w1 w2 : World} (h : Below w.heap.size w w1) (hM : w.heap.size ≤ M) (hr : Rm M w1 w2) : Below w.heap.size w w2 :=
 ⟨hr.os.trans h.os, hr.tape.trans h.tape, hr.output.trans h.output, Nat.le_trans h.size hr.size, fun k hk => (hr.block k (Nat.lt_of_lt_of_le hk h.size) (by omega)).trans (h.block k hk)⟩
theorem cell_row {w : World} {b : Nat} {l : Lab} (h : w.heap[b]? = some (.cells (ndC l).toArray 27 (0, 0))) : ∀ j v, (ndC l)[j]? = some v → w.cell? ⟨b, 0 + j, none⟩ = some v := fun j v hj => by
 rw [Nat.zero_add];unfold World.cell?;rw [h];simpa using hj
theorem width_any (x y : Lab) (k j : F) (w : World) (hn : NdAt w (x, k)) (hr : NdAt w (y, j)) (hf : FitC (F.one x k)) (hg : FitC (F.one y j)) :
 Calls Try.prog 30 #[ndV x, ndV y] w (ToldB (widP (x, k) (y, j)) w) := by
 have e1 := World.size_alloc w (.cells (ndC x).toArray 27);have HP := xH (show ((w.alloc (.cells (ndC x).toArray 27)).alloc (.cells (ndC y).toArray 27)).heap[w.heap.size]? = some (.cells (ndC x).toArray 27 (0, 0)) from (heap_alloc_old _ _ (by rw [e1]; omega)).trans (heap_alloc_new _ _));have HQ := xH (show ((w.alloc (.cells (ndC x).toArray 27)).alloc (.cells (ndC y).toArray 27)).heap[w.heap.size + 1]? = some (.cells (ndC y).toArray 27 (0, 0)) from e1 ▸ heap_alloc_new (w.alloc (.cells (ndC x).toArray 27)) (.cells (ndC y).toArray 27));have HB := xH (trw.qi (trw.qg w (.cells (ndC x).toArray 27)) (trw.qg _ (.cells (ndC y).toArray 27)));have HN := xH hn;have HR := xH hr;have HF := xH hf;have HG := xH hg;have HBW := xH (bw_wid (x, k) (y, j));clear hn hr hf hg e1;obtain ⟨Q, hQ⟩ : ∃ Q, widP (x, k) (y, j) = Q := ⟨_, rfl⟩;rw [hQ];have HW := xH hQ;clear hQ;unfold ndC at HP HQ HB;unfold ndV;go_enter Try.func30, Try.ntmps30;go_upto_region 1 with (fail)
 generalize (w.alloc _).alloc _ = w1 at *;refine wp_region_held_drew (S := fun w' => Below w1.heap.size w1 w') (by kernel_rfl) (trw.qL w1) (fun hHeld => ?_);refine xT 0 rfl (ndV y) ?_ ?_
 ·intro w' hSw;refine jT (x := .tmp 3) (b := w.heap.size + 1) (off := 0) (l := y) ?_ ?_ (fun j v hj => trw.qf hSw (cell_row HQ.out j v hj)) <;> rfl
 simp only [xS];refine xT 2 rfl (ndV x) ?_ ?_
 ·intro w' hSw;refine jT (x := .tmp 2) (b := w.heap.size) (off := 0) (l := x) ?_ ?_ (fun j v hj => trw.qf hSw (cell_row HP.out j v hj)) <;> rfl
 simp only [xS];refine xD 1 rfl (fun K hK => ?_);have HD := xH (trw.qi HB.out (trw.qL w1));go_simp;refine (measuring_any y j _ (trw.vO HD.out HR.out)).mono ?_;rintro e w2 ⟨G, M, rfl, hb, hms, hM⟩;have HB2 := xH (trw.qi (trw.qL w1) hb);have HMS := xH hms;have HM := xH (show w1.heap.size ≤ M from hM);have HN2 := xH (trw.vO (trw.qi HD.out hb) HN.out);clear hb hms hM;refine hK.out _ _ HB2.out (fun hHeld => ?_);clear hK K;try simp only [xS]
 refine xD 3 rfl (fun K hK => ?_);go_simp;refine (part_out w2 x k HMS.out HN2.out HF.out HG.out).mono ?_;rintro e w3 ⟨rfl, hr3, hi3⟩;have HB3 := xH (rm_below HB2.out HM.out hr3);clear hr3 hi3;refine hK.out _ _ HB3.out (fun hHeld => ?_);clear hK K;try simp only [xS]
 refine xD 4 rfl (fun K hK => ?_);go_simp;refine (told_any (partW (callW (y, j)) (x, k)) HBW.out w3).mono ?_;rintro e w4 ⟨rfl, hb4⟩;have HB4 := xH (trw.qi HB3.out hb4);clear hb4;rw [show toldP (partW (callW (y, j)) (x, k)) = Q from HW.out];refine hK.out _ _ HB4.out (fun hHeld => ?_);clear hK K;try simp only [xS]
 refine xT 5 rfl (.int .i64 Q.1) ?_ ?_
 ·intro w' hSw;go_simp;try rfl
 simp only [xS];refine xT 6 rfl (.int .i64 Q.2) ?_ ?_
 ·intro w' hSw;go_simp;try rfl
 simp only [xS];refine xT 7 rfl ?_ ?_ ?_;rotate_left
 ·intro w' hSw;go_simp;try rfl
 simp only [xS];refine xT 8 rfl ?_ ?_ ?_;rotate_left
 ·intro w' hSw;go_simp;try rfl
 simp only [xS];refine wpAnyH_done (by kernel_rfl) ?_ _;go_wp2_with fail
 go_ret2
 exact ⟨rfl, trw.qi HB.out HB4.out⟩
end wdw
end
section
namespace wdw
open sq
open Go Go.RowKit Go.Maps trp trw rpp wdp wdf sq
open rpw (qp ql jU)
open gqw (wpList_store_ny)
def FxB (G M : Nat) (y : Lab) (j : F) (r : Bool) (w : World) (e : Ending) (w' : World) : Prop := e = .returned (.bool r) ∧ Rm M w w' ∧ Ms G M y j w'
theorem fix_drop {root : Nd} {k : F} {i : Nat} {x : Lab} {j r : F} (hd : k.drop i = .cons x j r) : fixP root (k.drop i) = (decide ((widP (x, j) root).1 = (widP (x, j) root).2) && decide ((widP (x, j) root).2 ≤ 255) && fixP root (k.drop (i + 1))) := by rw [hd, drop_succ hd, fixP]
def oneAlt : F → Bool
 | .cons x _ .nil => decide (x.kind = 13)
 | _ => false
def fstK : F → F
 | .cons _ k _ => k
 | .nil => .nil
theorem alts_eq (f : F) : altsP f = if oneAlt f = true then fstK f else f := by
 match f with
 | .nil => rfl
 | .cons x k .nil =>
  unfold altsP oneAlt fstK;simp only [dF]
 | .cons _ _ (.cons _ _ _) => rfl
theorem fixed_any {G M : Nat} {y : Lab} {j : F} (w : World) (v : Value) (f : F) (hI : Ms G M y j w) (hk : jr w v f) (hf : FitC f) (hr : FitC (F.one y j)) :
 Calls Try.prog 83 #[.pointer (some ⟨G, 0, none⟩), v] w (FxB G M y j (fixP (y, j) (altsP f)) w) := by
 have HX := xH (cx2 G M y j);have HI := xH hI;have HRF := xH hr;have HR0 := xH ((cx2 G M y j).bel hI (Below.refl _ _)).1;obtain ⟨a, c, rfl, hc1, hc2, _⟩ := id hk;have hkl : f.len ≤ 9223372036854775807 := Nat.le_trans hc1 hc2;obtain ⟨S, hS⟩ : ∃ S, fixP (y, j) (altsP f) = S := ⟨_, rfl⟩;rw [hS];have HS := xH hS;have HK := xH hk;have HF := xH hf;have HA := xH (alts_eq f);clear hS hI hf hr;go_enter Try.func83, Try.ntmps83;go_upto_region 1 with (fail)
 have HONE := xH (show ∀ x k, f = .cons x k .nil → oneAlt f = (x.kind == 13) from fun x k h => by rw [h]; rfl);have HMANY := xH (show ¬ f.len = 1 → oneAlt f = false from fun h => by
  match f, h with
  | .nil, _ => rfl
  | .cons _ _ .nil, h => exact absurd rfl h
  | .cons _ _ (.cons _ _ _), _ => rfl)
 have HKID := xH (show f.len = 1 → ∃ (x : Lab) (k : F) (b o : Nat) (q : Option Addr × Nat), f = .cons x k .nil ∧ a = some ⟨b, o, none⟩ ∧ w.cell? ⟨b, o, none⟩ = some (.int .i64 x.kind) ∧ w.cell? ⟨b, o + 11, none⟩ = some x.kv ∧ jr w x.kv k ∧ x.kv = .slice q.1 k.len q.2 from fun hl1 => by
  obtain ⟨x, k, r, hd⟩ := drop_lt (f := f) (i := 0) (by omega);obtain ⟨b, o, q, hv, _, _, _, hfa⟩ := kid_at HK.out hd;cases hv;have hx0 := hfa.1 0 _ rfl;have hx11 := hfa.1 11 _ rfl;have hnd := trw.fAt_head hfa;obtain ⟨ka, kq, hkv⟩ := kids_len hnd.2.2;refine ⟨x, k, b, o, (ka, kq), ?_, rfl, by simpa using hx0, by simpa using hx11, hnd.2.2, hkv⟩;cases f with
  | nil => cases hd
  | cons x' k' r' =>
   cases r' with
   | nil => cases hd; rfl
   | cons _ _ _ => simp only [F.len] at hl1; omega)
 go_cut [18] (fun v18 wx => Hid (v18 = .bool (oneAlt f)) ∧ Hid (wx = w))
 case first =>
  by_cases hl1 : f.len = 1
  ·obtain ⟨x, k, b, o, q, hff, rfl, c0, _⟩ := HKID.out hl1;have l1 : ((f.len : Int) == 1) = true := by simp; omega
   have l0 : (0 : Int) < (f.len : Int) := by omega
   have HE := xH (HONE.out x k hff);clear hl1 hff hk;go_wp2_with fail
   go_meet
   exact ⟨by rw [HE.out]; exact xH rfl, xH rfl⟩
  ·have HE := xH (HMANY.out hl1);have l2 : ((f.len : Int) == 1) = false := by simp; omega
   clear hl1 hk;go_wp2_with fail
   go_meet
   exact ⟨by rw [HE.out]; exact xH rfl, xH rfl⟩
 case rest =>
 obtain ⟨hv, hw⟩ := hcut;obtain rfl := hw.out;have hv2 := hv.out;subst hv2;clear hv hw;go_upto_if 18 with (fail)
 go_cut [1] (fun v1 wx => Hid (∃ fv fq, v1 = .slice fv (altsP f).len fq) ∧ Hid (jr wx v1 (altsP f)) ∧ Hid (wx = wc))
 case first =>
  cases h1 : oneAlt f with
  | true =>
   have hl1 : f.len = 1 := dC fun h => by rw [HMANY.out h] at h1; cases h1
   obtain ⟨x, k, b, o, q, hff, rfl, _, c11, hkk, hkv⟩ := HKID.out hl1;have HE := xH (show altsP f = k by rw [HA.out, h1, if_pos rfl, hff]; rfl);have HKK := xH (kids_eq hkk hkv);rw [hkv] at c11;have l0 : (0 : Int) < (f.len : Int) := by omega
   clear hl1 hff hk hkk hkv h1;go_wp2_with fail
   go_meet
   exact ⟨by rw [HE.out]; exact xH ⟨_, _, rfl⟩, by rw [HE.out]; exact HKK, xH rfl⟩
  | false =>
   have HE := xH (show altsP f = f by rw [HA.out, h1]; rfl);clear hk h1;go_wp2_with fail
   go_meet
   exact ⟨by rw [HE.out]; exact xH ⟨_, _, rfl⟩, by rw [HE.out]; exact HK, xH rfl⟩
 case rest =>
  obtain ⟨hv, hkk, hw⟩ := hcut;obtain rfl := hw.out;obtain ⟨fv, fq, rfl⟩ := hv.out;have HK2 := xH hkk.out;have HF2 := xH (show FitC (altsP f) from by
   rw [HA.out];split
   ·have h := HF.out;cases f with
    | nil => trivial
    | cons x k r => exact h.2.1
   ·exact HF.out)
  generalize altsP f = f2 at *;have hk2 : f2.len ≤ 9223372036854775807 := by obtain ⟨_, _, _, h1, h2, _⟩ := HK2.out; exact Nat.le_trans h1 h2
  clear hw hv hkk hk HA HK HF hkl HONE HMANY HKID;go_wp2_with fail
  go_loopw [25] (fun v25 wr => ∃ i : Nat, v25 = .int .i64 i ∧ i ≤ f2.len ∧ Hid (fixP (y, j) (f2.drop i) = S) ∧ Hid (Rm M wc wr ∧ Ms G M y j wr)) (fun v25 _ => f2.len - (intOf v25).toNat)
  case atStart => exact ⟨0, rfl, Nat.zero_le _, xH (by rw [drop_zero]; exact HS.out), xH ⟨HR0.out, HI.out⟩⟩
  case round =>
   obtain ⟨i, rfl, hi, HE, HRI⟩ := hrel;by_cases hlt : i < f2.len
   ·obtain ⟨x', kk, r, hd⟩ := drop_lt hlt;obtain ⟨b, o, q, hv, _, _, _, hfa⟩ := kid_at HK2.out hd;cases hv;have HCE := xH (show ∀ j u, (ndC x')[j]? = some u → wr.cell? ⟨b, o + i * 12 + j, none⟩ = some u from fun j u hj => HX.out.cel HI.out HRI.out.1 _ _ (hfa.1 j u hj));have HFH := xH (qY (HX.out.cel HI.out HRI.out.1) (trw.fAt_head hfa));have HO := xH (qp HFH.out);have HFT := xH (fit_at HF2.out hd);have i1 : (i : Int) < (f2.len : Int) := by omega
    have a1 := add_row b o i 12;have HC := xH (fun w8 (hb : Below wr.heap.size wr w8) => part_out w8 x' kk (HX.out.bel HRI.out.2 hb).2 (trw.vO hb HFH.out) HFT.out HRF.out);have HT := xH (fun w9 => told_any (partW (callW (y, j)) (x', kk)) (bw_wid (x', kk) (y, j)) w9);have HD := xH ((fix_drop (root := (y, j)) hd).symm.trans HE.out);obtain ⟨q, hq⟩ : ∃ q, widP (x', kk) (y, j) = q := ⟨_, rfl⟩;rw [hq] at HD;rw [show toldP (partW (callW (y, j)) (x', kk)) = q from hq] at HT;generalize partW (callW (y, j)) (x', kk) = pw at *;unfold cW at HT;clear hd hfa hq HE;go_wp2_with (first
     | (refine jv rfl _ rfl b (o + i * 12) rfl x' HCE.out ?_)
     | (refine wpList_store_nf rfl rfl _ _ rfl rfl x' HO.out rfl ?_; intro w8 HS8)
     | (refine ql rfl _ rfl wr.heap.size rfl x' HS8.out.2 ?_))
    refine (HC.out w8 HS8.out.1).mono ?_;rintro e w9 ⟨rfl, hr, hi9⟩;have HRI9 := xH (show Rm M wc w9 ∧ Ms G M y j w9 from ⟨HX.out.tr HRI.out.1 (HX.out.tr (HX.out.bel HRI.out.2 HS8.out.1).1 hr), hi9⟩);clear hr hi9;unfold cW;go_wp2_with fail
    refine (HT.out w9).mono ?_;rintro e w10 ⟨rfl, hb10⟩;have HRI10 := xH (show Rm M wc w10 ∧ Ms G M y j w10 from ⟨HX.out.tr HRI9.out.1 (HX.out.bel HRI9.out.2 hb10).1, (HX.out.bel HRI9.out.2 hb10).2⟩);clear hb10;obtain ⟨lo, hi2⟩ := q;simp only at HD;by_cases hne : lo = hi2
    ·subst hne;by_cases hgt : 255 < lo
     ·have HSF := xH (show false = S by rw [← HD.out, show decide (lo ≤ 255) = false by simp; omega]; simp);clear HD;go_wp2_with fail
      go_ret
      exact ⟨by rw [← HSF.out]; rfl, HRI10.out⟩
     ·have HSN := xH (show fixP (y, j) (f2.drop (i + 1)) = S by rw [← HD.out, show decide (lo ≤ 255) = true by simp; omega]; simp);clear HD;go_wp2_with fail
      go_roundw
      case rel => exact ⟨i + 1, by go_num, by omega, HSN, HRI10⟩
      case measure => simp [intOf]; omega
    ·have bne : (lo != hi2) = true := by simp [hne]
     have HSF := xH (show false = S by rw [← HD.out, show decide (lo = hi2) = false by simp [hne]]; simp);clear HD hne;go_wp2_with fail
     go_ret
     exact ⟨by rw [← HSF.out]; rfl, HRI10.out⟩
   ·have hge : ¬ ((i : Int) < (f2.len : Int)) := by omega
    have HSF := xH (show true = S from by rw [← HE.out, drop_end (by omega)]; rfl);clear hlt;go_wp2_with fail
    go_ret
    exact ⟨by rw [← HSF.out]; rfl, HRI.out⟩
def erB (r : Option Int) : Int := if r.isSome = true then 35 else 0
def BhB (G M : Nat) (y : Lab) (j : F) (r : Option Int) (w : World) (e : Ending) (w' : World) : Prop := e = .returned (.tuple #[.int .i64 (erB r), .int .i64 (r.getD 0)]) ∧ Rm M w w' ∧ Ms G M y j w'
theorem beh_drop {root : Nd} {k : F} {i : Nat} {x : Lab} {j r : F} (hd : k.drop i = .cons x j r) : behF root (k.drop i) = (behF root (F.one x j)).or (behF root (k.drop (i + 1))) := by
 rw [hd, drop_succ hd];unfold F.one;rw [behF, behF, behF];split
 ·rfl
 ·cases behF root j <;> rfl
theorem beh_one (root : Nd) (x : Lab) (k : F) : behF root (F.one x k) = if isBe x = true ∧ fixP root (altsP k) = false then some x.at_ else behF root k := by
 unfold F.one;rw [behF];split
 ·rfl
 ·cases behF root k <;> rfl
theorem beh_all {G M : Nat} {y : Lab} {j : F} (hr : FitC (F.one y j)) : ∀ (z : Nat) (w : World) (x : Lab) (k : F) (_hz : k.size < z) (_hI : Ms G M y j w) (_hn : NdAt w (x, k)) (_hf : FitC (F.one x k)),
 Calls Try.prog 58 #[.pointer (some ⟨G, 0, none⟩), ndV x] w (BhB G M y j (behF (y, j) (F.one x k)) w) := by
 intro z;refine Nat.rec ?_ (fun z ih => ?_) z
 ·intro w x k hz;exact absurd hz (Nat.not_lt_zero _)
 intro w x k hz hI hn hf;have IH := xH (@ih);clear ih;have HX := xH (cx2 G M y j);have HRI := xH ((cx2 G M y j).bel hI (trw.qg w (.cells (ndC x).toArray 27)));have HP := xH (heap_alloc_new w (.cells (ndC x).toArray 27));have HND := xH (trw.vO (trw.qg w (.cells (ndC x).toArray 27)) hn);have HZ := xH hz;have HF := xH hf.2.1;have HRF := xH hr;obtain ⟨ka, kq, hkv⟩ := kids_len hn.2.2;have hkl : k.len ≤ 9223372036854775807 := by obtain ⟨a, q, e, h1, h2, _⟩ := hn.2.2; exact Nat.le_trans h1 h2
 have HKV := xH (show x.kv = .slice ka k.len kq from hkv);clear hn hf hz hI hkv hr;obtain ⟨Q, hQ⟩ : ∃ Q, behF (y, j) (F.one x k) = Q := ⟨_, rfl⟩;rw [hQ];rw [beh_one] at hQ;unfold ndC at HP HRI HND;unfold ndV;have HBE := xH (fun w1 => isbe_any x w1);unfold ndV at HBE;obtain ⟨ib, hib⟩ : ∃ ib, isBe x = ib := ⟨_, rfl⟩;rw [hib] at hQ HBE;obtain ⟨fq, hfq⟩ : ∃ fq, fixP (y, j) (altsP k) = fq := ⟨_, rfl⟩;rw [hfq] at hQ;have HFQ := xH hfq;have HQ := xH hQ;clear hQ hib hfq;go_enter Try.func58, Try.ntmps58;go_upto_region 1 with (fail)
 generalize w.alloc _ = w1 at *;go_cut [18] (fun v18 wx => Hid (v18 = .bool (ib && !fq)) ∧ Hid (Rm M w wx ∧ Ms G M y j wx) ∧ Hid (wx.heap[w.heap.size]? = some (.cells #[.int .i64 x.kind, .int .i64 x.at_, .int .i64 x.c, x.sv, .bool x.neg, .int .i64 x.n, .int .i64 x.m, .int .i64 x.mode, .string x.name, .int .i64 x.on, .int .i64 x.off, x.kv] 27 (0, 0))) ∧ Hid (NdAt wx (x, k)))
 case first =>
  go_wp2_with (refine ql rfl _ rfl w.heap.size rfl x HP.out ?_)
  refine (HBE.out _).mono ?_;rintro e w2 ⟨rfl, hb⟩;have HR2 := xH (HX.out.bel HRI.out.2 hb);have HP2 := xH ((hb.block _ (zi HP.out)).trans HP.out);have HN2 := xH (trw.vO hb HND.out);have HT2 := xH (HX.out.tr HRI.out.1 HR2.out.1);clear hb;cases ib with
  | false =>
   go_wp2_with fail
   go_meet
   exact ⟨xH rfl, xH ⟨HT2.out, HR2.out.2⟩, HP2, HN2⟩
  | true =>
   have c11 : w2.cell? ⟨w.heap.size, 11, none⟩ = some (.slice ka k.len kq) := by unfold World.cell?; rw [HP2.out]; show some x.kv = _; rw [HKV.out]
   have HFX := xH (fixed_any w2 _ k HR2.out.2 (kids_eq HN2.out.2.2 HKV.out) HF.out HRF.out);have HC2 := xH (fun i u (hi : (ndC x)[i]? = some u) => cell_row HP2.out i u hi);rw [HFQ.out] at HFX;go_wp2_with fail
   refine HFX.out.mono ?_;rintro e w3 ⟨rfl, hr3, hi3⟩;have HR3 := xH (show Rm M w w3 ∧ Ms G M y j w3 from ⟨HX.out.tr HT2.out hr3, hi3⟩);have HP3 := xH ((hr3.block _ (zi HP2.out) (fun e => HR2.out.2.ne.2.2 _ _ (e ▸ c11))).trans HP2.out);have HN3 := xH (qY (HX.out.cel HR2.out.2 hr3) HN2.out);clear hr3 hi3 c11;go_wp2_with fail
   go_meet
   exact ⟨xH rfl, HR3, HP3, HN3⟩
 case rest =>
  obtain ⟨hv, hw, hp, hn⟩ := hcut;have hv2 := hv.out;subst hv2;have HRC := xH hw.out;have HPC := xH hp.out;have HNC := xH hn.out;clear hv hw hp hn HRI HND HBE HP;obtain ⟨fx, hfx⟩ : ∃ fx, (ib && !fq) = fx := ⟨_, rfl⟩;rw [hfx];have HQ2 := xH (show (if fx = true then some x.at_ else behF (y, j) k) = Q from by rw [← HQ.out, ← hfx];cases ib <;> cases fq <;> rfl)
  clear hfx HQ;cases fx with
  | true =>
   have HQ3 := xH (show some x.at_ = Q from HQ2.out);have c1 := yC 1 (.int .i64 x.at_) HPC;go_wp2_with fail
   go_quiet (fail)
   rename_i nq;have HBD := xH (HX.out.bel HRC.out.2 (tkw.zI (Below.refl wc.heap.size wc) nq));go_wp2_with fail
   go_ret2
   exact ⟨by rw [← HQ3.out]; rfl, HX.out.tr HRC.out.1 HBD.out.1, HBD.out.2⟩
  | false =>
   have HQ3 := xH (show behF (y, j) k = Q from HQ2.out);have HK := xH (kids_eq HNC.out.2.2 HKV.out);have c11 : wc.cell? ⟨w.heap.size, 11, none⟩ = some (.slice ka k.len kq) := by unfold World.cell?; rw [HPC.out]; show some x.kv = _; rw [HKV.out]
   clear HQ2;go_wp2_with fail
   clear c11
   go_loopw [24] (fun v24 wr => ∃ i : Nat, v24 = .int .i64 i ∧ i ≤ k.len ∧ Hid (behF (y, j) (k.drop i) = Q) ∧ Hid (Rm M wc wr ∧ Ms G M y j wr)) (fun v24 _ => k.len - (intOf v24).toNat)
   case atStart => exact ⟨0, rfl, Nat.zero_le _, xH (by rw [drop_zero]; exact HQ3.out), xH (HX.out.bel HRC.out.2 (Below.refl _ _))⟩
   case round =>
    obtain ⟨i, rfl, hi, HE, HRI⟩ := hrel;by_cases hlt : i < k.len
    ·obtain ⟨x', kk, r, hd⟩ := drop_lt hlt;obtain ⟨b, o, q, hv, _, _, _, hfa⟩ := kid_at HK.out hd;cases hv;have HCE := xH (show ∀ j u, (ndC x')[j]? = some u → wr.cell? ⟨b, o + i * 12 + j, none⟩ = some u from fun j u hj => HX.out.cel HRC.out.2 HRI.out.1 _ _ (hfa.1 j u hj));have HFH := xH (qY (HX.out.cel HRC.out.2 HRI.out.1) (trw.fAt_head hfa));have HO := xH (qp HFH.out);have HFT := xH (fit_at HF.out hd);have HSZ := xH (show kk.size < z by have := size_lt hd; have := HZ.out; omega);have i1 : (i : Int) < (k.len : Int) := by omega
     have a1 := add_row b o i 12;have HC := xH (fun w8 (hb : Below wr.heap.size wr w8) => IH.out w8 x' kk HSZ.out (HX.out.bel HRI.out.2 hb).2 (trw.vO hb HFH.out) HFT.out);have HD := xH ((beh_drop (root := (y, j)) hd).symm.trans HE.out);obtain ⟨q, hq⟩ : ∃ q, behF (y, j) (F.one x' kk) = q := ⟨_, rfl⟩;rw [hq] at HD HC;clear hd hfa hq HE;go_wp2_with (first
      | (refine jv rfl _ rfl b (o + i * 12) rfl x' HCE.out ?_)
      | (refine wpList_store_nf rfl rfl _ _ rfl rfl x' HO.out rfl ?_; intro w8 HS8)
      | (refine ql rfl _ rfl wr.heap.size rfl x' HS8.out.2 ?_))
     refine (HC.out w8 HS8.out.1).mono ?_;rintro e w9 ⟨rfl, hr, hi9⟩;have HRI9 := xH (show Rm M wc w9 ∧ Ms G M y j w9 from ⟨HX.out.tr HRI.out.1 (HX.out.tr (HX.out.bel HRI.out.2 HS8.out.1).1 hr), hi9⟩);clear hr hi9;cases q with
     | some p =>
      have HSF := xH (show some p = Q from HD.out);rw [show erB (some p) = 35 from rfl, show (some p).getD 0 = p from rfl];go_wp2_with fail
      go_ret2
      exact ⟨by rw [← HSF.out]; rfl, HX.out.tr HRC.out.1 HRI9.out.1, HRI9.out.2⟩
     | none =>
      have HSN := xH (show behF (y, j) (k.drop (i + 1)) = Q from HD.out);rw [show erB none = 0 from rfl, show (none : Option Int).getD 0 = 0 from rfl];go_wp2_with fail
      go_roundw
      case rel => exact ⟨i + 1, by go_num, by omega, HSN, HRI9⟩
      case measure => simp [intOf]; omega
    ·have hge : ¬ ((i : Int) < (k.len : Int)) := by omega
     have HSF := xH (show none = Q from by rw [← HE.out, drop_end (by omega)]; rfl);clear hlt;go_wp2_with fail
     go_ret2
     exact ⟨by rw [← HSF.out]; rfl, HX.out.tr HRC.out.1 HRI.out.1, HRI.out.2⟩
def ChkB (r : Option Int) (w : World) (e : Ending) (w' : World) : Prop := e = .returned (.tuple #[.int .i64 (erB r), .int .i64 (r.getD 0)]) ∧ Below w.heap.size w w'
theorem check_any (x : Lab) (k : F) (w : World) (hn : NdAt w (x, k)) (hf : FitC (F.one x k)) : Calls Try.prog 42 #[ndV x] w (ChkB (behF (x, k) (F.one x k)) w) := by
 have HP := xH (heap_alloc_new w (.cells (ndC x).toArray 27));have HB := xH (trw.qg w (.cells (ndC x).toArray 27));have HN := xH hn;have HF := xH hf;clear hn hf;obtain ⟨Q, hQ⟩ : ∃ Q, behF (x, k) (F.one x k) = Q := ⟨_, rfl⟩;have HW := xH hQ;rw [hQ];clear hQ;unfold ndC at HP HB;unfold ndV;go_enter Try.func42, Try.ntmps42;go_upto_region 1 with (fail)
 generalize w.alloc _ = w1 at *;refine wp_region_held_drew (S := fun w' => Below w1.heap.size w1 w') (by kernel_rfl) (trw.qL w1) (fun hHeld => ?_);refine xT 0 rfl (ndV x) ?_ ?_
 ·intro w' hSw;exact z113
 simp only [xS];refine xT 2 rfl (ndV x) ?_ ?_
 ·intro w' hSw;exact z113
 simp only [xS];refine xD 1 rfl (fun K hK => ?_);have HD := xH (trw.qi HB.out (trw.qL w1));go_simp;refine (measuring_any x k _ (trw.vO HD.out HN.out)).mono ?_;rintro e w2 ⟨G, M, rfl, hb, hms, hM⟩;have HB2 := xH (trw.qi (trw.qL w1) hb);have HMS := xH hms;have HM := xH (show w1.heap.size ≤ M from hM);have HN2 := xH (trw.vO (trw.qi HD.out hb) HN.out);clear hb hms hM;refine hK.out _ _ HB2.out (fun hHeld => ?_);clear hK K;try simp only [xS]
 refine xD 3 rfl (fun K hK => ?_);go_simp;refine (beh_all HF.out _ w2 x k (Nat.lt_succ_self _) HMS.out HN2.out HF.out).mono ?_;rintro e w3 ⟨rfl, hr3, hi3⟩;have HB3 := xH (rm_below HB2.out HM.out hr3);clear hr3 hi3;rw [HW.out];refine hK.out _ _ HB3.out (fun hHeld => ?_);clear hK K;try simp only [xS]
 refine xT 4 rfl (.int .i64 (erB Q)) ?_ ?_
 ·intro w' hSw;go_simp;try rfl
 simp only [xS];refine xT 5 rfl (.int .i64 (Q.getD 0)) ?_ ?_
 ·intro w' hSw;go_simp;try rfl
 simp only [xS];refine xT 6 rfl ?_ ?_ ?_;rotate_left
 ·intro w' hSw;go_simp;try rfl
 simp only [xS];refine xT 7 rfl ?_ ?_ ?_;rotate_left
 ·intro w' hSw;go_simp;try rfl
 simp only [xS];refine wpAnyH_done (by kernel_rfl) ?_ _;go_wp2_with fail
 go_ret2
 exact ⟨rfl, trw.qi HB.out HB3.out⟩
end wdw
end
section
namespace wdl
open sq
open Go Go.RowKit Go.Maps utfw tkp trp trw rpp rsp rtp setw gpp rsw wdp wdw rwl11
open rpw (qp ql jU)
open gqw (wpList_store_ny)
open tkw (sg)
open rfl10 (ansX nt_of NT)
open rdw (eN)
open rfp (docF)
theorem fst2_none2 {a b : Option Int} (h : rfp.fst2 a b = none) : a = none ∧ b = none := by
 cases a with
 | none => exact ⟨rfl, h⟩
 | some v => cases h
theorem step_c {n : Nat} {cnt : Int} {l : Nm} (hl : rfp.NmOk cnt l) (hc : cnt ≤ 1000000) {x : Lab} (hx : rfp.LabI n x) {last : Int} (h : (rfp.stepD cnt l x last).1 = false) :
 RpX (rfp.stepD cnt l x last).2.1 ∧ ((rfp.stepD cnt l x last).2.1.kind = 8 → 0 ≤ (rfp.stepD cnt l x last).2.1.n ∧ (rfp.stepD cnt l x last).2.1.n ≤ 1000000) := by
 have hr : RpX x := fun e => by have := hx.2.2 e;omega
 unfold rfp.stepD at h ⊢;by_cases c : x.kind = 7 ∨ x.kind = 8
 ·rw [if_pos c] at h ⊢;refine ⟨fun e => absurd (show x.kind = 20 from e) (by omega), fun e => ?_⟩;have e8 : x.kind = 8 := e;simp only [dD, if_pos e8] at h;refine ⟨by show 0 ≤ rfp.meant cnt l last x.m x.n x.name; omega, ?_⟩;show rfp.meant cnt l last x.m x.n x.name ≤ 1000000;unfold rfp.meant;by_cases m3 : x.m = 3
  ·rw [if_pos m3];rcases hl.2 x.name with h1 | h1 <;> omega
  ·rw [if_neg m3];generalize (if x.m = 1 then last - x.n + 1 else if x.m = 2 then last + x.n else x.n) = k2;show (if k2 < 0 ∨ cnt < k2 then -1 else k2) ≤ 1000000;by_cases hh : k2 < 0 ∨ cnt < k2
   ·rw [if_pos hh]; omega
   ·rw [if_neg hh]; omega
 rw [if_neg c];by_cases d : x.kind = 19
 ·rw [if_pos d];have k : ∀ y : Lab, y.kind = x.kind → RpX y ∧ (y.kind = 8 → 0 ≤ y.n ∧ y.n ≤ 1000000) := fun y hy => ⟨fun e => by omega, fun e => by omega⟩
  split
  ·exact k _ rfl
  ·split <;> exact k _ rfl
 ·rw [if_neg d];split
  ·exact ⟨hr, fun e => absurd (show x.kind = 8 from e) (by omega)⟩
  ·exact ⟨hr, fun e => absurd (show x.kind = 8 from e) (by omega)⟩
theorem doc_c {n : Nat} {cnt : Int} {l : Nm} (hl : rfp.NmOk cnt l) (hc : cnt ≤ 1000000) : ∀ (f : F) (rs : Bool) (last most : Int), rfp.AllI n f → (docF cnt l rs last f most).2.2 = none → FitC (docF cnt l rs last f most).1
 | .nil, _, _, _, _, _ => trivial
 | .cons x k r, rs, last, most, ha, h => by
  rw [docF] at h ⊢;simp only at h ⊢;obtain ⟨h1, h2⟩ := fst2_none2 h;obtain ⟨h2, h3⟩ := fst2_none2 h2;refine ⟨step_c hl hc ha.1 ?_, doc_c hl hc k _ _ _ ha.2.1 h2, doc_c hl hc r _ _ _ ha.2.2 h3⟩;cases hs : (rfp.stepD cnt l x (if rs = true then last else most)).1 with
  | false => rfl
  | true => rw [hs] at h1; cases h1
def tr11 : Option F → Option F
 | none => none
 | some t => if (nameR [] (capL (refF false 0 t 0).1)).1.1 ≠ 0 then none else if (docR t).2.2 ≠ none then none else some (docR t).1
theorem tr11_fit {n : Nat} {g : Nat → Int} {o : Int} {T : F} (h : tr11 (flatP (sg (strOf n g)) n o) = some T) : FitC T := by
 cases hf : flatP (sg (strOf n g)) n o with
 | none => rw [hf] at h; cases h
 | some t =>
  rw [hf] at h;unfold tr11 at h;simp only at h;split at h
  ·cases h
  ·split at h
   ·cases h
   ·rename_i he;have hn := nt_of hf;obtain rfl : (docR t).1 = T := by simp only [dG] at h;exact h
    have he2 : (docR t).2.2 = none := dC he;unfold docR at he2 ⊢;exact doc_c (rfp.nm_okT t) hn.k.2 _ _ _ _ hn.i he2
def R11 (T : Option F) (w : World) (e : Ending) (w' : World) : Prop := Below w.heap.size w w' ∧ ∃ y j, NdAt w' (y, j) ∧ match T with
 | none => e = .returned (.tuple #[ndV y, .bool false])
 | some t => e = .returned (.tuple #[ndV y, .bool true]) ∧ strip (F.one y j) = t
theorem r11_of {R : Option F} {w w' : World} {e : Ending} (h : Res11B R w e w') : R11 (tr11 R) w e w' := by
 obtain ⟨hb, h⟩ := h;refine ⟨hb, ?_⟩;cases R with
 | none => exact ⟨lab 0 0, .nil, rpw.zero_at w', h⟩
 | some t =>
  rcases h with ⟨c, rfl⟩ | ⟨c, y, j, rfl, hn, hs⟩
  ·refine ⟨lab 0 0, .nil, rpw.zero_at w', ?_⟩;unfold tr11;simp only;rw [if_pos c]
   trivial
  ·refine ⟨y, j, hn, ?_⟩;unfold tr11;simp only;rw [if_neg (fun k => k c)];cases he : (docR t).2.2 with
   | none =>
    rw [he] at hs;exact ⟨rfl, hs⟩
   | some p => rfl
theorem tree_any (v : Value) (n : Nat) (g : Nat → Int) (o : Int) (w : World) (hv : Sl w v n g) : Calls Try.prog 28 #[v, .int .i64 o] w (R11 (tr11 (flatP (sg (strOf n g)) n o)) w) :=
 (res11_any v n g o w hv).mono fun _ _ h => r11_of h
theorem fitC_strip : ∀ {f : F}, FitC (strip f) → FitC f
 | .nil, _ => trivial
 | .cons _ _ _, h => ⟨h.1, fitC_strip h.2.1, fitC_strip h.2.2⟩
theorem wids_strip (env : Int → Wd) : ∀ f : F, wids env (strip f) = wids env f
 | .nil => rfl
 | .cons x k r => by rw [strip, wids, wids, wids_strip env k, wids_strip env r]; rfl
theorem acc_strip : ∀ f : F, accF (strip f) = accF f
 | .nil => rfl
 | .cons x k r => by rw [strip, accF, accF, acc_strip k, acc_strip r]; rfl
theorem part_strip (env : Int → Wd) (x : Lab) (k : F) : partW env (bare x, strip k) = partW env (x, k) := by unfold partW;simp only;rw [wids_strip, show F.one (bare x) (strip k) = strip (F.one x k) from rfl, acc_strip];rfl
theorem first_strip (n : Int) : ∀ f : F, firstG n (strip f) = (firstG n f).map fun t => (bare t.1, strip t.2)
 | .nil => rfl
 | .cons x k r => by
  rw [strip, firstG, firstG, first_strip n k, first_strip n r];by_cases h : x.kind = 14 ∧ x.n = n
  ·rw [if_pos h, if_pos h]; rfl
  ·rw [if_neg h, if_neg h];cases firstG n k <;> rfl
theorem call_strip (x : Lab) (k : F) : callW (bare x, strip k) = callW (x, k) := by
 funext n
 unfold callW;by_cases h : n = 0
 ·rw [if_pos h, if_pos h];exact part_strip env0 x k
 ·rw [if_neg h, if_neg h];simp only;rw [show F.one (bare x) (strip k) = strip (F.one x k) from rfl, first_strip];cases firstG n (F.one x k) with
  | none => rfl
  | some s => exact part_strip env0 s.1 s.2
theorem wid_strip (x y : Lab) (k j : F) : widP (bare x, strip k) (bare y, strip j) = widP (x, k) (y, j) := by unfold widP;rw [call_strip, part_strip]
theorem fix_strip (y : Lab) (j : F) : ∀ f : F, fixP (bare y, strip j) (strip f) = fixP (y, j) f
 | .nil => rfl
 | .cons x k r => by rw [strip, fixP, fixP, fix_strip y j r];have e : widP ({ x with sv := nil3, kv := nil3 }, strip k) (bare y, strip j) = widP (x, k) (y, j) := wid_strip x y k j;rw [e]
theorem alts_strip (f : F) : altsP (strip f) = strip (altsP f) := by
 match f with
 | .nil => rfl
 | .cons x k .nil =>
  simp only [strip, altsP];split <;> rfl
 | .cons _ _ (.cons _ _ _) => rfl
theorem beh_strip (y : Lab) (j : F) : ∀ f : F, behF (bare y, strip j) (strip f) = behF (y, j) f
 | .nil => rfl
 | .cons x k r => by rw [strip, behF, behF, beh_strip y j k, beh_strip y j r, alts_strip, fix_strip];rfl
def widT : F → Int × Int
 | .cons x k _ => widP (x, k) (x, k)
 | .nil => (0, 0)
def chkT : F → Option Int
 | .cons x k _ => behF (x, k) (F.one x k)
 | .nil => none
theorem widT_of {y : Lab} {j : F} {T : F} (h : strip (F.one y j) = T) : widP (y, j) (y, j) = widT T := by subst h;exact (wid_strip y y j j).symm
theorem chkT_of {y : Lab} {j : F} {T : F} (h : strip (F.one y j) = T) : behF (y, j) (F.one y j) = chkT T := by subst h;exact (beh_strip y j (F.one y j)).symm
end wdl
end
section
namespace wdl
open sq
open Go Go.RowKit Go.Maps utfw trp trw rpp rsp rtp setw rsw wdp wdw
open rpw (qp ql jU)
open gqw (wpList_store_ny)
open tkw (sg)
theorem sl_lit11 (w : World) (t : TypeId) (fr : Nat × Nat) (l : List Int) (hl : ∀ x ∈ l, 0 ≤ x ∧ x ≤ 255) (hn : l.length ≤ 140737488355328) : Sl (w.alloc (.cells (l.map (Value.int .u8)).toArray t fr)) (.slice (some ⟨w.heap.size, 0, none⟩) l.length l.length) l.length (at_ l) := by
 refine ⟨fun i => ?_, hn, Or.inr ⟨w.heap.size, 0, l.length, rfl, ⟨xL _, by omega⟩, fun i hi => ?_⟩⟩
 ·unfold at_;by_cases hi : i < l.length
  ·have : l.getD i 0 ∈ l := by rw [show l.getD i 0 = l[i] by simp [List.getD, hi]];exact dI hi
   exact hl _ this
  ·rw [show l.getD i 0 = 0 by simp [List.getD, Nat.not_lt.1 hi]];omega
 ·unfold World.cell?;rw [heap_alloc_new w _];simp [at_, List.getD, hi]
theorem tree_lit (w : World) (fr : Nat × Nat) (l : List Int) (hl : ∀ x ∈ l, 0 ≤ x ∧ x ≤ 255) (hn : l.length ≤ 140737488355328) {T : F} (h : tr11 (flatP (sg (strOf l.length (at_ l))) l.length 0) = some T) :
 Calls Try.prog 28 #[.slice (some ⟨w.heap.size, 0, none⟩) l.length l.length, .int .i64 0] (w.alloc (.cells (l.map (Value.int .u8)).toArray 5 fr)) (R11 (some T) w) := by
 refine (tree_any _ l.length (at_ l) 0 _ (sl_lit11 w 5 _ l hl hn)).mono ?_;intro e w' h';rw [h] at h';exact ⟨trw.qi (trw.qg w _) h'.1, h'.2⟩
def lA : List Int := [40, 63, 58, 97, 98, 41, 123, 50, 44, 51, 125]
def lBB : List Int := [40, 97, 40, 63, 49, 41, 63, 41]
def lC : List Int := [40, 63, 60, 61, 97, 124, 98, 42, 41]
theorem awk_A11 : (match tr11 (flatP (sg (strOf 11 (at_ lA))) 11 0) with | some T => decide (widT T = (4, 6)) | none => false) = true := by decide +kernel
theorem awk_B11 : (match tr11 (flatP (sg (strOf 8 (at_ lBB))) 8 0) with | some T => decide (widT T = (1, -1)) | none => false) = true := by decide +kernel
theorem awk_C11 : (match tr11 (flatP (sg (strOf 9 (at_ lC))) 9 0) with | some T => decide (chkT T = some 0) | none => false) = true := by decide +kernel
theorem awk_some11 {n : Nat} {l : List Int} {R : F → Bool} (h : (match tr11 (flatP (sg (strOf n (at_ l))) n 0) with | some t => R t | none => false) = true) : ∃ t, tr11 (flatP (sg (strOf n (at_ l))) n 0) = some t ∧ R t = true := by
 cases e : tr11 (flatP (sg (strOf n (at_ l))) n 0) with
 | none => rw [e] at h; cases h
 | some t => rw [e] at h; exact ⟨t, rfl, h⟩
def AskW (T : F) (q : Int × Int) : Prop := ∀ (y : Lab) (j : F) (w : World), strip (F.one y j) = T → NdAt w (y, j) → Calls Try.prog 30 #[ndV y, ndV y] w (ToldB q w)
theorem ask_w {n : Nat} {g : Nat → Int} {o : Int} {T : F} (h : tr11 (flatP (sg (strOf n g)) n o) = some T) : AskW T (widT T) := fun y j w hs hn => by
 have hf : FitC (F.one y j) := fitC_strip (hs ▸ tr11_fit h);rw [← widT_of hs];exact width_any y y j j w hn hn hf hf
theorem ask_c {n : Nat} {g : Nat → Int} {o : Int} {T : F} (h : tr11 (flatP (sg (strOf n g)) n o) = some T) (y : Lab) (j : F) (w : World) (hs : strip (F.one y j) = T) (hn : NdAt w (y, j)) : Calls Try.prog 42 #[ndV y] w (ChkB (chkT T) w) := by have hf : FitC (F.one y j) := fitC_strip (hs ▸ tr11_fit h);rw [← chkT_of hs];exact check_any y j w hn hf
theorem awake_any11 (w : World) : Calls Try.prog 27 #[] w (trw.BoolB true w) := by
 obtain ⟨TA, hA, cA⟩ := awk_some11 (n := 11) (l := lA) (R := fun T => decide (widT T = (4, 6))) awk_A11;obtain ⟨TB, hB, cB⟩ := awk_some11 (n := 8) (l := lBB) (R := fun T => decide (widT T = (1, -1))) awk_B11;obtain ⟨TC, hC, cC⟩ := awk_some11 (n := 9) (l := lC) (R := fun T => decide (chkT T = some 0)) awk_C11;have L1 := xH (fun fr => tree_lit w fr lA (by decide) (by decide) hA);have L2 := xH (fun w fr => tree_lit w fr lBB (by decide) (by decide) hB);have L3 := xH (fun w fr => tree_lit w fr lC (by decide) (by decide) hC);have AA := xH (show AskW TA (4, 6) from of_decide_eq_true cA ▸ ask_w hA);have AB := xH (show AskW TB (1, -1) from of_decide_eq_true cB ▸ ask_w hB);have AC := xH (fun y j w hs hn => (of_decide_eq_true cC ▸ ask_c hC y j w hs hn : Calls Try.prog 42 #[ndV y] w (ChkB (some 0) w)));unfold lA at L1;unfold lBB at L2;unfold lC at L3;clear hA hB hC cA cB cC;have kc := fun (w : World) (C : Array Value) (n c : Nat) => Lib.run_convert_bytes_const (P := Try.prog) w 22 5 C n c Try.underlying22 Try.underlying5
 go_enter Try.func27, Try.ntmps27;go_wp2_with fail
 refine (L1.out _).mono ?_;rintro e w1 ⟨hb1, y1, j1, hn1, rfl, hs1⟩;have HB1 := xH hb1;have HN1 := xH hn1;have HS1 := xH hs1;have HO1 := xH (qp hn1);have HG1 := xH (heap_alloc_new w1 (.cells zC.toArray 27));unfold zC at HG1;clear hb1 hn1 hs1 L1;try dsimp only
 unfold ndV;go_upto_region 2 with (refine wpList_store_ny rfl rfl _ _ rfl w1.heap.size rfl _ y1 HG1.out rfl HO1.out rfl ?_; intro w2 h2; have HS2 := xH (show Below w1.heap.size w1 w2 ∧ w2.heap[w1.heap.size]? = some (.cells (ndC y1).toArray 27 (0, 0)) from by rw [h2.out]; exact ⟨jU w1 _ _ _, setRow_heap _ _ _ _ _ _ HG1.out⟩); clear h2)
 have HW2 := xH (AA.out y1 j1 w2 HS1.out (trw.vO HS2.out.1 HN1.out));have HB2 := xH (trw.qi HB1.out HS2.out.1);unfold ndV at HW2;go_wp2_with (refine ql rfl _ rfl w1.heap.size rfl y1 HS2.out.2 ?_)
 refine HW2.out.mono ?_;rintro e w3 ⟨rfl, hb3⟩;have HB3 := xH (trw.qi HB2.out hb3);have L23 := xH (L2.out w3);clear hb3 AA HW2 L2;go_wp2_with fail
 refine (L23.out _).mono ?_;rintro e w4 ⟨hb4, y4, j4, hn4, rfl, hs4⟩;have HB4 := xH (trw.qi HB3.out hb4);have HN4 := xH hn4;have HS4 := xH hs4;have HO4 := xH (qp hn4);have HG4 := xH (heap_alloc_new w4 (.cells zC.toArray 27));unfold zC at HG4;clear hb4 hn4 hs4 L23;try dsimp only
 unfold ndV;go_upto_region 4 with (refine wpList_store_ny rfl rfl _ _ rfl w4.heap.size rfl _ y4 HG4.out rfl HO4.out rfl ?_; intro w5 h5; have HS5 := xH (show Below w4.heap.size w4 w5 ∧ w5.heap[w4.heap.size]? = some (.cells (ndC y4).toArray 27 (0, 0)) from by rw [h5.out]; exact ⟨jU w4 _ _ _, setRow_heap _ _ _ _ _ _ HG4.out⟩); clear h5)
 have HW5 := xH (AB.out y4 j4 w5 HS4.out (trw.vO HS5.out.1 HN4.out));have HB5 := xH (trw.qi HB4.out HS5.out.1);unfold ndV at HW5;go_wp2_with (refine ql rfl _ rfl w4.heap.size rfl y4 HS5.out.2 ?_)
 refine HW5.out.mono ?_;rintro e w6 ⟨rfl, hb6⟩;have HB6 := xH (trw.qi HB5.out hb6);have L36 := xH (L3.out w6);clear hb6 AB HW5 L3;go_wp2_with fail
 refine (L36.out _).mono ?_;rintro e w7 ⟨hb7, y7, j7, hn7, rfl, hs7⟩;have HB7 := xH (trw.qi HB6.out hb7);have HN7 := xH hn7;have HS7 := xH hs7;have HO7 := xH (qp hn7);have HG7 := xH (heap_alloc_new w7 (.cells zC.toArray 27));unfold zC at HG7;clear hb7 hn7 hs7 L36;try dsimp only
 unfold ndV;go_upto_region 6 with (refine wpList_store_ny rfl rfl _ _ rfl w7.heap.size rfl _ y7 HG7.out rfl HO7.out rfl ?_; intro w8 h8; have HS8 := xH (show Below w7.heap.size w7 w8 ∧ w8.heap[w7.heap.size]? = some (.cells (ndC y7).toArray 27 (0, 0)) from by rw [h8.out]; exact ⟨jU w7 _ _ _, setRow_heap _ _ _ _ _ _ HG7.out⟩); clear h8)
 have HW8 := xH (AC.out y7 j7 w8 HS7.out (trw.vO HS8.out.1 HN7.out));have HB8 := xH (trw.qi HB7.out HS8.out.1);unfold ndV at HW8;go_wp2_with (refine ql rfl _ rfl w7.heap.size rfl y7 HS8.out.2 ?_)
 refine HW8.out.mono ?_;rintro e w9 ⟨rfl, hb9⟩;have HB9 := xH (trw.qi HB8.out hb9);clear hb9 AC HW8;rw [show erB (some 0) = 35 from rfl, show (some (0 : Int)).getD 0 = 0 from rfl];go_wp2_with fail
 go_ret
 exact ⟨rfl, HB9.out⟩
theorem bounds_law11 (v : Value) (n : Nat) (g : Nat → Int) (o : Int) (w : World) (hv : Sl w v n g) : Calls Try.prog 10 #[v, .int .i64 o] w (trw.BoolB true w) := by
 have HTR := xH (fun w1 (hb : Below w.heap.size w w1) => tree_any v n g o w1 (utfw.below_sl hb hv));obtain ⟨va, vc, rfl⟩ : ∃ a c, v = .slice a n c := by exact z139
 clear hv;obtain ⟨R, hR⟩ : ∃ R, tr11 (flatP (sg (strOf n g)) n o) = R := ⟨_, rfl⟩;have HFT := xH (fun T (h : R = some T) => (⟨ask_w (hR.trans h), tr11_fit (hR.trans h)⟩ : AskW T (widT T) ∧ FitC T));rw [hR] at HTR;clear hR;go_enter Try.func10, Try.ntmps10;go_wp2_with fail
 refine (awake_any11 w).mono ?_;rintro e w1 ⟨rfl, hb1⟩;have HB1 := xH hb1;clear hb1;go_wp2_with fail
 refine (HTR.out w1 HB1.out).mono ?_;rintro e w2 ⟨hb2, y, j, hn, hq⟩;have HB2 := xH (trw.qi HB1.out hb2);have HN := xH hn;have HO := xH (qp hn);have HG := xH (heap_alloc_new w2 (.cells zC.toArray 27));unfold zC at HG;clear hb2 hn HTR;cases R with
 | none =>
  obtain rfl := hq;try dsimp only
  unfold ndV;go_upto_region 5 with (refine wpList_store_ny rfl rfl _ _ rfl w2.heap.size rfl _ y HG.out rfl HO.out rfl ?_; intro w3 h3; have HB3 := xH (show Below w2.heap.size w2 w3 from by rw [h3.out]; exact jU w2 _ _ _); clear h3)
  go_wp2_with fail
  go_ret
  exact ⟨rfl, trw.qi HB2.out HB3.out⟩
 | some T =>
  obtain ⟨rfl, hs⟩ := hq;obtain ⟨haw, hft⟩ := HFT.out T rfl;have HS := xH hs;have HAW := xH haw;have HBD := xH (show 0 ≤ (widT T).1 ∧ (widT T).1 ≤ 1000 ∧ ((widT T).2 = -1 ∨ ((widT T).1 ≤ (widT T).2 ∧ (widT T).2 ≤ 1000)) from by rw [← widT_of hs];have hf : FitC (F.one y j) := fitC_strip (hs ▸ hft);exact wid_bounds hf hf)
  clear hs haw hft HFT;obtain ⟨q, hq⟩ : ∃ q, widT T = q := ⟨_, rfl⟩;rw [hq] at HAW HBD;clear hq;obtain ⟨lo, hi⟩ := q;simp only at HBD;try dsimp only
  unfold ndV;go_upto_region 5 with (refine wpList_store_ny rfl rfl _ _ rfl w2.heap.size rfl _ y HG.out rfl HO.out rfl ?_; intro w3 h3; have HS3 := xH (show Below w2.heap.size w2 w3 ∧ w3.heap[w2.heap.size]? = some (.cells (ndC y).toArray 27 (0, 0)) from by rw [h3.out]; exact ⟨jU w2 _ _ _, setRow_heap _ _ _ _ _ _ HG.out⟩); clear h3)
  have HW3 := xH (HAW.out y j w3 HS.out (trw.vO HS3.out.1 HN.out));have HB3 := xH (trw.qi HB2.out HS3.out.1);unfold ndV at HW3;go_wp2_with (refine ql rfl _ rfl w2.heap.size rfl y HS3.out.2 ?_)
  refine HW3.out.mono ?_;rintro e w4 ⟨rfl, hb4⟩;have HB4 := xH (trw.qi HB3.out hb4);clear hb4 HW3 HAW;obtain ⟨h1, h2, h3⟩ := HBD.out;by_cases hm : hi = -1
  ·subst hm;clear h3;go_wp2_with fail
   go_ret
   exact ⟨rfl, HB4.out⟩
  ·have bm : (hi == -1) = false := by simp [hm]
   obtain ⟨h4, h5⟩ := h3.resolve_left hm;clear h3 hm;go_wp2_with fail
   go_ret
   exact ⟨rfl, HB4.out⟩
end wdl
end
section
namespace gpr
open sq
open Go Go.RowKit Go.ChangeShapes Go.WideShapes Go.ChangeAt utfp utfw
theorem own : ownKnob Try.prog.godebug = none := by kernel_rfl
theorem laidOut : laidOutB Try.prog = true := by kernel_rfl
theorem cellsByte : Try.prog.cellsOf 5 = 1 := by kernel_rfl
theorem bytesByte : Try.prog.bytesOf 5 = 1 := by kernel_rfl
theorem recBytes : Try.prog.readableRec 22 = true := by kernel_rfl
theorem rowBytes : (22 : TypeId) < Try.prog.types.size := of_decide_eq_true (by kernel_rfl)
theorem wf_byte {n : Int} (h : (Lit.int .u8 n).wf = true) : 0 ≤ n ∧ n ≤ 255 := by
 have h2 : IntKind.u8.min ≤ n ∧ n ≤ IntKind.u8.max := by simpa [Lit.wf] using h
 rw [show IntKind.u8.min = 0 by decide, show IntKind.u8.max = 255 by decide] at h2;exact h2
theorem open_bytes {H : Type} {enc : TypeId × Value → H} {W : World} {base : Nat} {v : Value} {d : DataW H} {ps : List MemPlace} (hval : Value.okWide Try.prog W .any base 22 v)
 (h : DataW.Trod enc Try.prog W 0 (fun _ => true) true 22 v d ps) (hsz : ∀ elems spare, d = .slice elems spare → (elems.length + spare.length) * Try.prog.bytesOf 5 ≤ reachBytes) :
 ∃ n g, Sl W v n g := by
 obtain ⟨a0, len, cap, rfl⟩ := okWide_slice Try.underlying22 hval;obtain ⟨fuel, hf⟩ := h;rcases open_ints Try.underlying22 Try.underlying5 cellsByte hf with ⟨hcs, _⟩ | ⟨a, len', cap', zs, hcs, _, hl, hm, hz, hx, hcell, hwz⟩
 ·simp [Value.cells] at hcs;obtain ⟨rfl, rfl, rfl⟩ := hcs;exact ⟨0, fun _ => 0, fun _ => by simp, by simp, Or.inl ⟨rfl, _, _, rfl, by omega⟩⟩
 ·simp [Value.cells] at hcs;obtain ⟨rfl, rfl, rfl⟩ := hcs;simp only [dL] at hx;obtain ⟨rfl, _⟩ := hx;simp only [if_true] at hz;have hr := hsz _ _ rfl;rw [bytesByte] at hr;simp only [lits, List.length_map, List.length_take, List.length_drop, reachBytes] at hr;unfold maxLen at hm;have hgb : ∀ i, 0 ≤ zs.getD i 0 ∧ zs.getD i 0 ≤ 255 := by
   intro i;by_cases hi : i < zs.length
   ·simp only [List.getD, List.getElem?_eq_getElem hi, Option.getD_some];exact wf_byte (hwz _ (dI hi))
   ·simp [List.getD, List.getElem?_eq_none (Nat.le_of_not_lt hi)]
  by_cases h0 : len = 0
  ·subst h0;exact ⟨0, fun _ => 0, fun _ => by simp, by simp, Or.inl ⟨rfl, _, _, rfl, by omega⟩⟩
  ·obtain ⟨b, off, spot⟩ := a;have c0 := hcell 0 (by omega);cases spot with
   | some s =>
    exfalso;have : ((⟨b, off, some s⟩ : Addr).add 0).spot.isSome = true := by unfold Addr.add; split <;> simp_all
    unfold World.cell? at c0;split at c0
    ·simp [this] at c0
    ·simp at c0
   | none =>
    refine ⟨len, fun i => zs.getD i 0, hgb, by omega, Or.inr ⟨b, off, cap, rfl, ⟨hl, by omega⟩, fun i hi => ?_⟩⟩;have := hcell i (by omega);have hplain : (⟨b, off, none⟩ : Addr).add i = ⟨b, off + i, none⟩ := by unfold Addr.add; split <;> simp_all
    rw [hplain] at this;exact this
end gpr
end
end Go.Proofs.Ytdgfclbajjjcgaa
