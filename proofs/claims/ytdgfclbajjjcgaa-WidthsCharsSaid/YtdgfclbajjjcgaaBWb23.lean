/- T -/
import Derived.BigQuiet
import Derived.Deep.Cut
import Derived.Deep.DeepCutAuto
import Derived.Deep.QuietTactic
import Derived.Laws.MakeOwn
import Derived.Lib.QuietBelow
import Derived.Maps.AppendAt
import Derived.RegionTactic
import Derived.StillTailTactics
import Derived.Test.YtdgfclbajjjcgaaBWb22
set_option maxHeartbeats 16000000
set_option maxRecDepth 1000000
namespace Go.Proofs.Ytdgfclbajjjcgaa
section
namespace gqw
open sq
open Go.Sort Go Go.RowKit Go.Maps setp setw tkp trp trw rpp rsp gpp sq
open rpw (sees jB qU qp jH qh)
open rsw (Old hx OwnH hN nd_unN nd_fld qV NodB)
structure RF (h : Nat → Bool) (x : Lab) (j : F) (w w0 : World) : Prop where
 b : Below w.heap.size w w0
 n : w0.heap[w.heap.size]? = some (.cells (ndC x).toArray 27 (0, 0))
 r : w0.heap[w.heap.size + 1]? = some (.cells zC.toArray 27 (0, 0))
 t : NdAt (sees (hN h (w.heap.size + 1)) w0) (x, j)
 o : Old (hN h (w.heap.size + 1)) w0.heap.size
 s : w.heap.size + 2 ≤ w0.heap.size
theorem rf_start {h : Nat → Bool} {x : Lab} {j : F} {w : World} (ho : Old h w.heap.size) (hn : NdAt (sees h w) (x, j)) : RF h x j w ((w.alloc (.cells (ndC x).toArray 27)).alloc (.cells zC.toArray 27)) := by
 have z1 := World.size_alloc w (.cells (ndC x).toArray 27);have z2 := World.size_alloc (w.alloc (.cells (ndC x).toArray 27)) (.cells zC.toArray 27);have b1 := qg w (.cells (ndC x).toArray 27);have b2 := qg (w.alloc (.cells (ndC x).toArray 27)) (.cells zC.toArray 27);have g1 := heap_alloc_new w (.cells (ndC x).toArray 27);have g2 := heap_alloc_new (w.alloc (.cells (ndC x).toArray 27)) (.cells zC.toArray 27);rw [z1] at g2 z2;have hb := qi b1 b2;refine ⟨hb, (b2.block _ (by omega)).trans g1, g2, qY (qU fun a v k1 hc => ⟨?_, trw.qf hb hc⟩) hn, fun i hi => ?_, by omega⟩
 ·have := cell_lt hc;simp only [hN, k1, Bool.false_or, dE, dD];omega
 ·simp only [hN, Bool.or_eq_true, dF] at hi;rcases hi with (hi | hi) | hi
  ·have := ho i hi;omega
  ·omega
  ·omega
theorem RF.below {h : Nat → Bool} {x : Lab} {j : F} {w w0 w1 : World} (hf : RF h x j w w0) (hb : Below w0.heap.size w0 w1) : RF h x j w w1 := by have hs := hf.s;exact ⟨qi hf.b hb, (hb.block _ (by omega)).trans hf.n, (hb.block _ (by omega)).trans hf.r, qV hb hf.t, hf.o.le hb.size, Nat.le_trans hs hb.size⟩
theorem RF.fld {h : Nat → Bool} {x : Lab} {j k : F} {w w0 : World} (hf : RF h x j w w0) (o : Nat) (v : Value) (L : Lab) (hL : (ndC x).toArray.setIfInBounds o v = (ndC L).toArray) (hok : LabOk L) (hs : L.sv = x.sv) (hs2 : L.set = x.set) (hk : jr (sees (hN h (w.heap.size + 1)) w0) L.kv k) : RF h L k w (w0.setCell ⟨w.heap.size, o, none⟩ v) := by
 have hz : (w0.setCell ⟨w.heap.size, o, none⟩ v).heap.size = w0.heap.size := by simp [World.setCell]
 refine ⟨hf.b.setCell (xL _) _, ?_, (heap_setCell_other w0 ⟨w.heap.size, o, none⟩ (w.heap.size + 1) v (show w.heap.size + 1 ≠ w.heap.size by omega)).trans hf.r, nd_fld (t := (L, k)) ⟨hok, by rw [show (L, k).1.sv = x.sv from hs, show (L, k).1.set = x.set from hs2]; exact hf.t.2.1, hk⟩, by rw [hz]; exact hf.o, by rw [hz]; exact hf.s⟩;have := tkw.heap_set (o := o) (v := v) hf.n;rw [hL] at this;exact this
theorem RF.fin {h : Nat → Bool} {L : Lab} {j : F} {w w0 : World} {r : F × Int} {e : Int} (hf : RF h L j w w0) (hs : strip (F.one L j) = r.1) (he : e = r.2) : NodB h r w (.returned (.tuple #[ndV L, .int .i64 e])) (w0.setRow (w.heap.size + 1) (ndC L).toArray) :=
 ⟨rpw.qC hf.b _ (Nat.le_succ _), L, j, by rw [he], nd_unN hf.t, hs⟩
theorem wpList_store_ny {ops : Array Oper} {rest : List Oper} {o : Oper} {a : Act} {w : World} {Q : Exit → Act → World → Prop} (hgd : o.guard = none) (hd : o.dst = none) (x y : Operand) (ho : o.op = .store 27 x y)
 (g : Nat) (hx : a.eval x = .pointer (some ⟨g, 0, none⟩)) (old : Array Value) (l : Lab) (hg : w.heap[g]? = some (.cells old 27 (0, 0))) (hs : old.size = 12) (h1 : ∀ u ∈ ndC l, u.oneCell' = true) (hy : a.eval y = ndV l)
 (h : ∀ w', Hid (w' = w.setRow g (ndC l).toArray) → wpList Try.prog ops Q rest a w') : wpList Try.prog ops Q (o :: rest) a w :=
 qh hgd hd x y ho g hx old l hg hs h1 hy (h _ (xH rfl))
def refN (x : Lab) (k : F) (last : Int) : F × Int :=
 let b := if x.kind = 14 then last + 1 else last
 let q := refF (decide (x.kind = 16)) b (strip k) b
 (F.one (if x.kind = 14 then { bare x with n := last + 1 } else bare x) q.1, q.2)
theorem refF_cons (rs : Bool) (last : Int) (x : Lab) (k r : F) (most : Int) : refF rs last (strip (.cons x k r)) most =
 (F.app (refN x k (if rs = true then last else most)).1 (refF rs last (strip r) (if most < (refN x k (if rs = true then last else most)).2 then (refN x k (if rs = true then last else most)).2 else most)).1,
  (refF rs last (strip r) (if most < (refN x k (if rs = true then last else most)).2 then (refN x k (if rs = true then last else most)).2 else most)).2) := by
 rw [strip, refF];rfl
theorem ref_hi : ∀ (l : F) (rs : Bool) (last most : Int), last ≤ most → (refF rs last l most).2 ≤ most + l.size
 | .nil, _, _, most, _ => by simp [refF, F.size]
 | .cons x k r, rs, last, most, h => by
  rw [refF];simp only;generalize ha : (if rs = true then last else most) = a;have ha : a ≤ most := by rw [← ha]; split <;> omega
  generalize hb : (if x.kind = 14 then a + 1 else a) = b;have hb : b ≤ a + 1 := by rw [← hb]; split <;> omega
  have h1 := ref_hi k (decide (x.kind = 16)) b b (Int.le_refl _);generalize refF (decide (x.kind = 16)) b k b = q at *;generalize hm : (if most < q.2 then q.2 else most) = m;have hm1 : most ≤ m ∧ m ≤ most + 1 + k.size := by rw [← hm]; split <;> omega
  have h2 := ref_hi r rs last m (by omega);rw [F.size];omega
theorem refN_hi (x : Lab) (k : F) (last : Int) : last ≤ (refN x k last).2 ∧ (refN x k last).2 ≤ last + 1 + k.size := by
 unfold refN;simp only;generalize hb : (if x.kind = 14 then last + 1 else last) = b;have hb : last ≤ b ∧ b ≤ last + 1 := by rw [← hb]; split <;> omega
 have h1 := ref_hi (strip k) (decide (x.kind = 16)) b b (Int.le_refl _);have h2 := ref_le (strip k) (decide (x.kind = 16)) b b;rw [rsp.strip_size] at h1;omega
def NumC (k : F) : Prop := ∀ (x : Lab) (last : Int) (w : World) (h : Nat → Bool), Old h w.heap.size → NdAt (sees h w) (x, k) → 0 ≤ last → last + k.size < 100000 → Calls Try.prog 37 #[ndV x, .int .i64 last] w (NodB h (refN x k last) w)
def NumRel (h : Nat → Bool) (k : F) (rs : Bool) (b : Int) (R : F × Int) (w0 : World) (vm vo vi : Value) (wr : World) : Prop :=
 ∃ (i : Nat) (m : Int) (g : F), vm = .int .i64 m ∧ vi = .int .i64 i ∧ i ≤ k.len ∧ g.len = i ∧ b ≤ m ∧ m + (k.drop i).size ≤ 100000 ∧ Hid (OwnH h w0.heap.size wr vo g) ∧ Hid (Below w0.heap.size w0 wr) ∧ Hid ((F.app (strip g) (refF rs b (strip (k.drop i)) m).1, (refF rs b (strip (k.drop i)) m).2) = R)
end gqw
end
section
namespace gqw
open sq
open Go.Sort Go Go.RowKit Go.Maps setp setw tkp trp trw rpp rsp gpp sq
open rpw (sees jB qU own_below qp jH qh ql jc qI)
open rsw (Old hx hx_old OwnH ownH_nil ownH_below ownH_kids wpList_append_h row1_kids hN qV zY sees_to old_add vG qZ NodB drop_size)
theorem num_of {k : F} (hN' : ∀ k' : F, k'.size < k.size → NumC k') : NumC k := by
 intro x last w h hold hnd h0 hl;have HN := xH hN';have HF0 := xH (rf_start hold hnd);obtain ⟨R, hR⟩ : ∃ R, refN x k last = R := ⟨_, rfl⟩;rw [hR];obtain ⟨b, hb⟩ : ∃ b : Int, (if x.kind = 14 then last + 1 else last) = b := ⟨_, rfl⟩;obtain ⟨L, hL⟩ : ∃ L : Lab, (if x.kind = 14 then { x with n := last + 1 } else x) = L := ⟨_, rfl⟩;obtain ⟨rs, hrs⟩ : ∃ rs : Bool, decide (x.kind = 16) = rs := ⟨_, rfl⟩;obtain ⟨Q, hQ⟩ : ∃ Q : F × Int, refF rs b (strip k) b = Q := ⟨_, rfl⟩;have HR1 := xH (show R = (F.one (bare L) Q.1, Q.2) from by rw [← hR, ← hQ, ← hL, ← hb, ← hrs];unfold refN;simp only;split <;> rfl)
 have HKL := xH (show L.kind = x.kind ∧ L.kv = x.kv by rw [← hL]; split <;> exact ⟨rfl, rfl⟩);have hb1 : last ≤ b ∧ b ≤ last + 1 := by rw [← hb]; split <;> omega
 have HLAB := xH hnd.1;obtain ⟨ka, kq, hkv⟩ := kids_len hnd.2.2;have HKV := xH hkv;have hkl : k.len ≤ 100000 := by have := rsp.len_size k; omega
 have HRS := xH hrs;have HQ := xH hQ;clear hold hnd hR hN' hkv hrs hQ;unfold ndC zC at HF0;go_enter Try.func37, Try.ntmps37;unfold ndV;go_upto_region 1 with (fail)
 generalize (w.alloc _).alloc _ = w0 at *;have e0 : w0.cell? ⟨w.heap.size, 0, none⟩ = some (.int .i64 x.kind) := by unfold World.cell?; rw [HF0.out.n]; rfl
 have e5 : w0.cell? ⟨w.heap.size, 5, none⟩ = some (.int .i64 x.n) := by unfold World.cell?; rw [HF0.out.n]; rfl
 have z5 : w0.frozen? ⟨w.heap.size, 5, none⟩ = false := by unfold World.frozen?; rw [HF0.out.n]; rfl
 go_upto_if 14 with (fail)
 go_cut [1] (fun v1 wx => v1 = .int .i64 b ∧ Hid (RF h L k w wx))
 case first =>
  by_cases h14 : x.kind = 14
  ·have b14 : (x.kind == 14) = true := by simp [h14]
   rw [if_pos h14] at hb hL;have HF1 := xH (HF0.out.fld 5 (.int .i64 (last + 1)) L (by rw [← hL]; rfl) (by
    rw [← hL];obtain ⟨a1, a2, a3, a4, a5, a6, a7, a8⟩ := HLAB.out;exact ⟨a1, a2, a3, by show I64 (last + 1); unfold I64; omega, a5, a6, a7, a8⟩) (by rw [← hL]) (by rw [← hL]) (by rw [← hL]; exact HF0.out.t.2.2))
   clear h14 hL;rw [hb] at HF1;go_wp2_with fail
   go_meet
   exact ⟨by first | rfl | rw [hb], HF1⟩
  ·have b14 : (x.kind == 14) = false := by simp [h14]
   rw [if_neg h14] at hb hL;have HF1 := xH (show RF h L k w w0 from hL ▸ HF0.out);clear h14 hL;go_wp2_with fail
   go_meet
   exact ⟨by first | rfl | rw [hb], HF1⟩
 case rest =>
  obtain ⟨rfl, HF1⟩ := hcut;generalize wc = w1 at *;clear e0 e5 z5 HF0 hb hL;have HR0 := xH (show (F.app (strip F.nil) (refF rs b (strip (k.drop 0)) b).1, (refF rs b (strip (k.drop 0)) b).2) = Q from by rw [drop_zero, ← HQ.out]; rfl);have e11 : w1.cell? ⟨w.heap.size, 11, none⟩ = some (.slice ka k.len kq) := by unfold World.cell?; rw [HF1.out.n]; show some L.kv = _; rw [HKL.out.2, HKV.out]
  have HKK := xH (show jr (sees (hN h (w.heap.size + 1)) w1) (.slice ka k.len kq) k from by have := HF1.out.t.2.2; rw [HKL.out.2, HKV.out] at this; exact this);have e0 : w1.cell? ⟨w.heap.size, 0, none⟩ = some (.int .i64 x.kind) := by unfold World.cell?; rw [HF1.out.n, ← HKL.out.1]; rfl
  have b16 : (x.kind == 16) = rs := by rw [← HRS.out]; rfl
  go_wp2_with fail
  go_loopw [6, 7, 8] (fun vm vo vi wr => NumRel (hN h (w.heap.size + 1)) k rs b Q w1 vm vo vi wr) (fun _ _ vi _ => k.len - (intOf vi).toNat)
  case atStart => exact ⟨0, b, F.nil, rfl, rfl, Nat.zero_le _, rfl, Int.le_refl _, by rw [drop_zero]; omega, xH (ownH_nil _ _ _), xH (Below.refl _ _), HR0⟩
  case round =>
   obtain ⟨i, m, g, rfl, rfl, hi, hg, hbm, hsz, hO, hB, hR⟩ := hrel;have HO := xH hO.out;have HB := xH hB.out;have HR := xH hR.out;have HG := xH hg;clear hO hB hR hg HR0;have d0 := trw.qf HB.out e0;have d11 := trw.qf HB.out e11;by_cases hlt : i < k.len
   ·obtain ⟨x', k', r, hd⟩ := drop_lt hlt;obtain ⟨b1, o, cap', hv, hc1, hc2, hil, hfa⟩ := kid_at HKK.out hd;cases hv;obtain ⟨fr, hfr⟩ : ∃ fr : Int, (if rs = true then b else m) = fr := ⟨_, rfl⟩;have hf1 : 0 ≤ fr ∧ fr ≤ m := by rw [← hfr]; split <;> omega
    have hds := drop_size hd;have HS := xH (size_lt hd);have HE := xH (fun j v hj => trw.qf HB.out (sees_to (hfa.1 j v hj)));have HX := xH (qY (zY HB.out (xL _) (fun q hq => (own_below HO.out.1 hq).1)) (fAt_head hfa));have HOXX := xH (fun (W : World) (hw : Below wr.heap.size wr W) => hx_old (v := u7) (m := W.heap.size) HF1.out.o (Nat.le_trans HB.out.size hw.size) HO.out.1 hw.size);obtain ⟨t, ht⟩ : ∃ t, refN x' k' fr = t := ⟨_, rfl⟩;have HT := xH ht;have ht2 := refN_hi x' k' fr;rw [ht] at ht2;have HCall := xH (show ∀ W (h2 : Nat → Bool), Old h2 W.heap.size → NdAt (sees h2 W) (x', k') → Calls Try.prog 37 #[ndV x', .int .i64 fr] W (NodB h2 t W) from fun W h2 ho2 hn2 => ht ▸ HN.out k' HS.out x' fr W h2 ho2 hn2 hf1.1 (by omega));have HD := xH hd;have a1 := add_row b1 o i 12;clear hd hfa ht;have i1 : (i : Int) < (k.len : Int) := by omega
    go_upto_if 30 with (fail)
    go_cut [9] from 20 to 49 (fun v9 wy => v9 = .int .i64 fr ∧ wr = wy)
    case first =>
     exact z88
    case rest =>
     obtain ⟨rfl, rfl⟩ := hcut;go_wp2_with (first
      | (refine jv rfl _ rfl b1 (o + i * 12) rfl x' HE.out ?_)
      | (refine (HCall.out _ (hx (hN h (w.heap.size + 1)) u7) (HOXX.out _ (Below.refl _ _)) HX.out).mono ?_))
     rintro e w2 ⟨hb2, y, j, rfl, hn2, hst2⟩;have HT4 := xH hst2;have HB2 := xH hb2;have HY := xH (qp hn2);have HG2 := xH (heap_alloc_new w2 (.cells zC.toArray 27));have HST := xH (show ∀ w4, w4 = (w2.alloc (.cells zC.toArray 27)).setRow w2.heap.size (ndC y).toArray → Below w2.heap.size w2 w4 ∧ w4.heap[w2.heap.size]? = some (.cells (ndC y).toArray 27 (0, 0)) from fun w4 h4 => by subst h4;exact ⟨rpw.jU w2 _ _ _, setRow_heap _ _ _ _ _ _ (heap_alloc_new w2 _)⟩)
     have HNY := xH hn2;unfold zC at HG2 HST;clear hb2 hn2 hst2;dsimp only;go_upto_region 13 with (refine wpList_store_ny rfl rfl _ _ rfl w2.heap.size rfl _ y HG2.out rfl HY.out rfl ?_; intro w4 h4; obtain ⟨hb4, hg4⟩ := HST.out w4 h4.out; have HB24 := xH hb4; have HG4 := xH hg4; clear h4 hb4 hg4)
     have HB4 := xH (qi HB2.out HB24.out);have HN4 := xH (qV HB24.out HNY.out);generalize w2.heap.size = B at *;clear HNY HB2 HB24 HG2 HST;have HO4 := xH (ownH_below HO.out HB4.out);have HB5 := xH (HB.out.trans (HB4.out.mono HB.out.size));have HOX4 := xH (HOXX.out w4 HB4.out);have H1 := xH (qp HN4.out);have HLN := xH (show g.len + (F.one y j).len ≤ 200000 by rw [HG.out]; simp only [F.one, F.len]; omega);obtain ⟨Z, hZ⟩ : ∃ Z, w4.heap.size = Z := ⟨_, rfl⟩;have HZZ := xH hZ;have HKD := xH (show ∀ w17, w17 = w4.alloc (.cells (ndC y).toArray 27) → jr (sees (hx (hN h (w.heap.size + 1)) u7) w17) (.slice (some ⟨Z, 0, none⟩) 1 1) (F.one y j) from fun w17 h17 => by subst h17;have := row1_kids HN4.out HOX4.out;rw [hZ] at this;exact this)
     have HNX := xH (show F.app (strip (F.app g (F.one y j))) (refF rs b (strip (k.drop (i + 1))) (if m < t.2 then t.2 else m)).1 = Q.1 ∧ (refF rs b (strip (k.drop (i + 1))) (if m < t.2 then t.2 else m)).2 = Q.2 from by rw [← HR.out, HD.out, refF_cons, hfr, HT.out, ← drop_succ HD.out, jH, HT4.out];exact ⟨app_assoc _ _ _, rfl⟩)
     obtain ⟨m2, hm2⟩ : ∃ m2 : Int, (if m < t.2 then t.2 else m) = m2 := ⟨_, rfl⟩;rw [hm2] at HNX;have hm3 : b ≤ m2 ∧ m2 + (k.drop (i + 1)).size ≤ 100000 := by rw [← hm2]; split <;> omega
     clear hZ HCall HOXX HX HE HKV HO HB HB4 HOX4 HN4 d0 d11 hfr HT HT4 HR HD hds;go_upto_region 14 with (first
      | (refine ql rfl _ rfl B rfl y HG4.out ?_)
      | (refine jc rfl _ rfl y rfl Z HZZ.out ?_; intro w17 h17; have HO17 := xH (ownH_below HO4.out (h17.out ▸ qg w4 _)); have HK17 := xH (HKD.out w17 h17.out); have HB17 := xH (HB5.out.trans ((show Below w4.heap.size w4 w17 from h17.out ▸ qg w4 _).mono HB5.out.size)); have HS17 := xH (show w1.heap.size ≤ w17.heap.size from HB17.out.size); clear h17)
      | (at_builtin; refine wpList_append_h rfl _ _ rfl (hN h (w.heap.size + 1)) w1.heap.size u7 g rfl HO17.out HF1.out.o _ (F.one y j) rfl HK17.out HLN.out HS17.out ?_; intro v18 w18 h18 hb18; have HO18 := xH h18; have HB18 := xH (HB17.out.trans hb18); clear h18 hb18))
     have hi1 : i + 1 ≤ k.len := by omega
     by_cases hgt : m < t.2
     ·rw [if_pos hgt] at hm2;exact z57
     ·rw [if_neg hgt] at hm2;exact z57
   ·have HE := xH (show k.drop i = .nil from drop_end (by omega));have hd : decide (i < k.len) = false := by simpa using hlt
    have HQ2 := xH (show strip g = Q.1 ∧ m = Q.2 from by have := HR.out;rw [HE.out] at this;rw [← this];show strip g = F.app (strip g) .nil ∧ m = m;rw [app_nil];exact ⟨rfl, rfl⟩)
    have HF2 := xH (HF1.out.below HB.out);have z11 : wr.frozen? ⟨w.heap.size, 11, none⟩ = false := by unfold World.frozen?; rw [HF2.out.n]; rfl
    obtain ⟨qa, qc, rfl⟩ : ∃ a c, u7 = .slice a g.len c := zJ HO.out.1;have HF3 := xH (HF2.out.fld (k := g) 11 (.slice qa g.len qc) { L with kv := .slice qa g.len qc } rfl HF2.out.t.1 rfl rfl (ownH_kids HO.out HF1.out.o));clear hlt HF2 d0;go_upto_region 17 with (fail)
    generalize wr.setCell _ _ = w3 at *;have H1 := xH (qp HF3.out.t);go_wp2_with (first
     | (refine ql rfl _ rfl w.heap.size rfl ({ L with kv := .slice qa g.len qc }) HF3.out.n ?_)
     | (refine qh rfl rfl _ _ rfl (w.heap.size + 1) rfl _ ({ L with kv := .slice qa g.len qc }) HF3.out.r rfl H1.out rfl ?_))
    refine xB (qZ rfl _ _ (w.heap.size + 1) ({ L with kv := .slice qa g.len qc }) rfl (setRow_heap _ _ _ _ _ _ HF3.out.r)) rfl ?_;exact HF3.out.fin (by rw [HR1.out]; show F.one _ (strip g) = _; rw [HQ2.out.1]; rfl) (by rw [HR1.out]; exact HQ2.out.2)
end gqw
end
section
namespace gqw
open sq
open Go.Sort Go Go.RowKit Go.Maps setp setw tkp trp trw rpp rsp gpp sq
open rpw (sees jB qU own_below qp jH qh ql jc)
open rsw (Old hx hx_old OwnH ownH_nil ownH_below ownH_kids ownH_base wpList_append_h row1_kids qV zY sees_to)
theorem num_any (k : F) : NumC k := by
 have key : ∀ (n : Nat) (k : F), k.size < n → NumC k := by
  intro n
  induction n with
  | zero => exact fun k h => absurd h (Nat.not_lt_zero _)
  | succ n ih => exact fun k h => num_of fun k' h' => ih k' (by omega)
 exact key (k.size + 1) k (Nat.lt_succ_self _)
def topL : F → List Lab
 | .nil => []
 | .cons x _ r => x :: topL r
theorem topL_app : ∀ f g : F, topL (F.app f g) = topL f ++ topL g
 | .nil, _ => rfl
 | .cons x k r, g => by rw [F.app, topL, topL_app r g]; rfl
theorem topL_len : ∀ f : F, (topL f).length = f.len
 | .nil => rfl
 | .cons x k r => by rw [topL, dB, topL_len r, F.len]
theorem capL_len : ∀ f : F, (capL f).length ≤ f.size
 | .nil => xL _
 | .cons x k r => by
  have a := capL_len k;have b := capL_len r;have c : (if x.kind = 14 then [x] else []).length ≤ 1 := by split <;> simp
  rw [capL, List.length_append, List.length_append, F.size];omega
def CapB (h : Nat → Bool) (C : List Lab) (w : World) (e : Ending) (w' : World) : Prop := Below w.heap.size w w' ∧ ∃ v f, e = .returned v ∧ OwnH h w.heap.size w' v f ∧ topL (strip f) = C
def capN (x : Lab) (k : F) : List Lab := (if x.kind = 14 then [bare x] else []) ++ capL (strip k)
def CapC (k : F) : Prop := ∀ (x : Lab) (w : World) (h : Nat → Bool), Old h w.heap.size → NdAt (sees h w) (x, k) → k.size ≤ 100000 → Calls Try.prog 38 #[ndV x] w (CapB h (capN x k) w)
theorem capL_cons (x : Lab) (k r : F) : capL (strip (.cons x k r)) = capN x k ++ capL (strip r) := by rw [strip, capL];rfl
theorem cap_of {k : F} (hN' : ∀ k' : F, k'.size < k.size → CapC k') : CapC k := by
 intro x w h hold hnd hl;have HN := xH hN';have HOLD := xH hold;obtain ⟨C, hC⟩ : ∃ C, capN x k = C := ⟨_, rfl⟩;rw [hC];have HCC := xH hC;have HCL := xH (show C.length ≤ 100001 by
  have := capL_len (strip k);rw [rsp.strip_size] at this;have c : (if x.kind = 14 then [bare x] else []).length ≤ 1 := by split <;> simp
  rw [← hC];unfold capN;rw [List.length_append];omega)
 obtain ⟨ka, kq, hkv⟩ := kids_len hnd.2.2;have hkl : k.len ≤ 100000 := by have := rsp.len_size k; omega
 have HKV := xH hkv;have HP := xH (heap_alloc_new w (.cells (ndC x).toArray 27));have HB := xH (qg w (.cells (ndC x).toArray 27));have HND := xH (qV (qg w (.cells (ndC x).toArray 27)) hnd);have HY := xH (qp hnd);have HZ := xH (World.size_alloc w (.cells (ndC x).toArray 27));clear hold hnd hC hN' hkv;unfold ndC at HP HB HND HZ;unfold ndV;go_enter Try.func38, Try.ntmps38;go_upto_region 2 with (fail)
 generalize w.alloc _ = w1 at *;have HP : Hid (w1.heap[w.heap.size]? = some (.cells (ndC x).toArray 27 (0, 0))) := HP;have HO1 := xH (show Old h w1.heap.size from HOLD.out.le HB.out.size);have c0 := yC 0 (.int .i64 x.kind) HP;have c11 : w1.cell? ⟨w.heap.size, 11, none⟩ = some (.slice ka k.len kq) := by unfold World.cell?; rw [HP.out]; show some x.kv = _; rw [HKV.out]
 have HKK := xH (show jr (sees h w1) (.slice ka k.len kq) k from HKV.out ▸ HND.out.2.2);go_upto_if 7 with (fail)
 go_cut [3] (fun v3 wx => ∃ f : F, Hid (OwnH h w1.heap.size wx v3 f) ∧ Hid (topL (strip f) ++ capL (strip k) = C) ∧ Hid (Below w1.heap.size w1 wx))
 case first =>
  by_cases h14 : x.kind = 14
  ·have b14 : (x.kind == 14) = true := by simp [h14]
   have HR := xH (show topL (strip (F.app .nil (F.one x k))) ++ capL (strip k) = C from by rw [← HCC.out]; unfold capN; rw [if_pos h14]; rfl);have HK1 := xH (row1_kids (h := hx h nil3) (qY (zY (Below.refl _ _) (xL _) (fun g e => by cases e)) HND.out) (hx_old HO1.out (xL _) (ownH_nil h w1.heap.size w1).1 (xL _)));obtain ⟨Z, hZ⟩ : ∃ Z, w1.heap.size = Z := ⟨_, rfl⟩;have HZZ := xH hZ;have HKD := xH (show ∀ w17, w17 = w1.alloc (.cells (ndC x).toArray 27) → jr (sees (hx h nil3) w17) (.slice (some ⟨Z, 0, none⟩) 1 1) (F.one x k) from fun w17 h17 => by subst h17;have := HK1.out;rw [hZ] at this;exact this)
   clear h14 hZ HK1;go_upto_region 4 with (first
    | (refine ql rfl _ rfl w.heap.size rfl x HP.out ?_)
    | (refine jc rfl _ rfl x rfl Z HZZ.out ?_; intro w17 h17; have HK17 := xH (HKD.out w17 h17.out); have HB17 := xH (show Below w1.heap.size w1 w17 from h17.out ▸ qg w1 _); clear h17)
    | (at_builtin; refine wpList_append_h rfl _ _ rfl h w1.heap.size nil3 .nil rfl (ownH_nil _ _ _) HO1.out _ (F.one x k) rfl HK17.out (by simp [F.len, F.one]) HB17.out.size ?_; intro v18 w18 h18 hb18; have HO18 := xH h18; have HB18 := xH (HB17.out.trans hb18); clear h18 hb18))
   go_meet
   exact ⟨_, HO18, HR, HB18⟩
  ·have b14 : (x.kind == 14) = false := by simp [h14]
   have HR := xH (show topL (strip F.nil) ++ capL (strip k) = C from by rw [← HCC.out]; unfold capN; rw [if_neg h14]; rfl);clear h14;go_wp2_with fail
   go_meet
   exact ⟨.nil, xH (ownH_nil _ _ _), HR, xH (Below.refl _ _)⟩
 case rest =>
  obtain ⟨f0, HO0, HR0, HB0⟩ := hcut;generalize wc = w2 at *;clear c0 HP HND HY;go_wp2_with fail
  go_loopw [3, 4] (fun v3 v4 wr => ∃ (i : Nat) (f : F), v4 = .int .i64 i ∧ i ≤ k.len ∧ Hid (OwnH h w1.heap.size wr v3 f) ∧ Hid (topL (strip f) ++ capL (strip (k.drop i)) = C) ∧ Hid (Below w1.heap.size w1 wr)) (fun _ v4 _ => k.len - (intOf v4).toNat)
  case atStart => exact ⟨0, f0, rfl, Nat.zero_le _, HO0, by rw [drop_zero]; exact HR0, HB0⟩
  case round =>
   obtain ⟨i, f, rfl, hi, HO, HR, HBB⟩ := hrel;have d11 := trw.qf HBB.out c11;by_cases hlt : i < k.len
   ·obtain ⟨x', kk, r, hd⟩ := drop_lt hlt;obtain ⟨b1, o, q, hv, _, _, _, hf⟩ := kid_at HKK.out hd;cases hv;have HE := xH (fun j v hj => trw.qf HBB.out (sees_to (hf.1 j v hj)));have HX := xH (qY (zY HBB.out (xL _) (fun q hq => (own_below HO.out.1 hq).1)) (fAt_head hf));have HOX := xH (hx_old (v := u3) (m := wr.heap.size) HO1.out HBB.out.size HO.out.1 (xL _));have HCall := xH (HN.out kk (size_lt hd) x' wr _ HOX.out HX.out (by have := size_lt hd; omega));have HD2 := xH (show capL (strip (k.drop i)) = capN x' kk ++ capL (strip (k.drop (i + 1))) from by rw [hd, drop_succ hd, capL_cons]);have a1 := add_row b1 o i 12;clear hd hf;have i1 : (i : Int) < (k.len : Int) := by omega
    go_wp2_with (first
     | (refine jv rfl _ rfl b1 (o + i * 12) rfl x' HE.out ?_)
     | (refine HCall.out.mono ?_))
    rintro e w5 ⟨hb, v5, f5, rfl, ho5, ht5⟩;have HK5 := xH (ownH_kids ho5 HOX.out);have HOA := xH (ownH_below HO.out hb);have HB5 := xH (HBB.out.trans (hb.mono HBB.out.size));have HEN := xH (show topL (strip (F.app f f5)) ++ capL (strip (k.drop (i + 1))) = C by rw [jH, topL_app, ht5, ← HR.out, HD2.out, List.append_assoc]);have HLN := xH (show f.len + f5.len ≤ 200000 by have h1 := HCL.out;rw [← HEN.out] at h1;have h2 := topL_len (strip (F.app f f5));rw [rpw.jm, rsp.jd] at h2;simp only [List.length_append] at h1;omega)
    clear hb ho5 ht5 HE HX HCall HO HR HD2;go_wp2_with (at_builtin; refine wpList_append_h rfl _ _ rfl h w1.heap.size _ f rfl HOA.out HO1.out v5 f5 rfl HK5.out HLN.out HB5.out.size ?_)
    intro va wa hoa hba;have HOn := xH hoa;have HBn := xH (HB5.out.trans hba);clear hoa hba;go_wp2_with fail
    go_roundw
    case rel => exact ⟨i + 1, _, by go_num, by omega, HOn, HEN, HBn⟩
    case measure => simp [intOf]; omega
   ·have HRR := xH (show topL (strip f) = C from by have := HR.out;rw [show k.drop i = .nil from drop_end (by omega)] at this;rw [← this];exact (List.append_nil _).symm)
    have hd : decide (i < k.len) = false := by simpa using hlt
    clear hlt;go_wp2_with fail
    go_ret
    exact ⟨qi HB.out HBB.out, _, f, rfl, ownH_base HO.out HB.out.size, HRR.out⟩
theorem cap_any (k : F) : CapC k := by
 have key : ∀ (n : Nat) (k : F), k.size < n → CapC k := by
  intro n
  induction n with
  | zero => exact fun k h => absurd h (Nat.not_lt_zero _)
  | succ n ih => exact fun k h => cap_of fun k' h' => ih k' (by omega)
 exact key (k.size + 1) k (Nat.lt_succ_self _)
end gqw
end
section
namespace gpw
open sq
open Go.Sort Go Go.RowKit Go.Maps setp setw tkp trp trw rpp gpp sq prw
open rpw (fC jP FSub jQ jd own_below qp vW)
open prp (lookP)
def nmC (l : List (ByteArray × Int)) : List Value := l.flatMap fun q => [.string q.1, .int .i64 q.2]
theorem nmC_snoc (l : List (ByteArray × Int)) (q : ByteArray × Int) : nmC (l ++ [q]) = nmC l ++ [.string q.1, .int .i64 q.2] := by unfold nmC;simp
structure Chg (H b lo hi : Nat) (w w' : World) : Prop where
 os : w'.os = w.os
 tape : w'.tape = w.tape
 output : w'.output = w.output
 size : w.heap.size ≤ w'.heap.size
 block : ∀ j, j < H → j ≠ b → (j < lo ∨ hi ≤ j) → w'.heap[j]? = w.heap[j]?
theorem Chg.refl (H b lo hi : Nat) (w : World) : Chg H b lo hi w w := ⟨rfl, rfl, rfl, xL _, fun _ _ _ _ => rfl⟩
theorem Chg.trans {H b lo hi : Nat} {x y z : World} (h : Chg H b lo hi x y) (k : Chg H b lo hi y z) : Chg H b lo hi x z :=
 ⟨k.os.trans h.os, k.tape.trans h.tape, k.output.trans h.output, Nat.le_trans h.size k.size, fun j h1 h2 h3 => (k.block j h1 h2 h3).trans (h.block j h1 h2 h3)⟩
theorem Chg.of_below {H b lo hi : Nat} {w w' : World} (h : Below w.heap.size w w') (hH : H ≤ w.heap.size) : Chg H b lo hi w w' := ⟨h.os, h.tape, h.output, h.size, fun j hj _ _ => h.block j (by omega)⟩
theorem Chg.cell {H b lo hi : Nat} (w : World) (c o : Nat) (u : Value) (h : c = b ∨ H ≤ c) : Chg H b lo hi w (w.setCell ⟨c, o, none⟩ u) :=
 ⟨rfl, rfl, rfl, by simp [World.setCell], fun j h1 h2 _ => heap_setCell_other w _ j u (by show j ≠ c; rcases h with h | h <;> omega)⟩
theorem Chg.of_low {H b lo hi : Nat} {w w' : World} (h : Below H w w') : Chg H b lo hi w w' := ⟨h.os, h.tape, h.output, h.size, fun j hj _ _ => h.block j hj⟩
theorem row_slice {w : World} {H n : Nat} {v : Value} {e : TypeId} {k : Nat} {xs : List Value} (h : w.ownsRow H e k v n xs) : ∃ a c, v = .slice a n c := by
 rcases h.2 with ⟨h1, h2⟩ | ⟨g, cap, cur, h1, _⟩
 ·subst h2; exact ⟨_, _, h1⟩
 ·exact ⟨_, _, h1⟩
theorem infoNm : (Try.prog.info? 67).map (fun i => (i.zero, i.size, i.bytes)) = some (some (.agg #[.string ⟨#[]⟩, .int .i64 0]), 2, 24) := by kernel_rfl
theorem held_app_nm {o : Oper} {a : Act} {w W : World} {K : Act → World → Prop} {Q : Exit → Act → World → Prop} {ys : Nat → Option Bool} (hgd : o.guard = none) (s x : Operand)
 (ho : o.op = .call { callee := .builtin .append, args := #[s, x], argTypes := #[30, 30] }) {H : Nat} {v : Value} {l : List (ByteArray × Int)} (hs : a.eval s = v) (hown : w.ownsRow H 67 2 v l.length (nmC l))
 {q : ByteArray × Int} {B : Nat} (hx : a.eval x = .slice (some ⟨B, 0, none⟩) 1 1) (hB : B = w.heap.size) (hW : W = w.alloc (.cells #[.string q.1, .int .i64 q.2] 67)) (hl : l.length ≤ 2000000) (hH : H ≤ w.heap.size)
 (h : ∀ v' w', w'.ownsRow H 67 2 v' (l ++ [q]).length (nmC (l ++ [q])) → (∀ j, j < w.heap.size → v.ownBlock ≠ some j → w'.heap[j]? = w.heap[j]?) → Below H w w' → K (a.put o.dst v') w') :
 if Region.wanted o ys = true then Oper.wp Try.prog o a W K Q else K (a.put o.dst undef) W := by
 rw [if_pos (by unfold Region.wanted; rw [hgd])];subst hB;subst hW;obtain ⟨i0, hi, hz0, hz1, hz2⟩ := info_parts infoNm;have hz := World.size_alloc w (.cells #[.string q.1, .int .i64 q.2] 67);obtain ⟨v', w', hr, h2, h3, _, h5⟩ := run_append_own_at (P := Try.prog) (w.alloc (.cells #[.string q.1, .int .i64 q.2] 67)) H 30 o.type 67 i0 _ 2 24 Try.underlying30 hi hz0 hz1 hz2 rfl (by decide) v l.length (nmC l) (World.ownsRow.alloc hown _) ⟨w.heap.size, 0, none⟩ 1 1 [.string q.1, .int .i64 q.2] rfl
  (fun j u hj => by
   rw [trw.add_plain, Nat.zero_add];unfold World.cell?;rw [heap_alloc_new];simpa using hj) (fun u hu => by simp only [List.mem_cons, dM, or_false] at hu;rcases hu with rfl | rfl <;> rfl) (by unfold maxLen; omega) (by omega) (by omega)
 unfold Oper.wp execOp;simp only [ho, resolve, invoke, builtin, Sem.run_bind, Sem.run_pure, Result.andThen_ok, List.map_toArray, List.map_cons, List.map_nil, hs, hx, hr];have hk := h v' w' (by rw [nmC_snoc, List.length_append]; exact h2) (fun j hj hne => (h3.block j (by omega) (fun e => hne e.symm)).trans (heap_alloc_old _ _ hj))
  (((trw.qg w _).mono hH).trans (Below.grown (Below.refl H _) h3 (by omega) (fun k hk => (own_below hown hk).1)))
 simpa [Oper.upon] using hk
end gpw
end
section
namespace gpw
open sq
open Go.Sort Go Go.RowKit Go.Maps setp setw tkp trp trw rpp gpp sq prw
open rpw (fC jP FSub jQ jd own_below qp vW qh qA)
def CpOk : F → Prop
 | .nil => True
 | .cons x k r => x.set.length ≤ 1000000 ∧ k.len ≤ 100000 ∧ CpOk k ∧ CpOk r
end gpw
end
section
namespace gpw
open sq
open Go.Sort Go Go.RowKit Go.Maps setp setw tkp trp trw rpp gpp sq prw
open rpw (fC jP FSub jQ jd own_below qp vW)
theorem name_e {s : ByteArray} (h : ¬ s.size = 0) : s.toList.isEmpty = false := tkw.not_empty (by omega)
theorem name_y {s : ByteArray} (h : s.size = 0) : s.toList.isEmpty = true := by
 obtain ⟨⟨l⟩⟩ := s;cases l with
 | nil => rw [show (⟨⟨[]⟩⟩ : ByteArray).toList = [] from Lib.toList_data _]; rfl
 | cons a l => cases h
end gpw
end
section
namespace gpw
open sq
open Go.Sort Go Go.RowKit Go.Maps setp setw tkp trp trw rpp gpp sq prw
open rpw (fC jP FSub jQ jd own_below qp vW qh qA run_store_nd)
theorem own_base {w : World} {b b2 : Nat} {e : TypeId} {z n : Nat} {v : Value} {xs : List Value} (h : w.ownsRow b e z v n xs) (hb : b2 ≤ b) : w.ownsRow b2 e z v n xs := by
 refine ⟨h.1, ?_⟩;rcases h.2 with h2 | ⟨g, cap, cur, hv, hg, r⟩
 ·exact Or.inl h2
 ·exact Or.inr ⟨g, cap, cur, hv, Nat.le_trans hb hg, r⟩
theorem results_num {fn : Func} {p q r s t : Tmp} (h : fn.results = #[.cell p 27, .tmp q, .tmp r, .tmp s, .tmp t]) (tmps : Array Value) (w : World) (g : Nat) (l : Lab) (hp : tmps.getD p undef = .pointer (some ⟨g, 0, none⟩)) (hg : w.heap[g]? = some (.cells (ndC l).toArray 27 (0, 0))) :
 (results fn tmps).run Try.prog w = .ok (.tuple #[ndV l, tmps.getD q undef, tmps.getD r undef, tmps.getD s undef, tmps.getD t undef]) w := by
 have hp' : tmps[p]?.getD undef = .pointer (some ⟨g, 0, none⟩) := by simpa using hp
 exact z133
end gpw
end
section
namespace gqw
open sq
open Go.Sort Go Go.RowKit Go.Maps setp setw tkp trp trw rpp rsp gpp sq
open rpw (sees jB qU own_below qp)
open rsw (Old hN sees_to)
open gpw (nmC nmC_snoc infoNm name_e name_y row_slice)
theorem name_n9 {a b : ByteArray} (h : ¬ a = b) : (a.toList == b.toList) = false := by simp only [beq_eq_false_iff_ne];intro e;rw [Lib.toList_data, Lib.toList_data] at e;obtain ⟨⟨a⟩⟩ := a;obtain ⟨⟨b⟩⟩ := b;simp only at e;exact h (by rw [e])
def NmI9 (w : World) (v : Value) (l : List (ByteArray × Int)) : Prop := ∃ a cap, v = .slice a l.length cap ∧ l.length ≤ 2000000 ∧ (l = [] ∨ ∃ g, a = some ⟨g, 0, none⟩ ∧ ∀ i q, l[i]? = some q → w.cell? ⟨g, i * 2, none⟩ = some (.string q.1) ∧ w.cell? ⟨g, i * 2 + 1, none⟩ = some (.int .i64 q.2))
theorem nmC_at9 : ∀ (l : List (ByteArray × Int)) (i : Nat) (q : ByteArray × Int), l[i]? = some q → (nmC l)[i * 2]? = some (.string q.1) ∧ (nmC l)[i * 2 + 1]? = some (.int .i64 q.2)
 | [], i, q, h => by simp at h
 | p :: l, 0, q, h => by simp only [List.getElem?_cons_zero, dG] at h;subst h;exact ⟨rfl, rfl⟩
 | p :: l, i + 1, q, h => by have := nmC_at9 l i q (by simpa using h);have e : nmC (p :: l) = .string p.1 :: .int .i64 p.2 :: nmC l := rfl;rw [e, show (i + 1) * 2 = i * 2 + 1 + 1 by omega];simpa using this
theorem nm_i9 {w : World} {b : Nat} {v : Value} {l : List (ByteArray × Int)} (h : w.ownsRow b 67 2 v l.length (nmC l)) (hz : l = [] → v = .slice none 0 0) (hl : l.length ≤ 2000000) : NmI9 w v l := by
 rcases h.2 with ⟨h1, h2⟩ | ⟨g, cap, cur, h1, _⟩
 ·have : l = [] := List.length_eq_zero_iff.1 h2;subst this;exact ⟨none, 0, h1, by simp, Or.inl rfl⟩
 ·subst h1;refine ⟨_, cap, rfl, hl, Or.inr ⟨g, rfl, fun i q hq => ?_⟩⟩;have hi := (List.getElem?_eq_some_iff.1 hq).1;have := nmC_at9 l i q hq;exact ⟨by rw [World.ownsRow.cellAt h (i * 2) (by omega)]; exact this.1, by rw [World.ownsRow.cellAt h (i * 2 + 1) (by omega)]; exact this.2⟩
theorem nm_blw9 {w w' : World} {v : Value} {l : List (ByteArray × Int)} (h : NmI9 w v l) (hb : Below w.heap.size w w') : NmI9 w' v l := by
 obtain ⟨a, c, h1, h2, h3 | ⟨g, h3, h4⟩⟩ := h
 ·exact ⟨a, c, h1, h2, Or.inl h3⟩
 ·exact ⟨a, c, h1, h2, Or.inr ⟨g, h3, fun i q hq => ⟨trw.qf hb (h4 i q hq).1, trw.qf hb (h4 i q hq).2⟩⟩⟩
def othL9 (l : Nm) (x : Lab) : Bool := l.any fun q => decide (q.1 = x.name) && decide (q.2 ≠ x.n)
def inL9 (l : Nm) (x : Lab) : Bool := l.any fun q => decide (q.1 = x.name)
theorem take_any (f : ByteArray × Int → Bool) {l : Nm} {m : Nat} {q : ByteArray × Int} (h : l[m]? = some q) : (l.take (m + 1)).any f = ((l.take m).any f || f q) := by rw [List.take_add_one, h, List.any_append];simp
theorem othL9_of {l : Nm} {x : Lab} {m : Nat} {q : ByteArray × Int} (h : l[m]? = some q) (h1 : q.1 = x.name) (h2 : q.2 ≠ x.n) : othL9 l x = true := by unfold othL9;rw [List.any_eq_true];exact ⟨q, List.mem_of_getElem? h, by simp [h1, h2]⟩
theorem addR_60 {x : Lab} {l : Nm} (h : 60 < x.n) : addR x l = (12, l) := by unfold addR; rw [if_pos h]
theorem addR_no {x : Lab} {l : Nm} (h : ¬ 60 < x.n) (h2 : x.name.size = 0) : addR x l = (0, l) := by unfold addR; rw [if_neg h, if_pos h2]
theorem addR_33 {x : Lab} {l : Nm} (h : ¬ 60 < x.n) (h2 : ¬ x.name.size = 0) (h3 : othL9 l x = true) : addR x l = (33, l) := by unfold addR; rw [if_neg h, if_neg h2, if_pos (show (l.any fun q => decide (q.1 = x.name) && decide (q.2 ≠ x.n)) = true from h3)]
theorem addR_in {x : Lab} {l : Nm} (h : ¬ 60 < x.n) (h2 : ¬ x.name.size = 0) (h3 : othL9 l x = false) (h4 : inL9 l x = true) : addR x l = (0, l) := by unfold addR;rw [if_neg h, if_neg h2, if_neg (by show ¬ othL9 l x = true; rw [h3]; decide), if_pos (show (l.any fun q => decide (q.1 = x.name)) = true from h4)]
theorem addR_new {x : Lab} {l : Nm} (h : ¬ 60 < x.n) (h2 : ¬ x.name.size = 0) (h3 : othL9 l x = false) (h4 : inL9 l x = false) : addR x l = (0, l ++ [(x.name, x.n)]) := by unfold addR;rw [if_neg h, if_neg h2, if_neg (by show ¬ othL9 l x = true; rw [h3]; decide), if_neg (by show ¬ inL9 l x = true; rw [h4]; decide)]
theorem nameR_err {x : Lab} {l : Nm} {c : List Lab} {e : Int} {l' : Nm} (h : addR x l = (e, l')) (he : e ≠ 0) : nameR l (x :: c) = ((e, x.at_), l) := by rw [nameR, h, if_pos he]
theorem nameR_go {x : Lab} {l : Nm} {c : List Lab} {l' : Nm} (h : addR x l = (0, l')) : nameR l (x :: c) = nameR l' c := by rw [nameR, h, if_neg (show ¬ (0 : Int) ≠ 0 by decide)]
theorem topL_at : ∀ {f : F} {i : Nat} {x : Lab} {k r : F}, f.drop i = .cons x k r → (topL (strip f)).drop i = bare x :: (topL (strip f)).drop (i + 1)
 | .nil, i, x, k, r, h => by cases i <;> cases h
 | .cons a b c, 0, x, k, r, h => by cases h;rfl
 | .cons a b c, i + 1, x, k, r, h => by have := topL_at (f := c) (i := i) h;exact this
def RNumB (h : Nat → Bool) (T : F × Int) (C : (Int × Int) × Nm) (w : World) (e : Ending) (w' : World) : Prop :=
 Below w.heap.size w w' ∧ ((C.1.1 ≠ 0 ∧ e = .returned (.tuple #[ndV (lab 0 0), .int .i64 0, nil3, .int .i64 C.1.1, .int .i64 C.1.2])) ∨
  (C.1.1 = 0 ∧ ∃ y j v, e = .returned (.tuple #[ndV y, .int .i64 T.2, v, .int .i64 0, .int .i64 0]) ∧ NdAt (sees h w') (y, j) ∧ strip (F.one y j) = T.1 ∧ w'.ownsRow w.heap.size 67 2 v C.2.length (nmC C.2) ∧ (C.2 = [] → v = nil3)))
def NmRel (F0 : F) (C : (Int × Int) × Nm) (w0 : World) (vn vi : Value) (wr : World) : Prop :=
 ∃ (i : Nat) (l : Nm), vi = .int .i64 i ∧ i ≤ F0.len ∧ l.length ≤ i ∧ Hid (wr.ownsRow w0.heap.size 67 2 vn l.length (nmC l)) ∧ Hid (l = [] → vn = nil3) ∧ Hid (Below w0.heap.size w0 wr) ∧ Hid (nameR l ((topL (strip F0)).drop i) = C)
def InRel (x : Lab) (l : Nm) (w0 : World) (vt vm : Value) (wr : World) : Prop :=
 ∃ m : Nat, vm = .int .i64 m ∧ m ≤ l.length ∧ vt = .bool (inL9 (l.take m) x) ∧ Hid (othL9 (l.take m) x = false) ∧ Hid (Below w0.heap.size w0 wr)
end gqw
end
section
namespace gqw
open sq
open Go.Sort Go Go.RowKit Go.Maps setp setw tkp trp trw rpp rsp gpp sq
open rpw (sees jB qU own_below qp qh ql qI)
open rsw (Old OwnH hN sees_to ownH_kids nd_unN qV)
open gpw (nmC nmC_snoc infoNm name_e name_y row_slice results_num held_app_nm)
theorem rnumber_any (h : Nat → Bool) (x : Lab) (k : F) (w : World) (hold : Old h w.heap.size) (hnd : NdAt (sees h w) (x, k)) (hsz : k.size < 100000) : Calls Try.prog 15 #[ndV x] w (RNumB h (refN x k 0) (nameR [] (capL (refN x k 0).1)) w) := by
 have HF0 := xH (rf_start hold hnd);obtain ⟨T, hT⟩ : ∃ T, refN x k 0 = T := ⟨_, rfl⟩;rw [hT];have HNum := xH (fun w0 (h : Nat → Bool) (ho : Old h w0.heap.size) (hn : NdAt (sees h w0) (x, k)) => hT ▸ num_any k x 0 w0 h ho hn (Int.le_refl _) (by omega));have HTS := xH (show T.1.size ≤ 100001 from by
  have : ∀ (f : F) (rs : Bool) (a b : Int), (refF rs a f b).1.size = f.size := by
   intro f
   induction f with
   | nil => intros; rfl
   | cons x k r ih1 ih2 => intro rs a b; rw [refF]; simp only [F.size]; rw [ih1, ih2]
  rw [← hT];unfold refN;simp only [F.one, F.size];rw [this, rsp.strip_size];omega)
 obtain ⟨C, hC⟩ : ∃ C, nameR [] (capL T.1) = C := ⟨_, rfl⟩;rw [hC];have HC := xH hC;clear hold hnd hT hC hsz;unfold ndC zC at HF0;go_enter Try.func15, Try.ntmps15;unfold ndV;go_upto_region 1 with (fail)
 generalize (w.alloc _).alloc _ = w0 at *;have HN0 := xH (HNum.out w0 _ HF0.out.o HF0.out.t);have HG0 : Hid (w0.heap[w.heap.size]? = some (.cells (ndC x).toArray 27 (0, 0))) := xH HF0.out.n;go_wp2_with (first
  | (refine ql rfl _ rfl w.heap.size rfl x HG0.out ?_)
  | (refine HN0.out.mono ?_))
 rintro e w2 ⟨hb2, y, j, rfl, hn2, hst2⟩;have HT2 := xH hst2;have HF2 := xH (HF0.out.below hb2);have HY := xH (qp hn2);have HG2 := xH (heap_alloc_new w2 (.cells zC.toArray 27));have HST := xH (show ∀ w4, w4 = (w2.alloc (.cells zC.toArray 27)).setRow w2.heap.size (ndC y).toArray → Below w2.heap.size w2 w4 ∧ w4.heap[w2.heap.size]? = some (.cells (ndC y).toArray 27 (0, 0)) from fun w4 h4 => by subst h4;exact ⟨rpw.jU w2 _ _ _, setRow_heap _ _ _ _ _ _ (heap_alloc_new w2 _)⟩)
 have HNY := xH hn2;have HJ := xH (show j.size ≤ 100000 by have h1 := HTS.out;rw [← hst2, rsp.strip_size] at h1;simp only [F.one, F.size] at h1;omega)
 have HCP := xH (show capL T.1 = capN y j from by rw [← hst2];show capL (strip (.cons y j .nil)) = _;rw [capL_cons];exact List.append_nil _)
 unfold zC at HG2 HST;clear hb2 hn2 hst2 HF0 HG0 HN0 HNum;dsimp only;go_upto_region 2 with (refine wpList_store_ny rfl rfl _ _ rfl w2.heap.size rfl _ y HG2.out rfl HY.out rfl ?_; intro w4 h4; obtain ⟨hb4, hg4⟩ := HST.out w4 h4.out; have HB24 := xH hb4; have HG4 := xH hg4; clear h4 hb4 hg4)
 have HF4 := xH (HF2.out.below HB24.out);have HN4 := xH (qV HB24.out HNY.out);have HBL := xH (show w.heap.size + 2 ≤ w2.heap.size from HF2.out.s);generalize w2.heap.size = B at *;clear HNY HB24 HG2 HST HF2;have HCap := xH (cap_any j y w4 _ HF4.out.o HN4.out HJ.out);go_wp2_with (first
  | (refine ql rfl _ rfl B rfl y HG4.out ?_)
  | (refine HCap.out.mono ?_))
 rintro e w5 ⟨hb5, v5, f, rfl, ho5, ht5⟩;have HF5 := xH (HF4.out.below hb5);have HG5 := xH ((hb5.block B (by have := (Array.getElem?_eq_some_iff.1 HG4.out).1; exact this)).trans HG4.out);have HN5 := xH (qV hb5 HN4.out);have HKF := xH (ownH_kids ho5 HF4.out.o);have HFL := xH (show f.len ≤ 100001 by have h1 := topL_len (strip f);rw [rpw.jm] at h1;have h2 := capL_len T.1;rw [HCP.out, ← ht5, h1] at h2;have := HTS.out;omega)
 have HCC := xH (show nameR [] ((topL (strip f)).drop 0) = C from by rw [List.drop_zero, ht5, ← HCP.out]; exact HC.out);obtain ⟨fa, fq, rfl⟩ := kids_len HKF.out;clear hb5 ho5 ht5 HF4 HG4 HN4 HCap HC HCP;dsimp only;go_wp2_with fail
 go_loopw [10, 11] (fun vn vi wr => NmRel f C w5 vn vi wr) (fun _ vi _ => f.len - (intOf vi).toNat)
 case atStart => exact ⟨0, [], rfl, Nat.zero_le _, xL _, xH (World.ownsRow_nil _ _ _ _), xH (fun _ => rfl), xH (Below.refl _ _), HCC⟩
 case round =>
  obtain ⟨i, l, rfl, hi, hli, HO, HZ, HB, HR⟩ := hrel;obtain ⟨na, nc, hnv⟩ := row_slice HO.out;by_cases hlt : i < f.len
  ·obtain ⟨y', kk, r, hd⟩ := drop_lt hlt;obtain ⟨b1, o, q, hv, _, _, _, hf⟩ := kid_at HKF.out hd;cases hv;have HE := xH (fun j v hj => trw.qf HB.out (sees_to (hf.1 j v hj)));have HB1 := xH (show b1 ≠ w.heap.size + 1 from fun e => by have := (jB.1 (hf.1 1 _ rfl)).1;simp [hN, e] at this)
   have HB1L := xH (show b1 < w5.heap.size from cell_lt (sees_to (hf.1 1 _ rfl)));have HTL := xH (topL_at hd);have e1 : wr.cell? ⟨b1, o + i * 12 + 1, none⟩ = some (.int .i64 y'.at_) := HE.out 1 _ rfl;have e5 : wr.cell? ⟨b1, o + i * 12 + 5, none⟩ = some (.int .i64 y'.n) := HE.out 5 _ rfl;have e8 : wr.cell? ⟨b1, o + i * 12 + 8, none⟩ = some (.string y'.name) := HE.out 8 _ rfl;have a1 := add_row b1 o i 12;have i1 : (i : Int) < (f.len : Int) := by omega
   clear hd hf;by_cases h60 : 60 < y'.n
   ·have b60 : decide (y'.n > 60) = true := decide_eq_true h60;have HRR := xH (show C = ((12, y'.at_), l) from by rw [← HR.out, HTL.out];exact nameR_err (e := 12) (l' := l) (addR_60 (x := bare y') h60) (by decide))
    have HS2 := xH (show wr.heap[w.heap.size + 1]? = some (.cells #[.int .i64 0, .int .i64 0, .int .i64 0, .slice none 0 0, .bool false, .int .i64 0, .int .i64 0, .int .i64 0, .string ⟨#[]⟩, .int .i64 0, .int .i64 0, .slice none 0 0] 27 (0, 0)) from (HB.out.block _ (by have := HF5.out.s; omega)).trans HF5.out.r);go_upto_region 8 with (fail)
    refine wp_region_held_drew (S := fun w' => w'.heap[b1]? = wr.heap[b1]?) (by kernel_rfl) rfl (fun hHeld => ?_);refine yT 0 ?_;simp only [xS];refine yT 1 ?_;simp only [xS];refine yT 2 ?_;simp only [xS];refine yT 3 ?_;simp only [xS];refine yT 4 ?_;simp only [xS];refine yF 5 (fun w' hS => (World.cell?_of_block (a := ⟨b1, o + i * 12 + 1, none⟩) hS).trans e1) ?_;simp only [xS];refine xD 6 rfl (fun K hK => ?_);refine qI rfl rfl _ _ rfl (w.heap.size + 1) rfl _ (lab 0 0) HS2.out rfl (qp (t := (lab 0 0, F.nil)) (rpw.zero_at w)) rfl ?_;have HSR := xH (show (wr.drew.setRow (w.heap.size + 1) (ndC (lab 0 0)).toArray).heap[b1]? = wr.heap[b1]? from tkw.setRow_other _ _ _ _ (by have := HB1.out; omega));refine hK.out _ _ HSR.out (fun hHeld => ?_);clear hK K;try simp only [xS]
    refine yT 7 ?_;simp only [xS];refine yT 8 ?_;simp only [xS];refine yT 9 ?_;simp only [xS];refine yT 10 ?_;simp only [xS];refine wpAnyH_done (by kernel_rfl) ?_ _;go_wp2_with fail
    refine xB (results_num rfl _ _ (w.heap.size + 1) (lab 0 0) rfl (setRow_heap _ _ _ _ _ _ HS2.out)) rfl ?_;exact ⟨rpw.qC (qi HF5.out.b (HB.out.trans (Below.refl _ _).drew)) _ (by omega), .inl ⟨by rw [HRR.out]; show (12 : Int) ≠ 0; decide, by rw [HRR.out]; rfl⟩⟩
   have HZO := xH (show y'.n ≤ 60 by omega);by_cases hnm : y'.name.size = 0
   ·have b8 := name_y hnm;have HRN := xH (show nameR l ((topL (strip f)).drop (i + 1)) = C from by rw [← HR.out, HTL.out, nameR_go (addR_no (x := bare y') h60 hnm)]);clear hnm;go_wp2_with fail
    go_roundw
    case rel => exact ⟨i + 1, l, by go_num, by omega, by omega, HO, HZ, HB, HRN⟩
    case measure => simp [intOf]; omega
   have HNM := xH hnm;have b8 := name_e hnm;subst hnv;have HNI := xH (nm_i9 HO.out HZ.out (by have := HFL.out; omega));clear hnm;have hl5 : (l.length : Int) ≤ 9223372036854775807 := by omega
   go_wp2_with fail
   go_loopw [12, 13] (fun vt vm wx => InRel (bare y') l wr vt vm wx) (fun _ vm _ => l.length - (intOf vm).toNat)
   case atStart => exact ⟨0, rfl, Nat.zero_le _, by rw [List.take_zero]; rfl, xH (by rw [List.take_zero]; rfl), xH (Below.refl _ _)⟩
   case round =>
    obtain ⟨m, rfl, hm, rfl, HOt, HBi⟩ := hrel;have r1 := trw.qf HBi.out e1;have r5 := trw.qf HBi.out e5;have r8 := trw.qf HBi.out e8;by_cases hlm : m < l.length
    ·obtain ⟨p, hp⟩ : ∃ p, l[m]? = some p := ⟨_, List.getElem?_eq_getElem hlm⟩;obtain ⟨na', nc', hs', _, hcs⟩ := HNI.out;cases hs';obtain ⟨gb, rfl, hcz⟩ := hcs.resolve_left (fun e => by rw [e] at hlm; exact absurd hlm (Nat.not_lt_zero _));have HP := xH (hcz m p hp);have HPM := xH hp;have n0 := trw.qf HBi.out HP.out.1;have n1 := trw.qf HBi.out HP.out.2;have hmi : m < 9223372036854775807 := by omega
     have m1 : (m : Int) < (l.length : Int) := by omega
     clear hp hcs hcz;obtain ⟨bad, hbad⟩ : ∃ bad : Bool, (decide (p.1 = y'.name) && decide (p.2 ≠ y'.n)) = bad := ⟨_, rfl⟩;have HBAD := xH hbad;go_upto_region 14 with (fail)
     go_cut [74] from 45 to 94 (fun v74 wx => v74 = .bool bad ∧ Hid (Below wr.heap.size wr wx))
     case first =>
      by_cases heq : p.1 = y'.name
      ·have beq : (p.1.toList == y'.name.toList) = true := by rw [heq]; exact beq_self_eq_true _
       have hb2 : (p.2 != y'.n) = bad := by rw [← hbad];simp [heq];rfl
       clear heq hbad
       go_quiet (fail)
       rename_i nq;go_wp2_with fail
       go_meet
       exact ⟨by first | rfl | rw [hb2], xH (tkw.zI (Below.refl _ _) nq)⟩
      ·have beq := name_n9 heq;have hb2 : bad = false := by rw [← hbad]; simp [heq]
       subst hb2;clear heq hbad
       go_quiet (fail)
       rename_i nq;go_wp2_with fail
       go_meet
       exact ⟨rfl, xH (tkw.zI (Below.refl _ _) nq)⟩
     case rest =>
      obtain ⟨rfl, HBx⟩ := hcut;generalize wc = w6 at *;have HB6 := xH (HB.out.trans ((HBi.out.trans (HBx.out.mono HBi.out.size)).mono HB.out.size));have HBi6 := xH (HBi.out.trans (HBx.out.mono HBi.out.size));have x1 := trw.qf HBi6.out e1;have x8 := trw.qf HBi6.out e8;have k0 := trw.qf HBi6.out HP.out.1;clear r1 r5 r8 n0 n1 hbad;cases bad with
      | true =>
       have HOO := xH (show p.1 = y'.name ∧ p.2 ≠ y'.n from by simpa using HBAD.out);have HRR := xH (show C = ((33, y'.at_), l) from by rw [← HR.out, HTL.out];exact nameR_err (e := 33) (l' := l) (addR_33 (x := bare y') (show ¬ 60 < y'.n by have := HZO.out; omega) HNM.out (othL9_of HPM.out HOO.out.1 HOO.out.2)) (by decide))
       have HS2 := xH (show w6.heap[w.heap.size + 1]? = some (.cells #[.int .i64 0, .int .i64 0, .int .i64 0, .slice none 0 0, .bool false, .int .i64 0, .int .i64 0, .int .i64 0, .string ⟨#[]⟩, .int .i64 0, .int .i64 0, .slice none 0 0] 27 (0, 0)) from (HB6.out.block _ (by have := HF5.out.s; omega)).trans HF5.out.r);go_upto_region 15 with (fail)
       refine wp_region_held_drew (S := fun w' => w'.heap[b1]? = w6.heap[b1]?) (by kernel_rfl) rfl (fun hHeld => ?_);refine yT 0 ?_;simp only [xS];refine yT 1 ?_;simp only [xS];refine yT 2 ?_;simp only [xS];refine yT 3 ?_;simp only [xS];refine yT 4 ?_;simp only [xS];refine yF 5 (fun w' hS => (World.cell?_of_block (a := ⟨b1, o + i * 12 + 1, none⟩) hS).trans x1) ?_;simp only [xS];refine xD 6 rfl (fun K hK => ?_);refine qI rfl rfl _ _ rfl (w.heap.size + 1) rfl _ (lab 0 0) HS2.out rfl (qp (t := (lab 0 0, F.nil)) (rpw.zero_at w)) rfl ?_;have HSR := xH (show (w6.drew.setRow (w.heap.size + 1) (ndC (lab 0 0)).toArray).heap[b1]? = w6.heap[b1]? from tkw.setRow_other _ _ _ _ (by have := HB1.out; omega));refine hK.out _ _ HSR.out (fun hHeld => ?_);clear hK K;try simp only [xS]
       refine yT 7 ?_;simp only [xS];refine yT 8 ?_;simp only [xS];refine yT 9 ?_;simp only [xS];refine yT 10 ?_;simp only [xS];refine wpAnyH_done (by kernel_rfl) ?_ _;go_wp2_with fail
       refine xB (results_num rfl _ _ (w.heap.size + 1) (lab 0 0) rfl (setRow_heap _ _ _ _ _ _ HS2.out)) rfl ?_;exact ⟨rpw.qC (qi HF5.out.b (HB6.out.trans (Below.refl _ _).drew)) _ (by omega), .inl ⟨by rw [HRR.out]; show (33 : Int) ≠ 0; decide, by rw [HRR.out]; rfl⟩⟩
      | false =>
       have HO2 := xH (show othL9 (l.take (m + 1)) (bare y') = false from by unfold othL9;rw [take_any _ HPM.out, dE];exact ⟨HOt.out, HBAD.out⟩)
       obtain ⟨c, hc⟩ : ∃ c : Bool, inL9 (l.take m) (bare y') = c := ⟨_, rfl⟩;rw [hc];obtain ⟨c2, hc2⟩ : ∃ c2 : Bool, (c || decide (p.1 = y'.name)) = c2 := ⟨_, rfl⟩;have HC2 := xH (show inL9 (l.take (m + 1)) (bare y') = c2 from by unfold inL9 at hc ⊢;rw [take_any _ HPM.out, hc, ← hc2];rfl)
       clear hc;cases c with
       | true =>
        have hc3 : c2 = true := by rw [← hc2]; rfl
        subst hc3;clear hc2;exact z156
       | false =>
        by_cases heq : p.1 = y'.name
        ·have beq : (p.1.toList == y'.name.toList) = true := by rw [heq]; exact beq_self_eq_true _
         have hc3 : c2 = true := by rw [← hc2]; simp [heq]
         exact z47
        ·have beq := name_n9 heq;have hc3 : c2 = false := by rw [← hc2]; simp [heq]
         exact z47
    ·have hml : m = l.length := by omega
     subst hml;have HOl := xH (show othL9 l (bare y') = false from by have := HOt.out; rw [List.take_length] at this; exact this);obtain ⟨c, hc⟩ : ∃ c : Bool, inL9 (l.take l.length) (bare y') = c := ⟨_, rfl⟩;rw [hc];rw [List.take_length] at hc;have HBn := xH (HB.out.trans (HBi.out.mono HB.out.size));have HOn := xH (tkw.jJ HO.out fun q hq => HBi.out.block q (own_below HO.out hq).2);have hd : decide (l.length < l.length) = false := by simp
     clear hlm;cases c with
     | true =>
      have HRN := xH (show nameR l ((topL (strip f)).drop (i + 1)) = C from by rw [← HR.out, HTL.out, nameR_go (addR_in (x := bare y') (show ¬ 60 < y'.n by have := HZO.out; omega) HNM.out HOl.out hc)]);clear hc;go_wp2_with fail
      go_roundw
      case rel => exact ⟨i + 1, l, by go_num, by omega, by omega, HOn, HZ, HBn, HRN⟩
      case measure => simp [intOf]; omega
     | false =>
      have HRN := xH (show nameR (l ++ [(y'.name, y'.n)]) ((topL (strip f)).drop (i + 1)) = C from by rw [← HR.out, HTL.out, nameR_go (addR_new (x := bare y') (show ¬ 60 < y'.n by have := HZO.out; omega) HNM.out HOl.out hc)]; rfl);clear hc;go_upto_region 18 with (fail)
      refine wp_region_held_drew (S := fun w' => w'.heap[b1]? = wr.heap[b1]?) (by kernel_rfl) rfl (fun hHeld => ?_);refine yT 0 ?_;simp only [xS];refine yT 1 ?_;simp only [xS];refine yT 2 ?_;simp only [xS];refine yT 3 ?_;simp only [xS];refine yT 4 ?_;simp only [xS];refine yF 5 (fun w' hS => (World.cell?_of_block (a := ⟨b1, o + i * 12 + 8, none⟩) hS).trans r8) ?_;simp only [xS];refine yT 6 ?_;simp only [xS];refine yT 7 ?_;simp only [xS];refine yT 8 ?_;simp only [xS];refine yT 9 ?_;simp only [xS];refine yF 10 (fun w' hS => (World.cell?_of_block (a := ⟨b1, o + i * 12 + 5, none⟩) hS).trans r5) ?_;simp only [xS];refine yT 11 ?_;simp only [xS];have HDD := xH (show Below w5.heap.size w5 wr.drew from HBn.out.trans ((Below.refl wr.heap.size wr).drew.mono HBn.out.size));have HOd := xH (show wr.drew.ownsRow w5.heap.size 67 2 (.slice na l.length nc) l.length (nmC l) from tkw.jJ HOn.out fun _ _ => rfl);refine xD 12 rfl (fun K hK => ?_);go_simp;have HX := xH (show (wr.drew.alloc (.cells #[.string y'.name, .int .i64 y'.n] 67)).heap[b1]? = wr.heap[b1]? from (heap_alloc_old _ _ (by have := HB1L.out; have := HDD.out.size; omega)).trans rfl);refine hK.out _ _ HX.out (fun hHeld => ?_);clear hK K;try simp only [xS]
      refine xD 13 rfl (fun K hK => ?_);refine held_app_nm rfl _ _ rfl (q := (y'.name, y'.n)) rfl HOd.out rfl rfl rfl (by have := HFL.out; omega) HDD.out.size ?_;intro v8 w8 h8 _ hb8;have HO8 := xH h8;have HB8 := xH (HDD.out.trans hb8);have HX8 := xH (show w8.heap[b1]? = wr.heap[b1]? from (hb8.block b1 HB1L.out).trans rfl);clear h8 hb8;refine hK.out _ _ HX8.out (fun hHeld => ?_);clear hK K;try simp only [xS]
      refine yT 14 ?_;simp only [xS];refine wpAnyH_done (by kernel_rfl) ?_ _;go_wp2_with fail
      go_roundw
      case rel => exact ⟨i + 1, l ++ [(y'.name, y'.n)], by go_num, by omega, by simp; omega, HO8, xH (fun e => by simp at e), HB8, HRN⟩
      case measure => simp [intOf]; omega
  ·have HE := xH (show nameR l [] = C from by rw [← HR.out, List.drop_eq_nil_of_le (by rw [topL_len, rpw.jm]; omega)])
   have hd : decide (i < f.len) = false := by simpa using hlt
   subst hnv;have HGY := xH ((HB.out.block B (Array.getElem?_eq_some_iff.1 HG5.out).1).trans HG5.out);have HFY := xH (HF5.out.below HB.out);have HNY := xH (qV HB.out HN5.out);have HOY := xH (gpw.own_base HO.out (show w.heap.size ≤ w5.heap.size by have := HF5.out.s; omega));clear hlt HG5 HN5;go_wp2_with (first
    | (refine ql rfl _ rfl B rfl y HGY.out ?_)
    | (refine qh rfl rfl _ _ rfl (w.heap.size + 1) rfl _ y HFY.out.r rfl HY.out rfl ?_))
   refine xB (results_num rfl _ _ (w.heap.size + 1) y rfl (setRow_heap _ _ _ _ _ _ HFY.out.r)) rfl ?_;refine ⟨rpw.qC HFY.out.b _ (by omega), .inr ⟨by rw [← HE.out]; rfl, y, j, _, rfl, nd_unN HNY.out, HT2.out, ?_, ?_⟩⟩
   ·rw [← HE.out];exact tkw.jJ HOY.out fun q hq => tkw.setRow_other _ _ _ _ (fun e => by have := (own_below HO.out hq).1; have := HF5.out.s; omega)
   ·rw [← HE.out];exact HZ.out
end gqw
end
end Go.Proofs.Ytdgfclbajjjcgaa
