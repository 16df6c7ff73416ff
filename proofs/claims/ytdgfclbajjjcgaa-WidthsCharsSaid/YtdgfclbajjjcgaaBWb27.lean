/- T -/
import Derived.Laws.ComplexArith
import Derived.Maps.OwnSet
import Derived.Test.YtdgfclbajjjcgaaBWb26
set_option maxHeartbeats 16000000
set_option maxRecDepth 1000000
namespace Go.Proofs.Ytdgfclbajjjcgaa
section
namespace wdw
open sq
open Go Go.RowKit trp trw rpp wdp wdf
open rpw (qp ql jU)
open gqw (wpList_store_ny)
open rsw (qZ)
theorem acc_drop {k : F} {i : Nat} {x : Lab} {j r : F} (hd : k.drop i = .cons x j r) : accF (k.drop i) = (accF (F.one x j) || accF (k.drop (i + 1))) := by rw [hd, drop_succ hd, acc_one];rfl
theorem acc_all : ∀ (z : Nat) (w : World) (x : Lab) (k : F) (hz : k.size < z) (hn : NdAt w (x, k)), Calls Try.prog 59 #[ndV x] w (BoolB (accF (F.one x k)) w) := by
 intro z;refine Nat.rec ?_ (fun z ih => ?_) z
 ·intro w x k hz;exact absurd hz (Nat.not_lt_zero _)
 intro w x k hz hn;have IH := xH (@ih);clear ih;have HN := xH hn;have HZ := xH hz;obtain ⟨ka, kq, hkv⟩ := kids_len hn.2.2;have hkl : k.len ≤ 9223372036854775807 := by obtain ⟨a, q, e, h1, h2, _⟩ := hn.2.2; exact Nat.le_trans h1 h2
 have HKV := xH hkv;have HP := xH (heap_alloc_new w (.cells (ndC x).toArray 27));have HB := xH (trw.qg w (.cells (ndC x).toArray 27));clear hn hz hkv;rw [acc_one];unfold ndC at HP HB;unfold ndV;go_enter Try.func59, Try.ntmps59;go_upto_region 1 with (fail)
 generalize w.alloc _ = w1 at *;have c0 := yC 0 (.int .i64 x.kind) HP;have c5 := yC 5 (.int .i64 x.n) HP;go_cut [12] (fun v12 wx => Hid (v12 = .bool (acc1 x)) ∧ Hid (wx = w1))
 case first =>
  by_cases h9 : x.kind = 9
  ·have b9 : (x.kind == 9) = true := by simp [h9]
   have HR := xH (show acc1 x = (x.n == 1) by unfold acc1; simp [h9]; rfl);clear h9;go_wp2_with fail
   go_meet
   exact ⟨by rw [HR.out]; exact xH rfl, xH rfl⟩
  ·have b9 : (x.kind == 9) = false := by simp [h9]
   have HR := xH (show acc1 x = false by unfold acc1; simp [h9]);clear h9;go_wp2_with fail
   go_meet
   exact ⟨by rw [HR.out]; exact xH rfl, xH rfl⟩
 case rest =>
  obtain ⟨hv, hw⟩ := hcut;obtain rfl := hw.out;have hv2 := hv.out;subst hv2;clear c0 c5 hw hv;cases hL : acc1 x;case true =>
   go_wp2_with fail
   go_ret
   exact ⟨rfl, HB.out⟩
  have HL := xH hL;clear hL;have c11 : wc.cell? ⟨w.heap.size, 11, none⟩ = some (.slice ka k.len kq) := by unfold World.cell?; rw [HP.out]; show some x.kv = _; rw [HKV.out]
  go_wp2_with fail
  clear c11
  go_loopw [16] (fun v16 wr => ∃ i : Nat, v16 = .int .i64 i ∧ i ≤ k.len ∧ Hid (accF k = accF (k.drop i)) ∧ Hid (Below wc.heap.size wc wr)) (fun v16 _ => k.len - (intOf v16).toNat)
  case atStart => exact ⟨0, rfl, Nat.zero_le _, xH (by rw [drop_zero]), xH (Below.refl _ _)⟩
  case round =>
   obtain ⟨i, rfl, hi, HE, HBB⟩ := hrel;by_cases hlt : i < k.len
   ·obtain ⟨x', kk, r, hd⟩ := drop_lt hlt;obtain ⟨b, o, q, hv, _, _, _, hf⟩ := kid_at HN.out.2.2 hd;rw [HKV.out] at hv;cases hv;have HWR := xH (trw.qi HB.out HBB.out);have HFH := xH (trw.vO HWR.out (trw.fAt_head hf));have HO := xH (qp HFH.out);have HCE := xH (show ∀ j u, (ndC x')[j]? = some u → wr.cell? ⟨b, o + i * 12 + j, none⟩ = some u from fun j u hj => trw.qf HWR.out (hf.1 j u hj));have HSZ := xH (show kk.size < z by have := size_lt hd; have := HZ.out; omega);have HD2 := xH (HE.out.trans (acc_drop hd));clear hd hf HE;have i1 : (i : Int) < (k.len : Int) := by omega
    have a1 := add_row b o i 12;go_wp2_with (first
     | (refine jv rfl _ rfl b (o + i * 12) rfl x' HCE.out ?_)
     | (refine wpList_store_nf rfl rfl _ _ rfl rfl x' HO.out rfl ?_; intro w8 HS8)
     | (refine ql rfl _ rfl wr.heap.size rfl x' HS8.out.2 ?_))
    refine (IH.out w8 x' kk HSZ.out (trw.vO HS8.out.1 HFH.out)).mono ?_;rintro e w9 ⟨rfl, hb⟩;have HB9 := xH (trw.qi HBB.out (trw.qi HS8.out.1 hb));clear hb;obtain ⟨Q, hQ⟩ : ∃ Q, accF (F.one x' kk) = Q := ⟨_, rfl⟩;rw [hQ];have HD3 := xH (show accF k = (Q || accF (k.drop (i + 1))) from by rw [← hQ]; exact HD2.out);clear hQ HD2;cases Q with
    | true =>
     have HR := xH (show accF k = true from HD3.out);go_wp2_with fail
     go_ret
     exact ⟨by rw [HL.out, HR.out]; rfl, trw.qi HB.out HB9.out⟩
    | false =>
     have HR := xH (show accF k = accF (k.drop (i + 1)) from HD3.out);go_wp2_with fail
     go_roundw
     case rel => exact ⟨i + 1, by go_num, by omega, HR, HB9⟩
     case measure => simp [intOf]; omega
   ·have hge : ¬ ((i : Int) < (k.len : Int)) := by omega
    have HR := xH (show accF k = false from by rw [HE.out, drop_end (by omega)]; rfl);clear hlt;go_wp2_with fail
    go_ret
    exact ⟨by rw [HL.out, HR.out]; rfl, trw.qi HB.out HBB.out⟩
theorem accepts_any (x : Lab) (k : F) (w : World) (hn : NdAt w (x, k)) : Calls Try.prog 59 #[ndV x] w (BoolB (accF (F.one x k)) w) := acc_all _ w x k (Nat.lt_succ_self _) hn
theorem isbe_any (x : Lab) (w : World) : Calls Try.prog 82 #[ndV x] w (BoolB (isBe x) w) := by
 have HB := xH (trw.qg w (.cells (ndC x).toArray 27));unfold ndC at HB;unfold ndV;by_cases h18 : x.kind = 18
 ·have b18 : (x.kind == 18) = true := by simp [h18]
  by_cases h7 : x.n = 7
  ·have b7 : (x.n == 7) = true := by simp [h7]
   have HR := xH (show isBe x = true by unfold isBe; simp [h18, h7]);clear h18 h7;exact z144
  ·have b7 : (x.n == 7) = false := by simp [h7]
   have HR := xH (show isBe x = (x.n == 8) by unfold isBe; simp [h18, h7]; rfl);clear h18 h7;exact z144
 ·have b18 : (x.kind == 18) = false := by simp [h18]
  have HR := xH (show isBe x = false by unfold isBe; simp [h18]);clear h18;exact z144
def FgB (r : Option Nd) (w : World) (e : Ending) (w' : World) : Prop := Below w.heap.size w w' ∧ match r with
 | none => e = .returned (.tuple #[ndV (lab 0 0), .bool false])
 | some t => e = .returned (.tuple #[ndV t.1, .bool true])
theorem first_at {w : World} {n : Int} : ∀ {f : F} {b o : Nat} {t : Nd}, FAt w b o f → firstG n f = some t → NdAt w t
 | .nil, _, _, _, _, h => by cases h
 | .cons x k r, b, o, t, hf, h => by
  unfold firstG at h;split at h
  ·cases h;exact trw.fAt_head hf
  ·cases hk : firstG n k with
   | some s =>
    rw [hk] at h;cases h;obtain ⟨a, cap, h3, h4, h5, h6⟩ := hf.2.2.1;rcases h6 with h6 | ⟨b', o', h6, h8⟩
    ·cases k with
     | nil => cases hk
     | cons _ _ _ => simp [F.len] at h6
    ·exact first_at h8 hk
   | none =>
    rw [hk] at h;exact first_at (f := r) hf.2.2.2 h
theorem first_at1 {w : World} {n : Int} {x : Lab} {k : F} {t : Nd} (hn : NdAt w (x, k)) (h : firstG n (F.one x k) = some t) : NdAt w t := by
 unfold F.one firstG at h;split at h
 ·cases h;exact hn
 ·cases hk : firstG n k with
  | some s =>
   rw [hk] at h;cases h;obtain ⟨a, cap, h3, h4, h5, h6⟩ := hn.2.2;rcases h6 with h6 | ⟨b', o', h6, h8⟩
   ·cases k with
    | nil => cases hk
    | cons _ _ _ => simp [F.len] at h6
   ·exact first_at h8 hk
  | none =>
   rw [hk] at h;cases h
theorem firstG_drop {n : Int} {k : F} {i : Nat} {x : Lab} {j r : F} (hd : k.drop i = .cons x j r) : firstG n (k.drop i) = (firstG n (F.one x j)).or (firstG n (k.drop (i + 1))) := by
 rw [hd, drop_succ hd];unfold F.one;rw [firstG, firstG, firstG];split
 ·rfl
 ·cases firstG n j <;> rfl
end wdw
end
section
namespace wdw
open sq
open Go Go.RowKit trp trw rpp wdp wdf
open rpw (qp ql jU zero_at)
open gqw (wpList_store_ny)
open rsw (qZ)
theorem firstG_one (n : Int) (x : Lab) (k : F) : firstG n (F.one x k) = if x.kind = 14 ∧ x.n = n then some (x, k) else firstG n k := by
 unfold F.one;rw [firstG];split
 ·rfl
 ·cases firstG n k <;> rfl
theorem fg_end {w w1 w' : World} {r : Option Nd} {y : Lab} {b : Bool} {C : Nat} (hb : Below w.heap.size w w1) (hC : w.heap.size ≤ C) (hr : match r with | none => y = lab 0 0 ∧ b = false | some t => y = t.1 ∧ b = true) (hw : w' = w1.setRow C (ndC y).toArray) :
 FgB r w (.returned (.tuple #[ndV y, .bool b])) w' := by
 subst hw;refine ⟨rpw.qC hb _ hC, ?_⟩;cases r with
 | none => obtain ⟨rfl, rfl⟩ := hr; rfl
 | some t => obtain ⟨rfl, rfl⟩ := hr; rfl
theorem first_all (n : Int) : ∀ (z : Nat) (w : World) (x : Lab) (k : F) (_hz : k.size < z) (_hn : NdAt w (x, k)), Calls Try.prog 128 #[ndV x, .int .i64 n] w (FgB (firstG n (F.one x k)) w) := by
 intro z;refine Nat.rec ?_ (fun z ih => ?_) z
 ·intro w x k hz;exact absurd hz (Nat.not_lt_zero _)
 intro w x k hz hn;have IH := xH (@ih);clear ih;have HN := xH hn;have HZ := xH hz;obtain ⟨ka, kq, hkv⟩ := kids_len hn.2.2;have hkl : k.len ≤ 9223372036854775807 := by obtain ⟨a, q, e, h1, h2, _⟩ := hn.2.2; exact Nat.le_trans h1 h2
 have HKV := xH hkv;have HOX := xH (qp hn);have HO0 := xH (qp (t := (lab 0 0, F.nil)) (zero_at w));have e1 := World.size_alloc w (.cells (ndC x).toArray 27);have HP := xH (show ((w.alloc (.cells (ndC x).toArray 27)).alloc (.cells zC.toArray 27)).heap[w.heap.size]? = some (.cells (ndC x).toArray 27 (0, 0)) from (heap_alloc_old _ _ (by rw [e1]; omega)).trans (heap_alloc_new _ _));have HC := xH (show ((w.alloc (.cells (ndC x).toArray 27)).alloc (.cells zC.toArray 27)).heap[w.heap.size + 1]? = some (.cells zC.toArray 27 (0, 0)) from e1 ▸ heap_alloc_new (w.alloc (.cells (ndC x).toArray 27)) (.cells zC.toArray 27));have HB := xH (trw.qi (trw.qg w (.cells (ndC x).toArray 27)) (trw.qg _ (.cells zC.toArray 27)));have HS := xH (show ((w.alloc (.cells (ndC x).toArray 27)).alloc (.cells zC.toArray 27)).heap.size = w.heap.size + 2 by rw [World.size_alloc, e1]);clear hn hz hkv e1;obtain ⟨R, hR⟩ : ∃ R, firstG n (F.one x k) = R := ⟨_, rfl⟩;rw [hR];rw [firstG_one] at hR;have HRR := xH hR;clear hR;unfold ndC zC at HP HB HC HS;unfold ndV;go_enter Try.func128, Try.ntmps128;go_upto_region 1 with (fail)
 generalize (w.alloc _).alloc _ = w1 at *;have c0 := yC 0 (.int .i64 x.kind) HP;have c5 := yC 5 (.int .i64 x.n) HP;go_cut [18] (fun v18 wx => Hid (v18 = .bool (decide (x.kind = 14 ∧ x.n = n))) ∧ Hid (wx = w1))
 case first =>
  by_cases h14 : x.kind = 14
  ·have b14 : (x.kind == 14) = true := by simp [h14]
   have HR := xH (show decide (x.kind = 14 ∧ x.n = n) = (x.n == n) by simp [h14]; rfl);clear h14;go_wp2_with fail
   go_meet
   exact ⟨by rw [HR.out]; exact xH rfl, xH rfl⟩
  ·have b14 : (x.kind == 14) = false := by simp [h14]
   have HR := xH (show decide (x.kind = 14 ∧ x.n = n) = false by simp [h14]);clear h14;go_wp2_with fail
   go_meet
   exact ⟨by rw [HR.out]; exact xH rfl, xH rfl⟩
 case rest =>
  obtain ⟨hv, hw⟩ := hcut;obtain rfl := hw.out;have hv2 := hv.out;subst hv2;clear c0 c5 hw hv;by_cases hL : x.kind = 14 ∧ x.n = n
  ·have bL : decide (x.kind = 14 ∧ x.n = n) = true := decide_eq_true hL;have HL := xH hL;rw [bL];clear hL bL;go_wp2_with (first
    | (refine ql rfl _ rfl w.heap.size rfl x HP.out ?_)
    | (refine wpList_store_ny rfl rfl _ _ rfl (w.heap.size + 1) rfl _ x HC.out rfl HOX.out rfl ?_; intro w8 h8; have HS8 := xH (h8.out.symm ▸ setRow_heap _ _ _ (ndC x).toArray _ _ HC.out : w8.heap[w.heap.size + 1]? = _); have HE8 := xH h8.out; clear h8))
   refine xB (qZ rfl _ _ (w.heap.size + 1) x rfl HS8.out) rfl ?_;rw [show R = some (x, k) from by rw [← HRR.out, if_pos HL.out]];exact fg_end (r := some (x, k)) HB.out (Nat.le_succ _) ⟨rfl, rfl⟩ HE8.out
  have bL : decide (x.kind = 14 ∧ x.n = n) = false := decide_eq_false hL;have HRK := xH (show firstG n k = R by rw [← HRR.out, if_neg hL]);rw [bL];clear hL bL;have c11 : wc.cell? ⟨w.heap.size, 11, none⟩ = some (.slice ka k.len kq) := by unfold World.cell?; rw [HP.out]; show some x.kv = _; rw [HKV.out]
  go_wp2_with fail
  clear c11
  go_loopw [23] (fun v23 wr => ∃ i : Nat, v23 = .int .i64 i ∧ i ≤ k.len ∧ Hid (firstG n k = firstG n (k.drop i)) ∧ Hid (Below wc.heap.size wc wr)) (fun v23 _ => k.len - (intOf v23).toNat)
  case atStart => exact ⟨0, rfl, Nat.zero_le _, xH (by rw [drop_zero]), xH (Below.refl _ _)⟩
  case round =>
   obtain ⟨i, rfl, hi, HE, HBB⟩ := hrel;have HCR := xH ((HBB.out.block _ (by have := HS.out; omega)).trans HC.out);have HWR := xH (trw.qi HB.out HBB.out);by_cases hlt : i < k.len
   ·obtain ⟨x', kk, r, hd⟩ := drop_lt hlt;obtain ⟨b, o, q, hv, _, _, _, hf⟩ := kid_at HN.out.2.2 hd;rw [HKV.out] at hv;cases hv;have HFH := xH (trw.vO HWR.out (trw.fAt_head hf));have HO := xH (qp HFH.out);have HCE := xH (show ∀ j u, (ndC x')[j]? = some u → wr.cell? ⟨b, o + i * 12 + j, none⟩ = some u from fun j u hj => trw.qf HWR.out (hf.1 j u hj));have HSZ := xH (show kk.size < z by have := size_lt hd; have := HZ.out; omega);have HD2 := xH (HE.out.trans (firstG_drop hd));have HLT := xH (show w.heap.size + 1 < wr.heap.size by have := HS.out; have := HBB.out.size; omega);clear hd hf HE;have i1 : (i : Int) < (k.len : Int) := by omega
    have a1 := add_row b o i 12;go_wp2_with (first
     | (refine jv rfl _ rfl b (o + i * 12) rfl x' HCE.out ?_)
     | (refine wpList_store_nf rfl rfl _ _ rfl rfl x' HO.out rfl ?_; intro w8 HS8)
     | (refine ql rfl _ rfl wr.heap.size rfl x' HS8.out.2 ?_))
    refine (IH.out w8 x' kk HSZ.out (trw.vO HS8.out.1 HFH.out)).mono ?_;rintro e w9 ⟨hb, hq⟩;have HB9 := xH (trw.qi HBB.out (trw.qi HS8.out.1 hb));have HC9 := xH (((trw.qi HS8.out.1 hb).block _ HLT.out).trans HCR.out);have HFQ := xH (fun t (h : firstG n (F.one x' kk) = some t) => qp (first_at1 HFH.out h));clear hb;obtain ⟨Q, hQ⟩ : ∃ Q, firstG n (F.one x' kk) = Q := ⟨_, rfl⟩;rw [hQ] at hq HFQ;have HD3 := xH (show firstG n k = Q.or (firstG n (k.drop (i + 1))) from by rw [← hQ]; exact HD2.out);clear hQ HD2;cases Q with
    | some t =>
     have HR := xH (show firstG n k = some t from HD3.out);have HOT := xH (HFQ.out t rfl);obtain rfl := hq;have HLT9 := xH (show w.heap.size + 1 < w9.heap.size by have := HLT.out; have := HB9.out.size; have := HS.out; omega);go_wp2_with (first
      | (refine wpList_store_nf rfl rfl _ _ rfl rfl t.1 HOT.out rfl ?_; intro w10 HS10; have HC10 := xH ((HS10.out.1.block _ HLT9.out).trans HC9.out))
      | (refine ql rfl _ rfl w9.heap.size rfl t.1 HS10.out.2 ?_)
      | (refine wpList_store_ny rfl rfl _ _ rfl (w.heap.size + 1) rfl _ t.1 HC10.out rfl HOT.out rfl ?_; intro w11 h11; have HS11 := xH (h11.out.symm ▸ setRow_heap _ _ _ (ndC t.1).toArray _ _ HC10.out : w11.heap[w.heap.size + 1]? = _); have HE11 := xH h11.out; clear h11))
     refine xB (qZ rfl _ _ (w.heap.size + 1) t.1 rfl HS11.out) rfl ?_;rw [← HRK.out, HR.out];exact fg_end (r := some t) (trw.qi HB.out (trw.qi HB9.out HS10.out.1)) (Nat.le_succ _) ⟨rfl, rfl⟩ HE11.out
    | none =>
     have HR := xH (show firstG n k = firstG n (k.drop (i + 1)) from HD3.out);obtain rfl := hq;go_wp2_with (first
      | (refine wpList_store_nf rfl rfl _ _ rfl rfl (lab 0 0) HO0.out rfl ?_; intro w10 HS10))
     go_roundw
     case rel => exact ⟨i + 1, by go_num, by omega, HR, xH (trw.qi HB9.out HS10.out.1)⟩
     case measure => simp [intOf]; omega
   ·have hge : ¬ ((i : Int) < (k.len : Int)) := by omega
    have HR := xH (show firstG n k = none from by rw [HE.out, drop_end (by omega)]; rfl);clear hlt;go_wp2_with (refine wpList_store_ny rfl rfl _ _ rfl (w.heap.size + 1) rfl _ (lab 0 0) HCR.out rfl HO0.out rfl ?_; intro w8 h8; have HS8 := xH (h8.out.symm ▸ setRow_heap _ _ _ (ndC (lab 0 0)).toArray _ _ HCR.out : w8.heap[w.heap.size + 1]? = _); have HE8 := xH h8.out; clear h8)
    refine xB (qZ rfl _ _ (w.heap.size + 1) (lab 0 0) rfl HS8.out) rfl ?_;rw [← HRK.out, HR.out];exact fg_end (r := none) HWR.out (Nat.le_succ _) ⟨rfl, rfl⟩ HE8.out
theorem first_any (n : Int) (x : Lab) (k : F) (w : World) (hn : NdAt w (x, k)) : Calls Try.prog 128 #[ndV x, .int .i64 n] w (FgB (firstG n (F.one x k)) w) := first_all n _ w x k (Nat.lt_succ_self _) hn
end wdw
end
section
namespace wdw
open sq
open Go Go.RowKit trp trw rpp wdp wdf
open rpw (qp ql jU)
open gqw (wpList_store_ny)
structure Cx (I : World → Prop) (R : World → World → Prop) : Prop where
 bel : ∀ {w w' : World}, I w → Below w.heap.size w w' → R w w' ∧ I w'
 tr : ∀ {a b c : World}, R a b → R b c → R a c
 cel : ∀ {w w' : World}, I w → R w w' → ∀ a v, w.cell? a = some v → w'.cell? a = some v
def WX (I : World → Prop) (R : World → World → Prop) (r : Wd) (w : World) (e : Ending) (w' : World) : Prop := e = .returned (cW r) ∧ R w w' ∧ I w'
def NodeH (p : Value) (I : World → Prop) (R : World → World → Prop) (env : Int → Wd) (z : Nat) : Prop :=
 ∀ (w : World) (x : Lab) (k : F), k.size < z → I w → NdAt w (x, k) → FitC (F.one x k) → Calls Try.prog 61 #[p, ndV x] w (WX I R (oneW env x (wids env k)) w)
theorem fit_drop : ∀ {f : F} (i : Nat), FitC f → FitC (f.drop i)
 | .nil, i, h => by cases i <;> exact h
 | .cons _ _ r, 0, h => h
 | .cons _ _ r, i + 1, h => fit_drop (f := r) i h.2.2
theorem fit_at {f : F} {i : Nat} {x : Lab} {k r : F} (h : FitC f) (hd : f.drop i = .cons x k r) : FitC (F.one x k) := by have := fit_drop i h;rw [hd] at this;exact ⟨this.1, this.2.1, trivial⟩
theorem wids_at {env : Int → Wd} {f : F} {i : Nat} {x : Lab} {k r : F} (hd : f.drop i = .cons x k r) : wids env (f.drop i) = oneW env x (wids env k) :: wids env (f.drop (i + 1)) := by rw [hd, drop_succ hd, wids]
def sumG (l : List Wd) (t : Wd) : Wd := l.foldl (fun t w => bnd (t.1 + w.1, t.2 + w.2)) t
theorem sum_of {p : Value} {I : World → Prop} {R : World → World → Prop} {env : Int → Wd} {z : Nat} (X : Cx I R) (he : ∀ n, Bw (env n)) (H : NodeH p I R env z) (w : World) (v : Value) (f : F) (hz : f.size ≤ z) (hI : I w) (hk : jr w v f) (hf : FitC f) :
 Calls Try.prog 84 #[p, v] w (WX I R (sumW (wids env f)) w) := by
 obtain ⟨a, c, rfl, hc1, hc2, _⟩ := id hk;have HX := xH X;have HH := xH H;have HI := xH hI;have HK := xH hk;have HF := xH hf;have HZ := xH hz;have HEB := xH he;have HR0 := xH (X.bel hI (Below.refl _ _)).1;have hkl : f.len ≤ 9223372036854775807 := Nat.le_trans hc1 hc2;obtain ⟨S, hS⟩ : ∃ S, sumW (wids env f) = S := ⟨_, rfl⟩;rw [hS];have HS := xH hS;clear hS X H hI hk hf hz he hc1 hc2;go_enter Try.func84, Try.ntmps84;go_wp2_with fail
 go_loopw [5, 10] (fun v5 v10 wr => ∃ (i : Nat) (t : Wd), v5 = cW t ∧ v10 = .int .i64 i ∧ i ≤ f.len ∧ Hid (sumG (wids env (f.drop i)) t = S) ∧ Hid (Bw t) ∧ Hid (R w wr ∧ I wr)) (fun _ v10 _ => f.len - (intOf v10).toNat)
 case atStart => exact ⟨0, (0, 0), cW_zero.symm, rfl, Nat.zero_le _, xH (by rw [drop_zero]; exact HS.out), xH bw_zero, xH ⟨HR0.out, HI.out⟩⟩
 case round =>
  obtain ⟨i, t, rfl, rfl, hi, HA, HT, HRI⟩ := hrel;by_cases hlt : i < f.len
  ·obtain ⟨x', kk, r, hd⟩ := drop_lt hlt;obtain ⟨b, o, q, hv, _, _, _, hfa⟩ := kid_at HK.out hd;cases hv;have HCE := xH (show ∀ j u, (ndC x')[j]? = some u → wr.cell? ⟨b, o + i * 12 + j, none⟩ = some u from fun j u hj => HX.out.cel HI.out HRI.out.1 _ _ (hfa.1 j u hj));have HFH := xH (qY (HX.out.cel HI.out HRI.out.1) (trw.fAt_head hfa));have HO := xH (qp HFH.out);have HSZ := xH (show kk.size < z by have := size_lt hd; have := HZ.out; omega);have HFT := xH (fit_at HF.out hd);have HD := xH (show sumG (wids env (f.drop (i + 1))) (bnd (t.1 + (oneW env x' (wids env kk)).1, t.2 + (oneW env x' (wids env kk)).2)) = S from by have := HA.out;rw [wids_at hd] at this;exact this)
   have HBO := xH (bw_one HEB.out (bw_wids HEB.out kk) : Bw (oneW env x' (wids env kk)));have i1 : (i : Int) < (f.len : Int) := by omega
   have a1 := add_row b o i 12;have HC := xH (fun w8 (hb : Below wr.heap.size wr w8) => HH.out w8 x' kk HSZ.out (HX.out.bel HRI.out.2 hb).2 (trw.vO hb HFH.out) HFT.out);obtain ⟨u, hu⟩ : ∃ u, oneW env x' (wids env kk) = u := ⟨_, rfl⟩;rw [hu] at HD HBO HC;obtain ⟨ul, uh⟩ := u;obtain ⟨tl, th⟩ := t;have hb1 := HT.out;have hb2 := HBO.out;simp only [Bw] at hb1 hb2;have es : ∀ w, (binOp .add 78 (.complex .f64 (fl tl) (fl th)) (.complex .f64 (fl ul) (fl uh))).run Try.prog w = .ok (.complex .f64 (fl (tl + ul)) (fl (th + uh))) w := fun w => run_complex_sum w .add (.inl rfl) _ .f64 _ _ _ _ _ _ (by unfold cSumBits; rw [fl_add (by omega), fl_add (by omega)]; rfl)
   have HBN := xH (fun w => bounded_any (tl + ul, th + uh) (by show tl + ul < 2 ^ 53; omega) (by show th + uh < 2 ^ 53; omega) w);clear hd hfa hu hb1 hb2 HA;unfold cW at HBN;unfold cW;go_wp2_with (first
    | (refine jv rfl _ rfl b (o + i * 12) rfl x' HCE.out ?_)
    | (refine wpList_store_nf rfl rfl _ _ rfl rfl x' HO.out rfl ?_; intro w8 HS8)
    | (refine ql rfl _ rfl wr.heap.size rfl x' HS8.out.2 ?_))
   refine (HC.out w8 HS8.out.1).mono ?_;rintro e w9 ⟨rfl, hr, hi9⟩;have HR9 := xH (HX.out.tr HRI.out.1 (HX.out.tr (HX.out.bel HRI.out.2 HS8.out.1).1 hr));have HI9 := xH hi9;clear hr hi9;unfold cW;go_wp2_with fail
   refine (HBN.out w9).mono ?_;rintro e w10 ⟨rfl, hb10⟩;have HRI10 := xH (show R w w10 ∧ I w10 from ⟨HX.out.tr HR9.out (HX.out.bel HI9.out hb10).1, (HX.out.bel HI9.out hb10).2⟩);clear hb10;unfold cW;go_wp2_with fail
   go_roundw
   case rel => exact ⟨i + 1, _, rfl, by go_num, by omega, HD, xH (bw_bnd _), HRI10⟩
   case measure => simp [intOf]; omega
  ·have hge : ¬ ((i : Int) < (f.len : Int)) := by omega
   have HR := xH (show t = S from by have := HA.out; rw [drop_end (by omega)] at this; exact this);clear hlt;unfold cW;go_wp2_with fail
   go_ret
   exact ⟨by rw [← HR.out]; rfl, HRI.out⟩
theorem bw_lt {p : Wd} (h : Bw p) : p.1 < 2 ^ 53 ∧ p.2 < 2 ^ 53 := by obtain ⟨a, b⟩ := p;simp only [Bw] at h;show a < 2 ^ 53 ∧ b < 2 ^ 53;omega
def ChJ (l : List Wd) (S : Wd) (i : Nat) (a : Wd) : Prop := (i = 0 ∧ a = (0, 0) ∧ chW l = S) ∨ (0 < i ∧ chF l a = S)
theorem choice_of {p : Value} {I : World → Prop} {R : World → World → Prop} {env : Int → Wd} {z : Nat} (X : Cx I R) (he : ∀ n, Bw (env n)) (H : NodeH p I R env z) (w : World) (v : Value) (f : F) (hz : f.size ≤ z) (hI : I w) (hk : jr w v f) (hf : FitC f) :
 Calls Try.prog 85 #[p, v] w (WX I R (chW (wids env f)) w) := by
 obtain ⟨a, c, rfl, hc1, hc2, _⟩ := id hk;have HX := xH X;have HH := xH H;have HI := xH hI;have HK := xH hk;have HF := xH hf;have HZ := xH hz;have HEB := xH he;have HR0 := xH (X.bel hI (Below.refl _ _)).1;have hkl : f.len ≤ 9223372036854775807 := Nat.le_trans hc1 hc2;obtain ⟨S, hS⟩ : ∃ S, chW (wids env f) = S := ⟨_, rfl⟩;rw [hS];have HS := xH hS;clear hS X H hI hk hf hz he hc1 hc2;go_enter Try.func85, Try.ntmps85;go_wp2_with fail
 go_loopw [5, 11] (fun v5 v11 wr => ∃ (i : Nat) (t : Wd), v5 = cW t ∧ v11 = .int .i64 i ∧ i ≤ f.len ∧ Hid (ChJ (wids env (f.drop i)) S i t) ∧ Hid (Bw t) ∧ Hid (R w wr ∧ I wr)) (fun _ v11 _ => f.len - (intOf v11).toNat)
 case atStart => exact ⟨0, (0, 0), cW_zero.symm, rfl, Nat.zero_le _, xH (.inl ⟨rfl, rfl, by rw [drop_zero]; exact HS.out⟩), xH bw_zero, xH ⟨HR0.out, HI.out⟩⟩
 case round =>
  obtain ⟨i, t, rfl, rfl, hi, HA, HT, HRI⟩ := hrel;by_cases hlt : i < f.len
  ·obtain ⟨x', kk, r, hd⟩ := drop_lt hlt;obtain ⟨b, o, q, hv, _, _, _, hfa⟩ := kid_at HK.out hd;cases hv;have HCE := xH (show ∀ j u, (ndC x')[j]? = some u → wr.cell? ⟨b, o + i * 12 + j, none⟩ = some u from fun j u hj => HX.out.cel HI.out HRI.out.1 _ _ (hfa.1 j u hj));have HFH := xH (qY (HX.out.cel HI.out HRI.out.1) (trw.fAt_head hfa));have HO := xH (qp HFH.out);have HSZ := xH (show kk.size < z by have := size_lt hd; have := HZ.out; omega);have HFT := xH (fit_at HF.out hd);have HBO := xH (bw_one HEB.out (bw_wids HEB.out kk) : Bw (oneW env x' (wids env kk)));have i1 : (i : Int) < (f.len : Int) := by omega
   have a1 := add_row b o i 12;have HC := xH (fun w8 (hb : Below wr.heap.size wr w8) => HH.out w8 x' kk HSZ.out (HX.out.bel HRI.out.2 hb).2 (trw.vO hb HFH.out) HFT.out);have HA2 := xH (show ChJ (oneW env x' (wids env kk) :: wids env (f.drop (i + 1))) S i t from wids_at (env := env) hd ▸ HA.out);obtain ⟨u, hu⟩ : ∃ u, oneW env x' (wids env kk) = u := ⟨_, rfl⟩;rw [hu] at HBO HC HA2;have HOR := xH (fun w => or_any u t (bw_lt HBO.out).1 (bw_lt HBO.out).2 (bw_lt HT.out).1 (bw_lt HT.out).2 w);clear hd hfa hu HA;by_cases h0 : i = 0
   ·subst h0;have HD := xH (show ChJ (wids env (f.drop (0 + 1))) S (0 + 1) u from by
     rcases HA2.out with ⟨_, _, h⟩ | ⟨h, _⟩
     ·exact .inr ⟨by omega, h⟩
     ·omega)
    clear HA2 HOR;unfold cW;go_wp2_with (first
     | (refine jv rfl _ rfl b (o + 0 * 12) rfl x' HCE.out ?_)
     | (refine wpList_store_nf rfl rfl _ _ rfl rfl x' HO.out rfl ?_; intro w8 HS8)
     | (refine ql rfl _ rfl wr.heap.size rfl x' HS8.out.2 ?_))
    refine (HC.out w8 HS8.out.1).mono ?_;rintro e w9 ⟨rfl, hr, hi9⟩;have HRI9 := xH (show R w w9 ∧ I w9 from ⟨HX.out.tr HRI.out.1 (HX.out.tr (HX.out.bel HRI.out.2 HS8.out.1).1 hr), hi9⟩);clear hr hi9;unfold cW;go_wp2_with fail
    go_roundw
    case rel => exact ⟨0 + 1, u, rfl, by go_num, by omega, HD, HBO, HRI9⟩
    case measure => simp [intOf]; omega
   ·have HD := xH (show ChJ (wids env (f.drop (i + 1))) S (i + 1) (orW u t) from by
     rcases HA2.out with ⟨h, _⟩ | ⟨_, h⟩
     ·exact absurd h h0
     ·exact .inr ⟨by omega, h⟩)
    have h1 : (0 : Int) < (i : Int) := by omega
    clear HA2 h0;unfold cW at HOR;unfold cW;go_wp2_with (first
     | (refine jv rfl _ rfl b (o + i * 12) rfl x' HCE.out ?_)
     | (refine wpList_store_nf rfl rfl _ _ rfl rfl x' HO.out rfl ?_; intro w8 HS8)
     | (refine ql rfl _ rfl wr.heap.size rfl x' HS8.out.2 ?_))
    refine (HC.out w8 HS8.out.1).mono ?_;rintro e w9 ⟨rfl, hr, hi9⟩;have HR9 := xH (HX.out.tr HRI.out.1 (HX.out.tr (HX.out.bel HRI.out.2 HS8.out.1).1 hr));have HI9 := xH hi9;clear hr hi9;unfold cW;go_wp2_with fail
    refine (HOR.out w9).mono ?_;rintro e w10 ⟨rfl, hb10⟩;have HRI10 := xH (show R w w10 ∧ I w10 from ⟨HX.out.tr HR9.out (HX.out.bel HI9.out hb10).1, (HX.out.bel HI9.out hb10).2⟩);clear hb10;unfold cW;go_wp2_with fail
    go_roundw
    case rel => exact ⟨i + 1, _, rfl, by go_num, by omega, HD, xH (bw_or HBO.out HT.out), HRI10⟩
    case measure => simp [intOf]; omega
  ·have hge : ¬ ((i : Int) < (f.len : Int)) := by omega
   have HR := xH (show t = S from by
    have := HA.out;rw [drop_end (by omega)] at this;rcases this with ⟨_, h1, h2⟩ | ⟨_, h⟩
    ·rw [h1]; exact h2
    ·exact h)
   clear hlt;unfold cW;go_wp2_with fail
   go_ret
   exact ⟨by rw [← HR.out]; rfl, HRI.out⟩
end wdw
end
section
namespace wdw
open sq
open Go Go.RowKit trp trw rpp wdp wdf
theorem ulNd : Try.prog.underlying 25 = some (.slice (Try.prog.elem 25)) := by kernel_rfl
theorem sizeNd (w : World) : (sizeOf (Try.prog.elem 25)).run Try.prog w = .ok 12 w := by kernel_rfl
theorem kids_eq {w : World} {v u : Value} {f : F} (h : jr w v f) (e : v = u) : jr w u f := e ▸ h
theorem kids_tail {w : World} {v : Value} {f : F} (hk : jr w v f) :
 ∃ v', (∀ w1, (Instr.slice 25 v (some (.int .i64 (min 1 (f.len : Int)))) none none).run Try.prog w1 = .ok v' w1) ∧ jr w v' (f.drop 1) := by
 obtain ⟨a, cap, rfl, hc1, hc2, h⟩ := hk;have hl := drop_len f 1;by_cases h2 : 2 ≤ f.len
 ·obtain ⟨b, o, rfl, hf⟩ := h.resolve_left (by omega);refine ⟨.slice (some ⟨b, o + 12, none⟩) (f.len - 1) (cap - 1), fun w1 => ?_, some ⟨b, o + 12, none⟩, cap - 1, by rw [hl], by omega, by omega, .inr ⟨b, o + 12, rfl, ?_⟩⟩
  ·rw [show min 1 (f.len : Int) = 1 by omega, run_slice_l w1 25 _ f.len cap ulNd .i64 1 (by omega) (by omega), sizeNd];have e : (⟨b, o, none⟩ : Addr).add 12 = ⟨b, o + 12, none⟩ := by unfold Addr.add; split <;> simp_all
   simp [Result.andThen, sliced, e, show ¬ cap = 1 by omega]
  ·have := fAt_drop 1 hf;rwa [show o + 1 * 12 = o + 12 by omega] at this
 ·refine ⟨_, fun w1 => by rw [run_slice_l w1 25 _ f.len cap ulNd .i64 _ (by omega) (by omega), sizeNd]; rfl, ?_⟩;unfold sliced;refine ⟨_, cap - (min 1 (f.len : Int)).toNat, by rw [hl, show (min 1 (f.len : Int)).toNat = min 1 f.len by omega, show f.len - min 1 f.len = f.len - 1 by omega], by omega, by omega, .inl (by omega)⟩
theorem fit_tail {f : F} (h : FitC f) : FitC (f.drop 1) := fit_drop 1 h
theorem drop_size (f : F) (i : Nat) : (f.drop i).size ≤ f.size := by
 induction i generalizing f with
 | zero => cases f <;> exact xL _
 | succ i ih =>
  cases f with
  | nil => exact xL _
  | cons x k r =>
   have := ih r;simp only [F.drop, F.size];omega
theorem cond_of {p : Value} {I : World → Prop} {R : World → World → Prop} {env : Int → Wd} {z : Nat} (X : Cx I R) (he : ∀ n, Bw (env n)) (H : NodeH p I R env z) (w : World) (x : Lab) (k : F) (hz : k.size ≤ z) (hI : I w) (hn : NdAt w (x, k)) (hf : FitC (F.one x k)) (hk : x.kind = 19) :
 Calls Try.prog 86 #[p, ndV x] w (WX I R (condW x (wids env k)) w) := by
 have HX := xH X;have HB := X.bel hI (trw.qg w (.cells (ndC x).toArray 27));have HP := xH (heap_alloc_new w (.cells (ndC x).toArray 27));have HND := xH (trw.vO (trw.qg w (.cells (ndC x).toArray 27)) hn);obtain ⟨ka, kq, hkv⟩ := kids_len hn.2.2;have hkl : k.len ≤ 9223372036854775807 := by obtain ⟨a, q, e, h1, h2, _⟩ := hn.2.2; exact Nat.le_trans h1 h2
 have HKV := xH (show x.kv = .slice ka k.len kq from hkv);have HBW := xH (bw_wids he k);have HCH := xH (fun w1 v1 (f1 : F) (h1 : f1.size ≤ z) => choice_of X he H w1 v1 f1 h1);have HF := xH hf.2.1;have HZ := xH hz;have HRI := xH HB;clear hn hf hz X H HB hkv hI he hk;obtain ⟨Q, hQ⟩ : ∃ Q, condW x (wids env k) = Q := ⟨_, rfl⟩;rw [hQ];unfold condW at hQ;unfold ndC at HP HRI HND;unfold ndV;by_cases h12 : x.n = 12
 ·have b12 : (x.n == 12) = true := by simp [h12]
  have HQ := xH (show (0, 0) = Q by rw [if_pos h12] at hQ; exact hQ);clear h12 hQ HCH;go_enter Try.func86, Try.ntmps86;go_wp2_with fail
  go_ret
  exact ⟨by rw [← HQ.out, cW_zero]; rfl, HRI.out⟩
 have b12 : (x.n == 12) = false := by simp [h12]
 rw [if_neg h12] at hQ;by_cases h13 : x.n = 13
 ·have b13 : (x.n == 13) = true := by simp [h13]
  unfold brW at hQ;rw [if_pos h13, wids_drop] at hQ;unfold condB at hQ;rw [wids_len, drop_len] at hQ;have hbw := bw_ch (fun u hu => HBW.out u (by rw [← wids_drop] at hu; exact List.mem_of_mem_drop hu) : ∀ u ∈ wids env (k.drop 1), Bw u);obtain ⟨v', hs, hkd⟩ := kids_tail HND.out.2.2;rw [show (x, k).1.kv = x.kv from rfl, HKV.out] at hs;have HKD := xH hkd;obtain ⟨va, vc, rfl, _⟩ := id hkd;have hdl := drop_len k 1;have HC := xH (HCH.out _ _ (k.drop 1) (Nat.le_trans (drop_size k 1) HZ.out) HRI.out.2 HKD.out (fit_tail HF.out));obtain ⟨u, hu⟩ : ∃ u, chW (wids env (k.drop 1)) = u := ⟨_, rfl⟩;rw [hu] at HC hbw hQ;have HO := xH (fun w => or_any u (0, 0) (bw_lt hbw).1 (bw_lt hbw).2 (by decide) (by decide) w);rw [hdl] at HC hs;have HQ := xH hQ;clear h12 h13 hQ hkd hu hbw HCH hdl;rw [cW_zero] at HO;go_enter Try.func86, Try.ntmps86;go_upto_region 1 with (fail)
  generalize w.alloc _ = w1 at *;have c5 := yC 5 (.int .i64 x.n) HP;have c11 : w1.cell? ⟨w.heap.size, 11, none⟩ = some (.slice ka k.len kq) := by unfold World.cell?; rw [HP.out]; show some x.kv = _; rw [HKV.out]
  go_wp2_with fail
  refine HC.out.mono ?_;rintro e w2 ⟨rfl, hr, hi2⟩;have HRI2 := xH (show R w w2 ∧ I w2 from ⟨HX.out.tr HRI.out.1 hr, hi2⟩);clear hr hi2;by_cases h2 : k.len - 1 < 2
  ·have i2 : ((k.len - 1 : Nat) : Int) < 2 := by omega
   exact z40
  ·have i2 : ¬ (((k.len - 1 : Nat) : Int) < 2) := by omega
   exact z103
 ·have b13 : (x.n == 13) = false := by simp [h13]
  unfold brW at hQ;rw [if_neg h13] at hQ;unfold condB at hQ;rw [wids_len] at hQ;have hbw := bw_ch HBW.out;have HC := xH (HCH.out _ _ k HZ.out HRI.out.2 (kids_eq HND.out.2.2 HKV.out) HF.out);obtain ⟨u, hu⟩ : ∃ u, chW (wids env k) = u := ⟨_, rfl⟩;rw [hu] at HC hbw hQ;have HO := xH (fun w => or_any u (0, 0) (bw_lt hbw).1 (bw_lt hbw).2 (by decide) (by decide) w);have HQ := xH hQ;clear h12 h13 hQ hu hbw HCH;rw [cW_zero] at HO;go_enter Try.func86, Try.ntmps86;go_upto_region 1 with (fail)
  generalize w.alloc _ = w1 at *;have c5 := yC 5 (.int .i64 x.n) HP;have c11 : w1.cell? ⟨w.heap.size, 11, none⟩ = some (.slice ka k.len kq) := by unfold World.cell?; rw [HP.out]; show some x.kv = _; rw [HKV.out]
  go_wp2_with fail
  refine HC.out.mono ?_;rintro e w2 ⟨rfl, hr, hi2⟩;have HRI2 := xH (show R w w2 ∧ I w2 from ⟨HX.out.tr HRI.out.1 hr, hi2⟩);clear hr hi2;by_cases h2 : k.len < 2
  ·have i2 : (k.len : Int) < 2 := by omega
   exact z40
  ·have i2 : ¬ ((k.len : Int) < 2) := by omega
   exact z103
end wdw
end
section
namespace wdw
open sq
open Go Go.RowKit trp trw rpp wdp wdf
open rpw (ql)
def CallH (p : Value) (I : World → Prop) (R : World → World → Prop) (env : Int → Wd) : Prop :=
 ∀ (w : World) (n : Int), 0 ≤ n → n ≤ 1000000 → I w → Calls Try.prog 88 #[p, .int .i64 n] w (WX I R (env n) w)
theorem node_step {p : Value} {I : World → Prop} {R : World → World → Prop} {env : Int → Wd} {z : Nat} (X : Cx I R) (he : ∀ n, Bw (env n)) (HC : CallH p I R env) (H : NodeH p I R env z) : NodeH p I R env (z + 1) := by
 intro w x k hz hI hn hf;have HX := xH X;have HRI := xH (X.bel hI (trw.qg w (.cells (ndC x).toArray 27)));have HP := xH (heap_alloc_new w (.cells (ndC x).toArray 27));have HND := xH (trw.vO (trw.qg w (.cells (ndC x).toArray 27)) hn);have HUN := xH (X.bel hI (trw.qg w (.cells (ndC x).toArray 27)));obtain ⟨ka, kq, hkv⟩ := kids_len hn.2.2;have HKV := xH (show x.kv = .slice ka k.len kq from hkv);have HSU := xH (fun w1 v1 (h1 : I w1) (h2 : jr w1 v1 k) => sum_of X he H w1 v1 k (by omega) h1 h2 hf.2.1);have HCH := xH (fun w1 v1 (h1 : I w1) (h2 : jr w1 v1 k) => choice_of X he H w1 v1 k (by omega) h1 h2 hf.2.1);have HCO := xH (fun w1 (h1 : I w1) (h2 : NdAt w1 (x, k)) => cond_of X he H w1 x k (by omega) h1 h2 hf);have HRP := xH hf.1.1;have HN8 := xH hf.1.2;have HCA := xH HC;have HBS := xH (bw_sum (wids env k));clear hn hf hz X H HC hkv hI he;obtain ⟨Q, hQ⟩ : ∃ Q, oneW env x (wids env k) = Q := ⟨_, rfl⟩;rw [hQ];unfold oneW at hQ;unfold ndC at HP HRI HND HUN;unfold ndV;by_cases k2 : x.kind = 2
 ·have b2 : (x.kind == 2) = true := by simp [k2]
  have HQ := xH (show (1, 1) = Q by rw [if_pos k2] at hQ; exact hQ);clear k2 hQ;go_enter Try.func61, Try.ntmps61;go_wp2_with fail
  go_ret
  exact ⟨by rw [← HQ.out, cW_one]; rfl, HRI.out⟩
 have b2 : (x.kind == 2) = false := by simp [k2]
 rw [if_neg k2] at hQ;by_cases k7 : x.kind = 7
 ·have b7 : (x.kind == 7) = true := by simp [k7]
  have HQ := xH (show unk = Q by rw [if_pos k7] at hQ; exact hQ);clear k2 k7 hQ;go_enter Try.func61, Try.ntmps61;go_wp2_with fail
  refine (unknown_any _).mono ?_;rintro e w1 ⟨rfl, hb⟩;have HR1 := xH (HX.out.bel HRI.out.2 hb);clear hb;rw [HQ.out];unfold cW;go_wp2_with fail
  go_ret
  exact ⟨rfl, HX.out.tr HRI.out.1 HR1.out.1, HR1.out.2⟩
 have b7 : (x.kind == 7) = false := by simp [k7]
 rw [if_neg k7] at hQ;have kids : ∀ (w2 : World) (v u : Value), jr w2 v k → v = u → jr w2 u k := fun _ _ _ h e => e ▸ h
 by_cases k12 : x.kind = 12 ∨ x.kind = 14 ∨ x.kind = 17
 ·have HQ := xH (show sumW (wids env k) = Q by rw [if_pos k12] at hQ; exact hQ);have HS := xH (HSU.out _ _ HRI.out.2 (kids_eq HND.out.2.2 HKV.out));rw [HQ.out] at HS;clear hQ HSU HCH HCO HCA;go_enter Try.func61, Try.ntmps61;go_upto_region 1 with (fail)
  generalize w.alloc _ = w1 at *;have c0 := yC 0 (.int .i64 x.kind) HP;have c11 : w1.cell? ⟨w.heap.size, 11, none⟩ = some (.slice ka k.len kq) := by unfold World.cell?; rw [HP.out]; show some x.kv = _; rw [HKV.out]
  rcases k12 with k12 | k12 | k12
  ·have b12 : (x.kind == 12) = true := by simp [k12]
   exact z109
  ·have b12 : (x.kind == 12) = false := by simp [k12]
   have b14 : (x.kind == 14) = true := by simp [k12]
   exact z109
  ·have b12 : (x.kind == 12) = false := by simp [k12]
   have b14 : (x.kind == 14) = false := by simp [k12]
   have b17 : (x.kind == 17) = true := by simp [k12]
   exact z109
 have b12 : (x.kind == 12) = false := by simp; omega
 have b14 : (x.kind == 14) = false := by simp; omega
 have b17 : (x.kind == 17) = false := by simp; omega
 rw [if_neg k12] at hQ;by_cases k13 : x.kind = 13 ∨ x.kind = 16
 ·have HQ := xH (show chW (wids env k) = Q by rw [if_pos k13] at hQ; exact hQ);have HS := xH (HCH.out _ _ HRI.out.2 (kids_eq HND.out.2.2 HKV.out));rw [HQ.out] at HS;clear hQ HSU HCH HCO HCA;go_enter Try.func61, Try.ntmps61;go_upto_region 1 with (fail)
  generalize w.alloc _ = w1 at *;have c0 := yC 0 (.int .i64 x.kind) HP;have c11 : w1.cell? ⟨w.heap.size, 11, none⟩ = some (.slice ka k.len kq) := by unfold World.cell?; rw [HP.out]; show some x.kv = _; rw [HKV.out]
  rcases k13 with k13 | k13
  ·have b13 : (x.kind == 13) = true := by simp [k13]
   exact z107
  ·have b13 : (x.kind == 13) = false := by simp [k13]
   have b16 : (x.kind == 16) = true := by simp [k13]
   exact z107
 have b13 : (x.kind == 13) = false := by simp; omega
 have b16 : (x.kind == 16) = false := by simp; omega
 rw [if_neg k13] at hQ;by_cases k19 : x.kind = 19
 ·have HQ := xH (show condW x (wids env k) = Q by rw [if_pos k19] at hQ; exact hQ);have HS := xH (HCO.out _ HRI.out.2 HND.out k19);rw [HQ.out] at HS;have b19 : (x.kind == 19) = true := by simp [k19]
  clear hQ HSU HCH HCO HCA k2 k7 k12 k13 k19;go_enter Try.func61, Try.ntmps61;go_upto_region 1 with (fail)
  generalize w.alloc _ = w1 at *;have c0 := yC 0 (.int .i64 x.kind) HP;go_wp2_with (refine ql rfl _ rfl w.heap.size rfl x HP.out ?_)
  refine HS.out.mono ?_;rintro e w2 ⟨rfl, hr, hi⟩;unfold cW;go_wp2_with fail
  go_ret
  exact ⟨rfl, HX.out.tr HRI.out.1 hr, hi⟩
 have b19 : (x.kind == 19) = false := by simp [k19]
 rw [if_neg k19] at hQ;by_cases k20 : x.kind = 20
 ·have HQ := xH (show timesW (sumW (wids env k)) x.n x.m = Q by rw [if_pos k20] at hQ; exact hQ);have HS := xH (fun w1 h1 h2 => HSU.out w1 (.slice ka k.len kq) h1 h2);have HKD := xH (kids_eq HND.out.2.2 HKV.out);have hrp := HRP.out k20;have HT := xH (fun w1 => times_any (sumW (wids env k)) x.n x.m HBS.out ⟨hrp.1, hrp.2.1⟩ ⟨hrp.2.2.1, hrp.2.2.2.1⟩ w1);rw [HQ.out] at HT;obtain ⟨s, hs⟩ : ∃ s, sumW (wids env k) = s := ⟨_, rfl⟩;rw [hs] at HT HS;have b20 : (x.kind == 20) = true := by simp [k20]
  clear hQ HSU HCH HCO HCA k2 k7 k12 k13 k19 k20 hrp hs HQ;unfold cW at HT;go_enter Try.func61, Try.ntmps61;go_upto_region 1 with (fail)
  generalize w.alloc _ = w1 at *;have c0 := yC 0 (.int .i64 x.kind) HP;have c5 := yC 5 (.int .i64 x.n) HP;have c6 := yC 6 (.int .i64 x.m) HP;have c11 : w1.cell? ⟨w.heap.size, 11, none⟩ = some (.slice ka k.len kq) := by unfold World.cell?; rw [HP.out]; show some x.kv = _; rw [HKV.out]
  have HD := xH (HX.out.bel HRI.out.2 (qL w1));have HDK := xH (below_kids (qL w1) HKD.out);go_wp2_with fail
  go_region_held3 (fun w' => w'.cell? ⟨w.heap.size, 5, none⟩ = some (.int .i64 x.n) ∧ w'.cell? ⟨w.heap.size, 6, none⟩ = some (.int .i64 x.m) ∧ w'.cell? ⟨w.heap.size, 11, none⟩ = some (.slice ka k.len kq) ∧ R w w' ∧ I w' ∧ jr w' (.slice ka k.len kq) k)
   (first
    | exact ⟨by simpa using c5, by simpa using c6, by simpa using c11, HX.out.tr HRI.out.1 HD.out.1, HD.out.2, HDK.out⟩
    | (go_split_ands; exact ⟨HX.out.cel (by assumption) hr2 _ _ (by assumption), HX.out.cel (by assumption) hr2 _ _ (by assumption), HX.out.cel (by assumption) hr2 _ _ (by assumption), HX.out.tr (by assumption) hr2, hi2, jh (HX.out.cel (by assumption) hr2) (by assumption)⟩))
   (first
    | (go_at_call 84; go_split_ands; refine (HS.out _ (by assumption) (by assumption)).mono ?_; rintro e w2 ⟨rfl, hr2, hi2⟩; unfold cW)
    | (go_at_call 87; go_split_ands; refine (HT.out _).mono ?_; rintro e w2 ⟨rfl, hb2⟩; obtain ⟨hr2, hi2⟩ := HX.out.bel (by assumption) hb2; unfold cW))
  go_wp2_with fail
  go_ret
  go_split_ands
  exact ⟨rfl, by assumption, by assumption⟩
 have b20 : (x.kind == 20) = false := by simp [k20]
 rw [if_neg k20] at hQ;by_cases k8 : x.kind = 8
 ·have HQ := xH (show env x.n = Q by rw [if_pos k8] at hQ; exact hQ);have HS := xH (HCA.out _ x.n (HN8.out k8).1 (HN8.out k8).2 HRI.out.2);rw [HQ.out] at HS;have b8 : (x.kind == 8) = true := by simp [k8]
  clear hQ HSU HCH HCO HCA k2 k7 k12 k13 k19 k20 k8;go_enter Try.func61, Try.ntmps61;go_upto_region 1 with (fail)
  generalize w.alloc _ = w1 at *;have c0 := yC 0 (.int .i64 x.kind) HP;have c5 := yC 5 (.int .i64 x.n) HP;exact z178
 have b8 : (x.kind == 8) = false := by simp [k8]
 have HQ := xH (show (0, 0) = Q by rw [if_neg k8] at hQ; exact hQ);clear hQ HSU HCH HCO HCA k2 k7 k12 k13 k19 k20 k8;go_enter Try.func61, Try.ntmps61;go_wp2_with fail
 go_ret
 exact ⟨by rw [← HQ.out, cW_zero]; rfl, HRI.out⟩
theorem node_all {p : Value} {I : World → Prop} {R : World → World → Prop} {env : Int → Wd} (X : Cx I R) (he : ∀ n, Bw (env n)) (HC : CallH p I R env) : ∀ z, NodeH p I R env z := by
 intro z
 induction z with
 | zero => exact fun w x k hz => absurd hz (Nat.not_lt_zero _)
 | succ z ih => exact node_step X he HC ih
theorem part_of {p : Value} {I : World → Prop} {R : World → World → Prop} {env : Int → Wd} (X : Cx I R) (he : ∀ n, Bw (env n)) (HC : CallH p I R env) (w : World) (x : Lab) (k : F) (hI : I w) (hn : NdAt w (x, k)) (hf : FitC (F.one x k)) :
 Calls Try.prog 44 #[p, ndV x] w (WX I R (partW env (x, k)) w) := by
 have HX := xH X;have HRI := xH (X.bel hI (trw.qg w (.cells (ndC x).toArray 27)));have HP := xH (heap_alloc_new w (.cells (ndC x).toArray 27));have HND := xH (trw.vO (trw.qg w (.cells (ndC x).toArray 27)) hn);have HAC := xH (fun w1 (h : NdAt w1 (x, k)) => accepts_any x k w1 h);have HNO := xH (fun w1 h1 h2 => node_all X he HC (k.size + 1) w1 x k (Nat.lt_succ_self _) h1 h2 hf);clear hn hf X HC hI he;obtain ⟨Q, hQ⟩ : ∃ Q, partW env (x, k) = Q := ⟨_, rfl⟩;rw [hQ];unfold partW at hQ;simp only at hQ;unfold ndC at HP HRI HND;unfold ndV at HAC HNO;unfold ndV;go_enter Try.func44, Try.ntmps44;go_upto_region 1 with (fail)
 generalize w.alloc _ = w1 at *;have HA1 := xH (HAC.out w1 HND.out);obtain ⟨ac, hac⟩ : ∃ ac, accF (F.one x k) = ac := ⟨_, rfl⟩;rw [hac] at HA1 hQ;go_wp2_with (refine ql rfl _ rfl w.heap.size rfl x HP.out ?_)
 refine HA1.out.mono ?_;rintro e w2 ⟨rfl, hb⟩;have HR2 := xH (HX.out.bel HRI.out.2 hb);have HP2 := xH ((hb.block _ (by have := HP.out; exact (Array.getElem?_eq_some_iff.1 this).1)).trans HP.out);have HN2 := xH (trw.vO hb HND.out);have HTR := xH (HX.out.tr HRI.out.1 HR2.out.1);clear hb hac HAC HA1;cases ac with
 | true =>
  have HQ := xH (show unk = Q from hQ);clear hQ;go_wp2_with fail
  refine (unknown_any _).mono ?_;rintro e w3 ⟨rfl, hb⟩;have HR3 := xH (HX.out.bel HR2.out.2 hb);clear hb;rw [HQ.out];unfold cW;go_wp2_with fail
  go_ret
  exact ⟨rfl, HX.out.tr HTR.out HR3.out.1, HR3.out.2⟩
 | false =>
  have HQ := xH (show oneW env x (wids env k) = Q from hQ);have HN3 := xH (HNO.out w2 HR2.out.2 HN2.out);rw [HQ.out] at HN3;clear hQ;go_wp2_with (refine ql rfl _ rfl w.heap.size rfl x HP2.out ?_)
  refine HN3.out.mono ?_;rintro e w3 ⟨rfl, hr, hi⟩;unfold cW;go_wp2_with fail
  go_ret
  exact ⟨rfl, HX.out.tr HTR.out hr, hi⟩
end wdw
end
section
namespace wdw
open sq
open Go Go.RowKit trp trw rpp wdp wdf
open rpw (qp ql jU)
open gqw (wpList_store_ny)
def m1C : List Value := [.int .i64 0, .int .i64 0, .int .i64 0, .slice none 0 0, .bool false, .int .i64 0, .int .i64 0, .int .i64 0, .string ⟨#[]⟩, .int .i64 0, .int .i64 0, .slice none 0 0, .map none, .bool true]
def In1 (G : Nat) (w : World) : Prop := w.heap[G]? = some (.cells m1C.toArray 108 (0, 0))
def Rb (w w' : World) : Prop := Below w.heap.size w w'
theorem zi {w : World} {j : Nat} {o : Obj} (e : w.heap[j]? = some o) : j < w.heap.size := (Array.getElem?_eq_some_iff.1 e).1
theorem cx1 (G : Nat) : Cx (In1 G) Rb := ⟨fun h hb => ⟨hb, (hb.block G (zi h)).trans h⟩, fun h k => trw.qi h k, fun _ hb _ _ hc => trw.qf hb hc⟩
theorem call_in (G : Nat) : CallH (.pointer (some ⟨G, 0, none⟩)) (In1 G) Rb env0 := by
 intro w n _ _ hI;have c13 : w.cell? ⟨G, 13, none⟩ = some (.bool true) := by unfold World.cell?; rw [show w.heap[G]? = _ from hI]; rfl
 have HI := xH hI;clear hI;go_enter Try.func88, Try.ntmps88;go_wp2_with fail
 refine (unknown_any _).mono ?_;rintro e w1 ⟨rfl, hb⟩;have HB := xH hb;clear hb;unfold cW;go_wp2_with fail
 go_ret
 exact ⟨rfl, HB.out, ((cx1 G).bel HI.out HB.out).2⟩
theorem part_in (G : Nat) (w : World) (x : Lab) (k : F) (hI : In1 G w) (hn : NdAt w (x, k)) (hf : FitC (F.one x k)) :
 Calls Try.prog 44 #[.pointer (some ⟨G, 0, none⟩), ndV x] w (WB (partW env0 (x, k)) w) :=
 (part_of (cx1 G) bw_env0 (call_in G) w x k hI hn hf).mono fun _ _ h => ⟨h.1, h.2.1⟩
theorem in1_new (w : World) : In1 w.heap.size (w.alloc (.cells m1C.toArray 108)) := heap_alloc_new w _
theorem group_any {G : Nat} {y : Lab} {j : F} {mv : Value} {bv : Bool} (n : Int) (w : World) (hg : w.heap[G]? = some (.cells (ndC y ++ [mv, Value.bool bv]).toArray 108 (0, 0))) (hn : NdAt w (y, j)) (hf : FitC (F.one y j)) :
 Calls Try.prog 115 #[.pointer (some ⟨G, 0, none⟩), .int .i64 n] w (WB (callW (y, j) n) w) := by
 have HG := xH hg;have HN := xH hn;have HF := xH hf;have HO := xH (qp hn);have HCE := xH (show ∀ i u, (ndC y)[i]? = some u → w.cell? ⟨G, 0 + i, none⟩ = some u from fun i u hi => by rw [Nat.zero_add];unfold World.cell?;rw [hg];simp only [List.getElem?_toArray];rw [List.getElem?_append_left (Array.getElem?_eq_some_iff.1 (show (ndC y).toArray[i]? = some u by simpa using hi)).1];exact hi)
 obtain ⟨Q, hQ⟩ : ∃ Q, callW (y, j) n = Q := ⟨_, rfl⟩;rw [hQ];unfold callW at hQ;clear hg hn hf;by_cases h0 : n = 0
 ·have b0 : (n != 0) = false := by simp [h0]
  rw [if_pos h0] at hQ;have HQ := xH (show partW env0 (y, j) = Q from hQ);clear hQ h0;go_enter Try.func115, Try.ntmps115;go_upto_region 6 with (first
   | (refine jv rfl _ rfl G 0 rfl y HCE.out ?_)
   | (refine wpList_store_nf rfl rfl _ _ rfl rfl y HO.out rfl ?_; intro w8 HS8))
  have HI9 := xH (in1_new w8);have HB9 := xH (trw.qg w8 (.cells m1C.toArray 108));have HH9 := xH ((HB9.out.block _ (zi HS8.out.2)).trans HS8.out.2);have HPA := xH (part_in w8.heap.size _ y j HI9.out (trw.vO HB9.out (trw.vO HS8.out.1 HN.out)) HF.out);rw [HQ.out] at HPA;clear HI9;unfold m1C at HB9 HH9 HPA;go_upto_region 7 with (fail)
  generalize w8.alloc _ = w9 at *;go_wp2_with (refine ql rfl _ rfl w.heap.size rfl y HH9.out ?_)
  refine HPA.out.mono ?_;rintro e w10 ⟨rfl, hb⟩;unfold cW;go_wp2_with fail
  go_ret
  exact ⟨rfl, trw.qi HS8.out.1 (trw.qi HB9.out hb)⟩
 ·have b0 : (n != 0) = true := by simp [h0]
  rw [if_neg h0] at hQ;have HFG := xH (fun w8 (h : NdAt w8 (y, j)) => first_any n y j w8 h);have HFA := xH (fun t (h : firstG n (F.one y j) = some t) => (⟨first_fitC HF.out h, fun w8 (hw : NdAt w8 (y, j)) => first_at1 hw h⟩ : FitC (F.one t.1 t.2) ∧ ∀ w8, NdAt w8 (y, j) → NdAt w8 t));obtain ⟨q, hq⟩ : ∃ q, firstG n (F.one y j) = q := ⟨_, rfl⟩;rw [hq] at hQ HFG HFA;have HQ := xH hQ;clear hQ hq h0;go_enter Try.func115, Try.ntmps115;go_upto_region 3 with (first
   | (refine jv rfl _ rfl G 0 rfl y HCE.out ?_)
   | (refine wpList_store_nf rfl rfl _ _ rfl rfl y HO.out rfl ?_; intro w8 HS8))
  have HCE8 := xH (fun i u (hi : (ndC y)[i]? = some u) => trw.qf HS8.out.1 (HCE.out i u hi));have HN8 := xH (trw.vO HS8.out.1 HN.out);have HF8 := xH (HFG.out w8 HN8.out);clear HFG;go_wp2_with (refine jv rfl _ rfl G 0 rfl y HCE8.out ?_)
  refine HF8.out.mono ?_;rintro e w9 ⟨hb9, hr⟩;have HB9 := xH (trw.qi HS8.out.1 hb9);have HH9 := xH ((hb9.block _ (zi HS8.out.2)).trans HS8.out.2);have HN9 := xH (trw.vO hb9 HN8.out);have HLT := xH (zi HS8.out.2);clear hb9 HF8;cases q with
  | none =>
   have HQ2 := xH (show unk = Q from HQ.out);have HO0 := xH (qp (t := (lab 0 0, F.nil)) (rpw.zero_at w9));obtain rfl := hr;go_wp2_with (refine wpList_store_ny rfl rfl _ _ rfl w.heap.size rfl _ (lab 0 0) HH9.out rfl HO0.out rfl ?_; intro w10 h10; have HS10 := xH (show Below w.heap.size w w10 from by rw [h10.out]; exact rpw.qC HB9.out _ (xL _)); clear h10)
   refine (unknown_any _).mono ?_;rintro e w11 ⟨rfl, hb⟩;rw [HQ2.out];unfold cW;go_wp2_with fail
   go_ret
   exact ⟨rfl, trw.qi HS10.out hb⟩
  | some s =>
   have HQ2 := xH (show partW env0 s = Q from HQ.out);have HSO := xH (HFA.out s rfl);have HO0 := xH (qp (HSO.out.2 w9 HN9.out));obtain rfl := hr;go_upto_region 6 with (refine wpList_store_ny rfl rfl _ _ rfl w.heap.size rfl _ s.1 HH9.out rfl HO0.out rfl ?_; intro w10 h10; have HS10 := xH (show Below w.heap.size w w10 ∧ w10.heap[w.heap.size]? = some (.cells (ndC s.1).toArray 27 (0, 0)) from by rw [h10.out]; exact ⟨rpw.qC HB9.out _ (xL _), setRow_heap _ _ _ _ _ _ HH9.out⟩); clear h10)
   have HI11 := xH (in1_new w10);have HB11 := xH (trw.qg w10 (.cells m1C.toArray 108));have HH11 := xH ((HB11.out.block _ (zi HS10.out.2)).trans HS10.out.2);have HPA := xH (part_in w10.heap.size _ s.1 s.2 HI11.out (trw.vO HB11.out (HSO.out.2 w10 (trw.vO HS10.out.1 HN.out))) HSO.out.1);rw [show (s.1, s.2) = s from rfl, HQ2.out] at HPA;clear HI11;unfold m1C at HB11 HH11 HPA;go_upto_region 7 with (fail)
   generalize w10.alloc _ = w11 at *;go_wp2_with (refine ql rfl _ rfl w.heap.size rfl s.1 HH11.out ?_)
   refine HPA.out.mono ?_;rintro e w12 ⟨rfl, hb⟩;unfold cW;go_wp2_with fail
   go_ret
   exact ⟨rfl, trw.qi HS10.out.1 (trw.qi HB11.out hb)⟩
end wdw
end
section
namespace wdw
open sq
open Go Go.RowKit Go.Maps trp trw rpp wdp wdf
open prw (RV rv_inv grown_of_below)
open rpw (qp ql)
def LC (env : Int → Wd) : List Int → DataW Value
 | [] => .map []
 | p :: l => (LC env l).put (.int .i64 p) (.held (cW (env p)))
theorem lc_map (env : Int → Wd) : ∀ l, IsMap (LC env l)
 | [] => isMap_empty
 | _ :: l => (lc_map env l).put _ _
theorem at_LC (env : Int → Wd) (n : Int) (z : Value) : ∀ l, (LC env l).atKey (.int .i64 n) (.held z) = .held (if n ∈ l then cW (env n) else z)
 | [] => rfl
 | p :: l => by
  unfold LC;by_cases h : n = p
  ·subst h;rw [if_pos (dJ ..)];exact atKey_put_same (lc_map env l) (show WideAt.IsKeyLit (.int _ _) from trivial) _ _
  ·rw [atKey_put_other (fun e => h (by injection e with _ e)), at_LC env n z l];simp [h]
theorem has_LC (env : Int → Wd) (n : Int) : ∀ l, Maps.has (LC env l) (.int .i64 n) = decide (n ∈ l)
 | [] => rfl
 | p :: l => by
  unfold LC;by_cases h : n = p
  ·subst h;rw [has_put_same (lc_map env l) (show WideAt.IsKeyLit (.int .i64 n) from trivial)];simp
  ·rw [has_put_other (fun e => h (by injection e with _ e)), has_LC env n l];simp [h]
def MapC (env : Int → Wd) (w : World) (b n : Nat) (L : List Int) : Prop := w.ownsMap Try.prog 3 RV b n (LC env L)
theorem mapC_below {env : Int → Wd} {w w' : World} {b n : Nat} {L : List Int} (h : MapC env w b n L) (hb : Below w.heap.size w w') : MapC env w' b n L := World.ownsMap.kept h (grown_of_below hb none) (by simp)
theorem mapC_made (env : Int → Wd) (w : World) : MapC env (w.alloc (.map #[] 0)) w.heap.size 0 [] := World.ownsMap_made w _ _ _
theorem wf_c {n : Int} (h1 : 0 ≤ n) (h2 : n ≤ 1000000) : (Lit.int .i64 n).wf = true := by
 have e1 : IntKind.i64.min = -9223372036854775808 := by decide
 have e2 : IntKind.i64.max = 9223372036854775807 := by decide
 simp [Lit.wf];omega
theorem wpList_put_c {env : Int → Wd} {w : World} {ops : Array Oper} {rest : List Oper} {o : Oper} {a : Act} {Q : Exit → Act → World → Prop} (hg : o.guard = none) (hd : o.dst = none) (m x v : Operand) (hop : o.op = Op.mapUpdate 106 m x v) (key : Int) (hx : a.eval x = .int .i64 key)
 (b n : Nat) (L : List Int) (hm : a.eval m = .map (some b)) (hown : MapC env w b n L) (hn : n < 9000000) (hk : (Lit.int .i64 key).wf = true) (hv : a.eval v = .complex .f64 (fl (env key).1) (fl (env key).2))
 (hK : ∀ w', MapC env w' b (n + 1) (key :: L) → w.grownBy w' (some b) → wpList Try.prog ops Q rest a w') :
 wpList Try.prog ops Q (o :: rest) a w := by
 refine wpList_plain hg fun K' hK' => ?_
 obtain ⟨w', hrun, r1, r2⟩ := World.ownsMap.update hown (int_keyed Try.underlying3) Try.underlying106 (by unfold maxLen; omega) (keyOf_int_mk Try.underlying3 hk) (show RV (cW (env key)) = some (.held (cW (env key)), []) from rfl);unfold cW at hrun;unfold Oper.wp;simp [execOp, hop, hm, hx, hv, hrun, Result.andThen];refine hK' _ _ ?_;rw [hd];exact hK w' r1 r2
theorem wpList_look_c {env : Int → Wd} {w : World} {ops : Array Oper} {rest : List Oper} {o : Oper} {a : Act} {Q : Exit → Act → World → Prop} (hg : o.guard = none) (m x : Operand) (hop : o.op = Op.lookup 106 m x true)
 (b n : Nat) (L : List Int) (hm : a.eval m = .map (some b)) (hown : MapC env w b n L) (key : Int) (hx : a.eval x = .int .i64 key) (hk : (Lit.int .i64 key).wf = true)
 (hK : wpList Try.prog ops Q rest (a.put o.dst (.tuple #[if key ∈ L then cW (env key) else .complex .f64 0 0, .bool (decide (key ∈ L))])) w) :
 wpList Try.prog ops Q (o :: rest) a w := by
 refine wpList_plain hg fun K' hK' => ?_
 have hz : (zeroValue 78).run Try.prog w = .ok (.complex .f64 0 0) w := by kernel_rfl
 obtain ⟨v, ps, hrun, hv⟩ := World.ownsMap.look_ok hown (int_keyed Try.underlying3) Try.underlying106 hz (show RV (.complex .f64 0 0) = some (.held (.complex .f64 0 0), []) from rfl) (keyOf_int_mk Try.underlying3 hk);rw [at_LC] at hv;rw [has_LC] at hrun;obtain rfl := rv_inv hv;unfold Oper.wp;simp [execOp, hop, hm, hx, hrun, Result.andThen];exact hK' _ _ (by simpa using hK)
def room (N : Nat) (L : List Int) : Nat := (List.range N).countP fun (i : Nat) => decide ((i : Int) ∉ L)
theorem count_less (P : Nat → Bool) (a : Nat) : ∀ l : List Nat, a ∈ l → P a = true → (l.countP fun i => P i && decide (i ≠ a)) + 1 ≤ l.countP P
 | [], h, _ => by cases h
 | b :: l, h, hp => by
  have hm : (l.countP fun i => P i && decide (i ≠ a)) ≤ l.countP P := List.countP_mono_left fun x _ hx => by rw [dK] at hx;exact hx.1
  by_cases hb : b = a
  ·subst hb;rw [List.countP_cons_of_neg (by simp), List.countP_cons_of_pos hp];omega
  ·have := count_less P a l (by rcases List.mem_cons.1 h with e | e; exact absurd e.symm hb; exact e) hp;have e : (P b && decide (b ≠ a)) = P b := by simp [hb]
   rw [List.countP_cons, List.countP_cons, e];omega
theorem room_cons {N : Nat} {p : Int} {L : List Int} (h0 : 0 ≤ p) (h1 : p < N) (h : p ∉ L) : room N (p :: L) + 1 ≤ room N L := by
 obtain ⟨q, rfl⟩ := Int.eq_ofNat_of_zero_le h0;have := count_less (fun (i : Nat) => decide ((i : Int) ∉ L)) q (List.range N) (List.mem_range.2 (by omega)) (by simpa using h);unfold room;refine Nat.le_trans (Nat.add_le_add_right ?_ 1) this;refine List.countP_mono_left fun x _ hx => ?_
 simp only [List.mem_cons, not_or, dF, dK] at hx ⊢;exact ⟨hx.2, fun e => hx.1 (by rw [e])⟩
structure Rm (M : Nat) (w w' : World) : Prop where
 os : w'.os = w.os
 tape : w'.tape = w.tape
 output : w'.output = w.output
 size : w.heap.size ≤ w'.heap.size
 block : ∀ k, k < w.heap.size → k ≠ M → w'.heap[k]? = w.heap[k]?
structure Ms (G M : Nat) (y : Lab) (j : F) (w : World) : Prop where
 g : w.heap[G]? = some (.cells (ndC y ++ [Value.map (some M), Value.bool false]).toArray 108 (0, 0))
 m : ∃ n L, MapC (callW (y, j)) w M n L ∧ n + room 1000001 L ≤ 1000001
 nd : NdAt w (y, j)
theorem Ms.ne {G M : Nat} {y : Lab} {j : F} {w : World} (h : Ms G M y j w) : G ≠ M ∧ M < w.heap.size ∧ ∀ o v, w.cell? ⟨M, o, none⟩ ≠ some v := by
 obtain ⟨n, L, hm, _⟩ := h.m;obtain ⟨es, clock, hb, _⟩ := hm;refine ⟨fun e => ?_, zi hb, fun o v hc => ?_⟩
 ·have := h.g;rw [e, hb] at this;cases this
 ·unfold World.cell? at hc;rw [show w.heap[M]? = _ from hb] at hc;cases hc
theorem cx2 (G M : Nat) (y : Lab) (j : F) : Cx (Ms G M y j) (Rm M) := by
 refine ⟨fun {w w'} h hb => ⟨⟨hb.os, hb.tape, hb.output, hb.size, fun k hk _ => hb.block k hk⟩, (hb.block G (zi h.g)).trans h.g, ?_, trw.vO hb h.nd⟩, fun h k => ⟨k.os.trans h.os, k.tape.trans h.tape, k.output.trans h.output, Nat.le_trans h.size k.size, fun i hi hn => (k.block i (Nat.lt_of_lt_of_le hi h.size) hn).trans (h.block i hi hn)⟩, fun {w w'} h hr a v hc => ?_⟩
 ·obtain ⟨n, L, hm, hn⟩ := h.m;exact ⟨n, L, mapC_below hm hb, hn⟩
 ·have hne : a.block ≠ M := fun e => by have hx := hc;unfold World.cell? at hx;obtain ⟨n, L, hm, _⟩ := h.m;obtain ⟨es, clock, hb, _⟩ := hm;rw [e, show w.heap[M]? = _ from hb] at hx;cases hx
  exact (World.cell?_of_block (hr.block a.block (cell_lt hc) hne)).trans hc
theorem Ms.up {G M n : Nat} {y : Lab} {j : F} {w w' : World} {p : Int} {L : List Int} (h : Ms G M y j w) (hm : MapC (callW (y, j)) w' M (n + 1) (p :: L)) (hn : n + room 1000001 L ≤ 1000001) (h0 : 0 ≤ p) (h1 : p ≤ 1000000) (hp : p ∉ L) (hg : w.grownBy w' (some M)) : Rm M w w' ∧ Ms G M y j w' := by have hr : Rm M w w' := ⟨hg.os, hg.tape, hg.output, hg.size, fun k hk hne => hg.block k hk (fun e => hne (by cases e; rfl))⟩;have := room_cons (N := 1000001) h0 (by omega) hp;refine ⟨hr, (hr.block G (zi h.g) h.ne.1).trans h.g, ⟨n + 1, p :: L, hm, by omega⟩, qY ((cx2 G M y j).cel h hr) h.nd⟩
end wdw
end
end Go.Proofs.Ytdgfclbajjjcgaa
