/- T -/
import Derived.Test.YtdgfclbajjjcgaaBWb17
set_option maxHeartbeats 16000000
set_option maxRecDepth 1000000
namespace Go.Proofs.Ytdgfclbajjjcgaa
section
namespace rsw
open sq
open Go.Sort Go Go.RowKit Go.Maps setp setw tkp trp trw rpp rsp
open rpw (sees jB qU fC jP FSub vw jQ app_sub jH jm own_below qp oneR zk jV qA qh jU lab_ok rg_nil ql)
open rpw (jc qI)
open tkw (qM)
theorem node_plain {u : Bool} {m : Int} {k : F} (_hm0 : 0 ≤ m) (_hm : m ≤ 1114111) (hnode : ∀ k' : F, k'.size < k.size → NodeC u m k') (x : Lab) (f : Int) (w : World) (h : Nat → Bool) (hold : Old h w.heap.size) (hnd : NdAt (sees h w) (x, k)) (hok : OkF (F.one x k)) (hsz : k.size ≤ 30000) (hk : x.kind = 15) : Calls Try.prog 53 #[ctxV u m, ndV x, .int .i64 f] w (NodB h (nodeP u m (fun g => rowP u m k g) x k f) w) := by
 have HF0 := xH (vK (u := u) (m := m) hold hnd);have HOLD := xH hold;have HOKF := xH hok;have HLO := xH hnd.1;obtain ⟨R, hR⟩ : ∃ R, nodeP u m (fun g => rowP u m k g) x k f = R := ⟨_, rfl⟩;rw [hR];have HNO := xH hnode;have HR0 := xH (hR.symm.trans (show _ = (firstF (rowP u m k (turnI f x.on x.off)).1, f) by unfold nodeP; rw [if_neg (by omega), if_neg (by omega), if_neg (by omega), if_neg (by omega), if_neg (by omega), if_neg (by omega), if_neg (by omega), if_neg (by omega), if_neg (by omega), if_pos hk]));obtain ⟨x0, k0, r0, rfl⟩ : ∃ a b c, k = .cons a b c := by
  cases k with
  | nil => exact absurd rfl (hok.2.1 hk)
  | cons a b c => exact ⟨a, b, c, rfl⟩
 clear hnode;have b1 : (x.kind == 1) = false := by simp [hk]
 have b2 : (x.kind == 2) = false := by simp [hk]
 have b3 : (x.kind == 3) = false := by simp [hk]
 have b4 : (x.kind == 4) = false := by simp [hk]
 have b6 : (x.kind == 6) = false := by simp [hk]
 have b7 : (x.kind == 7) = false := by simp [hk]
 have b11 : (x.kind == 11) = false := by simp [hk]
 have b12 : (x.kind == 12) = false := by simp [hk]
 have b13 : (x.kind == 13) = false := by simp [hk]
 have b15 : (x.kind == 15) = true := by simp [hk]
 clear hold hnd hok hk hR;unfold ctxV;unfold ndC zC at HF0;go_enter Try.func53, Try.ntmps53;unfold ndV;go_upto_region 1 with (fail)
 generalize ((w.alloc _).alloc _).alloc _ = w0 at *;have d0 : w0.cell? ⟨w.heap.size, 0, none⟩ = some (.bool u) := by unfold World.cell?; rw [HF0.out.c]; rfl
 have d1 : w0.cell? ⟨w.heap.size, 1, none⟩ = some (.int .i64 m) := by unfold World.cell?; rw [HF0.out.c]; rfl
 have e0 : w0.cell? ⟨w.heap.size + 1, 0, none⟩ = some (.int .i64 x.kind) := by unfold World.cell?; rw [HF0.out.n]; rfl
 have e9 : w0.cell? ⟨w.heap.size + 1, 9, none⟩ = some (.int .i64 x.on) := by unfold World.cell?; rw [HF0.out.n]; rfl
 have e10 : w0.cell? ⟨w.heap.size + 1, 10, none⟩ = some (.int .i64 x.off) := by unfold World.cell?; rw [HF0.out.n]; rfl
 have e11 : w0.cell? ⟨w.heap.size + 1, 11, none⟩ = some (x.kv) := by unfold World.cell?; rw [HF0.out.n]; rfl
 obtain ⟨b, o0, cap0, hkv, hc1, hc2, hil, hfa⟩ := kid_at HF0.out.t.2.2 (i := 0) rfl;rw [hkv] at e11;have HX := xH (fAt_head hfa);have HE := xH (fun j v hj => sees_to (hfa.1 j v hj));have HNC := xH (HNO.out k0 (by simp only [F.size]; omega));have HOK0 := xH (show OkF (F.one x0 k0) from ⟨HOKF.out.2.2.1.1, HOKF.out.2.2.1.2.1, HOKF.out.2.2.1.2.2.1, trivial⟩);have HSZ0 := xH (show k0.size ≤ 30000 by simp only [F.size] at hsz; omega);have HR := xH (show ∀ t, nodeP u m (fun g => rowP u m k0 g) x0 k0 (turnI f x.on x.off) = t → R = (firstF (F.app t.1 (rowP u m r0 t.2).1), f) from fun t ht => by rw [HR0.out, rowP, ht]);obtain ⟨t, ht⟩ : ∃ t, nodeP u m (fun g => rowP u m k0 g) x0 k0 (turnI f x.on x.off) = t := ⟨_, rfl⟩;have HR2 := xH (HR.out t ht);have HNC2 := xH HNC.out;have a1 := add_row b o0 0 12;have HT := xH ht;have hz0 : (0 : Int) < ((F.cons x0 k0 r0).len : Int) := by simp only [F.len]; omega
 clear hkv hfa HR HR0 HNC2 ht hil;go_upto_region 42 with (fail)
 go_cut [18] (fun v18 wx => ∃ B y j, v18 = .pointer (some ⟨B, 0, none⟩) ∧ Hid (wx.heap[B]? = some (.cells (ndC y).toArray 27 (0, 0))) ∧ Hid (Below w0.heap.size w0 wx) ∧ Hid (NdAt (sees (hN h (w.heap.size + 2)) wx) (y, j)) ∧ Hid (strip (F.one y j) = (nodeP u m (fun g => rowP u m k0 g) x0 k0 (turnI f x.on x.off)).1))
 case first =>
  go_wp2_with fail
  refine wp_region_held_drew (S := fun w' => Below w0.heap.size w0 w') (by kernel_rfl) (qL w0) (fun hHeld => ?_);have HBwD := xH hHeld;clear hHeld;generalize w0.drew = wD at *;refine yG 0 (fun w' hSw => trw.qf hSw d0) (fun w' hSw => trw.qf hSw d1) ?_;simp only [xS];refine yT 1 ?_;simp only [xS];refine yF 2 (fun w' hSw => trw.qf hSw e11) ?_;simp only [xS];refine yT 3 ?_;simp only [xS];refine xT 4 rfl ?_ ?_ ?_;rotate_left
  ·intro w' hSw;refine jT (x := .tmp 183) (b := b) (off := o0 + 0 * 12) (l := x0) ?_ ?_ (fun j v hj => trw.qf hSw (HE.out j v hj)) <;> rfl
  simp only [xS];refine yT 5 ?_;simp only [xS];refine yT 6 ?_;simp only [xS];refine yF 7 (fun w' hSw => trw.qf hSw e9) ?_;simp only [xS];refine yT 8 ?_;simp only [xS];refine yF 9 (fun w' hSw => trw.qf hSw e10) ?_;simp only [xS];refine wpAnyH_ready (rs := [10, 15]) (by kernel_rfl) (by simp) ?_;refine AllReadyH.cons rfl (fun K hK => ?_) (AllReadyH.cons rfl (fun K hK => ?_) AllReadyH.nil)
  ·go_simp;refine (turn_any f x.on x.off _).mono ?_;rintro e wq1 ⟨rfl, hbn⟩;dsimp only;have HBwq1 := xH (HBwD.out.trans (hbn.mono HBwD.out.size));clear hbn;refine hK.out _ _ HBwq1.out (fun hHeld => ?_);clear hK K;try simp only [xS]
   refine wpAnyH_ready (rs := [11, 15]) (by kernel_rfl) (by simp) ?_;refine AllReadyH.cons rfl (fun K hK => ?_) (AllReadyH.cons rfl (fun K hK => ?_) AllReadyH.nil)
   ·go_simp;refine (HNC.out x0 (turnI f x.on x.off) _ (hN h (w.heap.size + 2)) (HF0.out.o.le HBwq1.out.size) (qV HBwq1.out HX.out) HOK0.out HSZ0.out).mono ?_;rintro e wq2 ⟨hbn, y, j, rfl, hn2, hst2⟩;have HN2 := xH hn2;have HT2 := xH hst2;clear hn2 hst2;dsimp only;have HBwq2 := xH (HBwq1.out.trans (hbn.mono HBwq1.out.size));clear hbn;refine hK.out _ _ HBwq2.out (fun hHeld => ?_);clear hK K;try simp only [xS]
    refine yT 12 ?_;simp only [xS];refine yT 13 ?_;simp only [xS];refine yT 14 ?_;simp only [xS];refine xD 15 rfl (fun K hK => ?_);go_simp;obtain ⟨wq3, hA, HBwq3, HDwq3, HGwq3, HAwq3⟩ := yA HBwq2 (.cells #[.int .i64 0, .int .i64 0, .int .i64 0, .slice none 0 0, .bool false, .int .i64 0, .int .i64 0, .int .i64 0, .string ⟨#[]⟩, .int .i64 0, .int .i64 0, .slice none 0 0] 27);rw [← hA];clear hA;refine hK.out _ _ HBwq3.out (fun hHeld => ?_);clear hK K;try simp only [xS]
    refine xD 16 rfl (fun K hK => ?_);refine qI rfl rfl _ _ rfl wq2.heap.size rfl _ y HGwq3.out rfl (qp HN2.out) rfl ?_;have HB4 := xH (rpw.qC HBwq3.out (ndC y).toArray (show w0.heap.size ≤ wq2.heap.size from HBwq2.out.size));have HG4 := xH (setRow_heap _ _ _ (ndC y).toArray _ _ HGwq3.out);refine hK.out _ _ HB4.out (fun hHeld => ?_);clear hK K;try simp only [xS]
    refine yT 17 ?_;simp only [xS];refine wpAnyH_done (by kernel_rfl) ?_ _;have HN4 := xH (show NdAt (sees (hN h (w.heap.size + 2)) (wq3.setRow wq2.heap.size (ndC y).toArray)) (y, j) from by
     first
     | exact vG HN2.out
     | exact qV (rpw.qC HDwq3.out (ndC y).toArray (xL _)) HN2.out)
    go_wp2_with fail
    go_meet
    exact ⟨wq2.heap.size, y, j, rfl, HG4, HB4, HN4, HT2⟩
   ·go_simp;obtain ⟨wq4, hA, HBwq4, HDwq4, HGwq4, HAwq4⟩ := yA HBwq1 (.cells #[.int .i64 0, .int .i64 0, .int .i64 0, .slice none 0 0, .bool false, .int .i64 0, .int .i64 0, .int .i64 0, .string ⟨#[]⟩, .int .i64 0, .int .i64 0, .slice none 0 0] 27);rw [← hA];clear hA;refine hK.out _ _ HBwq4.out (fun hHeld => ?_);clear hK K;try simp only [xS]
    refine xD 11 rfl (fun K hK => ?_);go_simp;refine (HNC.out x0 (turnI f x.on x.off) _ (hx (hN h (w.heap.size + 2)) (.slice (some ⟨wq1.heap.size, 0, none⟩) 1 1)) (old_add (HF0.out.o.le HBwq4.out.size) HAwq4.out) (qY (zY HBwq4.out (xL _) (fun q hq => by simp only [Value.ownBlock, dG] at hq; have := HBwq1.out.size; omega)) HX.out) HOK0.out HSZ0.out).mono ?_;rintro e wq5 ⟨hbn, y, j, rfl, hn2, hst2⟩;have HN2 := xH hn2;have HT2 := xH hst2;clear hn2 hst2;dsimp only;have HBwq5 := xH (HBwq4.out.trans (hbn.mono HBwq4.out.size));have HGwq5 := xH ((hbn.block wq1.heap.size (by have := HAwq4.out; omega)).trans HGwq4.out);have HAwq5 := xH (show wq1.heap.size < wq5.heap.size by have := HAwq4.out; have := hbn.size; omega);clear hbn;refine hK.out _ _ HBwq5.out (fun hHeld => ?_);clear hK K;try simp only [xS]
    refine yT 12 ?_;simp only [xS];refine yT 13 ?_;simp only [xS];refine yT 14 ?_;simp only [xS];refine xD 16 rfl (fun K hK => ?_);refine qI rfl rfl _ _ rfl wq1.heap.size rfl _ y HGwq5.out rfl (qp HN2.out) rfl ?_;have HB4 := xH (rpw.qC HBwq5.out (ndC y).toArray (show w0.heap.size ≤ wq1.heap.size from HBwq1.out.size));have HG4 := xH (setRow_heap _ _ _ (ndC y).toArray _ _ HGwq5.out);refine hK.out _ _ HB4.out (fun hHeld => ?_);clear hK K;try simp only [xS]
    refine yT 17 ?_;simp only [xS];refine wpAnyH_done (by kernel_rfl) ?_ _;have HN4 := xH (show NdAt (sees (hN h (w.heap.size + 2)) (wq5.setRow wq1.heap.size (ndC y).toArray)) (y, j) from by
     first
     | exact vG HN2.out
     | exact qV (rpw.qC HDwq5.out (ndC y).toArray (xL _)) HN2.out)
    go_wp2_with fail
    go_meet
    exact ⟨wq1.heap.size, y, j, rfl, HG4, HB4, HN4, HT2⟩
  ·go_simp;obtain ⟨wq6, hA, HBwq6, HDwq6, HGwq6, HAwq6⟩ := yA HBwD (.cells #[.int .i64 0, .int .i64 0, .int .i64 0, .slice none 0 0, .bool false, .int .i64 0, .int .i64 0, .int .i64 0, .string ⟨#[]⟩, .int .i64 0, .int .i64 0, .slice none 0 0] 27);rw [← hA];clear hA;refine hK.out _ _ HBwq6.out (fun hHeld => ?_);clear hK K;try simp only [xS]
   refine xD 10 rfl (fun K hK => ?_);go_simp;refine (turn_any f x.on x.off _).mono ?_;rintro e wq7 ⟨rfl, hbn⟩;dsimp only;have HBwq7 := xH (HBwq6.out.trans (hbn.mono HBwq6.out.size));have HGwq7 := xH ((hbn.block wD.heap.size (by have := HAwq6.out; omega)).trans HGwq6.out);have HAwq7 := xH (show wD.heap.size < wq7.heap.size by have := HAwq6.out; have := hbn.size; omega);clear hbn;refine hK.out _ _ HBwq7.out (fun hHeld => ?_);clear hK K;try simp only [xS]
   refine xD 11 rfl (fun K hK => ?_);go_simp;refine (HNC.out x0 (turnI f x.on x.off) _ (hx (hN h (w.heap.size + 2)) (.slice (some ⟨wD.heap.size, 0, none⟩) 1 1)) (old_add (HF0.out.o.le HBwq7.out.size) HAwq7.out) (qY (zY HBwq7.out (xL _) (fun q hq => by simp only [Value.ownBlock, dG] at hq; have := HBwD.out.size; omega)) HX.out) HOK0.out HSZ0.out).mono ?_;rintro e wq8 ⟨hbn, y, j, rfl, hn2, hst2⟩;have HN2 := xH hn2;have HT2 := xH hst2;clear hn2 hst2;dsimp only;have HBwq8 := xH (HBwq7.out.trans (hbn.mono HBwq7.out.size));have HGwq8 := xH ((hbn.block wD.heap.size (by have := HAwq7.out; omega)).trans HGwq7.out);have HAwq8 := xH (show wD.heap.size < wq8.heap.size by have := HAwq7.out; have := hbn.size; omega);clear hbn;refine hK.out _ _ HBwq8.out (fun hHeld => ?_);clear hK K;try simp only [xS]
   refine yT 12 ?_;simp only [xS];refine yT 13 ?_;simp only [xS];refine yT 14 ?_;simp only [xS];refine xD 16 rfl (fun K hK => ?_);refine qI rfl rfl _ _ rfl wD.heap.size rfl _ y HGwq8.out rfl (qp HN2.out) rfl ?_;have HB4 := xH (rpw.qC HBwq8.out (ndC y).toArray (show w0.heap.size ≤ wD.heap.size from HBwD.out.size));have HG4 := xH (setRow_heap _ _ _ (ndC y).toArray _ _ HGwq8.out);refine hK.out _ _ HB4.out (fun hHeld => ?_);clear hK K;try simp only [xS]
   refine yT 17 ?_;simp only [xS];refine wpAnyH_done (by kernel_rfl) ?_ _;have HN4 := xH (show NdAt (sees (hN h (w.heap.size + 2)) (wq8.setRow wD.heap.size (ndC y).toArray)) (y, j) from by
    first
    | exact vG HN2.out
    | exact qV (rpw.qC HDwq8.out (ndC y).toArray (xL _)) HN2.out)
   go_wp2_with fail
   go_meet
   exact ⟨wD.heap.size, y, j, rfl, HG4, HB4, HN4, HT2⟩
 case rest =>
  obtain ⟨B, y, j, rfl, HG, HB, HT5, HS5⟩ := hcut;have HRV := xH ((HB.out.block _ (by have := HF0.out.s; omega)).trans HF0.out.r);have H1 := xH (qp HT5.out);have HB1 := xH (HB.out.mono (show w.heap.size + 1 ≤ w0.heap.size by have := HF0.out.s; omega));have HS6 := xH (HS5.out.trans (congrArg Prod.fst HT.out));clear d0 d1 e0 e9 e10 e11 HX HE HNC HS5;go_wp2_with (first
   | (refine ql rfl _ rfl B rfl y HG.out ?_)
   | (refine qh rfl rfl _ _ rfl (w.heap.size + 2) rfl _ y HRV.out rfl H1.out rfl ?_))
  refine xB (qZ rfl _ _ (w.heap.size + 2) y rfl (setRow_heap _ _ _ _ _ _ HRV.out)) rfl ?_;exact vX HF0.out HB1.out HT5.out (by rw [HR2.out, ← HS6.out]; rfl) (by rw [HR2.out])
theorem node_seq {u : Bool} {m : Int} {k : F} (_hm0 : 0 ≤ m) (_hm : m ≤ 1114111) (hnode : ∀ k' : F, k'.size < k.size → NodeC u m k') (x : Lab) (f : Int) (w : World) (h : Nat → Bool) (hold : Old h w.heap.size) (hnd : NdAt (sees h w) (x, k)) (hok : OkF (F.one x k)) (hsz : k.size ≤ 30000) (hk : x.kind = 12) : Calls Try.prog 53 #[ctxV u m, ndV x, .int .i64 f] w (NodB h (nodeP u m (fun g => rowP u m k g) x k f) w) := by
 have HF0 := xH (vK (u := u) (m := m) hold hnd);have HOLD := xH hold;have HOKF := xH hok;have HLO := xH hnd.1;obtain ⟨R, hR⟩ : ∃ R, nodeP u m (fun g => rowP u m k g) x k f = R := ⟨_, rfl⟩;rw [hR];have HNO := xH hnode;have HR0 := xH (show (oneF 12 (F.app (strip F.nil) (flatF (rowP u m (k.drop 0) f).1)), (rowP u m (k.drop 0) f).2) = R from by rw [drop_zero, ← hR];unfold nodeP;rw [if_neg (by omega), if_neg (by omega), if_neg (by omega), if_neg (by omega), if_neg (by omega), if_neg (by omega), if_neg (by omega), if_pos hk];rfl)
 clear hnode;have b1 : (x.kind == 1) = false := by simp [hk]
 have b2 : (x.kind == 2) = false := by simp [hk]
 have b3 : (x.kind == 3) = false := by simp [hk]
 have b4 : (x.kind == 4) = false := by simp [hk]
 have b6 : (x.kind == 6) = false := by simp [hk]
 have b7 : (x.kind == 7) = false := by simp [hk]
 have b11 : (x.kind == 11) = false := by simp [hk]
 have b12 : (x.kind == 12) = true := by simp [hk]
 clear hold hnd hok hk hR;unfold ctxV;unfold ndC zC at HF0;go_enter Try.func53, Try.ntmps53;unfold ndV;go_upto_region 1 with (fail)
 generalize ((w.alloc _).alloc _).alloc _ = w0 at *;have d0 : w0.cell? ⟨w.heap.size, 0, none⟩ = some (.bool u) := by unfold World.cell?; rw [HF0.out.c]; rfl
 have d1 : w0.cell? ⟨w.heap.size, 1, none⟩ = some (.int .i64 m) := by unfold World.cell?; rw [HF0.out.c]; rfl
 have e0 : w0.cell? ⟨w.heap.size + 1, 0, none⟩ = some (.int .i64 x.kind) := by unfold World.cell?; rw [HF0.out.n]; rfl
 have e11 : w0.cell? ⟨w.heap.size + 1, 11, none⟩ = some (x.kv) := by unfold World.cell?; rw [HF0.out.n]; rfl
 obtain ⟨a3, q3, hkv⟩ := kids_len HF0.out.t.2.2;have HKV := xH HF0.out.t.2.2;rw [hkv] at e11 HKV;have HKE := xH hkv;have hlen : k.len ≤ 30000 := by have := rsp.len_size k; omega
 clear hkv;go_wp2_with fail
 go_loopw [2, 14, 15] (fun vf vo vi wr => SeqRel (hN h (w.heap.size + 2)) u m k R w0 vf vo vi wr) (fun _ _ vi _ => k.len - (intOf vi).toNat)
 case atStart => exact ⟨0, f, F.nil, rfl, rfl, Nat.zero_le _, (by rw [drop_zero]; simp [F.len]), xH (ownH_nil _ _ _), xH (Below.refl _ _), HR0⟩
 case round =>
  obtain ⟨i, f, g, rfl, rfl, hi, hg, hO, hB, hR⟩ := hrel;have HO := xH hO.out;have HB := xH hB.out;have HR := xH hR.out;have HFR := xH (HF0.out.below HB.out);have HG0 := xH hg;clear hO hB hR HR0 hg
  replace d0 := trw.qf HB.out d0
  replace d1 := trw.qf HB.out d1
  replace e11 := trw.qf HB.out e11
  clear e0;by_cases hlt : i < k.len
  ·obtain ⟨x0, k0, r0, hd⟩ := drop_lt hlt;obtain ⟨b, o0, cap', hv, hc1, hc2, hil, hfa⟩ := kid_at HKV.out hd;cases hv;have HS := xH (size_lt hd);have HSD := xH (drop_size hd);have HE := xH (fun j v hj => trw.qf HB.out (sees_to (hfa.1 j v hj)));have HX := xH (qY (zY HB.out (xL _) (fun q hq => (own_below HO.out.1 hq).1)) (fAt_head hfa));have HOXX := xH (fun (W : World) (hw : Below wr.heap.size wr W) => hx_old (v := u14) (m := W.heap.size) HF0.out.o (Nat.le_trans HB.out.size hw.size) HO.out.1 hw.size);have HNC := xH (fun (f : Int) W (h2 : Nat → Bool) (ho2 : Old h2 W.heap.size) (hn2 : NdAt (sees h2 W) (x0, k0)) => HNO.out k0 HS.out x0 f W h2 ho2 hn2 (okF_at HOKF.out.2.2.1 hd) (by have := HS.out; omega));have HSZ := xH (node_size u m (fun g => rowP u m k0 g) x0 k0 f (fun g => row_size u m k0 g));obtain ⟨t, ht⟩ : ∃ t, nodeP u m (fun g => rowP u m k0 g) x0 k0 f = t := ⟨_, rfl⟩;have HT := xH ht;rw [ht] at HSZ;have HNC := xH (show ∀ W (h2 : Nat → Bool), Old h2 W.heap.size → NdAt (sees h2 W) (x0, k0) → Calls Try.prog 53 #[ctxV u m, ndV x0, .int .i64 f] W (NodB h2 t W) from fun W h2 a b => ht ▸ HNC.out f W h2 a b);have HD := xH hd;have a1 := add_row b o0 i 12;clear hd hfa ht;have i1 : (i : Int) < (k.len : Int) := by omega
   go_upto_region 34 with (fail)
   go_cut [16, 17] (fun v16 v17 wx => ∃ B y j, v16 = .pointer (some ⟨B, 0, none⟩) ∧ v17 = .int .i64 t.2 ∧ Hid (wx.heap[B]? = some (.cells (ndC y).toArray 27 (0, 0))) ∧ Hid (Below wr.heap.size wr wx) ∧ Hid (NdAt (sees (hx (hN h (w.heap.size + 2)) u14) wx) (y, j)) ∧ Hid (strip (F.one y j) = t.1))
   case first =>
    go_wp2_with fail
    refine wp_region_held_drew (S := fun w' => Below wr.heap.size wr w') (by kernel_rfl) (qL wr) (fun hHeld => ?_);have HBwD := xH hHeld;clear hHeld;generalize wr.drew = wD at *;refine yG 0 (fun w' hSw => trw.qf hSw d0) (fun w' hSw => trw.qf hSw d1) ?_;simp only [xS];refine yT 1 ?_;simp only [xS];refine yF 2 (fun w' hSw => trw.qf hSw e11) ?_;simp only [xS];refine yT 3 ?_;simp only [xS];refine yT 4 ?_;simp only [xS];refine xT 5 rfl ?_ ?_ ?_;rotate_left
    ·intro w' hSw;refine jT (x := .tmp 150) (b := b) (off := o0 + i * 12) (l := x0) ?_ ?_ (fun j v hj => trw.qf hSw (HE.out j v hj)) <;> rfl
    simp only [xS];refine yT 6 ?_;simp only [xS];refine wpAnyH_ready (rs := [7, 11]) (by kernel_rfl) (by simp) ?_;refine AllReadyH.cons rfl (fun K hK => ?_) (AllReadyH.cons rfl (fun K hK => ?_) AllReadyH.nil)
    ·go_simp;refine (HNC.out _ (hx (hN h (w.heap.size + 2)) u14) (HOXX.out _ HBwD.out) (qV HBwD.out HX.out)).mono ?_;rintro e wq9 ⟨hbn, y, j, rfl, hn2, hst2⟩;have HN2 := xH hn2;have HT2 := xH hst2;clear hn2 hst2;dsimp only;have HBwq9 := xH (HBwD.out.trans (hbn.mono HBwD.out.size));clear hbn;refine hK.out _ _ HBwq9.out (fun hHeld => ?_);clear hK K;try simp only [xS]
     refine yT 8 ?_;simp only [xS];refine yT 9 ?_;simp only [xS];refine yT 10 ?_;simp only [xS];refine xD 11 rfl (fun K hK => ?_);go_simp;obtain ⟨wq10, hA, HBwq10, HDwq10, HGwq10, HAwq10⟩ := yA HBwq9 (.cells #[.int .i64 0, .int .i64 0, .int .i64 0, .slice none 0 0, .bool false, .int .i64 0, .int .i64 0, .int .i64 0, .string ⟨#[]⟩, .int .i64 0, .int .i64 0, .slice none 0 0] 27);rw [← hA];clear hA;refine hK.out _ _ HBwq10.out (fun hHeld => ?_);clear hK K;try simp only [xS]
     refine xD 12 rfl (fun K hK => ?_);refine qI rfl rfl _ _ rfl wq9.heap.size rfl _ y HGwq10.out rfl (qp HN2.out) rfl ?_;have HB4 := xH (rpw.qC HBwq10.out (ndC y).toArray (show wr.heap.size ≤ wq9.heap.size from HBwq9.out.size));have HG4 := xH (setRow_heap _ _ _ (ndC y).toArray _ _ HGwq10.out);refine hK.out _ _ HB4.out (fun hHeld => ?_);clear hK K;try simp only [xS]
     refine yT 13 ?_;simp only [xS];refine wpAnyH_done (by kernel_rfl) ?_ _;have HN4 := xH (show NdAt (sees (hx (hN h (w.heap.size + 2)) u14) (wq10.setRow wq9.heap.size (ndC y).toArray)) (y, j) from by
      first
      | exact vG HN2.out
      | exact qV (rpw.qC HDwq10.out (ndC y).toArray (xL _)) HN2.out)
     go_wp2_with fail
     go_meet
     exact ⟨wq9.heap.size, y, j, rfl, rfl, HG4, HB4, HN4, HT2⟩
    ·go_simp;obtain ⟨wq11, hA, HBwq11, HDwq11, HGwq11, HAwq11⟩ := yA HBwD (.cells #[.int .i64 0, .int .i64 0, .int .i64 0, .slice none 0 0, .bool false, .int .i64 0, .int .i64 0, .int .i64 0, .string ⟨#[]⟩, .int .i64 0, .int .i64 0, .slice none 0 0] 27);rw [← hA];clear hA;refine hK.out _ _ HBwq11.out (fun hHeld => ?_);clear hK K;try simp only [xS]
     refine xD 7 rfl (fun K hK => ?_);go_simp;refine (HNC.out _ (hx (hx (hN h (w.heap.size + 2)) u14) (.slice (some ⟨wD.heap.size, 0, none⟩) 1 1)) (old_add (HOXX.out _ HBwq11.out) HAwq11.out) (qY (zY HBwq11.out (xL _) (fun q hq => by simp only [Value.ownBlock, dG] at hq; have := HBwD.out.size; omega)) HX.out)).mono ?_;rintro e wq12 ⟨hbn, y, j, rfl, hn2, hst2⟩;have HN2 := xH hn2;have HT2 := xH hst2;clear hn2 hst2;dsimp only;have HBwq12 := xH (HBwq11.out.trans (hbn.mono HBwq11.out.size));have HGwq12 := xH ((hbn.block wD.heap.size (by have := HAwq11.out; omega)).trans HGwq11.out);have HAwq12 := xH (show wD.heap.size < wq12.heap.size by have := HAwq11.out; have := hbn.size; omega);clear hbn;refine hK.out _ _ HBwq12.out (fun hHeld => ?_);clear hK K;try simp only [xS]
     refine yT 8 ?_;simp only [xS];refine yT 9 ?_;simp only [xS];refine yT 10 ?_;simp only [xS];refine xD 12 rfl (fun K hK => ?_);refine qI rfl rfl _ _ rfl wD.heap.size rfl _ y HGwq12.out rfl (qp HN2.out) rfl ?_;have HB4 := xH (rpw.qC HBwq12.out (ndC y).toArray (show wr.heap.size ≤ wD.heap.size from HBwD.out.size));have HG4 := xH (setRow_heap _ _ _ (ndC y).toArray _ _ HGwq12.out);refine hK.out _ _ HB4.out (fun hHeld => ?_);clear hK K;try simp only [xS]
     refine yT 13 ?_;simp only [xS];refine wpAnyH_done (by kernel_rfl) ?_ _;have HN4 := xH (show NdAt (sees (hx (hN h (w.heap.size + 2)) u14) (wq12.setRow wD.heap.size (ndC y).toArray)) (y, j) from by
      first
      | exact vG HN2.out
      | exact qV (rpw.qC HDwq12.out (ndC y).toArray (xL _)) HN2.out)
     go_wp2_with fail
     go_meet
     exact ⟨wD.heap.size, y, j, rfl, rfl, HG4, HB4, HN4, HT2⟩
   case rest =>
    obtain ⟨B, y, j, rfl, rfl, HG4, HB4, HN4, HT4⟩ := hcut;have HO4 := xH (ownH_below HO.out HB4.out);have HB5 := xH (HB.out.trans (HB4.out.mono HB.out.size));have HLI := xH (list_any (hx (hN h (w.heap.size + 2)) u14) y j wc (HOXX.out wc HB4.out) HN4.out);clear HNC HOXX HX HE HKV HO HB HB4 d0 d1 e11;go_wp2_with (refine ql rfl _ rfl B rfl y HG4.out ?_)
    refine HLI.out.mono ?_;rintro e w5 ⟨hb5, v5, g5, rfl, hk5, hs5⟩;have HO5 := xH (ownH_below HO4.out hb5);have HB6 := xH (HB5.out.trans (hb5.mono HB5.out.size));have HK5 := xH hk5;have HS5 := xH hs5;have HL5 := xH (show g5.len ≤ 6 * k0.size + 6 from by
     have e1 : g5.len = (listF (bare y) (strip j)).len := by rw [← hs5, jm]
     have e2 := listF_len (bare y) (strip j);have e3 : (F.one (bare y) (strip j)).size = t.1.size := by rw [← HT4.out]; rfl
     have e4 := HSZ.out;omega)
    have HLN := xH (show g.len + g5.len ≤ 200000 by have := HL5.out; have := HSD.out; have := HG0.out; omega);have HSW := xH HB6.out.size;clear hb5 hk5 hs5 HO4 HB5 HLI HN4 HG4;dsimp only;go_wp2_with (at_builtin; refine wpList_append_h rfl _ _ rfl (hN h (w.heap.size + 2)) w0.heap.size u14 g rfl HO5.out HF0.out.o _ g5 rfl HK5.out HLN.out HSW.out ?_; intro v18 w18 h18 hb18; have HO18 := xH h18; have HB18 := xH (HB6.out.trans hb18); clear h18 hb18)
    have hi1 : i + 1 ≤ k.len := by omega
    refine ⟨⟨i + 1, t.2, F.app g g5, rfl, rfl, hi1, ?_, HO18, HB18, xH ?_⟩, ?_⟩
    ·rw [rsp.jd];have := HL5.out;have := HSD.out;have := HG0.out;omega
    ·rw [← HR.out, jH, HS5.out, HD.out, rowP, HT.out, drop_succ HD.out];simp only;rw [app_assoc, ← HT4.out];rfl
    ·simp only [intOf];omega
  ·have hge : ¬ ((i : Int) < (k.len : Int)) := by omega
   obtain ⟨qa, qc, rfl⟩ : ∃ a c, u14 = .slice a g.len c := zJ HO.out.1;have HE := xH (show k.drop i = .nil from drop_end (by omega));have HKD := xH (ownH_kids HO.out HF0.out.o);have HVT := xH (zk 12 (by unfold I64; omega) HKD.out);have HOS := xH (jV 12 (.slice qa g.len qc) g);have HON := xH (seq_any (.slice qa g.len qc) g wr (jh (fun _ _ hc => sees_to hc) HKD.out));generalize oneR 12 (.slice qa g.len qc) g = tt at *;clear hlt;go_wp2_with fail
   refine HON.out.mono ?_;rintro e w4 ⟨rfl, hb⟩;have HT4 := xH (qV hb HVT.out);have HRV := xH (HFR.out.below hb).r;have HB4 := xH (show Below (w.heap.size + 1) w0 w4 from (HB.out.trans (hb.mono HB.out.size)).mono (by have := HF0.out.s; omega));have H1 := xH (qp HT4.out);clear hb;dsimp only;go_wp2_with (refine qh rfl rfl _ _ rfl (w.heap.size + 2) rfl _ tt.1 HRV.out rfl H1.out rfl ?_)
   refine xB (qZ rfl _ _ (w.heap.size + 2) tt.1 rfl (setRow_heap _ _ _ _ _ _ HRV.out)) rfl ?_;exact vX (j := tt.2) HF0.out HB4.out HT4.out (by rw [← HR.out, HE.out, HOS.out]; show oneF 12 (strip g) = oneF 12 (F.app (strip g) .nil); rw [app_nil]) (by rw [← HR.out, HE.out]; rfl)
end rsw
end
end Go.Proofs.Ytdgfclbajjjcgaa
