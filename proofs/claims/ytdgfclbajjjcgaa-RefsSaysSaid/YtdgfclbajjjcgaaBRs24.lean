/- T -/
import Derived.Deep.Cut
import Derived.KernelRfl
import Derived.Lib.SlBytesConst
import Derived.Test.YtdgfclbajjjcgaaBRs23
set_option maxHeartbeats 16000000
set_option maxRecDepth 1000000
namespace Go.Proofs.Ytdgfclbajjjcgaa
section
namespace gqw
open sq
open Go.Sort Go Go.RowKit Go.Maps setp setw tkp trp trw rpp rsp gpp sq
open rpw (sees jB qU own_below qp qh ql qI)
open rsw (Old OwnH hN sees_to ownH_kids nd_unN qV)
open gpw (nmC nmC_snoc infoNm name_e name_y row_slice results_num held_app_nm)
theorem rnumber_any (h : Nat → Bool) (x : Lab) (k : F) (w : World) (hold : Old h w.heap.size) (hnd : NdAt (sees h w) (x, k)) (hsz : k.size < 100000) : Calls Try.prog 15 #[ndV x] w (RNumB h (refN x k 0) (nameR [] (capL (refN x k 0).1)) w) := by
 have HF0 := xH (rf_start hold hnd);obtain ⟨T, hT⟩ : ∃ T, refN x k 0 = T := ⟨_, rfl⟩;rw [hT];have HNum := xH (fun w0 (h : Nat → Bool) (ho : Old h w0.heap.size) (hn : NdAt (sees h w0) (x, k)) => hT ▸ num_any k x 0 w0 h ho hn (Int.le_refl _) (by omega));have HTS := xH (show T.1.size ≤ 100001 from by
  have : ∀ (f : F) (rs : Bool) (a b : Int), (refF rs a f b).1.size = f.size := by
   intro f
   induction f with
   | nil => intros; rfl
   | cons x k r ih1 ih2 => intro rs a b; rw [refF]; simp only [F.size]; rw [ih1, ih2]
  rw [← hT];unfold refN;simp only [F.one, F.size];rw [this, rsp.strip_size];omega)
 obtain ⟨C, hC⟩ : ∃ C, nameR [] (capL T.1) = C := ⟨_, rfl⟩;rw [hC];have HC := xH hC;clear hold hnd hT hC hsz;unfold ndC zC at HF0;go_enter Try.func15, Try.ntmps15;unfold ndV;go_upto_region 1 with (fail)
 generalize (w.alloc _).alloc _ = w0 at *;have HN0 := xH (HNum.out w0 _ HF0.out.o HF0.out.t);have HG0 : Hid (w0.heap[w.heap.size]? = some (.cells (ndC x).toArray 27 (0, 0))) := xH HF0.out.n;go_wp2_with (first
  | (refine ql rfl _ rfl w.heap.size rfl x HG0.out ?_)
  | (refine HN0.out.mono ?_))
 rintro e w2 ⟨hb2, y, j, rfl, hn2, hst2⟩;have HT2 := xH hst2;have HF2 := xH (HF0.out.below hb2);have HY := xH (qp hn2);have HG2 := xH (heap_alloc_new w2 (.cells zC.toArray 27));have HST := xH (show ∀ w4, w4 = (w2.alloc (.cells zC.toArray 27)).setRow w2.heap.size (ndC y).toArray → Below w2.heap.size w2 w4 ∧ w4.heap[w2.heap.size]? = some (.cells (ndC y).toArray 27 (0, 0)) from fun w4 h4 => by subst h4;exact ⟨rpw.jU w2 _ _ _, setRow_heap _ _ _ _ _ _ (heap_alloc_new w2 _)⟩)
 have HNY := xH hn2;have HJ := xH (show j.size ≤ 100000 by have h1 := HTS.out;rw [← hst2, rsp.strip_size] at h1;simp only [F.one, F.size] at h1;omega)
 have HCP := xH (show capL T.1 = capN y j from by rw [← hst2];show capL (strip (.cons y j .nil)) = _;rw [capL_cons];exact List.append_nil _)
 unfold zC at HG2 HST;clear hb2 hn2 hst2 HF0 HG0 HN0 HNum;dsimp only;go_upto_region 2 with (refine wpList_store_ny rfl rfl _ _ rfl w2.heap.size rfl _ y HG2.out rfl HY.out rfl ?_; intro w4 h4; obtain ⟨hb4, hg4⟩ := HST.out w4 h4.out; have HB24 := xH hb4; have HG4 := xH hg4; clear h4 hb4 hg4)
 have HF4 := xH (HF2.out.below HB24.out);have HN4 := xH (qV HB24.out HNY.out);have HBL := xH (show w.heap.size + 2 ≤ w2.heap.size from HF2.out.s);generalize w2.heap.size = B at *;clear HNY HB24 HG2 HST HF2;have HCap := xH (cap_any j y w4 _ HF4.out.o HN4.out HJ.out);go_wp2_with (first
  | (refine ql rfl _ rfl B rfl y HG4.out ?_)
  | (refine HCap.out.mono ?_))
 rintro e w5 ⟨hb5, v5, f, rfl, ho5, ht5⟩;have HF5 := xH (HF4.out.below hb5);have HG5 := xH ((hb5.block B (by have := (Array.getElem?_eq_some_iff.1 HG4.out).1; exact this)).trans HG4.out);have HN5 := xH (qV hb5 HN4.out);have HKF := xH (ownH_kids ho5 HF4.out.o);have HFL := xH (show f.len ≤ 100001 by have h1 := topL_len (strip f);rw [rpw.jm] at h1;have h2 := capL_len T.1;rw [HCP.out, ← ht5, h1] at h2;have := HTS.out;omega)
 have HCC := xH (show nameR [] ((topL (strip f)).drop 0) = C from by rw [List.drop_zero, ht5, ← HCP.out]; exact HC.out);obtain ⟨fa, fq, rfl⟩ := kids_len HKF.out;clear hb5 ho5 ht5 HF4 HG4 HN4 HCap HC HCP;dsimp only;go_wp2_with fail
 go_loopw [10, 11] (fun vn vi wr => NmRel f C w5 vn vi wr) (fun _ vi _ => f.len - (intOf vi).toNat)
 case atStart => exact ⟨0, [], rfl, Nat.zero_le _, xL _, xH (World.ownsRow_nil _ _ _ _), xH (fun _ => rfl), xH (Below.refl _ _), HCC⟩
 case round =>
  obtain ⟨i, l, rfl, hi, hli, HO, HZ, HB, HR⟩ := hrel;obtain ⟨na, nc, hnv⟩ := row_slice HO.out;by_cases hlt : i < f.len
  ·obtain ⟨y', kk, r, hd⟩ := drop_lt hlt;obtain ⟨b1, o, q, hv, _, _, _, hf⟩ := kid_at HKF.out hd;cases hv;have HE := xH (fun j v hj => trw.qf HB.out (sees_to (hf.1 j v hj)));have HB1 := xH (show b1 ≠ w.heap.size + 1 from fun e => by have := (jB.1 (hf.1 1 _ rfl)).1;simp [hN, e] at this)
   have HB1L := xH (show b1 < w5.heap.size from cell_lt (sees_to (hf.1 1 _ rfl)));have HTL := xH (topL_at hd);have e1 : wr.cell? ⟨b1, o + i * 12 + 1, none⟩ = some (.int .i64 y'.at_) := HE.out 1 _ rfl;have e5 : wr.cell? ⟨b1, o + i * 12 + 5, none⟩ = some (.int .i64 y'.n) := HE.out 5 _ rfl;have e8 : wr.cell? ⟨b1, o + i * 12 + 8, none⟩ = some (.string y'.name) := HE.out 8 _ rfl;have a1 := add_row b1 o i 12;have i1 : (i : Int) < (f.len : Int) := by omega
   clear hd hf;by_cases h60 : 60 < y'.n
   ·have b60 : decide (y'.n > 60) = true := decide_eq_true h60;have HRR := xH (show C = ((12, y'.at_), l) from by rw [← HR.out, HTL.out];exact nameR_err (e := 12) (l' := l) (addR_60 (x := bare y') h60) (by decide))
    have HS2 := xH (show wr.heap[w.heap.size + 1]? = some (.cells #[.int .i64 0, .int .i64 0, .int .i64 0, .slice none 0 0, .bool false, .int .i64 0, .int .i64 0, .int .i64 0, .string ⟨#[]⟩, .int .i64 0, .int .i64 0, .slice none 0 0] 27 (0, 0)) from (HB.out.block _ (by have := HF5.out.s; omega)).trans HF5.out.r);go_upto_region 8 with (fail)
    refine wp_region_held_drew (S := fun w' => w'.heap[b1]? = wr.heap[b1]?) (by kernel_rfl) rfl (fun hHeld => ?_);refine yT 0 ?_;simp only [xS];refine yT 1 ?_;simp only [xS];refine yT 2 ?_;simp only [xS];refine yT 3 ?_;simp only [xS];refine yT 4 ?_;simp only [xS];refine yF 5 (fun w' hS => (World.cell?_of_block (a := ⟨b1, o + i * 12 + 1, none⟩) hS).trans e1) ?_;simp only [xS];refine xD 6 rfl (fun K hK => ?_);refine qI rfl rfl _ _ rfl (w.heap.size + 1) rfl _ (lab 0 0) HS2.out rfl (qp (t := (lab 0 0, F.nil)) (rpw.zero_at w)) rfl ?_;have HSR := xH (show (wr.drew.setRow (w.heap.size + 1) (ndC (lab 0 0)).toArray).heap[b1]? = wr.heap[b1]? from tkw.setRow_other _ _ _ _ (by have := HB1.out; omega));refine hK.out _ _ HSR.out (fun hHeld => ?_);clear hK K;try simp only [xS]
    refine yT 7 ?_;simp only [xS];refine yT 8 ?_;simp only [xS];refine yT 9 ?_;simp only [xS];refine yT 10 ?_;simp only [xS];refine wpAnyH_done (by kernel_rfl) ?_ _;go_wp2_with fail
    refine xB (results_num rfl _ _ (w.heap.size + 1) (lab 0 0) rfl (setRow_heap _ _ _ _ _ _ HS2.out)) rfl ?_;exact ⟨rpw.qC (qi HF5.out.b (HB.out.trans (Below.refl _ _).drew)) _ (by omega), .inl ⟨by rw [HRR.out]; show (12 : Int) ≠ 0; decide, by rw [HRR.out]; rfl⟩⟩
   have HZO := xH (show y'.n ≤ 60 by omega);by_cases hnm : y'.name.size = 0
   ·have b8 := name_y hnm;have HRN := xH (show nameR l ((topL (strip f)).drop (i + 1)) = C from by rw [← HR.out, HTL.out, nameR_go (addR_no (x := bare y') h60 hnm)]);clear hnm;go_wp2_with fail
    go_roundw
    case rel => exact ⟨i + 1, l, by go_num, by omega, by omega, HO, HZ, HB, HRN⟩
    case measure => simp [intOf]; omega
   have HNM := xH hnm;have b8 := name_e hnm;subst hnv;have HNI := xH (nm_i9 HO.out HZ.out (by have := HFL.out; omega));clear hnm;have hl5 : (l.length : Int) ≤ 9223372036854775807 := by omega
   go_wp2_with fail
   go_loopw [12, 13] (fun vt vm wx => InRel (bare y') l wr vt vm wx) (fun _ vm _ => l.length - (intOf vm).toNat)
   case atStart => exact ⟨0, rfl, Nat.zero_le _, by rw [List.take_zero]; rfl, xH (by rw [List.take_zero]; rfl), xH (Below.refl _ _)⟩
   case round =>
    obtain ⟨m, rfl, hm, rfl, HOt, HBi⟩ := hrel;have r1 := trw.qf HBi.out e1;have r5 := trw.qf HBi.out e5;have r8 := trw.qf HBi.out e8;by_cases hlm : m < l.length
    ·obtain ⟨p, hp⟩ : ∃ p, l[m]? = some p := ⟨_, List.getElem?_eq_getElem hlm⟩;obtain ⟨na', nc', hs', _, hcs⟩ := HNI.out;cases hs';obtain ⟨gb, rfl, hcz⟩ := hcs.resolve_left (fun e => by rw [e] at hlm; exact absurd hlm (Nat.not_lt_zero _));have HP := xH (hcz m p hp);have HPM := xH hp;have n0 := trw.qf HBi.out HP.out.1;have n1 := trw.qf HBi.out HP.out.2;have hmi : m < 9223372036854775807 := by omega
     have m1 : (m : Int) < (l.length : Int) := by omega
     clear hp hcs hcz;obtain ⟨bad, hbad⟩ : ∃ bad : Bool, (decide (p.1 = y'.name) && decide (p.2 ≠ y'.n)) = bad := ⟨_, rfl⟩;have HBAD := xH hbad;go_upto_region 14 with (fail)
     go_cut [74] from 45 to 94 (fun v74 wx => v74 = .bool bad ∧ Hid (Below wr.heap.size wr wx))
     case first =>
      by_cases heq : p.1 = y'.name
      ·have beq : (p.1.toList == y'.name.toList) = true := by rw [heq]; exact beq_self_eq_true _
       have hb2 : (p.2 != y'.n) = bad := by rw [← hbad];simp [heq];rfl
       clear heq hbad
       go_quiet (fail)
       rename_i nq;go_wp2_with fail
       go_meet
       exact ⟨by first | rfl | rw [hb2], xH (tkw.zI (Below.refl _ _) nq)⟩
      ·have beq := name_n9 heq;have hb2 : bad = false := by rw [← hbad]; simp [heq]
       subst hb2;clear heq hbad
       go_quiet (fail)
       rename_i nq;go_wp2_with fail
       go_meet
       exact ⟨rfl, xH (tkw.zI (Below.refl _ _) nq)⟩
     case rest =>
      obtain ⟨rfl, HBx⟩ := hcut;generalize wc = w6 at *;have HB6 := xH (HB.out.trans ((HBi.out.trans (HBx.out.mono HBi.out.size)).mono HB.out.size));have HBi6 := xH (HBi.out.trans (HBx.out.mono HBi.out.size));have x1 := trw.qf HBi6.out e1;have x8 := trw.qf HBi6.out e8;have k0 := trw.qf HBi6.out HP.out.1;clear r1 r5 r8 n0 n1 hbad;cases bad with
      | true =>
       have HOO := xH (show p.1 = y'.name ∧ p.2 ≠ y'.n from by simpa using HBAD.out);have HRR := xH (show C = ((33, y'.at_), l) from by rw [← HR.out, HTL.out];exact nameR_err (e := 33) (l' := l) (addR_33 (x := bare y') (show ¬ 60 < y'.n by have := HZO.out; omega) HNM.out (othL9_of HPM.out HOO.out.1 HOO.out.2)) (by decide))
       have HS2 := xH (show w6.heap[w.heap.size + 1]? = some (.cells #[.int .i64 0, .int .i64 0, .int .i64 0, .slice none 0 0, .bool false, .int .i64 0, .int .i64 0, .int .i64 0, .string ⟨#[]⟩, .int .i64 0, .int .i64 0, .slice none 0 0] 27 (0, 0)) from (HB6.out.block _ (by have := HF5.out.s; omega)).trans HF5.out.r);go_upto_region 15 with (fail)
       refine wp_region_held_drew (S := fun w' => w'.heap[b1]? = w6.heap[b1]?) (by kernel_rfl) rfl (fun hHeld => ?_);refine yT 0 ?_;simp only [xS];refine yT 1 ?_;simp only [xS];refine yT 2 ?_;simp only [xS];refine yT 3 ?_;simp only [xS];refine yT 4 ?_;simp only [xS];refine yF 5 (fun w' hS => (World.cell?_of_block (a := ⟨b1, o + i * 12 + 1, none⟩) hS).trans x1) ?_;simp only [xS];refine xD 6 rfl (fun K hK => ?_);refine qI rfl rfl _ _ rfl (w.heap.size + 1) rfl _ (lab 0 0) HS2.out rfl (qp (t := (lab 0 0, F.nil)) (rpw.zero_at w)) rfl ?_;have HSR := xH (show (w6.drew.setRow (w.heap.size + 1) (ndC (lab 0 0)).toArray).heap[b1]? = w6.heap[b1]? from tkw.setRow_other _ _ _ _ (by have := HB1.out; omega));refine hK.out _ _ HSR.out (fun hHeld => ?_);clear hK K;try simp only [xS]
       refine yT 7 ?_;simp only [xS];refine yT 8 ?_;simp only [xS];refine yT 9 ?_;simp only [xS];refine yT 10 ?_;simp only [xS];refine wpAnyH_done (by kernel_rfl) ?_ _;go_wp2_with fail
       refine xB (results_num rfl _ _ (w.heap.size + 1) (lab 0 0) rfl (setRow_heap _ _ _ _ _ _ HS2.out)) rfl ?_;exact ⟨rpw.qC (qi HF5.out.b (HB6.out.trans (Below.refl _ _).drew)) _ (by omega), .inl ⟨by rw [HRR.out]; show (33 : Int) ≠ 0; decide, by rw [HRR.out]; rfl⟩⟩
      | false =>
       have HO2 := xH (show othL9 (l.take (m + 1)) (bare y') = false from by unfold othL9;rw [take_any _ HPM.out, Bool.or_eq_false_iff];exact ⟨HOt.out, HBAD.out⟩)
       obtain ⟨c, hc⟩ : ∃ c : Bool, inL9 (l.take m) (bare y') = c := ⟨_, rfl⟩;rw [hc];obtain ⟨c2, hc2⟩ : ∃ c2 : Bool, (c || decide (p.1 = y'.name)) = c2 := ⟨_, rfl⟩;have HC2 := xH (show inL9 (l.take (m + 1)) (bare y') = c2 from by unfold inL9 at hc ⊢;rw [take_any _ HPM.out, hc, ← hc2];rfl)
       clear hc;cases c with
       | true =>
        have hc3 : c2 = true := by rw [← hc2]; rfl
        subst hc3;clear hc2;exact z158
       | false =>
        by_cases heq : p.1 = y'.name
        ·have beq : (p.1.toList == y'.name.toList) = true := by rw [heq]; exact beq_self_eq_true _
         have hc3 : c2 = true := by rw [← hc2]; simp [heq]
         exact z52
        ·have beq := name_n9 heq;have hc3 : c2 = false := by rw [← hc2]; simp [heq]
         exact z52
    ·have hml : m = l.length := by omega
     subst hml;have HOl := xH (show othL9 l (bare y') = false from by have := HOt.out; rw [List.take_length] at this; exact this);obtain ⟨c, hc⟩ : ∃ c : Bool, inL9 (l.take l.length) (bare y') = c := ⟨_, rfl⟩;rw [hc];rw [List.take_length] at hc;have HBn := xH (HB.out.trans (HBi.out.mono HB.out.size));have HOn := xH (tkw.jJ HO.out fun q hq => HBi.out.block q (own_below HO.out hq).2);have hd : decide (l.length < l.length) = false := by simp
     clear hlm;cases c with
     | true =>
      have HRN := xH (show nameR l ((topL (strip f)).drop (i + 1)) = C from by rw [← HR.out, HTL.out, nameR_go (addR_in (x := bare y') (show ¬ 60 < y'.n by have := HZO.out; omega) HNM.out HOl.out hc)]);clear hc;go_wp2_with fail
      go_roundw
      case rel => exact ⟨i + 1, l, by go_num, by omega, by omega, HOn, HZ, HBn, HRN⟩
      case measure => simp [intOf]; omega
     | false =>
      have HRN := xH (show nameR (l ++ [(y'.name, y'.n)]) ((topL (strip f)).drop (i + 1)) = C from by rw [← HR.out, HTL.out, nameR_go (addR_new (x := bare y') (show ¬ 60 < y'.n by have := HZO.out; omega) HNM.out HOl.out hc)]; rfl);clear hc;go_upto_region 18 with (fail)
      refine wp_region_held_drew (S := fun w' => w'.heap[b1]? = wr.heap[b1]?) (by kernel_rfl) rfl (fun hHeld => ?_);refine yT 0 ?_;simp only [xS];refine yT 1 ?_;simp only [xS];refine yT 2 ?_;simp only [xS];refine yT 3 ?_;simp only [xS];refine yT 4 ?_;simp only [xS];refine yF 5 (fun w' hS => (World.cell?_of_block (a := ⟨b1, o + i * 12 + 8, none⟩) hS).trans r8) ?_;simp only [xS];refine yT 6 ?_;simp only [xS];refine yT 7 ?_;simp only [xS];refine yT 8 ?_;simp only [xS];refine yT 9 ?_;simp only [xS];refine yF 10 (fun w' hS => (World.cell?_of_block (a := ⟨b1, o + i * 12 + 5, none⟩) hS).trans r5) ?_;simp only [xS];refine yT 11 ?_;simp only [xS];have HDD := xH (show Below w5.heap.size w5 wr.drew from HBn.out.trans ((Below.refl wr.heap.size wr).drew.mono HBn.out.size));have HOd := xH (show wr.drew.ownsRow w5.heap.size 67 2 (.slice na l.length nc) l.length (nmC l) from tkw.jJ HOn.out fun _ _ => rfl);refine xD 12 rfl (fun K hK => ?_);go_simp;have HX := xH (show (wr.drew.alloc (.cells #[.string y'.name, .int .i64 y'.n] 67)).heap[b1]? = wr.heap[b1]? from (heap_alloc_old _ _ (by have := HB1L.out; have := HDD.out.size; omega)).trans rfl);refine hK.out _ _ HX.out (fun hHeld => ?_);clear hK K;try simp only [xS]
      refine xD 13 rfl (fun K hK => ?_);refine held_app_nm rfl _ _ rfl (q := (y'.name, y'.n)) rfl HOd.out rfl rfl rfl (by have := HFL.out; omega) HDD.out.size ?_;intro v8 w8 h8 _ hb8;have HO8 := xH h8;have HB8 := xH (HDD.out.trans hb8);have HX8 := xH (show w8.heap[b1]? = wr.heap[b1]? from (hb8.block b1 HB1L.out).trans rfl);clear h8 hb8;refine hK.out _ _ HX8.out (fun hHeld => ?_);clear hK K;try simp only [xS]
      refine yT 14 ?_;simp only [xS];refine wpAnyH_done (by kernel_rfl) ?_ _;go_wp2_with fail
      go_roundw
      case rel => exact ⟨i + 1, l ++ [(y'.name, y'.n)], by go_num, by omega, by simp; omega, HO8, xH (fun e => by simp at e), HB8, HRN⟩
      case measure => simp [intOf]; omega
  ·have HE := xH (show nameR l [] = C from by rw [← HR.out, List.drop_eq_nil_of_le (by rw [topL_len, rpw.jm]; omega)])
   have hd : decide (i < f.len) = false := by simpa using hlt
   subst hnv;have HGY := xH ((HB.out.block B (Array.getElem?_eq_some_iff.1 HG5.out).1).trans HG5.out);have HFY := xH (HF5.out.below HB.out);have HNY := xH (qV HB.out HN5.out);have HOY := xH (gpw.own_base HO.out (show w.heap.size ≤ w5.heap.size by have := HF5.out.s; omega));clear hlt HG5 HN5;go_wp2_with (first
    | (refine ql rfl _ rfl B rfl y HGY.out ?_)
    | (refine qh rfl rfl _ _ rfl (w.heap.size + 1) rfl _ y HFY.out.r rfl HY.out rfl ?_))
   refine xB (results_num rfl _ _ (w.heap.size + 1) y rfl (setRow_heap _ _ _ _ _ _ HFY.out.r)) rfl ?_;refine ⟨rpw.qC HFY.out.b _ (by omega), .inr ⟨by rw [← HE.out]; rfl, y, j, _, rfl, nd_unN HNY.out, HT2.out, ?_, ?_⟩⟩
   ·rw [← HE.out];exact tkw.jJ HOY.out fun q hq => tkw.setRow_other _ _ _ _ (fun e => by have := (own_below HO.out hq).1; have := HF5.out.s; omega)
   ·rw [← HE.out];exact HZ.out
end gqw
end
section
namespace gpp
open sq
open Go tkp trp rpp rsp setp setw
theorem allNm_app : ∀ {f g : F}, AllNm f → AllNm g → AllNm (F.app f g)
 | .nil, _, _, h => h
 | .cons _ _ _, _, h, k => ⟨h.1, h.2.1, allNm_app h.2.2 k⟩
theorem yj {x : Lab} {k : F} (h1 : x.name.size ≤ 9223372036854775807) (h3 : AllNm k) : AllNm (F.one x k) := ⟨h1, h3, trivial⟩
theorem nmL (k a : Int) : (lab k a).name.size ≤ 9223372036854775807 := by show (⟨#[]⟩ : ByteArray).size ≤ _; decide
theorem allNm_oneF (kind : Int) : ∀ {l : F}, AllNm l → AllNm (oneF kind l)
 | .nil, _ => ⟨nmL 0 0, trivial, trivial⟩
 | .cons x k .nil, h => h
 | .cons x k (.cons y j r), h => ⟨nmL 0 0, h, trivial⟩
theorem getD_nm {L : List Tk} (hL : ∀ t ∈ L, t.name.size ≤ 9223372036854775807) (i : Nat) : (L.getD i zeroT).name.size ≤ 9223372036854775807 := by
 rw [List.getD_eq_getElem?_getD];cases h : L[i]? with
 | none => show (⟨#[]⟩ : ByteArray).size ≤ _; decide
 | some t => exact hL t (List.mem_of_getElem? h)
theorem allNm_group {t : Tk} (ht : t.name.size ≤ 9223372036854775807) {look l : F} (h1 : AllNm look) (h2 : AllNm l) : AllNm (jf t look l) := by
 have ho := allNm_oneF 13 h2;unfold jf
 repeat' split
 ·exact yj ht ho
 ·exact yj (nmL 0 0) ho
 ·exact yj (nmL 0 0) ho
 ·exact yj (nmL 0 0) ho
 ·exact yj (nmL 0 0) h2
 ·exact yj ht (allNm_app h1 h2)
theorem allNm_zero : AllNm zeroF := yj (nmL 0 0) trivial
def accNm : Md → Prop
 | .alt acc => AllNm acc
 | .seq acc => AllNm acc
 | .thing => True
theorem run_nm {L : List Tk} (hL : ∀ t ∈ L, t.name.size ≤ 9223372036854775807) : ∀ (n : Nat) (md : Md) (s : Ps), accNm md → AllNm (run L n md s).1
 | 0, _, _, _ => trivial
 | n + 1, .alt acc, s, h => by
  have a := run_nm hL n (.seq .nil) s trivial;rw [run];simp only;split
  ·exact run_nm hL n (.alt _) _ (allNm_app h a)
  ·exact allNm_app h a
 | n + 1, .seq acc, s, h => by
  rw [run];split
  ·exact allNm_oneF 12 h
  ·split
   ·exact allNm_zero
   ·have a := run_nm hL n .thing s trivial;simp only;split
    ·exact run_nm hL n (.seq _) _ (allNm_app h (yj (nmL 0 0) a))
    ·exact run_nm hL n (.seq _) _ (allNm_app h a)
 | n + 1, .thing, s, _ => by
  rw [run];simp only;split
  ·exact yj (getD_nm hL s.i) trivial
  ·split
   ·exact allNm_zero
   ·have hq : AllNm (if (L.getD s.i zeroT).n = 13 ∧ kindS L ⟨s.i + 1, s.op + 1, s.e, s.at_⟩ = 10 then run L n .thing ⟨s.i + 1, s.op + 1, s.e, s.at_⟩ else (.nil, ⟨s.i + 1, s.op + 1, s.e, s.at_⟩)).1 := by
     split
     ·exact run_nm hL n .thing _ trivial
     ·trivial
    generalize (if (L.getD s.i zeroT).n = 13 ∧ kindS L ⟨s.i + 1, s.op + 1, s.e, s.at_⟩ = 10 then run L n .thing ⟨s.i + 1, s.op + 1, s.e, s.at_⟩ else (.nil, ⟨s.i + 1, s.op + 1, s.e, s.at_⟩)) = q at *;split
    ·exact allNm_zero
    ·exact allNm_group (getD_nm hL s.i) hq (run_nm hL n (.alt .nil) _ trivial)
theorem parse_nm {L : List Tk} {n : Int} {f : F} (hL : ∀ t ∈ L, t.name.size ≤ 9223372036854775807) (h : parseP L n = .ok f) : AllNm f := by
 have a := run_nm hL (3 * L.length + 3) (.alt .nil) { i := 0 } trivial;unfold parseP at h;generalize run L (3 * L.length + 3) (.alt .nil) { i := 0 } = r at *;simp only at h;generalize (if r.2.e = 0 ∧ r.2.i < L.length then failS r.2 31 (L.getD r.2.i zeroT).at_ else r.2) = s at h;split at h
 ·cases h
 ·split at h
  ·cases h
  ·cases h;exact allNm_oneF 13 a
def NmS : F → Prop
 | .nil => True
 | .cons x k r => (x.name.size ≤ 9223372036854775807 ∧ x.set.length ≤ 1000000) ∧ NmS k ∧ NmS r
theorem nmS_app : ∀ {f g : F}, NmS f → NmS g → NmS (F.app f g)
 | .nil, _, _, h => h
 | .cons _ _ _, _, h, k => ⟨h.1, h.2.1, nmS_app h.2.2 k⟩
theorem nmS_one {x : Lab} {k : F} (h1 : x.name.size ≤ 9223372036854775807 ∧ x.set.length ≤ 1000000) (h3 : NmS k) : NmS (F.one x k) := ⟨h1, h3, trivial⟩
theorem nmSL (k a : Int) : (lab k a).name.size ≤ 9223372036854775807 ∧ (lab k a).set.length ≤ 1000000 := ⟨nmL k a, by simp [lab]⟩
theorem nmS_oneF (kind : Int) : ∀ {l : F}, NmS l → NmS (oneF kind l)
 | .nil, _ => ⟨nmSL 0 0, trivial, trivial⟩
 | .cons x k .nil, h => h
 | .cons x k (.cons y j r), h => ⟨nmSL 0 0, h, trivial⟩
theorem nmS_first : ∀ {l : F}, NmS l → NmS (firstF l)
 | .nil, h => h
 | .cons x k r, h => ⟨h.1, h.2.1, trivial⟩
theorem nmS_list {x : Lab} {k : F} (h1 : x.name.size ≤ 9223372036854775807 ∧ x.set.length ≤ 1000000) (h : NmS k) : NmS (listF x k) := by
 unfold listF;split
 ·exact h
 ·exact nmS_one h1 h
theorem nmS_flat : ∀ {l : F}, NmS l → NmS (flatF l)
 | .nil, _ => trivial
 | .cons x k r, h => nmS_app (nmS_list h.1 h.2.1) (nmS_flat h.2.2)
theorem nmS_strip : ∀ {f : F}, NmS (strip f) ↔ NmS f
 | .nil => Iff.rfl
 | .cons x k r => by rw [strip];unfold NmS;rw [nmS_strip (f := k), nmS_strip (f := r)]
theorem nmS_ok : ∀ {f : F}, OkF f → AllNm f → NmS f
 | .nil, _, _ => trivial
 | .cons x k r, h, g => ⟨⟨g.1, by have := h.1; omega⟩, nmS_ok h.2.2.1 g.2.1, nmS_ok h.2.2.2 g.2.2⟩
theorem canon_len : ∀ {l : List Rg} {lo : Int}, l.Pairwise (fun a b => a.2 + 1 < b.1) → (∀ r ∈ l, lo ≤ r.1 ∧ r.1 ≤ r.2 ∧ r.2 ≤ 1114111) → 0 ≤ lo → lo ≤ 1114112 → (l.length : Int) * 2 ≤ 1114113 - lo
 | [], lo, _, _, _, h => by simp; omega
 | r :: l, lo, hp, hr, h0, h1 => by
  have a := hr r (List.mem_cons_self ..);have hp1 := List.pairwise_cons.1 hp;cases l with
  | nil => simp; omega
  | cons q l =>
   have b := hp1.1 q (List.mem_cons_self ..);have c := hr q (List.mem_cons_of_mem _ (List.mem_cons_self ..));have := canon_len (l := q :: l) (lo := r.2 + 2) hp1.2 (fun s hs => by have d := hr s (List.mem_cons_of_mem _ hs);have e := hp1.1 s hs;exact ⟨by omega, d.2⟩) (by omega) (by omega)
   simp only [List.length_cons] at this ⊢;omega
theorem canon_le {l : List Rg} (h : Canon l) : l.length ≤ 1000000 := by have := canon_len (lo := 0) h.1 h.2 (Int.le_refl _) (by decide);omega
theorem setP_canon (u : Bool) {m : Int} (hm : m ≤ 1114111) (l : List Rg) (cl neg : Bool) : Canon (setP u m l cl neg) := by exact z108
theorem nmS_set {l : List Rg} (a : Int) (h : l.length ≤ 1000000) : NmS (setL a l) := nmS_one ⟨nmL 0 0, h⟩ trivial
theorem nmS_line {m : Int} (hm : m ≤ 1114111) (a : Int) : NmS (lineF m a) := by unfold lineF;exact nmS_one (nmSL 0 0) (nmS_one (nmSL 0 0) (nmS_app (nmS_one (nmSL 0 0) (nmS_app (nmS_set a (by simp)) (nmS_set a (by simp)))) (nmS_set a (canon_le (ja hm _)))))
theorem nmS_node {u : Bool} {m : Int} (hm : m ≤ 1114111) {rk : Int → F × Int} {x : Lab} {k : F} (hx : x.name.size ≤ 9223372036854775807 ∧ x.set.length ≤ 1000000) (hk : NmS k) (hr : ∀ g, NmS (rk g).1) (f : Int) : NmS (nodeP u m rk x k f).1 := by
 unfold nodeP
 repeat' split
 ·exact nmS_set _ (canon_le (setP_canon u hm _ _ _))
 ·exact nmS_set _ (canon_le (setP_canon u hm _ _ _))
 ·exact nmS_set _ (canon_le (setP_canon u hm _ _ _))
 ·exact nmS_set _ (canon_le (setP_canon u hm _ _ _))
 ·exact nmS_one hx (nmS_strip.2 hk)
 ·exact nmS_line hm _
 ·exact nmS_one hx (nmS_strip.2 hk)
 ·exact nmS_one (nmSL 0 0) trivial
 ·exact nmS_oneF 12 (nmS_flat (hr _))
 ·exact nmS_one hx (hr _)
 ·exact nmS_first (hr _)
 ·exact nmS_one hx (hr _)
theorem nmS_row {u : Bool} {m : Int} (hm : m ≤ 1114111) : ∀ {l : F} (f : Int), NmS l → NmS (rowP u m l f).1
 | .nil, _, _ => trivial
 | .cons x k r, f, h => nmS_app (nmS_node hm h.1 h.2.1 (fun g => nmS_row hm g h.2.1) f) (nmS_row hm _ h.2.2)
theorem nmS_res {x : Lab} {k : F} (h : NmS (F.one x k)) (o : Int) : NmS (resP (x, k) o) := by
 unfold resP;have hm : (if andI o 32 ≠ 0 then (1114111 : Int) else 255) ≤ 1114111 := by split <;> omega
 exact nmS_node hm h.1 h.2.1 (fun g => nmS_row hm g h.2.1) _
theorem len_le : ∀ f : F, f.len ≤ f.size := rsp.len_size
theorem res_sz (x : Lab) (k : F) (o : Int) : (resP (x, k) o).size ≤ 6 * k.size + 6 := by unfold resP;exact node_size _ _ _ _ _ _ fun g => row_size _ _ k g
end gpp
end
section
namespace gpw
open sq
open Go.Sort Go Go.RowKit Go.Maps setp setw tkp trp trw rpp gpp sq prw
open rpw (fC jP FSub jQ jd own_below qp vW qh qA)
open utfw (Sl at_ strOf)
open tkw (sg)
open rsw (flatP)
open rtp (rlexP)
open rsp (resP zU)
theorem cpOk_of : ∀ {f : F} {n : Nat}, NmS f → f.size ≤ 100000 → CpOk f
 | .nil, _, _, _ => trivial
 | .cons x k r, n, h, hs => by simp only [F.size] at hs;have := len_le k;exact ⟨h.1.2, by omega, cpOk_of (n := n) h.2.1 (by omega), cpOk_of (n := n) h.2.2 (by omega)⟩
theorem cpOk_strip : ∀ {f : F}, CpOk (strip f) ↔ CpOk f
 | .nil => Iff.rfl
 | .cons x k r => by rw [strip];unfold CpOk;rw [cpOk_strip (f := k), cpOk_strip (f := r), rpw.jm]
theorem flat_ok {n : Nat} {g : Nat → Int} {o : Int} {t : F} (h : flatP (sg (strOf n g)) n o = some t) : NmS t ∧ t.size ≤ 100000 := by
 unfold flatP at h;split at h
 ·cases h
 ·rename_i T hT;have ht := rsw.rlex_ok hT;split at h
  ·cases h
  ·rename_i f hf;have hp := zU (fun t h => (ht.1 t h).1.s) hf;have hn := parse_nm (fun t h => (ht.1 t h).1.nm) hf;split at h
   ·cases h
   ·rename_i x k r;cases h;have hs := hp.2.1;simp only [F.size] at hs;have hz := res_sz x k o;exact ⟨nmS_res ⟨⟨hn.1, by have := hp.1.1; omega⟩, nmS_ok hp.1.2.2.1 hn.2.1, trivial⟩ o, by omega⟩
theorem kids_row {w : World} {x : Lab} {k : F} {lo hi : Nat} (h : NdI w x k lo hi) : ∃ B, x.kv = .slice (some ⟨B, 0, none⟩) k.len k.len ∧ ∀ j u, (fC k)[j]? = some u → w.cell? ⟨B, j, none⟩ = some u := by obtain ⟨_, a, B, _, _, _, _, h6, h7, _⟩ := h;exact ⟨B, h6, fun j u hj => by unfold World.cell?; rw [h7]; simpa using hj⟩
end gpw
end
section
namespace trw
open sq
open Go.Sort Go Go.RowKit trp
def eqRs : List (Int × Int) → List (Int × Int) → Bool
 | [], [] => true
 | a :: l, b :: m => decide (a = b) && eqRs l m
 | _, _ => false
theorem eqRs_eq : ∀ l m, eqRs l m = decide (l = m)
 | [], [] => rfl
 | [], _ :: _ => by simp [eqRs]
 | _ :: _, [] => by simp [eqRs]
 | a :: l, b :: m => by simp [eqRs, eqRs_eq l m]
theorem eqRs_drop {l m : List (Int × Int)} {i : Nat} {a b : Int × Int} (ha : l[i]? = some a) (hb : m[i]? = some b) : eqRs (l.drop i) (m.drop i) = (decide (a = b) && eqRs (l.drop (i + 1)) (m.drop (i + 1))) := by obtain ⟨h1, rfl⟩ := List.getElem?_eq_some_iff.1 ha;obtain ⟨h2, rfl⟩ := List.getElem?_eq_some_iff.1 hb;rw [List.drop_eq_getElem_cons h1, List.drop_eq_getElem_cons h2, eqRs]
end trw
end
section
namespace trw
open sq
open Go Go.RowKit trp
theorem bytes_list {a b : ByteArray} (h : a.toList = b.toList) : a = b := by rw [ByteArray.toList_eq, ByteArray.toList_eq] at h;exact WideShapes.bytes_inj h
theorem ndPair {w W : World} {xk xa xc xn xm xmode xon xoff yk ya yc yn ym ymode yon yoff : Int} {xs xv ys yv : Value} {xset yset : List (Int × Int)} {xneg yneg : Bool} {xname yname : ByteArray}
 (h : Below w.heap.size w W ∧ W.heap[w.heap.size]? = some (.cells (ndC ⟨xk, xa, xc, xs, xset, xneg, xn, xm, xmode, xname, xon, xoff, xv⟩).toArray 27) ∧ W.heap[w.heap.size + 1]? = some (.cells (ndC ⟨yk, ya, yc, ys, yset, yneg, yn, ym, ymode, yname, yon, yoff, yv⟩).toArray 27)) :
 ∃ B0 B1, w.heap.size = B0 ∧ w.heap.size + 1 = B1 ∧ Hid (Below w.heap.size w W) ∧ Hid (∀ w1, Below W.heap.size W w1 → ∀ (j : Nat) v, (ndC ⟨xk, xa, xc, xs, xset, xneg, xn, xm, xmode, xname, xon, xoff, xv⟩)[j]? = some v → w1.cell? ⟨B0, j, none⟩ = some v) ∧ Hid (∀ w1, Below W.heap.size W w1 → ∀ (j : Nat) v, (ndC ⟨yk, ya, yc, ys, yset, yneg, yn, ym, ymode, yname, yon, yoff, yv⟩)[j]? = some v → w1.cell? ⟨B1, j, none⟩ = some v) ∧ W.cell? ⟨B0, 0, none⟩ = some (.int .i64 xk) ∧ W.cell? ⟨B0, 1, none⟩ = some (.int .i64 xa) ∧ W.cell? ⟨B0, 2, none⟩ = some (.int .i64 xc) ∧ W.cell? ⟨B0, 3, none⟩ = some (xs) ∧ W.cell? ⟨B0, 4, none⟩ = some (.bool xneg) ∧ W.cell? ⟨B0, 5, none⟩ = some (.int .i64 xn) ∧ W.cell? ⟨B0, 6, none⟩ = some (.int .i64 xm) ∧ W.cell? ⟨B0, 7, none⟩ = some (.int .i64 xmode) ∧ W.cell? ⟨B0, 8, none⟩ = some (.string xname) ∧ W.cell? ⟨B0, 9, none⟩ = some (.int .i64 xon) ∧ W.cell? ⟨B0, 10, none⟩ = some (.int .i64 xoff) ∧ W.cell? ⟨B0, 11, none⟩ = some (xv) ∧ W.cell? ⟨B1, 0, none⟩ = some (.int .i64 yk) ∧ W.cell? ⟨B1, 1, none⟩ = some (.int .i64 ya) ∧ W.cell? ⟨B1, 2, none⟩ = some (.int .i64 yc) ∧ W.cell? ⟨B1, 3, none⟩ = some (ys) ∧ W.cell? ⟨B1, 4, none⟩ = some (.bool yneg) ∧ W.cell? ⟨B1, 5, none⟩ = some (.int .i64 yn) ∧ W.cell? ⟨B1, 6, none⟩ = some (.int .i64 ym) ∧ W.cell? ⟨B1, 7, none⟩ = some (.int .i64 ymode) ∧ W.cell? ⟨B1, 8, none⟩ = some (.string yname) ∧ W.cell? ⟨B1, 9, none⟩ = some (.int .i64 yon) ∧ W.cell? ⟨B1, 10, none⟩ = some (.int .i64 yoff) ∧ W.cell? ⟨B1, 11, none⟩ = some (yv) := by
 obtain ⟨hb, hr, hs⟩ := h;have r0 := fun w1 (hb : Below W.heap.size W w1) => cells12 (x := ⟨xk, xa, xc, xs, xset, xneg, xn, xm, xmode, xname, xon, xoff, xv⟩) ((hb.block _ (Array.getElem?_eq_some_iff.1 hr).1).trans hr)
 have r1 := fun w1 (hb : Below W.heap.size W w1) => cells12 (x := ⟨yk, ya, yc, ys, yset, yneg, yn, ym, ymode, yname, yon, yoff, yv⟩) ((hb.block _ (Array.getElem?_eq_some_iff.1 hs).1).trans hs)
 have f := r0 W (Below.refl _ _);have g := r1 W (Below.refl _ _);exact ⟨_, _, rfl, rfl, xH hb, xH r0, xH r1, f 0 _ rfl, f 1 _ rfl, f 2 _ rfl, f 3 _ rfl, f 4 _ rfl, f 5 _ rfl, f 6 _ rfl, f 7 _ rfl, f 8 _ rfl, f 9 _ rfl, f 10 _ rfl, f 11 _ rfl, g 0 _ rfl, g 1 _ rfl, g 2 _ rfl, g 3 _ rfl, g 4 _ rfl, g 5 _ rfl, g 6 _ rfl, g 7 _ rfl, g 8 _ rfl, g 9 _ rfl, g 10 _ rfl, g 11 _ rfl⟩
theorem bE {P : Program} {f : FuncId} {vs : Array Value} {b : Bool} {w : World} (b' : Bool) (h : b = b') (hc : Calls P f vs w (BoolB b' w)) : Calls P f vs w (BoolB b w) := h ▸ hc
theorem rsame_any : ∀ (n : Nat) (a b : Nd) (w : World), a.2.size < n → NdAt w a → NdAt w b → Calls Try.prog 16 #[ndV a.1, ndV b.1] w (BoolB (sameT a b) w) := by
 intro n
 induction n with
 | zero => intro a b w hn; omega
 | succ n ih =>
  intro a b w hn ha hb;have IH := xH ih;clear ih;obtain ⟨sa, sc, hsv, _⟩ := ha.2.1;obtain ⟨ka, kc, hkv, _⟩ := ha.2.2;obtain ⟨ta, tc, htv, _⟩ := hb.2.1;obtain ⟨la, lc, hlv, _⟩ := hb.2.2;have HS := xH ha.2.1;have HT := xH hb.2.1;have HK := xH ha.2.2;have HM := xH hb.2.2;clear ha hb;obtain ⟨x, k⟩ := a;obtain ⟨y, k2⟩ := b;obtain ⟨xk, xa, xc, xs, xset, xneg, xn, xm, xmode, xname, xon, xoff, xkv⟩ := x;obtain ⟨yk, ya, yc, ys, yset, yneg, yn, ym, ymode, yname, yon, yoff, ykv⟩ := y;simp only at hsv hkv htv hlv hn;subst hsv hkv htv hlv;simp only at HS HT HK HM;have HH := xH (show Below w.heap.size w ((w.alloc (.cells (ndC (⟨xk, xa, xc, .slice sa xset.length sc, xset, xneg, xn, xm, xmode, xname, xon, xoff, .slice ka k.len kc⟩ : Lab)).toArray 27)).alloc (.cells (ndC (⟨yk, ya, yc, .slice ta yset.length tc, yset, yneg, yn, ym, ymode, yname, yon, yoff, .slice la k2.len lc⟩ : Lab)).toArray 27)) ∧ ((w.alloc (.cells (ndC (⟨xk, xa, xc, .slice sa xset.length sc, xset, xneg, xn, xm, xmode, xname, xon, xoff, .slice ka k.len kc⟩ : Lab)).toArray 27)).alloc (.cells (ndC (⟨yk, ya, yc, .slice ta yset.length tc, yset, yneg, yn, ym, ymode, yname, yon, yoff, .slice la k2.len lc⟩ : Lab)).toArray 27)).heap[w.heap.size]? = some (.cells (ndC (⟨xk, xa, xc, .slice sa xset.length sc, xset, xneg, xn, xm, xmode, xname, xon, xoff, .slice ka k.len kc⟩ : Lab)).toArray 27) ∧ ((w.alloc (.cells (ndC (⟨xk, xa, xc, .slice sa xset.length sc, xset, xneg, xn, xm, xmode, xname, xon, xoff, .slice ka k.len kc⟩ : Lab)).toArray 27)).alloc (.cells (ndC (⟨yk, ya, yc, .slice ta yset.length tc, yset, yneg, yn, ym, ymode, yname, yon, yoff, .slice la k2.len lc⟩ : Lab)).toArray 27)).heap[w.heap.size + 1]? = some (.cells (ndC (⟨yk, ya, yc, .slice ta yset.length tc, yset, yneg, yn, ym, ymode, yname, yon, yoff, .slice la k2.len lc⟩ : Lab)).toArray 27) from
   ⟨(qg w _).alloc (by simp) _, by rw [heap_alloc_old _ _ (by simp)]; exact heap_alloc_new _ _, by have := heap_alloc_new (w.alloc (.cells (ndC (⟨xk, xa, xc, .slice sa xset.length sc, xset, xneg, xn, xm, xmode, xname, xon, xoff, .slice ka k.len kc⟩ : Lab)).toArray 27)) (.cells (ndC (⟨yk, ya, yc, .slice ta yset.length tc, yset, yneg, yn, ym, ymode, yname, yon, yoff, .slice la k2.len lc⟩ : Lab)).toArray 27); simpa using this⟩)
  simp only [ndC] at HH;by_cases h_kind : xk = yk;rotate_left
  ·refine bE false (by simp [sameT, labEq, h_kind]) ?_;clear HS HT HK HM IH;have Q_kind := xH h_kind;clear h_kind;unfold ndV;go_enter Try.func16, Try.ntmps16;go_upto_region 1 with (fail)
   generalize hg : (w.alloc _).alloc _ = W;have hh := HH.out;rw [hg] at hh;obtain ⟨B0, B1, hB0, hB1, HB, R0, R1, f0, f1, f2, f3, f4, f5, f6, f7, f8, f9, f10, f11, g0, g1, g2, g3, g4, g5, g6, g7, g8, g9, g10, g11⟩ := ndPair (xset := xset) (yset := yset) hh;clear hg hh HH;rw [hB1, hB0];have h_kind := Q_kind.out;clear Q_kind;have e_kind : (xk == yk) = false := by simpa using h_kind
   go_wp2_with fail
   go_ret
   exact ⟨rfl, HB.out⟩
  by_cases h_c : xc = yc;rotate_left
  ·refine bE false (by simp [sameT, labEq, h_c]) ?_;clear HS HT HK HM IH;have Q_kind := xH h_kind;have Q_c := xH h_c;clear h_kind h_c;unfold ndV;go_enter Try.func16, Try.ntmps16;go_upto_region 1 with (fail)
   generalize hg : (w.alloc _).alloc _ = W;have hh := HH.out;rw [hg] at hh;obtain ⟨B0, B1, hB0, hB1, HB, R0, R1, f0, f1, f2, f3, f4, f5, f6, f7, f8, f9, f10, f11, g0, g1, g2, g3, g4, g5, g6, g7, g8, g9, g10, g11⟩ := ndPair (xset := xset) (yset := yset) hh;clear hg hh HH;rw [hB1, hB0];have h_kind := Q_kind.out;have h_c := Q_c.out;clear Q_kind Q_c;have e_c : (xc == yc) = false := by simpa using h_c
   go_wp2_with fail
   go_ret
   exact ⟨rfl, HB.out⟩
  by_cases h_neg : xneg = yneg;rotate_left
  ·refine bE false (by simp [sameT, labEq, h_neg]) ?_;clear HS HT HK HM IH;have Q_kind := xH h_kind;have Q_c := xH h_c;have Q_neg := xH h_neg;clear h_kind h_c h_neg;unfold ndV;go_enter Try.func16, Try.ntmps16;go_upto_region 1 with (fail)
   generalize hg : (w.alloc _).alloc _ = W;have hh := HH.out;rw [hg] at hh;obtain ⟨B0, B1, hB0, hB1, HB, R0, R1, f0, f1, f2, f3, f4, f5, f6, f7, f8, f9, f10, f11, g0, g1, g2, g3, g4, g5, g6, g7, g8, g9, g10, g11⟩ := ndPair (xset := xset) (yset := yset) hh;clear hg hh HH;rw [hB1, hB0];have h_kind := Q_kind.out;have h_c := Q_c.out;have h_neg := Q_neg.out;clear Q_kind Q_c Q_neg;have i_neg : (xneg != yneg) = true := by simpa using h_neg
   have e_neg : (xneg == yneg) = false := by simpa using h_neg
   go_wp2_with fail
   go_ret
   exact ⟨rfl, HB.out⟩
  by_cases h_n : xn = yn;rotate_left
  ·refine bE false (by simp [sameT, labEq, h_n]) ?_;clear HS HT HK HM IH;have Q_kind := xH h_kind;have Q_c := xH h_c;have Q_neg := xH h_neg;have Q_n := xH h_n;clear h_kind h_c h_neg h_n;unfold ndV;go_enter Try.func16, Try.ntmps16;go_upto_region 1 with (fail)
   generalize hg : (w.alloc _).alloc _ = W;have hh := HH.out;rw [hg] at hh;obtain ⟨B0, B1, hB0, hB1, HB, R0, R1, f0, f1, f2, f3, f4, f5, f6, f7, f8, f9, f10, f11, g0, g1, g2, g3, g4, g5, g6, g7, g8, g9, g10, g11⟩ := ndPair (xset := xset) (yset := yset) hh;clear hg hh HH;rw [hB1, hB0];have h_kind := Q_kind.out;have h_c := Q_c.out;have h_neg := Q_neg.out;have h_n := Q_n.out;clear Q_kind Q_c Q_neg Q_n;have e_n : (xn == yn) = false := by simpa using h_n
   go_wp2_with fail
   go_ret
   exact ⟨rfl, HB.out⟩
  by_cases h_m : xm = ym;rotate_left
  ·refine bE false (by simp [sameT, labEq, h_m]) ?_;clear HS HT HK HM IH;have Q_kind := xH h_kind;have Q_c := xH h_c;have Q_neg := xH h_neg;have Q_n := xH h_n;have Q_m := xH h_m;clear h_kind h_c h_neg h_n h_m;unfold ndV;go_enter Try.func16, Try.ntmps16;go_upto_region 1 with (fail)
   generalize hg : (w.alloc _).alloc _ = W;have hh := HH.out;rw [hg] at hh;obtain ⟨B0, B1, hB0, hB1, HB, R0, R1, f0, f1, f2, f3, f4, f5, f6, f7, f8, f9, f10, f11, g0, g1, g2, g3, g4, g5, g6, g7, g8, g9, g10, g11⟩ := ndPair (xset := xset) (yset := yset) hh;clear hg hh HH;rw [hB1, hB0];have h_kind := Q_kind.out;have h_c := Q_c.out;have h_neg := Q_neg.out;have h_n := Q_n.out;have h_m := Q_m.out;clear Q_kind Q_c Q_neg Q_n Q_m;have e_m : (xm == ym) = false := by simpa using h_m
   go_wp2_with fail
   go_ret
   exact ⟨rfl, HB.out⟩
  by_cases h_mode : xmode = ymode;rotate_left
  ·refine bE false (by simp [sameT, labEq, h_mode]) ?_;clear HS HT HK HM IH;have Q_kind := xH h_kind;have Q_c := xH h_c;have Q_neg := xH h_neg;have Q_n := xH h_n;have Q_m := xH h_m;have Q_mode := xH h_mode;clear h_kind h_c h_neg h_n h_m h_mode;unfold ndV;go_enter Try.func16, Try.ntmps16;go_upto_region 1 with (fail)
   generalize hg : (w.alloc _).alloc _ = W;have hh := HH.out;rw [hg] at hh;obtain ⟨B0, B1, hB0, hB1, HB, R0, R1, f0, f1, f2, f3, f4, f5, f6, f7, f8, f9, f10, f11, g0, g1, g2, g3, g4, g5, g6, g7, g8, g9, g10, g11⟩ := ndPair (xset := xset) (yset := yset) hh;clear hg hh HH;rw [hB1, hB0];have h_kind := Q_kind.out;have h_c := Q_c.out;have h_neg := Q_neg.out;have h_n := Q_n.out;have h_m := Q_m.out;have h_mode := Q_mode.out;clear Q_kind Q_c Q_neg Q_n Q_m Q_mode;have e_mode : (xmode == ymode) = false := by simpa using h_mode
   go_wp2_with fail
   go_ret
   exact ⟨rfl, HB.out⟩
  by_cases h_name : xname = yname;rotate_left
  ·refine bE false (by simp [sameT, labEq, h_name]) ?_;clear HS HT HK HM IH;have Q_kind := xH h_kind;have Q_c := xH h_c;have Q_neg := xH h_neg;have Q_n := xH h_n;have Q_m := xH h_m;have Q_mode := xH h_mode;have Q_name := xH h_name;clear h_kind h_c h_neg h_n h_m h_mode h_name;unfold ndV;go_enter Try.func16, Try.ntmps16;go_upto_region 1 with (fail)
   generalize hg : (w.alloc _).alloc _ = W;have hh := HH.out;rw [hg] at hh;obtain ⟨B0, B1, hB0, hB1, HB, R0, R1, f0, f1, f2, f3, f4, f5, f6, f7, f8, f9, f10, f11, g0, g1, g2, g3, g4, g5, g6, g7, g8, g9, g10, g11⟩ := ndPair (xset := xset) (yset := yset) hh;clear hg hh HH;rw [hB1, hB0];have h_kind := Q_kind.out;have h_c := Q_c.out;have h_neg := Q_neg.out;have h_n := Q_n.out;have h_m := Q_m.out;have h_mode := Q_mode.out;have h_name := Q_name.out;clear Q_kind Q_c Q_neg Q_n Q_m Q_mode Q_name;have i_name : ¬ xname.toList = yname.toList := fun e => h_name (bytes_list e)
   have e_name3 : (xname.toList == yname.toList) = false := by simpa using fun e => h_name (bytes_list e)
   go_wp2_with fail
   go_ret
   exact ⟨rfl, HB.out⟩
  by_cases h_on : xon = yon;rotate_left
  ·refine bE false (by simp [sameT, labEq, h_on]) ?_;clear HS HT HK HM IH;have Q_kind := xH h_kind;have Q_c := xH h_c;have Q_neg := xH h_neg;have Q_n := xH h_n;have Q_m := xH h_m;have Q_mode := xH h_mode;have Q_name := xH h_name;have Q_on := xH h_on;clear h_kind h_c h_neg h_n h_m h_mode h_name h_on;unfold ndV;go_enter Try.func16, Try.ntmps16;go_upto_region 1 with (fail)
   generalize hg : (w.alloc _).alloc _ = W;have hh := HH.out;rw [hg] at hh;obtain ⟨B0, B1, hB0, hB1, HB, R0, R1, f0, f1, f2, f3, f4, f5, f6, f7, f8, f9, f10, f11, g0, g1, g2, g3, g4, g5, g6, g7, g8, g9, g10, g11⟩ := ndPair (xset := xset) (yset := yset) hh;clear hg hh HH;rw [hB1, hB0];have h_kind := Q_kind.out;have h_c := Q_c.out;have h_neg := Q_neg.out;have h_n := Q_n.out;have h_m := Q_m.out;have h_mode := Q_mode.out;have h_name := Q_name.out;have h_on := Q_on.out;clear Q_kind Q_c Q_neg Q_n Q_m Q_mode Q_name Q_on;have e_on : (xon == yon) = false := by simpa using h_on
   go_wp2_with fail
   go_ret
   exact ⟨rfl, HB.out⟩
  by_cases h_off : xoff = yoff;rotate_left
  ·refine bE false (by simp [sameT, labEq, h_off]) ?_;clear HS HT HK HM IH;have Q_kind := xH h_kind;have Q_c := xH h_c;have Q_neg := xH h_neg;have Q_n := xH h_n;have Q_m := xH h_m;have Q_mode := xH h_mode;have Q_name := xH h_name;have Q_on := xH h_on;have Q_off := xH h_off;clear h_kind h_c h_neg h_n h_m h_mode h_name h_on h_off;unfold ndV;go_enter Try.func16, Try.ntmps16;go_upto_region 1 with (fail)
   generalize hg : (w.alloc _).alloc _ = W;have hh := HH.out;rw [hg] at hh;obtain ⟨B0, B1, hB0, hB1, HB, R0, R1, f0, f1, f2, f3, f4, f5, f6, f7, f8, f9, f10, f11, g0, g1, g2, g3, g4, g5, g6, g7, g8, g9, g10, g11⟩ := ndPair (xset := xset) (yset := yset) hh;clear hg hh HH;rw [hB1, hB0];have h_kind := Q_kind.out;have h_c := Q_c.out;have h_neg := Q_neg.out;have h_n := Q_n.out;have h_m := Q_m.out;have h_mode := Q_mode.out;have h_name := Q_name.out;have h_on := Q_on.out;have h_off := Q_off.out;clear Q_kind Q_c Q_neg Q_n Q_m Q_mode Q_name Q_on Q_off;have e_off : (xoff == yoff) = false := by simpa using h_off
   go_wp2_with fail
   go_ret
   exact ⟨rfl, HB.out⟩
  by_cases h_lset : xset.length = yset.length;rotate_left
  ·refine bE false (by simp only [sameT, labEq]; rw [show decide (xset = yset) = false from decide_eq_false (fun e => h_lset (by rw [e]))]; simp) ?_;clear HS HT HK HM IH;have Q_kind := xH h_kind;have Q_c := xH h_c;have Q_neg := xH h_neg;have Q_n := xH h_n;have Q_m := xH h_m;have Q_mode := xH h_mode;have Q_name := xH h_name;have Q_on := xH h_on;have Q_off := xH h_off;have Q_lset := xH h_lset;clear h_kind h_c h_neg h_n h_m h_mode h_name h_on h_off h_lset;unfold ndV;go_enter Try.func16, Try.ntmps16;go_upto_region 1 with (fail)
   generalize hg : (w.alloc _).alloc _ = W;have hh := HH.out;rw [hg] at hh;obtain ⟨B0, B1, hB0, hB1, HB, R0, R1, f0, f1, f2, f3, f4, f5, f6, f7, f8, f9, f10, f11, g0, g1, g2, g3, g4, g5, g6, g7, g8, g9, g10, g11⟩ := ndPair (xset := xset) (yset := yset) hh;clear hg hh HH;rw [hB1, hB0];have h_kind := Q_kind.out;have h_c := Q_c.out;have h_neg := Q_neg.out;have h_n := Q_n.out;have h_m := Q_m.out;have h_mode := Q_mode.out;have h_name := Q_name.out;have h_on := Q_on.out;have h_off := Q_off.out;have h_lset := Q_lset.out;clear Q_kind Q_c Q_neg Q_n Q_m Q_mode Q_name Q_on Q_off Q_lset;have i_lset : ¬ (xset.length : Int) = (yset.length : Int) := by omega
   have e_lset : ((xset.length : Int) == (yset.length : Int)) = false := by simp; omega
   go_wp2_with fail
   go_ret
   exact ⟨rfl, HB.out⟩
  by_cases h_kids : k.len = k2.len;rotate_left
  ·refine bE false (by simp [sameT, labEq, h_kids]) ?_;clear HS HT HK HM IH;have Q_kind := xH h_kind;have Q_c := xH h_c;have Q_neg := xH h_neg;have Q_n := xH h_n;have Q_m := xH h_m;have Q_mode := xH h_mode;have Q_name := xH h_name;have Q_on := xH h_on;have Q_off := xH h_off;have Q_lset := xH h_lset;have Q_kids := xH h_kids;clear h_kind h_c h_neg h_n h_m h_mode h_name h_on h_off h_lset h_kids;unfold ndV;go_enter Try.func16, Try.ntmps16;go_upto_region 1 with (fail)
   generalize hg : (w.alloc _).alloc _ = W;have hh := HH.out;rw [hg] at hh;obtain ⟨B0, B1, hB0, hB1, HB, R0, R1, f0, f1, f2, f3, f4, f5, f6, f7, f8, f9, f10, f11, g0, g1, g2, g3, g4, g5, g6, g7, g8, g9, g10, g11⟩ := ndPair (xset := xset) (yset := yset) hh;clear hg hh HH;rw [hB1, hB0];have h_kind := Q_kind.out;have h_c := Q_c.out;have h_neg := Q_neg.out;have h_n := Q_n.out;have h_m := Q_m.out;have h_mode := Q_mode.out;have h_name := Q_name.out;have h_on := Q_on.out;have h_off := Q_off.out;have h_lset := Q_lset.out;have h_kids := Q_kids.out;clear Q_kind Q_c Q_neg Q_n Q_m Q_mode Q_name Q_on Q_off Q_lset Q_kids;have i_kids : ¬ (k.len : Int) = (k2.len : Int) := by omega
   have e_kids : ((k.len : Int) == (k2.len : Int)) = false := by simp; omega
   go_wp2_with fail
   go_ret
   exact ⟨rfl, HB.out⟩
  obtain ⟨R, hR⟩ : ∃ R, (eqRs xset yset && sameF k k2) = R := ⟨_, rfl⟩;have HR := xH (show sameT ((⟨xk, xa, xc, .slice sa xset.length sc, xset, xneg, xn, xm, xmode, xname, xon, xoff, .slice ka k.len kc⟩ : Lab), k) ((⟨yk, ya, yc, .slice ta yset.length tc, yset, yneg, yn, ym, ymode, yname, yon, yoff, .slice la k2.len lc⟩ : Lab), k2) = R by simp only [sameT, labEq, h_kind, h_c, h_neg, h_n, h_m, h_mode, h_name, h_on, h_off]; rw [← hR, eqRs_eq]; simp [h_kids]);rw [HR.out];have H0 := xH hR;have hlS := xH h_lset;have hlK := xH h_kids;clear hR HR;have Q_kind := xH h_kind;have Q_c := xH h_c;have Q_neg := xH h_neg;have Q_n := xH h_n;have Q_m := xH h_m;have Q_mode := xH h_mode;have Q_name := xH h_name;have Q_on := xH h_on;have Q_off := xH h_off;have Q_lset := xH h_lset;have Q_kids := xH h_kids;clear h_kind h_c h_neg h_n h_m h_mode h_name h_on h_off h_lset h_kids;unfold ndV;go_enter Try.func16, Try.ntmps16;go_upto_region 1 with (fail)
  generalize hg : (w.alloc _).alloc _ = W;have hh := HH.out;rw [hg] at hh;obtain ⟨B0, B1, hB0, hB1, HB, R0, R1, f0, f1, f2, f3, f4, f5, f6, f7, f8, f9, f10, f11, g0, g1, g2, g3, g4, g5, g6, g7, g8, g9, g10, g11⟩ := ndPair (xset := xset) (yset := yset) hh;clear hg hh HH;rw [hB1, hB0];have h_kind := Q_kind.out;have h_c := Q_c.out;have h_neg := Q_neg.out;have h_n := Q_n.out;have h_m := Q_m.out;have h_mode := Q_mode.out;have h_name := Q_name.out;have h_on := Q_on.out;have h_off := Q_off.out;have h_lset := Q_lset.out;have h_kids := Q_kids.out;clear Q_kind Q_c Q_neg Q_n Q_m Q_mode Q_name Q_on Q_off Q_lset Q_kids;go_wp2_with fail
  clear f0 g0 f1 g1 f2 g2 f3 g3 f4 g4 f5 g5 f6 g6 f7 g7 f8 g8 f9 g9 f10 g10 f11 g11;clear h_kind h_c h_neg h_n h_m h_mode h_name h_on h_off h_lset h_kids
  go_loopw [5] (fun iv wr => ∃ i : Nat, iv = .int .i64 i ∧ i ≤ xset.length ∧ Hid ((eqRs (xset.drop i) (yset.drop i) && sameF k k2) = R) ∧ Below W.heap.size W wr) (fun iv _ => xset.length - (intOf iv).toNat)
  case atStart => exact ⟨0, rfl, Nat.zero_le _, H0, Below.refl _ _⟩
  case round =>
   clear H0;obtain ⟨i, rfl, hi, HA, hb⟩ := hrel;have c3 := R0.out wr hb 3 _ rfl;have d3 := R1.out wr hb 3 _ rfl;have c11 := R0.out wr hb 11 _ rfl;by_cases hend : i = xset.length
   ·have HF := xH (show sameF k k2 = R by have := HA.out;rw [List.drop_eq_nil_of_le (by omega), List.drop_eq_nil_of_le (by have := hlS.out; omega)] at this;exact this)
    subst hend;clear HA HS HT;go_wp2_with fail
    clear c3 d3 c11;have HBb := xH hb
    go_loopw [6, 7] (fun iv _ wz => ∃ i : Nat, iv = .int .i64 i ∧ i ≤ k.len ∧ Hid (sameF (k.drop i) (k2.drop i) = R) ∧ Below W.heap.size W wz) (fun iv _ _ => k.len - (intOf iv).toNat)
    case atStart => exact ⟨0, rfl, Nat.zero_le _, xH (by rw [drop_zero, drop_zero]; exact HF.out), hb⟩
    case round =>
     clear hb HF;obtain ⟨i, rfl, hi, HA, hb⟩ := hrel;have c11 : wr.cell? ⟨B0, 11, none⟩ = some (.slice ka k.len kc) := R0.out wr hb 11 _ rfl;have d11 : wr.cell? ⟨B1, 11, none⟩ = some (.slice la k2.len lc) := R1.out wr hb 11 _ rfl;by_cases hend : i = k.len
     ·have HRes := xH (show true = R by have := HA.out; rw [drop_end (by omega), drop_end (by have := hlK.out; omega)] at this; exact this);subst hend;go_wp2_with fail
      go_ret
      exact ⟨by rw [← HRes.out]; rfl, HB.out.trans (hb.mono HB.out.size)⟩
     ·have hlt : i < k.len := by omega
      obtain ⟨y, k', r, hdr⟩ := drop_lt (f := k) (i := i) hlt;obtain ⟨z, m', r', hdr2⟩ := drop_lt (f := k2) (i := i) (by have := hlK.out; omega);have hbw := HB.out.trans (hb.mono HB.out.size);obtain ⟨b1, o1, cap1, hv1, _, _, _, hf1⟩ := kid_at (below_kids hbw HK.out) hdr;obtain ⟨b2, o2, cap2, hv2, _, _, _, hf2⟩ := kid_at (below_kids hbw HM.out) hdr2;obtain ⟨rfl, rfl⟩ : ka = some ⟨b1, o1, none⟩ ∧ kc = cap1 := by have := hv1;simp only [Value.slice.injEq] at this;exact ⟨this.1, this.2.2⟩
      obtain ⟨rfl, rfl⟩ : la = some ⟨b2, o2, none⟩ ∧ lc = cap2 := by have := hv2;simp only [Value.slice.injEq] at this;exact ⟨this.1, this.2.2⟩
      have hsz := size_lt hdr;have n1 := fAt_head hf1;have n2 := fAt_head hf2;have E1 := xH (hf1.1);have E2 := xH (hf2.1);have hstep : (sameT (y, k') (z, m') && sameF (k.drop (i + 1)) (k2.drop (i + 1))) = R := by rw [drop_succ hdr, drop_succ hdr2, ← HA.out, hdr, hdr2];rfl
      have HI := xH (fun w1 (h : Below wr.heap.size wr w1) => IH.out (y, k') (z, m') w1 (by show k'.size < n; omega) (vO h n1) (vO h n2));obtain ⟨q, hq⟩ : ∃ q, sameT (y, k') (z, m') = q := ⟨_, rfl⟩;rw [hq] at hstep HI;have HN := xH hstep;have a1 := add_row b1 o1 i 12;have a2 := add_row b2 o2 i 12;have i1 : (i : Int) < (k.len : Int) := by omega
      have i2 : (i : Int) < (k2.len : Int) := by omega
      have C11 := xH c11;have D11 := xH d11;clear hv1 hv2 hf1 hf2 hdr hdr2 n1 n2 hstep hq HA;go_wp2_with fail
      refine wp_region_held_drew (S := fun w' => Below wr.heap.size wr w') (by kernel_rfl) (qL wr) (fun hHeld => ?_);refine yG 0 (fun w' hSw => qf hSw C11.out) (fun w' hSw => qf hSw D11.out) ?_;simp only [xS];refine yG 1 (fun w' hSw => qf hSw C11.out) (fun w' hSw => qf hSw D11.out) ?_;simp only [xS];refine yG 2 (fun w' hSw => qf hSw C11.out) (fun w' hSw => qf hSw D11.out) ?_;simp only [xS];refine yG 3 (fun w' hSw => qf hSw C11.out) (fun w' hSw => qf hSw D11.out) ?_;simp only [xS];refine xT 4 rfl ?_ ?_ ?_;rotate_left
      ·intro w' hSw;refine jT (x := .tmp 115) (b := b1) (off := o1 + i * 12) (l := y) ?_ ?_ (fun j v hj => qf hSw (E1.out j v hj)) <;> rfl
      simp only [xS];refine yG 5 (fun w' hSw => qf hSw C11.out) (fun w' hSw => qf hSw D11.out) ?_;simp only [xS];refine yG 6 (fun w' hSw => qf hSw C11.out) (fun w' hSw => qf hSw D11.out) ?_;simp only [xS];refine yG 7 (fun w' hSw => qf hSw C11.out) (fun w' hSw => qf hSw D11.out) ?_;simp only [xS];refine yG 8 (fun w' hSw => qf hSw C11.out) (fun w' hSw => qf hSw D11.out) ?_;simp only [xS];refine xT 9 rfl ?_ ?_ ?_;rotate_left
      ·intro w' hSw;refine jT (x := .tmp 120) (b := b2) (off := o2 + i * 12) (l := z) ?_ ?_ (fun j v hj => qf hSw (E2.out j v hj)) <;> rfl
      simp only [xS];refine xD 10 rfl (fun K hK => ?_);go_simp;refine (HI.out _ hHeld).mono ?_;rintro e w4 ⟨rfl, hb5⟩;have hb4 : Below wr.heap.size wr w4 := hHeld.trans (hb5.mono hHeld.size);refine hK.out _ _ hb4 (fun hHeld => ?_);clear hK K;try simp only [xS]
      refine yT 11 ?_;simp only [xS];refine wpAnyH_done (by kernel_rfl) ?_ _;clear c11 d11;cases q with
      | false =>
       exact z183
      | true =>
       have HN2 := xH (show sameF (k.drop (i + 1)) (k2.drop (i + 1)) = R by rw [← HN.out]; rfl);exact z121
   ·have hlt : i < xset.length := by omega
    have hlt2 : i < yset.length := by have := hlS.out; omega
    obtain ⟨s1, q1, hsv, _, _, k1⟩ := HS.out;obtain ⟨s2, q2, htv, _, _, k2'⟩ := HT.out;simp only [Value.slice.injEq] at hsv htv;obtain ⟨rfl, _, rfl⟩ := hsv;obtain ⟨rfl, _, rfl⟩ := htv;rcases k1 with h0 | ⟨b1, o1, rfl, k1⟩
    ·rw [h0] at hlt;simp at hlt
    rcases k2' with h0 | ⟨b2, o2, rfl, k2'⟩
    ·rw [h0] at hlt2;simp at hlt2
    have hx1 := List.getElem?_eq_getElem hlt;have hx2 := List.getElem?_eq_getElem hlt2;obtain ⟨x1, y1⟩ : ∃ x, xset[i]'hlt = x := ⟨_, rfl⟩;obtain ⟨x2, y2⟩ : ∃ x, yset[i]'hlt2 = x := ⟨_, rfl⟩;rw [y1] at hx1;rw [y2] at hx2;have hbw := HB.out.trans (hb.mono HB.out.size);obtain ⟨e1, e2, _, _⟩ := k1 i x1 hx1;obtain ⟨e3, e4, _, _⟩ := k2' i x2 hx2;obtain ⟨x1, z1⟩ := x1;obtain ⟨x2, z2⟩ := x2;simp only at e1 e2 e3 e4;have hstep := eqRs_drop hx1 hx2;have E1 := xH (qf hbw e1);have E2 := xH (qf hbw e2);have E3 := xH (qf hbw e3);have E4 := xH (qf hbw e4);have a1 := add_row b1 o1 i 2;have a2 := add_row b2 o2 i 2;have i1 : (i : Int) < (xset.length : Int) := by omega
    have i2 : (i : Int) < (yset.length : Int) := by omega
    have C3 := xH c3;have D3 := xH d3;have hA := HA.out;rw [hstep] at hA;clear hx1 hx2 y1 y2 e1 e2 e3 e4 hstep k1 k2' HA c11;by_cases h1 : x1 = x2
    ·subst h1;by_cases h2 : z1 = z2
     ·subst h2;rw [decide_eq_true rfl, Bool.true_and] at hA;have HN := xH hA;clear hA;go_wp2_with fail
      refine wp_region_held_drew (S := fun w' => Below wr.heap.size wr w') (by kernel_rfl) (qL wr) (fun hHeld => ?_);refine xT 0 rfl ?_ ?_ ?_;rotate_left
      ·intro w' hSw;exact z83
      simp only [xS];refine xT 1 rfl ?_ ?_ ?_;rotate_left
      ·intro w' hSw;exact z83
      simp only [xS];refine xT 2 rfl ?_ ?_ ?_;rotate_left
      ·intro w' hSw;exact z83
      simp only [xS];refine xT 3 rfl ?_ ?_ ?_;rotate_left
      ·intro w' hSw;exact z83
      simp only [xS];refine xT 4 rfl ?_ ?_ ?_;rotate_left
      ·intro w' hSw;exact z83
      simp only [xS];refine xT 5 rfl ?_ ?_ ?_;rotate_left
      ·intro w' hSw;exact z83
      simp only [xS];refine xT 6 rfl ?_ ?_ ?_;rotate_left
      ·intro w' hSw;exact z83
      simp only [xS];refine xT 7 rfl ?_ ?_ ?_;rotate_left
      ·intro w' hSw;exact z83
      simp only [xS];refine xT 8 rfl ?_ ?_ ?_;rotate_left
      ·intro w' hSw;exact z83
      simp only [xS];refine xT 9 rfl ?_ ?_ ?_;rotate_left
      ·intro w' hSw;exact z83
      simp only [xS];refine xT 10 rfl ?_ ?_ ?_;rotate_left
      ·intro w' hSw;exact z83
      simp only [xS];refine wpAnyH_done (by kernel_rfl) ?_ _;have hb4 := qL wr;clear c3 d3;go_wp2_with fail
      go_roundw
      case rel => exact ⟨i + 1, by go_num, by omega, HN, hb.trans (hb4.mono hb.size)⟩
      case measure => simp [intOf]; omega
     ·rw [decide_eq_false (by simp [h2])] at hA;exact z3
    ·rw [decide_eq_false (by simp [h1])] at hA;exact z3
end trw
end
end Go.Proofs.Ytdgfclbajjjcgaa
