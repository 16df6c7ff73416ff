/- T -/
import Derived.Deep.Cut
import Derived.Test.YtnpcombfgdbhkaaDoorBPs20
import Derived.Test.YtnpcombfgdbhkaaDoorBPs25
set_option maxHeartbeats 16000000
set_option maxRecDepth 1000000
section
namespace Go.Proofs.YtnpcombfgdbhkaaDoor.psl
open sq
open Go Go.RowKit Go.Maps tkp trp trw rpp rtp setw psw psp
open rtw (LexB rlex_any)
open rpw (TkIn LOk sees jB tkIn_mono qp zero_at qh)
open tkw (sg vJ jM)
open utfw (strOf)
def PaB (w : World) (r : R F) (e : Ending) (w' : World) : Prop := Below w.heap.size w w' ∧ match r with
 | .error x => e = .returned (.tuple #[ndV (lab 0 0), .int .i64 x.1, .int .i64 x.2])
 | .ok f => ∃ x k, e = .returned (.tuple #[ndV x, .int .i64 0, .int .i64 0]) ∧ NdAt w' (x, k) ∧ strip (F.one x k) = f
theorem row_below {w w1 : World} (h : Below w.heap.size w w1) (c : Array Value) : Below w.heap.size w (w1.setRow w.heap.size c) := ps_row h c (Nat.le_refl _)
theorem parsed_any (s : ByteArray) (w : World) (hT : TabP w) (hs : s.size ≤ 1000) : Calls Tryd.prog 16 #[.string s] w (PaB w (textP s)) := by
 obtain ⟨hcv, hsl⟩ := vJ (w.alloc (.cells zC.toArray 31)) s hs;have HL := xH (rlex_any _ s.size (sg s) 0 _ hsl);have HB0 := xH (qg w (.cells zC.toArray 31));have HBW := xH (jM (w.alloc (.cells zC.toArray 31)) s);have HRV := xH (heap_alloc_new w (.cells zC.toArray 31));have HZ := xH (World.size_alloc w (.cells zC.toArray 31));have H1 := xH (qp (t := (lab 0 0, F.nil)) (zero_at w));have HT := xH hT;obtain ⟨R, hR⟩ : ∃ R, textP s = R := ⟨_, rfl⟩;rw [hR];unfold textP at hR;have HR0 := xH hR;have HLX := xH (fun T => lx_of (n := s.size) (g := sg s) (o := 0) (T := T));have HER := xH (fun x (h : rlexP (sg (strOf s.size (sg s))) s.size 0 = .error x) => rtw.rlex_e _ _ _ _ h);clear hT hsl hR;unfold zC at hcv HL HB0 HBW HRV HZ;go_enter Tryd.func16, Tryd.ntmps16;go_upto_region 1 with (fail)
 generalize w.alloc _ = w0 at *;go_wp2_with fail
 refine HL.out.mono ?_;obtain ⟨q, hq⟩ : ∃ q, rlexP (sg (strOf s.size (sg s))) s.size 0 = q := ⟨_, rfl⟩;rw [hq] at HR0 HLX HER ⊢;clear hq HL hcv;have HB1 := xH (HB0.out.trans (HBW.out.mono HB0.out.size));have HRV1 := xH ((HBW.out.block _ (by have := HZ.out; omega)).trans HRV.out);have HZ1 := xH (show w.heap.size + 1 ≤ (Lib.bytesWorld w0 5 s).heap.size by have := HZ.out; have := HBW.out.size; omega);generalize Lib.bytesWorld w0 5 s = w1 at *;clear HB0 HBW HRV HZ;cases q with
 | error x =>
  rintro e w2 ⟨hb, rfl⟩;have HR := xH (show Except.error x = R from HR0.out);have b1 : (x.1 != 0) = true := by simpa using HER.out x rfl
  have HB2 := xH (HB1.out.trans (hb.mono (by have := HB1.out.size; exact this)));have HRV2 := xH ((hb.block _ (by have := HZ1.out; omega)).trans HRV1.out);clear hb HR0 HB1 HRV1 HLX HER;dsimp only;go_wp2_with (refine qh rfl rfl _ _ rfl w.heap.size rfl _ (lab 0 0) HRV2.out rfl H1.out rfl ?_)
  refine bodyPost_ret (results_nd3 rfl _ _ w.heap.size (lab 0 0) rfl (setRow_heap _ _ _ _ _ _ HRV2.out)) rfl ?_;exact ⟨row_below HB2.out _, by rw [← HR.out]; rfl⟩
 | ok T =>
  rintro e w2 ⟨hb, v1, rfl, hrow⟩;have hx := HLX.out T rfl;have HR1 := xH (show parseP T s.size = R from HR0.out);have HIN := xH (tkIn_of (zh := fun i => decide (i = w.heap.size)) hrow (fun i hi => by have := HZ1.out; simp only [decide_eq_true_eq] at hi; omega) (fun t ht => (hx.b t ht).1.w) hx.ltk.n);have HB2 := xH (HB1.out.trans (hb.mono (by have := HB1.out.size; exact this)));have HRV2 := xH ((hb.block _ (by have := HZ1.out; omega)).trans HRV1.out);have HZ2 := xH (Nat.le_trans HZ1.out hb.size);have HPA := xH (parse_any (fun i => decide (i = w.heap.size)) v1 T (s.size : Int) w2 (fun i hi => by have := HZ2.out; simp only [decide_eq_true_eq] at hi; omega) (tabP_below HB2.out HT.out) HIN.out hx.ltk);have HSE := xH (stack_eq hx.tok (s.size : Int));have hsz : (s.size : Int) ≤ 9223372036854775807 := by omega
  obtain ⟨a1, c1, rfl⟩ : ∃ a c, v1 = .slice a T.length c := by obtain ⟨a, c, h, _⟩ := HIN.out;exact ⟨a, c, h⟩
  clear hb hrow hx HR0 HB1 HRV1 HLX HER HIN;dsimp only;go_wp2_with fail
  refine HPA.out.mono ?_;rw [HSE.out];obtain ⟨q, hq⟩ : ∃ q, parseP T (s.size : Int) = q := ⟨_, rfl⟩;have HQ := xH (hq.symm.trans HR1.out);rw [hq];clear hq HPA HSE HR1;cases q with
  | error x =>
   rintro e w3 ⟨hb3, rfl⟩;have HB3 := xH (HB2.out.trans (hb3.mono (by have := HB2.out.size; exact this)));have HRV3 := xH ((hb3.block _ (by have := HZ2.out; omega)).trans HRV2.out);clear hb3 HB2 HRV2;dsimp only;go_wp2_with (refine qh rfl rfl _ _ rfl w.heap.size rfl _ (lab 0 0) HRV3.out rfl H1.out rfl ?_)
   refine bodyPost_ret (results_nd3 rfl _ _ w.heap.size (lab 0 0) rfl (setRow_heap _ _ _ _ _ _ HRV3.out)) rfl ?_;exact ⟨row_below HB3.out _, by rw [← HQ.out]; rfl⟩
  | ok f =>
   rintro e w3 ⟨hb3, x, k, rfl, hn, hst⟩;have HB3 := xH (HB2.out.trans (hb3.mono (by have := HB2.out.size; exact this)));have HRV3 := xH ((hb3.block _ (by have := HZ2.out; omega)).trans HRV2.out);have HND := xH hn;have H2 := xH (qp hn);have HST := xH hst;clear hb3 HB2 HRV2 hn hst H1;dsimp only;go_wp2_with (refine qh rfl rfl _ _ rfl w.heap.size rfl _ x HRV3.out rfl H2.out rfl ?_)
   refine bodyPost_ret (results_nd3 rfl _ _ w.heap.size x rfl (setRow_heap _ _ _ _ _ _ HRV3.out)) rfl ?_;rw [← HQ.out];refine ⟨row_below HB3.out _, x, k, rfl, qY (fun a u hc => ?_) HND.out, HST.out⟩;obtain ⟨h1, h2⟩ := jB.1 hc;exact (World.cell?_of_block (tkw.setRow_other _ _ _ _ (fun e => by simp [e] at h1))).trans h2
end Go.Proofs.YtnpcombfgdbhkaaDoor.psl
end
section
namespace Go.Proofs.YtnpcombfgdbhkaaDoor.psl
open sq
open Go Go.RowKit Go.Maps tkp trp trw rpp rtp setw psw psp
open rpw (qp zero_at qh)
structure Sto (w w2 : World) (y : Lab) : Prop where
 b : Below w.heap.size w w2
 c : ∀ j u, (ndC y)[j]? = some u → w2.cell? ⟨w.heap.size, 0 + j, none⟩ = some u
 h : w2.heap[w.heap.size]? = some (.cells (ndC y).toArray 31 (0, 0))
 z : w2.heap.size = w.heap.size + 1
theorem zO (w : World) (y : Lab) : Sto w ((w.alloc (.cells zC.toArray 31)).setRow w.heap.size (ndC y).toArray) y :=
 ⟨ps_row (trw.qg w _) _ (Nat.le_refl _), fun j u hj => by rw [Nat.zero_add];unfold World.cell?;rw [setRow_heap _ _ _ (ndC y).toArray _ _ (heap_alloc_new w (.cells zC.toArray 31))];simpa using hj, setRow_heap _ _ _ (ndC y).toArray _ _ (heap_alloc_new w (.cells zC.toArray 31)), by rw [tkw.setRow_size, World.size_alloc]⟩
theorem zero_ones : ∀ u ∈ ndC (lab 0 0), u.oneCell' = true := fun u hu => by
 simp only [ndC, lab, nil3, List.mem_cons, List.not_mem_nil, or_false] at hu;rcases hu with rfl | rfl | rfl | rfl | rfl | rfl | rfl | rfl | rfl | rfl | rfl | rfl <;> rfl
theorem awake_any (w : World) (hT : TabP w) : Calls Tryd.prog 9 #[] w (BoolB true w) := by
 have L1 := xH (parsed_any ⟨#[97, 98, 42, 124, 99]⟩ w hT (by decide));have L2 := xH (fun w1 (hb : Below w.heap.size w w1) => parsed_any ⟨#[97, 42, 42]⟩ w1 (tabP_below hb hT) (by decide));have L3 := xH (fun w1 (hb : Below w.heap.size w w1) => parsed_any ⟨#[40]⟩ w1 (tabP_below hb hT) (by decide));clear hT;go_enter Tryd.func9, Tryd.ntmps9;go_wp2_with fail
 refine L1.out.mono ?_;obtain ⟨fa, ha⟩ := ok_a;rw [ha];rintro e w1 ⟨hb1, x, k, rfl, hn, rfl⟩;obtain ⟨hx, b, o, c, b2, o2, c2, h11, m0, m11, m12⟩ := awk_mem hn (by rw [← ha]; exact awk_a);have HX := xH hx;have HK := xH h11;have HM := xH (And.intro m0 (And.intro m11 m12));have HB1 := xH hb1;have HO := xH (qp hn);have HG := xH (heap_alloc_new w1 (.cells zC.toArray 31));have HS := xH (zO w1 x);unfold zC at HG HS;clear hb1 hn ha hx h11 m0 m11 m12 L1;dsimp only;go_upto_region 2 with (refine qh rfl rfl _ _ rfl w1.heap.size rfl _ x HG.out rfl HO.out rfl ?_)
 generalize (w1.alloc _).setRow _ _ = w2 at *;have HB2 := xH (trw.qi HB1.out HS.out.b);go_wp2_with fail
 refine (L2.out w2 HB2.out).mono ?_;rw [er_eq awk_b];rintro e w3 ⟨hb3, rfl⟩;have HB3 := xH (trw.qi HB2.out hb3);have HS3 := xH (hb3);have HG3 := xH (heap_alloc_new w3 (.cells zC.toArray 31));have HT3 := xH (zO w3 (lab 0 0));have HO3 := xH zero_ones;unfold zC at HG3 HT3;clear hb3 L2 HG HO;dsimp only;go_upto_region 3 with (refine qh rfl rfl _ _ rfl w3.heap.size rfl _ (lab 0 0) HG3.out rfl HO3.out rfl ?_)
 generalize (w3.alloc _).setRow _ _ = w4 at *;have HB4 := xH (trw.qi HB3.out HT3.out.b);go_wp2_with fail
 refine (L3.out w4 HB4.out).mono ?_;rw [er_eq awk_c];rintro e w5 ⟨hb5, rfl⟩;have HB5 := xH (trw.qi HB4.out hb5);have HQ5 := xH (trw.qi (trw.qi HS3.out HT3.out.b) hb5);have HG5 := xH (heap_alloc_new w5 (.cells zC.toArray 31));have HT5 := xH (zO w5 (lab 0 0));unfold zC at HG5 HT5;clear hb5 L3 HG3 HS3 HT3;dsimp only;go_upto_region 4 with (refine qh rfl rfl _ _ rfl w5.heap.size rfl _ (lab 0 0) HG5.out rfl HO3.out rfl ?_)
 have HB6 := xH (trw.qi HB5.out HT5.out.b);have HQ6 := xH (trw.qi HQ5.out HT5.out.b);generalize (w5.alloc _).setRow _ _ = w6 at *;have c0 := trw.qf HQ6.out (HS.out.c 0 _ rfl);have c11 := trw.qf HQ6.out (HS.out.c 11 _ rfl);rw [HX.out] at c0;rw [HK.out] at c11;have HR := xH (trw.qi HS.out.b HQ6.out);have d0 := trw.qf HR.out HM.out.1;have d11 := trw.qf HR.out HM.out.2.1;have d12 := trw.qf HR.out HM.out.2.2;have a0 : ∀ (b o : Nat), (⟨b, o, none⟩ : Addr).add (0 * 12) = ⟨b, o, none⟩ := fun b o => by unfold Addr.add; split <;> simp_all
 have a1 : ∀ (b o : Nat), (⟨b, o, none⟩ : Addr).add (1 * 12) = ⟨b, o + 12, none⟩ := fun b o => by unfold Addr.add; split <;> simp_all
 simp only [Nat.zero_add] at c0 c11;clear HX HK HM HS HQ5 HQ6 HR HB1 HB2 HB3 HB4 HB5 HT5 HG5 HO3;generalize w1.heap.size = V1 at *;go_wp2_with fail
 go_ret
 exact ⟨rfl, HB6.out⟩
end Go.Proofs.YtnpcombfgdbhkaaDoor.psl
end
