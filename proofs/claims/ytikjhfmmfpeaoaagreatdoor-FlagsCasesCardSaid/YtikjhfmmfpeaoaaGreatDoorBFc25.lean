/- T -/
import Derived.Shelf.SlicesE.Clone
import Derived.Test.YtikjhfmmfpeaoaaGreatDoorBFc24
set_option maxHeartbeats 16000000
set_option maxRecDepth 1000000
section
namespace Go.Proofs.YtikjhfmmfpeaoaaGreatDoor.fkw
open sq
open Go.Sort Go Go.RowKit Go.Maps tkp trp trw rpp rsp rsw fgp
open rpw (sees jB qU fC jP FSub vw jQ app_sub jH jm own_below qp oneR zk jV qA qh ql jU jc)
def scC (u : Bool) (m f : Int) : Array Value := #[.bool u, .int .i64 m, .int .i64 f]
theorem scInfo : (Tryz.prog.info? 50).map (·.size) = some 3 := by kernel_rfl
theorem wpList_load_sc {ops : Array Oper} {rest : List Oper} {o : Oper} {a : Act} {w : World} {Q : Exit → Act → World → Prop} (hgd : o.guard = none) (x : Operand) (ho : o.op = .load 50 x)
 (b : Nat) (hx : a.eval x = .pointer (some ⟨b, 0, none⟩)) (u : Bool) (m f : Int) (hc : ScAt w b u m f)
 (h : wpList Tryz.prog ops Q rest (a.put o.dst (.agg #[.bool u, .int .i64 m, .int .i64 f])) w) : wpList Tryz.prog ops Q (o :: rest) a w :=
 wpList_load_at hgd 50 x ho ⟨b, 0, none⟩ hx [.bool u, .int .i64 m, .int .i64 f] _ (fun j v hj => by rw [add_plain, Nat.zero_add];unfold ScAt at hc;unfold World.cell?;rw [hc];simpa using hj) Tryz.underlying50 rfl (by rw [scInfo]; rfl) h
theorem wpList_store_sc {ops : Array Oper} {rest : List Oper} {o : Oper} {a : Act} {w : World} {Q : Exit → Act → World → Prop} (hgd : o.guard = none) (hd : o.dst = none) (x y : Operand) (ho : o.op = .store 50 x y)
 (g : Nat) (hx : a.eval x = .pointer (some ⟨g, 0, none⟩)) (u0 : Bool) (m0 f0 : Int) (hg : ScAt w g u0 m0 f0) (u : Bool) (m f : Int) (hy : a.eval y = .agg #[.bool u, .int .i64 m, .int .i64 f])
 (h : wpList Tryz.prog ops Q rest a (w.setRow g (scC u m f))) : wpList Tryz.prog ops Q (o :: rest) a w :=
 wpList_plain hgd fun K hK => by
  have h2 := run_storeCells_at (P := Tryz.prog) g 0 50 [.bool u, .int .i64 m, .int .i64 f] 0 _ w hg (by simp) (by simp [Value.oneCell']);have hz : (sizeOf 50).run Tryz.prog w = .ok 3 w := by kernel_rfl
  have hst : (storeVar 50 ⟨g, 0, none⟩ (.agg #[.bool u, .int .i64 m, .int .i64 f])).run Tryz.prog w = .ok () (w.setRow g (scC u m f)) := by unfold storeVar scC;simp [Sem.run_bind, hz, Value.cells, Result.andThen] at h2 ⊢;rw [h2]
  unfold Oper.wp execOp;simp only [ho, hx, hy, Instr.storeAt, Instr.sureAddr, Sem.run_bind, Sem.run_pure, Result.andThen_ok, hst];have := hK _ _ h;simpa [Oper.upon, hd, Act.put] using this
theorem sc_row {w : World} {g : Nat} {u0 : Bool} {m0 f0 : Int} (hg : ScAt w g u0 m0 f0) (u : Bool) (m f : Int) : ScAt (w.setRow g (scC u m f)) g u m f := setRow_heap _ _ _ _ _ _ hg
theorem drop_size2 {f : F} {i : Nat} {x : Lab} {k r : F} (h : f.drop i = .cons x k r) : (f.drop i).size = 1 + k.size + (f.drop (i + 1)).size := by rw [drop_succ h, h];simp only [F.size];omega
theorem own_ge {h : Nat → Bool} {n : Nat} {w : World} {v : Value} {f : F} (H : OwnH h n w v f) : ∀ g, v.ownBlock = some g → n ≤ g := fun _ hg => (own_below H.1 hg).1
def AllRel (w0 w : World) (h : Nat → Bool) (b : Nat) (u : Bool) (m : Int) (v : Value) (g0 k : F) (R : F × Int) (vp vi : Value) (wr : World) : Prop :=
 ∃ (i : Nat) (f : Int) (g : F), vi = .int .i64 i ∧ i ≤ k.len ∧ g.len + (k.drop i).size ≤ k.size ∧ Hid (OwnH h w0.heap.size wr vp (F.app g0 g)) ∧ Hid (Cx w0 wr h b u m f) ∧ Hid (Vis h vp) ∧ Hid (Ch b v vp w wr) ∧
  Hid ((F.app (strip g) (bothP u m (k.drop i) f).1.1, (bothP u m (k.drop i) f).1.2) = R)
theorem all_of {w0 : World} {u : Bool} {m : Int} {k : F} (hok : OkF k) (hP : ∀ (x : Lab) (k' : F), k'.size < k.size → NdAt w0 (x, k') → OkF (F.one x k') → PutC w0 u m x k') : AllC w0 u m k := by
 intro w h b f v kv g0 hC hO hV hsz hkv;have HP := xH hP;have HOK := xH hok;have HKV := xH hkv;have HC0 := xH hC;have HO0 := xH hO;have HV0 := xH hV;have hlen : k.len ≤ 100000 := by have := rsp.len_size k; omega
 obtain ⟨R, hR⟩ : ∃ R, (bothP u m k f).1 = R := ⟨_, rfl⟩;rw [hR];have HR0 := xH (show (F.app (strip F.nil) (bothP u m (k.drop 0) f).1.1, (bothP u m (k.drop 0) f).1.2) = R by rw [drop_zero, ← hR]; rfl);obtain ⟨a, cap, rfl⟩ := kids_len hkv;clear hok hP hC hO hV hkv hR;go_enter Tryz.func54, Tryz.ntmps54;go_wp2_with fail
 go_loopw [1, 11] (fun vp vi wr => AllRel w0 w h b u m v g0 k R vp vi wr) (fun _ vi _ => k.len - (intOf vi).toNat)
 case atStart => exact ⟨0, f, F.nil, rfl, Nat.zero_le _, by rw [drop_zero]; simp [F.len], xH (by rw [app_nil]; exact HO0.out), HC0, HV0, xH (Ch.refl _ _ _), HR0⟩
 case round =>
  obtain ⟨i, f, g, rfl, hi, hg, hO, hC, hV, hH, hR⟩ := hrel;have HO := xH hO.out;have HC := xH hC.out;have HV := xH hV.out;have HH := xH hH.out;have HR := xH hR.out;have HG := xH hg;clear hO hC hV hH hR hg HR0;by_cases hlt : i < k.len
  ·obtain ⟨x, k', r, hd⟩ := drop_lt hlt;obtain ⟨bb, o, cap', hv, hc1, hc2, hil, hfa⟩ := kid_at HKV.out hd;cases hv;have HS := xH (drop_size2 hd);have HE := xH (fun j v hj => (World.cell?_of_block (HC.out.be.block bb (cell_lt (hfa.1 j v hj)))).trans (hfa.1 j v hj));have HNX := xH (qp (fAt_head hfa));have HD := xH hd;have HCall := xH (HP.out x k' (size_lt hd) (fAt_head hfa) (okF_at HOK.out hd));have a1 := add_row bb o i 12;clear hd hfa;have i1 : (i : Int) < (k.len : Int) := by omega
   have HZN := xH (heap_alloc_new wr (.cells zC.toArray 27));have HG1 := xH (setRow_heap _ _ _ (ndC x).toArray _ _ (heap_alloc_new wr (.cells zC.toArray 27)));have HB1 := xH (jU wr zC.toArray (ndC x).toArray 27);have HCL := xH (HCall.out _ h b f u1 (F.app g0 g) (HC.out.keep HB1.out) (ownH_below HO.out HB1.out) HV.out (by rw [rsp.jd]; have := HG.out; have := HS.out; omega));obtain ⟨t, ht⟩ : ∃ t, putP u m (fun g => (bothP u m k' g).1) (fun g => (bothP u m k' g).2) x f = t := ⟨_, rfl⟩;have HT := xH ht;rw [ht] at HCL;have HTL := xH (show t.1.len ≤ k'.size + 1 from ht ▸ fkp.put_len u m _ _ x f k'.size (fun q => fkp.both_len u m k' q));clear ht HCall HP HKV;unfold zC at HZN HG1 HB1 HCL;go_wp2_with (first
    | (refine jv rfl _ rfl bb (o + i * 12) rfl x HE.out ?_)
    | (refine qh rfl rfl _ _ rfl wr.heap.size rfl _ x HZN.out rfl HNX.out rfl ?_)
    | (refine ql rfl _ rfl wr.heap.size rfl x HG1.out ?_))
   refine HCL.out.mono ?_;rintro e w2 ⟨v', g', rfl, ho, hs, hsc, hch⟩;have HO2 := xH (show OwnH h w0.heap.size w2 v' (F.app g0 (F.app g g')) by rw [← app_assoc]; exact ho);have HS2 := xH hs;have HCH := xH (Ch.after HB1.out hch);have HC2 := xH (HC.out.ch HCH.out hsc (own_ge HO.out));have HV2 := xH (HV.out.next HCH.out HC.out.old);clear ho hs hsc hch HCL;dsimp only;go_wp2_with fail
   have hi1 : i + 1 ≤ k.len := by omega
   refine ⟨⟨i + 1, t.2, F.app g g', ?_, hi1, ?_, HO2, HC2, HV2, xH (HH.out.trans HCH.out), xH ?_⟩, ?_⟩
   ·rfl
   ·have e1 : g'.len = t.1.len := by rw [← HS2.out, jm]
    have := HTL.out;have := HS.out;have := HG.out;rw [rsp.jd];omega
   ·rw [← HR.out, jH, HS2.out, HD.out, bothP, HT.out, drop_succ HD.out];simp only;rw [app_assoc]
   ·simp only [intOf];omega
  ·have hge : ¬ ((i : Int) < (k.len : Int)) := by omega
   have hend : k.drop i = .nil := drop_end (by omega);have HE := xH hend;obtain ⟨qa, qc, rfl⟩ : ∃ a c, u1 = .slice a (F.app g0 g).len c := zJ HO.out.1;clear hlt hend;go_wp2_with fail
   go_ret
   refine ⟨_, g, rfl, HO.out, ?_, ?_, HH.out⟩
   ·rw [← HR.out, HE.out];show strip g = F.app (strip g) .nil;rw [app_nil]
   ·rw [← HR.out, HE.out];exact HC.out.sc
def KidRel (w0 w : World) (h : Nat → Bool) (b : Nat) (u : Bool) (m : Int) (k : F) (R : F) (vo vi : Value) (wr : World) : Prop :=
 ∃ (i : Nat) (f : Int) (g : F), vi = .int .i64 i ∧ i ≤ k.len ∧ g.len = i ∧ Hid (OwnH (h1 h b) w.heap.size wr vo g) ∧ Hid (Cx w0 wr (h1 h b) b u m f) ∧ Hid (Vis (h1 h b) vo) ∧ Hid (Below w.heap.size w wr) ∧
  Hid (F.app (strip g) (bothP u m (k.drop i) f).2 = R)
theorem kids_of {w0 : World} {u : Bool} {m : Int} {k : F} (hok : OkF k) (hP : ∀ (x : Lab) (k' : F), k'.size < k.size → NdAt w0 (x, k') → OkF (F.one x k') → ResC w0 u m x k') : KidsC w0 u m k := by
 intro w h b f kv hC hsz hkv;have HP := xH hP;have HOK := xH hok;have HKV := xH hkv;have HC0 := xH hC;have hlen : k.len ≤ 100000 := by have := rsp.len_size k; omega
 obtain ⟨R, hR⟩ : ∃ R, (bothP u m k f).2 = R := ⟨_, rfl⟩;rw [hR];have HR0 := xH (show F.app (strip F.nil) (bothP u m (k.drop 0) f).2 = R by rw [drop_zero, ← hR]; rfl);obtain ⟨a, cap, rfl⟩ := kids_len hkv;obtain ⟨c0, c1, c2, -⟩ := hC.sc.cells;clear hok hP hC hkv hR;have HSA := xH (show ScAt (w.alloc (.cells (scC false 0 0) 50)) w.heap.size false 0 0 from heap_alloc_new w (.cells (scC false 0 0) 50));have HSC := xH (sc_row HSA.out u m f);have HB0 := xH (jU w (scC false 0 0) (scC u m f) 50);have HS0 := xH (HC0.out.sc);have HS1 := xH (HC0.out.sc.keep (qg w (.cells (scC false 0 0) 50)));have HZ0 := xH (show ((w.alloc (.cells (scC false 0 0) 50)).setRow w.heap.size (scC u m f)).heap.size = w.heap.size + 1 by rw [tkw.setRow_size, World.size_alloc]);clear c0 c1 c2;unfold scC at HSA HSC HB0 HS1 HZ0;go_enter Tryz.func56, Tryz.ntmps56;go_wp2_with (first
  | (refine wpList_load_sc rfl _ rfl b rfl u m f HS0.out ?_)
  | (refine wpList_load_sc rfl _ rfl b rfl u m f HS1.out ?_)
  | (refine wpList_store_sc rfl rfl _ _ rfl w.heap.size rfl false 0 0 HSA.out u m f rfl ?_; unfold scC))
 generalize (w.alloc _).setRow _ _ = w1 at *;have HC1 := xH (show Cx w0 w1 (h1 h w.heap.size) w.heap.size u m f from ⟨HC0.out.be.trans (HB0.out.mono HC0.out.be.size), h1_old HC0.out.old (by rw [HZ0.out]; omega) (by rw [HZ0.out]; omega), h1_self _ _, HC0.out.be.size, HSC.out⟩)
 go_loopw [6, 14] (fun vo vi wr => KidRel w0 w h w.heap.size u m k R vo vi wr) (fun _ vi _ => k.len - (intOf vi).toNat)
 case atStart => exact ⟨0, f, F.nil, rfl, Nat.zero_le _, rfl, xH (ownH_nil _ _ _), HC1, xH (vis_nil _), HB0, HR0⟩
 case round =>
  obtain ⟨i, f', g, rfl, hi, hg, hO, hC, hV, hH, hR⟩ := hrel;have HO := xH hO.out;have HC := xH hC.out;have HV := xH hV.out;have HH := xH hH.out;have HR := xH hR.out;have HG := xH hg;clear hO hC hV hH hR hg HR0;by_cases hlt : i < k.len
  ·obtain ⟨x, k', r, hd⟩ := drop_lt hlt;obtain ⟨bb, o, cap', hv, hc1, hc2, hil, hfa⟩ := kid_at HKV.out hd;cases hv;have HS := xH (drop_size2 hd);have HSL := xH (size_lt hd);have HE := xH (fun j v hj => (World.cell?_of_block (HC.out.be.block bb (cell_lt (hfa.1 j v hj)))).trans (hfa.1 j v hj));have HNX := xH (qp (fAt_head hfa));have HD := xH hd;have HCall := xH (HP.out x k' (size_lt hd) (fAt_head hfa) (okF_at HOK.out hd));have a1 := add_row bb o i 12;clear hd hfa;have i1 : (i : Int) < (k.len : Int) := by omega
   have HZN := xH (heap_alloc_new wr (.cells zC.toArray 27));have HG1 := xH (setRow_heap _ _ _ (ndC x).toArray _ _ (heap_alloc_new wr (.cells zC.toArray 27)));have HB1 := xH (jU wr zC.toArray (ndC x).toArray 27);have HOX := xH (hx_old2 (m := wr.heap.size) HC.out.old (Nat.le_refl _) HO.out.1 (Nat.le_refl _));have HHB := xH (show hx (h1 h w.heap.size) u6 w.heap.size = true by simp [hx, h1_self]);have HCL := xH (HCall.out _ (hx (h1 h w.heap.size) u6) w.heap.size f' ((HC.out.hide HOX.out HHB.out).keep HB1.out) (by have := HSL.out; omega));obtain ⟨t, ht⟩ : ∃ t, putP u m (fun g => (bothP u m k' g).1) (fun g => (bothP u m k' g).2) x f' = t := ⟨_, rfl⟩;have HT := xH ht;rw [ht] at HCL;clear ht HCall HP HKV;unfold zC at HZN HG1 HB1 HCL;go_wp2_with (first
    | (refine jv rfl _ rfl bb (o + i * 12) rfl x HE.out ?_)
    | (refine qh rfl rfl _ _ rfl wr.heap.size rfl _ x HZN.out rfl HNX.out rfl ?_)
    | (refine ql rfl _ rfl wr.heap.size rfl x HG1.out ?_))
   refine HCL.out.mono ?_;rintro e w2 ⟨y, j, rfl, hn, hs, hsc, hch⟩;have HN2 := xH hn;have HS2 := xH hs;have HCH := xH (Ch.after HB1.out hch);have HC2 := xH (HC.out.ch HCH.out hsc (by intro g e; cases e));have HO2 := xH (ownH_ch HO.out HCH.out HC.out.hb (fun e => by have := HV.out _ e; rw [HC.out.hb] at this; cases this));have HB2 := xH (show Below w.heap.size w w2 from HCH.out.below HH.out HH.out.size (Nat.le_refl _) (by intro g e; cases e));have HY := xH (qp hn);have HOX2 := xH (HOX.out.le HCH.out.size);have HLN := xH (show g.len + (F.one y j).len ≤ 200000 by rw [HG.out]; simp only [F.one, F.len]; omega);obtain ⟨Z, hZ⟩ : ∃ Z, w2.heap.size = Z := ⟨_, rfl⟩;have HZZ := xH hZ;have HKD := xH (show ∀ w17, w17 = w2.alloc (.cells (ndC y).toArray 27) → jr (sees (hx (h1 h w.heap.size) u6) w17) (.slice (some ⟨Z, 0, none⟩) 1 1) (F.one y j) from fun w17 h17 => by subst h17;have := row1_kids HN2.out HOX2.out;rw [hZ] at this;exact this)
   clear hZ hn hs hsc hch HCL HE HO;dsimp only;go_wp2_with (first
    | (refine jc rfl _ rfl y rfl Z HZZ.out ?_; intro w17 h17; have HO17 := xH (ownH_below HO2.out (h17.out ▸ qg w2 _)); have HK17 := xH (HKD.out w17 h17.out); have HB17 := xH (show Below w2.heap.size w2 w17 from h17.out ▸ qg w2 _); have HS17 := xH (show w.heap.size ≤ w17.heap.size from Nat.le_trans HB2.out.size HB17.out.size); clear h17)
    | (at_builtin; refine wpList_append_k rfl _ _ rfl (h1 h w.heap.size) w.heap.size u6 g rfl HO17.out _ (F.one y j) rfl HK17.out HLN.out HS17.out ?_; intro v18 w18 h18 hb18; have HO18 := xH h18; have HCH18 := xH (hb18 w.heap.size); have HCHX := xH (hb18 w17.heap.size); clear h18 hb18))
   have hi1 : i + 1 ≤ k.len := by omega
   have HC17 := xH (HC2.out.keep HB17.out);have HB18 := xH (show Below w.heap.size w w18 from HCH18.out.below (HB2.out.trans (HB17.out.mono HB2.out.size)) HS17.out (Nat.le_refl _) (own_ge HO17.out));have HS18 := xH (HC17.out.sc.ch0 HCHX.out HV.out HC17.out.hb);refine ⟨⟨i + 1, t.2, F.app g (F.one y j), ?_, hi1, ?_, HO18, xH (HC17.out.ch HCH18.out HS18.out (fun g e => Nat.le_trans HC0.out.be.size (own_ge HO17.out g e))), xH (HV.out.next HCH18.out HC17.out.old), HB18, xH ?_⟩, ?_⟩
   ·rfl
   ·rw [rsp.jd, HG.out]; rfl
   ·rw [← HR.out, jH, HS2.out, HD.out, bothP, HT.out, drop_succ HD.out];simp only;rw [app_assoc]
   ·simp only [intOf];omega
  ·have hge : ¬ ((i : Int) < (k.len : Int)) := by omega
   have hend : k.drop i = .nil := drop_end (by omega);have HE := xH hend;obtain ⟨qa, qc, rfl⟩ : ∃ a c, u6 = .slice a g.len c := zJ HO.out.1;clear hlt hend;go_wp2_with fail
   go_ret
   refine ⟨_, g, rfl, ownH_show HO.out (h1_mono _ _), ?_, HH.out⟩;rw [← HR.out, HE.out];show strip g = F.app (strip g) .nil;rw [app_nil]
end Go.Proofs.YtikjhfmmfpeaoaaGreatDoor.fkw
end
section
namespace Go.Proofs.YtikjhfmmfpeaoaaGreatDoor.fkw
open sq
open Go.Sort Go Go.RowKit Go.Maps Go.Shelf setp setw tkp trp trw rpp rsp fgp
open rpw (sees jB qU)
open rsw (Old own_rg)
def cloneR_ren : Go.Shelf.Ren := ⟨fun | 41 => 55 | n => n, fun | 22 => 24 | 23 => 57 | 4 => 4 | n => n, fun | n => n⟩
theorem cloneR : Go.Proofs.SlLaysE0.n41 Tryz.prog cloneR_ren := {
 mixed := by kernel_rfl,
 f41 := ⟨Tryz.f55.name, by decide, Tryz.func55.trans (congrArg some (by kernel_rfl))⟩,
 t4 := Tryz.underlying4,
 a4 := Tryz.isAgg4,
 z4 := Tryz.sizeOf4,
 v4 := Tryz.zeroValue4,
 t22 := Tryz.underlying24,
 a22 := Tryz.isAgg24,
 z22 := Tryz.sizeOf24,
 v22 := Tryz.zeroValue24 }
theorem rgInfo2 : (Tryz.prog.info? 57).map (fun i => (i.zero, i.size, i.bytes)) = some (some (.agg #[.int .i64 0, .int .i64 0]), 2, 16) := by kernel_rfl
theorem fk_rcs_at : ∀ (l : List Rg) (i : Nat) (u : Value), (rcs l)[i]? = some u → ∃ r, l[i / 2]? = some r ∧ (i % 2 = 0 ∧ u = .int .i64 r.1 ∨ i % 2 = 1 ∧ u = .int .i64 r.2)
 | [], i, u, h => by simp [rcs] at h
 | r :: l, 0, u, h => by refine ⟨r, rfl, Or.inl ⟨rfl, ?_⟩⟩;simpa [rcs] using h.symm
 | r :: l, 1, u, h => by refine ⟨r, rfl, Or.inr ⟨rfl, ?_⟩⟩;simpa [rcs] using h.symm
 | r :: l, i + 2, u, h => by obtain ⟨q, h1, h2⟩ := fk_rcs_at l i u (by simpa [rcs] using h);refine ⟨q, ?_, by rw [show (i + 2) % 2 = i % 2 by omega]; exact h2⟩;rw [show (i + 2) / 2 = i / 2 + 1 by omega];simpa using h1
theorem wpList_append_z {ops : Array Oper} {rest : List Oper} {o : Oper} {a : Act} {w : World} {Q : Exit → Act → World → Prop} (hgd : o.guard = none) (s x : Operand)
 (ho : o.op = .call { callee := .builtin .append, args := #[s, x], argTypes := #[24, 24] }) (v : Value) (n : Nat) (hs : a.eval s = v) (hown : w.ownsRow n 57 2 v 0 []) (ga : Option Addr) (gc : Nat) (hx : a.eval x = .slice ga 0 gc)
 (h : wpList Tryz.prog ops Q rest (a.put o.dst v) w) : wpList Tryz.prog ops Q (o :: rest) a w := by
 obtain ⟨i0, hi, hz0, hz1, hz2⟩ := info_parts rgInfo2;refine wpList_plain hgd fun K hK => ?_
 have hrun := setw.run_append_zero (P := Tryz.prog) (w := w) 24 o.type i0 Tryz.underlying24 hi hown ga gc;unfold Oper.wp;simp [execOp, ho, resolve, invoke, builtin, hs, hx, hrun, Result.andThen];exact hK _ _ h
theorem clone_rg (v : Value) (S : List Rg) (w : World) (h : Nat → Bool) (hv : RgAt w v S) (hl : S.length ≤ 100000) (ho : Old h w.heap.size) : Calls Tryz.prog 55 #[v] w (fun e w' => ∃ a c, e = .returned (.slice a S.length c) ∧ RgAt (sees h w') (.slice a S.length c) S ∧ Below w.heap.size w w') := by
 obtain ⟨a, cap, rfl, h1, h2, h3⟩ := hv;by_cases hS : S = []
 ·subst hS;cases a with
  | none =>
   refine (AnyE.slices_Clone_nil (P := Tryz.prog) (ρ := cloneR_ren) cloneR _ _ w).mono ?_;rintro e w' ⟨rfl, rfl⟩;exact ⟨_, _, rfl, ⟨_, 0, rfl, by simp, by decide, Or.inl rfl⟩, Below.refl _ _⟩
  | some ad =>
   have HOW := xH (World.ownsRow_made (base := w.heap.size) (e := 57) (size := 2) w #[] 0 (Nat.le_refl _) (Nat.zero_le _) (by simp));have q22 : ∀ (w : World) (a : Option Addr) (n c n' c' : Nat), (binOp .eql 24 (.slice a n c) (.slice none n' c')).run Tryz.prog w = .ok (.bool a.isNone) w := fun w a n c n' c' => Lib.run_eql_slice_nil w _ _ a n c n' c' Tryz.underlying24
   clear h3;go_enter Tryz.func55, Tryz.ntmps55;go_wp2_with (at_builtin; refine wpList_append_z rfl _ _ rfl _ w.heap.size rfl HOW.out (some ad) cap rfl ?_)
   go_ret
   exact ⟨_, _, rfl, ⟨_, 0, rfl, by simp, by decide, Or.inl rfl⟩, trw.qg _ _⟩
 ·obtain ⟨b, o, rfl, hc⟩ := h3.resolve_left hS;obtain ⟨i0, hi, hz0, hz1, hz2⟩ := info_parts rgInfo2;have hw : Wf S := fun r hr => by obtain ⟨i, hi, rfl⟩ := List.getElem_of_mem hr;exact (hc i _ (List.getElem?_eq_getElem hi)).2.2
  refine (AnyE.slices_Clone (P := Tryz.prog) (ρ := cloneR_ren) cloneR i0 (.agg #[.int .i64 0, .int .i64 0]) 2 16 hi hz0 hz1 hz2 rfl (by decide) Tryz.sizeOf57 b o S.length cap (rcs S) w (rcs_len S) (by unfold maxLen; omega) (by omega) ?_ ?_).mono ?_
  ·intro j u hj;obtain ⟨r, e1, e2⟩ := fk_rcs_at S j u hj;obtain ⟨q1, q2, _, _⟩ := hc (j / 2) r e1;rcases e2 with ⟨e, rfl⟩ | ⟨e, rfl⟩
   ·rw [show o + j = o + j / 2 * 2 by omega]; exact q1
   ·rw [show o + j = o + j / 2 * 2 + 1 by omega]; exact q2
  ·intro u hu;unfold rcs at hu;simp only [List.mem_flatMap, List.mem_cons, List.not_mem_nil, or_false] at hu;obtain ⟨r, _, rfl | rfl⟩ := hu <;> rfl
  ·rintro e w' ⟨v', rfl, how, _, hb⟩;have hr : RgAt (sees h w') v' S := own_rg ⟨how, fun e => absurd e hS⟩ hw ho;obtain ⟨a, c, rfl, q⟩ := hr;exact ⟨a, c, rfl, ⟨a, c, rfl, q⟩, hb⟩
end Go.Proofs.YtikjhfmmfpeaoaaGreatDoor.fkw
end
section
namespace Go.Proofs.YtikjhfmmfpeaoaaGreatDoor.rsw
open sq
open Go.Sort Go Go.RowKit Go.Maps setp setw tkp trp trw rpp rsp
open rpw (sees jB qU fC jP FSub vw jQ app_sub jH jm own_below qp oneR zk jV qA qh jU lab_ok rg_nil ql)
open rpw (jc qI)
open tkw (qM)
def hN (h : Nat → Bool) (q : Nat) (i : Nat) : Bool := h i || decide (i = q) || decide (i + 1 = q)
theorem nd_unN {h : Nat → Bool} {q : Nat} {w : World} {cs : Array Value} {t : Nd} (H : NdAt (sees (hN h q) w) t) : NdAt (sees h (w.setRow q cs)) t :=
 qY (qU fun a v h1 hc => by simp only [hN, Bool.or_eq_false_iff, decide_eq_false_iff_not] at h1;exact ⟨h1.1.1, rpw.jI cs hc h1.1.2⟩) H
theorem nd_fld {h : Nat → Bool} {q o : Nat} {w : World} {v : Value} {t : Nd} (H : NdAt (sees (hN h (q + 1)) w) t) : NdAt (sees (hN h (q + 1)) (w.setCell ⟨q, o, none⟩ v)) t :=
 qY (qU fun a u h1 hc => ⟨h1, (World.cell?_of_block (rpw.qx o v (fun e => by simp only [hN, Bool.or_eq_false_iff, decide_eq_false_iff_not] at h1;exact h1.2 (by rw [e])))).trans hc⟩) H
theorem qZ {fn : Func} {p q : Tmp} (h : fn.results = #[.cell p 27, .tmp q]) (tmps : Array Value) (w : World) (g : Nat) (l : Lab) (hp : tmps.getD p undef = .pointer (some ⟨g, 0, none⟩)) (hg : w.heap[g]? = some (.cells (ndC l).toArray 27 (0, 0))) :
 (results fn tmps).run Tryz.prog w = .ok (.tuple #[ndV l, tmps.getD q undef]) w := by
 have hp' : tmps[p]?.getD undef = .pointer (some ⟨g, 0, none⟩) := by simpa using hp
 simp [results, h, hp', asAddr, run_loadVar_row w g 27 27 (ndC l).toArray (0, 0) _ hg Tryz.underlying27 rfl (by rw [ndInfo]; rfl)];rfl
theorem set_lab {h : Nat → Bool} {n : Nat} {w : World} {v : Value} {S : List Rg} {at_ : Int} (ha : I64 at_) (H : OwnR w n v S) (hS : Wf S) (ho : Old h n) : NdAt (sees h w) ({ lab 2 at_ with sv := v, set := S }, .nil) := by
 have z : I64 0 := by unfold I64; omega
 exact ⟨⟨by show I64 2; unfold I64; omega, ha, z, z, z, z, z, z⟩, own_rg H hS ho, none, 0, rfl, by simp [F.len], by decide, Or.inl rfl⟩
theorem lit_wf {c : Int} (h : I64 c) : Wf [(c, c)] := fun r hr => by
 simp only [List.mem_cons, List.not_mem_nil, or_false] at hr;subst hr;exact ⟨h, h⟩
theorem row2_kids {h : Nat → Bool} {w w' : World} {a b : Lab} {ka kb : F} (ha : NdAt (sees h w) (a, ka)) (hb : NdAt (sees h w) (b, kb)) (ho : Old h w.heap.size) (hw : w.alloc (.cells (ndC a ++ ndC b).toArray 27) = w') : jr (sees h w') (.slice (some ⟨w.heap.size, 0, none⟩) 2 2) (F.app (F.one a ka) (F.one b kb)) := by
 subst hw;have hbl := qg w (.cells (ndC a ++ ndC b).toArray 27);have hg : h w.heap.size = false := by
  cases e : h w.heap.size with
  | false => rfl
  | true => have := ho _ e; omega
 have ha' := qV hbl ha;have hb' := qV hbl hb;have hc : ∀ j u, (ndC a ++ ndC b)[j]? = some u → (sees h (w.alloc (.cells (ndC a ++ ndC b).toArray 27))).cell? ⟨w.heap.size, j, none⟩ = some u := fun j u hj => jB.2 ⟨hg, by rw [World.cell?_alloc_new]; simpa using hj⟩
 refine ⟨_, 2, rfl, Nat.le_refl _, by decide, Or.inr ⟨w.heap.size, 0, rfl, fun j u hj => ?_, ⟨ha'.1, ha'.2.1⟩, ha'.2.2, fun j u hj => ?_, ⟨hb'.1, hb'.2.1⟩, hb'.2.2, trivial⟩⟩
 ·rw [Nat.zero_add];exact hc j u (by rw [List.getElem?_append_left (List.getElem?_eq_some_iff.1 hj).1]; exact hj)
 ·exact hc (0 + 12 + j) u (by rw [List.getElem?_append_right (by simp [ndC])]; simpa [ndC] using hj)
end Go.Proofs.YtikjhfmmfpeaoaaGreatDoor.rsw
end
section
namespace Go.Proofs.YtikjhfmmfpeaoaaGreatDoor.fkw
open sq
open Go.Sort Go Go.RowKit Go.Maps setp setw tkp trp trw rpp rsp fgp
open rpw (sees jB qU fC jP FSub vw jQ app_sub jH jm own_below qp oneR zk jV qA qh ql jU jc qI zero_at)
open rsw (Old set_lab row1_kids row2_kids qV own_lit)
def SelfB (h : Nat → Bool) (r : F) (w : World) (e : Ending) (w' : World) : Prop := ∃ y j, e = .returned (ndV y) ∧ NdAt (sees h w') (y, j) ∧ strip (F.one y j) = r ∧ Below w.heap.size w w'
theorem lineset_any (u : Bool) (m at_ : Int) (v : Value) (l : List Rg) (pa pb : Nat) (w : World) (h : Nat → Bool) (ha : AlOk u m) (hat : I64 at_) (c1 : w.cell? ⟨pa, 0, none⟩ = some (.int .i64 at_)) (c2 : w.cell? ⟨pb, 0, none⟩ = some (.bool u)) (c3 : w.cell? ⟨pb, 1, none⟩ = some (.int .i64 m)) (hv : RsAt w v l) (hl : l.length ≤ 1000) (ho : Old h w.heap.size) :
 Calls Tryz.prog 98 #[v, .pointer (some ⟨pa, 0, none⟩), .pointer (some ⟨pb, 0, none⟩)] w (fun e w' => ∃ s, e = .returned (ndV { lab 2 at_ with sv := s, set := normR m l }) ∧ NdAt (sees h w') ({ lab 2 at_ with sv := s, set := normR m l }, .nil) ∧ Below w.heap.size w w') := by
 have HB := xH (qg w (.cells zC.toArray 27));have HG := xH (heap_alloc_new w (.cells zC.toArray 27));have HZ := xH (World.size_alloc w (.cells zC.toArray 27));have HV := xH hv;have HA := xH ha;have HO := xH ho;have HAT := xH hat;have HC1 := xH c1;have HC2 := xH c2;have HC3 := xH c3;clear hv ha ho hat c1 c2 c3;unfold zC at HB HG HZ;go_enter Tryz.func98, Tryz.ntmps98;go_upto_region 1 with (fail)
 generalize w.alloc _ = w1 at *;have d1 := trw.qf HB.out HC1.out;have d2 := trw.qf HB.out HC2.out;have d3 := trw.qf HB.out HC3.out;go_wp2_with fail
 refine wp_region_held_drew (S := fun w' => Below w.heap.size w w' ∧ ∃ cs : Array Value, cs.size = 12 ∧ w'.heap[w.heap.size]? = some (.cells cs 27 (0, 0))) (by kernel_rfl) ⟨HB.out.drew, _, rfl, HG.out⟩ (fun hHeld => ?_);refine xT 0 rfl ?_ ?_ ?_;rotate_left
 ·intro w' hSw;have q0 := trw.qf hSw.1 HC1.out;go_simp;try rfl
 simp only [xS];refine xT 1 rfl ?_ ?_ ?_;rotate_left
 ·intro w' hSw;have q0 := trw.qf hSw.1 HC2.out;have q1 := trw.qf hSw.1 HC3.out;go_simp;try rfl
 simp only [xS];refine xT 2 rfl ?_ ?_ ?_;rotate_left
 ·intro w' hSw;go_simp;try rfl
 simp only [xS];refine xD 3 rfl (fun K hK => ?_);go_simp;have HR := xH (restricted_any u m v l _ (jl HV.out hHeld.1) (by omega) HA.out.b.1 HA.out.b.2);unfold alV at HR;refine HR.out.mono ?_;rintro e w2 ⟨s, S, rfl, hS, hh, ho2, hb2⟩;have e := normR_only HA.out.b.2 hS hh;subst e;obtain ⟨sa, sc, rfl⟩ := zJ ho2.1;have HN := xH (set_lab (h := h1 h w.heap.size) HAT.out ho2 (fk_wf hS) (h1_old HO.out (by have := hHeld.1.size; exact this) (by have := HZ.out; have q : w1.drew.heap.size = w1.heap.size := rfl; omega)));have HB2 := xH (show Below w.heap.size w w2 from hHeld.1.trans (hb2.mono hHeld.1.size));have HG2 := xH ((hb2.block w.heap.size (by have := HZ.out; have q : w1.drew.heap.size = w1.heap.size := rfl; omega)).trans HG.out);clear hS hh ho2 hb2 HR;dsimp only;refine hK.out _ _ ⟨HB2.out, _, rfl, HG2.out⟩ (fun hHeld => ?_);clear hK K;try simp only [xS]
 refine xT 4 rfl ?_ ?_ ?_;rotate_left
 ·intro w' hSw;go_simp;try rfl
 simp only [xS];refine xD 5 rfl (fun K hK => ?_);refine qI rfl rfl _ _ rfl w.heap.size rfl _ { lab 2 at_ with sv := .slice sa (normR m l).length sc, set := normR m l } HG2.out rfl (qp HN.out) rfl ?_;have HB3 := xH (rpw.qC HB2.out (ndC { lab 2 at_ with sv := .slice sa (normR m l).length sc, set := normR m l }).toArray (Nat.le_refl _));have HG3 := xH (setRow_heap _ _ _ (ndC { lab 2 at_ with sv := .slice sa (normR m l).length sc, set := normR m l }).toArray _ _ HG2.out);refine hK.out _ _ ⟨HB3.out, _, rfl, HG3.out⟩ (fun hHeld => ?_);clear hK K;refine wpAnyH_done (by kernel_rfl) ?_ _;go_wp2_with fail
 refine bodyPost_ret (qA rfl _ _ w.heap.size { lab 2 at_ with sv := .slice sa (normR m l).length sc, set := normR m l } rfl HG3.out) rfl ?_;exact ⟨_, rfl, nd_unh1 HN.out, HB3.out⟩
theorem wpList_store_nw {ops : Array Oper} {rest : List Oper} {o : Oper} {a : Act} {w : World} {Q : Exit → Act → World → Prop} (hgd : o.guard = none) (hd : o.dst = none) (x y : Operand) (ho : o.op = .store 27 x y)
 (g : Nat) (hx : a.eval x = .pointer (some ⟨g, 0, none⟩)) (old : Array Value) (l : Lab) (hg : w.heap[g]? = some (.cells old 27 (0, 0))) (hs : old.size = 12) (h1 : ∀ u ∈ ndC l, u.oneCell' = true) (hy : a.eval y = ndV l)
 (h : ∀ w', Hid (w' = w.setRow g (ndC l).toArray) → wpList Tryz.prog ops Q rest a w') : wpList Tryz.prog ops Q (o :: rest) a w :=
 qh hgd hd x y ho g hx old l hg hs h1 hy (h _ (xH rfl))
theorem lab_at {k a : Int} (hk : I64 k) (ha : I64 a) (v : Value) : LabOk { lab k a with kv := v } := by
 have z : I64 0 := by unfold I64; omega
 exact ⟨hk, ha, z, z, z, z, z, z⟩
theorem pair_nd {h : Nat → Bool} {w w' : World} {k a : Int} {x y : Lab} {kx ky : F} {Z : Nat} (hk : I64 k) (ha : I64 a) (hx : NdAt (sees h w) (x, kx)) (hy : NdAt (sees h w) (y, ky)) (ho : Old h w.heap.size) (hZ : w.heap.size = Z) (hw : w' = w.alloc (.cells (ndC x ++ ndC y).toArray 27)) :
 NdAt (sees h w') ({ lab k a with kv := .slice (some ⟨Z, 0, none⟩) 2 2 }, F.app (F.one x kx) (F.one y ky)) := by
 subst hZ;exact ⟨lab_at hk ha _, rpw.rg_nil _, row2_kids hx hy ho hw.symm⟩
theorem single_nd {h : Nat → Bool} {w w' : World} {k a : Int} {x : Lab} {kx : F} {Z : Nat} (hk : I64 k) (ha : I64 a) (hx : NdAt (sees h w) (x, kx)) (ho : Old h w.heap.size) (hZ : w.heap.size = Z) (hw : w' = w.alloc (.cells (ndC x).toArray 27)) :
 NdAt (sees h w') ({ lab k a with kv := .slice (some ⟨Z, 0, none⟩) 1 1 }, F.one x kx) := by
 subst hZ;subst hw;exact ⟨lab_at hk ha _, rpw.rg_nil _, row1_kids hx ho⟩
theorem canon_ends : Canon [(10, 13), (133, 133), (8232, 8233)] := by refine ⟨by simp, fun r hr => ?_⟩;simp only [List.mem_cons, List.not_mem_nil, or_false] at hr;rcases hr with rfl | rfl | rfl <;> simp
theorem wpList_build_nd2 {ops : Array Oper} {rest : List Oper} {o : Oper} {a : Act} {w : World} {Q : Exit → Act → World → Prop} (hg : o.guard = none) (x y : Operand) (ho : o.op = .buildSlice 25 2 #[(0, x), (1, y)])
 (l r : Lab) (hx : a.eval x = ndV l) (hy : a.eval y = ndV r) (B : Nat) (hB : w.heap.size = B)
 (h : ∀ w', Hid (w' = w.alloc (.cells (ndC l ++ ndC r).toArray 27)) → wpList Tryz.prog ops Q rest (a.put o.dst (.slice (some ⟨B, 0, none⟩) 2 2)) w') : wpList Tryz.prog ops Q (o :: rest) a w := by
 obtain ⟨i0, hi, hz0, hz1, hz2⟩ := info_parts infoNd;subst hB;refine wpList_buildSlice hg _ 27 2 _ ho (ndC l ++ ndC r).toArray i0 _ Tryz.underlying25 hi hz0 (by rw [hz1]; decide) (by rw [hz1]; decide) ?_ (h _ (xH rfl));simp only [List.map_toArray, List.map_cons, List.map_nil, hx, hy, hz1];kernel_rfl
theorem norm_lit {m c : Int} (hm : 255 ≤ m) (hm2 : m ≤ 1114111) (h0 : 0 ≤ c) (h1 : c ≤ 255) : normR m [(c, c)] = [(c, c)] := by
 refine (normR_only hm2 (S := [(c, c)]) ⟨by simp, fun r hr => ?_⟩ fun x => ?_).symm
 ·simp only [List.mem_cons, List.not_mem_nil, or_false] at hr;subst hr;exact ⟨h0, Int.le_refl _, by omega⟩
 ·unfold Has;constructor
  ·rintro ⟨r, hr, h⟩;simp only [List.mem_cons, List.not_mem_nil, or_false] at hr;subst hr;exact ⟨⟨_, by simp, h⟩, by omega, by omega⟩
  ·rintro ⟨h, -, -⟩;exact h
theorem canon_lit {c : Int} (h0 : 0 ≤ c) (h1 : c ≤ 1114111) : Canon [(c, c)] := ⟨by simp, fun r hr => by
 simp only [List.mem_cons, List.not_mem_nil, or_false] at hr;subst hr;exact ⟨h0, Int.le_refl _, h1⟩⟩
theorem AlOk.m255 {u : Bool} {m : Int} (h : AlOk u m) : 255 ≤ m := by rcases h with h | h <;> omega
theorem line_any (u : Bool) (m at_ : Int) (w : World) (h : Nat → Bool) (ha : AlOk u m) (hat : I64 at_) (ho : Old h w.heap.size) :
 Calls Tryz.prog 82 #[alV u m, .int .i64 at_] w (SelfB h (lineF m at_) w) := by
 have hmf : ∀ (fn : Fn) (first cap : Array Value) (w : World), (Instr.makeFunc fn first cap).run Tryz.prog w = .ok (.func fn first cap) w := fun _ _ _ _ => rfl
 obtain ⟨w3, hw3⟩ : ∃ w3, ((w.alloc (.cells #[.bool u, .int .i64 m] 47)).alloc (.cells #[.int .i64 at_] 3)).alloc (.cells zC.toArray 27) = w3 := ⟨_, rfl⟩;have z1 := World.size_alloc w (.cells #[.bool u, .int .i64 m] 47);have z2 := World.size_alloc (w.alloc (.cells #[.bool u, .int .i64 m] 47)) (.cells #[.int .i64 at_] 3);have z3 := World.size_alloc ((w.alloc (.cells #[.bool u, .int .i64 m] 47)).alloc (.cells #[.int .i64 at_] 3)) (.cells zC.toArray 27);have b1 := qg w (.cells #[.bool u, .int .i64 m] 47);have b2 := qg (w.alloc (.cells #[.bool u, .int .i64 m] 47)) (.cells #[.int .i64 at_] 3);have b3 := qg ((w.alloc (.cells #[.bool u, .int .i64 m] 47)).alloc (.cells #[.int .i64 at_] 3)) (.cells zC.toArray 27);have g1 := heap_alloc_new w (.cells #[.bool u, .int .i64 m] 47);have g2 := heap_alloc_new (w.alloc (.cells #[.bool u, .int .i64 m] 47)) (.cells #[.int .i64 at_] 3);have g3 := heap_alloc_new ((w.alloc (.cells #[.bool u, .int .i64 m] 47)).alloc (.cells #[.int .i64 at_] 3)) (.cells zC.toArray 27);rw [z1] at g2;rw [z2, z1] at g3;have gg1 := (b3.block w.heap.size (by omega)).trans ((b2.block w.heap.size (by omega)).trans g1);have gg2 := (b3.block (w.heap.size + 1) (by omega)).trans g2;rw [hw3] at g3 z3 gg1 gg2;have hb := qi (qi b1 b2) b3;rw [hw3] at hb;have HB := xH hb;have HZ := xH (show w3.heap.size = w.heap.size + 3 by omega);have HGR := xH g3;have HC0 := xH (show w3.cell? ⟨w.heap.size, 0, none⟩ = some (.bool u) by unfold World.cell?; rw [gg1]; rfl);have HC1 := xH (show w3.cell? ⟨w.heap.size, 1, none⟩ = some (.int .i64 m) by unfold World.cell?; rw [gg1]; rfl);have HCA := xH (show w3.cell? ⟨w.heap.size + 1, 0, none⟩ = some (.int .i64 at_) by unfold World.cell?; rw [gg2]; rfl);have HA := xH ha;have HAT := xH hat;have HO := xH ho;clear z1 z2 z3 b1 b2 b3 g1 g2 g3 gg1 gg2 hb ha hat ho;unfold zC at hw3 HGR;unfold alV;go_enter Tryz.func82, Tryz.ntmps82;go_upto_region 2 with (fail)
 clear hw3;have HCL := xH (fun (w' : World) (hb' : Below w3.heap.size w3 w') (v : Value) (l : List Rg) (hv : RsAt w' v l) (hl : l.length ≤ 1000) => lineset_any u m at_ v l (w.heap.size + 1) w.heap.size w' (h1 h (w.heap.size + 1 + 1)) HA.out HAT.out (trw.qf hb' HCA.out) (trw.qf hb' HC0.out) (trw.qf hb' HC1.out) hv hl (h1_old HO.out (by have := hb'.size; have := HZ.out; omega) (by have := hb'.size; have := HZ.out; omega)));have HL1 := xH (own_lit (R := [(13, 13)]) (n := 1) (B := w3.heap.size) (cs := #[.int .i64 13, .int .i64 13]) (w := w3) rfl rfl rfl (by simp) (by simp));have HBL1 := xH (qg w3 (.cells #[.int .i64 13, .int .i64 13] 57));have HR1 := xH (HCL.out _ HBL1.out _ _ (fk_rs HL1.out (canon_lit (by decide) (by decide))) (by simp));go_wp2_with fail
 refine HR1.out.mono ?_;rintro e w4 ⟨s1, rfl, hn1, hb1⟩;have HB4 := xH (qi HBL1.out hb1);have HN1 := xH hn1;clear hn1 hb1 HR1 HBL1 HL1;have HL2 := xH (own_lit (R := [(10, 10)]) (n := 1) (B := w4.heap.size) (cs := #[.int .i64 10, .int .i64 10]) (w := w4) rfl rfl rfl (by simp) (by simp));have HBL2 := xH (qg w4 (.cells #[.int .i64 10, .int .i64 10] 57));have HR2 := xH (HCL.out _ (qi HB4.out HBL2.out) _ _ (fk_rs HL2.out (canon_lit (by decide) (by decide))) (by simp));try dsimp only
 go_wp2_with fail
 refine HR2.out.mono ?_;rintro e w5 ⟨s2, rfl, hn2, hb2⟩;try dsimp only
 have HB5 := xH (qi (qi HB4.out HBL2.out) hb2);have HN2 := xH hn2;have HN1' := xH (qV (qi HBL2.out hb2) HN1.out);have HOH := xH (fun (w' : World) (hb' : Below w3.heap.size w3 w') => h1_old (q := w.heap.size + 1 + 1) (k := w'.heap.size) HO.out (by have := hb'.size; have := HZ.out; omega) (by have := hb'.size; have := HZ.out; omega));clear hn2 hb2 HR2 HBL2 HL2 HN1 HB4;obtain ⟨Z5, hZ5⟩ : ∃ Z, w5.heap.size = Z := ⟨_, rfl⟩;have HZ5 := xH hZ5;clear hZ5;obtain ⟨A, hA⟩ : ∃ A : Lab, { lab 2 at_ with sv := s1, set := normR m [(13, 13)] } = A := ⟨_, rfl⟩;obtain ⟨B, hB⟩ : ∃ B : Lab, { lab 2 at_ with sv := s2, set := normR m [(10, 10)] } = B := ⟨_, rfl⟩;rw [hA] at HN1' ⊢;rw [hB] at HN2 ⊢;have HAE := xH hA;have HBE := xH hB;clear hA hB;go_upto_region 3 with (first
  | (refine wpList_build_nd2 rfl _ _ rfl A B rfl rfl Z5 HZ5.out ?_; intro w6 h6; have HB6 := xH (show Below w5.heap.size w5 w6 from h6.out ▸ qg w5 _); have HNB := xH (pair_nd (k := 12) (a := 0) (by unfold I64; omega) (by unfold I64; omega) HN1'.out HN2.out (HOH.out w5 HB5.out) HZ5.out h6.out); have HNBO := xH (qp HNB.out); have HGZ6 := xH (heap_alloc_new w6 (.cells zC.toArray 27)); unfold zC at HGZ6; clear h6)
  | (refine wpList_store_nw rfl rfl _ _ rfl w6.heap.size rfl _ { lab 12 0 with kv := .slice (some ⟨Z5, 0, none⟩) 2 2 } HGZ6.out rfl HNBO.out rfl ?_; intro w7 h7; have HB7 := xH (show Below w6.heap.size w6 w7 from h7.out ▸ jU w6 _ _ _); have HG7 := xH (show w7.heap[w6.heap.size]? = some (.cells (ndC { lab 12 0 with kv := .slice (some ⟨Z5, 0, none⟩) 2 2 }).toArray 27 (0, 0)) from h7.out ▸ setRow_heap _ _ _ _ _ _ HGZ6.out); clear h7))
 obtain ⟨P6, hP6⟩ : ∃ P, w6.heap.size = P := ⟨_, rfl⟩;rw [hP6] at HG7;simp only [hP6];have HB37 := xH (qi (qi HB5.out HB6.out) HB7.out);have HNB7 := xH (qV HB7.out HNB.out);have hsz7 : P6 < w7.heap.size := by have := (Array.getElem?_eq_some_iff.1 HG7.out).1; exact this
 clear HNB HGZ6 HB5 HB6 HB7 HN1' HN2 hP6 HZ5;have HL3 := xH (own_lit (R := [(10, 13), (133, 133), (8232, 8233)]) (n := 3) (B := w7.heap.size) (cs := #[.int .i64 10, .int .i64 13, .int .i64 133, .int .i64 133, .int .i64 8232, .int .i64 8233]) (w := w7) rfl rfl rfl (by simp) (by simp));have HBL3 := xH (qg w7 (.cells #[.int .i64 10, .int .i64 13, .int .i64 133, .int .i64 133, .int .i64 8232, .int .i64 8233] 57));have HR3 := xH (HCL.out _ (qi HB37.out HBL3.out) _ _ (fk_rs HL3.out canon_ends) (by simp));go_wp2_with fail
 refine HR3.out.mono ?_;rintro e w8 ⟨s3, rfl, hn3, hb3⟩;try dsimp only
 have HB8 := xH (qi HBL3.out hb3);have HB38 := xH (qi HB37.out HB8.out);have HN3 := xH hn3;clear hn3 hb3 HR3 HBL3 HL3 HCL;obtain ⟨C, hC⟩ : ∃ C : Lab, { lab 2 at_ with sv := s3, set := normR m [(10, 13), (133, 133), (8232, 8233)] } = C := ⟨_, rfl⟩;rw [hC] at HN3 ⊢;have HCE := xH hC;clear hC;have HNC := xH (qp HN3.out);have HGZ8 := xH (heap_alloc_new w8 (.cells zC.toArray 27));unfold zC at HGZ8;go_upto_region 4 with (first
  | (refine wpList_store_nw rfl rfl _ _ rfl w8.heap.size rfl _ C HGZ8.out rfl HNC.out rfl ?_; intro w9 h9; have HB9 := xH (show Below w8.heap.size w8 w9 from h9.out ▸ jU w8 _ _ _); have HG9 := xH (show w9.heap[w8.heap.size]? = some (.cells (ndC C).toArray 27 (0, 0)) from h9.out ▸ setRow_heap _ _ _ _ _ _ HGZ8.out); clear h9))
 obtain ⟨P8, hP8⟩ : ∃ P, w8.heap.size = P := ⟨_, rfl⟩;rw [hP8] at HG9;simp only [hP8];have HB39 := xH (qi HB38.out HB9.out);have HG79 := xH ((HB9.out.block P6 (by have := HB8.out.size; omega)).trans ((HB8.out.block P6 hsz7).trans HG7.out));have HNB9 := xH (qV HB9.out (qV HB8.out HNB7.out));have HNC9 := xH (qV HB9.out HN3.out);clear HGZ8 HB38 HB37 HB8 HB9 HN3 HNB7 HG7 hP8;have cA := trw.qf HB39.out HCA.out;obtain ⟨Z9, hZ9⟩ : ∃ Z, w9.heap.size = Z := ⟨_, rfl⟩;have HZ9 := xH hZ9;clear hZ9;go_upto_region 5 with (first
  | (refine ql rfl _ rfl P6 rfl { lab 12 0 with kv := .slice (some ⟨Z5, 0, none⟩) 2 2 } HG79.out ?_)
  | (refine ql rfl _ rfl P8 rfl C HG9.out ?_)
  | (refine wpList_build_nd2 rfl _ _ rfl { lab 12 0 with kv := .slice (some ⟨Z5, 0, none⟩) 2 2 } C rfl rfl Z9 HZ9.out ?_; intro w10 h10; have HB10 := xH (show Below w9.heap.size w9 w10 from h10.out ▸ qg w9 _); have HNW := xH (pair_nd (k := 13) (a := at_) (by unfold I64; omega) HAT.out HNB9.out HNC9.out (HOH.out w9 HB39.out) HZ9.out h10.out); have HNWO := xH (qp HNW.out); have HGZ10 := xH (heap_alloc_new w10 (.cells zC.toArray 27)); unfold zC at HGZ10; clear h10)
  | (refine wpList_store_nw rfl rfl _ _ rfl w10.heap.size rfl _ { lab 13 at_ with kv := .slice (some ⟨Z9, 0, none⟩) 2 2 } HGZ10.out rfl HNWO.out rfl ?_; intro w11 h11; have HB11 := xH (show Below w10.heap.size w10 w11 from h11.out ▸ jU w10 _ _ _); have HG11 := xH (show w11.heap[w10.heap.size]? = some (.cells (ndC { lab 13 at_ with kv := .slice (some ⟨Z9, 0, none⟩) 2 2 }).toArray 27 (0, 0)) from h11.out ▸ setRow_heap _ _ _ _ _ _ HGZ10.out); clear h11))
 have HB311 := xH (qi (qi HB39.out HB10.out) HB11.out);have HNW11 := xH (qV HB11.out HNW.out);have HR11 := xH ((HB311.out.block _ (by have := HZ.out; omega)).trans HGR.out);obtain ⟨P10, hP10⟩ : ∃ P, w10.heap.size = P := ⟨_, rfl⟩;rw [hP10] at HG11;simp only [hP10];clear cA HGZ10 HB39 HB10 HB11 HNB9 HNC9 HG79 HG9 HNW hP10 HZ9;have cA := trw.qf HB311.out HCA.out;obtain ⟨Z11, hZ11⟩ : ∃ Z, w11.heap.size = Z := ⟨_, rfl⟩;have HZ11 := xH hZ11;clear hZ11;go_wp2_with (first
  | (refine ql rfl _ rfl P10 rfl { lab 13 at_ with kv := .slice (some ⟨Z9, 0, none⟩) 2 2 } HG11.out ?_)
  | (refine jc rfl _ rfl { lab 13 at_ with kv := .slice (some ⟨Z9, 0, none⟩) 2 2 } rfl Z11 HZ11.out ?_; intro w12 h12; have HB12 := xH (show Below w11.heap.size w11 w12 from h12.out ▸ qg w11 _); have HNT := xH (single_nd (k := 17) (a := at_) (by unfold I64; omega) HAT.out HNW11.out (HOH.out w11 HB311.out) HZ11.out h12.out); have HNTO := xH (qp HNT.out); have HR12 := xH ((HB12.out.block _ (by have := HZ.out; have := HB311.out.size; omega)).trans HR11.out); clear h12)
  | (refine qh rfl rfl _ _ rfl (w.heap.size + 1 + 1) rfl _ { lab 17 at_ with kv := .slice (some ⟨Z11, 0, none⟩) 1 1 } HR12.out rfl HNTO.out rfl ?_))
 refine bodyPost_ret (qA rfl _ _ (w.heap.size + 1 + 1) { lab 17 at_ with kv := .slice (some ⟨Z11, 0, none⟩) 1 1 } rfl (setRow_heap _ _ _ _ _ _ HR12.out)) rfl ?_;refine ⟨{ lab 17 at_ with kv := .slice (some ⟨Z11, 0, none⟩) 1 1 }, F.one { lab 13 at_ with kv := .slice (some ⟨Z9, 0, none⟩) 2 2 } (F.app (F.one { lab 12 0 with kv := .slice (some ⟨Z5, 0, none⟩) 2 2 } (F.app (F.one A .nil) (F.one B .nil))) (F.one C .nil)), rfl, nd_unh1 HNT.out, ?_, rpw.qC (HB.out.trans ((HB311.out.trans (HB12.out.mono HB311.out.size)).mono HB.out.size)) _ (by omega)⟩;rw [← HAE.out, ← HBE.out, ← HCE.out, norm_lit HA.out.m255 HA.out.b.2 (by decide) (by decide), norm_lit HA.out.m255 HA.out.b.2 (by decide) (by decide)];rfl
end Go.Proofs.YtikjhfmmfpeaoaaGreatDoor.fkw
end
