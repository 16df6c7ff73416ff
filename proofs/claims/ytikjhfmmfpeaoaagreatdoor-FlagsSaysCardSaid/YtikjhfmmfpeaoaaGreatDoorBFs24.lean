/- T -/
import Derived.StillTailTactics
import Derived.Test.YtikjhfmmfpeaoaaGreatDoorBFs23
set_option maxHeartbeats 16000000
set_option maxRecDepth 1000000
namespace Go.Proofs.YtikjhfmmfpeaoaaGreatDoor
section
namespace fkw
open sq
open Go.Sort Go Go.RowKit Go.Maps setp setw tkp trp trw rpp rsp fgp
open rpw (sees jB qU fC jP FSub vw jQ app_sub jH jm own_below qp oneR zk jV qA qh ql jU jc qI zero_at)
open rsw (Old set_lab row1_kids row2_kids qV own_lit)
def SelfB (h : Nat → Bool) (r : F) (w : World) (e : Ending) (w' : World) : Prop := ∃ y j, e = .returned (ndV y) ∧ NdAt (sees h w') (y, j) ∧ strip (F.one y j) = r ∧ Below w.heap.size w w'
theorem lineset_any (u : Bool) (m at_ : Int) (v : Value) (l : List Rg) (pa pb : Nat) (w : World) (h : Nat → Bool) (ha : AlOk u m) (hat : I64 at_) (c1 : w.cell? ⟨pa, 0, none⟩ = some (.int .i64 at_)) (c2 : w.cell? ⟨pb, 0, none⟩ = some (.bool u)) (c3 : w.cell? ⟨pb, 1, none⟩ = some (.int .i64 m)) (hv : RsAt w v l) (hl : l.length ≤ 1000) (ho : Old h w.heap.size) :
 Calls Tryz.prog 98 #[v, .pointer (some ⟨pa, 0, none⟩), .pointer (some ⟨pb, 0, none⟩)] w (fun e w' => ∃ s, e = .returned (ndV { lab 2 at_ with sv := s, set := normR m l }) ∧ NdAt (sees h w') ({ lab 2 at_ with sv := s, set := normR m l }, .nil) ∧ Below w.heap.size w w') := by
 have HB := xH (qg w (.cells zC.toArray 27));have HG := xH (heap_alloc_new w (.cells zC.toArray 27));have HZ := xH (World.size_alloc w (.cells zC.toArray 27));have HV := xH hv;have HA := xH ha;have HO := xH ho;have HAT := xH hat;have HC1 := xH c1;have HC2 := xH c2;have HC3 := xH c3;clear hv ha ho hat c1 c2 c3;unfold zC at HB HG HZ;go_enter Tryz.func98, Tryz.ntmps98;go_upto_region 1 with (fail)
 generalize w.alloc _ = w1 at *;have d1 := trw.qf HB.out HC1.out;have d2 := trw.qf HB.out HC2.out;have d3 := trw.qf HB.out HC3.out;go_wp2_with fail
 refine wp_region_held_drew (S := fun w' => Below w.heap.size w w' ∧ ∃ cs : Array Value, cs.size = 12 ∧ w'.heap[w.heap.size]? = some (.cells cs 27 (0, 0))) (by kernel_rfl) ⟨HB.out.drew, _, rfl, HG.out⟩ (fun hHeld => ?_);refine yF 0 (fun w' hSw => trw.qf hSw.1 HC1.out) ?_;simp only [xS];refine yG 1 (fun w' hSw => trw.qf hSw.1 HC2.out) (fun w' hSw => trw.qf hSw.1 HC3.out) ?_;simp only [xS];refine yT 2 ?_;simp only [xS];refine xD 3 rfl (fun K hK => ?_);go_simp;have HR := xH (restricted_any u m v l _ (jl HV.out hHeld.1) (by omega) HA.out.b.1 HA.out.b.2);unfold alV at HR;refine HR.out.mono ?_;rintro e w2 ⟨s, S, rfl, hS, hh, ho2, hb2⟩;have e := normR_only HA.out.b.2 hS hh;subst e;obtain ⟨sa, sc, rfl⟩ := zJ ho2.1;have HN := xH (set_lab (h := h1 h w.heap.size) HAT.out ho2 (fk_wf hS) (h1_old HO.out (by have := hHeld.1.size; exact this) (by have := HZ.out; have q : w1.drew.heap.size = w1.heap.size := rfl; omega)));have HB2 := xH (show Below w.heap.size w w2 from hHeld.1.trans (hb2.mono hHeld.1.size));have HG2 := xH ((hb2.block w.heap.size (by have := HZ.out; have q : w1.drew.heap.size = w1.heap.size := rfl; omega)).trans HG.out);clear hS hh ho2 hb2 HR;dsimp only;refine hK.out _ _ ⟨HB2.out, _, rfl, HG2.out⟩ (fun hHeld => ?_);clear hK K;try simp only [xS]
 refine yT 4 ?_;simp only [xS];refine xD 5 rfl (fun K hK => ?_);refine qI rfl rfl _ _ rfl w.heap.size rfl _ { lab 2 at_ with sv := .slice sa (normR m l).length sc, set := normR m l } HG2.out rfl (qp HN.out) rfl ?_;have HB3 := xH (rpw.qC HB2.out (ndC { lab 2 at_ with sv := .slice sa (normR m l).length sc, set := normR m l }).toArray (xL _));have HG3 := xH (setRow_heap _ _ _ (ndC { lab 2 at_ with sv := .slice sa (normR m l).length sc, set := normR m l }).toArray _ _ HG2.out);refine hK.out _ _ ⟨HB3.out, _, rfl, HG3.out⟩ (fun hHeld => ?_);clear hK K;refine wpAnyH_done (by kernel_rfl) ?_ _;go_wp2_with fail
 refine xB (qA rfl _ _ w.heap.size { lab 2 at_ with sv := .slice sa (normR m l).length sc, set := normR m l } rfl HG3.out) rfl ?_;exact ⟨_, rfl, nd_unh1 HN.out, HB3.out⟩
theorem wpList_store_nw {ops : Array Oper} {rest : List Oper} {o : Oper} {a : Act} {w : World} {Q : Exit → Act → World → Prop} (hgd : o.guard = none) (hd : o.dst = none) (x y : Operand) (ho : o.op = .store 27 x y)
 (g : Nat) (hx : a.eval x = .pointer (some ⟨g, 0, none⟩)) (old : Array Value) (l : Lab) (hg : w.heap[g]? = some (.cells old 27 (0, 0))) (hs : old.size = 12) (h1 : ∀ u ∈ ndC l, u.oneCell' = true) (hy : a.eval y = ndV l)
 (h : ∀ w', Hid (w' = w.setRow g (ndC l).toArray) → wpList Tryz.prog ops Q rest a w') : wpList Tryz.prog ops Q (o :: rest) a w :=
 qh hgd hd x y ho g hx old l hg hs h1 hy (h _ (xH rfl))
theorem lab_at {k a : Int} (hk : I64 k) (ha : I64 a) (v : Value) : LabOk { lab k a with kv := v } := by
 have z : I64 0 := by unfold I64; omega
 exact ⟨hk, ha, z, z, z, z, z, z⟩
theorem pair_nd {h : Nat → Bool} {w w' : World} {k a : Int} {x y : Lab} {kx ky : F} {Z : Nat} (hk : I64 k) (ha : I64 a) (hx : NdAt (sees h w) (x, kx)) (hy : NdAt (sees h w) (y, ky)) (ho : Old h w.heap.size) (hZ : w.heap.size = Z) (hw : w' = w.alloc (.cells (ndC x ++ ndC y).toArray 27)) :
 NdAt (sees h w') ({ lab k a with kv := .slice (some ⟨Z, 0, none⟩) 2 2 }, F.app (F.one x kx) (F.one y ky)) := by
 subst hZ;exact ⟨lab_at hk ha _, rpw.rg_nil _, row2_kids hx hy ho hw.symm⟩
theorem single_nd {h : Nat → Bool} {w w' : World} {k a : Int} {x : Lab} {kx : F} {Z : Nat} (hk : I64 k) (ha : I64 a) (hx : NdAt (sees h w) (x, kx)) (ho : Old h w.heap.size) (hZ : w.heap.size = Z) (hw : w' = w.alloc (.cells (ndC x).toArray 27)) :
 NdAt (sees h w') ({ lab k a with kv := .slice (some ⟨Z, 0, none⟩) 1 1 }, F.one x kx) := by
 subst hZ;subst hw;exact ⟨lab_at hk ha _, rpw.rg_nil _, row1_kids hx ho⟩
theorem canon_ends : Canon [(10, 13), (133, 133), (8232, 8233)] := by refine ⟨by simp, fun r hr => ?_⟩;simp only [List.mem_cons, dM, or_false] at hr;rcases hr with rfl | rfl | rfl <;> simp
theorem wpList_build_nd2 {ops : Array Oper} {rest : List Oper} {o : Oper} {a : Act} {w : World} {Q : Exit → Act → World → Prop} (hg : o.guard = none) (x y : Operand) (ho : o.op = .buildSlice 25 2 #[(0, x), (1, y)])
 (l r : Lab) (hx : a.eval x = ndV l) (hy : a.eval y = ndV r) (B : Nat) (hB : w.heap.size = B)
 (h : ∀ w', Hid (w' = w.alloc (.cells (ndC l ++ ndC r).toArray 27)) → wpList Tryz.prog ops Q rest (a.put o.dst (.slice (some ⟨B, 0, none⟩) 2 2)) w') : wpList Tryz.prog ops Q (o :: rest) a w := by
 obtain ⟨i0, hi, hz0, hz1, hz2⟩ := info_parts infoNd;subst hB;refine wpList_buildSlice hg _ 27 2 _ ho (ndC l ++ ndC r).toArray i0 _ Tryz.underlying25 hi hz0 (by rw [hz1]; decide) (by rw [hz1]; decide) ?_ (h _ (xH rfl));simp only [List.map_toArray, List.map_cons, List.map_nil, hx, hy, hz1];kernel_rfl
theorem norm_lit {m c : Int} (hm : 255 ≤ m) (hm2 : m ≤ 1114111) (h0 : 0 ≤ c) (h1 : c ≤ 255) : normR m [(c, c)] = [(c, c)] := by
 refine (normR_only hm2 (S := [(c, c)]) ⟨by simp, fun r hr => ?_⟩ fun x => ?_).symm
 ·simp only [List.mem_cons, dM, or_false] at hr;subst hr;exact ⟨h0, Int.le_refl _, by omega⟩
 ·unfold Has;constructor
  ·rintro ⟨r, hr, h⟩;simp only [List.mem_cons, dM, or_false] at hr;subst hr;exact ⟨⟨_, by simp, h⟩, by omega, by omega⟩
  ·rintro ⟨h, -, -⟩;exact h
theorem canon_lit {c : Int} (h0 : 0 ≤ c) (h1 : c ≤ 1114111) : Canon [(c, c)] := ⟨by simp, fun r hr => by
 simp only [List.mem_cons, dM, or_false] at hr;subst hr;exact ⟨h0, Int.le_refl _, h1⟩⟩
theorem AlOk.m255 {u : Bool} {m : Int} (h : AlOk u m) : 255 ≤ m := by rcases h with h | h <;> omega
theorem line_any (u : Bool) (m at_ : Int) (w : World) (h : Nat → Bool) (ha : AlOk u m) (hat : I64 at_) (ho : Old h w.heap.size) :
 Calls Tryz.prog 82 #[alV u m, .int .i64 at_] w (SelfB h (lineF m at_) w) := by
 have hmf : ∀ (fn : Fn) (first cap : Array Value) (w : World), (Instr.makeFunc fn first cap).run Tryz.prog w = .ok (.func fn first cap) w := fun _ _ _ _ => rfl
 obtain ⟨w3, hw3⟩ : ∃ w3, ((w.alloc (.cells #[.bool u, .int .i64 m] 47)).alloc (.cells #[.int .i64 at_] 3)).alloc (.cells zC.toArray 27) = w3 := ⟨_, rfl⟩;have z1 := World.size_alloc w (.cells #[.bool u, .int .i64 m] 47);have z2 := World.size_alloc (w.alloc (.cells #[.bool u, .int .i64 m] 47)) (.cells #[.int .i64 at_] 3);have z3 := World.size_alloc ((w.alloc (.cells #[.bool u, .int .i64 m] 47)).alloc (.cells #[.int .i64 at_] 3)) (.cells zC.toArray 27);have b1 := qg w (.cells #[.bool u, .int .i64 m] 47);have b2 := qg (w.alloc (.cells #[.bool u, .int .i64 m] 47)) (.cells #[.int .i64 at_] 3);have b3 := qg ((w.alloc (.cells #[.bool u, .int .i64 m] 47)).alloc (.cells #[.int .i64 at_] 3)) (.cells zC.toArray 27);have g1 := heap_alloc_new w (.cells #[.bool u, .int .i64 m] 47);have g2 := heap_alloc_new (w.alloc (.cells #[.bool u, .int .i64 m] 47)) (.cells #[.int .i64 at_] 3);have g3 := heap_alloc_new ((w.alloc (.cells #[.bool u, .int .i64 m] 47)).alloc (.cells #[.int .i64 at_] 3)) (.cells zC.toArray 27);rw [z1] at g2;rw [z2, z1] at g3;have gg1 := (b3.block w.heap.size (by omega)).trans ((b2.block w.heap.size (by omega)).trans g1);have gg2 := (b3.block (w.heap.size + 1) (by omega)).trans g2;rw [hw3] at g3 z3 gg1 gg2;have hb := qi (qi b1 b2) b3;rw [hw3] at hb;have HB := xH hb;have HZ := xH (show w3.heap.size = w.heap.size + 3 by omega);have HGR := xH g3;have HC0 := xH (show w3.cell? ⟨w.heap.size, 0, none⟩ = some (.bool u) by unfold World.cell?; rw [gg1]; rfl);have HC1 := xH (show w3.cell? ⟨w.heap.size, 1, none⟩ = some (.int .i64 m) by unfold World.cell?; rw [gg1]; rfl);have HCA := xH (show w3.cell? ⟨w.heap.size + 1, 0, none⟩ = some (.int .i64 at_) by unfold World.cell?; rw [gg2]; rfl);have HA := xH ha;have HAT := xH hat;have HO := xH ho;clear z1 z2 z3 b1 b2 b3 g1 g2 g3 gg1 gg2 hb ha hat ho;unfold zC at hw3 HGR;unfold alV;go_enter Tryz.func82, Tryz.ntmps82;go_upto_region 2 with (fail)
 clear hw3;have HCL := xH (fun (w' : World) (hb' : Below w3.heap.size w3 w') (v : Value) (l : List Rg) (hv : RsAt w' v l) (hl : l.length ≤ 1000) => lineset_any u m at_ v l (w.heap.size + 1) w.heap.size w' (h1 h (w.heap.size + 1 + 1)) HA.out HAT.out (trw.qf hb' HCA.out) (trw.qf hb' HC0.out) (trw.qf hb' HC1.out) hv hl (h1_old HO.out (by have := hb'.size; have := HZ.out; omega) (by have := hb'.size; have := HZ.out; omega)));have HL1 := xH (own_lit (R := [(13, 13)]) (n := 1) (B := w3.heap.size) (cs := #[.int .i64 13, .int .i64 13]) (w := w3) rfl rfl rfl (by simp) (by simp));have HBL1 := xH (qg w3 (.cells #[.int .i64 13, .int .i64 13] 57));have HR1 := xH (HCL.out _ HBL1.out _ _ (fk_rs HL1.out (canon_lit (by decide) (by decide))) (by simp));go_wp2_with fail
 refine HR1.out.mono ?_;rintro e w4 ⟨s1, rfl, hn1, hb1⟩;have HB4 := xH (qi HBL1.out hb1);have HN1 := xH hn1;clear hn1 hb1 HR1 HBL1 HL1;have HL2 := xH (own_lit (R := [(10, 10)]) (n := 1) (B := w4.heap.size) (cs := #[.int .i64 10, .int .i64 10]) (w := w4) rfl rfl rfl (by simp) (by simp));have HBL2 := xH (qg w4 (.cells #[.int .i64 10, .int .i64 10] 57));have HR2 := xH (HCL.out _ (qi HB4.out HBL2.out) _ _ (fk_rs HL2.out (canon_lit (by decide) (by decide))) (by simp));try dsimp only
 go_wp2_with fail
 refine HR2.out.mono ?_;rintro e w5 ⟨s2, rfl, hn2, hb2⟩;try dsimp only
 have HB5 := xH (qi (qi HB4.out HBL2.out) hb2);have HN2 := xH hn2;have HN1' := xH (qV (qi HBL2.out hb2) HN1.out);have HOH := xH (fun (w' : World) (hb' : Below w3.heap.size w3 w') => h1_old (q := w.heap.size + 1 + 1) (k := w'.heap.size) HO.out (by have := hb'.size; have := HZ.out; omega) (by have := hb'.size; have := HZ.out; omega));clear hn2 hb2 HR2 HBL2 HL2 HN1 HB4;obtain ⟨Z5, hZ5⟩ : ∃ Z, w5.heap.size = Z := ⟨_, rfl⟩;have HZ5 := xH hZ5;clear hZ5;obtain ⟨A, hA⟩ : ∃ A : Lab, { lab 2 at_ with sv := s1, set := normR m [(13, 13)] } = A := ⟨_, rfl⟩;obtain ⟨B, hB⟩ : ∃ B : Lab, { lab 2 at_ with sv := s2, set := normR m [(10, 10)] } = B := ⟨_, rfl⟩;rw [hA] at HN1' ⊢;rw [hB] at HN2 ⊢;have HAE := xH hA;have HBE := xH hB;clear hA hB;go_upto_region 3 with (first
  | (refine wpList_build_nd2 rfl _ _ rfl A B rfl rfl Z5 HZ5.out ?_; intro w6 h6; have HB6 := xH (show Below w5.heap.size w5 w6 from h6.out ▸ qg w5 _); have HNB := xH (pair_nd (k := 12) (a := 0) (by unfold I64; omega) (by unfold I64; omega) HN1'.out HN2.out (HOH.out w5 HB5.out) HZ5.out h6.out); have HNBO := xH (qp HNB.out); have HGZ6 := xH (heap_alloc_new w6 (.cells zC.toArray 27)); unfold zC at HGZ6; clear h6)
  | (refine wpList_store_nw rfl rfl _ _ rfl w6.heap.size rfl _ { lab 12 0 with kv := .slice (some ⟨Z5, 0, none⟩) 2 2 } HGZ6.out rfl HNBO.out rfl ?_; intro w7 h7; have HB7 := xH (show Below w6.heap.size w6 w7 from h7.out ▸ jU w6 _ _ _); have HG7 := xH (show w7.heap[w6.heap.size]? = some (.cells (ndC { lab 12 0 with kv := .slice (some ⟨Z5, 0, none⟩) 2 2 }).toArray 27 (0, 0)) from h7.out ▸ setRow_heap _ _ _ _ _ _ HGZ6.out); clear h7))
 obtain ⟨P6, hP6⟩ : ∃ P, w6.heap.size = P := ⟨_, rfl⟩;rw [hP6] at HG7;simp only [hP6];have HB37 := xH (qi (qi HB5.out HB6.out) HB7.out);have HNB7 := xH (qV HB7.out HNB.out);have hsz7 : P6 < w7.heap.size := by have := (Array.getElem?_eq_some_iff.1 HG7.out).1; exact this
 clear HNB HGZ6 HB5 HB6 HB7 HN1' HN2 hP6 HZ5;have HL3 := xH (own_lit (R := [(10, 13), (133, 133), (8232, 8233)]) (n := 3) (B := w7.heap.size) (cs := #[.int .i64 10, .int .i64 13, .int .i64 133, .int .i64 133, .int .i64 8232, .int .i64 8233]) (w := w7) rfl rfl rfl (by simp) (by simp));have HBL3 := xH (qg w7 (.cells #[.int .i64 10, .int .i64 13, .int .i64 133, .int .i64 133, .int .i64 8232, .int .i64 8233] 57));have HR3 := xH (HCL.out _ (qi HB37.out HBL3.out) _ _ (fk_rs HL3.out canon_ends) (by simp));go_wp2_with fail
 refine HR3.out.mono ?_;rintro e w8 ⟨s3, rfl, hn3, hb3⟩;try dsimp only
 have HB8 := xH (qi HBL3.out hb3);have HB38 := xH (qi HB37.out HB8.out);have HN3 := xH hn3;clear hn3 hb3 HR3 HBL3 HL3 HCL;obtain ⟨C, hC⟩ : ∃ C : Lab, { lab 2 at_ with sv := s3, set := normR m [(10, 13), (133, 133), (8232, 8233)] } = C := ⟨_, rfl⟩;rw [hC] at HN3 ⊢;have HCE := xH hC;clear hC;have HNC := xH (qp HN3.out);have HGZ8 := xH (heap_alloc_new w8 (.cells zC.toArray 27));unfold zC at HGZ8;go_upto_region 4 with (first
  | (refine wpList_store_nw rfl rfl _ _ rfl w8.heap.size rfl _ C HGZ8.out rfl HNC.out rfl ?_; intro w9 h9; have HB9 := xH (show Below w8.heap.size w8 w9 from h9.out ▸ jU w8 _ _ _); have HG9 := xH (show w9.heap[w8.heap.size]? = some (.cells (ndC C).toArray 27 (0, 0)) from h9.out ▸ setRow_heap _ _ _ _ _ _ HGZ8.out); clear h9))
 obtain ⟨P8, hP8⟩ : ∃ P, w8.heap.size = P := ⟨_, rfl⟩;rw [hP8] at HG9;simp only [hP8];have HB39 := xH (qi HB38.out HB9.out);have HG79 := xH ((HB9.out.block P6 (by have := HB8.out.size; omega)).trans ((HB8.out.block P6 hsz7).trans HG7.out));have HNB9 := xH (qV HB9.out (qV HB8.out HNB7.out));have HNC9 := xH (qV HB9.out HN3.out);clear HGZ8 HB38 HB37 HB8 HB9 HN3 HNB7 HG7 hP8;have cA := trw.qf HB39.out HCA.out;obtain ⟨Z9, hZ9⟩ : ∃ Z, w9.heap.size = Z := ⟨_, rfl⟩;have HZ9 := xH hZ9;clear hZ9;go_upto_region 5 with (first
  | (refine ql rfl _ rfl P6 rfl { lab 12 0 with kv := .slice (some ⟨Z5, 0, none⟩) 2 2 } HG79.out ?_)
  | (refine ql rfl _ rfl P8 rfl C HG9.out ?_)
  | (refine wpList_build_nd2 rfl _ _ rfl { lab 12 0 with kv := .slice (some ⟨Z5, 0, none⟩) 2 2 } C rfl rfl Z9 HZ9.out ?_; intro w10 h10; have HB10 := xH (show Below w9.heap.size w9 w10 from h10.out ▸ qg w9 _); have HNW := xH (pair_nd (k := 13) (a := at_) (by unfold I64; omega) HAT.out HNB9.out HNC9.out (HOH.out w9 HB39.out) HZ9.out h10.out); have HNWO := xH (qp HNW.out); have HGZ10 := xH (heap_alloc_new w10 (.cells zC.toArray 27)); unfold zC at HGZ10; clear h10)
  | (refine wpList_store_nw rfl rfl _ _ rfl w10.heap.size rfl _ { lab 13 at_ with kv := .slice (some ⟨Z9, 0, none⟩) 2 2 } HGZ10.out rfl HNWO.out rfl ?_; intro w11 h11; have HB11 := xH (show Below w10.heap.size w10 w11 from h11.out ▸ jU w10 _ _ _); have HG11 := xH (show w11.heap[w10.heap.size]? = some (.cells (ndC { lab 13 at_ with kv := .slice (some ⟨Z9, 0, none⟩) 2 2 }).toArray 27 (0, 0)) from h11.out ▸ setRow_heap _ _ _ _ _ _ HGZ10.out); clear h11))
 have HB311 := xH (qi (qi HB39.out HB10.out) HB11.out);have HNW11 := xH (qV HB11.out HNW.out);have HR11 := xH ((HB311.out.block _ (by have := HZ.out; omega)).trans HGR.out);obtain ⟨P10, hP10⟩ : ∃ P, w10.heap.size = P := ⟨_, rfl⟩;rw [hP10] at HG11;simp only [hP10];clear cA HGZ10 HB39 HB10 HB11 HNB9 HNC9 HG79 HG9 HNW hP10 HZ9;have cA := trw.qf HB311.out HCA.out;obtain ⟨Z11, hZ11⟩ : ∃ Z, w11.heap.size = Z := ⟨_, rfl⟩;have HZ11 := xH hZ11;clear hZ11;go_wp2_with (first
  | (refine ql rfl _ rfl P10 rfl { lab 13 at_ with kv := .slice (some ⟨Z9, 0, none⟩) 2 2 } HG11.out ?_)
  | (refine jc rfl _ rfl { lab 13 at_ with kv := .slice (some ⟨Z9, 0, none⟩) 2 2 } rfl Z11 HZ11.out ?_; intro w12 h12; have HB12 := xH (show Below w11.heap.size w11 w12 from h12.out ▸ qg w11 _); have HNT := xH (single_nd (k := 17) (a := at_) (by unfold I64; omega) HAT.out HNW11.out (HOH.out w11 HB311.out) HZ11.out h12.out); have HNTO := xH (qp HNT.out); have HR12 := xH ((HB12.out.block _ (by have := HZ.out; have := HB311.out.size; omega)).trans HR11.out); clear h12)
  | (refine qh rfl rfl _ _ rfl (w.heap.size + 1 + 1) rfl _ { lab 17 at_ with kv := .slice (some ⟨Z11, 0, none⟩) 1 1 } HR12.out rfl HNTO.out rfl ?_))
 refine xB (qA rfl _ _ (w.heap.size + 1 + 1) { lab 17 at_ with kv := .slice (some ⟨Z11, 0, none⟩) 1 1 } rfl (setRow_heap _ _ _ _ _ _ HR12.out)) rfl ?_;refine ⟨{ lab 17 at_ with kv := .slice (some ⟨Z11, 0, none⟩) 1 1 }, F.one { lab 13 at_ with kv := .slice (some ⟨Z9, 0, none⟩) 2 2 } (F.app (F.one { lab 12 0 with kv := .slice (some ⟨Z5, 0, none⟩) 2 2 } (F.app (F.one A .nil) (F.one B .nil))) (F.one C .nil)), rfl, nd_unh1 HNT.out, ?_, rpw.qC (HB.out.trans ((HB311.out.trans (HB12.out.mono HB311.out.size)).mono HB.out.size)) _ (by omega)⟩;rw [← HAE.out, ← HBE.out, ← HCE.out, norm_lit HA.out.m255 HA.out.b.2 (by decide) (by decide), norm_lit HA.out.m255 HA.out.b.2 (by decide) (by decide)];rfl
end fkw
end
section
namespace fkw
open sq
open Go.Sort Go Go.RowKit Go.Maps setp setw tkp trp trw rpp rsp fgp
open ucdw (Tab3)
open rpw (sees jB qU qp qA qh ql)
open rsw (Old hN nd_unN nd_fld qV own_lit own_rg rg_rs lit_wf)
structure RF (h : Nat → Bool) (x : Lab) (j : F) (w w0 : World) : Prop where
 b : Below w.heap.size w w0
 n : w0.heap[w.heap.size]? = some (.cells (ndC x).toArray 27 (0, 0))
 r : w0.heap[w.heap.size + 1]? = some (.cells zC.toArray 27 (0, 0))
 t : NdAt (sees (hN h (w.heap.size + 1)) w0) (x, j)
 o : Old (hN h (w.heap.size + 1)) w0.heap.size
 s : w.heap.size + 2 ≤ w0.heap.size
theorem rf_start {h : Nat → Bool} {x : Lab} {j : F} {w : World} (ho : Old h w.heap.size) (hn : NdAt (sees h w) (x, j)) : RF h x j w ((w.alloc (.cells (ndC x).toArray 27)).alloc (.cells zC.toArray 27)) := by
 have z1 := World.size_alloc w (.cells (ndC x).toArray 27);have z2 := World.size_alloc (w.alloc (.cells (ndC x).toArray 27)) (.cells zC.toArray 27);have b1 := qg w (.cells (ndC x).toArray 27);have b2 := qg (w.alloc (.cells (ndC x).toArray 27)) (.cells zC.toArray 27);have g1 := heap_alloc_new w (.cells (ndC x).toArray 27);have g2 := heap_alloc_new (w.alloc (.cells (ndC x).toArray 27)) (.cells zC.toArray 27);rw [z1] at g2 z2;have hb := qi b1 b2;refine ⟨hb, (b2.block _ (by omega)).trans g1, g2, qY (qU fun a v k1 hc => ⟨?_, trw.qf hb hc⟩) hn, fun i hi => ?_, by omega⟩
 ·have := cell_lt hc;simp only [hN, k1, Bool.false_or, dE, dD];omega
 ·simp only [hN, Bool.or_eq_true, dF] at hi;rcases hi with (hi | hi) | hi
  ·have := ho i hi;omega
  ·omega
  ·omega
theorem RF.below {h : Nat → Bool} {x : Lab} {j : F} {w w0 w1 : World} (hf : RF h x j w w0) (hb : Below w0.heap.size w0 w1) : RF h x j w w1 := by have hs := hf.s;exact ⟨qi hf.b hb, (hb.block _ (by omega)).trans hf.n, (hb.block _ (by omega)).trans hf.r, qV hb hf.t, hf.o.le hb.size, Nat.le_trans hs hb.size⟩
theorem RF.fld {h : Nat → Bool} {x : Lab} {j : F} {w w0 : World} (hf : RF h x j w w0) (o : Nat) (v : Value) (L : Lab) (hL : (ndC x).toArray.setIfInBounds o v = (ndC L).toArray) (hok : LabOk L) (hs : RgAt (sees (hN h (w.heap.size + 1)) w0) L.sv L.set) (hk : L.kv = x.kv) : RF h L j w (w0.setCell ⟨w.heap.size, o, none⟩ v) := by
 have hz : (w0.setCell ⟨w.heap.size, o, none⟩ v).heap.size = w0.heap.size := by simp [World.setCell]
 refine ⟨hf.b.setCell (xL _) _, ?_, (heap_setCell_other w0 ⟨w.heap.size, o, none⟩ (w.heap.size + 1) v (show w.heap.size + 1 ≠ w.heap.size by omega)).trans hf.r, nd_fld (t := (L, j)) ⟨hok, hs, by rw [show (L, j).1.kv = x.kv from hk]; exact hf.t.2.2⟩, by rw [hz]; exact hf.o, by rw [hz]; exact hf.s⟩;have := tkw.heap_set (o := o) (v := v) hf.n;rw [hL] at this;exact this
theorem rg_fld {h : Nat → Bool} {q o : Nat} {w : World} {v u : Value} {S : List Rg} (H : RgAt (sees (hN h (q + 1)) w) v S) : RgAt (sees (hN h (q + 1)) (w.setCell ⟨q, o, none⟩ u)) v S :=
 trw.rgAt_mono (qU fun a u k1 hc => ⟨k1, (World.cell?_of_block (rpw.qx o _ (fun e => by simp only [hN, dE, dD] at k1;exact k1.2 (by rw [e])))).trans hc⟩) H
theorem RF.whole {h : Nat → Bool} {x y : Lab} {j k : F} {w w0 w3 : World} (hf : RF h x j w w0) (hn : NdAt (sees (hN h (w.heap.size + 1)) w0) (y, k)) (h3 : w3 = w0.setRow w.heap.size (ndC y).toArray) : RF h y k w w3 := by subst h3;have hz : (w0.setRow w.heap.size (ndC y).toArray).heap.size = w0.heap.size := tkw.setRow_size _ _ _;refine ⟨rpw.qC hf.b _ (xL _), setRow_heap _ _ _ _ _ _ hf.n, (tkw.setRow_other _ _ _ _ (by omega)).trans hf.r, qY (qU fun a v k1 hc => ⟨k1, rpw.jI _ hc fun e => ?_⟩) hn, by rw [hz]; exact hf.o, by rw [hz]; exact hf.s⟩;simp only [hN, dE, dD] at k1;exact k1.2 (by rw [e])
theorem rf_end {h : Nat → Bool} {L : Lab} {j : F} {w w0 : World} {r : F} (hf : RF h L j w w0) (hr : strip (F.one L j) = r) : SelfB h r w (.returned (ndV L)) (w0.setRow (w.heap.size + 1) (ndC L).toArray) :=
 ⟨L, j, rfl, nd_unN hf.t, hr, rpw.qC hf.b _ (Nat.le_succ _)⟩
theorem rs_wf {w : World} {n : Nat} {v : Value} {S : List Rg} (h : OwnR w n v S) (hS : Wf S) : RsAt w v S := rg_rs (h := fun _ => false) (own_rg h hS (fun i hi => by cases hi))
theorem res_4 (b : Nat) (u : Bool) (m f : Int) (x : Lab) (j : F) (w : World) (h : Nat → Bool) (ha : AlOk u m) (hsc : ScAt w b u m f) (hT : Tab3 w) (ho : Old h w.heap.size) (hn : NdAt (sees h w) (x, j)) (_hl : x.set.length ≤ 100000) (hk : x.kind = 4) :
 Calls Tryz.prog 57 #[.pointer (some ⟨b, 0, none⟩), ndV x] w (SelfB h (ownF u m x (strip j) f) w) := by
 have HF := xH (rf_start ho hn);have HA := xH ha;have HO := xH ho;have HSC := xH (hsc.keep HF.out.b);have HT := xH (show Tab3 _ from fun i hi => trw.qf HF.out.b (hT i hi));have HK := xH hk;clear ha hsc hT ho hn hk;unfold ndC zC at HF HSC HT;unfold ndV;go_enter Tryz.func57, Tryz.ntmps57;go_upto_region 1 with (fail)
 generalize (w.alloc _).alloc _ = w0 at *;have HF : Hid (RF h x j w w0) := HF;have b1 : (x.kind == 1) = false := by simp [HK.out]
 have b2 : (x.kind == 2) = false := by simp [HK.out]
 have b3 : (x.kind == 3) = false := by simp [HK.out]
 have b6 : (x.kind == 6) = false := by simp [HK.out]
 have b4 : (x.kind == 4) = true := by simp [HK.out]
 have c0 : w0.cell? ⟨w.heap.size, 0, none⟩ = some (.int .i64 x.kind) := by unfold World.cell?; rw [HF.out.n]; rfl
 have f0 : w0.frozen? ⟨w.heap.size, 0, none⟩ = false := by unfold World.frozen?; rw [HF.out.n]; rfl
 have c5 : w0.cell? ⟨w.heap.size, 5, none⟩ = some (.int .i64 x.n) := by unfold World.cell?; rw [HF.out.n]; rfl
 have f5 : w0.frozen? ⟨w.heap.size, 5, none⟩ = false := by unfold World.frozen?; rw [HF.out.n]; rfl
 have HC := xH (assertion_any b u m f x.n w0 HSC.out);go_upto_region 11 with (fail)
 go_wp2_with fail
 refine HC.out.mono ?_;rintro e w1 ⟨rfl, hb⟩;have HF1 := xH (HF.out.below hb);clear hb c0 c5 f0 f5 HC;have c5 : w1.cell? ⟨w.heap.size, 5, none⟩ = some (.int .i64 x.n) := by unfold World.cell?; rw [HF1.out.n]; rfl
 have f5 : w1.frozen? ⟨w.heap.size, 5, none⟩ = false := by unfold World.frozen?; rw [HF1.out.n]; rfl
 go_upto_region 17 with (fail)
 have HN5 := xH (show I64 (assN f x.n) by have := HF1.out.t.1.2.2.2.1; unfold assN; unfold I64 at *; split <;> (try split) <;> omega);have HF2 := xH (HF1.out.fld 5 (.int .i64 (assN f x.n)) { x with n := assN f x.n } rfl ⟨HF1.out.t.1.1, HF1.out.t.1.2.1, HF1.out.t.1.2.2.1, HN5.out, HF1.out.t.1.2.2.2.2⟩ HF1.out.t.2.1 rfl);generalize w1.setCell _ _ = w2 at *;clear c5 f5;have HNO := xH (qp HF2.out.t);go_wp2_with (first
  | (refine ql rfl _ rfl w.heap.size rfl { x with n := assN f x.n } HF2.out.n ?_)
  | (refine qh rfl rfl _ _ rfl (w.heap.size + 1) rfl _ { x with n := assN f x.n } HF2.out.r rfl HNO.out rfl ?_))
 refine xB (qA rfl _ _ (w.heap.size + 1) { x with n := assN f x.n } rfl (setRow_heap _ _ _ _ _ _ HF2.out.r)) rfl ?_;exact rf_end HF2.out (by unfold ownF; have q := HK.out; rw [if_neg (by omega), if_neg (by omega), if_neg (by omega), if_pos q]; rfl)
theorem res_20 (b : Nat) (u : Bool) (m f : Int) (x : Lab) (j : F) (w : World) (h : Nat → Bool) (ha : AlOk u m) (hsc : ScAt w b u m f) (hT : Tab3 w) (ho : Old h w.heap.size) (hn : NdAt (sees h w) (x, j)) (_hl : x.set.length ≤ 100000) (hk : x.kind = 20) :
 Calls Tryz.prog 57 #[.pointer (some ⟨b, 0, none⟩), ndV x] w (SelfB h (ownF u m x (strip j) f) w) := by
 have HF := xH (rf_start ho hn);have HA := xH ha;have HO := xH ho;have HSC := xH (hsc.keep HF.out.b);have HT := xH (show Tab3 _ from fun i hi => trw.qf HF.out.b (hT i hi));have HK := xH hk;clear ha hsc hT ho hn hk;unfold ndC zC at HF HSC HT;unfold ndV;go_enter Tryz.func57, Tryz.ntmps57;go_upto_region 1 with (fail)
 generalize (w.alloc _).alloc _ = w0 at *;have HF : Hid (RF h x j w w0) := HF;have b1 : (x.kind == 1) = false := by simp [HK.out]
 have b2 : (x.kind == 2) = false := by simp [HK.out]
 have b3 : (x.kind == 3) = false := by simp [HK.out]
 have b6 : (x.kind == 6) = false := by simp [HK.out]
 have b4 : (x.kind == 4) = false := by simp [HK.out]
 have b7 : (x.kind == 7) = false := by simp [HK.out]
 have b20 : (x.kind == 20) = true := by simp [HK.out]
 have c0 : w0.cell? ⟨w.heap.size, 0, none⟩ = some (.int .i64 x.kind) := by unfold World.cell?; rw [HF.out.n]; rfl
 have f0 : w0.frozen? ⟨w.heap.size, 0, none⟩ = false := by unfold World.frozen?; rw [HF.out.n]; rfl
 have c7 : w0.cell? ⟨w.heap.size, 7, none⟩ = some (.int .i64 x.mode) := by unfold World.cell?; rw [HF.out.n]; rfl
 have f7 : w0.frozen? ⟨w.heap.size, 7, none⟩ = false := by unfold World.frozen?; rw [HF.out.n]; rfl
 have HC := xH (mode_any b u m f x.mode w0 HSC.out);go_upto_region 16 with (fail)
 go_wp2_with fail
 refine HC.out.mono ?_;rintro e w1 ⟨rfl, hb⟩;have HF1 := xH (HF.out.below hb);clear hb c0 c7 f0 f7 HC;have c7 : w1.cell? ⟨w.heap.size, 7, none⟩ = some (.int .i64 x.mode) := by unfold World.cell?; rw [HF1.out.n]; rfl
 have f7 : w1.frozen? ⟨w.heap.size, 7, none⟩ = false := by unfold World.frozen?; rw [HF1.out.n]; rfl
 go_upto_region 17 with (fail)
 have HN7 := xH (show I64 (repM f 20 x.mode) by have := HF1.out.t.1.2.2.2.2.2.1; unfold repM; unfold I64 at *; split <;> (try split) <;> omega);have HF2 := xH (HF1.out.fld 7 (.int .i64 (repM f 20 x.mode)) { x with mode := repM f 20 x.mode } rfl ⟨HF1.out.t.1.1, HF1.out.t.1.2.1, HF1.out.t.1.2.2.1, HF1.out.t.1.2.2.2.1, HF1.out.t.1.2.2.2.2.1, HN7.out, HF1.out.t.1.2.2.2.2.2.2⟩ HF1.out.t.2.1 rfl);generalize w1.setCell _ _ = w2 at *;clear c7 f7;have HNO := xH (qp HF2.out.t);go_wp2_with (first
  | (refine ql rfl _ rfl w.heap.size rfl { x with mode := repM f 20 x.mode } HF2.out.n ?_)
  | (refine qh rfl rfl _ _ rfl (w.heap.size + 1) rfl _ { x with mode := repM f 20 x.mode } HF2.out.r rfl HNO.out rfl ?_))
 refine xB (qA rfl _ _ (w.heap.size + 1) { x with mode := repM f 20 x.mode } rfl (setRow_heap _ _ _ _ _ _ HF2.out.r)) rfl ?_;exact rf_end HF2.out (by unfold ownF; have q := HK.out; rw [if_neg (by omega), if_neg (by omega), if_neg (by omega), if_neg (by omega), if_neg (by omega), if_neg (by omega), show repM f x.kind x.mode = repM f 20 x.mode by rw [q]]; rfl)
theorem res_7 (b : Nat) (u : Bool) (m f : Int) (x : Lab) (j : F) (w : World) (h : Nat → Bool) (ha : AlOk u m) (hsc : ScAt w b u m f) (hT : Tab3 w) (ho : Old h w.heap.size) (hn : NdAt (sees h w) (x, j)) (_hl : x.set.length ≤ 100000) (hk : x.kind = 7) :
 Calls Tryz.prog 57 #[.pointer (some ⟨b, 0, none⟩), ndV x] w (SelfB h (ownF u m x (strip j) f) w) := by
 have HF := xH (rf_start ho hn);have HA := xH ha;have HO := xH ho;have HSC := xH (hsc.keep HF.out.b);have HT := xH (show Tab3 _ from fun i hi => trw.qf HF.out.b (hT i hi));have HK := xH hk;clear ha hsc hT ho hn hk;unfold ndC zC at HF HSC HT;unfold ndV;go_enter Tryz.func57, Tryz.ntmps57;go_upto_region 1 with (fail)
 generalize (w.alloc _).alloc _ = w0 at *;have HF : Hid (RF h x j w w0) := HF;have b1 : (x.kind == 1) = false := by simp [HK.out]
 have b2 : (x.kind == 2) = false := by simp [HK.out]
 have b3 : (x.kind == 3) = false := by simp [HK.out]
 have b6 : (x.kind == 6) = false := by simp [HK.out]
 have b4 : (x.kind == 4) = false := by simp [HK.out]
 have b7 : (x.kind == 7) = true := by simp [HK.out]
 have c0 : w0.cell? ⟨w.heap.size, 0, none⟩ = some (.int .i64 x.kind) := by unfold World.cell?; rw [HF.out.n]; rfl
 have f0 : w0.frozen? ⟨w.heap.size, 0, none⟩ = false := by unfold World.frozen?; rw [HF.out.n]; rfl
 have HC := xH (has_any b u m f 1 w0 HSC.out);obtain ⟨cl, hcl⟩ : ∃ cl, decide (andI f 1 ≠ 0) = cl := ⟨_, rfl⟩;rw [hcl] at HC;have HCL := xH hcl;clear hcl;go_upto_region 13 with (fail)
 go_wp2_with fail
 refine HC.out.mono ?_;rintro e w1 ⟨rfl, hb⟩;have HF1 := xH (HF.out.below hb);clear hb c0 f0 HC;have c9 : w1.cell? ⟨w.heap.size, 9, none⟩ = some (.int .i64 x.on) := by unfold World.cell?; rw [HF1.out.n]; rfl
 have f9 : w1.frozen? ⟨w.heap.size, 9, none⟩ = false := by unfold World.frozen?; rw [HF1.out.n]; rfl
 cases cl with
 | true =>
  have HF2 := xH (HF1.out.fld 9 (.int .i64 1) { x with on := 1 } rfl ⟨HF1.out.t.1.1, HF1.out.t.1.2.1, HF1.out.t.1.2.2.1, HF1.out.t.1.2.2.2.1, HF1.out.t.1.2.2.2.2.1, HF1.out.t.1.2.2.2.2.2.1, by show I64 1; unfold I64; omega, HF1.out.t.1.2.2.2.2.2.2.2⟩ HF1.out.t.2.1 rfl);have HEQ := xH (show andI f 1 ≠ 0 by simpa using HCL.out);go_upto_region 17 with (fail)
  generalize w1.setCell _ _ = w2 at *;clear c9 f9;have HNO := xH (qp HF2.out.t);go_wp2_with (first
   | (refine ql rfl _ rfl w.heap.size rfl { x with on := 1 } HF2.out.n ?_)
   | (refine qh rfl rfl _ _ rfl (w.heap.size + 1) rfl _ { x with on := 1 } HF2.out.r rfl HNO.out rfl ?_))
  refine xB (qA rfl _ _ (w.heap.size + 1) { x with on := 1 } rfl (setRow_heap _ _ _ _ _ _ HF2.out.r)) rfl ?_;exact rf_end HF2.out (by unfold ownF; have q := HK.out; rw [if_neg (by omega), if_neg (by omega), if_neg (by omega), if_neg (by omega), if_neg (by omega), if_pos q, if_pos HEQ.out]; rfl)
 | false =>
  have HEQ := xH (show ¬ andI f 1 ≠ 0 by simpa using HCL.out);clear c9 f9;have HNO := xH (qp HF1.out.t);go_wp2_with (first
   | (refine ql rfl _ rfl w.heap.size rfl x HF1.out.n ?_)
   | (refine qh rfl rfl _ _ rfl (w.heap.size + 1) rfl _ x HF1.out.r rfl HNO.out rfl ?_))
  refine xB (qA rfl _ _ (w.heap.size + 1) x rfl (setRow_heap _ _ _ _ _ _ HF1.out.r)) rfl ?_;exact rf_end HF1.out (by unfold ownF; have q := HK.out; rw [if_neg (by omega), if_neg (by omega), if_neg (by omega), if_neg (by omega), if_neg (by omega), if_pos q, if_neg HEQ.out]; rfl)
theorem res_oth (b : Nat) (u : Bool) (m f : Int) (x : Lab) (j : F) (w : World) (h : Nat → Bool) (ha : AlOk u m) (hsc : ScAt w b u m f) (hT : Tab3 w) (ho : Old h w.heap.size) (hn : NdAt (sees h w) (x, j)) (_hl : x.set.length ≤ 100000) (hk : x.kind ≠ 1 ∧ x.kind ≠ 2 ∧ x.kind ≠ 3 ∧ x.kind ≠ 4 ∧ x.kind ≠ 6 ∧ x.kind ≠ 7 ∧ x.kind ≠ 20) :
 Calls Tryz.prog 57 #[.pointer (some ⟨b, 0, none⟩), ndV x] w (SelfB h (ownF u m x (strip j) f) w) := by
 have HF := xH (rf_start ho hn);have HA := xH ha;have HO := xH ho;have HSC := xH (hsc.keep HF.out.b);have HT := xH (show Tab3 _ from fun i hi => trw.qf HF.out.b (hT i hi));have HK := xH hk;clear ha hsc hT ho hn hk;unfold ndC zC at HF HSC HT;unfold ndV;go_enter Tryz.func57, Tryz.ntmps57;go_upto_region 1 with (fail)
 generalize (w.alloc _).alloc _ = w0 at *;have HF : Hid (RF h x j w w0) := HF;have b1 : (x.kind == 1) = false := by have q := HK.out; simp; omega
 have b2 : (x.kind == 2) = false := by have q := HK.out; simp; omega
 have b3 : (x.kind == 3) = false := by have q := HK.out; simp; omega
 have b6 : (x.kind == 6) = false := by have q := HK.out; simp; omega
 have b4 : (x.kind == 4) = false := by have q := HK.out; simp; omega
 have b7 : (x.kind == 7) = false := by have q := HK.out; simp; omega
 have b20 : (x.kind == 20) = false := by have q := HK.out; simp; omega
 have c0 : w0.cell? ⟨w.heap.size, 0, none⟩ = some (.int .i64 x.kind) := by unfold World.cell?; rw [HF.out.n]; rfl
 have HNO := xH (qp HF.out.t);go_wp2_with (first
  | (refine ql rfl _ rfl w.heap.size rfl x HF.out.n ?_)
  | (refine qh rfl rfl _ _ rfl (w.heap.size + 1) rfl _ x HF.out.r rfl HNO.out rfl ?_))
 refine xB (qA rfl _ _ (w.heap.size + 1) x rfl (setRow_heap _ _ _ _ _ _ HF.out.r)) rfl ?_;exact rf_end HF.out (by unfold ownF; have q := HK.out; rw [if_neg (by omega), if_neg (by omega), if_neg (by omega), if_neg (by omega), if_neg (by omega), if_neg (by omega)]; unfold repM; rw [if_neg (by omega), if_neg (by omega)]; rfl)
theorem res_6 (b : Nat) (u : Bool) (m f : Int) (x : Lab) (j : F) (w : World) (h : Nat → Bool) (ha : AlOk u m) (hsc : ScAt w b u m f) (hT : Tab3 w) (ho : Old h w.heap.size) (hn : NdAt (sees h w) (x, j)) (_hl : x.set.length ≤ 100000) (hk : x.kind = 6) :
 Calls Tryz.prog 57 #[.pointer (some ⟨b, 0, none⟩), ndV x] w (SelfB h (ownF u m x (strip j) f) w) := by
 have HF := xH (rf_start ho hn);have HA := xH ha;have HO := xH ho;have HSC := xH (hsc.keep HF.out.b);have HT := xH (show Tab3 _ from fun i hi => trw.qf HF.out.b (hT i hi));have HK := xH hk;clear ha hsc hT ho hn hk;unfold ndC zC at HF HSC HT;unfold ndV;go_enter Tryz.func57, Tryz.ntmps57;go_upto_region 1 with (fail)
 generalize (w.alloc _).alloc _ = w0 at *;have HF : Hid (RF h x j w w0) := HF;have b1 : (x.kind == 1) = false := by simp [HK.out]
 have b2 : (x.kind == 2) = false := by simp [HK.out]
 have b3 : (x.kind == 3) = false := by simp [HK.out]
 have b6 : (x.kind == 6) = true := by simp [HK.out]
 have c0 : w0.cell? ⟨w.heap.size, 0, none⟩ = some (.int .i64 x.kind) := by unfold World.cell?; rw [HF.out.n]; rfl
 have HC := xH (fun (w' : World) (hb : Below w0.heap.size w0 w') => line_any u m x.at_ w' (hN h (w.heap.size + 1)) HA.out HF.out.t.1.2.1 (HF.out.o.le hb.size));have d0 := HSC.out.cells.1;have d1 := HSC.out.cells.2.1;have c1 : w0.cell? ⟨w.heap.size, 1, none⟩ = some (.int .i64 x.at_) := by unfold World.cell?; rw [HF.out.n]; rfl
 go_upto_region 9 with (fail)
 go_still_tail 6, (by kernel_rfl)
 change wpList _ _ _ _ _ w0.drew;have HD := xH (show Below w0.heap.size w0 w0.drew from trw.qL w0);have HC1 := xH (HC.out w0.drew HD.out);have HF1 := xH (HF.out.below HD.out);clear HC c0 c1 d0 d1;unfold alV at HC1;generalize w0.drew = w1 at *;go_wp2_with fail
 refine HC1.out.mono ?_;rintro e w2 ⟨y, j', rfl, hn, hs, hb⟩;have HF2 := xH (HF1.out.below hb);have HNY := xH hn;have HSY := xH hs;have HYO := xH (qp hn);clear hn hs hb HC1;try dsimp only
 go_upto_region 17 with (first
  | (refine wpList_store_nw rfl rfl _ _ rfl w.heap.size rfl _ y HF2.out.n rfl HYO.out rfl ?_; intro w3 h3; have HF3 := xH (HF2.out.whole HNY.out h3.out); clear h3))
 have HNO := xH (qp HF3.out.t);go_wp2_with (first
  | (refine ql rfl _ rfl w.heap.size rfl y HF3.out.n ?_)
  | (refine qh rfl rfl _ _ rfl (w.heap.size + 1) rfl _ y HF3.out.r rfl HNO.out rfl ?_))
 refine xB (qA rfl _ _ (w.heap.size + 1) y rfl (setRow_heap _ _ _ _ _ _ HF3.out.r)) rfl ?_;exact rf_end HF3.out (by rw [HSY.out]; unfold ownF; have q := HK.out; rw [if_neg (by omega), if_neg (by omega), if_neg (by omega), if_neg (by omega), if_pos q])
theorem res_2 (b : Nat) (u : Bool) (m f : Int) (x : Lab) (j : F) (w : World) (h : Nat → Bool) (ha : AlOk u m) (hsc : ScAt w b u m f) (hT : Tab3 w) (ho : Old h w.heap.size) (hn : NdAt (sees h w) (x, j)) (hl : x.set.length ≤ 100000) (hk : x.kind = 2) :
 Calls Tryz.prog 57 #[.pointer (some ⟨b, 0, none⟩), ndV x] w (SelfB h (ownF u m x (strip j) f) w) := by
 have HF := xH (rf_start ho hn);have HA := xH ha;have HO := xH ho;have HSC := xH (hsc.keep HF.out.b);have HT := xH (show Tab3 _ from fun i hi => trw.qf HF.out.b (hT i hi));have HK := xH hk;clear ha hsc hT ho hn hk;unfold ndC zC at HF HSC HT;unfold ndV;go_enter Tryz.func57, Tryz.ntmps57;go_upto_region 1 with (fail)
 generalize (w.alloc _).alloc _ = w0 at *;have HF : Hid (RF h x j w w0) := HF;have b1 : (x.kind == 1) = false := by simp [HK.out]
 have b2 : (x.kind == 2) = true := by simp [HK.out]
 have c0 : w0.cell? ⟨w.heap.size, 0, none⟩ = some (.int .i64 x.kind) := by unfold World.cell?; rw [HF.out.n]; rfl
 have c3 : w0.cell? ⟨w.heap.size, 3, none⟩ = some (x.sv) := by unfold World.cell?; rw [HF.out.n]; rfl
 have c4 : w0.cell? ⟨w.heap.size, 4, none⟩ = some (.bool x.neg) := by unfold World.cell?; rw [HF.out.n]; rfl
 obtain ⟨cl, hcl⟩ : ∃ cl, decide (andI f 1 ≠ 0) = cl := ⟨_, rfl⟩;have HCL := xH hcl;have HC := xH (class_any b u m f x.sv x.set x.neg w0 HA.out HSC.out (rg_rs HF.out.t.2.1) (by omega) HT.out);rw [hcl] at HC;clear hcl;go_upto_region 5 with (fail)
 go_wp2_with fail
 refine HC.out.mono ?_;rintro e w1 ⟨hS, v2, rfl, ho, hb⟩;obtain ⟨sa, sc, rfl⟩ := zJ ho.1;have HF1 := xH (HF.out.below (hb));have HRG := xH (show RgAt (sees (hN h (w.heap.size + 1)) w1) (.slice sa (setP u m x.set cl x.neg).length sc) (setP u m x.set cl x.neg) from own_rg ho (fk_wf hS) HF.out.o);clear hS ho hb HC;obtain ⟨S, hS⟩ : ∃ S, setP u m x.set cl x.neg = S := ⟨_, rfl⟩;have HS := xH hS;rw [hS] at HRG;simp only [hS];clear hS;try dsimp only
 clear c0 c3 c4;have c3 : w1.cell? ⟨w.heap.size, 3, none⟩ = some (x.sv) := by unfold World.cell?; rw [HF1.out.n]; rfl
 have f3 : w1.frozen? ⟨w.heap.size, 3, none⟩ = false := by unfold World.frozen?; rw [HF1.out.n]; rfl
 have c4 : w1.cell? ⟨w.heap.size, 4, none⟩ = some (.bool x.neg) := by unfold World.cell?; rw [HF1.out.n]; rfl
 have f4 : w1.frozen? ⟨w.heap.size, 4, none⟩ = false := by unfold World.frozen?; rw [HF1.out.n]; rfl
 go_upto_region 17 with (fail)
 have HF2 := xH (HF1.out.fld 3 (.slice sa S.length sc) { x with sv := .slice sa S.length sc, set := S } rfl HF1.out.t.1 HRG.out rfl);have HF3 := xH (HF2.out.fld 4 (.bool false) { x with sv := .slice sa S.length sc, set := S, neg := false } rfl HF1.out.t.1 HF2.out.t.2.1 rfl);generalize (w1.setCell _ _).setCell _ _ = w2 at *;clear c3 c4 f3 f4;have HNO := xH (qp HF3.out.t);go_wp2_with (first
  | (refine ql rfl _ rfl w.heap.size rfl { x with sv := .slice sa S.length sc, set := S, neg := false } HF3.out.n ?_)
  | (refine qh rfl rfl _ _ rfl (w.heap.size + 1) rfl _ { x with sv := .slice sa S.length sc, set := S, neg := false } HF3.out.r rfl HNO.out rfl ?_))
 refine xB (qA rfl _ _ (w.heap.size + 1) { x with sv := .slice sa S.length sc, set := S, neg := false } rfl (setRow_heap _ _ _ _ _ _ HF3.out.r)) rfl ?_;exact rf_end HF3.out (by unfold ownF; have q := HK.out; rw [if_neg (by omega), if_pos q, HCL.out, HS.out]; rfl)
theorem res_3 (b : Nat) (u : Bool) (m f : Int) (x : Lab) (j : F) (w : World) (h : Nat → Bool) (ha : AlOk u m) (hsc : ScAt w b u m f) (hT : Tab3 w) (ho : Old h w.heap.size) (hn : NdAt (sees h w) (x, j)) (_hl : x.set.length ≤ 100000) (hk : x.kind = 3) :
 Calls Tryz.prog 57 #[.pointer (some ⟨b, 0, none⟩), ndV x] w (SelfB h (ownF u m x (strip j) f) w) := by
 have HF := xH (rf_start ho hn);have HA := xH ha;have HO := xH ho;have HSC := xH (hsc.keep HF.out.b);have HT := xH (show Tab3 _ from fun i hi => trw.qf HF.out.b (hT i hi));have HK := xH hk;clear ha hsc hT ho hn hk;unfold ndC zC at HF HSC HT;unfold ndV;go_enter Tryz.func57, Tryz.ntmps57;go_upto_region 1 with (fail)
 generalize (w.alloc _).alloc _ = w0 at *;have HF : Hid (RF h x j w w0) := HF;have b1 : (x.kind == 1) = false := by simp [HK.out]
 have b2 : (x.kind == 2) = false := by simp [HK.out]
 have b3 : (x.kind == 3) = true := by simp [HK.out]
 have c0 : w0.cell? ⟨w.heap.size, 0, none⟩ = some (.int .i64 x.kind) := by unfold World.cell?; rw [HF.out.n]; rfl
 obtain ⟨L, hL⟩ : ∃ L : List Rg, (if andI f 4 = 0 then [(10, 10)] else []) = L := ⟨_, rfl⟩;have HL := xH hL;have HC := xH (dot_any b u m f w0 HA.out HSC.out);rw [hL] at HC;clear hL;go_upto_region 7 with (fail)
 go_wp2_with fail
 refine HC.out.mono ?_;rintro e w1 ⟨hS, v2, rfl, ho, hb⟩;obtain ⟨sa, sc, rfl⟩ := zJ ho.1;have HF1 := xH (HF.out.below (hb));have HRG := xH (show RgAt (sees (hN h (w.heap.size + 1)) w1) (.slice sa (setP u m L false true).length sc) (setP u m L false true) from own_rg ho (fk_wf hS) HF.out.o);clear hS ho hb HC;obtain ⟨S, hS⟩ : ∃ S, setP u m L false true = S := ⟨_, rfl⟩;have HS := xH hS;rw [hS] at HRG;simp only [hS];clear hS;try dsimp only
 clear c0;have c0 : w1.cell? ⟨w.heap.size, 0, none⟩ = some (.int .i64 x.kind) := by unfold World.cell?; rw [HF1.out.n]; rfl
 have f0 : w1.frozen? ⟨w.heap.size, 0, none⟩ = false := by unfold World.frozen?; rw [HF1.out.n]; rfl
 have c3 : w1.cell? ⟨w.heap.size, 3, none⟩ = some (x.sv) := by unfold World.cell?; rw [HF1.out.n]; rfl
 have f3 : w1.frozen? ⟨w.heap.size, 3, none⟩ = false := by unfold World.frozen?; rw [HF1.out.n]; rfl
 go_upto_region 17 with (fail)
 have HF2 := xH (HF1.out.fld 0 (.int .i64 2) { x with kind := 2 } rfl ⟨(show I64 2 by unfold I64; omega), HF1.out.t.1.2.1, HF1.out.t.1.2.2.1, HF1.out.t.1.2.2.2.1, HF1.out.t.1.2.2.2.2.1, HF1.out.t.1.2.2.2.2.2.1, HF1.out.t.1.2.2.2.2.2.2.1, HF1.out.t.1.2.2.2.2.2.2.2⟩ HF1.out.t.2.1 rfl);have HF3 := xH (HF2.out.fld 3 (.slice sa S.length sc) { x with kind := 2, sv := .slice sa S.length sc, set := S } rfl HF2.out.t.1 (rg_fld HRG.out) rfl);generalize (w1.setCell _ _).setCell _ _ = w2 at *;clear c0 c3 f0 f3;have HNO := xH (qp HF3.out.t);go_wp2_with (first
  | (refine ql rfl _ rfl w.heap.size rfl { x with kind := 2, sv := .slice sa S.length sc, set := S } HF3.out.n ?_)
  | (refine qh rfl rfl _ _ rfl (w.heap.size + 1) rfl _ { x with kind := 2, sv := .slice sa S.length sc, set := S } HF3.out.r rfl HNO.out rfl ?_))
 refine xB (qA rfl _ _ (w.heap.size + 1) { x with kind := 2, sv := .slice sa S.length sc, set := S } rfl (setRow_heap _ _ _ _ _ _ HF3.out.r)) rfl ?_;exact rf_end HF3.out (by unfold ownF; have q := HK.out; rw [if_neg (by omega), if_neg (by omega), if_pos q, HL.out, HS.out]; rfl)
theorem res_1 (b : Nat) (u : Bool) (m f : Int) (x : Lab) (j : F) (w : World) (h : Nat → Bool) (ha : AlOk u m) (hsc : ScAt w b u m f) (hT : Tab3 w) (ho : Old h w.heap.size) (hn : NdAt (sees h w) (x, j)) (_hl : x.set.length ≤ 100000) (hk : x.kind = 1) :
 Calls Tryz.prog 57 #[.pointer (some ⟨b, 0, none⟩), ndV x] w (SelfB h (ownF u m x (strip j) f) w) := by
 have HF := xH (rf_start ho hn);have HA := xH ha;have HO := xH ho;have HSC := xH (hsc.keep HF.out.b);have HT := xH (show Tab3 _ from fun i hi => trw.qf HF.out.b (hT i hi));have HK := xH hk;clear ha hsc hT ho hn hk;unfold ndC zC at HF HSC HT;unfold ndV;go_enter Tryz.func57, Tryz.ntmps57;go_upto_region 1 with (fail)
 generalize (w.alloc _).alloc _ = w0 at *;have HF : Hid (RF h x j w w0) := HF;have b1 : (x.kind == 1) = true := by simp [HK.out]
 have c0 : w0.cell? ⟨w.heap.size, 0, none⟩ = some (.int .i64 x.kind) := by unfold World.cell?; rw [HF.out.n]; rfl
 have c2 : w0.cell? ⟨w.heap.size, 2, none⟩ = some (.int .i64 x.c) := by unfold World.cell?; rw [HF.out.n]; rfl
 obtain ⟨cl, hcl⟩ : ∃ cl, decide (andI f 1 ≠ 0) = cl := ⟨_, rfl⟩;have HCL := xH hcl;have HOL := xH (own_lit (R := [(x.c, x.c)]) (n := 1) (B := w0.heap.size) (cs := #[.int .i64 x.c, .int .i64 x.c]) (w := w0) rfl rfl rfl (by simp) (by simp));have HBL := xH (trw.qg w0 (.cells #[.int .i64 x.c, .int .i64 x.c] 57));have HC := xH (class_any b u m f (.slice (some ⟨w0.heap.size, 0, none⟩) 1 1) [(x.c, x.c)] false _ HA.out (HSC.out.keep HBL.out) (rs_wf HOL.out (lit_wf HF.out.t.1.2.2.1)) (by simp) (fun i hi => trw.qf HBL.out (HT.out i hi)));rw [hcl] at HC;clear hcl;go_upto_region 3 with (fail)
 go_wp2_with fail
 refine HC.out.mono ?_;rintro e w1 ⟨hS, v2, rfl, ho, hb⟩;obtain ⟨sa, sc, rfl⟩ := zJ ho.1;have HF1 := xH (HF.out.below (trw.qi HBL.out hb));have HRG := xH (show RgAt (sees (hN h (w.heap.size + 1)) w1) (.slice sa (setP u m [(x.c, x.c)] cl false).length sc) (setP u m [(x.c, x.c)] cl false) from own_rg ho (fk_wf hS) (HF.out.o.le HBL.out.size));clear hS ho hb HC;obtain ⟨S, hS⟩ : ∃ S, setP u m [(x.c, x.c)] cl false = S := ⟨_, rfl⟩;have HS := xH hS;rw [hS] at HRG;simp only [hS];clear hS;try dsimp only
 clear c0 c2;have c0 : w1.cell? ⟨w.heap.size, 0, none⟩ = some (.int .i64 x.kind) := by unfold World.cell?; rw [HF1.out.n]; rfl
 have f0 : w1.frozen? ⟨w.heap.size, 0, none⟩ = false := by unfold World.frozen?; rw [HF1.out.n]; rfl
 have c2 : w1.cell? ⟨w.heap.size, 2, none⟩ = some (.int .i64 x.c) := by unfold World.cell?; rw [HF1.out.n]; rfl
 have f2 : w1.frozen? ⟨w.heap.size, 2, none⟩ = false := by unfold World.frozen?; rw [HF1.out.n]; rfl
 have c3 : w1.cell? ⟨w.heap.size, 3, none⟩ = some (x.sv) := by unfold World.cell?; rw [HF1.out.n]; rfl
 have f3 : w1.frozen? ⟨w.heap.size, 3, none⟩ = false := by unfold World.frozen?; rw [HF1.out.n]; rfl
 go_upto_region 17 with (fail)
 have HF2 := xH (HF1.out.fld 0 (.int .i64 2) { x with kind := 2 } rfl ⟨(show I64 2 by unfold I64; omega), HF1.out.t.1.2.1, HF1.out.t.1.2.2.1, HF1.out.t.1.2.2.2.1, HF1.out.t.1.2.2.2.2.1, HF1.out.t.1.2.2.2.2.2.1, HF1.out.t.1.2.2.2.2.2.2.1, HF1.out.t.1.2.2.2.2.2.2.2⟩ HF1.out.t.2.1 rfl);have HF3 := xH (HF2.out.fld 3 (.slice sa S.length sc) { x with kind := 2, sv := .slice sa S.length sc, set := S } rfl HF2.out.t.1 (rg_fld HRG.out) rfl);have HF4 := xH (HF3.out.fld 2 (.int .i64 0) { x with kind := 2, sv := .slice sa S.length sc, set := S, c := 0 } rfl ⟨(show I64 2 by unfold I64; omega), HF1.out.t.1.2.1, (show I64 0 by unfold I64; omega), HF1.out.t.1.2.2.2.1, HF1.out.t.1.2.2.2.2.1, HF1.out.t.1.2.2.2.2.2.1, HF1.out.t.1.2.2.2.2.2.2.1, HF1.out.t.1.2.2.2.2.2.2.2⟩ HF3.out.t.2.1 rfl);generalize ((w1.setCell _ _).setCell _ _).setCell _ _ = w2 at *;clear c0 c2 c3 f0 f2 f3;have HNO := xH (qp HF4.out.t);go_wp2_with (first
  | (refine ql rfl _ rfl w.heap.size rfl { x with kind := 2, sv := .slice sa S.length sc, set := S, c := 0 } HF4.out.n ?_)
  | (refine qh rfl rfl _ _ rfl (w.heap.size + 1) rfl _ { x with kind := 2, sv := .slice sa S.length sc, set := S, c := 0 } HF4.out.r rfl HNO.out rfl ?_))
 refine xB (qA rfl _ _ (w.heap.size + 1) { x with kind := 2, sv := .slice sa S.length sc, set := S, c := 0 } rfl (setRow_heap _ _ _ _ _ _ HF4.out.r)) rfl ?_;exact rf_end HF4.out (by unfold ownF; have q := HK.out; rw [if_pos q, HCL.out, HS.out]; rfl)
theorem resolved_any (b : Nat) (u : Bool) (m f : Int) (x : Lab) (j : F) (w : World) (h : Nat → Bool) (ha : AlOk u m) (hsc : ScAt w b u m f) (hT : Tab3 w) (ho : Old h w.heap.size) (hn : NdAt (sees h w) (x, j)) (hl : x.set.length ≤ 100000) :
 Calls Tryz.prog 57 #[.pointer (some ⟨b, 0, none⟩), ndV x] w (SelfB h (ownF u m x (strip j) f) w) := by
 by_cases h1 : x.kind = 1
 ·exact res_1 b u m f x j w h ha hsc hT ho hn hl h1
 by_cases h2 : x.kind = 2
 ·exact res_2 b u m f x j w h ha hsc hT ho hn hl h2
 by_cases h3 : x.kind = 3
 ·exact res_3 b u m f x j w h ha hsc hT ho hn hl h3
 by_cases h4 : x.kind = 4
 ·exact res_4 b u m f x j w h ha hsc hT ho hn hl h4
 by_cases h6 : x.kind = 6
 ·exact res_6 b u m f x j w h ha hsc hT ho hn hl h6
 by_cases h7 : x.kind = 7
 ·exact res_7 b u m f x j w h ha hsc hT ho hn hl h7
 by_cases h20 : x.kind = 20
 ·exact res_20 b u m f x j w h ha hsc hT ho hn hl h20
 exact res_oth b u m f x j w h ha hsc hT ho hn hl ⟨h1, h2, h3, h4, h6, h7, h20⟩
end fkw
end
end Go.Proofs.YtikjhfmmfpeaoaaGreatDoor
