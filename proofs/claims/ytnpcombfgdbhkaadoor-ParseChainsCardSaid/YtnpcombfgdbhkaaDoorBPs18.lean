/- T -/
import Derived.Laws.AppendOwnNone
import Derived.Shelf.SlicesE.Clone
import Derived.Shelf.Spec.SlicesGrow
import Derived.Test.YtnpcombfgdbhkaaDoorBPs17
set_option maxHeartbeats 16000000
set_option maxRecDepth 1000000
section
namespace Go.Proofs.YtnpcombfgdbhkaaDoor.psw
open sq
open Go.Sort Go Go.RowKit Go.Maps tkp trp trw rpp psp
open tkw (qO)
open rpw (sees jB qU fC jP FSub vw jQ app_sub jH jm jd qp vW oneR zk jV lab_ok rg_nil qh qA jU ql)
theorem jc {ops : Array Oper} {rest : List Oper} {o : Oper} {a : Act} {w : World} {Q : Exit → Act → World → Prop} (hg : o.guard = none) (x : Operand) (ho : o.op = .buildSlice 29 1 #[(0, x)])
 (l : Lab) (hx : a.eval x = ndV l) (B : Nat) (hB : w.heap.size = B)
 (h : ∀ w', Hid (w' = w.alloc (.cells (ndC l).toArray 31)) → wpList Tryd.prog ops Q rest (a.put o.dst (.slice (some ⟨B, 0, none⟩) 1 1)) w') : wpList Tryd.prog ops Q (o :: rest) a w := by
 obtain ⟨i0, hi, hz0, hz1, hz2⟩ := info_parts infoNd;subst hB;refine wpList_buildSlice hg _ 31 1 _ ho (ndC l).toArray i0 _ Tryd.underlying29 hi hz0 (by rw [hz1]; decide) (by rw [hz1]; decide) ?_ (h _ (xH rfl));simp only [List.map_toArray, List.map_cons, List.map_nil, hx, hz1];kernel_rfl
theorem row1 {H : Nat → Bool} {w : World} {x : Lab} {k : F} (h : NdAt (sees H w) (x, k)) (ho : ∀ i, H i = true → i < w.heap.size) : jr (sees H (w.alloc (.cells (ndC x).toArray 31))) (.slice (some ⟨w.heap.size, 0, none⟩) 1 1) (F.one x k) := by
 have hg : H w.heap.size = false := by
  cases e : H w.heap.size with
  | false => rfl
  | true => have := ho _ e; omega
 have h' := qY (qU fun _ _ e hc => ⟨e, trw.qf (qg w (.cells (ndC x).toArray 31)) hc⟩) h;refine ⟨_, 1, rfl, Nat.le_refl _, by decide, Or.inr ⟨w.heap.size, 0, rfl, fun j u hj => jB.2 ⟨hg, ?_⟩, ⟨h'.1, h'.2.1⟩, h'.2.2, trivial⟩⟩;rw [Nat.zero_add, World.cell?_alloc_new];simpa using hj
theorem hm_ho {H : Nat → Bool} {n : Nat} {w : World} {g o : Nat} {C : Array Value} {G : Gv} (h : Gi H n w g o C G) (v : Value) : ∀ i, hm H v i = true → i < w.heap.size := fun i e => h.ho i (by simp only [hm, Bool.and_eq_true] at e; exact e.1)
theorem kids_below {H : Nat → Bool} {w w' : World} (hb : Below w.heap.size w w') {v : Value} {k : F} (h : jr (sees H w) v k) : jr (sees H w') v k := jh (qU fun _ _ e hc => ⟨e, trw.qf hb hc⟩) h
def partF (K : Int) (g : psp.G) : F := if K = 16 ∨ K = 19 then (endG g).kf else psp.treeG g
theorem parts_any {H : Nat → Bool} {n : Nat} {w : World} {g o : Nat} {C : Array Value} {G : Gv} (K : Int) (h : Gi H n w g o C G) (hk : G.kf.len ≤ 60000) :
 Calls Tryd.prog 84 #[.pointer (some ⟨g, o, none⟩), .int .i64 K] w (GB H n w g o C G fun H' w' G' r => G'.g = endG G.g ∧ ∃ F, jr (sees (hm H' G'.kv) w') r F ∧ strip F = partF K G.g) := by
 have HG0 := xH h;clear h;go_enter Tryd.func84, Tryd.ntmps84;go_wp2_with fail
 refine (tree_any HG0.out hk).mono ?_;rintro e w2 ⟨r, H', C', G', rfl, hs, rfl, hg⟩;have HGG := xH hg;obtain ⟨Gt, Gsv, Gkv, Gkf, Giv, Gjf⟩ := G';obtain ⟨ka, kc, hkv⟩ := gi_slice hs.i.k.r;simp only at hkv;subst hkv;have HKI := xH (gi_kids hs.i);have HX := xH (zk 13 (by unfold I64; omega) HKI.out);have HST := xH (show strip (F.one (oneR 13 (.slice ka Gkf.len kc) Gkf).1 (oneR 13 (.slice ka Gkf.len kc) Gkf).2) = psp.treeG G.g from by rw [jV];show oneF 13 (Gv.g ⟨Gt, Gsv, .slice ka Gkf.len kc, Gkf, Giv, Gjf⟩).kf = _;rw [hg];rfl)
 have HSK := xH (show strip Gkf = (endG G.g).kf from by rw [← hg]; rfl);have H1 := xH (qp HX.out);obtain ⟨x, k, hxk⟩ : ∃ x k, oneR 13 (.slice ka Gkf.len kc) Gkf = (x, k) := ⟨_, _, rfl⟩;rw [hxk] at HX HST H1 ⊢;clear hg hxk;have HB3 := xH (jU w2 zC.toArray (ndC x).toArray 31);have HS3 := xH (hs.below HB3.out);have HX3 := xH (qY (qU fun _ _ e hc => ⟨e, trw.qf HB3.out hc⟩) HX.out);have HK3 := xH (kids_below HB3.out HKI.out);have HGA := xH (heap_alloc_new w2 (.cells zC.toArray 31));have HV3 := xH (setRow_heap _ _ _ (ndC x).toArray _ _ HGA.out);clear hs HKI HX;unfold zC at HGA HV3 HB3 HS3 HX3 HK3;dsimp only at HV3 HX3 H1 HGA ⊢;go_upto_region 2 with (refine qh rfl rfl _ _ rfl w2.heap.size rfl _ x HGA.out rfl H1.out rfl ?_)
 clear HGA HB3;generalize (w2.alloc _).setRow w2.heap.size _ = w3 at *;obtain ⟨V, hV⟩ : ∃ V, w2.heap.size = V := ⟨_, rfl⟩;rw [hV] at HV3 ⊢;clear hV;have c12 : w3.cell? ⟨g, o + 12, none⟩ = some (.slice ka Gkf.len kc) := gi_cell HS3.out.i rfl;by_cases hK : K = 16 ∨ K = 19
 ·have HP := xH (show strip Gkf = partF K G.g from by unfold partF; rw [if_pos hK]; exact HSK.out);by_cases h16 : K = 16
  ·have b16 : (K == 16) = true := by simp [h16]
   clear hK h16;go_wp2_with fail
   go_ret
   exact ⟨_, _, _, _, rfl, HS3.out, HGG.out, _, HK3.out, HP.out⟩
  ·have b16 : (K == 16) = false := by simp [h16]
   have b19 : (K == 19) = true := by
    rcases hK with e | e
    ·exact absurd e h16
    ·simp [e]
   clear hK h16;go_wp2_with fail
   go_ret
   exact ⟨_, _, _, _, rfl, HS3.out, HGG.out, _, HK3.out, HP.out⟩
 ·have HP := xH (show strip (F.one x k) = partF K G.g from by unfold partF; rw [if_neg hK]; exact HST.out);have b16 : (K == 16) = false := by simp; exact fun e => hK (Or.inl e)
  have b19 : (K == 19) = false := by simp; exact fun e => hK (Or.inr e)
  have HR := xH (row1 HX3.out (hm_ho HS3.out.i _));have HS4 := xH (HS3.out.below (qg w3 (.cells (ndC x).toArray 31)));clear hK c12;go_wp2_with (first
   | (refine ql rfl _ rfl V rfl x HV3.out ?_)
   | (refine jc rfl _ rfl x rfl w3.heap.size rfl ?_; intro w17 h17; have HR7 := xH (h17.out ▸ HR.out); have HS7 := xH (h17.out ▸ HS4.out); clear h17))
  go_ret
  exact ⟨_, _, _, _, rfl, HS7.out, HGG.out, _, HR7.out, HP.out⟩
end Go.Proofs.YtnpcombfgdbhkaaDoor.psw
end
section
namespace Go.Proofs.YtnpcombfgdbhkaaDoor.psw
open sq
open Go.Sort Go Go.RowKit Go.Maps tkp trp trw rpp psp
open tkw (qO)
open rpw (sees jB qU fC jP FSub vw jQ app_sub jH jm jd qp vW oneR zk jV lab_ok rg_nil qh qA jU ql zT)
theorem alloc_belowT (w : World) (c cs : Array Value) : Below w.heap.size w ((w.alloc (.cells c 53)).setRow w.heap.size cs) :=
 (qg w _).trans ⟨rfl, rfl, rfl, by rw [tkw.setRow_size]; exact Nat.le_refl _, fun k hk => tkw.setRow_other _ _ k cs (by omega)⟩
theorem ps_row {n g : Nat} {w w' : World} (h : Below n w w') (cs : Array Value) (hg : n ≤ g) : Below n w (w'.setRow g cs) :=
 h.trans ⟨rfl, rfl, rfl, by rw [tkw.setRow_size]; exact Nat.le_refl _, fun k hk => tkw.setRow_other _ _ k cs (by omega)⟩
theorem held_store_n0 {o : Oper} {a : Act} {W : World} {K : Act → World → Prop} {Q : Exit → Act → World → Prop} {ys : Nat → Option Bool} (hgd : o.guard = none) (hd : o.dst = none) (x y : Operand) (ho : o.op = .store 31 x y)
 (g : Nat) (hx : a.eval x = .pointer (some ⟨g, 0, none⟩)) (old : Array Value) (l : Lab) (hg : W.heap[g]? = some (.cells old 31 (0, 0))) (hs : old.size = 12) (h1 : ∀ u ∈ ndC l, u.oneCell' = true) (hy : a.eval y = ndV l)
 (h : K a (W.setRow g (ndC l).toArray)) : if Region.wanted o ys = true then Oper.wp Tryd.prog o a W K Q else K (a.put o.dst undef) W := by
 rw [if_pos (by unfold Region.wanted; rw [hgd])];unfold Oper.wp execOp;simp only [ho, hx, hy, Instr.storeAt, Instr.sureAddr, Sem.run_bind, Sem.run_pure, Result.andThen_ok, rpw.run_store_nd W g old l hg hs h1];simpa [Oper.upon, hd, Act.put] using h
theorem wpList_load_tg {ops : Array Oper} {rest : List Oper} {o : Oper} {a : Act} {w : World} {Q : Exit → Act → World → Prop} (hgd : o.guard = none) (x : Operand) (ho : o.op = .load 53 x)
 (b off : Nat) (hx : a.eval x = .pointer (some ⟨b, off, none⟩)) (v : Value) (t : Tk) (hc : ∀ j u, (qO v t)[j]? = some u → w.cell? ⟨b, off + j, none⟩ = some u)
 (h : wpList Tryd.prog ops Q rest (a.put o.dst (.agg (tA v t))) w) : wpList Tryd.prog ops Q (o :: rest) a w :=
 trw.wpList_load_at hgd 53 x ho ⟨b, off, none⟩ hx (qO v t) _ (fun j u hj => by rw [trw.add_plain]; exact hc j u hj) Tryd.underlying53 rfl (by kernel_rfl) h
def h2 (H : Nat → Bool) (a b : Nat) (i : Nat) : Bool := H i || decide (i = a) || decide (i = b)
def nodeL (t : Tk) (K : Int) (kv : Value) : Lab := { lab K t.at_ with name := if K = 14 ∨ K = 19 then t.name else ⟨#[]⟩, on := if K = 15 then t.on else 0, off := if K = 15 then t.off else 0, n := if K = 18 ∨ K = 19 then t.n else 0, m := if K = 19 then t.m else 0, mode := if K = 19 then t.mode else 0, kv := kv }
theorem node_pure {t : Tk} (h1 : 1 ≤ t.n) (h2 : t.n ≤ 13) (v : Value) (g : psp.G) (hg : g.t = t) (fk : F) (hF : strip fk = partF (gK t.n.toNat) g) : strip (F.one (nodeL t (gK t.n.toNat) v) fk) = nodeG g := by
 unfold nodeG;rw [hg];have e : strip (F.one (nodeL t (gK t.n.toNat) v) fk) = F.one { nodeL t (gK t.n.toNat) v with sv := nil3, kv := nil3 } (strip fk) := rfl;rw [e, hF];have hc : t.n = 1 ∨ t.n = 2 ∨ t.n = 3 ∨ t.n = 4 ∨ t.n = 5 ∨ t.n = 6 ∨ t.n = 7 ∨ t.n = 8 ∨ t.n = 9 ∨ t.n = 10 ∨ t.n = 11 ∨ t.n = 12 ∨ t.n = 13 := by omega
 unfold jf partF nodeL psp.treeG;rcases hc with q | q | q | q | q | q | q | q | q | q | q | q | q <;> (rw [q]; simp [gK, F.app, lab])
theorem node_lab {t : Tk} (h : TkO t) (K : Int) (hK : I64 K) (v : Value) : LabOk (nodeL t K v) := by
 have z : I64 0 := by unfold I64; omega
 obtain ⟨a1, a2, a3, a4, a5, a6, a7, a8⟩ := h;refine ⟨hK, by show I64 (t.at_ : Int); unfold I64; omega, z, ?_, ?_, ?_, ?_, ?_⟩
 all_goals (unfold nodeL; simp only; split <;> assumption)
def NodeP (g : psp.G) (H' : Nat → Bool) (w' : World) (G' : Gv) (r : Value) : Prop := ∃ x fk, r = ndV x ∧ NdAt (sees (hm H' G'.kv) w') (x, fk) ∧ strip (F.one x fk) = nodeG g ∧ G'.g = endG g ∧ x.n = (if x.kind = 18 ∨ x.kind = 19 then g.t.n else 0) ∧ x.kind = gK g.t.n.toNat ∧ x.at_ = g.t.at_
theorem node_done {H H1 H' : Nat → Bool} {n : Nat} {w wx w4 w5 : World} {g o B R : Nat} {C C' : Array Value} {G G' : Gv} {fk : F} {r : Value} {K : Int} (h : Gi H n w g o C G) (hs : Gs H1 n wx g o C G H' w4 C' G') (hb : Below w.heap.size w wx) (hH : H1 = h2 H R B) (hR : w.heap.size ≤ R) (hRx : R < wx.heap.size) (hB : w.heap.size ≤ B) (hBx : B < wx.heap.size)
 (hk : jr (sees (hm H' G'.kv) w4) r fk) (hg : G'.g = endG G.g) (hF : strip fk = partF K G.g) (hK : K = gK G.t.n.toNat) (h1 : 1 ≤ G.t.n) (h13 : G.t.n ≤ 13) (hc : Ch (fun i => decide (i = B)) w4 w5) (hRB : R ≠ B) (cs : Array Value) :
 GB H n w g o C G (NodeP G.g) (.returned (ndV (nodeL G.t K r))) (w5.setRow R cs) := by
 subst hH;have ha : ∀ i, H i = true → h2 H R B i = true := fun i e => by simp [h2, e]
 have hb2 : ∀ i, h2 H R B i = true → H i = true ∨ (w.heap.size ≤ i ∧ i < wx.heap.size) := fun i e => by
  simp only [h2, Bool.or_eq_true, decide_eq_true_eq] at e;rcases e with (e | e) | e
  ·exact Or.inl e
  ·exact Or.inr (by omega)
  ·exact Or.inr (by omega)
 have nR := hs.new h hb hR hRx;have nB := hs.new h hb hB hBx;have hHR : H' R = true := hs.h1 R (by simp [h2]) nR.2.2.2.1 nR.2.2.2.2.1;have hHB : H' B = true := hs.h1 B (by simp [h2]) nB.2.2.2.1 nB.2.2.2.2.1;have s1 := ((hs.more hb h.ho ha hb2).late hc hB hHB nB.1 nB.2.1 nB.2.2.1).late (Ch.row (fun i => decide (i = R)) w5 R cs (by simp)) hR hHR nR.1 nR.2.1 nR.2.2.1;have hcc : Ch (fun i => decide (i = B) || decide (i = R)) w4 (w5.setRow R cs) := hc.trans (Ch.row (fun i => decide (i = R)) w5 R cs (by simp)) (fun i _ e => by simp only [Bool.or_eq_false_iff] at e; exact e.1) (fun i _ e => by simp only [Bool.or_eq_false_iff] at e; exact e.2);have hsee : ∀ a u, (sees (hm H' G'.kv) w4).cell? a = some u → (sees (hm H' G'.kv) (w5.setRow R cs)).cell? a = some u := sees_ch hcc (fun i _ e => by
  simp only [Bool.or_eq_true, decide_eq_true_eq] at e;rcases e with rfl | rfl
  ·have := nB.2.1;simp [hm, hHB, this]
  ·have := nR.2.1;simp [hm, hHR, this]) (fun _ _ e => e)
 subst hK;refine ⟨_, H', C', G', rfl, s1, nodeL G.t (gK G.t.n.toNat) r, fk, rfl, ⟨node_lab h.ok _ (by unfold gK I64; repeat' (first | omega | split)) _, rg_nil _, jh hsee hk⟩, node_pure h1 h13 r G.g rfl fk hF, hg, rfl, rfl, rfl⟩
theorem ndc_at {w : World} {B : Nat} {x : Lab} (h : w.heap[B]? = some (.cells (ndC x).toArray 31 (0, 0))) {j : Nat} {u : Value} (hj : (ndC x)[j]? = some u) : w.cell? ⟨B, j, none⟩ = some u := by unfold World.cell?;rw [h];simpa using hj
theorem ndc_free {w : World} {B : Nat} {x : Lab} (h : w.heap[B]? = some (.cells (ndC x).toArray 31 (0, 0))) (j : Nat) : w.frozen? ⟨B, j, none⟩ = false := by unfold World.frozen?;rw [h];simp
theorem node_any {H : Nat → Bool} {n : Nat} {w : World} {g o : Nat} {C : Array Value} {G : Gv} (h : Gi H n w g o C G) (hk : G.kf.len ≤ 60000) (hT : TabP w) (h10 : G.t.kind = 10) (hn1 : 1 ≤ G.t.n) (hn13 : G.t.n ≤ 13) :
 Calls Tryd.prog 70 #[.pointer (some ⟨g, o, none⟩)] w (GB H n w g o C G (NodeP G.g)) := by
 obtain ⟨Gt, Gsv, Gkv, Gkf, Giv, Gjf⟩ := G;simp only at hk h10 hn1 hn13;obtain ⟨sa, sq, hsv, _⟩ := id h.rg;simp only at hsv;subst hsv;obtain ⟨Gsv, hGsv⟩ : ∃ v, Value.slice sa Gt.set.length sq = v := ⟨_, rfl⟩;have HO1 := xH (show Gsv.oneCell' = true from hGsv ▸ rfl);rw [hGsv] at h ⊢;have HGI := xH h;obtain ⟨Kd, hK⟩ : ∃ K, kindT Gt = K := ⟨_, rfl⟩;have HKK := xH (show Kd = gK Gt.n.toNat from by rw [← hK]; unfold kindT; rw [if_pos h10]);have HKC := xH (fun (W : World) (q : TabP W) => (hK ▸ kindOf_any Gsv Gt W q (by omega) (fun _ => by omega) : Calls Tryd.prog 72 #[.agg (tA Gsv Gt)] W (IntB Kd W)));have H10 := xH (And.intro hn1 hn13);clear hK h10 hn1 hn13;have hb1 := qg w (.cells zC.toArray 31);have hb2 := alloc_belowT (w.alloc (.cells zC.toArray 31)) zT (tA Gsv Gt);have HB := xH (qi hb1 hb2);have HTAB := xH (tabP_below HB.out hT);have hz1 := World.size_alloc w (.cells zC.toArray 31);have HR2 := xH (show (((w.alloc (.cells zC.toArray 31)).alloc (.cells zT 53)).setRow (w.alloc (.cells zC.toArray 31)).heap.size (tA Gsv Gt)).heap[w.heap.size]? = some (.cells zC.toArray 31 (0, 0)) from (hb2.block _ (by omega)).trans (heap_alloc_new _ _));have HTA := xH (heap_alloc_new (w.alloc (.cells zC.toArray 31)) (.cells zT 53));have HT2 := xH (setRow_heap _ _ _ (tA Gsv Gt) _ _ HTA.out);have HCT := xH (show ∀ j u, (qO Gsv Gt)[j]? = some u → (w.alloc (.cells zC.toArray 31)).cell? ⟨g, o + j, none⟩ = some u from fun j u hj => trw.qf hb1 (gi_cell h (by unfold grpC; rw [List.getElem?_append_left (List.getElem?_eq_some_iff.1 hj).1]; exact hj)));have H1T := xH (show ∀ u ∈ (tA Gsv Gt).toList, u.oneCell' = true from fun u hu => by simp only [tA, List.mem_cons, List.not_mem_nil, or_false] at hu;rcases hu with rfl | rfl | rfl | rfl | rfl | rfl | rfl | rfl | rfl | rfl | rfl | rfl <;> first | rfl | exact HO1.out)
 have HSZ := xH (show (((w.alloc (.cells zC.toArray 31)).alloc (.cells zT 53)).setRow (w.alloc (.cells zC.toArray 31)).heap.size (tA Gsv Gt)).heap.size = w.heap.size + 2 by rw [tkw.setRow_size, World.size_alloc, hz1]);have HN1 := xH (show ∀ u ∈ ndC ({ lab Kd Gt.at_ with kv := nil3 } : Lab), u.oneCell' = true from fun u hu => by simp only [ndC, lab, List.mem_cons, List.not_mem_nil, or_false] at hu;rcases hu with rfl | rfl | rfl | rfl | rfl | rfl | rfl | rfl | rfl | rfl | rfl | rfl <;> rfl)
 rw [hz1] at HB HTAB HR2 HTA HT2 HSZ;clear h hb1 hb2 hz1 hT hGsv;unfold zC at HB HTAB HR2 HTA HT2 HCT HSZ;unfold zT at HB HTAB HR2 HTA HT2 HSZ;go_enter Tryd.func70, Tryd.ntmps70;go_upto_region 1 with (fail)
 go_upto_region 2 with (first
  | (refine wpList_load_tg rfl _ rfl g o rfl Gsv Gt HCT.out ?_)
  | (refine tkw.wpList_store_tok rfl rfl _ _ rfl (w.heap.size + 1) rfl _ (tA Gsv Gt) HTA.out rfl rfl H1T.out rfl ?_))
 generalize ((w.alloc _).alloc _).setRow _ _ = w2 at *;obtain ⟨R, hRR⟩ : ∃ R, w.heap.size = R := ⟨_, rfl⟩;have HRR := xH hRR;rw [hRR] at HR2 HT2 HSZ ⊢;clear hRR;clear HTA HCT;go_cut [4] (fun v4 wx => ∃ B, v4 = .pointer (some ⟨B, 0, none⟩) ∧ Hid (wx.heap[B]? = some (.cells (ndC ({ lab Kd Gt.at_ with kv := nil3 } : Lab)).toArray 31 (0, 0))) ∧ Hid (Below w2.heap.size w2 wx) ∧ w2.heap.size ≤ B)
 case first =>
  as_aux_lemma =>
   go_wp2_with fail
   refine wp_region_held_drew (S := fun w' => w'.heap[R + 1]? = some (.cells (tA Gsv Gt) 53 (0, 0))) (by kernel_rfl) HT2.out (fun hHeld => ?_);have HBD := xH (trw.qL w2);have HTAB0 := xH (tabP_below HBD.out HTAB.out);have hT2 : R + 1 < w2.drew.heap.size := (Array.getElem?_eq_some_iff.1 HT2.out).1;generalize hwd : w2.drew = wd at *;clear hwd;refine xT 0 rfl ?_ ?_ ?_;rotate_left
   ·intro w' hSw;have t0 := tk_cells hSw (j := 0) rfl;have t1 := tk_cells hSw (j := 1) rfl;have t2 := tk_cells hSw (j := 2) rfl;have t3 := tk_cells hSw (j := 3) rfl;have t4 := tk_cells hSw (j := 4) rfl;have t5 := tk_cells hSw (j := 5) rfl;have t6 := tk_cells hSw (j := 6) rfl;have t7 := tk_cells hSw (j := 7) rfl;have t8 := tk_cells hSw (j := 8) rfl;have t9 := tk_cells hSw (j := 9) rfl;have t10 := tk_cells hSw (j := 10) rfl;have t11 := tk_cells hSw (j := 11) rfl;go_simp;try rfl
   simp only [xS];refine xT 2 rfl ?_ ?_ ?_;rotate_left
   ·intro w' hSw;go_simp;try rfl
   simp only [xS];refine xT 3 rfl ?_ ?_ ?_;rotate_left
   ·intro w' hSw;have t1 := tk_cells hSw (j := 1) rfl;go_simp;try rfl
   simp only [xS];refine wpAnyH_ready (rs := [1, 5]) (by kernel_rfl) (by simp) ?_;refine AllReadyH.cons rfl (fun K hK => ?_) (AllReadyH.cons rfl (fun K hK => ?_) AllReadyH.nil)
   ·go_simp;refine (HKC.out wd HTAB0.out).mono ?_;rintro e W1 ⟨rfl, hbn⟩;have HB1 := xH hbn;refine hK.out _ _ ((hbn.block (R + 1) hT2).trans hHeld) (fun hHeld => ?_);clear hK K;try simp only [xS]
    clear hbn;refine xT 4 rfl ?_ ?_ ?_;rotate_left
    ·intro w' hSw;go_simp;try rfl
    simp only [xS];refine xD 5 rfl (fun K hK => ?_);go_simp;generalize hA : World.alloc W1 _ = W2;have hbn : Below W1.heap.size W1 W2 := hA ▸ qg _ _;have HGA := xH (show W2.heap[W1.heap.size]? = some (.cells zC.toArray 31 (0, 0)) from hA ▸ heap_alloc_new _ _);clear hA;obtain ⟨B, hB⟩ : ∃ B, W1.heap.size = B := ⟨_, rfl⟩;have HBB := xH hB;rw [hB] at HGA ⊢;have HBQ := xH (qi HB1.out hbn);have HBG := xH (show wd.heap.size ≤ B from HBB.out ▸ HB1.out.size);refine hK.out _ _ ((hbn.block (R + 1) (Array.getElem?_eq_some_iff.1 hHeld).1).trans hHeld) (fun hHeld => ?_);clear hK K;try simp only [xS]
    clear hbn hB;refine xD 6 rfl (fun K hK => ?_);refine held_store_n0 rfl rfl _ _ rfl B rfl zC.toArray ({ lab Kd Gt.at_ with kv := nil3 } : Lab) HGA.out rfl HN1.out rfl ?_;have HG6 := xH (setRow_heap _ _ _ (ndC ({ lab Kd Gt.at_ with kv := nil3 } : Lab)).toArray _ _ HGA.out);have HB6 := xH (show Below wd.heap.size wd (W2.setRow B (ndC ({ lab Kd Gt.at_ with kv := nil3 } : Lab)).toArray) from ps_row HBQ.out _ HBG.out);refine hK.out _ _ ((tkw.setRow_other _ _ _ _ (show R + 1 ≠ B by have := HBG.out; omega)).trans hHeld) (fun hHeld => ?_);clear hK K;try simp only []
    refine wpAnyH_done (by kernel_rfl) ?_ _;go_wp2_with fail
    go_meet
    exact ⟨_, rfl, HG6, xH (HBD.out.trans (HB6.out.mono (by have := HBD.out.size; omega))), by have := HBD.out.size; have := HBG.out; omega⟩
   ·go_simp;generalize hA : World.alloc wd _ = W1;have hbn : Below wd.heap.size wd W1 := hA ▸ qg _ _;have HGA := xH (show W1.heap[wd.heap.size]? = some (.cells zC.toArray 31 (0, 0)) from hA ▸ heap_alloc_new _ _);clear hA;obtain ⟨B, hB⟩ : ∃ B, wd.heap.size = B := ⟨_, rfl⟩;have HBB := xH hB;rw [hB] at HGA ⊢;have HB1 := xH hbn;have HTAB1 := xH (tabP_below hbn HTAB0.out);have HBG := xH (show wd.heap.size ≤ B from HBB.out ▸ Nat.le_refl _);refine hK.out _ _ ((hbn.block (R + 1) hT2).trans hHeld) (fun hHeld => ?_);clear hK K;try simp only [xS]
    clear hbn hB;refine xD 1 rfl (fun K hK => ?_);go_simp;refine (HKC.out W1 HTAB1.out).mono ?_;rintro e W2 ⟨rfl, hbn⟩;have HBQ := xH (qi HB1.out hbn);have HGA := xH ((hbn.block B (Array.getElem?_eq_some_iff.1 HGA.out).1).trans HGA.out);refine hK.out _ _ ((hbn.block (R + 1) (Array.getElem?_eq_some_iff.1 hHeld).1).trans hHeld) (fun hHeld => ?_);clear hK K;try simp only [xS]
    clear hbn;refine xT 4 rfl ?_ ?_ ?_;rotate_left
    ·intro w' hSw;go_simp;try rfl
    simp only [xS];refine xD 6 rfl (fun K hK => ?_);refine held_store_n0 rfl rfl _ _ rfl B rfl zC.toArray ({ lab Kd Gt.at_ with kv := nil3 } : Lab) HGA.out rfl HN1.out rfl ?_;have HG6 := xH (setRow_heap _ _ _ (ndC ({ lab Kd Gt.at_ with kv := nil3 } : Lab)).toArray _ _ HGA.out);have HB6 := xH (show Below wd.heap.size wd (W2.setRow B (ndC ({ lab Kd Gt.at_ with kv := nil3 } : Lab)).toArray) from ps_row HBQ.out _ HBG.out);refine hK.out _ _ ((tkw.setRow_other _ _ _ _ (show R + 1 ≠ B by have := HBG.out; omega)).trans hHeld) (fun hHeld => ?_);clear hK K;try simp only []
    refine wpAnyH_done (by kernel_rfl) ?_ _;go_wp2_with fail
    go_meet
    exact ⟨_, rfl, HG6, xH (HBD.out.trans (HB6.out.mono (by have := HBD.out.size; omega))), by have := HBD.out.size; have := HBG.out; omega⟩
 case rest =>
  obtain ⟨B, rfl, HG4, HB4, hB4⟩ := hcut;have HBW := xH (qi HB.out HB4.out);have hBx : B < wc.heap.size := (Array.getElem?_eq_some_iff.1 HG4.out).1;have hRx : R + 2 ≤ wc.heap.size := by have := HB4.out.size; have := HSZ.out; omega
  have HR4 := xH ((HB4.out.block R (by have := HSZ.out; omega)).trans HR2.out);have HT4 := xH ((HB4.out.block (R + 1) (by have := HSZ.out; omega)).trans HT2.out);have hRB : R + 2 ≤ B := by have := HSZ.out; omega
  have HG1 := xH (HGI.out.more (H1 := h2 H R B) HBW.out (fun i e => by simp [h2, e]) (fun i e => by
   have := HRR.out;simp only [h2, Bool.or_eq_true, decide_eq_true_eq] at e;rcases e with (e | e) | e
   ·exact Or.inl e
   ·exact Or.inr (by omega)
   ·exact Or.inr (by omega)))
  have e0 : wc.cell? ⟨B, 0, none⟩ = some (.int .i64 Kd) := ndc_at HG4.out rfl;clear HB4 HR2 HT2 HSZ HB hB4 HTAB HKC HN1 H1T;go_wp2_with fail
  refine (parts_any Kd HG1.out hk).mono ?_;rintro e w4 ⟨r, H', C', G', rfl, hs, hg, fk, hkk, hst⟩;have nB := hs.new HGI.out HBW.out (R := B) (by have := HRR.out; omega) hBx;have nR := hs.new HGI.out HBW.out (R := R) (by have := HRR.out; omega) (by omega);have nT := hs.new HGI.out HBW.out (R := R + 1) (by have := HRR.out; omega) (by omega);have HG5 := xH (nB.2.2.2.2.2.trans HG4.out);have HR5 := xH (nR.2.2.2.2.2.trans HR4.out);have HT5 := xH (nT.2.2.2.2.2.trans HT4.out);obtain ⟨ra, rc, hr, _⟩ := id hkk;subst hr;have HDN := xH (show ∀ (w5 : World) (cs : Array Value), Ch (fun i => decide (i = B)) w4 w5 → GB H n w g o C ⟨Gt, Gsv, Gkv, Gkf, Giv, Gjf⟩ (NodeP (Gv.g ⟨Gt, Gsv, Gkv, Gkf, Giv, Gjf⟩)) (.returned (ndV (nodeL Gt Kd (.slice ra fk.len rc)))) (w5.setRow R cs) from fun w5 cs hc =>
   node_done HGI.out hs HBW.out rfl (by have := HRR.out; omega) (by omega) (by have := HRR.out; omega) hBx hkk hg hst HKK.out H10.out.1 H10.out.2 hc (by omega) cs)
  clear hs hg hkk hst nB nR nT e0 HG1 HG4 HR4 HT4 HBW HGI HKK H10 HRR;have f11 := ndc_free HG5.out 11;have c11 : w4.cell? ⟨B, 11, none⟩ = some nil3 := ndc_at HG5.out rfl;dsimp only;go_upto_region 4 with (fail)
  clear f11 c11;have HC5 := xH (Ch.cell (fun i => decide (i = B)) w4 B 11 (.slice ra fk.len rc) (by simp));have HG6 := xH (show (w4.setCell ⟨B, 11, none⟩ (.slice ra fk.len rc)).heap[B]? = some (.cells (ndC ({ lab Kd Gt.at_ with kv := .slice ra fk.len rc } : Lab)).toArray 31 (0, 0)) from tkw.heap_set (o := 11) (v := .slice ra fk.len rc) HG5.out);have HR6 := xH ((rpw.qx 11 (.slice ra fk.len rc) (show R ≠ B by omega)).trans HR5.out);have HT6 := xH ((rpw.qx 11 (.slice ra fk.len rc) (show R + 1 ≠ B by omega)).trans HT5.out);clear HG5 HR5 HT5;generalize w4.setCell ⟨B, 11, none⟩ (.slice ra fk.len rc) = w5 at *;obtain ⟨r, hr⟩ : ∃ r, Value.slice ra fk.len rc = r := ⟨_, rfl⟩;have HRO := xH (show r.oneCell' = true from hr ▸ rfl);rw [hr] at HG6 HDN;clear hr;have e0 : w5.cell? ⟨B, 0, none⟩ = some (.int .i64 Kd) := ndc_at HG6.out rfl;by_cases k14 : Kd = 14
  ·subst k14;have t9 : w5.cell? ⟨R + 1, 9, none⟩ = some (.string Gt.name) := tk_cells HT6.out rfl;have f8 := ndc_free HG6.out 8;have d8 : w5.cell? ⟨B, 8, none⟩ = some (.string ⟨#[]⟩) := ndc_at HG6.out rfl;have HG7 := xH (show (w5.setCell ⟨B, 8, none⟩ (.string Gt.name)).heap[B]? = some (.cells (ndC (nodeL Gt 14 r)).toArray 31 (0, 0)) from by
    have h := HG6.out
    replace h := tkw.heap_set (o := 8) (v := .string Gt.name) h
    simpa [nodeL, lab, ndC] using h)
   have HR7 := xH (show (w5.setCell ⟨B, 8, none⟩ (.string Gt.name)).heap[R]? = some (.cells _ 31 (0, 0)) from (rpw.qx 8 (.string Gt.name) (show R ≠ B by omega)).trans (HR6.out));have HC7 := xH (show Ch (fun i => decide (i = B)) w4 (w5.setCell ⟨B, 8, none⟩ (.string Gt.name)) from (HC5.out).trans (Ch.cell (fun i => decide (i = B)) _ B 8 (.string Gt.name) (by simp)) (fun _ _ e => e) (fun _ _ e => e));go_upto_region 13 with (fail)
   clear e0 t9 f8 d8;clear HG6 HR6 HT6 HC5;generalize (w5.setCell ⟨B, 8, none⟩ (.string Gt.name)) = w6 at *;have HO1 := xH (show ∀ u ∈ ndC (nodeL Gt 14 r), u.oneCell' = true from fun u hu => by simp only [ndC, nodeL, lab, List.mem_cons, List.not_mem_nil, or_false] at hu;rcases hu with rfl | rfl | rfl | rfl | rfl | rfl | rfl | rfl | rfl | rfl | rfl | rfl <;> first | rfl | exact HRO.out)
   go_wp2_with (first
    | (refine ql rfl _ rfl B rfl (nodeL Gt 14 r) HG7.out ?_)
    | (refine qh rfl rfl _ _ rfl R rfl _ (nodeL Gt 14 r) HR7.out rfl HO1.out rfl ?_))
   refine bodyPost_ret (qA rfl _ _ R (nodeL Gt 14 r) rfl (setRow_heap _ _ _ _ _ _ HR7.out)) rfl ?_;exact HDN.out _ _ HC7.out
  by_cases k15 : Kd = 15
  ·subst k15;have t10 : w5.cell? ⟨R + 1, 10, none⟩ = some (.int .i64 Gt.on) := tk_cells HT6.out rfl;have f9 := ndc_free HG6.out 9;have d9 : w5.cell? ⟨B, 9, none⟩ = some (.int .i64 0) := ndc_at HG6.out rfl;have t11 : w5.cell? ⟨R + 1, 11, none⟩ = some (.int .i64 Gt.off) := tk_cells HT6.out rfl;have f10 := ndc_free HG6.out 10;have d10 : w5.cell? ⟨B, 10, none⟩ = some (.int .i64 0) := ndc_at HG6.out rfl;have HG7 := xH (show ((w5.setCell ⟨B, 9, none⟩ (.int .i64 Gt.on)).setCell ⟨B, 10, none⟩ (.int .i64 Gt.off)).drew.heap[B]? = some (.cells (ndC (nodeL Gt 15 r)).toArray 31 (0, 0)) from by
    have h := HG6.out;show ((w5.setCell ⟨B, 9, none⟩ (.int .i64 Gt.on)).setCell ⟨B, 10, none⟩ (.int .i64 Gt.off)).heap[B]? = _
    replace h := tkw.heap_set (o := 9) (v := .int .i64 Gt.on) h
    replace h := tkw.heap_set (o := 10) (v := .int .i64 Gt.off) h
    simpa [nodeL, lab, ndC] using h)
   have HR7 := xH (show ((w5.setCell ⟨B, 9, none⟩ (.int .i64 Gt.on)).setCell ⟨B, 10, none⟩ (.int .i64 Gt.off)).drew.heap[R]? = some (.cells _ 31 (0, 0)) from (rpw.qx 10 (.int .i64 Gt.off) (show R ≠ B by omega)).trans ((rpw.qx 9 (.int .i64 Gt.on) (show R ≠ B by omega)).trans (HR6.out)));have HC7 := xH (show Ch (fun i => decide (i = B)) w4 ((w5.setCell ⟨B, 9, none⟩ (.int .i64 Gt.on)).setCell ⟨B, 10, none⟩ (.int .i64 Gt.off)).drew from (((HC5.out).trans (Ch.cell (fun i => decide (i = B)) _ B 9 (.int .i64 Gt.on) (by simp)) (fun _ _ e => e) (fun _ _ e => e)).trans (Ch.cell (fun i => decide (i = B)) _ B 10 (.int .i64 Gt.off) (by simp)) (fun _ _ e => e) (fun _ _ e => e)).trans (Ch.of_below (trw.qL _)) (fun _ _ e => e) (fun _ _ e => e));go_upto_region 8 with (fail)
   try clear e0
   go_region
   clear t10 f9 d9 t11 f10 d10;clear HG6 HR6 HT6 HC5;generalize ((w5.setCell ⟨B, 9, none⟩ (.int .i64 Gt.on)).setCell ⟨B, 10, none⟩ (.int .i64 Gt.off)).drew = w6 at *;have HO1 := xH (show ∀ u ∈ ndC (nodeL Gt 15 r), u.oneCell' = true from fun u hu => by simp only [ndC, nodeL, lab, List.mem_cons, List.not_mem_nil, or_false] at hu;rcases hu with rfl | rfl | rfl | rfl | rfl | rfl | rfl | rfl | rfl | rfl | rfl | rfl <;> first | rfl | exact HRO.out)
   go_wp2_with (first
    | (refine ql rfl _ rfl B rfl (nodeL Gt 15 r) HG7.out ?_)
    | (refine qh rfl rfl _ _ rfl R rfl _ (nodeL Gt 15 r) HR7.out rfl HO1.out rfl ?_))
   refine bodyPost_ret (qA rfl _ _ R (nodeL Gt 15 r) rfl (setRow_heap _ _ _ _ _ _ HR7.out)) rfl ?_;exact HDN.out _ _ HC7.out
  by_cases k18 : Kd = 18
  ·subst k18;have t6 : w5.cell? ⟨R + 1, 6, none⟩ = some (.int .i64 Gt.n) := tk_cells HT6.out rfl;have f5 := ndc_free HG6.out 5;have d5 : w5.cell? ⟨B, 5, none⟩ = some (.int .i64 0) := ndc_at HG6.out rfl;have HG7 := xH (show (w5.setCell ⟨B, 5, none⟩ (.int .i64 Gt.n)).heap[B]? = some (.cells (ndC (nodeL Gt 18 r)).toArray 31 (0, 0)) from by
    have h := HG6.out
    replace h := tkw.heap_set (o := 5) (v := .int .i64 Gt.n) h
    simpa [nodeL, lab, ndC] using h)
   have HR7 := xH (show (w5.setCell ⟨B, 5, none⟩ (.int .i64 Gt.n)).heap[R]? = some (.cells _ 31 (0, 0)) from (rpw.qx 5 (.int .i64 Gt.n) (show R ≠ B by omega)).trans (HR6.out));have HC7 := xH (show Ch (fun i => decide (i = B)) w4 (w5.setCell ⟨B, 5, none⟩ (.int .i64 Gt.n)) from (HC5.out).trans (Ch.cell (fun i => decide (i = B)) _ B 5 (.int .i64 Gt.n) (by simp)) (fun _ _ e => e) (fun _ _ e => e));go_upto_region 13 with (fail)
   clear e0 t6 f5 d5;clear HG6 HR6 HT6 HC5;generalize (w5.setCell ⟨B, 5, none⟩ (.int .i64 Gt.n)) = w6 at *;have HO1 := xH (show ∀ u ∈ ndC (nodeL Gt 18 r), u.oneCell' = true from fun u hu => by simp only [ndC, nodeL, lab, List.mem_cons, List.not_mem_nil, or_false] at hu;rcases hu with rfl | rfl | rfl | rfl | rfl | rfl | rfl | rfl | rfl | rfl | rfl | rfl <;> first | rfl | exact HRO.out)
   go_wp2_with (first
    | (refine ql rfl _ rfl B rfl (nodeL Gt 18 r) HG7.out ?_)
    | (refine qh rfl rfl _ _ rfl R rfl _ (nodeL Gt 18 r) HR7.out rfl HO1.out rfl ?_))
   refine bodyPost_ret (qA rfl _ _ R (nodeL Gt 18 r) rfl (setRow_heap _ _ _ _ _ _ HR7.out)) rfl ?_;exact HDN.out _ _ HC7.out
  by_cases k19 : Kd = 19
  ·subst k19;have t6 : w5.cell? ⟨R + 1, 6, none⟩ = some (.int .i64 Gt.n) := tk_cells HT6.out rfl;have f5 := ndc_free HG6.out 5;have d5 : w5.cell? ⟨B, 5, none⟩ = some (.int .i64 0) := ndc_at HG6.out rfl;have t7 : w5.cell? ⟨R + 1, 7, none⟩ = some (.int .i64 Gt.m) := tk_cells HT6.out rfl;have f6 := ndc_free HG6.out 6;have d6 : w5.cell? ⟨B, 6, none⟩ = some (.int .i64 0) := ndc_at HG6.out rfl;have t8 : w5.cell? ⟨R + 1, 8, none⟩ = some (.int .i64 Gt.mode) := tk_cells HT6.out rfl;have f7 := ndc_free HG6.out 7;have d7 : w5.cell? ⟨B, 7, none⟩ = some (.int .i64 0) := ndc_at HG6.out rfl;have t9 : w5.cell? ⟨R + 1, 9, none⟩ = some (.string Gt.name) := tk_cells HT6.out rfl;have f8 := ndc_free HG6.out 8;have d8 : w5.cell? ⟨B, 8, none⟩ = some (.string ⟨#[]⟩) := ndc_at HG6.out rfl;have HG7 := xH (show ((((w5.setCell ⟨B, 5, none⟩ (.int .i64 Gt.n)).setCell ⟨B, 6, none⟩ (.int .i64 Gt.m)).setCell ⟨B, 7, none⟩ (.int .i64 Gt.mode)).setCell ⟨B, 8, none⟩ (.string Gt.name)).drew.heap[B]? = some (.cells (ndC (nodeL Gt 19 r)).toArray 31 (0, 0)) from by
    have h := HG6.out;show ((((w5.setCell ⟨B, 5, none⟩ (.int .i64 Gt.n)).setCell ⟨B, 6, none⟩ (.int .i64 Gt.m)).setCell ⟨B, 7, none⟩ (.int .i64 Gt.mode)).setCell ⟨B, 8, none⟩ (.string Gt.name)).heap[B]? = _
    replace h := tkw.heap_set (o := 5) (v := .int .i64 Gt.n) h
    replace h := tkw.heap_set (o := 6) (v := .int .i64 Gt.m) h
    replace h := tkw.heap_set (o := 7) (v := .int .i64 Gt.mode) h
    replace h := tkw.heap_set (o := 8) (v := .string Gt.name) h
    simpa [nodeL, lab, ndC] using h)
   have HR7 := xH (show ((((w5.setCell ⟨B, 5, none⟩ (.int .i64 Gt.n)).setCell ⟨B, 6, none⟩ (.int .i64 Gt.m)).setCell ⟨B, 7, none⟩ (.int .i64 Gt.mode)).setCell ⟨B, 8, none⟩ (.string Gt.name)).drew.heap[R]? = some (.cells _ 31 (0, 0)) from (rpw.qx 8 (.string Gt.name) (show R ≠ B by omega)).trans ((rpw.qx 7 (.int .i64 Gt.mode) (show R ≠ B by omega)).trans ((rpw.qx 6 (.int .i64 Gt.m) (show R ≠ B by omega)).trans ((rpw.qx 5 (.int .i64 Gt.n) (show R ≠ B by omega)).trans (HR6.out)))));have HC7 := xH (show Ch (fun i => decide (i = B)) w4 ((((w5.setCell ⟨B, 5, none⟩ (.int .i64 Gt.n)).setCell ⟨B, 6, none⟩ (.int .i64 Gt.m)).setCell ⟨B, 7, none⟩ (.int .i64 Gt.mode)).setCell ⟨B, 8, none⟩ (.string Gt.name)).drew from (((((HC5.out).trans (Ch.cell (fun i => decide (i = B)) _ B 5 (.int .i64 Gt.n) (by simp)) (fun _ _ e => e) (fun _ _ e => e)).trans (Ch.cell (fun i => decide (i = B)) _ B 6 (.int .i64 Gt.m) (by simp)) (fun _ _ e => e) (fun _ _ e => e)).trans (Ch.cell (fun i => decide (i = B)) _ B 7 (.int .i64 Gt.mode) (by simp)) (fun _ _ e => e) (fun _ _ e => e)).trans (Ch.cell (fun i => decide (i = B)) _ B 8 (.string Gt.name) (by simp)) (fun _ _ e => e) (fun _ _ e => e)).trans (Ch.of_below (trw.qL _)) (fun _ _ e => e) (fun _ _ e => e));go_upto_region 12 with (fail)
   try clear e0
   go_region
   clear t6 f5 d5 t7 f6 d6 t8 f7 d7 t9 f8 d8;clear HG6 HR6 HT6 HC5;generalize ((((w5.setCell ⟨B, 5, none⟩ (.int .i64 Gt.n)).setCell ⟨B, 6, none⟩ (.int .i64 Gt.m)).setCell ⟨B, 7, none⟩ (.int .i64 Gt.mode)).setCell ⟨B, 8, none⟩ (.string Gt.name)).drew = w6 at *;have HO1 := xH (show ∀ u ∈ ndC (nodeL Gt 19 r), u.oneCell' = true from fun u hu => by simp only [ndC, nodeL, lab, List.mem_cons, List.not_mem_nil, or_false] at hu;rcases hu with rfl | rfl | rfl | rfl | rfl | rfl | rfl | rfl | rfl | rfl | rfl | rfl <;> first | rfl | exact HRO.out)
   go_wp2_with (first
    | (refine ql rfl _ rfl B rfl (nodeL Gt 19 r) HG7.out ?_)
    | (refine qh rfl rfl _ _ rfl R rfl _ (nodeL Gt 19 r) HR7.out rfl HO1.out rfl ?_))
   refine bodyPost_ret (qA rfl _ _ R (nodeL Gt 19 r) rfl (setRow_heap _ _ _ _ _ _ HR7.out)) rfl ?_;exact HDN.out _ _ HC7.out
  have b14 : (Kd == 14) = false := by simp [k14]
  have b15 : (Kd == 15) = false := by simp [k15]
  have b18 : (Kd == 18) = false := by simp [k18]
  have b19 : (Kd == 19) = false := by simp [k19]
  have HG7 := xH (show w5.heap[B]? = some (.cells (ndC (nodeL Gt Kd r)).toArray 31 (0, 0)) from by have h := HG6.out;simpa [nodeL, lab, ndC, k14, k15, k18, k19] using h)
  have HR7 := xH (show w5.heap[R]? = some (.cells _ 31 (0, 0)) from HR6.out);have HC7 := xH (show Ch (fun i => decide (i = B)) w4 w5 from HC5.out);clear k14 k15 k18 k19;go_upto_region 13 with (fail)
  clear e0 ;have HO1 := xH (show ∀ u ∈ ndC (nodeL Gt Kd r), u.oneCell' = true from fun u hu => by simp only [ndC, nodeL, lab, List.mem_cons, List.not_mem_nil, or_false] at hu;rcases hu with rfl | rfl | rfl | rfl | rfl | rfl | rfl | rfl | rfl | rfl | rfl | rfl <;> first | rfl | exact HRO.out)
  go_wp2_with (first
   | (refine ql rfl _ rfl B rfl (nodeL Gt Kd r) HG7.out ?_)
   | (refine qh rfl rfl _ _ rfl R rfl _ (nodeL Gt Kd r) HR7.out rfl HO1.out rfl ?_))
  refine bodyPost_ret (qA rfl _ _ R (nodeL Gt Kd r) rfl (setRow_heap _ _ _ _ _ _ HR7.out)) rfl ?_;exact HDN.out _ _ HC7.out
end Go.Proofs.YtnpcombfgdbhkaaDoor.psw
end
section
namespace Go.Proofs.YtnpcombfgdbhkaaDoor.psw
open sq
open Go.Sort Go Go.RowKit Go.Maps tkp trp trw rpp psp
open tkw (qO)
open setw (rcs OwnR Wf ownR_slice)
open setp (Rg)
open rpw (sees jB qU fC jP FSub vw jQ app_sub jH jm jd qp vW oneR zk jV lab_ok rg_nil qh qA jU ql)
theorem rcs_len : ∀ l : List Rg, (rcs l).length = l.length * 2
 | [] => rfl
 | r :: l => by have e : rcs (r :: l) = [.int .i64 r.1, .int .i64 r.2] ++ rcs l := rfl;rw [e, List.length_append, rcs_len l];simp only [List.length_cons, List.length_nil];omega
theorem rg_wf {w : World} {v : Value} {l : List Rg} (h : RgAt w v l) : Wf l := fun r hr => by
 obtain ⟨a, cap, _, _, _, h3 | ⟨b, o, _, hc⟩⟩ := h
 ·subst h3; cases hr
 ·obtain ⟨i, hi, rfl⟩ := List.getElem_of_mem hr;exact (hc i _ (List.getElem?_eq_getElem hi)).2.2
theorem infoRg : (Tryd.prog.info? 75).map (fun i => (i.zero, i.size, i.bytes)) = some (some (.agg #[.int .i64 0, .int .i64 0]), 2, 16) := by kernel_rfl
theorem rcs_at : ∀ (l : List Rg) (i : Nat) (u : Value), (rcs l)[i]? = some u → ∃ r, l[i / 2]? = some r ∧ (i % 2 = 0 ∧ u = .int .i64 r.1 ∨ i % 2 = 1 ∧ u = .int .i64 r.2)
 | [], i, u, h => by simp [rcs] at h
 | r :: l, 0, u, h => by refine ⟨r, rfl, Or.inl ⟨rfl, ?_⟩⟩;simpa [rcs] using h.symm
 | r :: l, 1, u, h => by refine ⟨r, rfl, Or.inr ⟨rfl, ?_⟩⟩;simpa [rcs] using h.symm
 | r :: l, i + 2, u, h => by obtain ⟨q, h1, h2⟩ := rcs_at l i u (by simpa [rcs] using h);refine ⟨q, ?_, by rw [show (i + 2) % 2 = i % 2 by omega]; exact h2⟩;rw [show (i + 2) / 2 = i / 2 + 1 by omega];simpa using h1
theorem rcs_one (l : List Rg) : ∀ u ∈ rcs l, u.oneCell' = true := fun u hu => by
 unfold rcs at hu;simp only [List.mem_flatMap, List.mem_cons, List.not_mem_nil, or_false] at hu;obtain ⟨r, _, rfl | rfl⟩ := hu <;> rfl
theorem own_rg {h : Nat → Bool} {n : Nat} {w : World} {v : Value} {S : List Rg} (H : OwnR w n v S) (hS : Wf S) (ho : ∀ i, h i = true → i < n) : RgAt (sees h w) v S := by
 by_cases hl : S = []
 ·subst hl;exact ⟨none, 0, H.2 rfl, by simp, by decide, Or.inl rfl⟩
 ·obtain ⟨g, cap, hv, hg, h1, h2, hc⟩ := ownR_slice H hl;refine ⟨_, cap, hv, h1, h2, Or.inr ⟨g, 0, rfl, fun i r hr => ?_⟩⟩;have hi := (List.getElem?_eq_some_iff.1 hr).1;have he : S[i] = r := (List.getElem?_eq_some_iff.1 hr).2;have hh : h g = false := by
   cases e : h g with
   | false => rfl
   | true => have := ho g e; omega
  have hw := hS r (he ▸ List.getElem_mem hi);refine ⟨jB.2 ⟨hh, ?_⟩, jB.2 ⟨hh, ?_⟩, hw.1, hw.2⟩
  ·have := (hc i hi).1; rw [he] at this; simpa using this
  ·have := (hc i hi).2; rw [he] at this; simpa using this
def SetN (w w' : World) (v : Value) (S : List Rg) : Prop := (∃ a c, v = .slice a S.length c) ∧ ∀ H : Nat → Bool, (∀ i, H i = true → i < w.heap.size) → RgAt (sees H w') v S
theorem held_append_cp {o : Oper} {a : Act} {w : World} {K : Act → World → Prop} {Q : Exit → Act → World → Prop} {ys : Nat → Option Bool} (hgd : o.guard = none) (s x : Operand)
 (ho : o.op = .call { callee := .builtin .append, args := #[s, x], argTypes := #[28, 28] }) (hs : a.eval s = .slice none 0 0) {vx : Value} {S : List Rg} (hx : a.eval x = vx) (hr : RgAt w vx S) (hl : S.length ≤ 1000000)
 (h : ∀ v' w', SetN w w' v' S → Below w.heap.size w w' → K (a.put o.dst v') w') : if Region.wanted o ys = true then Oper.wp Tryd.prog o a w K Q else K (a.put o.dst undef) w := by
 rw [if_pos (by unfold Region.wanted; rw [hgd])];obtain ⟨i0, hi, hz0, hz1, hz2⟩ := info_parts infoRg;have hwf := rg_wf hr;obtain ⟨ga, gc, rfl, hgc1, hgc2, h3⟩ := hr;by_cases h0 : S = []
 ·subst h0;have hrun := setw.run_append_zero (P := Tryd.prog) (w := w) 28 o.type i0 Tryd.underlying28 hi (World.ownsRow_nil w w.heap.size 75 2) ga gc;unfold Oper.wp;simp [execOp, ho, resolve, invoke, builtin, hs, hx, hrun, Result.andThen];exact h _ w ⟨⟨none, 0, rfl⟩, fun H _ => rg_nil _⟩ (Below.refl _ _)
 ·obtain ⟨b, go, rfl, hc⟩ := h3.resolve_left h0;have hown := World.ownsRow_nil w w.heap.size 75 2;obtain ⟨v', w', hr, h2, h3, _, h5⟩ := run_append_own_at (P := Tryd.prog) w w.heap.size 28 o.type 75 i0 _ 2 16 Tryd.underlying28 hi hz0 hz1 hz2 rfl (by decide) (.slice none 0 0) 0 [] hown ⟨b, go, none⟩ S.length gc (rcs S) (rcs_len S)
   (fun j u hj => by
    rw [trw.add_plain];obtain ⟨r, e1, e2⟩ := rcs_at S j u hj;obtain ⟨q1, q2, _, _⟩ := hc (j / 2) r e1;rcases e2 with ⟨e, rfl⟩ | ⟨e, rfl⟩
    ·rw [show go + j = go + j / 2 * 2 by omega]; exact q1
    ·rw [show go + j = go + j / 2 * 2 + 1 by omega]; exact q2) (rcs_one S) (by unfold maxLen; omega) (by omega) (Nat.le_refl _)
  unfold Oper.wp execOp;simp only [ho, resolve, invoke, builtin, Sem.run_bind, Sem.run_pure, Result.andThen_ok, List.map_toArray, List.map_cons, List.map_nil, hs, hx, hr];have hO : OwnR w' w.heap.size v' S := ⟨by simpa using h2, fun e => absurd e h0⟩;have hk := h v' w' ⟨by
   obtain ⟨q, c, e, _⟩ := ownR_slice hO h0;exact ⟨_, _, e⟩, fun H hH => own_rg hO hwf hH⟩ (Below.grown (Below.refl _ w) h3 (Nat.le_refl _) (fun k hk => (by cases hk)))
  simpa [Oper.upon] using hk
theorem SetN.below {w w' w2 : World} {v : Value} {S : List Rg} (h : SetN w w' v S) (hb : Below w'.heap.size w' w2) : SetN w w2 v S := ⟨h.1, fun H hH => rgAt_mono (qU fun _ _ e hc => ⟨e, trw.qf hb hc⟩) (h.2 H hH)⟩
theorem SetN.from {w w1 w' : World} {v : Value} {S : List Rg} (h : SetN w1 w' v S) (hb : w.heap.size ≤ w1.heap.size) : SetN w w' v S := ⟨h.1, fun H hH => h.2 H fun i e => Nat.lt_of_lt_of_le (hH i e) hb⟩
def EleP (t : Tk) (w : World) (e : Ending) (w' : World) : Prop := ∃ sv, e = .returned (ndV (leafL t sv)) ∧ (∀ H : Nat → Bool, (∀ i, H i = true → i < w.heap.size) → NdAt (sees H w') (leafL t sv, .nil)) ∧ Below w.heap.size w w'
theorem ele_nd {t : Tk} {w w' w2 : World} {sv : Value} (h : SetN w w' sv t.set) (ht : TkO t) (hs : ∀ H : Nat → Bool, (∀ i, H i = true → i < w.heap.size) → ∀ a u, (sees H w').cell? a = some u → (sees H w2).cell? a = some u) : ∀ H : Nat → Bool, (∀ i, H i = true → i < w.heap.size) → NdAt (sees H w2) (leafL t sv, .nil) := fun H hH => by
 obtain ⟨a1, a2, a3, a4, a5, a6, a7, a8⟩ := ht;have z : I64 0 := by unfold I64; omega
 refine ⟨⟨?_, by show I64 (t.at_ : Int); unfold I64; omega, a3, a4, a5, z, a7, a8⟩, rgAt_mono (hs H hH) (h.2 H hH), none, 0, rfl, by simp [F.len], by decide, Or.inl rfl⟩;show I64 (leafK t.kind);unfold leafK I64
 repeat' (first | omega | split)
theorem ele_any (tsv : Value) (t : Tk) (w : World) (hT : TabP w) (hr : RgAt w tsv t.set) (ht : TkO t) (hl : t.set.length ≤ 1000000) (h1 : 1 ≤ t.kind ∧ t.kind ≤ 15) (h2 : ¬ (7 ≤ t.kind ∧ t.kind ≤ 10)) : Calls Tryd.prog 44 #[.agg (tA tsv t)] w (EleP t w) := by
 have HLK := xH (show kindT t = leafK t.kind from by obtain ⟨k, hk⟩ := Int.eq_ofNat_of_zero_le (show 0 ≤ t.kind by omega);unfold kindT;rw [if_neg (by omega), hk];exact eK_leaf (by omega) (by omega) (by omega))
 obtain ⟨Kd, hK⟩ : ∃ K, kindT t = K := ⟨_, rfl⟩;rw [hK] at HLK;have HKC := xH (fun (W : World) (q : TabP W) => (hK ▸ kindOf_any tsv t W q h1 (fun e => by omega) : Calls Tryd.prog 72 #[.agg (tA tsv t)] W (IntB Kd W)));have HTO := xH ht;have HLS := xH hl;have hb1 := qg w (.cells (tA tsv t) 53);have hb2 := qg (w.alloc (.cells (tA tsv t) 53)) (.cells zC.toArray 31);have HB := xH (qi hb1 hb2);have HTAB := xH (tabP_below HB.out hT);have hz1 := World.size_alloc w (.cells (tA tsv t) 53);have HT1 := xH (show ((w.alloc (.cells (tA tsv t) 53)).alloc (.cells zC.toArray 31)).heap[w.heap.size]? = some (.cells (tA tsv t) 53 (0, 0)) from (hb2.block _ (by omega)).trans (heap_alloc_new _ _));have HR1 := xH (heap_alloc_new (w.alloc (.cells (tA tsv t) 53)) (.cells zC.toArray 31));rw [hz1] at HR1;have hsz : ((w.alloc (.cells (tA tsv t) 53)).alloc (.cells zC.toArray 31)).heap.size = w.heap.size + 2 := by rw [World.size_alloc, hz1]
 have HRG := xH (rgAt_mono (fun _ _ hc => trw.qf HB.out hc) hr);clear hb1 hb2 hz1 hT hr ht hl h1 h2 hK;unfold tA zC at HB HTAB HT1 HR1 hsz HRG;unfold tA at HKC ⊢;go_enter Tryd.func44, Tryd.ntmps44;go_upto_region 1 with (fail)
 generalize (w.alloc _).alloc _ = w1 at *;obtain ⟨N, hN⟩ : ∃ N, w.heap.size = N := ⟨_, rfl⟩;have HN := xH hN;rw [hN] at HT1 HR1 hsz ⊢;clear hN;obtain ⟨R, hR⟩ : ∃ R, N + 1 = R := ⟨_, rfl⟩;rw [hR] at HR1 ⊢;have hRd : R < w1.drew.heap.size := by show R < w1.heap.size; omega
 have HEN := xH (show ∀ (W : World) (sa : Option Addr) (sc : Nat), Below w1.drew.heap.size w1.drew W → SetN w1.drew W (.slice sa t.set.length sc) t.set → EleP t w (.returned (ndV (leafL t (.slice sa t.set.length sc)))) (W.setRow R (ndC (leafL t (.slice sa t.set.length sc))).toArray) from fun W sa sc hb hs => by
  refine ⟨_, rfl, ?_, ps_row (HB.out.trans (((trw.qL w1).mono HB.out.size).trans (hb.mono (show w.heap.size ≤ w1.heap.size from HB.out.size)))) _ (by have := HN.out; omega)⟩;intro H hH;have hHR : ∀ i, h1 H R i = true → i < w1.drew.heap.size := fun i e => by
   simp only [h1, Bool.or_eq_true, decide_eq_true_eq] at e;rcases e with e | e
   ·have := hH i e;have := HB.out.size;show i < w1.heap.size;omega
   ·omega
  have hn := ele_nd (w2 := W) hs HTO.out (fun _ _ _ _ e => e) (h1 H R) hHR;refine qY (qU fun a u e hc => ?_) hn;simp only [h1, Bool.or_eq_false_iff, decide_eq_false_iff_not] at e;exact ⟨e.1, (World.cell?_of_block (tkw.setRow_other _ _ _ _ e.2)).trans hc⟩)
 refine wp_region_held_drew (S := fun w' => w'.heap[N]? = some (.cells (tA tsv t) 53 (0, 0))) (by kernel_rfl) HT1.out (fun hHeld => ?_);have HBD := xH (trw.qL w1);have HTAB0 := xH (tabP_below HBD.out HTAB.out);have HRG0 := xH (rgAt_mono (fun _ _ hc => trw.qf HBD.out hc) HRG.out);have HR1 := xH (show w1.drew.heap[R]? = _ from HR1.out);generalize hwd : w1.drew = wd at *;clear hwd;refine xT 0 rfl ?_ ?_ ?_;rotate_left
 ·intro w' hSw;have t0 := tk_cells hSw (j := 0) rfl;have t1 := tk_cells hSw (j := 1) rfl;have t2 := tk_cells hSw (j := 2) rfl;have t3 := tk_cells hSw (j := 3) rfl;have t4 := tk_cells hSw (j := 4) rfl;have t5 := tk_cells hSw (j := 5) rfl;have t6 := tk_cells hSw (j := 6) rfl;have t7 := tk_cells hSw (j := 7) rfl;have t8 := tk_cells hSw (j := 8) rfl;have t9 := tk_cells hSw (j := 9) rfl;have t10 := tk_cells hSw (j := 10) rfl;have t11 := tk_cells hSw (j := 11) rfl;go_simp;try rfl
 simp only [xS];refine xT 2 rfl ?_ ?_ ?_;rotate_left
 ·intro w' hSw;go_simp;try rfl
 simp only [xS];refine xT 3 rfl ?_ ?_ ?_;rotate_left
 ·intro w' hSw;have t1 := tk_cells hSw (j := 1) rfl;go_simp;try rfl
 simp only [xS];refine xT 4 rfl ?_ ?_ ?_;rotate_left
 ·intro w' hSw;go_simp;try rfl
 simp only [xS];refine xT 5 rfl ?_ ?_ ?_;rotate_left
 ·intro w' hSw;have t3 := tk_cells hSw (j := 3) rfl;go_simp;try rfl
 simp only [xS];refine xT 6 rfl ?_ ?_ ?_;rotate_left
 ·intro w' hSw;go_simp;try rfl
 simp only [xS];refine xT 7 rfl ?_ ?_ ?_;rotate_left
 ·intro w' hSw;have t4 := tk_cells hSw (j := 4) rfl;go_simp;try rfl
 simp only [xS];refine xT 9 rfl ?_ ?_ ?_;rotate_left
 ·intro w' hSw;go_simp;try rfl
 simp only [xS];refine xT 10 rfl ?_ ?_ ?_;rotate_left
 ·intro w' hSw;have t5 := tk_cells hSw (j := 5) rfl;go_simp;try rfl
 simp only [xS];refine xT 11 rfl ?_ ?_ ?_;rotate_left
 ·intro w' hSw;go_simp;try rfl
 simp only [xS];refine xT 12 rfl ?_ ?_ ?_;rotate_left
 ·intro w' hSw;have t6 := tk_cells hSw (j := 6) rfl;go_simp;try rfl
 simp only [xS];refine xT 13 rfl ?_ ?_ ?_;rotate_left
 ·intro w' hSw;go_simp;try rfl
 simp only [xS];refine xT 14 rfl ?_ ?_ ?_;rotate_left
 ·intro w' hSw;have t7 := tk_cells hSw (j := 7) rfl;go_simp;try rfl
 simp only [xS];refine xT 15 rfl ?_ ?_ ?_;rotate_left
 ·intro w' hSw;go_simp;try rfl
 simp only [xS];refine xT 16 rfl ?_ ?_ ?_;rotate_left
 ·intro w' hSw;have t9 := tk_cells hSw (j := 9) rfl;go_simp;try rfl
 simp only [xS];refine xT 17 rfl ?_ ?_ ?_;rotate_left
 ·intro w' hSw;go_simp;try rfl
 simp only [xS];refine xT 18 rfl ?_ ?_ ?_;rotate_left
 ·intro w' hSw;have t10 := tk_cells hSw (j := 10) rfl;go_simp;try rfl
 simp only [xS];refine xT 19 rfl ?_ ?_ ?_;rotate_left
 ·intro w' hSw;go_simp;try rfl
 simp only [xS];refine xT 20 rfl ?_ ?_ ?_;rotate_left
 ·intro w' hSw;have t11 := tk_cells hSw (j := 11) rfl;go_simp;try rfl
 simp only [xS];refine xD 1 rfl (fun K hK => ?_);go_simp;refine (HKC.out wd HTAB0.out).mono ?_;rintro e W1 ⟨rfl, hbn⟩;have HB1 := xH hbn;have HR2 := xH ((hbn.block R hRd).trans HR1.out);have HRG1 := xH (rgAt_mono (fun _ _ hc => trw.qf hbn hc) HRG0.out);refine hK.out _ _ ((hbn.block N (Array.getElem?_eq_some_iff.1 hHeld).1).trans hHeld) (fun hHeld => ?_);clear hK K;try simp only [xS]
 clear hbn;refine xD 8 rfl (fun K hK => ?_);refine held_append_cp rfl _ _ rfl rfl rfl HRG1.out HLS.out ?_;intro v2 W2 hsn hbn;have HBQ := xH (qi HB1.out hbn);have HRQ := xH ((hbn.block R (Array.getElem?_eq_some_iff.1 HR2.out).1).trans HR2.out);have HSN := xH (hsn.from (w := wd) HB1.out.size);obtain ⟨sa, sc, hv⟩ := hsn.1;subst hv;refine hK.out _ _ ((hbn.block N (Array.getElem?_eq_some_iff.1 hHeld).1).trans hHeld) (fun hHeld => ?_);clear hK K;try simp only [xS]
 clear hbn hsn;refine xT 21 rfl ?_ ?_ ?_;rotate_left
 ·intro w' hSw;go_simp;try rfl
 simp only [xS];refine xD 22 rfl (fun K hK => ?_);refine held_store_n0 rfl rfl _ _ rfl R rfl zC.toArray (leafL t (.slice sa t.set.length sc)) HRQ.out rfl (fun u hu => by simp only [ndC, leafL, List.mem_cons, List.not_mem_nil, or_false] at hu;rcases hu with rfl | rfl | rfl | rfl | rfl | rfl | rfl | rfl | rfl | rfl | rfl | rfl <;> rfl) (by show _ = ndV _; unfold ndV leafL; simp only; rw [HLK.out]; rfl) ?_
 have HG6 := xH (setRow_heap _ _ _ (ndC (leafL t (.slice sa t.set.length sc))).toArray _ _ HRQ.out);refine hK.out _ _ ((tkw.setRow_other _ _ _ _ (show N ≠ R by omega)).trans hHeld) (fun hHeld => ?_);clear hK K;try simp only [xS]
 refine wpAnyH_done (by kernel_rfl) ?_ _;go_wp2_with fail
 refine bodyPost_ret (qA rfl _ _ R (leafL t (.slice sa t.set.length sc)) rfl HG6.out) rfl ?_;exact HEN.out _ _ _ HBQ.out HSN.out
theorem last_any {P q m cap : Nat} (w : World) (hm : m ≤ 1000) (hc : w.cell? ⟨P, 0, none⟩ = some (.slice (some ⟨q, 0, none⟩) (m + 1) cap)) : Calls Tryd.prog 23 #[.pointer (some ⟨P, 0, none⟩)] w (fun e w' => e = .returned (.pointer (some ⟨q, m * 14, none⟩)) ∧ Below w.heap.size w w') := by
 have hidx : (m : Int) < (m : Int) + 1 := by omega
 have hadd : (⟨q, 0, none⟩ : Addr).add (m * 14) = ⟨q, m * 14, none⟩ := by rw [add_plain, Nat.zero_add]
 go_enter Tryd.func23, Tryd.ntmps23;go_wp2_with fail
 go_quiet (fail)
 rename_i nq;go_wp2_with fail
 go_ret
 exact ⟨rfl, tkw.zI (Below.refl _ _) nq⟩
end Go.Proofs.YtnpcombfgdbhkaaDoor.psw
end
