/- T -/
import Derived.Carry
import Derived.Deep.DeepHandedRow
import Derived.Lib.LaidTab
import Derived.SizedLaws
import Derived.Stop.LaidErr
import Derived.Test.YtnpcombfgdbhkaaBGr28
set_option maxHeartbeats 16000000
set_option maxRecDepth 1000000
namespace Go.Proofs.Ytnpcombfgdbhkaa
section
namespace gpw
open sq
open Go.Sort Go Go.RowKit Go.Maps setp setw tkp trp trw rpp gpp sq prw
open rpw (fC jP FSub jQ jd own_below qp vW qh qA)
open utfw (Sl at_ strOf)
open ucdw (OwnI IntsAt intsAt_own ownI_nil ic)
open tkw (sg)
open rsw (flatP FlatB zH)
open rtp (rlexP)
open rsp (resP zU)
theorem numsF_strip : ∀ f : F, numsF (strip f) = numsF f
 | .nil => rfl
 | .cons x k r => by rw [strip, numsF, numsF, numsF_strip k, numsF_strip r];rfl
theorem numsP_same {x y : Lab} {k j : F} (h : strip (F.one y j) = strip (F.one x k)) : numsP (y, j) = numsP (x, k) := by have h1 := numsF_strip (F.one y j);have h2 := numsF_strip (F.one x k);rw [h, h2] at h1;simpa [numsF, F.one, numsP] using h1.symm
theorem numF_size : ∀ (f : F) (rs : Bool) (bef lg : Int) (s : St), (numF rs bef f lg s).2.1.size = f.size
 | .nil, _, _, _, _ => rfl
 | .cons x k r, rs, bef, lg, s => by
  rw [numF_cons];unfold numN;generalize ((if rs = true then bef else s.1, s.2) : St) = s0;generalize entL x s0 = xl;generalize entS x s0 = e;have h1 := numF_size k (decide (x.kind = 16)) e.2.1 e.2.1 e.2;by_cases k1 : e.1 ≠ 0
  ·simp only [if_pos k1, F.size]
  ·simp only [if_neg k1];generalize numF (decide (x.kind = 16)) e.2.1 k e.2.1 e.2 = q at *;by_cases k2 : q.1.1 ≠ 0
   ·simp only [if_pos k2, F.size];omega
   ·have k3 : ¬ (0 : Int) ≠ 0 := by omega
    have h2 := numF_size r rs bef (max lg q.2.2.1) (q.2.2.1, q.2.2.2.2);simp only [if_neg k2, if_neg k3, F.size];omega
theorem num_size (x : Lab) (k : F) : (qH (x, k)).2.1.2.size = k.size := by
 unfold qH numN;simp only;split
 ·rfl
 ·split
  ·exact numF_size _ _ _ _ _
  ·exact numF_size _ _ _ _ _
def NuIn (w : World) (v : Value) (l : List Int) : Prop := ∃ a cap, v = .slice a l.length cap ∧ (l = [] ∨ ∃ g, a = some ⟨g, 0, none⟩ ∧ ∀ i, i < l.length → w.cell? ⟨g, i, none⟩ = some (.int .i64 (l.getD i 0)))
theorem nu_in {w : World} {b : Nat} {v : Value} {l : List Int} (h : OwnI w b v l) : NuIn w v l := by
 by_cases h0 : l = []
 ·obtain ⟨a, c, rfl⟩ := trw.zJ h;exact ⟨a, c, rfl, Or.inl h0⟩
 ·rcases intsAt_own h h0 with ⟨e, _⟩ | ⟨_, g, cap, rfl, hb1, hb2, hc1, hc2, hc⟩
  ·exact absurd e h0
  exact ⟨_, cap, rfl, Or.inr ⟨g, rfl, hc⟩⟩
theorem wpList_look_in {w : World} {ops : Array Oper} {rest : List Oper} {o : Oper} {a : Act} {Q : Exit → Act → World → Prop} (hg : o.guard = none) (m x : Operand) (hop : o.op = Op.lookup 39 m x false)
 (b n : Nat) (L : List Int) (hm : a.eval m = .map (some b)) (hown : MapI w b n L) (key : Int) (hx : a.eval x = .int .i64 key) (hk : (Lit.int .i64 key).wf = true) (hin : key ∈ L)
 (hK : wpList Try.prog ops Q rest (a.put o.dst (.int .i64 1)) w) :
 wpList Try.prog ops Q (o :: rest) a w := wpList_look_i hg m x hop b n L hm hown key hx hk (by rw [if_pos hin]; exact hK)
theorem take_rev {l : List Int} {i : Nat} (h : i < l.length) : (l.take (i + 1)).reverse = l.getD i 0 :: (l.take i).reverse := by rw [List.take_add_one, List.getElem?_eq_getElem h];simp [List.getD, List.getElem?_eq_getElem h]
theorem rise_law (v : Value) (n : Nat) (g : Nat → Int) (o : Int) (w : World) (hv : Sl w v n g) : Calls Try.prog 4 #[v, .int .i64 o] w (BoolB true w) := by
 have HFL := xH (fun w1 (hb : Below w.heap.size w w1) => zH v n g o w1 (utfw.below_sl hb hv));clear hv;go_enter Try.func4, Try.ntmps4;go_wp2_with fail
 refine (awake_any w).mono ?_;rintro e w1 ⟨rfl, hb1⟩;have HB1 := xH hb1;clear hb1;go_wp2_with fail
 refine (HFL.out w1 HB1.out).mono ?_;obtain ⟨R, hR⟩ : ∃ R, flatP (sg (strOf n g)) n o = R := ⟨_, rfl⟩;rw [hR];have HR := xH hR;clear hR HFL;cases R with
 | none =>
  rintro e w2 ⟨hb2, rfl⟩;have HB2 := xH (trw.qi HB1.out hb2);have HG := xH (heap_alloc_new w2 (.cells zC.toArray 27));have HS := xH (zO w2 (lab 0 0));have HO := xH zero_one;unfold zC at HG HS;clear hb2;dsimp only;go_upto_region 5 with (refine qh rfl rfl _ _ rfl w2.heap.size rfl _ (lab 0 0) HG.out rfl HO.out rfl ?_)
  generalize (w2.alloc _).setRow _ _ = w3 at *;have HB3 := xH (trw.qi HB2.out HS.out.b);go_wp2_with fail
  go_ret
  exact ⟨rfl, HB3.out⟩
 | some t =>
  rintro e w2 ⟨hb2, y, j, rfl, hn, hs⟩;have HB2 := xH (trw.qi HB1.out hb2);have HN2 := xH (zV HR.out hs);have HSZ := xH (show j.size ≤ 100000 from by have h1 := (flat_ok HR.out).2;rw [← hs, zt] at h1;simp only [F.one, F.size] at h1;omega)
  have HND := xH hn;have HO := xH (qp hn);have HG := xH (heap_alloc_new w2 (.cells zC.toArray 27));have HS := xH (zO w2 y);unfold zC at HG HS;clear hb2 hn hs HB1 HR;dsimp only;go_upto_region 5 with (refine qh rfl rfl _ _ rfl w2.heap.size rfl _ y HG.out rfl HO.out rfl ?_)
  generalize (w2.alloc _).setRow _ _ = w3 at *;have HB3 := xH (trw.qi HB2.out HS.out.b);have HND3 := xH (trw.vO HS.out.b HND.out);clear HG HO HND HB2;go_wp2_with (first
   | (refine jv rfl _ rfl w2.heap.size 0 rfl y HS.out.c ?_)
   | (refine (HN2.out w3 HND3.out).mono ?_))
  rintro e w4 ⟨hb4, ⟨h0, rfl⟩ | ⟨h0, y4, j4, v4, rfl, hn4, hs4, hr4, hz4⟩⟩
  ·have HB4 := xH (trw.qi HB3.out hb4);have HG := xH (heap_alloc_new w4 (.cells zC.toArray 27));have HS4 := xH (zO w4 (lab 0 0));have HO := xH zero_one;have be : ((qH (y, j)).1.1 != 0) = true := bne_iff_ne.2 h0;unfold zC at HG HS4;clear hb4 h0 HN2 HND3 HS HB3;generalize (qH (y, j)).1.1 = q1 at *;generalize (qH (y, j)).1.2 = q2 at *;dsimp only;go_upto_region 8 with (refine qh rfl rfl _ _ rfl w4.heap.size rfl _ (lab 0 0) HG.out rfl HO.out rfl ?_)
   generalize (w4.alloc _).setRow _ _ = w5 at *;have HB5 := xH (trw.qi HB4.out HS4.out.b);go_wp2_with fail
   go_ret
   exact ⟨rfl, HB5.out⟩
  ·have hri := num_rise y j h0;have hsz := num_size y j;have HB4 := xH (trw.qi HB3.out hb4);have HG := xH (heap_alloc_new w4 (.cells zC.toArray 27));have HS4 := xH (zO w4 y4);have HO := xH (qp (ndI_at hn4));have HND4 := xH (ndI_at hn4);have hbd := (numN_bd y j (0, []) (Int.le_refl _) (by decide) h0).2.1;have hbd : (qH (y, j)).2.2.1 ≤ 60 := hbd;have HSS := xH (numsP_same hs4);have HJ := xH (show j4.size ≤ 200000 by have h1 := congrArg F.size hs4;have h2 := HSZ.out;rw [zt, zt] at h1;simp only [F.one, F.size] at h1;omega)
   have HNDy := xH (trw.vO hb4 HND3.out);have HSc := xH (show ∀ (j : Nat) (u : Value), (ndC y)[j]? = some u → w4.cell? ⟨w2.heap.size, 0 + j, none⟩ = some u from fun j u hj => trw.qf hb4 (HS.out.c j u hj));unfold zC at HG HS4;obtain ⟨na, nc, rfl⟩ := row_slice hr4;clear hb4 h0 HN2 HND3 HS HB3 hn4 hs4 hr4 hz4;generalize numsP (qH (y, j)).2.1 = L at *;generalize (qH (y, j)).2.2.2 = l at *;generalize (qH (y, j)).2.2.1 = most at *;have HRI := xH hri;have hm0 : 0 ≤ most := hri.1;clear hri;dsimp only;go_upto_region 8 with (refine qh rfl rfl _ _ rfl w4.heap.size rfl _ y4 HG.out rfl HO.out rfl ?_)
   generalize (w4.alloc _).setRow _ _ = w5 at *;have HB5 := xH (trw.qi HB4.out HS4.out.b);have HND5 := xH (trw.vO HS4.out.b HND4.out);have HNy5 := xH (trw.vO HS4.out.b HNDy.out);have HSc5 := xH (show ∀ (j : Nat) (u : Value), (ndC y)[j]? = some u → w5.cell? ⟨w2.heap.size, 0 + j, none⟩ = some u from fun j u hj => trw.qf HS4.out.b (HSc.out j u hj));have HC5 := xH HS4.out.c;generalize w4.heap.size = T at *;generalize w2.heap.size = T2 at *;clear HG HO HND4 HB4 HS4 HNDy HSc;go_wp2_with (first
    | (refine jv rfl _ rfl T 0 rfl y4 HC5.out ?_)
    | (refine (numbers_all (j4.size + 1) w5 y4 j4 (Nat.lt_succ_self _) HJ.out HND5.out).mono ?_))
   rw [HSS.out];rintro e w6 ⟨v6, rfl, ho6, hb6⟩;have HB6 := xH (trw.qi HB5.out hb6);have HNy6 := xH (trw.vO hb6 HNy5.out);have HSc6 := xH (show ∀ (j : Nat) (u : Value), (ndC y)[j]? = some u → w6.cell? ⟨T2, 0 + j, none⟩ = some u from fun j u hj => trw.qf hb6 (HSc5.out j u hj));obtain ⟨la, lc, hv6, hcl⟩ := nu_in ho6;subst hv6;have HCL := xH hcl;have HLL := xH (show L.length ≤ 200001 by
    have h1 := nums_len j4;have h2 := numsL_len y4;have h3 := HJ.out;have h4 : (numsP (y4, j4)).length = L.length := by rw [HSS.out]
    unfold numsP at h4;simp only [List.length_append] at h4;omega)
   clear hb6 ho6 hcl HB5 HND5 HNy5 HSc5 HC5 HJ;have hmm : (Instr.makeMap 39 none).run Try.prog w6 = .ok (.map (some w6.heap.size)) (w6.alloc (.map #[] 0)) := rfl;have HM7 := xH (mapI_made w6);have HB7 := xH (trw.qg w6 (.map #[] 0));have hll : L.length ≤ 200001 := HLL.out;go_wp2_with fail
   clear hmm;generalize w6.alloc (.map #[] 0) = w7 at *
   go_loopw [15] (fun v15 wr => ∃ i : Nat, v15 = .int .i64 i ∧ i ≤ L.length ∧ Hid (MapI wr w6.heap.size i (L.take i).reverse) ∧ Hid (Below w6.heap.size w6 wr)) (fun v15 _ => L.length - (intOf v15).toNat)
   case atStart => exact ⟨0, rfl, Nat.zero_le _, xH HM7.out, HB7⟩
   case round =>
    obtain ⟨i, rfl, hi, HM, HBB⟩ := hrel;by_cases hlt : i < L.length
    ·obtain ⟨g, rfl, hc⟩ := HCL.out.resolve_left (fun e => by rw [e] at hlt; exact absurd hlt (Nat.not_lt_zero _));have HW := xH (show (Lit.int .i64 (L.getD i 0)).wf = true by
      have h1 : L.getD i 0 ∈ L := by rw [List.getD, List.getElem?_eq_getElem hlt]; exact List.getElem_mem hlt
      have h2 := (HRI.out.2.1 _).1 h1;exact wf_small (by omega) (by omega))
     have HTK := xH (take_rev hlt);have cc : wr.cell? ⟨g, i, none⟩ = some (.int .i64 (L.getD i 0)) := trw.qf HBB.out (hc i hlt);obtain ⟨z, hz⟩ : ∃ z, L.getD i 0 = z := ⟨_, rfl⟩;rw [hz] at HW HTK cc;clear hc hz;go_wp2_with (first
      | (at_mapUpdate; refine wpList_put_i rfl rfl _ _ _ rfl z rfl w6.heap.size i _ rfl HM.out (by omega) HW.out rfl ?_))
     intro w8 hm8 hg8;have HM8 := xH hm8;have HB8 := xH (show Below w6.heap.size w6 w8 from HBB.out.grown hg8 HBB.out.size (fun j hj => by cases hj; exact xL _));clear hm8 hg8;go_wp2_with fail
     go_roundw
     case rel => exact ⟨i + 1, by go_num, by omega, by rw [HTK.out]; exact HM8, HB8⟩
     case measure => simp [intOf]; omega
    ·have hiL : i = L.length := by omega
     subst hiL;have hd : decide (L.length < L.length) = false := by simp
     have HM8 := xH (show MapI wr w6.heap.size L.length L.reverse by have := HM.out; rwa [List.take_length] at this);have HB8 := xH (trw.qi HB6.out HBB.out);have HCR := xH (show ∀ g, la = some ⟨g, 0, none⟩ → L ≠ [] → ∀ i, i < L.length → wr.cell? ⟨g, i, none⟩ = some (.int .i64 (L.getD i 0)) from fun g e hne i hi => by obtain ⟨g', e', hc⟩ := HCL.out.resolve_left hne;rw [e] at e';cases e';exact trw.qf HBB.out (hc i hi))
     have HLA := xH (show L ≠ [] → ∃ g, la = some ⟨g, 0, none⟩ from fun hne => (HCL.out.resolve_left hne).elim fun g h => ⟨g, h.1⟩);have HNy8 := xH (trw.vO HBB.out HNy6.out);have HSc8 := xH (show ∀ (j : Nat) (u : Value), (ndC y)[j]? = some u → wr.cell? ⟨T2, 0 + j, none⟩ = some u from fun j u hj => trw.qf HBB.out (HSc6.out j u hj));generalize w6.heap.size = M at *;clear HM hlt HBB HM7 HB7 HB6 HCL HNy6 HSc6 hi;have hm6 : most ≤ 9223372036854775806 := by omega
     go_wp2_with fail
     go_loopw [16] (fun v16 wx => ∃ i : Int, v16 = .int .i64 i ∧ 1 ≤ i ∧ i ≤ most + 1 ∧ Hid (wx = wr)) (fun v16 _ => (most + 1 - intOf v16).toNat)
     case atStart => exact ⟨1, rfl, Int.le_refl _, by omega, xH rfl⟩
     case round =>
      obtain ⟨i, rfl, hi1, hi2, HE⟩ := hrel;obtain rfl := HE.out;by_cases hlt : i ≤ most
      ·have HIN := xH (show i ∈ L.reverse from List.mem_reverse.2 ((HRI.out.2.1 i).2 ⟨by omega, hlt⟩));have HW := xH (wf_small (n := i) (by omega) (by omega));go_wp2_with (first
        | (at_lookup; refine wpList_look_in rfl _ _ rfl M _ _ rfl HM8.out i rfl HW.out HIN.out ?_))
       go_roundw
       case rel => exact ⟨i + 1, by go_num, by omega, by omega, xH (by trivial)⟩
       case measure => simp [intOf]; omega
      ·have hd : decide (i ≤ most) = false := by simpa using hlt
       clear hlt;go_wp2_with (first
        | (refine jv rfl _ rfl T2 0 rfl y HSc8.out ?_)
        | (refine (find_all (j.size + 1) _ y j (Nat.lt_succ_self _) HNy8.out).mono ?_))
       rintro e w9 ⟨ix, rfl, hb9⟩;have HB9 := xH (trw.qi HB8.out hb9);have HM9 := xH (mapI_below HM8.out hb9);have HCR9 := xH (fun g e hne i hi => trw.qf hb9 (HCR.out g e hne i hi));clear hb9 HM8 HCR HNy8 HSc8 HB8;have HSZE := xH (show (Maps.size (LI L.reverse) : Int) = most by obtain ⟨M', h1, h2, h3⟩ := size_LI L.reverse;rw [h3];exact rise_len hm0 h1 fun i => by rw [h2, List.mem_reverse, HRI.out.2.1])
       have HUP := xH HRI.out.2.2;have hlen : (Builtin.len_ #[39] 3 #[.map (some M)]).run Try.prog w9 = .ok (.int .i64 most) w9 := by rw [← HSZE.out];exact World.ownsMap.len HM9.out Try.underlying39 _
       cases hr : rstP (y, j);case true =>
        clear hr;go_wp2_with fail
        go_ret
        exact ⟨rfl, HB9.out⟩
       case false =>
        have HLU := xH (HUP.out hr);clear hr;go_wp2_with fail
        go_loopw [19] (fun v19 wx => ∃ i : Nat, v19 = .int .i64 i ∧ i ≤ L.length ∧ Hid (wx = w9)) (fun v19 _ => L.length - (intOf v19).toNat)
        case atStart => exact ⟨0, rfl, Nat.zero_le _, xH rfl⟩
        case round =>
         obtain ⟨i, rfl, hi, HE⟩ := hrel;obtain rfl := HE.out;by_cases hlt : i < L.length
         ·have hne : L ≠ [] := fun e => by rw [e] at hlt; exact absurd hlt (Nat.not_lt_zero _)
          obtain ⟨g, rfl⟩ := HLA.out hne;have cc := HCR9.out g rfl hne i hlt;have hz : L.getD i 0 = (i : Int) + 1 := by
           have h1 := HLU.out;have h2 : i < (upL 0 most).length := by rw [← h1]; exact hlt
           rw [h1, List.getD, List.getElem?_eq_getElem h2];simp only [upL, List.getElem_map, List.getElem_range, Option.getD_some, Int.ofNat_eq_natCast];omega
          rw [hz] at cc;clear hz hne;go_wp2_with fail
          go_roundw
          case rel => exact ⟨i + 1, by go_num, by omega, xH (by trivial)⟩
          case measure => simp [intOf]; omega
         ·have hd : decide (i < L.length) = false := by simpa using hlt
          clear hlt;go_wp2_with fail
          go_ret
          exact ⟨rfl, HB9.out⟩
end gpw
end
section
namespace gpr
open sq
open Go Go.RowKit Go.ChangeShapes Go.WideShapes Go.ChangeAt utfp utfw
theorem own : ownKnob Try.prog.godebug = none := by kernel_rfl
theorem laidOut : laidOutB Try.prog = true := by kernel_rfl
theorem cellsByte : Try.prog.cellsOf 5 = 1 := by kernel_rfl
theorem bytesByte : Try.prog.bytesOf 5 = 1 := by kernel_rfl
theorem recBytes : Try.prog.readableRec 22 = true := by kernel_rfl
theorem rowBytes : (22 : TypeId) < Try.prog.types.size := of_decide_eq_true (by kernel_rfl)
theorem wf_byte {n : Int} (h : (Lit.int .u8 n).wf = true) : 0 ≤ n ∧ n ≤ 255 := by
 have h2 : IntKind.u8.min ≤ n ∧ n ≤ IntKind.u8.max := by simpa [Lit.wf] using h
 rw [show IntKind.u8.min = 0 by decide, show IntKind.u8.max = 255 by decide] at h2;exact h2
theorem open_bytes {H : Type} {enc : TypeId × Value → H} {W : World} {base : Nat} {v : Value} {d : DataW H} {ps : List MemPlace} (hval : Value.okWide Try.prog W .any base 22 v)
 (h : DataW.Trod enc Try.prog W 0 (fun _ => true) true 22 v d ps) (hsz : ∀ elems spare, d = .slice elems spare → (elems.length + spare.length) * Try.prog.bytesOf 5 ≤ reachBytes) :
 ∃ n g, Sl W v n g := by
 obtain ⟨a0, len, cap, rfl⟩ := okWide_slice Try.underlying22 hval;obtain ⟨fuel, hf⟩ := h;rcases open_ints Try.underlying22 Try.underlying5 cellsByte hf with ⟨hcs, _⟩ | ⟨a, len', cap', zs, hcs, _, hl, hm, hz, hx, hcell, hwz⟩
 ·simp [Value.cells] at hcs;obtain ⟨rfl, rfl, rfl⟩ := hcs;exact ⟨0, fun _ => 0, fun _ => by simp, by simp, Or.inl ⟨rfl, _, _, rfl, by omega⟩⟩
 ·simp [Value.cells] at hcs;obtain ⟨rfl, rfl, rfl⟩ := hcs;simp only [Prod.mk.injEq] at hx;obtain ⟨rfl, _⟩ := hx;simp only [if_true] at hz;have hr := hsz _ _ rfl;rw [bytesByte] at hr;simp only [lits, List.length_map, List.length_take, List.length_drop, reachBytes] at hr;unfold maxLen at hm;have hgb : ∀ i, 0 ≤ zs.getD i 0 ∧ zs.getD i 0 ≤ 255 := by
   intro i;by_cases hi : i < zs.length
   ·simp only [List.getD, List.getElem?_eq_getElem hi, Option.getD_some];exact wf_byte (hwz _ (List.getElem_mem hi))
   ·simp [List.getD, List.getElem?_eq_none (Nat.le_of_not_lt hi)]
  by_cases h0 : len = 0
  ·subst h0;exact ⟨0, fun _ => 0, fun _ => by simp, by simp, Or.inl ⟨rfl, _, _, rfl, by omega⟩⟩
  ·obtain ⟨b, off, spot⟩ := a;have c0 := hcell 0 (by omega);cases spot with
   | some s =>
    exfalso;have : ((⟨b, off, some s⟩ : Addr).add 0).spot.isSome = true := by unfold Addr.add; split <;> simp_all
    unfold World.cell? at c0;split at c0
    ·simp [this] at c0
    ·simp at c0
   | none =>
    refine ⟨len, fun i => zs.getD i 0, hgb, by omega, Or.inr ⟨b, off, cap, rfl, ⟨hl, by omega⟩, fun i hi => ?_⟩⟩;have := hcell i (by omega);have hplain : (⟨b, off, none⟩ : Addr).add i = ⟨b, off + i, none⟩ := by unfold Addr.add; split <;> simp_all
    rw [hplain] at this;exact this
end gpr
end
end Go.Proofs.Ytnpcombfgdbhkaa
