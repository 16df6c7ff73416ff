/- T -/
import Derived.Maps.AppendAt
import Derived.Test.YtdgfclbajjjcgaaBWb08
set_option maxHeartbeats 16000000
set_option maxRecDepth 1000000
namespace Go.Proofs.Ytdgfclbajjjcgaa
section
namespace prd
open sq
open Go Go.RowKit bulk ucdp setp setw prp prw
open ucdw (qf qi qg refC)
theorem ownR_apart {w w' : World} {base : Nat} {v v2 : Value} {D : List Rg} (h : OwnR w base v D) (hg : w.grownBy w' v2.ownBlock) (hne : ∀ b, v.ownBlock = some b → v2.ownBlock ≠ some b) : OwnR w' base v D := by
 refine ⟨World.ownsRow.kept h.1 hg ?_, h.2⟩;cases hv : v.ownBlock with
 | none => exact Or.inl rfl
 | some b => exact Or.inr (fun e => hne b hv e.symm)
theorem wpList_append_rg {ops : Array Oper} {rest : List Oper} {o : Oper} {a : Act} {w : World} {Q : Exit → Act → World → Prop} (hgd : o.guard = none) (s x : Operand)
 (ho : o.op = .call { callee := .builtin .append, args := #[s, x], argTypes := #[24, 24] }) (base : Nat) (v : Value) (D : List Rg) (hs : a.eval s = v) (hown : OwnR w base v D)
 (q1 q2 : Int) (B : Nat) (hx : a.eval x = .slice (some ⟨B, 0, none⟩) 1 1) (hB : B = w.heap.size) (hlen : D.length ≤ 100000000) (hbase : base ≤ w.heap.size)
 (h : ∀ v' w', OwnR w' base v' (D ++ [(q1, q2)]) → (∀ B w1, Below B w1 w → B ≤ base → Below B w1 w') → w.grownBy w' v.ownBlock → (v'.ownBlock = v.ownBlock ∨ ∃ g, v'.ownBlock = some g ∧ w.heap.size ≤ g) → wpList Try.prog ops Q rest (a.put o.dst v') w') :
 wpList Try.prog ops Q (o :: rest) a (w.alloc (.cells #[.int .i64 q1, .int .i64 q2] 69)) := by
 subst hB;obtain ⟨i0, hi, hz0, hz1, hz2⟩ := info_parts infoRange;refine wpList_append_own_at _ hgd s x _ ho base 69 i0 (.agg #[.int .i64 0, .int .i64 0]) 2 16 Try.underlying24 hi hz0 hz1 hz2 rfl (by decide) v _ _ hs (World.ownsRow.alloc hown.1 _) ⟨w.heap.size, 0, none⟩ 1 1 [.int .i64 q1, .int .i64 q2] hx rfl ?_ ?_ (by unfold maxLen; omega) (by omega) (by rw [World.size_alloc]; omega) ?_
 ·intro j u hj;exact z72
 ·intro u hu;exact z143
 ·intro v' w' hown' hgr _ hat;refine h v' w' ?_ (fun B w1 hb hB => (hb.alloc (by have := hb.size; omega) _).grown hgr (by rw [World.size_alloc]; omega) (fun k hk => ?_)) ((World.grownBy_alloc w _ _).trans hgr) ?_
  ·have e : rcs (D ++ [(q1, q2)]) = rcs D ++ [.int .i64 q1, .int .i64 q2] := by simp [rcs]
   unfold OwnR;rw [e];exact ⟨by simpa using hown', fun h => absurd h (by simp)⟩
  ·have := (World.ownsRow.lt hown.1) k hk;omega
  ·rcases hat with h | h
   ·exact Or.inl h
   ·exact Or.inr ⟨_, h, by rw [World.size_alloc]; omega⟩
theorem cat_two {k : Nat} (h : 1 ≤ k ∧ k ≤ 23) : (catB k).size = 2 := by
 have all : ((List.range 24).all fun k => k == 0 || (catB k).size == 2) = true := by decide +kernel
 have := List.all_eq_true.1 all k (by simp; omega);simp only [Bool.or_eq_true, beq_iff_eq] at this;omega
theorem mB_walk {n cb sb : ByteArray} {k s : Nat} (hcb : catB k = cb) (hsb : scrB s = sb) : mB n k s = (((cb.toList == n.toList) || (sb.toList == n.toList)) || (decide (n.size = 1) && ((cb.extract 0 1).toList == n.toList)) || ((n.toList == [76, 38]) && ((cb.toList == [76, 117]) || (cb.toList == [76, 108])))) := by have l1 : ([76, 38] : List UInt8) = cLL.toList := (Lib.toList_data cLL).symm;have l2 : ([76, 117] : List UInt8) = cLu.toList := (Lib.toList_data cLu).symm;have l3 : ([76, 108] : List UInt8) = cLl.toList := (Lib.toList_data cLl).symm;rw [l1, l2, l3, beqS, beqS, beqS, beqS, beqS, beqS];unfold mB;rw [hcb, hsb]
def DRel (n : ByteArray) (w2 : World) (v4 v5 i : Value) (wr : World) : Prop :=
 ∃ k : Nat, k ≤ 81 ∧ i = .int .i64 k ∧ OwnR wr w2.heap.size v4 (dl n k) ∧ OwnR wr w2.heap.size v5 (da k) ∧ Below w2.heap.size w2 wr ∧ ∀ b, v4.ownBlock = some b → v5.ownBlock ≠ some b
def DPB (n : ByteArray) (w : World) (e : Ending) (w' : World) : Prop := ∃ v S, e = .returned (.tuple #[v, .bool (isP n)]) ∧ Canon S ∧ (∀ c, Has S c ↔ 0 ≤ c ∧ c ≤ 1114111 ∧ propP n c = true) ∧ RsAt w' v S ∧ Below w.heap.size w w'
theorem dpb_none {n : ByteArray} {w w' : World} (hi : isP n = false) (hF : ∀ c, (Has [] c ∧ 0 ≤ c ∧ c ≤ 1114111) ↔ 0 ≤ c ∧ c ≤ 1114111 ∧ propP n c = true) (hb : Below w.heap.size w w') : DPB n w (.returned (.tuple #[.slice none 0 0, .bool false])) w' :=
 ⟨_, [], by rw [hi], canon_nil, fun c => ⟨fun h => absurd h (has_nil _), fun h => ((hF c).2 h).1⟩, rs_nil _, hb⟩
theorem dpb_some {n : ByteArray} {w w' : World} {v : Value} {S : List Rg} (hi : isP n = true) (hS : Canon S) (hh : ∀ c, Has S c ↔ 0 ≤ c ∧ c ≤ 1114111 ∧ propP n c = true) (hr : RsAt w' v S) (hb : Below w.heap.size w w') : DPB n w (.returned (.tuple #[v, .bool true])) w' :=
 ⟨v, S, by rw [hi], hS, hh, hr, hb⟩
theorem cn_walk (n : ByteArray) : cnB n = (((n.toList == [67, 110]) || (n.toList == [67])) || (n.toList == [85, 110, 107, 110, 111, 119, 110])) := by rw [show ([67, 110] : List UInt8) = (⟨#[67, 110]⟩ : ByteArray).toList from (Lib.toList_data (⟨#[67, 110]⟩ : ByteArray)).symm, show ([67] : List UInt8) = (⟨#[67]⟩ : ByteArray).toList from (Lib.toList_data (⟨#[67]⟩ : ByteArray)).symm, show ([85, 110, 107, 110, 111, 119, 110] : List UInt8) = (⟨#[85, 110, 107, 110, 111, 119, 110]⟩ : ByteArray).toList from (Lib.toList_data (⟨#[85, 110, 107, 110, 111, 119, 110]⟩ : ByteArray)).symm, beqS, beqS, beqS];rfl
def comp (A : List Rg) : List Rg := ((List.range 1114112).map fun (i : Nat) => ((i : Int), (i : Int))).filter fun r => !hasB A r.1
theorem comp_has (A : List Rg) (c : Int) : Has (comp A) c ↔ 0 ≤ c ∧ c ≤ 1114111 ∧ ¬ Has A c := by
 unfold comp Has;constructor
 ·rintro ⟨r, hr, a, b⟩;obtain ⟨h1, h2⟩ := List.mem_filter.1 hr;obtain ⟨i, hi, rfl⟩ := List.mem_map.1 h1;have h3 := List.mem_range.1 hi;simp only at a b h2;obtain rfl : c = i := by omega
  refine ⟨by omega, by omega, fun h => ?_⟩;rw [zX.2 h] at h2;cases h2
 ·rintro ⟨h0, h1, h2⟩;refine ⟨(c, c), List.mem_filter.2 ⟨List.mem_map.2 ⟨c.toNat, List.mem_range.2 (by omega), by rw [show ((c.toNat : Nat) : Int) = c by omega]⟩, ?_⟩, Int.le_refl _, Int.le_refl _⟩;simp only;rw [Bool.eq_false_iff.2 fun e => h2 (zX.1 e)];rfl
theorem no256 : ¬ Has (da 81) 256 := by
 rw [da_has];rintro ⟨i, hi, a, b⟩;have all : (rows.all fun r => !(decide (r.1 ≤ 256) && decide (256 ≤ r.2.1))) = true := by decide +kernel
 have := List.all_eq_true.1 all _ (rw5_mem hi);rw [decide_eq_true a, decide_eq_true b] at this;cases this
theorem comp_ne : comp (da 81) ≠ [] := fun e => by
 have h := (comp_has (da 81) 256).2 ⟨by decide, by decide, no256⟩;rw [e] at h;exact has_nil _ h
theorem dl_wf (n : ByteArray) : ∀ k, k ≤ 81 → Wf (dl n k)
 | 0, _ => fun r hr => by cases hr
 | k + 1, h => by
  have ih := dl_wf n k (by omega);have hin := rw5_in (i := k) (by omega);rw [dl_succ];split
  ·intro r hr;rcases List.mem_append.1 hr with hr | hr
   ·exact ih r hr
   ·obtain rfl := List.mem_singleton.1 hr;simp only;omega
  ·exact ih
theorem da_wf : ∀ k, k ≤ 81 → Wf (da k)
 | 0, _ => fun r hr => by cases hr
 | k + 1, h => by
  have ih := da_wf k (by omega);have hin := rw5_in (i := k) (by omega);intro r hr;rcases List.mem_append.1 hr with hr | hr
  ·exact ih r hr
  ·obtain rfl := List.mem_singleton.1 hr;simp only;omega
theorem wf_app {A B : List Rg} (h1 : Wf A) (h2 : Wf B) : Wf (A ++ B) := fun r hr => (List.mem_append.1 hr).elim (h1 r) (h2 r)
theorem canon_len4_from : ∀ {S : List Rg} {lo : Int}, Canon S → (∀ r ∈ S, lo ≤ r.1) → lo ≤ 1114113 → lo + 2 * S.length ≤ 1114113
 | [], lo, _, _, h => by simpa using h
 | r :: S, lo, h, hl, _ => by have hr := h.2 r (dJ ..);have h1 := hl r (dJ ..);have := canon_len4_from (lo := r.2 + 2) (canon_tail h) (fun x hx => by have := (List.pairwise_cons.1 h.1).1 x hx; omega) (by omega);simp only [dB];omega
theorem zB {S : List Rg} (h : Canon S) : S.length ≤ 590000 := by have := canon_len4_from (lo := 0) h (fun r hr => (h.2 r hr).1) (by omega);omega
theorem dprop_any (n : ByteArray) (w : World) : Calls Try.prog 119 #[.string n] w (DPB n w) := by
 by_cases hA : n.toList = [65, 110, 121]
 ·have hn : n = cAny := yu hA;subst hn;have HI := xH (show true = isP cAny by decide +kernel);have HP := xH (show ∀ c, propP cAny c = true from fun c => by unfold propP hp; rw [any_kind]; rfl);clear hA;unfold cAny;go_enter Try.func119, Try.ntmps119;go_wp2_with fail
  refine (one_any 0 1114111 w (by decide) (by decide) (by decide) (by decide)).mono ?_;rintro e w1 ⟨v, rfl, hr, hb⟩;have HR := xH hr;clear hr;go_wp2_with fail
  go_ret2
  refine ⟨v, [(0, 1114111)], by rw [show isP ⟨#[65, 110, 121]⟩ = true from HI.out.symm]; rfl, canon_of (by decide +kernel), fun c => ?_, HR.out, hb⟩;rw [has_one, show propP ⟨#[65, 110, 121]⟩ c = true from HP.out c];simp
 have hn : n ≠ cAny := fun e => hA (by rw [e]; exact Lib.toList_data _)
 have HNE := xH hn;have bA : (n.toList == [65, 110, 121]) = false := by simp [hA]
 clear hn;go_enter Try.func119, Try.ntmps119;go_wp2_with fail
 refine (Go.Proofs.Ytdgfclbajjjcgaa.ucdw.table_any w).mono ?_;rintro e w2 ⟨vt, rfl, ht, hb2⟩;obtain ⟨g, cap, rfl, _, hg2, hc1, hc2, hcell⟩ := Go.Proofs.Ytdgfclbajjjcgaa.ucdw.ownR_open ht;have HG := xH hcell;have HB2 := xH hb2;clear ht hb2 hcell;go_wp2_with fail
 go_loopw [4, 5, 7] (fun v4 v5 i wr => DRel n w2 v4 v5 i wr) (fun _ _ i _ => 81 - (intOf i).toNat)
 case atStart => exact ⟨0, Nat.zero_le _, rfl, qm _ _, qm _ _, Below.refl _ _, fun b h => by cases h⟩
 case round =>
  obtain ⟨k, hk, rfl, ho4, ho5, hb, hne⟩ := hrel;have HO4 := xH ho4;have HO5 := xH ho5;have HB := xH hb;have HNe := xH hne;clear ho4 ho5 hb hne;by_cases hlt : k < 81
  ·have f0 := HG.out k 0 hlt (by decide);have f1 := HG.out k 1 hlt (by decide);have f2 := HG.out k 2 hlt (by decide);have f3 := HG.out k 3 hlt (by decide);have hds := dl_succ n k;have hda : da (k + 1) = da k ++ [((rw5 k).1, (rw5 k).2.1)] := rfl;have hin := rw5_in hlt;obtain ⟨lo, hi, kk, ss, sh, hr5⟩ : ∃ lo hi kk ss sh, rw5 k = (lo, hi, kk, ss, sh) := ⟨_, _, _, _, _, rfl⟩;have hr5' : Go.Proofs.Ytdgfclbajjjcgaa.ucdw.rk k = (lo, hi, kk, ss, sh) := hr5;rw [hr5] at hds hda hin;simp only [hr5', refC] at f0 f1 f2 f3;simp only [List.getElem?_cons_zero, List.getElem?_cons_succ, Nat.add_zero] at f0 f1 f2 f3;have hki : (k : Int) < 81 := by omega
   have hin2 := hin.1.1;clear hin hr5 hr5';have F0 := xH f0;have F1 := xH f1;have F2 := xH f2;have F3 := xH f3;clear f0 f1 f2 f3;go_wp2_with fail
   have h0 : Below w2.heap.size w2 wr.drew := HB.out.drew;refine wp_region_held_drew (S := fun w' => Below w2.heap.size w2 w') (by kernel_rfl) h0 (fun hHeld => ?_);refine yG 0 (fun w' hSw => qf hSw F0.out) (fun w' hSw => qf hSw F1.out) ?_;simp only [xS];refine yG 1 (fun w' hSw => qf hSw F0.out) (fun w' hSw => qf hSw F1.out) ?_;simp only [xS];refine yG 2 (fun w' hSw => qf hSw F0.out) (fun w' hSw => qf hSw F1.out) ?_;simp only [xS];refine yG 3 (fun w' hSw => qf hSw F0.out) (fun w' hSw => qf hSw F1.out) ?_;simp only [xS];refine yG 4 (fun w' hSw => qf hSw F0.out) (fun w' hSw => qf hSw F1.out) ?_;simp only [xS];refine yG 5 (fun w' hSw => qf hSw F0.out) (fun w' hSw => qf hSw F1.out) ?_;simp only [xS];refine yG 6 (fun w' hSw => qf hSw F0.out) (fun w' hSw => qf hSw F1.out) ?_;simp only [xS];refine yG 7 (fun w' hSw => qf hSw F0.out) (fun w' hSw => qf hSw F1.out) ?_;simp only [xS];refine yG 8 (fun w' hSw => qf hSw F0.out) (fun w' hSw => qf hSw F1.out) ?_;simp only [xS];refine yG 9 (fun w' hSw => qf hSw F0.out) (fun w' hSw => qf hSw F1.out) ?_;simp only [xS];refine yG 10 (fun w' hSw => qf hSw F0.out) (fun w' hSw => qf hSw F1.out) ?_;simp only [xS];refine xD 11 rfl (fun K hK => ?_);go_simp;refine hK.out _ _ (h0.alloc h0.size _) (fun hHeld => ?_);clear hK K;try simp only [xS]
   refine xD 12 rfl (fun K hK => ?_);go_simp;refine hK.out _ _ (h0.alloc h0.size _) (fun hHeld => ?_);clear hK K;try simp only [xS]
   refine wpAnyH_done (by kernel_rfl) ?_ _;obtain ⟨c0, c1, hbx, ho4x, ho5x, h4b, h5b, hBx⟩ : World.cell? (World.drew (wr.alloc (Obj.cells #[Value.int IntKind.i64 lo, Value.int IntKind.i64 hi] 69))) ⟨wr.heap.size, 0, none⟩ = some (.int .i64 lo) ∧ World.cell? (World.drew (wr.alloc (Obj.cells #[Value.int IntKind.i64 lo, Value.int IntKind.i64 hi] 69))) ⟨wr.heap.size, 1, none⟩ = some (.int .i64 hi) ∧ Below w2.heap.size w2 (World.drew (wr.alloc (Obj.cells #[Value.int IntKind.i64 lo, Value.int IntKind.i64 hi] 69))) ∧ OwnR (World.drew (wr.alloc (Obj.cells #[Value.int IntKind.i64 lo, Value.int IntKind.i64 hi] 69))) w2.heap.size u4 (dl n k) ∧ OwnR (World.drew (wr.alloc (Obj.cells #[Value.int IntKind.i64 lo, Value.int IntKind.i64 hi] 69))) w2.heap.size u5 (da k) ∧ (∀ b, u4.ownBlock = some b → b < wr.heap.size) ∧ (∀ b, u5.ownBlock = some b → b < wr.heap.size) ∧ wr.heap.size < (World.drew (wr.alloc (Obj.cells #[Value.int IntKind.i64 lo, Value.int IntKind.i64 hi] 69))).heap.size := by
    refine ⟨?_, ?_, h0.alloc h0.size _, ownR_below HO4.out (show Below wr.heap.size wr (World.drew (wr.alloc _)) from (qg wr _).drew), ownR_below HO5.out (show Below wr.heap.size wr (World.drew (wr.alloc _)) from (qg wr _).drew), fun b hb => (World.ownsRow.lt HO4.out.1 b hb).2, fun b hb => (World.ownsRow.lt HO5.out.1 b hb).2, ?_⟩
    ·show World.cell? (wr.alloc _) ⟨wr.heap.size, 0, none⟩ = _;rw [World.cell?_alloc_new]; rfl
    ·show World.cell? (wr.alloc _) ⟨wr.heap.size, 1, none⟩ = _;rw [World.cell?_alloc_new]; rfl
    ·show wr.heap.size < (wr.alloc _).heap.size;rw [World.size_alloc]; omega
   generalize World.drew (wr.alloc (Obj.cells #[Value.int IntKind.i64 lo, Value.int IntKind.i64 hi] 69)) = wx at *;have C0 := xH c0;have C1 := xH c1;have HBx := xH hbx;have HO4x := xH ho4x;have HO5x := xH ho5x;have H4b := xH h4b;have H5b := xH h5b;have HdaL := xH (show (da k).length ≤ 100000000 by rw [da_len]; omega);have HdlL := xH (show (dl n k).length ≤ 100000000 by have := dl_len n k; omega);clear h0 hHeld hbx ho4x ho5x h4b h5b HO4 HO5 HB;generalize wr.heap.size = B0 at *;go_upto_region 11 with (at_builtin; refine wpList_append_rg rfl _ _ rfl w2.heap.size u5 (da k) rfl HO5x.out lo hi _ rfl rfl HdaL.out HBx.out.size ?_; intro v5 w3 ho5 hb5 hg5 hat5)
   have HO5 := xH (show OwnR w3 w2.heap.size v5 (da (k + 1)) from by rw [hda]; exact ho5);have HO4 := xH (ownR_apart HO4x.out hg5 HNe.out);have HB3 := xH (hb5 _ _ HBx.out (xL _));have D0 := xH (hg5.cell C0.out (fun e => absurd (H5b.out B0 e.symm) (Nat.lt_irrefl _)));have D1 := xH (hg5.cell C1.out (fun e => absurd (H5b.out B0 e.symm) (Nat.lt_irrefl _)));have HN5 := xH (show ∀ b, u4.ownBlock = some b → v5.ownBlock ≠ some b from fun b hb e => by
    rcases hat5 with h | ⟨q, h, hq⟩
    ·exact HNe.out b hb (h ▸ e)
    ·rw [h] at e;have e2 : q = b := Option.some.inj e;have := H4b.out b hb;omega)
   have H4c := xH (show ∀ b, u4.ownBlock = some b → b < w3.heap.size from fun b hb => (World.ownsRow.lt HO4.out.1 b hb).2);have HB0 := xH (Nat.lt_of_lt_of_le hBx hg5.size);clear ho5 hb5 hg5 hat5 c0 c1 C0 C1 HBx HO4x HO5x HNe H4b H5b hda hBx;have d2 := qf HB3.out F2.out;have d3 := qf HB3.out F3.out;obtain ⟨cb, hcb⟩ : ∃ cb, catB kk = cb := ⟨_, rfl⟩;obtain ⟨sb, hsb⟩ : ∃ sb, scrB ss = sb := ⟨_, rfl⟩;have hsz : cb.size = 2 := by rw [← hcb]; exact cat_two hin2
   have hsz2 : (1 : Int) ≤ (cb.size : Int) := by omega
   have HMB := xH (show mB n kk ss = (((cb.toList == n.toList) || (sb.toList == n.toList)) || (decide (n.size = 1) && ((cb.extract 0 1).toList == n.toList)) || ((n.toList == [76, 38]) && ((cb.toList == [76, 117]) || (cb.toList == [76, 108])))) from mB_walk hcb hsb);rw [hcb] at d2;rw [hsb] at d3;clear F0 F1 F2 F3 hcb hsb;go_upto_region 12 with (fail)
   go_cut [74] from 14 to 78 (fun v w' => v = .bool (mB n kk ss) ∧ w' = w3)
   case first =>
    by_cases h1 : cb.toList = n.toList
    ·have b1 : (cb.toList == n.toList) = true := by simp [h1]
     go_wp2_with fail
     go_meet
     exact ⟨by rw [HMB.out]; simp [*], rfl⟩
    have b1 : (cb.toList == n.toList) = false := by simp [h1]
    by_cases h2 : sb.toList = n.toList
    ·have b2 : (sb.toList == n.toList) = true := by simp [h2]
     go_wp2_with fail
     go_meet
     exact ⟨by rw [HMB.out]; simp [*], rfl⟩
    have b2 : (sb.toList == n.toList) = false := by simp [h2]
    by_cases h3 : n.size = 1
    ·have b3 : decide (n.size = 1) = true := decide_eq_true h3;have b3i : ((n.size : Int) == 1) = true := by simp [h3]
     by_cases h4 : (cb.extract 0 1).toList = n.toList
     ·have b4 : ((cb.extract 0 1).toList == n.toList) = true := by simp [h4]
      go_wp2_with fail
      go_meet
      exact ⟨by rw [HMB.out]; simp [*], rfl⟩
     have b4 : ((cb.extract 0 1).toList == n.toList) = false := by simp [h4]
     have h5 : ¬ n.toList = [76, 38] := fun e => by have e2 := yu (a := #[76, 38]) e;rw [e2] at h3;exact absurd h3 (by decide)
     have b5 : (n.toList == [76, 38]) = false := by simp [h5]
     go_wp2_with fail
     go_meet
     exact ⟨by rw [HMB.out]; simp [*], rfl⟩
    have b3 : decide (n.size = 1) = false := decide_eq_false h3;have b3i : ((n.size : Int) == 1) = false := by simp; omega
    by_cases h5 : n.toList = [76, 38]
    ·have b5 : (n.toList == [76, 38]) = true := by simp [h5]
     clear h5;by_cases h6 : cb.toList = [76, 117]
     ·have b6 : (cb.toList == [76, 117]) = true := by simp [h6]
      clear h6;go_wp2_with fail
      go_meet
      exact ⟨by rw [HMB.out]; simp [*], rfl⟩
     have b6 : (cb.toList == [76, 117]) = false := by simp [h6]
     by_cases h7 : cb.toList = [76, 108]
     ·have b7 : (cb.toList == [76, 108]) = true := by simp [h7]
      clear h7;go_wp2_with fail
      go_meet
      exact ⟨by rw [HMB.out]; simp [*], rfl⟩
     have b7 : (cb.toList == [76, 108]) = false := by simp [h7]
     go_wp2_with fail
     go_meet
     exact ⟨by rw [HMB.out]; simp [*], rfl⟩
    have b5 : (n.toList == [76, 38]) = false := by simp [h5]
    go_wp2_with fail
    go_meet
    exact ⟨by rw [HMB.out]; simp [*], rfl⟩
   case rest =>
    obtain ⟨rfl, rfl⟩ := hcut;clear HMB d2 d3;have d0 := D0.out;have d1 := D1.out;cases hm : mB n kk ss
    ·rw [hm, if_neg (by simp)] at hds;have HDS := xH hds;clear hds;go_wp2_with fail
     go_roundw
     case rel => exact ⟨k + 1, by omega, by go_num, by rw [HDS.out]; exact HO4.out, HO5.out, HB3.out, HN5.out⟩
     case measure => simp [intOf]; omega
    ·rw [hm, if_pos rfl] at hds;have HDS := xH hds;clear hds;go_wp2_with (at_builtin; refine wpList_append_rg rfl _ _ rfl w2.heap.size u4 (dl n k) rfl HO4.out lo hi _ rfl rfl HdlL.out HB3.out.size ?_; intro v4 w4 ho4 hb4 hg4 hat4; have HO4n := xH ho4; have HB4 := xH (hb4 _ _ HB3.out (xL _)); have HG4 := xH hg4; have HAt := xH hat4; clear ho4 hb4 hg4 hat4)
     go_roundw
     case rel => exact ⟨k + 1, by omega, by go_num, by rw [HDS.out]; exact HO4n.out, ownR_apart HO5.out HG4.out (fun b hb e => HN5.out b e hb), HB4.out, fun b hb e => by
      rcases HAt.out with h | ⟨q, h, hq⟩
      ·exact HN5.out b (h ▸ hb) e
      ·rw [h] at hb;have e2 : q = b := Option.some.inj hb;have := (World.ownsRow.lt HO5.out.1 b e).2;omega⟩
     case measure => simp [intOf]; omega
  ·obtain rfl : k = 81 := by omega
   clear HG;have HCN := xH (show cnB n = (((n.toList == [67, 110]) || (n.toList == [67])) || (n.toList == [85, 110, 107, 110, 111, 119, 110])) from cn_walk n);go_upto_region 14 with (fail)
   go_cut [88] (fun v w' => v = .bool (cnB n) ∧ w' = wr)
   case first =>
    by_cases h1 : n.toList = [67, 110]
    ·have b1 : (n.toList == [67, 110]) = true := by simp [h1]
     go_wp2_with fail
     go_meet
     exact ⟨by rw [HCN.out]; simp [*], rfl⟩
    have b1 : (n.toList == [67, 110]) = false := by simp [h1]
    by_cases h2 : n.toList = [67]
    ·have b2 : (n.toList == [67]) = true := by simp [h2]
     go_wp2_with fail
     go_meet
     exact ⟨by rw [HCN.out]; simp [*], rfl⟩
    have b2 : (n.toList == [67]) = false := by simp [h2]
    by_cases h3 : n.toList = [85, 110, 107, 110, 111, 119, 110]
    ·have b3 : (n.toList == [85, 110, 107, 110, 111, 119, 110]) = true := by simp [h3]
     go_wp2_with fail
     go_meet
     exact ⟨by rw [HCN.out]; simp [*], rfl⟩
    have b3 : (n.toList == [85, 110, 107, 110, 111, 119, 110]) = false := by simp [h3]
    go_wp2_with fail
    go_meet
    exact ⟨by rw [HCN.out]; simp [*], rfl⟩
   case rest =>
    obtain ⟨rfl, rfl⟩ := hcut;clear HCN;have HBw := xH (HB2.out.trans (HB.out.mono HB2.out.size));cases hc : cnB n
    ·have hF := doc_has HNE.out (comp_has (da 81)) (F := dl n 81) (by rw [hc, if_neg (by simp)]);have hN := doc_none HNE.out comp_ne (F := dl n 81) (by rw [hc, if_neg (by simp)]);have HF := xH hF;have HWf := xH (dl_wf n 81 (xL _));have hlen := dl_len n 81;by_cases h0 : dl n 81 = []
     ·have HI := xH (hN.1 h0);rw [h0] at HO4 HF;obtain rfl := HO4.out.2 rfl;clear hF hN HWf;go_wp2_with fail
      go_ret2
      exact dpb_none HI.out HF.out HBw.out
     ·have HI := xH (show isP n = true by
       cases h : isP n
       ·exact absurd (hN.2 h) h0
       ·rfl)
      obtain ⟨av, qv, rfl⟩ := qN HO4.out;have hpos : ¬ (((dl n 81).length : Int) = 0) := by intro e;exact h0 (List.eq_nil_of_length_eq_zero (by omega))
      have HNew := xH (fun v (h : OwnR wc w2.heap.size v (dl n 81)) => zZ v (dl n 81) 1114111 wc (vP h HWf.out) (by omega) (by decide) (by decide));generalize dl n 81 = F at *;clear hF hN;go_wp2_with fail
      refine (HNew.out _ HO4.out).mono ?_;rintro e w5 ⟨v5, S, rfl, hS, hh, ho, hb5⟩;have HD := xH (dpb_some HI.out hS (fun c => (hh c).trans (HF.out c)) (vP ho (jX hS.2)) (HBw.out.trans (hb5.mono HBw.out.size)));clear hS hh ho hb5;go_wp2_with fail
      go_ret2
      exact HD.out
    ·go_wp2_with fail
     refine (join2_any u5 (.slice none 0 0) (da 81) [] 1114111 wc (vP HO5.out (da_wf 81 (xL _))) (rs_nil _) (by rw [da_len]; omega) (by simp) (by decide) (by decide)).mono ?_;rintro e w4 ⟨vj, J, rfl, hJ, hhJ, hoJ, hb4⟩;have HJ := xH (show ∀ c, Has J c ↔ 0 ≤ c ∧ c ≤ 1114111 ∧ ¬ Has (da 81) c from fun c => by rw [hhJ c, qB_not]; rw [show min (1114111 : Int) 1114111 = 1114111 by decide]);have hF := doc_has HNE.out HJ.out (F := dl n 81 ++ J) (by rw [hc, if_pos rfl]);have h256 : Has J 256 := (HJ.out 256).2 ⟨by decide, by decide, no256⟩;have hJn : J ≠ [] := fun e => by rw [e] at h256; exact has_nil _ h256
     have hN := doc_none HNE.out hJn (F := dl n 81 ++ J) (by rw [hc, if_pos rfl]);have hjl := zB hJ;have hlen := dl_len n 81;have HF := xH hF;have HWf := xH (wf_app (dl_wf n 81 (xL _)) (jX hJ.2));have HI := xH (show isP n = true by
      cases h : isP n
      ·exact absurd (List.append_eq_nil_iff.1 (hN.2 h)).2 hJn
      ·rfl)
     have HO4b := xH (ownR_below HO4.out hb4);have HRJ := xH (vP hoJ (jX hJ.2));have HB4 := xH (HB.out.trans (hb4.mono HB.out.size));have HLs := xH (show (dl n 81).length + J.length ≤ 100000000 by omega);have hJp : 0 < J.length := by
      rcases Nat.eq_zero_or_pos J.length with h | h
      ·exact absurd (List.eq_nil_of_length_eq_zero h) hJn
      ·exact h
     have hFl : (dl n 81 ++ J).length ≤ 600000 := by rw [List.length_append]; omega
     have hpos : ¬ (((dl n 81 ++ J).length : Int) = 0) := by rw [List.length_append]; omega
     clear hJ hhJ hoJ hb4 hF hN h256 hJn HJ;go_upto_region 16 with (at_builtin; refine jb rfl _ _ rfl w2.heap.size u4 (dl n 81) rfl HO4b.out _ J rfl HRJ.out HLs.out HB4.out.size ?_; intro va wa hoa hba; have HOa := xH hoa; have HBa := xH (hba _ _ HB4.out (xL _)); clear hoa hba)
     have HBw2 := xH (HB2.out.trans (HBa.out.mono HB2.out.size));obtain ⟨av, qv, rfl⟩ := qN HOa.out;have HNew := xH (fun v (h : OwnR wa w2.heap.size v (dl n 81 ++ J)) => zZ v (dl n 81 ++ J) 1114111 wa (vP h HWf.out) hFl (by decide) (by decide));generalize dl n 81 ++ J = F at *;go_wp2_with fail
     refine (HNew.out _ HOa.out).mono ?_;rintro e w5 ⟨v5, S, rfl, hS, hh, ho, hb5⟩;have HD := xH (dpb_some HI.out hS (fun c => (hh c).trans (HF.out c)) (vP ho (jX hS.2)) (HBw2.out.trans (hb5.mono HBw2.out.size)));clear hS hh ho hb5;go_wp2_with fail
     go_ret2
     exact HD.out
end prd
end
section
namespace prw
open sq
open Go Go.RowKit bulk ucdp ucdw setp setw prp
theorem rpos_digit (w : World) : Calls Try.prog 121 #[.string ⟨#[100, 105, 103, 105, 116]⟩] w (RD2 [(48, 57)] true w) := by have h := rposix_any ⟨#[100, 105, 103, 105, 116]⟩ w;rw [show jC ⟨#[100, 105, 103, 105, 116]⟩ = [(48, 57)] by decide +kernel, show vz ⟨#[100, 105, 103, 105, 116]⟩ = true by decide +kernel] at h;exact h
theorem rpos_space (w : World) : Calls Try.prog 121 #[.string ⟨#[115, 112, 97, 99, 101]⟩] w (RD2 [(9, 13), (32, 32)] true w) := by have h := rposix_any ⟨#[115, 112, 97, 99, 101]⟩ w;rw [show jC ⟨#[115, 112, 97, 99, 101]⟩ = [(9, 13), (32, 32)] by decide +kernel, show vz ⟨#[115, 112, 97, 99, 101]⟩ = true by decide +kernel] at h;exact h
theorem rpos_word (w : World) : Calls Try.prog 121 #[.string ⟨#[119, 111, 114, 100]⟩] w (RD2 [(48, 57), (65, 90), (95, 95), (97, 122)] true w) := by have h := rposix_any ⟨#[119, 111, 114, 100]⟩ w;rw [show jC ⟨#[119, 111, 114, 100]⟩ = [(48, 57), (65, 90), (95, 95), (97, 122)] by decide +kernel, show vz ⟨#[119, 111, 114, 100]⟩ = true by decide +kernel] at h;exact h
theorem rd2_nil (w : World) : RD2 [] false w (.returned (.tuple #[.slice none 0 0, .bool false])) w := ⟨_, rfl, ⟨fun r hr => (by cases hr), Or.inl ⟨rfl, none, 0, rfl, by omega⟩⟩, Below.refl _ _⟩
theorem resc_any (c : Int) (w : World) : Calls Try.prog 120 #[.int .i64 c] w (RD2 (escP c) (escB c) w) := by
 by_cases h1 : c = 100
 ·subst h1;have HP := xH (rpos_digit w);exact z87
 by_cases h2 : c = 115
 ·subst h2;have HP := xH (rpos_space w);exact z87
 by_cases h3 : c = 119
 ·subst h3;have HP := xH (rpos_word w);exact z87
 by_cases h4 : c = 104
 ·subst h4;go_enter Try.func120, Try.ntmps120;go_wp2_with fail
  go_ret2
  exact ⟨_, rfl, rs_lit (R := [(9, 9), (32, 32), (160, 160), (8192, 8202)]) rfl rfl rfl (by simp) (by simp) (wf_of (by decide +kernel)), qg _ _⟩
 by_cases h5 : c = 118
 ·subst h5;go_enter Try.func120, Try.ntmps120;go_wp2_with fail
  go_ret2
  exact ⟨_, rfl, rs_lit (R := [(10, 13), (133, 133), (8232, 8233)]) rfl rfl rfl (by simp) (by simp) (wf_of (by decide +kernel)), qg _ _⟩
 have HP := xH (show [] = escP c by unfold escP; rw [if_neg h1, if_neg h2, if_neg h3, if_neg h4, if_neg h5]);have HQ := xH (show false = escB c by unfold escB; simp [h1, h2, h3, h4, h5]);go_enter Try.func120, Try.ntmps120;go_wp2_with fail
 go_ret2
 exact yt HP.out HQ.out (rd2_nil _)
end prw
end
section
namespace tkp
open sq
open Go utfp ucdp setp prp tkw
section
variable {p : Pt} (hg : ∀ i, 0 ≤ p.g i ∧ p.g i ≤ 255)
omit hg in
theorem find_at {c : Int} : ∀ {k a j : Nat}, j < k → (∀ i, i < j → p.g (a + i) ≠ c) → p.g (a + j) = c → p.find c k a = some (a + j)
 | 0, _, _, h, _, _ => by omega
 | k + 1, a, 0, _, _, h => by unfold Pt.find; rw [if_pos (by simpa using h)]; rfl
 | k + 1, a, j + 1, hk, hn, h => by
  unfold Pt.find;rw [if_neg (by simpa using hn 0 (by omega)), find_at (k := k) (a := a + 1) (j := j) (by omega) (fun i hi => by have := hn (i + 1) (by omega); rwa [show a + (i + 1) = a + 1 + i by omega] at this) (by rwa [show a + 1 + j = a + (j + 1) by omega])]
  congr 1
  omega
end
end tkp
end
section
namespace rtw
open sq
open Go Go.RowKit Go.Maps utfp utfw ucdp setp setw prp tkp rtp
open tkw (sg sg_bd vJ jM qK tkR qO qM vI)
open prd (zB dprop_any)
open prw (escP_canon resc_any)
theorem find_no {p : Pt} {c : Int} : ∀ {k a : Nat}, (∀ j, j < k → p.g (a + j) ≠ c) → p.find c k a = none
 | 0, _, _ => rfl
 | k + 1, a, h => by unfold Pt.find;rw [if_neg (show ¬ p.g a = c from h 0 (by omega))];exact find_no fun j hj => by have := h (j + 1) (by omega); rwa [show a + 1 + j = a + (j + 1) by omega]
def BrRel (w : World) (B : Nat) (S : ByteArray) (p : Pt) (a : Nat) (c : Int) (vk : Value) (wr : World) : Prop :=
 ∃ l : Nat, a + l ≤ S.size ∧ Hid (∀ j, j < l → p.g (a + j) ≠ c) ∧ vk = .int .i64 ((a + l : Nat) : Int) ∧ FR w B S p wr
def BrB (r : Option (ByteArray × Nat)) (w : World) (e : Ending) (w' : World) : Prop := (match r with | none => e = .returned (.tuple #[.string ⟨#[]⟩, .int .i64 (-1)]) | some x => e = .returned (.tuple #[.string x.1, .int .i64 (x.2 : Nat)])) ∧ Below w.heap.size w w'
theorem brb_none {r : Option (ByteArray × Nat)} {w w' : World} (hr : r = none) (hb : Below w.heap.size w w') : BrB r w (.returned (.tuple #[.string ⟨#[]⟩, .int .i64 (-1)])) w' := by subst hr; exact ⟨rfl, hb⟩
theorem brb_some {r : Option (ByteArray × Nat)} {s : ByteArray} {b : Nat} {w w' : World} (hr : r = some (s, b)) (hb : Below w.heap.size w w') : BrB r w (.returned (.tuple #[.string s, .int .i64 (b : Nat)])) w' := by subst hr; exact ⟨rfl, hb⟩
theorem zM {S : ByteArray} {p : Pt} (h : Pat S p) {a : Nat} (ha : a < p.n) : a < (p.char a).2 ∧ (p.char a).2 ≤ p.n := by have := tkw.char_pure (jS h) (a := a) (by omega);exact ⟨this.2.2.2 ha, this.2.2.1⟩
theorem braced_any (S : ByteArray) (p : Pt) (w : World) (hP : Pat S p) (i : Nat) (hi : i ≤ p.n) : Calls Try.prog 118 #[txV S p, .int .i64 i] w (BrB (brac p i) w) := by
 have hn := hP.n;have h2 := hP.le;have HP := xH hP;have HN := xH hn;clear hP;rw [hn] at hi;unfold txV txC;go_enter Try.func118, Try.ntmps118;go_upto_region 1 with (fail)
 generalize hW : (w.alloc _) = W;have F0 := xH (zG (S := S) (p := p) hW);obtain ⟨B, hB⟩ : ∃ B, w.heap.size = B := ⟨_, rfl⟩;rw [hB] at F0 ⊢;clear hW hB;obtain ⟨c0, c1, c2, c3⟩ := F0.out.c;have hgb := gb HP.out;by_cases h0 : S.size ≤ i
 ·have HR := xH (show brac p i = none by unfold brac; rw [if_pos (by rw [HN.out]; exact h0)]);go_wp2_with fail
  go_ret2
  exact brb_none HR.out F0.out.bel
 have hlt : i < S.size := by omega
 by_cases hc : p.g i = 123
 ·have hcb : (p.g i != 123) = false := by simp [hc]
  have hcb2 : (p.g i == 123) = true := by simp [hc]
  have HR0 := xH (show brac p i = (match p.find 125 (p.n - (i + 1)) (i + 1) with | none => none | some k => some (p.sub (i + 1) k, k + 1)) by unfold brac; rw [if_neg (by rw [HN.out]; exact h0), if_pos hc]; rfl);clear hc;clear c0 c1 c2 c3;obtain ⟨c0, c1, c2, c3⟩ := F0.out.c;go_wp2_with fail
  go_loopw [8] (fun vk wr => BrRel w B S p (i + 1) 125 vk wr) (fun vk _ => S.size - (intOf vk).toNat)
  case atStart => exact ⟨0, by omega, xH (fun j h => absurd h (Nat.not_lt_zero j)), rfl, F0.out⟩
  case round =>
   obtain ⟨l, hl, hd, rfl, hF⟩ := hrel;have F2 := xH hF;clear hF;obtain ⟨c0, c1, c2, c3⟩ := F2.out.c;by_cases hl2 : i + 1 + l < S.size
   ·by_cases he : p.g (i + 1 + l) = 125
    ·have heb : (p.g (i + 1 + l) == 125) = true := by simp [he]
     have HR := xH (show brac p i = some (S.extract (i + 1) (i + 1 + l), i + 1 + l + 1) by rw [HR0.out, find_at (by rw [HN.out]; omega) hd.out he, sub_ext HP.out (show i + 1 ≤ i + 1 + l by omega) (show i + 1 + l ≤ p.n by rw [HN.out]; omega)]);clear he;go_wp2_with fail
     go_ret2
     exact brb_some HR.out F2.out.bel
    ·have heb : (p.g (i + 1 + l) == 125) = false := by simp [he]
     have HE := xH he;clear he;go_wp2_with fail
     refine ⟨⟨l + 1, by omega, xH (fun j hj => by
      by_cases e : j = l
      ·subst e; exact HE.out
      ·exact hd.out j (by omega)), rfl, F2.out⟩, by simp only [intOf]; omega⟩
   ·have HR := xH (show brac p i = none by rw [HR0.out, find_no fun j hj => hd.out j (by rw [HN.out] at hj; omega)]);go_wp2_with fail
    go_ret2
    exact brb_none HR.out F2.out.bel
 ·have hcb : (p.g i != 123) = true := by simp [hc]
  have hcb2 : (p.g i == 123) = false := by simp [hc]
  have HR := xH (show brac p i = some (p.sub i (p.char i).2, (p.char i).2) by unfold brac; rw [if_neg (by rw [HN.out]; exact h0), if_neg hc]);obtain ⟨d1, d2⟩ := zM HP.out (a := i) (by rw [HN.out]; exact hlt);rw [HN.out] at d2;clear hc;go_wp2_with fail
  refine xM (char_any S p _ HP.out i (by rw [HN.out]; exact hlt)) ?_;rintro e w1 ⟨rfl, hb⟩;have F1 := xH (F0.out.step hb);clear hb c0 c1 c2 c3;obtain ⟨c0, c1, c2, c3⟩ := F1.out.c;have hxt := sub_ext HP.out (show i ≤ (p.char i).2 by omega) (show (p.char i).2 ≤ p.n by rw [HN.out]; omega);have d3 : (i : Int) ≤ ((p.char i).2 : Int) := by omega
  have d4 : ((p.char i).2 : Int) ≤ (S.size : Int) := by omega
  generalize (p.char i).2 = z at *;generalize (p.char i).1 = y at *;go_wp2_with fail
  go_ret2
  exact brb_some HR.out F1.out.bel
def MaB (r : Except Int (Option (List Rg × Bool × Nat))) (w : World) (e : Ending) (w' : World) : Prop := (match r with
 | .error x => ∃ j : Int, e = .returned (.tuple #[.slice none 0 0, .bool false, .int .i64 j, .bool true, .int .i64 x])
 | .ok none => ∃ (v : Value) (b : Bool) (j : Int), (∃ a c d, v = .slice a c d) ∧ e = .returned (.tuple #[v, .bool b, .int .i64 j, .bool false, .int .i64 0])
 | .ok (some x) => ∃ v, e = .returned (.tuple #[v, .bool x.2.1, .int .i64 (x.2.2 : Nat), .bool true, .int .i64 0]) ∧ OwnR w' w.heap.size v x.1) ∧ Below w.heap.size w w'
theorem mab_err {r : Except Int (Option (List Rg × Bool × Nat))} {x j : Int} {w w' : World} (hr : r = .error x) (hb : Below w.heap.size w w') : MaB r w (.returned (.tuple #[.slice none 0 0, .bool false, .int .i64 j, .bool true, .int .i64 x])) w' := by subst hr; exact ⟨⟨j, rfl⟩, hb⟩
theorem mab_none {r : Except Int (Option (List Rg × Bool × Nat))} {v : Value} {b : Bool} {j : Int} {w w' : World} (hr : r = .ok none) (hv : ∃ a c d, v = .slice a c d) (hb : Below w.heap.size w w') : MaB r w (.returned (.tuple #[v, .bool b, .int .i64 j, .bool false, .int .i64 0])) w' := by subst hr; exact ⟨⟨v, b, j, hv, rfl⟩, hb⟩
theorem mab_some {r : Except Int (Option (List Rg × Bool × Nat))} {v : Value} {b : Bool} {j : Nat} {l : List Rg} {w w' : World} (hr : r = .ok (some (l, b, j))) (ho : OwnR w' w.heap.size v l) (hb : Below w.heap.size w w') : MaB r w (.returned (.tuple #[v, .bool b, .int .i64 j, .bool true, .int .i64 0])) w' := by subst hr; exact ⟨⟨v, rfl, ho⟩, hb⟩
theorem esc_len (c : Int) : (escP c).length ≤ 590000 := zB (escP_canon c)
theorem hat_iff (s : ByteArray) : hat s = true ↔ ∃ h : 0 < s.size, (s[0]'h) = 94 := by
 unfold hat pre;have hz : (⟨#[94]⟩ : ByteArray).size = 1 := rfl;simp only [hz, dK, dF];constructor
 ·rintro ⟨h1, h2⟩;refine ⟨h1, ?_⟩;have h3 : 0 < (s.extract 0 1).size := by rw [ByteArray.size_extract]; omega
  have h4 := ByteArray.getElem_extract (b := s) (start := 0) (stop := 1) (i := 0) h3;rw [show s[0] = s[0 + 0] from rfl, ← h4];have : ∀ (t : ByteArray) (e : s.extract 0 1 = t) (ht : 0 < t.size), (s.extract 0 1)[0]'h3 = t[0]'ht := fun t e ht => by subst e; rfl
  rw [this ⟨#[94]⟩ h2 (by decide)];rfl
 ·rintro ⟨h1, h2⟩;refine ⟨h1, ?_⟩;apply toList_inj;rw [Lib.toList_data, Lib.toList_data];apply List.ext_getElem
  ·rw [Array.length_toList, show (s.extract 0 1).data.size = (s.extract 0 1).size from rfl, ByteArray.size_extract]; simp; omega
  ·intro i h3 h4;have h5 : i = 0 := by simp at h4; exact h4
   subst h5;have h6 : 0 < (s.extract 0 1).size := by rw [ByteArray.size_extract]; omega
   have h7 := ByteArray.getElem_extract (b := s) (start := 0) (stop := 1) (i := 0) h6;rw [Array.getElem_toList];rw [show (s.extract 0 1).data[0] = (s.extract 0 1)[0]'h6 from rfl, h7];exact h2
theorem many_any (S : ByteArray) (p : Pt) (w : World) (hP : Pat S p) (c : Int) (i : Nat) (hi : i ≤ p.n) (hc0 : 0 ≤ c) (hc1 : c ≤ 1114111) : Calls Try.prog 96 #[txV S p, .int .i64 c, .int .i64 i] w (MaB (many p c i) w) := by
 have hn := hP.n;have h2 := hP.le;have HP := xH hP;have HN := xH hn;clear hP;rw [hn] at hi;clear hn;have hm1 := vH p;have hm2 := most_ge p;unfold txV txC;go_enter Try.func96, Try.ntmps96;go_upto_region 1 with (fail)
 generalize hW : (w.alloc _) = W;have F0 := xH (zG (S := S) (p := p) hW);obtain ⟨B, hB⟩ : ∃ B, w.heap.size = B := ⟨_, rfl⟩;rw [hB] at F0 ⊢;clear hW hB;obtain ⟨c0, c1, c2, c3⟩ := F0.out.c;by_cases h1 : c = 112
 ·have HC := xH (show c = 112 ∨ c = 80 from Or.inl h1);have HCV := xH (show decide (c = 80) = false by rw [h1]; rfl);have hb1 : (c == 112) = true := by simp [h1]
  have hb2 : (c == 80) = false := by simp [h1]
  clear h1;cases hbr : brac p i with
  | none =>
   exact z37
  | some x =>
   obtain ⟨s, b⟩ := x;go_wp2_with fail
   have HB := braced_any S p W HP.out i (by rw [HN.out]; exact hi);rw [hbr] at HB;refine xM HB ?_;rintro e w1 ⟨rfl, hb⟩;have F1 := xH (F0.out.step hb);clear hb c0 c1 c2 c3;obtain ⟨c0, c1, c2, c3⟩ := F1.out.c;simp only;cases hh : hat s with
   | true =>
    obtain ⟨hs0, hs1⟩ := (hat_iff s).1 hh;obtain ⟨U, hU⟩ : ∃ U, unhat s = U := ⟨_, rfl⟩;have HU := xH hU;have hu : s.extract 1 s.size = U := by rw [← hU]; unfold unhat; rw [if_pos hh]
    clear hU;have hs2 : ((s[0]'hs0).toNat : Int) = 94 := by rw [hs1]; rfl
    have hs3 : (0 : Int) < (s.size : Int) := by omega
    have hs4 : (1 : Int) ≤ (s.size : Int) := by omega
    go_wp2_with fail
    refine xM (dprop_any U _) ?_;rintro e w2 ⟨v2, Z, rfl, hZ, hzp, hzr, hb⟩;have F2 := xH (F1.out.step hb);clear hb c0 c1 c2 c3;obtain ⟨c0, c1, c2, c3⟩ := F2.out.c;have HZR := xH hzr;have HZL := xH (zB hZ);have HNP := xH (show normR p.most Z = normR p.most (propL U) from tkw.norm_prop (vH p) hzp);obtain ⟨z1, z2, rfl⟩ := jg hzr;clear hzr hZ hzp;cases hP : isP U with
    | false =>
     exact z73
    | true =>
     have HR := xH (show many p c i = .ok (some (normR p.most (propL U), (!false), b)) by unfold many; rw [if_pos HC.out, hbr]; simp only [HU.out, hP, if_true]; simp [hh, HCV.out]);exact z33
   | false =>
    have HU : Hid (unhat s = s) := xH (by unfold unhat; rw [if_neg (by simp [hh])]);by_cases hs0 : 0 < s.size
    ·have hs1 : ¬ ((s[0]'hs0).toNat : Int) = 94 := fun e => by exact z117
     have hs3 : (0 : Int) < (s.size : Int) := by omega
     have hs2 : (((s[0]'hs0).toNat : Int) == 94) = false := by simp [hs1]
     go_wp2_with fail
     refine xM (dprop_any s _) ?_;rintro e w2 ⟨v2, Z, rfl, hZ, hzp, hzr, hb⟩;have F2 := xH (F1.out.step hb);clear hb c0 c1 c2 c3;obtain ⟨c0, c1, c2, c3⟩ := F2.out.c;have HZR := xH hzr;have HZL := xH (zB hZ);have HNP := xH (show normR p.most Z = normR p.most (propL s) from tkw.norm_prop (vH p) hzp);obtain ⟨z1, z2, rfl⟩ := jg hzr;clear hzr hZ hzp;cases hP : isP s with
     | false =>
      exact z73
     | true =>
      exact z21
    ·have hs3 : ¬ (0 : Int) < (s.size : Int) := by omega
     go_wp2_with fail
     refine xM (dprop_any s _) ?_;rintro e w2 ⟨v2, Z, rfl, hZ, hzp, hzr, hb⟩;have F2 := xH (F1.out.step hb);clear hb c0 c1 c2 c3;obtain ⟨c0, c1, c2, c3⟩ := F2.out.c;have HZR := xH hzr;have HZL := xH (zB hZ);have HNP := xH (show normR p.most Z = normR p.most (propL s) from tkw.norm_prop (vH p) hzp);obtain ⟨z1, z2, rfl⟩ := jg hzr;clear hzr hZ hzp;cases hP : isP s with
     | false =>
      exact z73
     | true =>
      exact z21
 ·by_cases h2 : c = 80
  ·have HC := xH (show c = 112 ∨ c = 80 from Or.inr h2);have HCV := xH (show decide (c = 80) = true by rw [h2]; rfl);have hb1 : (c == 112) = false := by simp [h2]
   have hb2 : (c == 80) = true := by simp [h2]
   clear h1 h2;cases hbr : brac p i with
   | none =>
    exact z37
   | some x =>
    obtain ⟨s, b⟩ := x;go_wp2_with fail
    have HB := braced_any S p W HP.out i (by rw [HN.out]; exact hi);rw [hbr] at HB;refine xM HB ?_;rintro e w1 ⟨rfl, hb⟩;have F1 := xH (F0.out.step hb);clear hb c0 c1 c2 c3;obtain ⟨c0, c1, c2, c3⟩ := F1.out.c;simp only;cases hh : hat s with
    | true =>
     obtain ⟨hs0, hs1⟩ := (hat_iff s).1 hh;obtain ⟨U, hU⟩ : ∃ U, unhat s = U := ⟨_, rfl⟩;have HU := xH hU;have hu : s.extract 1 s.size = U := by rw [← hU]; unfold unhat; rw [if_pos hh]
     clear hU;have hs2 : ((s[0]'hs0).toNat : Int) = 94 := by rw [hs1]; rfl
     have hs3 : (0 : Int) < (s.size : Int) := by omega
     have hs4 : (1 : Int) ≤ (s.size : Int) := by omega
     go_wp2_with fail
     refine xM (dprop_any U _) ?_;rintro e w2 ⟨v2, Z, rfl, hZ, hzp, hzr, hb⟩;have F2 := xH (F1.out.step hb);clear hb c0 c1 c2 c3;obtain ⟨c0, c1, c2, c3⟩ := F2.out.c;have HZR := xH hzr;have HZL := xH (zB hZ);have HNP := xH (show normR p.most Z = normR p.most (propL U) from tkw.norm_prop (vH p) hzp);obtain ⟨z1, z2, rfl⟩ := jg hzr;clear hzr hZ hzp;cases hP : isP U with
     | false =>
      exact z73
     | true =>
      have HR := xH (show many p c i = .ok (some (normR p.most (propL U), (!true), b)) by unfold many; rw [if_pos HC.out, hbr]; simp only [HU.out, hP, if_true]; simp [hh, HCV.out]);exact z33
    | false =>
     have HU : Hid (unhat s = s) := xH (by unfold unhat; rw [if_neg (by simp [hh])]);by_cases hs0 : 0 < s.size
     ·have hs1 : ¬ ((s[0]'hs0).toNat : Int) = 94 := fun e => by exact z117
      have hs3 : (0 : Int) < (s.size : Int) := by omega
      have hs2 : (((s[0]'hs0).toNat : Int) == 94) = false := by simp [hs1]
      go_wp2_with fail
      refine xM (dprop_any s _) ?_;rintro e w2 ⟨v2, Z, rfl, hZ, hzp, hzr, hb⟩;have F2 := xH (F1.out.step hb);clear hb c0 c1 c2 c3;obtain ⟨c0, c1, c2, c3⟩ := F2.out.c;have HZR := xH hzr;have HZL := xH (zB hZ);have HNP := xH (show normR p.most Z = normR p.most (propL s) from tkw.norm_prop (vH p) hzp);obtain ⟨z1, z2, rfl⟩ := jg hzr;clear hzr hZ hzp;cases hP : isP s with
      | false =>
       exact z73
      | true =>
       exact z22
     ·have hs3 : ¬ (0 : Int) < (s.size : Int) := by omega
      go_wp2_with fail
      refine xM (dprop_any s _) ?_;rintro e w2 ⟨v2, Z, rfl, hZ, hzp, hzr, hb⟩;have F2 := xH (F1.out.step hb);clear hb c0 c1 c2 c3;obtain ⟨c0, c1, c2, c3⟩ := F2.out.c;have HZR := xH hzr;have HZL := xH (zB hZ);have HNP := xH (show normR p.most Z = normR p.most (propL s) from tkw.norm_prop (vH p) hzp);obtain ⟨z1, z2, rfl⟩ := jg hzr;clear hzr hZ hzp;cases hP : isP s with
      | false =>
       exact z73
      | true =>
       exact z22
  ·have HC := xH (show ¬ (c = 112 ∨ c = 80) by omega);have hb1 : (c == 112) = false := by simp [h1]
   have hb2 : (c == 80) = false := by simp [h2]
   clear h1 h2;by_cases h3 : 65 ≤ c
   ·by_cases h4 : c ≤ 90
    ·have HCB := xH (show capB c = true by simp [capB, h3, h4]);have HLC := xH (show lowC c = c + 32 by unfold lowC; rw [HCB.out]; rfl);go_wp2_with fail
     refine xM (resc_any (c + 32) _) ?_;rintro e w1 ⟨v1, rfl, hzr, hb⟩;have F1 := xH (F0.out.step hb);clear hb c0 c1 c2 c3;obtain ⟨c0, c1, c2, c3⟩ := F1.out.c;have HZR := xH hzr;obtain ⟨z1, z2, rfl⟩ := jg hzr;clear hzr;go_wp2_with fail
     refine xM (cut_any S p _ HP.out _ (escP (c + 32)) HZR.out (by have := esc_len (c + 32); omega)) ?_;rintro e w3 ⟨v3, rfl, ho, hb⟩;have HO := xO F1.out.x ho;have F3 := xH (F1.out.step hb);clear hb ho c0 c1 c2 c3;obtain ⟨a1, a2, rfl⟩ := qN HO.out;cases hE : escB (c + 32) with
     | false =>
      exact z74
     | true =>
      have HR := xH (show many p c i = .ok (some (normR p.most (escP (c + 32)), true, i)) by unfold many; rw [if_neg HC.out, HLC.out, hE, HCB.out]; rfl);exact z172
    ·have HCB := xH (show capB c = false by simp [capB, h4]);have HLC := xH (show lowC c = c by unfold lowC; rw [HCB.out]; rfl);go_wp2_with fail
     refine xM (resc_any (c) _) ?_;rintro e w1 ⟨v1, rfl, hzr, hb⟩;have F1 := xH (F0.out.step hb);clear hb c0 c1 c2 c3;obtain ⟨c0, c1, c2, c3⟩ := F1.out.c;have HZR := xH hzr;obtain ⟨z1, z2, rfl⟩ := jg hzr;clear hzr;go_wp2_with fail
     refine xM (cut_any S p _ HP.out _ (escP (c)) HZR.out (by have := esc_len (c); omega)) ?_;rintro e w3 ⟨v3, rfl, ho, hb⟩;have HO := xO F1.out.x ho;have F3 := xH (F1.out.step hb);clear hb ho c0 c1 c2 c3;obtain ⟨a1, a2, rfl⟩ := qN HO.out;cases hE : escB (c) with
     | false =>
      exact z74
     | true =>
      exact z48
   ·have HCB := xH (show capB c = false by simp [capB, h3]);have HLC := xH (show lowC c = c by unfold lowC; rw [HCB.out]; rfl);go_wp2_with fail
    refine xM (resc_any (c) _) ?_;rintro e w1 ⟨v1, rfl, hzr, hb⟩;have F1 := xH (F0.out.step hb);clear hb c0 c1 c2 c3;obtain ⟨c0, c1, c2, c3⟩ := F1.out.c;have HZR := xH hzr;obtain ⟨z1, z2, rfl⟩ := jg hzr;clear hzr;go_wp2_with fail
    refine xM (cut_any S p _ HP.out _ (escP (c)) HZR.out (by have := esc_len (c); omega)) ?_;rintro e w3 ⟨v3, rfl, ho, hb⟩;have HO := xO F1.out.x ho;have F3 := xH (F1.out.step hb);clear hb ho c0 c1 c2 c3;obtain ⟨a1, a2, rfl⟩ := qN HO.out;cases hE : escB (c) with
    | false =>
     exact z74
    | true =>
     exact z48
end rtw
end
end Go.Proofs.Ytdgfclbajjjcgaa
