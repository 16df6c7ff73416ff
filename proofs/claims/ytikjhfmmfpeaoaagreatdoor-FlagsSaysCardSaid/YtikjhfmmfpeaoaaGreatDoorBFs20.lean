/- T -/
import Derived.BigQuiet
import Derived.Laws.BitsLemmas
import Derived.Lib.QuietBelow
import Derived.RegionTactic
import Derived.Test.YtikjhfmmfpeaoaaGreatDoorBFs18
import Derived.Test.YtikjhfmmfpeaoaaGreatDoorBFs19
set_option maxHeartbeats 16000000
set_option maxRecDepth 1000000
namespace Go.Proofs.YtikjhfmmfpeaoaaGreatDoor
section
namespace rtw
open sq
open Go Go.RowKit Go.Maps utfp utfw ucdp setp setw prp tkp rtp
open tkw (sg sg_bd vJ jM qK tkR qO qM vI)
open Go.Sort
def kS : Array Value := #[.string ⟨#[58]⟩, .string ⟨#[124]⟩, .string ⟨#[62]⟩, .string ⟨#[61]⟩, .string ⟨#[33]⟩, .string ⟨#[60, 61]⟩, .string ⟨#[60, 33]⟩]
def kN : Array Value := #[.int .i64 2, .int .i64 3, .int .i64 4, .int .i64 5, .int .i64 6, .int .i64 7, .int .i64 8]
theorem kinds_at {k : Nat} (hk : k < 7) : ∃ (s : List UInt8) (n : Int), kindsT.drop k = (s, n) :: kindsT.drop (k + 1) ∧ kS[k]? = some (.string ⟨s.toArray⟩) ∧ kN[k]? = some (.int .i64 n) ∧ s.length ≤ 2 ∧ s ≠ [] := by
 obtain rfl | rfl | rfl | rfl | rfl | rfl | rfl : k = 0 ∨ k = 1 ∨ k = 2 ∨ k = 3 ∨ k = 4 ∨ k = 5 ∨ k = 6 := by omega
 all_goals exact ⟨_, _, rfl, rfl, rfl, by decide, by decide⟩
structure OpAt (w : World) (B : Nat) (S : ByteArray) (p : Pt) (a1 a2 : Nat) (wr : World) : Prop where
 fg : FG w B S p wr
 s : wr.heap[a1]? = some (.cells kS 9 (0, 0))
 n : wr.heap[a2]? = some (.cells kN 3 (0, 0))
theorem OpAt.step {w W W' : World} {B a1 a2 : Nat} {S : ByteArray} {p : Pt} (h : OpAt w B S p a1 a2 W) (hb : Below W.heap.size W W') : OpAt w B S p a1 a2 W' := ⟨h.fg.step hb, qQ h.s hb, qQ h.n hb⟩
theorem OpAt.set {w W : World} {B a1 a2 : Nat} {S : ByteArray} {p : Pt} (h : OpAt w B S p a1 a2 W) (cs : Array Value) (hc : cs.size = 16) : OpAt w B S p a1 a2 (W.setRow (B + 1) cs) := by
 obtain ⟨old, hg, hz⟩ := h.fg.g;have n1 : a1 ≠ B + 1 := by rintro rfl;have := h.s.symm.trans hg;simp only [dG, Obj.cells.injEq] at this;exact absurd this.2.1 (by decide)
 have n2 : a2 ≠ B + 1 := by rintro rfl;have := h.n.symm.trans hg;simp only [dG, Obj.cells.injEq] at this;exact absurd this.2.1 (by decide)
 exact ⟨⟨⟨h.fg.hB, below_setRow h.fg.below (by omega) _, ⟨(tkw.setRow_other W (B + 1) B cs (by omega)).trans h.fg.x.h⟩⟩, ⟨cs, setRow_heap _ _ _ _ _ _ hg, hc⟩⟩, (tkw.setRow_other W (B + 1) a1 cs (by omega)).trans h.s, (tkw.setRow_other W (B + 1) a2 cs (by omega)).trans h.n⟩
def OpRel (w : World) (B : Nat) (S : ByteArray) (p : Pt) (f a1 a2 : Nat) (vk : Value) (wr : World) : Prop :=
 ∃ k : Nat, k ≤ 7 ∧ vk = .int .i64 k ∧ Hid (kindR p f (f + 2) (kindsT.drop k) = kindR p f (f + 2) kindsT) ∧ Hid (OpAt w B S p a1 a2 wr)
theorem held_store_got {o : Oper} {a : Act} {W : World} {K : Act → World → Prop} {Q : Exit → Act → World → Prop} {ys : Nat → Option Bool} (hgd : o.guard = none) (hd : o.dst = none) (x y : Operand) (ho : o.op = .store 70 x y)
 (g : Nat) (hx : a.eval x = .pointer (some ⟨g, 0, none⟩)) (old cs : Array Value) (hg : W.heap[g]? = some (.cells old 70 (0, 0))) (hs : old.size = 16) (hc : cs.size = 16) (h1 : ∀ u ∈ cs.toList, u.oneCell' = true) (hy : a.eval y = .agg cs)
 (h : K a (W.setRow g cs)) : if Region.wanted o ys = true then Oper.wp Tryz.prog o a W K Q else K (a.put o.dst undef) W := by
 rw [if_pos (by unfold Region.wanted; rw [hgd])];unfold Oper.wp execOp;simp only [ho, hx, hy, Instr.storeAt, Instr.sureAddr, Sem.run_bind, Sem.run_pure, Result.andThen_ok, run_store_got W g old cs hg hs hc h1];simpa [Oper.upon, hd, Act.put] using h
theorem jk {ops : Array Oper} {rest : List Oper} {o : Oper} {a : Act} {w : World} {Q : Exit → Act → World → Prop} (hgd : o.guard = none) (x : Operand) (ho : o.op = .load 70 x)
 (g : Nat) (hx : a.eval x = .pointer (some ⟨g, 0, none⟩)) (cs : Array Value) (hg : w.heap[g]? = some (.cells cs 70 (0, 0))) (hc : cs.size = 16)
 (h : wpList Tryz.prog ops Q rest (a.put o.dst (.agg cs)) w) : wpList Tryz.prog ops Q (o :: rest) a w := by
 exact wpList_load_row hgd 70 x ho g hx 70 cs (0, 0) _ hg Tryz.underlying70 rfl (by rw [gotInfo, hc]) h
theorem open_any (S : ByteArray) (p : Pt) (w : World) (hP : Pat S p) (f : Nat) (hf : f < p.n) : Calls Tryz.prog 46 #[txV S p, .int .i64 f] w (GotB w (openR p f)) := by
 have hn := hP.n;have h2 := hP.le;have HP := xH hP;have HN := xH hn;clear hP;rw [hn] at hf;clear hn;unfold txV txC;go_enter Tryz.func46, Tryz.ntmps46;go_upto_region 1 with (fail)
 generalize hW : (w.alloc _).alloc _ = W;have F0 := xH (fg_start (S := S) (p := p) hW);obtain ⟨B, hB⟩ : ∃ B, w.heap.size = B := ⟨_, rfl⟩;rw [hB] at F0 ⊢;clear hW hB;obtain ⟨c0, c1, c2, c3⟩ := F0.out.c;go_wp2_with fail
 refine xM (qG S p _ HP.out (f + 1) (by omega) [42] ⟨#[42]⟩ rfl (by decide) (Or.inl (by rw [HN.out]; omega))) ?_;rintro e w1 ⟨rfl, hb⟩;have F1 := xH (F0.out.step hb);clear hb c0 c1 c2 c3;obtain ⟨c0, c1, c2, c3⟩ := F1.out.c;cases h42 : p.has [42] (f + 1) with
 | true =>
  have HR := xH (show openR p f = verbR p f by unfold openR; rw [if_pos h42]);have hin := qR HP.out h42;rw [HN.out] at hin;simp only [dA, Nat.zero_add] at hin;go_wp2_with fail
  refine xM (verb_any S p _ HP.out f (by rw [HN.out]; omega)) ?_;exact z124
 | false =>
  go_wp2_with fail
  refine xM (qG S p _ HP.out (f + 1) (by omega) [63] ⟨#[63]⟩ rfl (by decide) (Or.inl (by rw [HN.out]; omega))) ?_;rintro e w2 ⟨rfl, hb⟩;have F2 := xH (F1.out.step hb);clear hb c0 c1 c2 c3;obtain ⟨c0, c1, c2, c3⟩ := F2.out.c;cases h63 : p.has [63] (f + 1) with
  | false =>
   have HR := xH (show openR p f = gtok { kind := 10, n := 1 } f (f + 1) by unfold openR; rw [if_neg (by simp [h42]), if_pos h63]);go_wp2_with fail
   refine xM (qF (.slice none 0 0) ({ kind := 10, n := 1 }) (f) (f + 1) _ (k := B) (qm _ _)) ?_;exact z74
  | true =>
   have hin := qR HP.out h63;rw [HN.out] at hin;simp only [dA, Nat.zero_add] at hin;have HO1 := xH (show openR p f = (if f + 2 = p.n then Except.error (20, (p.n : Int)) else match kindR p f (f + 2) kindsT with | some g => g | none => openK p f (f + 2)) by unfold openR; rw [if_neg (by simp [h42]), if_neg (by simp [h63])]; rfl);by_cases hend : f + 2 = S.size
   ·have HR := xH (HO1.out.trans (if_pos (by rw [HN.out]; exact hend)));have he : (f : Int) + 2 = (S.size : Int) := by omega
    go_wp2_with fail
    refine xM (end_any S p _ HP.out) ?_;exact z187
   have he : ¬ (f : Int) + 2 = (S.size : Int) := by omega
   have HO := xH (HO1.out.trans (if_neg (by rw [HN.out]; exact hend)));clear HO1;have hw1 := qK w2 (.cells kS 9 (0, 0));have hn1 := heap_alloc_new w2 (.cells kS 9 (0, 0));have hw2 := qK (w2.alloc (.cells kS 9 (0, 0))) (.cells kN 3 (0, 0));have hn2 := heap_alloc_new (w2.alloc (.cells kS 9 (0, 0))) (.cells kN 3 (0, 0));have O3 : Hid (OpAt w B S p w2.heap.size (w2.heap.size + 1) ((w2.alloc (.cells kS 9 (0, 0))).alloc (.cells kN 3 (0, 0)))) := xH ⟨(F2.out.step hw1).step hw2, qQ hn1 hw2, by rw [World.size_alloc] at hn2; exact hn2⟩;clear hw1 hn1 hw2 hn2;unfold kS kN at O3;go_wp2_with fail
   clear F2 c0 c1 c2 c3
   go_loopw [8] (fun vk wr => OpRel w B S p f w2.heap.size (w2.heap.size + 1) vk wr) (fun vk _ => 7 - (intOf vk).toNat)
   case atStart => exact ⟨0, by omega, rfl, xH rfl, O3⟩
   case round =>
    obtain ⟨k, hk, rfl, hki, O4⟩ := hrel;have F4 := xH O4.out.fg;generalize w2.heap.size = a1 at *;clear O3;obtain ⟨c0, c1, c2, c3⟩ := F4.out.c;by_cases hk7 : k < 7
    ·obtain ⟨s, n, hd, hs, hnn, hl, hne⟩ := kinds_at hk7;have cs1 : wr.cell? ⟨a1, k, none⟩ = some (.string ⟨s.toArray⟩) := by simp only [World.cell?, O4.out.s]; simpa using hs
     have cn1 : wr.cell? ⟨a1 + 1, k, none⟩ = some (.int .i64 n) := by simp only [World.cell?, O4.out.n]; simpa using hnn
     have HKR := xH ((show kindR p f (f + 2) kindsT = (if p.has s (f + 2) = true then some (gtok { kind := 10, n := n } f (f + 2 + s.length)) else kindR p f (f + 2) (kindsT.drop (k + 1))) by rw [← hki.out, hd, kindR]));have HSS := xH hs;have HNN := xH hnn;clear hs hnn hki hd;have HIS := xH (fun d os => qG S p (grow (redrawn wr d) os) HP.out (f + 2) (by omega) s ⟨s.toArray⟩ rfl (by omega) (Or.inr hne));cases hh : p.has s (f + 2) with
     | false =>
      have HN1 := xH (HKR.out.trans (if_neg (by simp [hh])));have cA : ∀ d os, Calls Tryz.prog 25 #[.agg #[.string S, .bool p.u, .bool p.x, .int .i64 p.most], .int .i64 ((f : Int) + 2), .string ⟨s.toArray⟩] (grow (redrawn wr d) os) fun e w'' => e = .returned (.bool false) ∧ ∃ q : Regrown, w'' = grow (redrawn wr q.d) q.os := fun d os => by have h := HIS.out d os;rw [hh] at h;exact Calls.regrown_of h
      have k0 := cellR c0;have k1 := cellR c1;have k2 := cellR c2;have k3 := cellR c3;have k4 := cellR cs1;clear HIS HKR;go_wp2_with fail
      refine wp_region_quiet_below (by kernel_rfl) (by kernel_rfl) ?_
      repeat (go_big_quiet_step (first | exact cA _ _))
      refine wpQuiet_nil ?_;intro _ hw';obtain ⟨⟨dq, osq⟩, hw''⟩ := hw';subst hw'';have hb := below_regrown wr dq osq;generalize grow (redrawn wr dq) osq = w4 at *;go_wp2_with fail
      exact ⟨⟨k + 1, by omega, rfl, xH HN1.out.symm, xH (O4.out.step hb)⟩, by simp [intOf]; omega⟩
     | true =>
      have HR := xH (HO.out.trans (show _ = gtok { kind := 10, n := n } f (f + 2 + s.length) by rw [HKR.out, if_pos hh]));have cA : ∀ d os, Calls Tryz.prog 25 #[.agg #[.string S, .bool p.u, .bool p.x, .int .i64 p.most], .int .i64 ((f : Int) + 2), .string ⟨s.toArray⟩] (grow (redrawn wr d) os) fun e w'' => e = .returned (.bool true) ∧ ∃ q : Regrown, w'' = grow (redrawn wr q.d) q.os := fun d os => by have h := HIS.out d os;rw [hh] at h;exact Calls.regrown_of h
      have k0 := cellR c0;have k1 := cellR c1;have k2 := cellR c2;have k3 := cellR c3;have k4 := cellR cs1;clear HIS HKR;go_wp2_with fail
      refine wp_region_quiet_below (by kernel_rfl) (by kernel_rfl) ?_
      repeat (go_big_quiet_step (first | exact cA _ _))
      refine wpQuiet_nil ?_;intro _ hw';obtain ⟨⟨dq, osq⟩, hw''⟩ := hw';subst hw'';have hb := below_regrown wr dq osq;generalize grow (redrawn wr dq) osq = w4 at *;have O5 := xH (O4.out.step hb);clear hb k0 k1 k2 k3 k4 c0 c1 c2 c3 cA O4 F4 cs1 cn1;go_wp2_with fail
      as_aux_lemma =>
       have hwr : IntKind.i64.wrap ((f : Int) + 2 + (s.length : Int)) = ((f + 2 + s.length : Nat) : Int) := by rw [IntKind.wrap_i64]; omega
       refine wp_region_held_drew (S := fun w' => OpAt w B S p a1 (a1 + 1) w') (by kernel_rfl) (O5.out.step (show Below w4.heap.size w4 w4.drew from ⟨rfl, rfl, rfl, xL _, fun _ _ => rfl⟩)) (fun hHeld => ?_);refine yT 0 ?_;simp only [xS];refine yT 1 ?_;simp only [xS];refine yT 2 ?_;simp only [xS];refine xT 3 rfl ?_ ?_ ?_;rotate_left
       ·intro w' hSw;exact z65
       simp only [xS];refine yT 4 ?_;simp only [xS];refine yT 5 ?_;simp only [xS];refine yT 6 ?_;simp only [xS];refine yT 7 ?_;simp only [xS];refine yT 8 ?_;simp only [xS];refine yT 9 ?_;simp only [xS];refine xT 10 rfl ?_ ?_ ?_;rotate_left
       ·intro w' hSw;exact z65
       simp only [xS];refine yT 11 ?_;simp only [xS];refine yT 12 ?_;simp only [xS];refine xD 13 rfl (fun K hK => ?_);go_simp;refine (qF (.slice none 0 0) { kind := 10, n := n } f (f + 2 + s.length) _ (k := B) (qm _ _)).mono ?_;rintro e w6 ⟨rfl, ho, hb⟩;refine hK.out _ _ (hHeld.step hb) (fun hHeld => ?_);clear hK K;try simp only [xS]
       have HG6 := xH hHeld;have HO := xH ho;clear ho hb;obtain ⟨old, hg, hz⟩ := HG6.out.fg.g;have HG := xH hg;clear hg;refine xD 14 rfl (fun K hK => ?_);refine held_store_got rfl rfl _ _ rfl (B + 1) rfl old (gtC (.slice none 0 0) (gtok { kind := 10, n := n } f (f + 2 + s.length))) HG.out hz (jw _ _) (jO HO.out _) rfl ?_;refine hK.out _ _ (HG6.out.set _ (jw _ _)) (fun hHeld => ?_);clear hK K;refine wpAnyH_done (by kernel_rfl) ?_ _;go_wp2_with fail
       refine xB (qW rfl _ _ (B + 1) _ rfl (setRow_heap _ _ _ _ _ _ HG.out) (jw _ _)) rfl ?_;exact qj HG6.out.fg HR.out HO.out (xL _)
    ·obtain rfl : k = 7 := by omega
     have hkn : kindR p f (f + 2) kindsT = none := hki.out.symm.trans rfl;have HO2 := xH (HO.out.trans (show _ = openK p f (f + 2) by simp only [hkn]));clear hkn HO hki hk7;have hbw := qK wr tkw.ob02;have hgn := heap_alloc_new wr (.cells #[.int .i64 10, .int .i64 0, .int .i64 0, .int .i64 0, .slice none 0 0, .bool false, .int .i64 1, .int .i64 0, .int .i64 0, .string ⟨#[]⟩, .int .i64 0, .int .i64 0] 68);have d0 := qf hbw c0;have d1 := qf hbw c1;have d2 := qf hbw c2;have d3 := qf hbw c3;go_wp2_with fail
     generalize wr.alloc (.cells #[.int .i64 10, .int .i64 0, .int .i64 0, .int .i64 0, .slice none 0 0, .bool false, .int .i64 1, .int .i64 0, .int .i64 0, .string ⟨#[]⟩, .int .i64 0, .int .i64 0] 68) = w5 at *;obtain ⟨C, hC⟩ : ∃ C, wr.heap.size = C := ⟨_, rfl⟩;rw [hC] at hgn ⊢;have HC5 : Hid (w5.heap[C]? = some (.cells (tkR (.slice none 0 0) { kind := 10, n := 1 }) 68 (0, 0))) := xH hgn;have F5 := xH (F4.out.step hbw);clear hbw hgn hC c0 c1 c2 c3 d0 d1 d2 d3 F4 O4;obtain ⟨c0, c1, c2, c3⟩ := F5.out.c;refine xM (qG S p _ HP.out (f + 2) (by omega) [35] ⟨#[35]⟩ rfl (by decide) (Or.inl (by rw [HN.out]; omega))) ?_;rintro e w6 ⟨rfl, hb⟩;have F6 := xH (F5.out.step hb);have HC6 := xH (qQ HC5.out hb);clear hb c0 c1 c2 c3;obtain ⟨c0, c1, c2, c3⟩ := F6.out.c;cases h35 : p.has [35] (f + 2) with
     | true =>
      as_aux_lemma =>
       have hin := qR HP.out h35;rw [HN.out] at hin;simp only [dA, Nat.zero_add] at hin;have HK0 := xH (HO2.out.trans (show openK p f (f + 2) = (match p.until 41 (f + 2) with | none => Except.error (20, (p.n : Int)) | some j => .ok (none, j + 1)) by unfold openK; rw [if_pos h35]; rfl));clear HO2;go_wp2_with fail
       go_loopw [5] (fun vi wr => VbRel w B S p (f + 2) vi wr) (fun vi _ => S.size - (intOf vi).toNat)
       case atStart => exact ⟨0, by omega, xH (fun j h => absurd h (Nat.not_lt_zero j)), by simp, F6.out⟩
       case round =>
        obtain ⟨l, hl, hd, rfl, hF⟩ := hrel;have F7 := xH hF;clear hF F6 c0 c1 c2 c3;obtain ⟨c0, c1, c2, c3⟩ := F7.out.c;have hgb := gb HP.out;by_cases hlt : f + 2 + l < S.size
        ·obtain ⟨b0, b1⟩ := jS HP.out (f + 2 + l);by_cases hc : p.g (f + 2 + l) = 41
         ·have bc : (p.g (f + 2 + l) != 41) = false := by simp [hc]
          have HR := xH (HK0.out.trans (show _ = Except.ok (none, f + 2 + l + 1) by unfold Pt.until; rw [find_at2 (l := l) (by rw [HN.out]; omega) hd.out hc]));have hne : (((f + 2 + l : Nat) : Int) == (S.size : Int)) = false := by simp; omega
          have hne2 : ¬ ((f + 2 + l : Nat) : Int) = (S.size : Int) := by omega
          clear hc;obtain ⟨old, HG, hz⟩ := xG F7;go_wp2_with (refine qJ rfl rfl _ _ rfl (B + 1) rfl _ (gtC (.slice none 0 0) (.ok (none, f + 2 + l + 1))) HG.out hz (jw _ _) (jO (qm w 0) _) rfl ?_)
          refine xB (qW rfl _ _ (B + 1) _ rfl (setRow_heap _ _ _ _ _ _ HG.out) (jw _ _)) rfl ?_;exact qj F7.out HR.out (qm _ _) (xL _)
         ·have bc : (p.g (f + 2 + l) != 41) = true := by simp [hc]
          go_wp2_with fail
          exact ⟨⟨l + 1, by omega, xH (fun j hj => by
           by_cases e : j = l
           ·subst e; exact hc
           ·exact hd.out j (by omega)), rfl, F7.out⟩, by simp [intOf]; omega⟩
        ·have HR := xH (HK0.out.trans (show _ = Except.error (20, (p.n : Int)) by unfold Pt.until; rw [find_no2 (fun j hj => hd.out j (by rw [HN.out] at hj; omega))]));have hlti : ¬ ((f + 2 + l : Nat) : Int) < (S.size : Int) := by omega
         have heq : ((f + 2 + l : Nat) : Int) = (S.size : Int) := by omega
         go_wp2_with fail
         refine xM (end_any S p _ HP.out) ?_;exact z125
     | false =>
      go_wp2_with fail
      refine xM (qG S p _ HP.out (f + 2) (by omega) [80, 60] ⟨#[80, 60]⟩ rfl (by decide) (Or.inl (by rw [HN.out]; omega))) ?_;rintro e w7 ⟨rfl, hb⟩;have F7 := xH (F6.out.step hb);have HC7 := xH (qQ HC6.out hb);clear hb c0 c1 c2 c3;obtain ⟨c0, c1, c2, c3⟩ := F7.out.c;cases hPl : p.has [80, 60] (f + 2) with
      | true =>
       as_aux_lemma =>
        have hin := qR HP.out hPl;rw [HN.out] at hin;simp only [dB, dA, Nat.zero_add] at hin;have HR := xH (HO2.out.trans (show openK p f (f + 2) = callR p { kind := 10, n := 1 } f (f + 2 + 2) [62] by unfold openK; rw [if_neg (by simp [h35]), if_pos hPl]));go_wp2_with (refine tkw.qX rfl _ rfl C rfl _ HC7.out rfl ?_)
        refine xM (called_any S p _ HP.out { kind := 10, n := 1 } rfl f (f + 2 + 2) (by rw [HN.out]; omega) [62] ⟨#[62]⟩ rfl (by decide)) ?_;exact z125
      | false =>
       go_wp2_with fail
       refine xM (qG S p _ HP.out (f + 2) (by omega) [60] ⟨#[60]⟩ rfl (by decide) (Or.inl (by rw [HN.out]; omega))) ?_;rintro e w8 ⟨rfl, hb⟩;have F8 := xH (F7.out.step hb);have HC8 := xH (qQ HC7.out hb);clear hb c0 c1 c2 c3;obtain ⟨c0, c1, c2, c3⟩ := F8.out.c;cases h60 : p.has [60] (f + 2) with
       | true =>
        as_aux_lemma =>
         have hin := qR HP.out h60;rw [HN.out] at hin;simp only [dA, Nat.zero_add] at hin;have HR := xH (HO2.out.trans (show openK p f (f + 2) = callR p { kind := 10, n := 1 } f (f + 2 + 1) [62] by unfold openK; rw [if_neg (by simp [h35]), if_neg (by simp [hPl]), if_pos h60]));go_wp2_with (refine tkw.qX rfl _ rfl C rfl _ HC8.out rfl ?_)
         refine xM (called_any S p _ HP.out { kind := 10, n := 1 } rfl f (f + 2 + 1) (by rw [HN.out]; omega) [62] ⟨#[62]⟩ rfl (by decide)) ?_;exact z182
       | false =>
        go_wp2_with fail
        refine xM (qG S p _ HP.out (f + 2) (by omega) [39] ⟨#[39]⟩ rfl (by decide) (Or.inl (by rw [HN.out]; omega))) ?_;rintro e w9 ⟨rfl, hb⟩;have F9 := xH (F8.out.step hb);have HC9 := xH (qQ HC8.out hb);clear hb c0 c1 c2 c3;obtain ⟨c0, c1, c2, c3⟩ := F9.out.c;cases h39 : p.has [39] (f + 2) with
        | true =>
         as_aux_lemma =>
          have hin := qR HP.out h39;rw [HN.out] at hin;simp only [dA, Nat.zero_add] at hin;have HR := xH (HO2.out.trans (show openK p f (f + 2) = callR p { kind := 10, n := 1 } f (f + 2 + 1) [39] by unfold openK; rw [if_neg (by simp [h35]), if_neg (by simp [hPl]), if_neg (by simp [h60]), if_pos h39]));go_wp2_with (refine tkw.qX rfl _ rfl C rfl _ HC9.out rfl ?_)
          refine xM (called_any S p _ HP.out { kind := 10, n := 1 } rfl f (f + 2 + 1) (by rw [HN.out]; omega) [39] ⟨#[39]⟩ rfl (by decide)) ?_;exact z171
        | false =>
         go_wp2_with fail
         refine xM (qG S p _ HP.out (f + 2) (by omega) [80, 61] ⟨#[80, 61]⟩ rfl (by decide) (Or.inl (by rw [HN.out]; omega))) ?_;rintro e w10 ⟨rfl, hb⟩;have F10 := xH (F9.out.step hb);have HC10 := xH (qQ HC9.out hb);clear hb c0 c1 c2 c3;obtain ⟨c0, c1, c2, c3⟩ := F10.out.c;cases hPe : p.has [80, 61] (f + 2) with
         | true =>
          as_aux_lemma =>
           have hin := qR HP.out hPe;rw [HN.out] at hin;simp only [dB, dA, Nat.zero_add] at hin;have HR := xH (HO2.out.trans (show openK p f (f + 2) = callR p { kind := 11, m := 3 } f (f + 2 + 2) [41] by unfold openK; rw [if_neg (by simp [h35]), if_neg (by simp [hPl]), if_neg (by simp [h60]), if_neg (by simp [h39]), if_pos hPe]));go_wp2_with fail
           refine xM (called_any S p _ HP.out { kind := 11, m := 3 } rfl f (f + 2 + 2) (by rw [HN.out]; omega) [41] ⟨#[41]⟩ rfl (by decide)) ?_;exact z116
         | false =>
          go_wp2_with fail
          refine xM (qG S p _ HP.out (f + 2) (by omega) [80, 62] ⟨#[80, 62]⟩ rfl (by decide) (Or.inl (by rw [HN.out]; omega))) ?_;rintro e w11 ⟨rfl, hb⟩;have F11 := xH (F10.out.step hb);have HC11 := xH (qQ HC10.out hb);clear hb c0 c1 c2 c3;obtain ⟨c0, c1, c2, c3⟩ := F11.out.c;cases hPg : p.has [80, 62] (f + 2) with
          | true =>
           as_aux_lemma =>
            have hin := qR HP.out hPg;rw [HN.out] at hin;simp only [dB, dA, Nat.zero_add] at hin;have HR := xH (HO2.out.trans (show openK p f (f + 2) = callR p { kind := 12, m := 3 } f (f + 2 + 2) [41] by unfold openK; rw [if_neg (by simp [h35]), if_neg (by simp [hPl]), if_neg (by simp [h60]), if_neg (by simp [h39]), if_neg (by simp [hPe]), if_pos hPg]));go_wp2_with fail
            refine xM (called_any S p _ HP.out { kind := 12, m := 3 } rfl f (f + 2 + 2) (by rw [HN.out]; omega) [41] ⟨#[41]⟩ rfl (by decide)) ?_;exact z117
          | false =>
           go_wp2_with fail
           refine xM (qG S p _ HP.out (f + 2) (by omega) [38] ⟨#[38]⟩ rfl (by decide) (Or.inl (by rw [HN.out]; omega))) ?_;rintro e w12 ⟨rfl, hb⟩;have F12 := xH (F11.out.step hb);have HC12 := xH (qQ HC11.out hb);clear hb c0 c1 c2 c3;obtain ⟨c0, c1, c2, c3⟩ := F12.out.c;cases h38 : p.has [38] (f + 2) with
           | true =>
            as_aux_lemma =>
             have hin := qR HP.out h38;rw [HN.out] at hin;simp only [dA, Nat.zero_add] at hin;have HR := xH (HO2.out.trans (show openK p f (f + 2) = callR p { kind := 12, m := 3 } f (f + 2 + 1) [41] by unfold openK; rw [if_neg (by simp [h35]), if_neg (by simp [hPl]), if_neg (by simp [h60]), if_neg (by simp [h39]), if_neg (by simp [hPe]), if_neg (by simp [hPg]), if_pos h38]));go_wp2_with fail
             refine xM (called_any S p _ HP.out { kind := 12, m := 3 } rfl f (f + 2 + 1) (by rw [HN.out]; omega) [41] ⟨#[41]⟩ rfl (by decide)) ?_;exact z118
           | false =>
            go_wp2_with fail
            refine xM (qG S p _ HP.out (f + 2) (by omega) [82] ⟨#[82]⟩ rfl (by decide) (Or.inl (by rw [HN.out]; omega))) ?_;rintro e w13 ⟨rfl, hb⟩;have F13 := xH (F12.out.step hb);have HC13 := xH (qQ HC12.out hb);clear hb c0 c1 c2 c3;obtain ⟨c0, c1, c2, c3⟩ := F13.out.c;cases hR : p.has [82] (f + 2) with
            | true =>
             as_aux_lemma =>
              have hin := qR HP.out hR;rw [HN.out] at hin;simp only [dA, Nat.zero_add] at hin;have HR := xH (HO2.out.trans (show openK p f (f + 2) = shutR p { kind := 12 } f (f + 2 + 1) [41] 26 by unfold openK; rw [if_neg (by simp [h35]), if_neg (by simp [hPl]), if_neg (by simp [h60]), if_neg (by simp [h39]), if_neg (by simp [hPe]), if_neg (by simp [hPg]), if_neg (by simp [h38]), if_pos hR]));go_wp2_with fail
              refine xM (shut_any S p _ HP.out { kind := 12 } rfl f (f + 2 + 1) (by rw [HN.out]; omega) [41] ⟨#[41]⟩ rfl (by decide) 26) ?_;intro e w14 h;obtain ⟨v, rfl, HO, F14, old, HG, hz⟩ := yJ F13 h;clear h c0 c1 c2 c3;go_wp2_with (refine yR HG hz HO ?_)
              exact yW HG F14 HR HO
            | false =>
             go_wp2_with fail
             refine xM (qG S p _ HP.out (f + 2) (by omega) [67] ⟨#[67]⟩ rfl (by decide) (Or.inl (by rw [HN.out]; omega))) ?_;rintro e w14 ⟨rfl, hb⟩;have F14 := xH (F13.out.step hb);have HC14 := xH (qQ HC13.out hb);clear hb c0 c1 c2 c3;obtain ⟨c0, c1, c2, c3⟩ := F14.out.c;cases hC : p.has [67] (f + 2) with
             | true =>
              as_aux_lemma =>
               have hin := qR HP.out hC;rw [HN.out] at hin;simp only [dA, Nat.zero_add] at hin;have HR0 := xH (HO2.out.trans (show openK p f (f + 2) = (if (num p (f + 2 + 1)).2.2 = true then Except.error (25, (f : Int)) else shutR p { kind := 14, n := (num p (f + 2 + 1)).1 } f (num p (f + 2 + 1)).2.1 [41] 26) by unfold openK; rw [if_neg (by simp [h35]), if_neg (by simp [hPl]), if_neg (by simp [h60]), if_neg (by simp [h39]), if_neg (by simp [hPe]), if_neg (by simp [hPg]), if_neg (by simp [h38]), if_neg (by simp [hR]), if_pos hC]));go_wp2_with fail
               refine xM (vY S p _ HP.out (f + 2 + 1) (by rw [HN.out]; omega)) ?_;rintro e w15 ⟨rfl, hb⟩;have F15 := xH (F14.out.step hb);clear hb c0 c1 c2 c3;obtain ⟨c0, c1, c2, c3⟩ := F15.out.c;obtain ⟨m1, m2⟩ := num_bd (p := p) (a := f + 2 + 1) (by rw [HN.out]; omega);generalize num p (f + 2 + 1) = q at *;obtain ⟨n, b, gr⟩ := q;simp only at m1 m2 HR0;cases gr with
               | true =>
                have HR := xH (HR0.out.trans (if_pos rfl));go_wp2_with fail
                refine xM (qw _ _ _) ?_;exact z119
               | false =>
                have HR := xH (HR0.out.trans (if_neg (by simp)));go_wp2_with fail
                refine xM (shut_any S p _ HP.out { kind := 14, n := n } rfl f b m2 [41] ⟨#[41]⟩ rfl (by decide) 26) ?_;exact z119
             | false =>
              go_wp2_with fail
              refine xM (qG S p _ HP.out (f + 2) (by omega) [40] ⟨#[40]⟩ rfl (by decide) (Or.inl (by rw [HN.out]; omega))) ?_;rintro e w15 ⟨rfl, hb⟩;have F15 := xH (F14.out.step hb);have HC15 := xH (qQ HC14.out hb);clear hb c0 c1 c2 c3;obtain ⟨c0, c1, c2, c3⟩ := F15.out.c;cases h40 : p.has [40] (f + 2) with
              | true =>
               as_aux_lemma =>
                have hin := qR HP.out h40;rw [HN.out] at hin;simp only [dA, Nat.zero_add] at hin;have HR := xH (HO2.out.trans (show openK p f (f + 2) = condR p f (f + 2 + 1) by unfold openK; rw [if_neg (by simp [h35]), if_neg (by simp [hPl]), if_neg (by simp [h60]), if_neg (by simp [h39]), if_neg (by simp [hPe]), if_neg (by simp [hPg]), if_neg (by simp [h38]), if_neg (by simp [hR]), if_neg (by simp [hC]), if_pos h40]));go_wp2_with fail
                refine xM (condition_any S p _ HP.out f (f + 2 + 1) (by rw [HN.out]; omega) (by rw [HN.out]; omega)) ?_;exact z119
              | false =>
               have HO3 := xH (HO2.out.trans (show openK p f (f + 2) = (if numB p (f + 2) = true then numR p f (f + 2) else flagR p f (p.n + 1 - (f + 2)) (f + 2) false 0 0) by unfold openK; rw [if_neg (by simp [h35]), if_neg (by simp [hPl]), if_neg (by simp [h60]), if_neg (by simp [h39]), if_neg (by simp [hPe]), if_neg (by simp [hPg]), if_neg (by simp [h38]), if_neg (by simp [hR]), if_neg (by simp [hC]), if_neg (by simp [h40])]));clear HO2;have hgb := gb HP.out;obtain ⟨pb0, pb1⟩ := jS HP.out (f + 2);by_cases h43 : p.g (f + 2) = 43
               ·have HB : numB p (f + 2) = true := by unfold numB; simp [h43]
                have b43 : (p.g (f + 2) == 43) = true := by simp [h43]
                clear h43;exact z2
               have b43 : (p.g (f + 2) == 43) = false := by simp [h43]
               go_wp2_with fail
               refine (digit_any (p.g (f + 2)) _ pb0 pb1).mono ?_;rintro e wl ⟨rfl, rfl⟩;cases hd : isDig (p.g (f + 2)) with
               | true =>
                have HB : numB p (f + 2) = true := by unfold numB; simp [hd]
                exact z2
               | false =>
                by_cases h45 : p.g (f + 2) = 45;case neg =>
                 have HB : numB p (f + 2) = false := by unfold numB; simp [h43, hd, h45]
                 have b45 : (p.g (f + 2) == 45) = false := by simp [h45]
                 exact z34
                have b45 : (p.g (f + 2) == 45) = true := by simp [h45]
                by_cases hl : f + 2 + 1 < S.size;case neg =>
                 have HB : numB p (f + 2) = false := by unfold numB; rw [HN.out]; simp [h43, hd, hl]
                 have hli : ¬ (f : Int) + 2 + 1 < (S.size : Int) := by omega
                 exact z34
                have hli : (f : Int) + 2 + 1 < (S.size : Int) := by omega
                obtain ⟨qb0, qb1⟩ := jS HP.out (f + 2 + 1);go_wp2_with fail
                refine (digit_any (p.g (f + 2 + 1)) _ qb0 qb1).mono ?_;rintro e wl ⟨rfl, rfl⟩;cases hd2 : isDig (p.g (f + 2 + 1)) with
                | true =>
                 have HB : numB p (f + 2) = true := by unfold numB; rw [HN.out]; simp [h45, hl, hd2]
                 clear h43 h45
                 as_aux_lemma =>
                  have HK0 := xH (HO3.out.trans (if_pos HB));have HNR := xH (show ∀ x, sgn p (f + 2) = x → numR p f (f + 2) = (if x.2.2.2 = true then Except.error (25, (f : Int)) else if x.2.2.1 = f + 2 then (if f + 2 + 1 = p.n then Except.error (20, (p.n : Int)) else Except.error (26, (f : Int))) else match shutR p { kind := 12, n := x.1, m := x.2.1 } f x.2.2.1 [41] 26 with | .error e => Except.error e | .ok r => if x.1 = 0 ∧ x.2.1 ≠ 0 then Except.error (25, (f : Int)) else .ok r) from fun x hx => by subst hx; rfl);go_wp2_with fail
                  refine xM (zQ S p _ HP.out (f + 2) (by rw [HN.out]; omega)) ?_;rintro e w16 ⟨rfl, hb⟩;have F16 := xH (F15.out.step hb);clear hb c0 c1 c2 c3;obtain ⟨c0, c1, c2, c3⟩ := F16.out.c;obtain ⟨m1, m2⟩ := sgn_bd HP.out (a := f + 2) (by rw [HN.out]; omega);obtain ⟨q, hq⟩ : ∃ q, sgn p (f + 2) = q := ⟨_, rfl⟩;have HR0 := xH (HK0.out.trans (HNR.out q hq));rw [hq] at m1 m2 ⊢;clear hq HNR HK0;obtain ⟨n, m, b, gr⟩ := q;simp only at m1 m2 HR0;cases gr with
                  | true =>
                   have HR := xH (HR0.out.trans (if_pos rfl));exact z85
                  | false =>
                   have HR1 := xH (HR0.out.trans (if_neg (by simp)));clear HR0;by_cases hb0 : b = f + 2
                   ·subst hb0;have HR2 := xH (HR1.out.trans (if_pos rfl));have hbe : (((f + 2 : Nat) : Int) == (f : Int) + 2) = true := by simp
                    have hbe2 : ((f + 2 : Nat) : Int) = (f : Int) + 2 := by omega
                    by_cases hz : f + 2 + 1 = S.size
                    ·have HR := xH (HR2.out.trans (if_pos (by rw [HN.out]; exact hz)));have hzi : (f : Int) + 2 + 1 = (S.size : Int) := by omega
                     exact absurd hz (by omega)
                    ·have HR := xH (HR2.out.trans (if_neg (by rw [HN.out]; exact hz)));have hzi : ¬ (f : Int) + 2 + 1 = (S.size : Int) := by omega
                     exact z85
                   have hbi : ¬ (b : Int) = (f : Int) + 2 := by omega
                   have HR2 := xH (HR1.out.trans (if_neg hb0));clear HR1;go_wp2_with fail
                   have HS := shut_any S p w16 HP.out { kind := 12, n := n, m := m } rfl f b m2 [41] ⟨#[41]⟩ rfl (by decide) 26;by_cases h41 : p.has [41] b = true
                   ·have hs : shutR p { kind := 12, n := n, m := m } f b [41] 26 = gtok { kind := 12, n := n, m := m } f (b + 1) := by unfold shutR; rw [if_pos h41]; rfl
                    rw [hs] at HS;have HR3 := xH (HR2.out.trans (show _ = (if n = 0 ∧ m ≠ 0 then Except.error (25, (f : Int)) else gtok { kind := 12, n := n, m := m } f (b + 1)) by rw [hs]; rfl));clear HR2 hs;refine xM HS ?_;rintro e w17 ⟨v, rfl, ho, hb⟩;have F17 := xH (F16.out.step hb);have HO17 := xO F16.out.x ho;obtain ⟨x1, x2, rfl⟩ := qN ho;have hbw := qK w17 (.cells (gtC (.slice x1 (gtS (gtok { kind := 12, n := n, m := m } f (b + 1))).length x2) (gtok { kind := 12, n := n, m := m } f (b + 1))) 70);have hgn := heap_alloc_new w17 (.cells (gtC (.slice x1 (gtS (gtok { kind := 12, n := n, m := m } f (b + 1))).length x2) (gtok { kind := 12, n := n, m := m } f (b + 1))) 70);have F18 := xH (F17.out.step hbw);have HO18 := xH (jG HO17.out hbw);have ce : (w17.alloc (.cells (gtC (.slice x1 (gtS (gtok { kind := 12, n := n, m := m } f (b + 1))).length x2) (gtok { kind := 12, n := n, m := m } f (b + 1))) 70)).cell? ⟨w17.heap.size, 14, none⟩ = some (.int .i64 0) := by unfold World.cell?; rw [hgn]; rfl
                    have HGN := xH hgn;clear hb ho c0 c1 c2 c3 HS hgn hbw;obtain ⟨c0, c1, c2, c3⟩ := F18.out.c;simp only [gtC, gtS, gtok, lay] at ce c0 c1 c2 c3 F18 HO18 HGN ⊢;by_cases hn0 : n = 0
                    ·by_cases hm0 : m = 0
                     ·have HR := xH (HR3.out.trans (if_neg (fun h => h.2 hm0)));have bn : (n == 0) = true := by simp [hn0]
                      have bm : (m != 0) = false := by simp [hm0]
                      clear hn0 hm0;exact z32
                     ·have HR := xH (HR3.out.trans (if_pos ⟨hn0, hm0⟩));exact z149
                    ·have HR := xH (HR3.out.trans (if_neg (fun h => hn0 h.1)));have bn : (n == 0) = false := by simp [hn0]
                     clear hn0;exact z32
                   exact z142
                | false =>
                 have HB : numB p (f + 2) = false := by unfold numB; simp [h43, hd, hd2]
                 exact z34
def SkRel (w : World) (B : Nat) (S : ByteArray) (p : Pt) (z : Nat) (vi : Value) (wr : World) : Prop :=
 ∃ a m : Nat, z ≤ a ∧ a ≤ S.size ∧ S.size ≤ a + m ∧ vi = .int .i64 a ∧ Hid (skipC p m a = skipC p p.n z) ∧ Hid (FG w B S p wr)
theorem skip_end {p : Pt} {m a : Nat} (h : p.n ≤ a + m) (h2 : ¬ (a < p.n ∧ p.g (a - 1) ≠ 10)) : skipC p m a = a := by
 cases m with
 | zero => rfl
 | succ m => rw [skipC, if_neg h2]
theorem skip_go {p : Pt} {m a : Nat} (h : p.n ≤ a + m) (h1 : a < p.n) (h2 : p.g (a - 1) ≠ 10) : ∃ m', skipC p m a = skipC p m' (a + 1) ∧ p.n ≤ a + 1 + m' := by
 cases m with
 | zero => omega
 | succ m => exact ⟨m, by rw [skipC, if_pos ⟨h1, h2⟩], by omega⟩
theorem dig_ge {S : ByteArray} {p : Pt} (_ : Pat S p) {a : Nat} (_ : a ≤ p.n) : 0 ≤ (p.digits a).1 := by exact z104
theorem num_val {S : ByteArray} {p : Pt} (h : Pat S p) {a : Nat} (ha : a ≤ p.n) : 0 ≤ (num p a).1 ∧ (num p a).1 ≤ 1000 := by have h2 := h.n;have h3 := h.le;have d1 := dig_ge (S := S) h ha;unfold num;split <;> constructor <;> simp only <;> omega
theorem token_any (S : ByteArray) (p : Pt) (w : World) (hP : Pat S p) (i : Nat) (hi : i < p.n) : Calls Tryz.prog 27 #[txV S p, .int .i64 i] w (GotB w (tokR p i)) := by
 have hn := hP.n;have h2 := hP.le;have HP := xH hP;have HN := xH hn;clear hP;rw [hn] at hi;clear hn;unfold txV txC;go_enter Tryz.func27, Tryz.ntmps27;go_upto_region 1 with (fail)
 generalize hW : (w.alloc _).alloc _ = W;have F0 := xH (fg_start (S := S) (p := p) hW);obtain ⟨B, hB⟩ : ∃ B, w.heap.size = B := ⟨_, rfl⟩;rw [hB] at F0 ⊢;clear hW hB;obtain ⟨c0, c1, c2, c3⟩ := F0.out.c;generalize hV0 : Value.agg #[Value.string S, Value.bool p.u, Value.bool p.x, Value.int IntKind.i64 p.most] = V0;clear hV0;go_wp2_with fail
 refine xM (char_any S p _ HP.out i (by rw [HN.out]; exact hi)) ?_;rintro e w1 ⟨rfl, hb⟩;have F1 := xH (F0.out.step hb);clear hb c0 c1 c2 c3;obtain ⟨c0, c1, c2, c3⟩ := F1.out.c;obtain ⟨z1, z2⟩ := zM HP.out (a := i) (by rw [HN.out]; exact hi);obtain ⟨y1, y2⟩ := char_val HP.out (a := i) (by rw [HN.out]; exact hi);rw [HN.out] at z2;have HE0 := xH (show ∀ c z, p.char i = (c, z) → tokR p i = (if p.x = true ∧ (9 ≤ c ∧ c ≤ 13 ∨ c = 32) then Except.ok (none, z) else if p.x = true ∧ c = 35 then .ok (none, skipC p p.n z) else if c = 92 then escR p i else if c = 91 then clsR p i else if c = 40 then openR p i else if c = 46 then gtok { kind := 3 } i z else if c = 94 then gtok { kind := 4, n := 1 } i z else if c = 36 then gtok { kind := 4, n := 2 } i z else if c = 124 then gtok { kind := 7 } i z else if c = 41 then gtok { kind := 8 } i z else if c = 42 then quan p i z 0 (-1) else if c = 43 then quan p i z 1 (-1) else if c = 63 then quan p i z 0 1 else if c = 123 then (match bracR p i with | none => gtok { kind := 1, c := c } i z | some (n, m, b, great) => if great = true then Except.error (25, (i : Int)) else if 0 ≤ m ∧ m < n then Except.error (23, (i : Int)) else quan p i (b + 1) n m) else gtok { kind := 1, c := c } i z) from fun c z h => by rw [tokR_eq, h]; rfl);obtain ⟨q, hq⟩ : ∃ q, p.char i = q := ⟨_, rfl⟩;rw [hq] at z1 z2 y1 y2 ⊢;obtain ⟨c, z⟩ := q;have HE1 := xH (HE0.out c z hq);simp only at z1 z2 y1 y2;clear hq HE0;go_upto_if 22 with (fail)
 go_cut [6] (fun v6 wx => v6 = .int .i64 (z : Int) ∧ Hid (FG w B S p wx) ∧ Hid (tokR p i = if c = 92 then escR p i else if c = 91 then clsR p i else if c = 40 then openR p i else if c = 46 then gtok { kind := 3 } i z else if c = 94 then gtok { kind := 4, n := 1 } i z else if c = 36 then gtok { kind := 4, n := 2 } i z else if c = 124 then gtok { kind := 7 } i z else if c = 41 then gtok { kind := 8 } i z else if c = 42 then quan p i z 0 (-1) else if c = 43 then quan p i z 1 (-1) else if c = 63 then quan p i z 0 1 else if c = 123 then (match bracR p i with | none => gtok { kind := 1, c := c } i z | some (n, m, b, great) => if great = true then Except.error (25, (i : Int)) else if 0 ≤ m ∧ m < n then Except.error (23, (i : Int)) else quan p i (b + 1) n m) else gtok { kind := 1, c := c } i z))
 case first =>
  cases hx : p.x with
  | true =>
   by_cases hs : 9 ≤ c ∧ c ≤ 13 ∨ c = 32
   ·have HR := xH (HE1.out.trans (if_pos ⟨hx, hs⟩));have hs2 : (9 ≤ c ∧ c ≤ 13) ∨ (c = 32 ∧ 9 ≤ c ∧ ¬ c ≤ 13) := by omega
    clear hs;rcases hs2 with ⟨s1, s2⟩ | ⟨rfl, s1, s2⟩
    ·obtain ⟨old, hg, hz⟩ := F1.out.g;exact z43
    ·obtain ⟨old, hg, hz⟩ := F1.out.g;exact z43
   have HE2 := xH (HE1.out.trans (if_neg (fun h => hs h.2)));by_cases h35 : c = 35
   ·subst h35;have HR0 := xH (HE2.out.trans (if_pos ⟨hx, rfl⟩));clear HE1 HE2 hs;go_wp2_with fail
    go_loopw [6] (fun vi wr => SkRel w B S p z vi wr) (fun vi _ => S.size - (intOf vi).toNat)
    case atStart => exact ⟨z, S.size, by omega, by omega, by omega, rfl, xH (by rw [HN.out]), F1⟩
    case round =>
     obtain ⟨a, m, ha1, ha2, ha3, rfl, hsk, F2⟩ := hrel;rename_i wr;clear F1 c0 c1 c2 c3;obtain ⟨c0, c1, c2, c3⟩ := F2.out.c;have hgb := gb HP.out;by_cases hlt : a < S.size
     ·have hlti : (a : Int) < (S.size : Int) := by omega
      obtain ⟨a', rfl⟩ : ∃ a', a = a' + 1 := ⟨a - 1, by omega⟩;have hsub : (((a' + 1 : Nat) : Int) - 1) = (a' : Int) := by omega
      obtain ⟨b0, b1⟩ := jS HP.out a';by_cases h10 : p.g a' = 10
      ·have b10 : (p.g a' != 10) = false := by simp [h10]
       have HR := xH (HR0.out.trans (show _ = Except.ok (none, a' + 1) by rw [← hsk.out, skip_end (by rw [HN.out]; omega) (fun h => h.2 h10)]));obtain ⟨old, HG, hz⟩ := xG F2;go_wp2_with (refine qJ rfl rfl _ _ rfl (B + 1) rfl _ (gtC (.slice none 0 0) (.ok (none, a' + 1))) HG.out hz (jw _ _) (jO (qm w 0) _) rfl ?_)
       exact z101
      ·have b10 : (p.g a' != 10) = true := by simp [h10]
       obtain ⟨m', hm1, hm2⟩ := skip_go (p := p) (m := m) (a := a' + 1) (by rw [HN.out]; omega) (by rw [HN.out]; exact hlt) h10;rw [HN.out] at hm2;go_wp2_with fail
       exact ⟨⟨a' + 1 + 1, m', by omega, by omega, by omega, rfl, xH (hm1.symm.trans hsk.out), F2⟩, by simp [intOf]; omega⟩
     ·have hlti : ¬ (a : Int) < (S.size : Int) := by omega
      have HR := xH (HR0.out.trans (show _ = Except.ok (none, a) by rw [← hsk.out, skip_end (by rw [HN.out]; omega) (fun h => by rw [HN.out] at h; exact hlt h.1)]));obtain ⟨old, HG, hz⟩ := xG F2;go_wp2_with (refine qJ rfl rfl _ _ rfl (B + 1) rfl _ (gtC (.slice none 0 0) (.ok (none, a))) HG.out hz (jw _ _) (jO (qm w 0) _) rfl ?_)
      exact z101
   have HE := xH (HE2.out.trans (if_neg (fun h => h35 h.2)));have b35 : (c == 35) = false := by simp [h35]
   have hs2 : (¬ 9 ≤ c ∧ (c == 32) = false) ∨ (9 ≤ c ∧ ¬ c ≤ 13 ∧ (c == 32) = false) := by
    have : ¬ c = 32 := fun h => hs (Or.inr h)
    have : (c == 32) = false := by simpa using this
    by_cases h9 : 9 ≤ c
    ·exact Or.inr ⟨h9, fun h13 => hs (Or.inl ⟨h9, h13⟩), this⟩
    ·exact Or.inl ⟨h9, this⟩
   clear HE1 HE2 hs h35;rcases hs2 with ⟨s1, s2⟩ | ⟨s1, s2, s3⟩
   ·go_wp2_with fail
    go_meet
    exact ⟨rfl, F1, HE⟩
   ·go_wp2_with fail
    go_meet
    exact ⟨rfl, F1, HE⟩
  | false =>
   have HE := xH (HE1.out.trans ((if_neg (by simp [hx])).trans (if_neg (by simp [hx]))));go_wp2_with fail
   go_meet
   exact ⟨rfl, F1, HE⟩
 case rest =>
  obtain ⟨rfl, F2, HE⟩ := hcut;clear F1 c0 c1 c2 c3 HE1;have F1 := F2;clear F2;obtain ⟨c0, c1, c2, c3⟩ := F1.out.c;by_cases e92 : c = 92
  ·have HR := xH (HE.out.trans (if_pos e92));clear HE;subst e92;go_wp2_with fail
   refine xM (escape_any S p _ HP.out i (by rw [HN.out]; exact hi)) ?_;exact z124
  have HE := xH (HE.out.trans (if_neg e92));have b92 : (c == 92) = false := by simp [e92]
  clear e92;by_cases e91 : c = 91
  ·have HR := xH (HE.out.trans (if_pos e91));clear HE;subst e91;go_wp2_with fail
   refine xM (class_any S p _ HP.out i (by rw [HN.out]; exact hi)) ?_;exact z124
  have HE := xH (HE.out.trans (if_neg e91));have b91 : (c == 91) = false := by simp [e91]
  clear e91;by_cases e40 : c = 40
  ·have HR := xH (HE.out.trans (if_pos e40));clear HE;subst e40;go_wp2_with fail
   refine xM (open_any S p _ HP.out i (by rw [HN.out]; exact hi)) ?_;exact z124
  have HE := xH (HE.out.trans (if_neg e40));have b40 : (c == 40) = false := by simp [e40]
  clear e40;by_cases e46 : c = 46
  ·have HR := xH (HE.out.trans (if_pos e46));clear HE;subst e46;go_wp2_with fail
   refine xM (qF (.slice none 0 0) ({ kind := 3 }) (i) (z) _ (k := B) (qm _ _)) ?_;exact z73
  have HE := xH (HE.out.trans (if_neg e46));have b46 : (c == 46) = false := by simp [e46]
  clear e46;by_cases e94 : c = 94
  ·have HR := xH (HE.out.trans (if_pos e94));clear HE;subst e94;go_wp2_with fail
   refine xM (qF (.slice none 0 0) ({ kind := 4, n := 1 }) (i) (z) _ (k := B) (qm _ _)) ?_;exact z73
  have HE := xH (HE.out.trans (if_neg e94));have b94 : (c == 94) = false := by simp [e94]
  clear e94;by_cases e36 : c = 36
  ·have HR := xH (HE.out.trans (if_pos e36));clear HE;subst e36;go_wp2_with fail
   refine xM (qF (.slice none 0 0) ({ kind := 4, n := 2 }) (i) (z) _ (k := B) (qm _ _)) ?_;exact z73
  have HE := xH (HE.out.trans (if_neg e36));have b36 : (c == 36) = false := by simp [e36]
  clear e36;by_cases e124 : c = 124
  ·have HR := xH (HE.out.trans (if_pos e124));clear HE;subst e124;go_wp2_with fail
   refine xM (qF (.slice none 0 0) ({ kind := 7 }) (i) (z) _ (k := B) (qm _ _)) ?_;exact z73
  have HE := xH (HE.out.trans (if_neg e124));have b124 : (c == 124) = false := by simp [e124]
  clear e124;by_cases e41 : c = 41
  ·have HR := xH (HE.out.trans (if_pos e41));clear HE;subst e41;go_wp2_with fail
   refine xM (qF (.slice none 0 0) ({ kind := 8 }) (i) (z) _ (k := B) (qm _ _)) ?_;exact z73
  have HE := xH (HE.out.trans (if_neg e41));have b41 : (c == 41) = false := by simp [e41]
  clear e41;by_cases e42 : c = 42
  ·have HR := xH (HE.out.trans (if_pos e42));clear HE;subst e42;go_wp2_with fail
   refine xM (quant_any S p _ HP.out i z 0 (-1) (by rw [HN.out]; exact z2)) ?_;exact z124
  have HE := xH (HE.out.trans (if_neg e42));have b42 : (c == 42) = false := by simp [e42]
  clear e42;by_cases e43 : c = 43
  ·have HR := xH (HE.out.trans (if_pos e43));clear HE;subst e43;go_wp2_with fail
   refine xM (quant_any S p _ HP.out i z 1 (-1) (by rw [HN.out]; exact z2)) ?_;exact z124
  have HE := xH (HE.out.trans (if_neg e43));have b43 : (c == 43) = false := by simp [e43]
  clear e43;by_cases e63 : c = 63
  ·have HR := xH (HE.out.trans (if_pos e63));clear HE;subst e63;go_wp2_with fail
   refine xM (quant_any S p _ HP.out i z 0 1 (by rw [HN.out]; exact z2)) ?_;exact z124
  have HE := xH (HE.out.trans (if_neg e63));have b63 : (c == 63) = false := by simp [e63]
  clear e63;by_cases e123 : c = 123
  ·have HE2 := xH (HE.out.trans (if_pos e123));clear HE;subst e123;clear b92 b91 b40 b46 b94 b36 b124 b41 b42 b43 b63;have HB0 := xH (show ∀ x, num p (i + 1) = x → bracR p i = (if i + 1 < x.2.1 ∧ p.has [44] x.2.1 = true then (if p.has [125] (num p (x.2.1 + 1)).2.1 = true then some (x.1, if (num p (x.2.1 + 1)).2.1 = x.2.1 + 1 then -1 else (num p (x.2.1 + 1)).1, (num p (x.2.1 + 1)).2.1, x.2.2 || (num p (x.2.1 + 1)).2.2) else none) else if x.2.1 = i + 1 ∨ p.has [125] x.2.1 = false then none else some (x.1, x.1, x.2.1, x.2.2)) from fun x hx => by subst hx; rfl);go_wp2_with fail
   refine xM (vY S p _ HP.out (i + 1) (by rw [HN.out]; omega)) ?_;rintro e w2 ⟨rfl, hb⟩;have F2 := xH (F1.out.step hb);clear hb c0 c1 c2 c3;obtain ⟨c0, c1, c2, c3⟩ := F2.out.c;obtain ⟨mn1, mn2⟩ := num_bd (p := p) (a := i + 1) (by rw [HN.out]; omega);rw [HN.out] at mn2;obtain ⟨vn1, vn2⟩ := num_val HP.out (a := i + 1) (by rw [HN.out]; omega);obtain ⟨q, hq⟩ : ∃ q, num p (i + 1) = q := ⟨_, rfl⟩;have HB1 := xH (HB0.out q hq);rw [hq] at mn1 mn2 vn1 vn2 ⊢;clear hq HB0;obtain ⟨n, a, gr⟩ := q;simp only at mn1 mn2 vn1 vn2 HB1;by_cases ha : i + 1 < a;case neg =>
    obtain rfl : a = i + 1 := by omega
    have HR := xH (HE2.out.trans (show _ = gtok { kind := 1, c := 123 } i z by rw [HB1.out, if_neg (fun h => ha h.1), if_pos (Or.inl rfl)]));have hai : ¬ ((i + 1 : Nat) : Int) > (i : Int) + 1 := by omega
    have hae : ((i + 1 : Nat) : Int) = (i : Int) + 1 := by omega
    go_wp2_with fail
    refine xM (qF (.slice none 0 0) ({ kind := 1, c := 123 }) (i) (z) _ (k := B) (qm _ _)) ?_;exact z74
   have hai : (i : Int) + 1 < (a : Int) := by omega
   have hae : ¬ (a : Int) = (i : Int) + 1 := by omega
   go_wp2_with fail
   refine xM (qG S p _ HP.out (a) (by omega) [44] ⟨#[44]⟩ rfl (by decide) (Or.inl (by rw [HN.out]; omega))) ?_;rintro e w3 ⟨rfl, hb⟩;have F3 := xH (F2.out.step hb);clear hb c0 c1 c2 c3;obtain ⟨c0, c1, c2, c3⟩ := F3.out.c;cases h44 : p.has [44] a with
   | false =>
    have HB2 := xH (HB1.out.trans (if_neg (by simp [h44])));clear HB1;go_wp2_with fail
    refine xM (qG S p _ HP.out (a) (by omega) [125] ⟨#[125]⟩ rfl (by decide) (Or.inl (by rw [HN.out]; omega))) ?_;rintro e w4 ⟨rfl, hb⟩;have F4 := xH (F3.out.step hb);clear hb c0 c1 c2 c3;obtain ⟨c0, c1, c2, c3⟩ := F4.out.c;cases h125 : p.has [125] a with
    | false =>
     have HR := xH (HE2.out.trans (show _ = gtok { kind := 1, c := 123 } i z by rw [HB2.out, if_pos (Or.inr h125)]));go_wp2_with fail
     refine xM (qF (.slice none 0 0) ({ kind := 1, c := 123 }) (i) (z) _ (k := B) (qm _ _)) ?_;exact z71
    | true =>
     have HB := xH (HB2.out.trans (if_neg (by simp [h125]; omega)));have hin := qR HP.out h125;rw [HN.out] at hin;simp only [dA, Nat.zero_add] at hin;cases gr with
     | true =>
      have HR := xH (HE2.out.trans (show _ = Except.error (25, (i : Int)) by rw [HB.out]; simp));exact z87
     | false =>
      have HR1 := xH (HE2.out.trans (show _ = (if 0 ≤ (n : Int) ∧ (n : Int) < n then Except.error (23, (i : Int)) else quan p i (a + 1) n (n)) by rw [HB.out]; simp only [Bool.false_eq_true, if_false]));have HR := xH (HR1.out.trans (if_neg (fun h => absurd h.2 (Int.lt_irrefl _))));have hm0 : (0 : Int) ≤ n := by omega
      go_wp2_with fail
      refine xM (quant_any S p _ HP.out i (a + 1) n (n) (by rw [HN.out]; omega)) ?_;exact z174
   | true =>
    have HB2 := xH (HB1.out.trans (if_pos ⟨ha, h44⟩));have hin4 := qR HP.out h44;rw [HN.out] at hin4;simp only [dA, Nat.zero_add] at hin4;clear HB1;go_wp2_with fail
    refine xM (vY S p _ HP.out (a + 1) (by rw [HN.out]; omega)) ?_;rintro e w4 ⟨rfl, hb⟩;have F4 := xH (F3.out.step hb);clear hb c0 c1 c2 c3;obtain ⟨c0, c1, c2, c3⟩ := F4.out.c;obtain ⟨mk1, mk2⟩ := num_bd (p := p) (a := a + 1) (by rw [HN.out]; omega);rw [HN.out] at mk2;obtain ⟨vk1, vk2⟩ := num_val HP.out (a := a + 1) (by rw [HN.out]; omega);generalize num p (a + 1) = q at *;obtain ⟨k, b, gs⟩ := q;simp only at mk1 mk2 vk1 vk2 HB2;by_cases hb1 : b = a + 1
    ·subst hb1;have hbi : ((a + 1 : Nat) : Int) = (a : Int) + 1 := by omega
     cases gr with
     | true =>
      go_wp2_with fail
      refine xM (qG S p _ HP.out (a + 1) (by omega) [125] ⟨#[125]⟩ rfl (by decide) (Or.inl (by rw [HN.out]; omega))) ?_;rintro e w5 ⟨rfl, hb⟩;have F5 := xH (F4.out.step hb);clear hb c0 c1 c2 c3;obtain ⟨c0, c1, c2, c3⟩ := F5.out.c;cases h125 : p.has [125] (a + 1) with
      | false =>
       exact z35
      | true =>
       exact z51
     | false =>
      cases gs with
      | true =>
       go_wp2_with fail
       refine xM (qG S p _ HP.out (a + 1) (by omega) [125] ⟨#[125]⟩ rfl (by decide) (Or.inl (by rw [HN.out]; omega))) ?_;rintro e w5 ⟨rfl, hb⟩;have F5 := xH (F4.out.step hb);clear hb c0 c1 c2 c3;obtain ⟨c0, c1, c2, c3⟩ := F5.out.c;cases h125 : p.has [125] (a + 1) with
       | false =>
        exact z35
       | true =>
        exact z51
      | false =>
       go_wp2_with fail
       refine xM (qG S p _ HP.out (a + 1) (by omega) [125] ⟨#[125]⟩ rfl (by decide) (Or.inl (by rw [HN.out]; omega))) ?_;rintro e w5 ⟨rfl, hb⟩;have F5 := xH (F4.out.step hb);clear hb c0 c1 c2 c3;obtain ⟨c0, c1, c2, c3⟩ := F5.out.c;cases h125 : p.has [125] (a + 1) with
       | false =>
        exact z35
       | true =>
        have hin := qR HP.out h125;rw [HN.out] at hin;simp only [dA, Nat.zero_add] at hin;have HR := xH (HE2.out.trans (show _ = quan p i (a + 1 + 1) n (-1) by rw [HB2.out, if_pos h125]; simp));go_wp2_with fail
        refine xM (quant_any S p _ HP.out i (a + 1 + 1) n (-1) (by rw [HN.out]; omega)) ?_;exact z123
    have hbi : ¬ (b : Int) = (a : Int) + 1 := by omega
    cases gr with
    | true =>
     go_wp2_with fail
     refine xM (qG S p _ HP.out (b) (by omega) [125] ⟨#[125]⟩ rfl (by decide) (Or.inl (by rw [HN.out]; omega))) ?_;rintro e w5 ⟨rfl, hb⟩;have F5 := xH (F4.out.step hb);clear hb c0 c1 c2 c3;obtain ⟨c0, c1, c2, c3⟩ := F5.out.c;cases h125 : p.has [125] b with
     | false =>
      exact z35
     | true =>
      exact z51
    | false =>
     cases gs with
     | true =>
      go_wp2_with fail
      refine xM (qG S p _ HP.out (b) (by omega) [125] ⟨#[125]⟩ rfl (by decide) (Or.inl (by rw [HN.out]; omega))) ?_;rintro e w5 ⟨rfl, hb⟩;have F5 := xH (F4.out.step hb);clear hb c0 c1 c2 c3;obtain ⟨c0, c1, c2, c3⟩ := F5.out.c;cases h125 : p.has [125] b with
      | false =>
       exact z35
      | true =>
       exact z51
     | false =>
      go_wp2_with fail
      refine xM (qG S p _ HP.out (b) (by omega) [125] ⟨#[125]⟩ rfl (by decide) (Or.inl (by rw [HN.out]; omega))) ?_;rintro e w5 ⟨rfl, hb⟩;have F5 := xH (F4.out.step hb);clear hb c0 c1 c2 c3;obtain ⟨c0, c1, c2, c3⟩ := F5.out.c;cases h125 : p.has [125] b with
      | false =>
       exact z35
      | true =>
       have hin := qR HP.out h125;rw [HN.out] at hin;simp only [dA, Nat.zero_add] at hin;have HR1 := xH (HE2.out.trans (show _ = (if 0 ≤ k ∧ k < n then Except.error (23, (i : Int)) else quan p i (b + 1) n k) by rw [HB2.out, if_pos h125, if_neg hb1]; simp));by_cases hmn : k < n
       ·have HR := xH (HR1.out.trans (if_pos ⟨vk1, hmn⟩));exact z88
       ·have HR := xH (HR1.out.trans (if_neg (fun h => hmn h.2)));go_wp2_with fail
        refine xM (quant_any S p _ HP.out i (b + 1) n k (by rw [HN.out]; omega)) ?_;exact z123
  have b123 : (c == 123) = false := by simp [e123]
  have HR := xH (HE.out.trans (if_neg e123));clear e123 HE;go_wp2_with fail
  refine xM (qF (.slice none 0 0) ({ kind := 1, c := c }) (i) (z) _ (k := B) (qm _ _)) ?_;exact z73
end rtw
end
section
namespace tkw
open sq
open Go Go.RowKit Go.Maps utfp utfw ucdp setp setw prp tkp
theorem wraps_i64_62 (n : Int) (h₀ : 0 ≤ n) (h₁ : n < 2 ^ 62) : IntKind.i64.wrap n = n := by rw [IntKind.wrap_i64]; omega
theorem opt_bit (o : Int) (h0 : 0 ≤ o) (h1 : o ≤ 65535) (i : Nat) (hi : i ≤ 15) : (bits .and .i64 o ((2 ^ i : Nat) : Int) != 0) = o.toNat.testBit i := by
 obtain ⟨n, rfl⟩ : ∃ n : Nat, o = n := ⟨o.toNat, by omega⟩;have hp : 2 ^ i ≤ 2 ^ 15 := Nat.pow_le_pow_right (by decide) hi;have h := (bits_nat .i64 62 (by decide) wraps_i64_62 n (2 ^ i) (by omega) (by omega)).1;rw [h, Int.toNat_natCast];have hb : ∀ j, (n &&& 2 ^ i).testBit j = (n.testBit j && decide (i = j)) := fun j => by rw [Nat.testBit_and, Nat.testBit_two_pow]
 cases ht : n.testBit i with
 | false =>
  have : n &&& 2 ^ i = 0 := Nat.eq_of_testBit_eq fun j => by
   rw [hb, Nat.zero_testBit];by_cases e : i = j
   ·subst e; rw [ht]; rfl
   ·simp [e]
  rw [this];rfl
 | true =>
  have : n &&& 2 ^ i ≠ 0 := fun e => by have h2 := hb i;rw [e, ht] at h2;simp at h2
  simpa using this
end tkw
end
end Go.Proofs.YtikjhfmmfpeaoaaGreatDoor
