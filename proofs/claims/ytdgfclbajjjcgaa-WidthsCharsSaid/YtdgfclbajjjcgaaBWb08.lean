/- T -/
import Derived.Test.YtdgfclbajjjcgaaBWb07
set_option maxHeartbeats 16000000
set_option maxRecDepth 1000000
namespace Go.Proofs.Ytdgfclbajjjcgaa
section
namespace rtw
open sq
open Go Go.RowKit Go.Maps utfp utfw ucdp setp setw prp tkp rtp
open tkw (sg sg_bd vJ jM qK tkR qO qM vI)
theorem run_max {p : Pt} {fits : Int → Bool} : ∀ {l k a : Nat}, (∀ i, i < l → a + i < p.n ∧ fits (p.g (a + i)) = true) → (l = k ∨ a + l = p.n ∨ fits (p.g (a + l)) = false) → l ≤ k → p.run fits k a = a + l
 | 0, k, a, h, hs, hl => by
  rcases hs with hs | hs
  ·subst hs; rfl
  ·exact run_stop h hs hl
 | l + 1, k, a, h1, h2, h3 => by obtain ⟨k, rfl⟩ : ∃ q, k = q + 1 := ⟨k - 1, by omega⟩;have h0 := h1 0 (by omega);unfold Pt.run;rw [if_pos (by simp only [dK, dF]; exact ⟨h0.1, h0.2⟩)];rw [run_max (l := l) (k := k) (a := a + 1) (fun i hi => by have := h1 (i + 1) (by omega); rwa [show a + 1 + i = a + (i + 1) by omega]) (by rcases h2 with h2 | h2 | h2; exact Or.inl (by omega); exact Or.inr (Or.inl (by omega)); exact Or.inr (Or.inr (by rwa [show a + 1 + l = a + (l + 1) by omega]))) (by omega)];omega
theorem hexV_in {c : Int} (h : zn c = true) : 0 ≤ hexV c ∧ hexV c ≤ 15 := by
 simp only [zn, isDig, Bool.or_eq_true, dK, dF] at h;unfold hexV;split
 ·omega
 ·split <;> omega
theorem hexVal_in {p : Pt} {a : Nat} : ∀ {l : Nat}, (∀ i, i < l → a + i < p.n ∧ zn (p.g (a + i)) = true) → 0 ≤ p.hexVal a l ∧ p.hexVal a l + 1 ≤ 16 ^ l
 | 0, _ => by simp [Pt.hexVal]
 | l + 1, h => by
  have ih := hexVal_in (l := l) fun i hi => h i (by omega)
  have := hexV_in (h l (by omega)).2;unfold Pt.hexVal;rw [Int.pow_succ];omega
theorem hexVal_le {p : Pt} {a l : Nat} (h : ∀ i, i < l → a + i < p.n ∧ zn (p.g (a + i)) = true) (hl : l ≤ 7) : 0 ≤ p.hexVal a l ∧ p.hexVal a l ≤ 268435455 := by
 have h1 := hexVal_in h;have h2 : (16 : Int) ^ l ≤ 268435456 := by
  obtain h | h | h | h | h | h | h | h : l = 0 ∨ l = 1 ∨ l = 2 ∨ l = 3 ∨ l = 4 ∨ l = 5 ∨ l = 6 ∨ l = 7 := by omega
  all_goals (subst h; decide)
 omega
theorem hexN_pos {c : Int} (h : zn c = true) : hexN c = hexV c := by unfold hexN; rw [if_pos h]
theorem hexN_neg {c : Int} (h : zn c = false) : hexN c = -1 := by unfold hexN; rw [if_neg (by simp [h])]
def HxB (r : Option (Int × Nat)) (w : World) (e : Ending) (w' : World) : Prop := (∃ (v : Int) (j : Nat), e = .returned (.tuple #[.int .i64 v, .int .i64 j]) ∧ j ≤ 2000 ∧ (r = none ∧ v = -1 ∨ r = some (v, j))) ∧ Below w.heap.size w w'
def HexRel (w : World) (B : Nat) (S : ByteArray) (p : Pt) (a m : Nat) (vn vi vk : Value) (wr : World) : Prop :=
 ∃ l : Nat, a + l ≤ S.size ∧ l ≤ m ∧ Hid (∀ i, i < l → a + i < p.n ∧ zn (p.g (a + i)) = true) ∧ vn = .int .i64 (p.hexVal a l) ∧ vi = .int .i64 ((a + l : Nat) : Int) ∧ vk = .int .i64 l ∧ FR w B S p wr
theorem hexd_of {p : Pt} {a l m : Nat} (h : ∀ i, i < l → a + i < p.n ∧ zn (p.g (a + i)) = true) (hs : l = m ∨ a + l = p.n ∨ zn (p.g (a + l)) = false) (hl : l ≤ m) : p.hexd m a = (p.hexVal a l, a + l) := by unfold Pt.hexd;rw [run_max h hs hl, Nat.add_sub_cancel_left]
theorem hexa_any (S : ByteArray) (p : Pt) (w : World) (hP : Pat S p) (i : Nat) (hi : i ≤ p.n) : Calls Try.prog 92 #[txV S p, .int .i64 i] w (HxB (hexz p i) w) := by
 have hn := hP.n;have h2 := hP.le;have HP := xH hP;have HN := xH hn;clear hP;rw [hn] at hi;clear hn;have hm1 := vH p;have hm2 := most_ge p;unfold txV txC;go_enter Try.func92, Try.ntmps92;go_upto_region 1 with (fail)
 generalize hW : (w.alloc _) = W;have F0 := xH (zG (S := S) (p := p) hW);obtain ⟨B, hB⟩ : ∃ B, w.heap.size = B := ⟨_, rfl⟩;rw [hB] at F0 ⊢;clear hW hB;obtain ⟨c0, c1, c2, c3⟩ := F0.out.c;go_wp2_with fail
 refine xM (qG S p _ HP.out (i) (by omega) [123] ⟨#[123]⟩ rfl (by decide) (Or.inl (by rw [HN.out]; exact hi))) ?_;rintro e w1 ⟨rfl, hb⟩;have F1 := xH (F0.out.step hb);clear hb c0 c1 c2 c3;obtain ⟨c0, c1, c2, c3⟩ := F1.out.c;cases h123 : p.has [123] i with
 | true =>
  have hin := qR HP.out h123;rw [HN.out] at hin;simp only [dA, Nat.zero_add] at hin;go_wp2_with fail
  go_loopw [6, 7] (fun vn vi wr => HexRel w B S p (i + 1) 7 vn vi (.int .i64 (intOf vi - (i + 1))) wr) (fun _ vi _ => S.size - (intOf vi).toNat)
  case atStart => exact ⟨0, by omega, by omega, xH (fun j h => absurd h (Nat.not_lt_zero j)), rfl, rfl, by simp [intOf], F1.out⟩
  case round =>
   obtain ⟨l, hl, hl7, hd, rfl, rfl, _, hF⟩ := hrel;have F2 := xH hF;clear hF;obtain ⟨c0, c1, c2, c3⟩ := F2.out.c;have hgb := gb HP.out;obtain ⟨hv0, hv1⟩ := hexVal_le hd.out (by omega);generalize hVV : p.hexVal (i + 1) l = V at *;have HVV := xH hVV;clear hVV;by_cases hlt : i + 1 + l < S.size
   ·obtain ⟨b0, b1⟩ := jS HP.out (i + 1 + l);go_wp2_with fail
    refine (hex_any _ _ b0 b1).mono ?_;rintro e w1 ⟨rfl, rfl⟩;cases hx : zn (p.g (i + 1 + l)) with
    | true =>
     by_cases l7 : l = 7
     ·have HD := xH (hexd_of (m := 7) hd.out (Or.inl l7) hl7);have HX := xH (show hexz p i = none by unfold hexz; rw [if_pos h123, if_pos]; rw [HD.out]; simp only; right; left; omega);have hnn := hexN_pos hx;obtain ⟨x0, x1⟩ := hexV_in hx;have hl0 : ¬ (l : Int) < 7 := by omega
      clear l7;rw [hnn];go_wp2_with fail
      go_ret2
      exact ⟨⟨-1, _, rfl, by omega, Or.inl ⟨HX.out, rfl⟩⟩, F2.out.bel⟩
     ·have hl0 : (l : Int) < 7 := by omega
      have h15 := hexV_in hx;obtain ⟨x0, x1⟩ := h15;have hnn := hexN_pos hx;have hge : (0 : Int) ≤ hexV (p.g (i + 1 + l)) := x0;rw [hnn];go_wp2_with fail
      refine (hex_any _ _ b0 b1).mono ?_;rintro e w2 ⟨rfl, rfl⟩;rw [hnn];go_wp2_with fail
      refine ⟨⟨l + 1, by omega, by omega, xH (fun j hj => by
       by_cases e : j = l
       ·subst e; exact ⟨by rw [HN.out]; exact hlt, hx⟩
       ·exact hd.out j (by omega)), ?_, ?_, ?_, F2.out⟩, by simp only [intOf]; omega⟩
      ·rw [show p.hexVal (i + 1) (l + 1) = p.hexVal (i + 1) l * 16 + hexV (p.g (i + 1 + l)) from rfl, HVV.out]
      ·congr 1
       try omega
      ·simp only [intOf]
       congr 1
       omega
    | false =>
     have hnn := hexN_neg hx;rw [hnn];have HD := xH (hexd_of (m := 7) hd.out (Or.inr (Or.inr hx)) hl7);exact z3
   ·have HD := xH (hexd_of (m := 7) hd.out (Or.inr (Or.inl (by rw [HN.out]; omega))) hl7);exact z3
 | false =>
  go_wp2_with fail
  go_loopw [1, 6, 8] (fun vi vn vk wr => HexRel w B S p i 2 vn vi vk wr) (fun vi _ _ _ => S.size - (intOf vi).toNat)
  case atStart => exact ⟨0, by omega, by omega, xH (fun j h => absurd h (Nat.not_lt_zero j)), rfl, rfl, rfl, F1.out⟩
  case round =>
   obtain ⟨l, hl, hl7, hd, rfl, rfl, rfl, hF⟩ := hrel;have F2 := xH hF;clear hF;obtain ⟨c0, c1, c2, c3⟩ := F2.out.c;have hgb := gb HP.out;obtain ⟨hv0, hv1⟩ := hexVal_le hd.out (by omega);generalize hVV : p.hexVal (i) l = V at *;have HVV := xH hVV;clear hVV;by_cases h2l : l = 2
   ·have HD := xH (hexd_of (m := 2) hd.out (Or.inl h2l) hl7);rw [HVV.out] at HD;have HR := xH (show hexz p i = hexC p (V, i + l) by unfold hexz; rw [if_neg (by simp [h123]), HD.out]);have hl2 : ¬ (l : Int) < 2 := by omega
    clear h2l;exact z10
   ·have hl2 : (l : Int) < 2 := by omega
    by_cases hlt : i + l < S.size
    ·obtain ⟨b0, b1⟩ := jS HP.out (i + l);go_wp2_with fail
     refine (hex_any _ _ b0 b1).mono ?_;rintro e w1 ⟨rfl, rfl⟩;cases hx : zn (p.g (i + l)) with
     | true =>
      have h15 := hexV_in hx;obtain ⟨x0, x1⟩ := h15;have hnn := hexN_pos hx;have hge : (0 : Int) ≤ hexV (p.g (i + l)) := x0;rw [hnn];go_wp2_with fail
      refine (hex_any _ _ b0 b1).mono ?_;rintro e w2 ⟨rfl, rfl⟩;rw [hnn];go_wp2_with fail
      refine ⟨⟨l + 1, by omega, by omega, xH (fun j hj => by
       by_cases e : j = l
       ·subst e; exact ⟨by rw [HN.out]; exact hlt, hx⟩
       ·exact hd.out j (by omega)), ?_, ?_, rfl, F2.out⟩, by simp only [intOf]; omega⟩
      ·rw [show p.hexVal (i) (l + 1) = p.hexVal (i) l * 16 + hexV (p.g (i + l)) from rfl, HVV.out]
      ·congr 1
       try omega
     | false =>
      have hnn := hexN_neg hx;have HD := xH (hexd_of (m := 2) hd.out (Or.inr (Or.inr hx)) hl7);rw [HVV.out] at HD;have HR := xH (show hexz p i = hexC p (V, i + l) by unfold hexz; rw [if_neg (by simp [h123]), HD.out]);rw [hnn];exact z10
    ·have HD := xH (hexd_of (m := 2) hd.out (Or.inr (Or.inl (by rw [HN.out]; omega))) hl7);rw [HVV.out] at HD;have HR := xH (show hexz p i = hexC p (V, i + l) by unfold hexz; rw [if_neg (by simp [h123]), HD.out]);exact z10
structure FH (w : World) (B : Nat) (S : ByteArray) (p : Pt) (W : World) : Prop extends FR w B S p W where
 g : ∃ old, W.heap[B + 2]? = some (.cells old 92 (0, 0)) ∧ old.size = 16
theorem FH.step {w W W' : World} {B : Nat} {S : ByteArray} {p : Pt} (h : FH w B S p W) (hb : Below W.heap.size W W') : FH w B S p W' :=
 ⟨h.toFR.step hb, by obtain ⟨old, h1, h2⟩ := h.g; exact ⟨old, (hb.block _ (zi h1)).trans h1, h2⟩⟩
theorem fh_start {w W : World} {S : ByteArray} {p : Pt} {cs : Array Value} (hW : ((w.alloc (.cells (txC S p) 84)).alloc (.cells cs 90)).alloc (.cells (gtC (.slice none 0 0) (.error (0, 0))) 92) = W) : FH w w.heap.size S p W ∧ W.heap[w.heap.size + 1]? = some (.cells cs 90 (0, 0)) := by
 have h1 : (w.alloc (.cells (txC S p) 84)).heap.size = w.heap.size + 1 := World.size_alloc ..;have h2 : ((w.alloc (.cells (txC S p) 84)).alloc (.cells cs 90)).heap.size = w.heap.size + 2 := by rw [World.size_alloc, h1]
 subst hW;refine ⟨⟨((zG rfl).step (qK _ _)).step (qK _ _), gtC (.slice none 0 0) (.error (0, 0)), ?_, rfl⟩, ?_⟩
 ·rw [← h2];exact heap_alloc_new _ _
 ·rw [(qK ((w.alloc (.cells (txC S p) 84)).alloc (.cells cs 90)) _).block _ (by rw [h2]; omega), ← h1];exact heap_alloc_new _ _
theorem fh_fin {w W : World} {B : Nat} {S : ByteArray} {p : Pt} {v : Value} {r r' : G} (h : FH w B S p W) (hr : r' = r) {k : Nat} (ho : OwnR W k v (gtS r)) (hk : B ≤ k) : GotB w r' (.returned (.agg (gtC v r))) (W.setRow (B + 2) (gtC v r)) := by subst hr;obtain ⟨old, h1, h2⟩ := h.g;have hB := h.hB;exact got_end h1 (qM ho (by omega)) (by rw [hB]; exact h.below) (by omega)
theorem FH.low {w W W' : World} {B : Nat} {S : ByteArray} {p : Pt} (h : FH w B S p W) (hb : Below (B + 1) W W') (hg : W'.heap[B + 2]? = W.heap[B + 2]?) : FH w B S p W' :=
 ⟨⟨h.hB, h.below.trans (hb.mono (by omega)), h.x.below hb (by omega)⟩, by obtain ⟨old, h1, h2⟩ := h.g; exact ⟨old, hg.trans h1, h2⟩⟩
theorem shut_any (S : ByteArray) (p : Pt) (w : World) (hP : Pat S p) (t : Tk) (ht : t.set = []) (f i : Nat) (hi : i ≤ p.n) (l : List UInt8) (s : ByteArray) (hs : s = ⟨l.toArray⟩) (hl : l.length ≤ 1000) (e : Int) : Calls Try.prog 102 #[txV S p, .agg (tkR (.slice none 0 0) t), .int .i64 f, .int .i64 i, .string s, .int .i64 e] w (GotB w (shutR p t f i l e)) := by
 have hn := hP.n;have h2 := hP.le;have HP := xH hP;have HN := xH hn;clear hP;rw [hn] at hi;clear hn;obtain ⟨tk, ta, tt, tc, tset, tneg, tn, tm, tmd, tname, ton, toff⟩ := t;subst ht;have hz : s.size = l.length := by rw [hs]; simp [ByteArray.size]
 have hz2 : s.size ≤ 1000 := by omega
 have HS := xH hs;have HZ := xH hz;clear hs hz;unfold txV txC tkR;go_enter Try.func102, Try.ntmps102;go_upto_region 1 with (fail)
 generalize hW : ((w.alloc _).alloc _).alloc _ = W;obtain ⟨hf, ht⟩ := fh_start (S := S) (p := p) (cs := tkR (.slice none 0 0) ⟨tk, ta, tt, tc, [], tneg, tn, tm, tmd, tname, ton, toff⟩) hW;have F0 := xH hf;obtain ⟨B, hB⟩ : ∃ B, w.heap.size = B := ⟨_, rfl⟩;rw [hB] at F0 ht ⊢;have HT0 := xH ht;clear hW hB hf ht;obtain ⟨c0, c1, c2, c3⟩ := F0.out.c;go_wp2_with fail
 refine xM (qG S p _ HP.out i (by omega) l s HS.out hl (Or.inl (by rw [HN.out]; exact hi))) ?_;rintro e w1 ⟨rfl, hb⟩;have F1 := xH (F0.out.step hb);have HT1 := xH ((hb.block _ (zi HT0.out)).trans HT0.out);clear hb c0 c1 c2 c3;obtain ⟨c0, c1, c2, c3⟩ := F1.out.c;cases hh : p.has l i with
 | true =>
  have HR := xH (show shutR p ⟨tk, ta, tt, tc, [], tneg, tn, tm, tmd, tname, ton, toff⟩ f i l e = gtok ⟨tk, ta, tt, tc, [], tneg, tn, tm, tmd, tname, ton, toff⟩ f (i + s.size) by unfold shutR; rw [if_pos hh, HZ.out]);go_wp2_with (refine tkw.qX rfl _ rfl (B + 1) rfl _ HT1.out rfl ?_)
  refine xM (qF (.slice none 0 0) (⟨tk, ta, tt, tc, [], tneg, tn, tm, tmd, tname, ton, toff⟩) (f) (i + s.size) _ (k := B) (qm _ _)) ?_;rintro e w2 ⟨rfl, ho, hb⟩;have F2 := xH (F1.out.step hb);have HO := xH ho;clear hb ho c0 c1 c2 c3;obtain ⟨old, hg, hz⟩ := F2.out.g;have HG := xH hg;clear hg;go_wp2_with (refine xR HG hz HO rfl rfl rfl rfl rfl ?_)
  refine xB (xE HG rfl rfl) rfl ?_;exact fh_fin F2.out HR.out HO.out (xL _)
 | false =>
  by_cases h0 : S.size ≤ i
  ·have HR := xH (show shutR p ⟨tk, ta, tt, tc, [], tneg, tn, tm, tmd, tname, ton, toff⟩ f i l e = .error (20, p.n) by unfold shutR; rw [if_neg (by simp [hh]), if_pos (by rw [HN.out]; exact h0)]);exact z25
  ·have HR := xH (show shutR p ⟨tk, ta, tt, tc, [], tneg, tn, tm, tmd, tname, ton, toff⟩ f i l e = .error (e, f) by unfold shutR; rw [if_neg (by simp [hh]), if_neg (by rw [HN.out]; exact h0)]);exact z26
theorem called_any (S : ByteArray) (p : Pt) (w : World) (hP : Pat S p) (t : Tk) (ht : t.set = []) (f i : Nat) (hi : i ≤ p.n) (l : List UInt8) (s : ByteArray) (hs : s = ⟨l.toArray⟩) (hl : l.length ≤ 1000) : Calls Try.prog 101 #[txV S p, .agg (tkR (.slice none 0 0) t), .int .i64 f, .int .i64 i, .string s] w (GotB w (callR p t f i l)) := by
 have hn := hP.n;have h2 := hP.le;have HP := xH hP;have HN := xH hn;clear hP;rw [hn] at hi;clear hn;obtain ⟨tk, ta, tt, tc, tset, tneg, tn, tm, tmd, tname, ton, toff⟩ := t;subst ht;have hz : s.size = l.length := by rw [hs]; simp [ByteArray.size]
 have hz2 : s.size ≤ 1000 := by omega
 have HS := xH hs;have HZ := xH hz;clear hs hz;unfold txV txC tkR;go_enter Try.func101, Try.ntmps101;go_upto_region 1 with (fail)
 generalize hW : ((w.alloc _).alloc _).alloc _ = W;obtain ⟨hf, ht⟩ := fh_start (S := S) (p := p) (cs := tkR (.slice none 0 0) ⟨tk, ta, tt, tc, [], tneg, tn, tm, tmd, tname, ton, toff⟩) hW;have F0 := xH hf;obtain ⟨B, hB⟩ : ∃ B, w.heap.size = B := ⟨_, rfl⟩;rw [hB] at F0 ht ⊢;have HT0 := xH ht;clear hW hB hf ht;obtain ⟨c0, c1, c2, c3⟩ := F0.out.c;go_wp2_with fail
 refine xM (name_any S p _ HP.out i (by rw [HN.out]; exact hi)) ?_;rintro e w1 ⟨rfl, hb⟩;have F1 := xH (F0.out.step hb);have HT1 := xH ((hb.block _ (zi HT0.out)).trans HT0.out);clear hb c0 c1 c2 c3;obtain ⟨c0, c1, c2, c3⟩ := F1.out.c;have hnb := zh (p := p) (a := i) (by rw [HN.out]; exact hi);rw [HN.out] at hnb;have HRR := xH (show callR p ⟨tk, ta, tt, tc, [], tneg, tn, tm, tmd, tname, ton, toff⟩ f i l = if p.n ≤ (p.name i).1 then .error (20, (p.n : Int)) else if (p.name i).2 = false ∨ p.has l (p.name i).1 = false then .error (27, (f : Int)) else gtok { (⟨tk, ta, tt, tc, [], tneg, tn, tm, tmd, tname, ton, toff⟩ : Tk) with name := p.sub i (p.name i).1 } f ((p.name i).1 + l.length) from rfl);generalize (p.name i).1 = z at *;generalize (p.name i).2 = ok at *;generalize p.sub i z = nm at *;obtain ⟨n1, n2⟩ := hnb;by_cases h0 : S.size ≤ z
 ·have HR := xH (HRR.out.trans (if_pos (by rw [HN.out]; exact h0)));exact z25
 ·have HR1 := xH (HRR.out.trans (if_neg (by rw [HN.out]; exact h0)));cases ok with
  | false =>
   have HR := xH (HR1.out.trans (if_pos (Or.inl rfl)));exact z26
  | true =>
   go_wp2_with fail
   refine xM (qG S p _ HP.out z (by omega) l s HS.out hl (Or.inl (by rw [HN.out]; omega))) ?_;rintro e w2 ⟨rfl, hb⟩;have F2 := xH (F1.out.step hb);have HT2 := xH ((hb.block _ (zi HT1.out)).trans HT1.out);clear hb c0 c1 c2 c3;obtain ⟨c0, c1, c2, c3⟩ := F2.out.c;cases hh : p.has l z with
   | false =>
    have HR := xH (HR1.out.trans (if_pos (Or.inr hh)));go_wp2_with fail
    refine xM (qw _ _ _) ?_;rintro e w3 ⟨v, rfl, ho, hb⟩;have HO := xO F2.out.x ho;have F3 := xH (F2.out.step hb);clear hb ho c0 c1 c2 c3;obtain ⟨old, hg, hz⟩ := F3.out.g;have HG := xH hg;clear hg;go_wp2_with (refine xR HG hz HO rfl rfl rfl rfl rfl ?_)
    refine xB (xE HG rfl rfl) rfl ?_;exact fh_fin F3.out HR.out HO.out (xL _)
   | true =>
    have HR := xH (show callR p ⟨tk, ta, tt, tc, [], tneg, tn, tm, tmd, tname, ton, toff⟩ f i l = gtok { (⟨tk, ta, tt, tc, [], tneg, tn, tm, tmd, tname, ton, toff⟩ : Tk) with name := nm } f (z + s.size) from HR1.out.trans ((if_neg (by simp [hh])).trans (by rw [HZ.out])));have ct : w2.cell? ⟨B + 1, 9, none⟩ = some (.string tname) := by simp [World.cell?, HT2.out, tkR]
    have cf : w2.frozen? ⟨B + 1, 9, none⟩ = false := by simp [World.frozen?, HT2.out]
    have HT3 : Hid ((w2.setCell ⟨B + 1, 9, none⟩ (.string nm)).heap[B + 1]? = some (.cells (tkR (.slice none 0 0) { (⟨tk, ta, tt, tc, [], tneg, tn, tm, tmd, tname, ton, toff⟩ : Tk) with name := nm }) 90 (0, 0))) := xH (tkw.heap_set HT2.out);have F3 := xH (F2.out.low ((Below.refl _ w2).setCell (p := ⟨B + 1, 9, none⟩) (xL _) (.string nm)) (Below.heap_setCell w2 ⟨B + 1, 9, none⟩ _ (B + 2) (by simp)));clear c0 c1 c2 c3;obtain ⟨c0, c1, c2, c3⟩ := F3.out.c;go_wp2_with (refine tkw.qX rfl _ rfl (B + 1) rfl _ HT3.out rfl ?_)
    refine xM (qF (.slice none 0 0) ({ (⟨tk, ta, tt, tc, [], tneg, tn, tm, tmd, tname, ton, toff⟩ : Tk) with name := nm }) (f) (z + s.size) _ (k := B) (qm _ _)) ?_;rintro e w4 ⟨rfl, ho, hb⟩;have F4 := xH (F3.out.step hb);have HO := xH ho;clear hb ho c0 c1 c2 c3;obtain ⟨old, hg, hz⟩ := F4.out.g;have HG := xH hg;clear hg;go_wp2_with (refine xR HG hz HO rfl rfl rfl rfl rfl ?_)
    refine xB (xE HG rfl rfl) rfl ?_;exact fh_fin F4.out HR.out HO.out (xL _)
theorem has_byte {S : ByteArray} {p : Pt} (_h : Pat S p) (c : UInt8) (i : Nat) : p.has [c] i = true ↔ i < p.n ∧ p.g i = (c.toNat : Int) := by simp [Pt.has]
theorem has_other {S : ByteArray} {p : Pt} (h : Pat S p) {c d : UInt8} {i : Nat} (e : p.has [c] i = true) (hcd : c ≠ d) : p.has [d] i = false := by rw [Bool.eq_false_iff];intro e2;have h1 := ((has_byte h c i).1 e).2;have h2 := ((has_byte h d i).1 e2).2;exact hcd (UInt8.toNat_inj.1 (by omega))
theorem sign_bd {S : ByteArray} {p : Pt} (h : Pat S p) {a : Nat} (ha : a ≤ p.n) : a ≤ (p.sign a).2 ∧ (p.sign a).2 ≤ p.n := by unfold Pt.sign;exact z118
theorem num_bd {p : Pt} {a : Nat} (h : a ≤ p.n) : a ≤ (num p a).2.1 ∧ (num p a).2.1 ≤ p.n := ⟨(tkw.run_bd h).1, (tkw.run_bd h).2.1⟩
theorem sgn_bd {S : ByteArray} {p : Pt} (h : Pat S p) {a : Nat} (ha : a ≤ p.n) : a ≤ (sgn p a).2.2.1 ∧ (sgn p a).2.2.1 ≤ p.n := by
 have h1 := sign_bd h ha;have h2 := num_bd h1.2;unfold sgn;split
 ·exact ⟨xL _, ha⟩
 ·exact ⟨by simp only; omega, h2.2⟩
theorem refer_any (S : ByteArray) (p : Pt) (w : World) (hP : Pat S p) (f i : Nat) (hi : i ≤ p.n) : Calls Try.prog 94 #[txV S p, .int .i64 f, .int .i64 i] w (GotB w (refR p f i)) := by
 have hn := hP.n;have h2 := hP.le;have HP := xH hP;have HN := xH hn;clear hP;rw [hn] at hi;clear hn;unfold txV txC;go_enter Try.func94, Try.ntmps94;go_upto_region 1 with (fail)
 generalize hW : (w.alloc _).alloc _ = W;have F0 := xH (fg_start (S := S) (p := p) hW);obtain ⟨B, hB⟩ : ∃ B, w.heap.size = B := ⟨_, rfl⟩;rw [hB] at F0 ⊢;clear hW hB;obtain ⟨c0, c1, c2, c3⟩ := F0.out.c;cases h123 : p.has [123] i with
 | true =>
  have hin := qR HP.out h123;rw [HN.out] at hin;simp only [dA, Nat.zero_add] at hin;have h60 : p.has [60] i = false := has_other HP.out h123 (by decide);have h39 : p.has [39] i = false := has_other HP.out h123 (by decide);have HQ := xH (show p.quotes i = (11, [125], i + 1) by unfold Pt.quotes; simp only [h60, h39, h123]; rfl);go_wp2_with fail
  refine xM (qG S p _ HP.out i (by omega) [123] ⟨#[123]⟩ rfl (by decide) (Or.inl (by rw [HN.out]; exact hi))) ?_;rintro e w1 ⟨rfl, hb⟩;have F1 := xH (F0.out.step hb);clear hb c0 c1 c2 c3;obtain ⟨c0, c1, c2, c3⟩ := F1.out.c;rw [h123];go_wp2_with fail
  refine xM (qG S p _ HP.out i (by omega) [60] ⟨#[60]⟩ rfl (by decide) (Or.inl (by rw [HN.out]; exact hi))) ?_;rintro e w2 ⟨rfl, hb⟩;have F2 := xH (F1.out.step hb);clear hb c0 c1 c2 c3;obtain ⟨c0, c1, c2, c3⟩ := F2.out.c;rw [h60];go_wp2_with fail
  refine xM (qG S p _ HP.out i (by omega) [39] ⟨#[39]⟩ rfl (by decide) (Or.inl (by rw [HN.out]; exact hi))) ?_;rintro e w3 ⟨rfl, hb⟩;have F3 := xH (F2.out.step hb);clear hb c0 c1 c2 c3;obtain ⟨c0, c1, c2, c3⟩ := F3.out.c;rw [h39];go_wp2_with fail
  refine xM (zQ S p _ HP.out (i + 1) (by rw [HN.out]; omega)) ?_;rintro e w4 ⟨rfl, hb⟩;have F4 := xH (F3.out.step hb);clear hb c0 c1 c2 c3;obtain ⟨c0, c1, c2, c3⟩ := F4.out.c;obtain ⟨n1, n2⟩ := sgn_bd HP.out (a := i + 1) (by rw [HN.out]; omega);rw [HN.out] at n2;have HRR := xH (show ∀ x, sgn p (i + 1) = x → refR p f i = (if x.2.2.2 = true then .error (25, (f : Int)) else if i + 1 < x.2.2.1 then (if p.has [125] x.2.2.1 = false then .error (21, (f : Int)) else if x.1 = 0 ∧ ((11 : Int) = 11 ∨ x.2.1 ≠ 0) then .error (25, (f : Int)) else gtok { kind := 11, n := x.1, m := x.2.1 } f (x.2.2.1 + ([125] : List UInt8).length)) else if ([125] : List UInt8) = [] ∨ (p.name (i + 1)).2 = false ∨ p.has [125] (p.name (i + 1)).1 = false then .error (21, (f : Int)) else gtok { kind := 11, name := p.sub (i + 1) (p.name (i + 1)).1, m := 3 } f ((p.name (i + 1)).1 + 1)) from fun x hx => by subst hx; unfold refR; simp only [HQ.out]);obtain ⟨q, hq⟩ : ∃ q, sgn p (i + 1) = q := ⟨_, rfl⟩;have HR0 := xH (HRR.out q hq);rw [hq] at n1 n2 ⊢;clear hq HRR;obtain ⟨n, m, b, g⟩ := q;simp only at n1 n2 HR0;cases g with
  | true =>
   exact z62
  | false =>
   have HR1 := xH (HR0.out.trans (if_neg (by simp)));clear HR0;by_cases hlt : i + 1 < b
   ·have HR2 := xH (HR1.out.trans (if_pos hlt));have hlti : ((i : Int) + 1 : Int) < (b : Int) := by omega
    clear HR1;go_wp2_with fail
    refine xM (qG S p _ HP.out b (by omega) [125] ⟨#[125]⟩ rfl (by decide) (Or.inl (by rw [HN.out]; exact n2))) ?_;rintro e w5 ⟨rfl, hb⟩;have F5 := xH (F4.out.step hb);clear hb c0 c1 c2 c3;obtain ⟨c0, c1, c2, c3⟩ := F5.out.c;cases hh : p.has [125] b with
    | false =>
     exact z63
    | true =>
     have HR3 := xH (HR2.out.trans (if_neg (by simp [hh])));clear HR2;by_cases hn0 : n = 0
     ·subst hn0;exact z59
     ·have HR := xH (HR3.out.trans (if_neg (by rintro ⟨h, _⟩; exact hn0 h)));have hb0 : (n == 0) = false := by simpa using hn0
      go_wp2_with fail
      refine xM (qF (.slice none 0 0) ({ kind := 11, n := n, m := m }) (f) (b + 1) _ (k := B) (qm _ _)) ?_;exact z68
   ·have HR2 := xH (HR1.out.trans (if_neg hlt));have hlti : ¬ ((i : Int) + 1 : Int) < (b : Int) := by omega
    clear HR1;go_wp2_with fail
    refine xM (name_any S p _ HP.out (i + 1) (by rw [HN.out]; omega)) ?_;rintro e w5 ⟨rfl, hb⟩;have F5 := xH (F4.out.step hb);clear hb c0 c1 c2 c3;obtain ⟨c0, c1, c2, c3⟩ := F5.out.c;obtain ⟨m1, m2⟩ := zh (p := p) (a := i + 1) (by rw [HN.out]; omega);rw [HN.out] at m2;generalize (p.name (i + 1)).1 = z at *;generalize (p.name (i + 1)).2 = ok at *;generalize p.sub (i + 1) z = nm at *;cases ok with
    | false =>
     exact z53
    | true =>
     go_wp2_with fail
     refine xM (qG S p _ HP.out z (by omega) [125] ⟨#[125]⟩ rfl (by decide) (Or.inl (by rw [HN.out]; exact m2))) ?_;rintro e w6 ⟨rfl, hb⟩;have F6 := xH (F5.out.step hb);clear hb c0 c1 c2 c3;obtain ⟨c0, c1, c2, c3⟩ := F6.out.c;cases hh : p.has [125] z with
     | false =>
      exact z55
     | true =>
      have HR := xH (HR2.out.trans (if_neg (by simp [hh])));go_wp2_with fail
      refine xM (qF (.slice none 0 0) ({ kind := 11, name := nm, m := 3 }) (f) (z + 1) _ (k := B) (qm _ _)) ?_;exact z162
 | false =>
  cases h60 : p.has [60] i with
  | true =>
   have hin := qR HP.out h60;rw [HN.out] at hin;simp only [dA, Nat.zero_add] at hin;have h39 : p.has [39] i = false := has_other HP.out h60 (by decide);have HQ := xH (show p.quotes i = (12, [62], i + 1) by unfold Pt.quotes; simp only [h60]; rfl);go_wp2_with fail
   refine xM (qG S p _ HP.out i (by omega) [123] ⟨#[123]⟩ rfl (by decide) (Or.inl (by rw [HN.out]; exact hi))) ?_;rintro e w1 ⟨rfl, hb⟩;have F1 := xH (F0.out.step hb);clear hb c0 c1 c2 c3;obtain ⟨c0, c1, c2, c3⟩ := F1.out.c;rw [h123];go_wp2_with fail
   refine xM (qG S p _ HP.out i (by omega) [60] ⟨#[60]⟩ rfl (by decide) (Or.inl (by rw [HN.out]; exact hi))) ?_;rintro e w2 ⟨rfl, hb⟩;have F2 := xH (F1.out.step hb);clear hb c0 c1 c2 c3;obtain ⟨c0, c1, c2, c3⟩ := F2.out.c;rw [h60];go_wp2_with fail
   refine xM (qG S p _ HP.out i (by omega) [39] ⟨#[39]⟩ rfl (by decide) (Or.inl (by rw [HN.out]; exact hi))) ?_;rintro e w3 ⟨rfl, hb⟩;have F3 := xH (F2.out.step hb);clear hb c0 c1 c2 c3;obtain ⟨c0, c1, c2, c3⟩ := F3.out.c;rw [h39];go_wp2_with fail
   refine xM (zQ S p _ HP.out (i + 1) (by rw [HN.out]; omega)) ?_;rintro e w4 ⟨rfl, hb⟩;have F4 := xH (F3.out.step hb);clear hb c0 c1 c2 c3;obtain ⟨c0, c1, c2, c3⟩ := F4.out.c;obtain ⟨n1, n2⟩ := sgn_bd HP.out (a := i + 1) (by rw [HN.out]; omega);rw [HN.out] at n2;have HRR := xH (show ∀ x, sgn p (i + 1) = x → refR p f i = (if x.2.2.2 = true then .error (25, (f : Int)) else if i + 1 < x.2.2.1 then (if p.has [62] x.2.2.1 = false then .error (21, (f : Int)) else if x.1 = 0 ∧ ((12 : Int) = 11 ∨ x.2.1 ≠ 0) then .error (25, (f : Int)) else gtok { kind := 12, n := x.1, m := x.2.1 } f (x.2.2.1 + ([62] : List UInt8).length)) else if ([62] : List UInt8) = [] ∨ (p.name (i + 1)).2 = false ∨ p.has [62] (p.name (i + 1)).1 = false then .error (21, (f : Int)) else gtok { kind := 12, name := p.sub (i + 1) (p.name (i + 1)).1, m := 3 } f ((p.name (i + 1)).1 + 1)) from fun x hx => by subst hx; unfold refR; simp only [HQ.out]);obtain ⟨q, hq⟩ : ∃ q, sgn p (i + 1) = q := ⟨_, rfl⟩;have HR0 := xH (HRR.out q hq);rw [hq] at n1 n2 ⊢;clear hq HRR;obtain ⟨n, m, b, g⟩ := q;simp only at n1 n2 HR0;cases g with
   | true =>
    exact z62
   | false =>
    have HR1 := xH (HR0.out.trans (if_neg (by simp)));clear HR0;by_cases hlt : i + 1 < b
    ·have HR2 := xH (HR1.out.trans (if_pos hlt));have hlti : ((i : Int) + 1 : Int) < (b : Int) := by omega
     clear HR1;go_wp2_with fail
     refine xM (qG S p _ HP.out b (by omega) [62] ⟨#[62]⟩ rfl (by decide) (Or.inl (by rw [HN.out]; exact n2))) ?_;rintro e w5 ⟨rfl, hb⟩;have F5 := xH (F4.out.step hb);clear hb c0 c1 c2 c3;obtain ⟨c0, c1, c2, c3⟩ := F5.out.c;cases hh : p.has [62] b with
     | false =>
      exact z63
     | true =>
      exact z11
    ·have HR2 := xH (HR1.out.trans (if_neg hlt));have hlti : ¬ ((i : Int) + 1 : Int) < (b : Int) := by omega
     clear HR1;go_wp2_with fail
     refine xM (name_any S p _ HP.out (i + 1) (by rw [HN.out]; omega)) ?_;rintro e w5 ⟨rfl, hb⟩;have F5 := xH (F4.out.step hb);clear hb c0 c1 c2 c3;obtain ⟨c0, c1, c2, c3⟩ := F5.out.c;obtain ⟨m1, m2⟩ := zh (p := p) (a := i + 1) (by rw [HN.out]; omega);rw [HN.out] at m2;generalize (p.name (i + 1)).1 = z at *;generalize (p.name (i + 1)).2 = ok at *;generalize p.sub (i + 1) z = nm at *;cases ok with
     | false =>
      exact z53
     | true =>
      go_wp2_with fail
      refine xM (qG S p _ HP.out z (by omega) [62] ⟨#[62]⟩ rfl (by decide) (Or.inl (by rw [HN.out]; exact m2))) ?_;rintro e w6 ⟨rfl, hb⟩;have F6 := xH (F5.out.step hb);clear hb c0 c1 c2 c3;obtain ⟨c0, c1, c2, c3⟩ := F6.out.c;cases hh : p.has [62] z with
      | false =>
       exact z55
      | true =>
       exact z35
  | false =>
   cases h39 : p.has [39] i with
   | true =>
    have hin := qR HP.out h39;rw [HN.out] at hin;simp only [dA, Nat.zero_add] at hin;have HQ := xH (show p.quotes i = (12, [39], i + 1) by unfold Pt.quotes; simp only [h60, h39]; rfl);go_wp2_with fail
    refine xM (qG S p _ HP.out i (by omega) [123] ⟨#[123]⟩ rfl (by decide) (Or.inl (by rw [HN.out]; exact hi))) ?_;rintro e w1 ⟨rfl, hb⟩;have F1 := xH (F0.out.step hb);clear hb c0 c1 c2 c3;obtain ⟨c0, c1, c2, c3⟩ := F1.out.c;rw [h123];go_wp2_with fail
    refine xM (qG S p _ HP.out i (by omega) [60] ⟨#[60]⟩ rfl (by decide) (Or.inl (by rw [HN.out]; exact hi))) ?_;rintro e w2 ⟨rfl, hb⟩;have F2 := xH (F1.out.step hb);clear hb c0 c1 c2 c3;obtain ⟨c0, c1, c2, c3⟩ := F2.out.c;rw [h60];go_wp2_with fail
    refine xM (qG S p _ HP.out i (by omega) [39] ⟨#[39]⟩ rfl (by decide) (Or.inl (by rw [HN.out]; exact hi))) ?_;rintro e w3 ⟨rfl, hb⟩;have F3 := xH (F2.out.step hb);clear hb c0 c1 c2 c3;obtain ⟨c0, c1, c2, c3⟩ := F3.out.c;rw [h39];go_wp2_with fail
    refine xM (zQ S p _ HP.out (i + 1) (by rw [HN.out]; omega)) ?_;rintro e w4 ⟨rfl, hb⟩;have F4 := xH (F3.out.step hb);clear hb c0 c1 c2 c3;obtain ⟨c0, c1, c2, c3⟩ := F4.out.c;obtain ⟨n1, n2⟩ := sgn_bd HP.out (a := i + 1) (by rw [HN.out]; omega);rw [HN.out] at n2;have HRR := xH (show ∀ x, sgn p (i + 1) = x → refR p f i = (if x.2.2.2 = true then .error (25, (f : Int)) else if i + 1 < x.2.2.1 then (if p.has [39] x.2.2.1 = false then .error (21, (f : Int)) else if x.1 = 0 ∧ ((12 : Int) = 11 ∨ x.2.1 ≠ 0) then .error (25, (f : Int)) else gtok { kind := 12, n := x.1, m := x.2.1 } f (x.2.2.1 + ([39] : List UInt8).length)) else if ([39] : List UInt8) = [] ∨ (p.name (i + 1)).2 = false ∨ p.has [39] (p.name (i + 1)).1 = false then .error (21, (f : Int)) else gtok { kind := 12, name := p.sub (i + 1) (p.name (i + 1)).1, m := 3 } f ((p.name (i + 1)).1 + 1)) from fun x hx => by subst hx; unfold refR; simp only [HQ.out]);obtain ⟨q, hq⟩ : ∃ q, sgn p (i + 1) = q := ⟨_, rfl⟩;have HR0 := xH (HRR.out q hq);rw [hq] at n1 n2 ⊢;clear hq HRR;obtain ⟨n, m, b, g⟩ := q;simp only at n1 n2 HR0;cases g with
    | true =>
     exact z62
    | false =>
     have HR1 := xH (HR0.out.trans (if_neg (by simp)));clear HR0;by_cases hlt : i + 1 < b
     ·have HR2 := xH (HR1.out.trans (if_pos hlt));have hlti : ((i : Int) + 1 : Int) < (b : Int) := by omega
      clear HR1;go_wp2_with fail
      refine xM (qG S p _ HP.out b (by omega) [39] ⟨#[39]⟩ rfl (by decide) (Or.inl (by rw [HN.out]; exact n2))) ?_;rintro e w5 ⟨rfl, hb⟩;have F5 := xH (F4.out.step hb);clear hb c0 c1 c2 c3;obtain ⟨c0, c1, c2, c3⟩ := F5.out.c;cases hh : p.has [39] b with
      | false =>
       exact z63
      | true =>
       exact z11
     ·have HR2 := xH (HR1.out.trans (if_neg hlt));have hlti : ¬ ((i : Int) + 1 : Int) < (b : Int) := by omega
      clear HR1;go_wp2_with fail
      refine xM (name_any S p _ HP.out (i + 1) (by rw [HN.out]; omega)) ?_;rintro e w5 ⟨rfl, hb⟩;have F5 := xH (F4.out.step hb);clear hb c0 c1 c2 c3;obtain ⟨c0, c1, c2, c3⟩ := F5.out.c;obtain ⟨m1, m2⟩ := zh (p := p) (a := i + 1) (by rw [HN.out]; omega);rw [HN.out] at m2;generalize (p.name (i + 1)).1 = z at *;generalize (p.name (i + 1)).2 = ok at *;generalize p.sub (i + 1) z = nm at *;cases ok with
      | false =>
       exact z53
      | true =>
       go_wp2_with fail
       refine xM (qG S p _ HP.out z (by omega) [39] ⟨#[39]⟩ rfl (by decide) (Or.inl (by rw [HN.out]; exact m2))) ?_;rintro e w6 ⟨rfl, hb⟩;have F6 := xH (F5.out.step hb);clear hb c0 c1 c2 c3;obtain ⟨c0, c1, c2, c3⟩ := F6.out.c;cases hh : p.has [39] z with
       | false =>
        exact z55
       | true =>
        exact z35
   | false =>
    have HQ := xH (show p.quotes i = (11, [], i) by unfold Pt.quotes; simp only [h60, h39, h123]; rfl);go_wp2_with fail
    refine xM (qG S p _ HP.out i (by omega) [123] ⟨#[123]⟩ rfl (by decide) (Or.inl (by rw [HN.out]; exact hi))) ?_;rintro e w1 ⟨rfl, hb⟩;have F1 := xH (F0.out.step hb);clear hb c0 c1 c2 c3;obtain ⟨c0, c1, c2, c3⟩ := F1.out.c;rw [h123];go_wp2_with fail
    refine xM (qG S p _ HP.out i (by omega) [60] ⟨#[60]⟩ rfl (by decide) (Or.inl (by rw [HN.out]; exact hi))) ?_;rintro e w2 ⟨rfl, hb⟩;have F2 := xH (F1.out.step hb);clear hb c0 c1 c2 c3;obtain ⟨c0, c1, c2, c3⟩ := F2.out.c;rw [h60];go_wp2_with fail
    refine xM (qG S p _ HP.out i (by omega) [39] ⟨#[39]⟩ rfl (by decide) (Or.inl (by rw [HN.out]; exact hi))) ?_;rintro e w3 ⟨rfl, hb⟩;have F3 := xH (F2.out.step hb);clear hb c0 c1 c2 c3;obtain ⟨c0, c1, c2, c3⟩ := F3.out.c;rw [h39];go_wp2_with fail
    refine xM (zQ S p _ HP.out (i) (by rw [HN.out]; omega)) ?_;rintro e w4 ⟨rfl, hb⟩;have F4 := xH (F3.out.step hb);clear hb c0 c1 c2 c3;obtain ⟨c0, c1, c2, c3⟩ := F4.out.c;obtain ⟨n1, n2⟩ := sgn_bd HP.out (a := i) (by rw [HN.out]; omega);rw [HN.out] at n2;have HRR := xH (show ∀ x, sgn p (i) = x → refR p f i = (if x.2.2.2 = true then .error (25, (f : Int)) else if i < x.2.2.1 then (if p.has [] x.2.2.1 = false then .error (21, (f : Int)) else if x.1 = 0 ∧ ((11 : Int) = 11 ∨ x.2.1 ≠ 0) then .error (25, (f : Int)) else gtok { kind := 11, n := x.1, m := x.2.1 } f (x.2.2.1 + ([] : List UInt8).length)) else if ([] : List UInt8) = [] ∨ (p.name (i)).2 = false ∨ p.has [] (p.name (i)).1 = false then .error (21, (f : Int)) else gtok { kind := 11, name := p.sub (i) (p.name (i)).1, m := 3 } f ((p.name (i)).1 + 1)) from fun x hx => by subst hx; unfold refR; simp only [HQ.out]);obtain ⟨q, hq⟩ : ∃ q, sgn p (i) = q := ⟨_, rfl⟩;have HR0 := xH (HRR.out q hq);rw [hq] at n1 n2 ⊢;clear hq HRR;obtain ⟨n, m, b, g⟩ := q;simp only at n1 n2 HR0;cases g with
    | true =>
     exact z62
    | false =>
     have HR1 := xH (HR0.out.trans (if_neg (by simp)));clear HR0;by_cases hlt : i < b
     ·have HR2 := xH (HR1.out.trans (if_pos hlt));have hlti : ((i : Int) : Int) < (b : Int) := by omega
      clear HR1;go_wp2_with fail
      refine xM (qG S p _ HP.out b (by omega) [] ⟨#[]⟩ rfl (by decide) (Or.inl (by rw [HN.out]; exact n2))) ?_;rintro e w5 ⟨rfl, hb⟩;have F5 := xH (F4.out.step hb);clear hb c0 c1 c2 c3;obtain ⟨c0, c1, c2, c3⟩ := F5.out.c;have HR3 := xH (HR2.out.trans (if_neg (by simp [Pt.has])));have hh : p.has [] b = true := rfl;rw [hh];clear HR2;by_cases hn0 : n = 0
      ·subst hn0;exact z59
      ·have HR := xH (HR3.out.trans (if_neg (by rintro ⟨h, _⟩; exact hn0 h)));have hb0 : (n == 0) = false := by simpa using hn0
       go_wp2_with fail
       refine xM (qF (.slice none 0 0) ({ kind := 11, n := n, m := m }) (f) (b) _ (k := B) (qm _ _)) ?_;exact z68
     ·have HR2 := xH (HR1.out.trans (if_neg hlt));have hlti : ¬ ((i : Int) : Int) < (b : Int) := by omega
      clear HR1;go_wp2_with fail
      refine xM (name_any S p _ HP.out (i) (by rw [HN.out]; omega)) ?_;rintro e w5 ⟨rfl, hb⟩;have F5 := xH (F4.out.step hb);clear hb c0 c1 c2 c3;obtain ⟨c0, c1, c2, c3⟩ := F5.out.c;obtain ⟨m1, m2⟩ := zh (p := p) (a := i) (by rw [HN.out]; omega);rw [HN.out] at m2;generalize (p.name (i)).1 = z at *;generalize (p.name (i)).2 = ok at *;generalize p.sub (i) z = nm at *;have HR := xH (HR2.out.trans (if_pos (by simp)));exact z84
end rtw
end
section
namespace prd
open sq
open ucdp setp prp prw
def cLu : ByteArray := ⟨#[76, 117]⟩
def cLl : ByteArray := ⟨#[76, 108]⟩
def cLL : ByteArray := ⟨#[76, 38]⟩
def cAny : ByteArray := ⟨#[65, 110, 121]⟩
def mc (n : ByteArray) (k : Nat) : Bool := decide (catB k = n) || (decide (n.size = 1) && decide ((catB k).extract 0 1 = n)) || (decide (n = cLL) && (decide (catB k = cLu) || decide (catB k = cLl)))
def mB (n : ByteArray) (k s : Nat) : Bool := (decide (catB k = n) || decide (scrB s = n)) || (decide (n.size = 1) && decide ((catB k).extract 0 1 = n)) || (decide (n = cLL) && (decide (catB k = cLu) || decide (catB k = cLl)))
theorem mB_mc (n : ByteArray) (k s : Nat) : mB n k s = (mc n k || decide (scrB s = n)) := by unfold mB mc;cases decide (catB k = n) <;> cases decide (scrB s = n) <;> simp
def cnB (n : ByteArray) : Bool := (decide (n = ⟨#[67, 110]⟩) || decide (n = ⟨#[67]⟩)) || decide (n = ⟨#[85, 110, 107, 110, 111, 119, 110]⟩)
def hk (p : ByteArray × Int) (k : Nat) : Bool := if p.2 = 2 then pre (catB k) p.1 else if p.2 = 3 then cased (catB k) else false
theorem kinds_chk : (kinds.all fun p => p.2 == 1 || (((List.range 24).all fun k => k == 0 || mc p.1 k == hk p k) && ((List.range 11).all fun s => s == 0 || decide (scrB s = p.1) == (p.2 == 4 && decide (scrB s = p.1))))) = true := by decide +kernel
theorem kinds_any : (kinds.all fun p => !(p.2 == 1) || decide (p.1 = cAny)) = true := by decide +kernel
theorem kinds_val : (kinds.all fun p => p.2 == 1 || p.2 == 2 || p.2 == 3 || p.2 == 4) = true := by decide +kernel
theorem kinds_row : (kinds.all fun p => p.2 == 1 || (rows.any fun r => mB p.1 r.2.2.1 r.2.2.2.1) || cnB p.1) = true := by decide +kernel
theorem cat_kind : ((List.range 24).all fun k => k == 0 || (kind (catB k) == 2 && kind ((catB k).extract 0 1) == 2)) = true := by decide +kernel
theorem scr_kind : ((List.range 11).all fun s => s == 0 || kind (scrB s) == 4) = true := by decide +kernel
theorem ll_kind : kind cLL = 3 := by decide +kernel
theorem any_kind : kind cAny = 1 := by decide +kernel
theorem lookP_mem (n : ByteArray) : ∀ {l : List (ByteArray × Int)}, lookP l n 0 ≠ 0 → (n, lookP l n 0) ∈ l
 | [], h => absurd rfl h
 | (k, v) :: l, h => by
  unfold lookP at h ⊢;by_cases e : n = k
  ·subst e;rw [if_pos rfl];exact dJ ..
  ·rw [if_neg e] at h ⊢;exact List.mem_cons_of_mem _ (lookP_mem n h)
theorem kind_any {n : ByteArray} (h : kind n = 1) : n = cAny := by have hm : (n, kind n) ∈ kinds := lookP_mem n (by show kind n ≠ 0; omega);have := List.all_eq_true.1 kinds_any _ hm;simpa [h] using this
theorem kind_in (n : ByteArray) : kind n = 0 ∨ kind n = 1 ∨ kind n = 2 ∨ kind n = 3 ∨ kind n = 4 := by
 by_cases h : kind n = 0
 ·exact Or.inl h
 ·have hm : (n, kind n) ∈ kinds := lookP_mem n h;have := List.all_eq_true.1 kinds_val _ hm;simp only [Bool.or_eq_true, beq_iff_eq] at this;omega
theorem isP_iff (n : ByteArray) : isP n = true ↔ kind n ≠ 0 := by unfold isP;simp only [Bool.or_eq_true, dF];have := kind_in n;omega
theorem mB_kind {n : ByteArray} {k s : Nat} (hk : 1 ≤ k ∧ k ≤ 23) (hs : 1 ≤ s ∧ s ≤ 10) (h : mB n k s = true) : kind n ≠ 0 := by
 have h1 := List.all_eq_true.1 cat_kind k (by simp; omega);have h2 := List.all_eq_true.1 scr_kind s (by simp; omega);simp only [Bool.or_eq_true, dK, beq_iff_eq] at h1 h2;unfold mB at h;simp only [Bool.or_eq_true, dK, dF] at h;rcases h with ((h | h) | h) | h
 ·rw [← h]; omega
 ·rw [← h]; omega
 ·rw [← h.2]; omega
 ·rw [h.1, ll_kind]; omega
theorem mB_hp {n : ByteArray} (hn : n ≠ cAny) {k s : Nat} (h1 : 1 ≤ k ∧ k ≤ 23) (h2 : 1 ≤ s ∧ s ≤ 10) : mB n k s = hp n k s := by
 have hk1 : kind n ≠ 1 := fun e => hn (kind_any e)
 by_cases h0 : kind n = 0
 ·have : mB n k s = false := Bool.eq_false_iff.2 fun e => mB_kind h1 h2 e h0
  rw [this];unfold hp;rw [h0];rfl
 ·have hm : (n, kind n) ∈ kinds := lookP_mem n h0;have hc := List.all_eq_true.1 kinds_chk _ hm;simp only [Bool.or_eq_true, dK, beq_iff_eq, List.all_eq_true, List.mem_range] at hc;rcases hc with hc | ⟨hc1, hc2⟩
  ·exact absurd hc hk1
  ·have e1 := hc1 k (by omega);have e2 := hc2 s (by omega);have e1' : mc n k = hk (n, kind n) k := by
    rcases e1 with e | e
    ·omega
    ·exact e
   have e2' : decide (scrB s = n) = (kind n == 4 && decide (scrB s = n)) := by
    rcases e2 with e | e
    ·omega
    ·exact e
   rw [mB_mc, e1', e2'];unfold hk hp;rcases kind_in n with e | e | e | e | e
   ·exact absurd e h0
   ·exact absurd e hk1
   ·rw [e]; simp
   ·rw [e]; simp
   ·rw [e]; simp
theorem mB_none (n : ByteArray) : mB n 20 3 = cnB n := by
 have a1 : (catB 20).extract 0 1 = ⟨#[67]⟩ := by decide +kernel
 have a2 : catB 20 = ⟨#[67, 110]⟩ := rfl;have a3 : scrB 3 = ⟨#[85, 110, 107, 110, 111, 119, 110]⟩ := rfl;have a4 : decide (catB 20 = cLu) = false := by decide +kernel
 have a5 : decide (catB 20 = cLl) = false := by decide +kernel
 unfold mB cnB;rw [a4, a5, a1, a2, a3];have e1 : (decide (n.size = 1) && decide ((⟨#[67]⟩ : ByteArray) = n)) = decide (n = ⟨#[67]⟩) := by rw [Bool.eq_iff_iff];simp only [dK, dF];exact ⟨fun h => h.2.symm, fun h => by subst h; exact ⟨rfl, rfl⟩⟩
 rw [e1];rw [show decide ((⟨#[67, 110]⟩ : ByteArray) = n) = decide (n = ⟨#[67, 110]⟩) from decide_eq_decide.2 eq_comm, show decide ((⟨#[85, 110, 107, 110, 111, 119, 110]⟩ : ByteArray) = n) = decide (n = ⟨#[85, 110, 107, 110, 111, 119, 110]⟩) from decide_eq_decide.2 eq_comm];cases decide (n = ⟨#[67, 110]⟩) <;> cases decide (n = ⟨#[67]⟩) <;> cases decide (n = ⟨#[85, 110, 107, 110, 111, 119, 110]⟩) <;> simp
def rw5 (i : Nat) : Int × Int × Nat × Nat × Int := rows.getD i (0, 0, 0, 0, 0)
def dl (n : ByteArray) : Nat → List Rg
 | 0 => []
 | k + 1 => if mB n (rw5 k).2.2.1 (rw5 k).2.2.2.1 = true then dl n k ++ [((rw5 k).1, (rw5 k).2.1)] else dl n k
def da : Nat → List Rg
 | 0 => []
 | k + 1 => da k ++ [((rw5 k).1, (rw5 k).2.1)]
theorem dl_succ (n : ByteArray) (k : Nat) : dl n (k + 1) = if mB n (rw5 k).2.2.1 (rw5 k).2.2.2.1 = true then dl n k ++ [((rw5 k).1, (rw5 k).2.1)] else dl n k := rfl
theorem dl_len (n : ByteArray) : ∀ k, (dl n k).length ≤ k
 | 0 => xL _
 | k + 1 => by
  have := dl_len n k;rw [dl_succ];split
  ·simp; omega
  ·omega
theorem da_len : ∀ k, (da k).length = k
 | 0 => rfl
 | k + 1 => by simp [da, da_len k]
theorem dl_has (n : ByteArray) (c : Int) : ∀ k, Has (dl n k) c ↔ ∃ i, i < k ∧ mB n (rw5 i).2.2.1 (rw5 i).2.2.2.1 = true ∧ (rw5 i).1 ≤ c ∧ c ≤ (rw5 i).2.1
 | 0 => by simp [dl, Has]
 | k + 1 => by
  have ih := dl_has n c k;rw [dl_succ];by_cases hk : mB n (rw5 k).2.2.1 (rw5 k).2.2.2.1 = true
  ·rw [if_pos hk, zo, has_one, ih];constructor
   ·rintro (⟨i, hi, a⟩ | a)
    ·exact ⟨i, by omega, a⟩
    ·exact ⟨k, by omega, hk, a⟩
   ·rintro ⟨i, hi, a⟩;by_cases e : i = k
    ·subst e; exact Or.inr a.2
    ·exact Or.inl ⟨i, by omega, a⟩
  ·rw [if_neg hk, ih];constructor
   ·rintro ⟨i, hi, a⟩;exact ⟨i, by omega, a⟩
   ·rintro ⟨i, hi, a⟩;by_cases e : i = k
    ·subst e; exact absurd a.1 hk
    ·exact ⟨i, by omega, a⟩
theorem da_has (c : Int) : ∀ k, Has (da k) c ↔ ∃ i, i < k ∧ (rw5 i).1 ≤ c ∧ c ≤ (rw5 i).2.1
 | 0 => by simp [da, Has]
 | k + 1 => by
  have ih := da_has c k;rw [da, zo, has_one, ih];constructor
  ·rintro (⟨i, hi, a⟩ | a)
   ·exact ⟨i, by omega, a⟩
   ·exact ⟨k, by omega, a⟩
  ·rintro ⟨i, hi, a⟩;by_cases e : i = k
   ·subst e; exact Or.inr a
   ·exact Or.inl ⟨i, by omega, a⟩
theorem rows_apart : rows.Pairwise (fun a b => a.2.1 < b.1) := by decide +kernel
theorem row_cls {c : Int} (h0 : 0 ≤ c) (h1 : c ≤ 1114111) {r : Int × Int × Nat × Nat × Int} (hr : r ∈ rows) (ha : r.1 ≤ c) (hb : c ≤ r.2.1) : cls c = r.2.2 := by
 unfold cls;rw [if_neg (by omega)];cases h : rows.find? (inRow c) with
 | none =>
  have := List.find?_eq_none.1 h r hr;simp [inRow, ha, hb] at this
 | some q =>
  have m1 := List.mem_of_find?_eq_some h;have m2 := List.find?_some h;simp only [inRow, dK, dF] at m2;have : q = r := by
   obtain ⟨i, hi, rfl⟩ := List.getElem_of_mem m1;obtain ⟨j, hj, rfl⟩ := List.getElem_of_mem hr;have hp := List.pairwise_iff_getElem.1 rows_apart;rcases Nat.lt_trichotomy i j with h3 | h3 | h3
   ·have := hp i j hi hj h3; omega
   ·subst h3; rfl
   ·have := hp j i hj hi h3; omega
  rw [this]
theorem rw5_mem {i : Nat} (h : i < 81) : rw5 i ∈ rows := by have hl : rows.length = 81 := rfl;unfold rw5;rw [List.getD, List.getElem?_eq_getElem (by omega)];exact dI _
theorem mem_rw5 {r : Int × Int × Nat × Nat × Int} (h : r ∈ rows) : ∃ i, i < 81 ∧ rw5 i = r := by obtain ⟨i, hi, e⟩ := List.getElem_of_mem h;have hl : rows.length = 81 := rfl;exact ⟨i, by omega, by unfold rw5; rw [List.getD, List.getElem?_eq_getElem hi, Option.getD_some, e]⟩
theorem row_in : (rows.all fun r => (decide (1 ≤ r.2.2.1) && decide (r.2.2.1 ≤ 23)) && (decide (1 ≤ r.2.2.2.1) && decide (r.2.2.2.1 ≤ 10)) && (decide (0 ≤ r.1) && decide (r.1 ≤ r.2.1) && decide (r.2.1 ≤ 1114111))) = true := by decide +kernel
theorem rw5_in {i : Nat} (h : i < 81) : ((1 ≤ (rw5 i).2.2.1 ∧ (rw5 i).2.2.1 ≤ 23) ∧ 1 ≤ (rw5 i).2.2.2.1 ∧ (rw5 i).2.2.2.1 ≤ 10) ∧ 0 ≤ (rw5 i).1 ∧ (rw5 i).1 ≤ (rw5 i).2.1 ∧ (rw5 i).2.1 ≤ 1114111 := by have := List.all_eq_true.1 row_in _ (rw5_mem h);simp only [dK, dF] at this;exact ⟨this.1, this.2.1.1, this.2.1.2, this.2.2⟩
theorem doc_has {n : ByteArray} (hn : n ≠ cAny) {J F : List Rg} (hJ : ∀ c, Has J c ↔ 0 ≤ c ∧ c ≤ 1114111 ∧ ¬ Has (da 81) c) (hF : F = if cnB n = true then dl n 81 ++ J else dl n 81) (c : Int) : (Has F c ∧ 0 ≤ c ∧ c ≤ 1114111) ↔ 0 ≤ c ∧ c ≤ 1114111 ∧ propP n c = true := by
 have key : 0 ≤ c → c ≤ 1114111 → (Has F c ↔ propP n c = true) := by
  intro h0 h1;have hFc : Has F c ↔ Has (dl n 81) c ∨ (cnB n = true ∧ Has J c) := by
   rw [hF];split
   ·rename_i h;rw [zo];simp [h]
   ·rename_i h;simp [h]
  rw [hFc, hJ, dl_has, da_has];by_cases hr : ∃ i, i < 81 ∧ (rw5 i).1 ≤ c ∧ c ≤ (rw5 i).2.1
  ·obtain ⟨i, hi, a, b⟩ := hr;have hc := row_cls h0 h1 (rw5_mem hi) a b;have hin := rw5_in hi;have e : propP n c = mB n (rw5 i).2.2.1 (rw5 i).2.2.2.1 := by unfold propP;rw [hc, mB_hp hn hin.1.1 hin.1.2]
   rw [e];constructor
   ·rintro (⟨j, hj, m, a2, b2⟩ | ⟨_, _, _, h⟩)
    ·have hc2 := row_cls h0 h1 (rw5_mem hj) a2 b2;rw [← hc, hc2];exact m
    ·exact absurd ⟨i, hi, a, b⟩ h
   ·exact fun h => Or.inl ⟨i, hi, h, a, b⟩
  ·have hc : cls c = (20, 3, 0) := by
    rcases cls_row c with ⟨_, h⟩ | ⟨_, _, h | ⟨r, hr2, a, b, _⟩⟩
    ·omega
    ·exact h
    ·obtain ⟨i, hi, rfl⟩ := mem_rw5 hr2;exact absurd ⟨i, hi, a, b⟩ hr
   have e : propP n c = cnB n := by unfold propP;rw [hc, ← mB_none, mB_hp hn (by decide) (by decide)]
   rw [e];constructor
   ·rintro (⟨j, hj, _, a2, b2⟩ | h)
    ·exact absurd ⟨j, hj, a2, b2⟩ hr
    ·exact h.1
   ·exact fun h => Or.inr ⟨h, h0, h1, hr⟩
 constructor
 ·exact fun ⟨h, h0, h1⟩ => ⟨h0, h1, (key h0 h1).1 h⟩
 ·exact fun ⟨h0, h1, h⟩ => ⟨(key h0 h1).2 h, h0, h1⟩
theorem doc_none {n : ByteArray} (hn : n ≠ cAny) {J F : List Rg} (hJn : J ≠ []) (hF : F = if cnB n = true then dl n 81 ++ J else dl n 81) : F = [] ↔ isP n = false := by
 constructor
 ·intro h;rw [Bool.eq_false_iff];intro e;have hk := (isP_iff n).1 e;have hm : (n, kind n) ∈ kinds := lookP_mem n hk;have := List.all_eq_true.1 kinds_row _ hm;simp only [Bool.or_eq_true, beq_iff_eq, List.any_eq_true] at this;rw [h] at hF;rcases this with (h1 | ⟨r, hr, h2⟩) | h3
  ·exact hn (kind_any h1)
  ·obtain ⟨i, hi, rfl⟩ := mem_rw5 hr;have hin := rw5_in hi;have : Has (dl n 81) (rw5 i).1 := (dl_has n _ 81).2 ⟨i, hi, h2, Int.le_refl _, hin.2.2.1⟩;split at hF
   ·have h5 := (List.append_eq_nil_iff.1 hF.symm).1;rw [h5] at this;exact has_nil _ this
   ·rw [← hF] at this;exact has_nil _ this
  ·rw [if_pos h3] at hF;exact hJn (List.append_eq_nil_iff.1 hF.symm).2
 ·intro e;have hk : kind n = 0 := by apply dC;intro h;rw [(isP_iff n).2 h] at e;cases e
  have hd : ∀ k, k ≤ 81 → dl n k = [] := by
   intro k
   induction k with
   | zero => intro _; rfl
   | succ k ih =>
    intro h;have hin := rw5_in (i := k) (by omega);rw [dl_succ, if_neg (fun h2 => mB_kind hin.1.1 hin.1.2 h2 hk), ih (by omega)]
  rw [hF, if_neg (fun h => mB_kind (n := n) (k := 20) (s := 3) (by decide) (by decide) (by rw [mB_none]; exact h) hk), hd 81 (xL _)]
end prd
end
section
namespace prw
open sq
open Go Go.RowKit bulk ucdp ucdw setp setw prp
def RD2 (R : List Rg) (b : Bool) (w : World) (e : Ending) (w' : World) : Prop := ∃ v, e = .returned (.tuple #[v, .bool b]) ∧ RsAt w' v R ∧ Below w.heap.size w w'
theorem rs_lit {R : List Rg} {n : Nat} {cs : Array Value} {T : TypeId} {w : World} {B : Nat} (hB : B = w.heap.size) (h : cs.toList = rcs R) (hn : n = R.length) (hR : R ≠ []) (hl : R.length ≤ 1000) (hw : Wf R) : RsAt (w.alloc (.cells cs T)) (.slice (some ⟨B, 0, none⟩) n n) R := by
 subst hB;subst hn;exact ⟨hw, Or.inr ⟨hR, _, 0, _, rfl, xL _, by omega, fun i hi => by have := lit_cells (w := w) (T := T) h i hi;rw [Nat.zero_add];exact this⟩⟩
theorem yu {n : ByteArray} {a : Array UInt8} (h : n.toList = a.toList) : n = ⟨a⟩ := (eqS _ _).1 (h.trans (Lib.toList_data ⟨a⟩).symm)
def wfB (R : List Rg) : Bool := R.all fun r => decide (0 ≤ r.1) && decide (r.1 ≤ 1114111) && decide (0 ≤ r.2) && decide (r.2 ≤ 1114111)
theorem wf_of {R : List Rg} (h : wfB R = true) : Wf R := fun r hr => by
 have := List.all_eq_true.1 h r hr;simp only [dK, dF] at this;omega
theorem one_any (lo hi : Int) (w : World) (h1 : 0 ≤ lo) (h2 : lo ≤ 1114111) (h3 : 0 ≤ hi) (h4 : hi ≤ 1114111) : Calls Try.prog 129 #[.int .i64 lo, .int .i64 hi] w fun e w' => ∃ v, e = .returned v ∧ RsAt w' v [(lo, hi)] ∧ Below w.heap.size w w' := by
 have HR := xH (fun T => rs_lit (R := [(lo, hi)]) (n := 1) (cs := #[.int .i64 lo, .int .i64 hi]) (T := T) (w := w) rfl rfl rfl (by simp) (by simp) (fun r hr => by obtain rfl := List.mem_singleton.1 hr; simp only; omega));go_enter Try.func129, Try.ntmps129;go_wp2_with fail
 go_ret
 exact ⟨_, rfl, HR.out _, qg _ _⟩
theorem lookP_none {n : ByteArray} : ∀ {M : List (ByteArray × List Rg)}, (∀ p ∈ M, p.1 ≠ n) → lookP M n [] = []
 | [], _ => rfl
 | (k, R) :: M, h => by unfold lookP;rw [if_neg fun e => h (k, R) (dJ ..) e.symm];exact lookP_none fun p hp => h p (List.mem_cons_of_mem _ hp)
theorem yt {R R' : List Rg} {b b' : Bool} {w : World} {e : Ending} {w' : World} (hR : R = R') (hb : b = b') (h : RD2 R b w e w') : RD2 R' b' w e w' := by subst hR;subst hb;exact h
theorem rposix_any (n : ByteArray) (w : World) : Calls Try.prog 121 #[.string n] w (RD2 (jC n) (vz n) w) := by
 by_cases h0 : n.toList = [97, 108, 112, 104, 97]
 ·have hn : n = ⟨#[97, 108, 112, 104, 97]⟩ := yu h0;subst hn;have HP := xH (show [(65, 90), (97, 122)] = jC ⟨#[97, 108, 112, 104, 97]⟩ by decide +kernel);have HQ := xH (show true = vz ⟨#[97, 108, 112, 104, 97]⟩ by decide +kernel);clear h0;exact z90
 by_cases h1 : n.toList = [100, 105, 103, 105, 116]
 ·have hn : n = ⟨#[100, 105, 103, 105, 116]⟩ := yu h1;subst hn;have HP := xH (show [(48, 57)] = jC ⟨#[100, 105, 103, 105, 116]⟩ by decide +kernel);have HQ := xH (show true = vz ⟨#[100, 105, 103, 105, 116]⟩ by decide +kernel);clear h1;go_enter Try.func121, Try.ntmps121;go_wp2_with fail
  refine (one_any 48 57 w (by decide) (by decide) (by decide) (by decide)).mono ?_;exact z132
 by_cases h2 : n.toList = [97, 108, 110, 117, 109]
 ·have hn : n = ⟨#[97, 108, 110, 117, 109]⟩ := yu h2;subst hn;have HP := xH (show [(48, 57), (65, 90), (97, 122)] = jC ⟨#[97, 108, 110, 117, 109]⟩ by decide +kernel);have HQ := xH (show true = vz ⟨#[97, 108, 110, 117, 109]⟩ by decide +kernel);clear h2;exact z90
 by_cases h3 : n.toList = [117, 112, 112, 101, 114]
 ·have hn : n = ⟨#[117, 112, 112, 101, 114]⟩ := yu h3;subst hn;have HP := xH (show [(65, 90)] = jC ⟨#[117, 112, 112, 101, 114]⟩ by decide +kernel);have HQ := xH (show true = vz ⟨#[117, 112, 112, 101, 114]⟩ by decide +kernel);clear h3;go_enter Try.func121, Try.ntmps121;go_wp2_with fail
  refine (one_any 65 90 w (by decide) (by decide) (by decide) (by decide)).mono ?_;exact z132
 by_cases h4 : n.toList = [108, 111, 119, 101, 114]
 ·have hn : n = ⟨#[108, 111, 119, 101, 114]⟩ := yu h4;subst hn;have HP := xH (show [(97, 122)] = jC ⟨#[108, 111, 119, 101, 114]⟩ by decide +kernel);have HQ := xH (show true = vz ⟨#[108, 111, 119, 101, 114]⟩ by decide +kernel);clear h4;go_enter Try.func121, Try.ntmps121;go_wp2_with fail
  refine (one_any 97 122 w (by decide) (by decide) (by decide) (by decide)).mono ?_;exact z132
 by_cases h5 : n.toList = [115, 112, 97, 99, 101]
 ·have hn : n = ⟨#[115, 112, 97, 99, 101]⟩ := yu h5;subst hn;have HP := xH (show [(9, 13), (32, 32)] = jC ⟨#[115, 112, 97, 99, 101]⟩ by decide +kernel);have HQ := xH (show true = vz ⟨#[115, 112, 97, 99, 101]⟩ by decide +kernel);clear h5;exact z90
 by_cases h6 : n.toList = [98, 108, 97, 110, 107]
 ·have hn : n = ⟨#[98, 108, 97, 110, 107]⟩ := yu h6;subst hn;have HP := xH (show [(9, 9), (32, 32)] = jC ⟨#[98, 108, 97, 110, 107]⟩ by decide +kernel);have HQ := xH (show true = vz ⟨#[98, 108, 97, 110, 107]⟩ by decide +kernel);clear h6;exact z90
 by_cases h7 : n.toList = [112, 117, 110, 99, 116]
 ·have hn : n = ⟨#[112, 117, 110, 99, 116]⟩ := yu h7;subst hn;have HP := xH (show [(33, 47), (58, 64), (91, 96), (123, 126)] = jC ⟨#[112, 117, 110, 99, 116]⟩ by decide +kernel);have HQ := xH (show true = vz ⟨#[112, 117, 110, 99, 116]⟩ by decide +kernel);clear h7;exact z90
 by_cases h8 : n.toList = [99, 110, 116, 114, 108]
 ·have hn : n = ⟨#[99, 110, 116, 114, 108]⟩ := yu h8;subst hn;have HP := xH (show [(0, 31), (127, 127)] = jC ⟨#[99, 110, 116, 114, 108]⟩ by decide +kernel);have HQ := xH (show true = vz ⟨#[99, 110, 116, 114, 108]⟩ by decide +kernel);clear h8;exact z90
 by_cases h9 : n.toList = [103, 114, 97, 112, 104]
 ·have hn : n = ⟨#[103, 114, 97, 112, 104]⟩ := yu h9;subst hn;have HP := xH (show [(33, 126)] = jC ⟨#[103, 114, 97, 112, 104]⟩ by decide +kernel);have HQ := xH (show true = vz ⟨#[103, 114, 97, 112, 104]⟩ by decide +kernel);clear h9;go_enter Try.func121, Try.ntmps121;go_wp2_with fail
  refine (one_any 33 126 w (by decide) (by decide) (by decide) (by decide)).mono ?_;exact z132
 by_cases h10 : n.toList = [112, 114, 105, 110, 116]
 ·have hn : n = ⟨#[112, 114, 105, 110, 116]⟩ := yu h10;subst hn;have HP := xH (show [(32, 126)] = jC ⟨#[112, 114, 105, 110, 116]⟩ by decide +kernel);have HQ := xH (show true = vz ⟨#[112, 114, 105, 110, 116]⟩ by decide +kernel);clear h10;go_enter Try.func121, Try.ntmps121;go_wp2_with fail
  refine (one_any 32 126 w (by decide) (by decide) (by decide) (by decide)).mono ?_;exact z132
 by_cases h11 : n.toList = [120, 100, 105, 103, 105, 116]
 ·have hn : n = ⟨#[120, 100, 105, 103, 105, 116]⟩ := yu h11;subst hn;have HP := xH (show [(48, 57), (65, 70), (97, 102)] = jC ⟨#[120, 100, 105, 103, 105, 116]⟩ by decide +kernel);have HQ := xH (show true = vz ⟨#[120, 100, 105, 103, 105, 116]⟩ by decide +kernel);clear h11;exact z90
 by_cases h12 : n.toList = [119, 111, 114, 100]
 ·have hn : n = ⟨#[119, 111, 114, 100]⟩ := yu h12;subst hn;have HP := xH (show [(48, 57), (65, 90), (95, 95), (97, 122)] = jC ⟨#[119, 111, 114, 100]⟩ by decide +kernel);have HQ := xH (show true = vz ⟨#[119, 111, 114, 100]⟩ by decide +kernel);clear h12;exact z90
 by_cases h13 : n.toList = [97, 115, 99, 105, 105]
 ·have hn : n = ⟨#[97, 115, 99, 105, 105]⟩ := yu h13;subst hn;have HP := xH (show [(0, 127)] = jC ⟨#[97, 115, 99, 105, 105]⟩ by decide +kernel);have HQ := xH (show true = vz ⟨#[97, 115, 99, 105, 105]⟩ by decide +kernel);clear h13;go_enter Try.func121, Try.ntmps121;go_wp2_with fail
  refine (one_any 0 127 w (by decide) (by decide) (by decide) (by decide)).mono ?_;exact z132
 have hne : ∀ p ∈ posix, p.1 ≠ n := by
  intro p hp e;subst e;simp only [posix, List.mem_cons, dM, or_false] at hp;rcases hp with rfl | rfl | rfl | rfl | rfl | rfl | rfl | rfl | rfl | rfl | rfl | rfl | rfl | rfl
  all_goals simp [Lib.toList_data] at *
 have HP := xH (show [] = jC n from (lookP_none hne).symm);have HQ := xH (show false = vz n from (by unfold vz; rw [Eq.comm, List.any_eq_false]; exact fun p hp => by simpa using hne p hp));clear hne;have b0 : (n.toList == [97, 108, 112, 104, 97]) = false := by simp [h0]
 have b1 : (n.toList == [100, 105, 103, 105, 116]) = false := by simp [h1]
 have b2 : (n.toList == [97, 108, 110, 117, 109]) = false := by simp [h2]
 have b3 : (n.toList == [117, 112, 112, 101, 114]) = false := by simp [h3]
 have b4 : (n.toList == [108, 111, 119, 101, 114]) = false := by simp [h4]
 have b5 : (n.toList == [115, 112, 97, 99, 101]) = false := by simp [h5]
 have b6 : (n.toList == [98, 108, 97, 110, 107]) = false := by simp [h6]
 have b7 : (n.toList == [112, 117, 110, 99, 116]) = false := by simp [h7]
 have b8 : (n.toList == [99, 110, 116, 114, 108]) = false := by simp [h8]
 have b9 : (n.toList == [103, 114, 97, 112, 104]) = false := by simp [h9]
 have b10 : (n.toList == [112, 114, 105, 110, 116]) = false := by simp [h10]
 have b11 : (n.toList == [120, 100, 105, 103, 105, 116]) = false := by simp [h11]
 have b12 : (n.toList == [119, 111, 114, 100]) = false := by simp [h12]
 have b13 : (n.toList == [97, 115, 99, 105, 105]) = false := by simp [h13]
 go_enter Try.func121, Try.ntmps121;go_wp2_with fail
 go_ret2
 exact yt HP.out HQ.out ⟨_, rfl, ⟨fun r hr => (by cases hr), Or.inl ⟨rfl, none, 0, rfl, by omega⟩⟩, Below.refl _ _⟩
end prw
end
end Go.Proofs.Ytdgfclbajjjcgaa
