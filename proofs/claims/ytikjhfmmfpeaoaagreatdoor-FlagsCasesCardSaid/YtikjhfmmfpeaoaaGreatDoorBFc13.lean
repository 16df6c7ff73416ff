/- T -/
import Derived.Deep.Cut
import Derived.Deep.DeepCutAuto
import Derived.Test.YtikjhfmmfpeaoaaGreatDoorBFc12
set_option maxHeartbeats 16000000
set_option maxRecDepth 1000000
section
namespace Go.Proofs.YtikjhfmmfpeaoaaGreatDoor.rtw
open sq
open Go Go.RowKit Go.Maps utfp utfw ucdp setp setw prp tkp rtp
open tkw (sg sg_bd vJ jM qK tkR qO qM vI)
open Go.Sort
open tkw (ownR_new)
open prw (rposix_any posixP_canon escP_canon)
def ItB (r : R (List Rg × Bool × Nat)) (w : World) (e : Ending) (w' : World) : Prop := (match r with
 | .error x => ∃ j : Int, e = .returned (.tuple #[.slice none 0 0, .bool false, .int .i64 j, .int .i64 x.1, .int .i64 x.2])
 | .ok y => ∃ v, e = .returned (.tuple #[v, .bool y.2.1, .int .i64 (y.2.2 : Nat), .int .i64 0, .int .i64 0]) ∧ RsAt w' v y.1) ∧ Below w.heap.size w w'
theorem itb_err {r : R (List Rg × Bool × Nat)} {a b j : Int} {w w' : World} (hr : r = .error (a, b)) (hb : Below w.heap.size w w') : ItB r w (.returned (.tuple #[.slice none 0 0, .bool false, .int .i64 j, .int .i64 a, .int .i64 b])) w' := by subst hr; exact ⟨⟨j, rfl⟩, hb⟩
theorem itb_ok {r : R (List Rg × Bool × Nat)} {v : Value} {l : List Rg} {s : Bool} {b : Nat} {w w' : World} (hr : r = .ok (l, s, b)) (hv : RsAt w' v l) (hb : Below w.heap.size w w') : ItB r w (.returned (.tuple #[v, .bool s, .int .i64 b, .int .i64 0, .int .i64 0])) w' := by subst hr; exact ⟨⟨v, rfl, hv⟩, hb⟩
theorem jX {S : List Rg} (h : Canon S) : Wf S := fun r hr => by have := h.2 r hr; omega
theorem rs_one {w : World} {c : Int} (h0 : 0 ≤ c) (h1 : c ≤ 1114111) : RsAt (w.alloc (.cells #[.int .i64 c, .int .i64 c] 57)) (.slice (some ⟨w.heap.size, 0, none⟩) 1 1) [(c, c)] :=
 vP (ownR_new (x := c) (y := c) (w := w) (b0 := 0) (Nat.zero_le _) rfl) (fun r hr => by obtain rfl := List.mem_singleton.1 hr; simp only; omega)
theorem post_all : (posix.all fun p => decide (p.2.length ≤ 50)) = true := by decide +kernel
theorem posixP_len (n : ByteArray) : (jC n).length ≤ 50 := by
 have h := post_all;unfold jC;generalize posix = L at h
 induction L with
 | nil => simp [lookP]
 | cons p L ih =>
  rw [List.all_cons, Bool.and_eq_true, decide_eq_true_eq] at h;unfold lookP;obtain ⟨k, v⟩ := p;simp only;split
  ·exact h.1
  ·exact ih h.2
theorem escP_len (c : Int) : (escP c).length ≤ 4 := by
 unfold escP
 repeat' (first | (simp; done) | split)
theorem notL_canon (p : Pt) (l : List Rg) : Canon (notL p l) := notR_canon (vH p) (ja (vH p) l)
def LetRel (w : World) (B : Nat) (S : ByteArray) (p : Pt) (a : Nat) (vi : Value) (wr : World) : Prop :=
 ∃ l : Nat, a + l ≤ S.size ∧ Hid (∀ i, i < l → a + i < p.n ∧ isLet (p.g (a + i)) = true) ∧ vi = .int .i64 ((a + l : Nat) : Int) ∧ FR w B S p wr
theorem let_of {p : Pt} {a l : Nat} (hp : p.n ≤ 1000) (h : ∀ i, i < l → a + i < p.n ∧ isLet (p.g (a + i)) = true) (hs : a + l = p.n ∨ isLet (p.g (a + l)) = false) : p.run isLet 1000 a = a + l := by
 refine run_stop h hs ?_;rcases l with _ | l
 ·omega
 ·have := (h l (by omega)).1; omega
theorem many_len {S : ByteArray} {p : Pt} {c : Int} {i : Nat} {l : List Rg} {neg : Bool} {b : Nat} (h : many p c i = .ok (some (l, neg, b))) : l.length ≤ 100 ∧ Canon l := by
 have hm := vH p;unfold many at h;split at h
 ·split at h
  ·cases h
  ·split at h
   ·simp only [Except.ok.injEq, Option.some.injEq, Prod.mk.injEq] at h;obtain ⟨rfl, _, _⟩ := h;refine ⟨?_, ja hm _⟩;have h1 := tkw.yg p.most (propL (unhat (by assumption)));have h2 : (propL (unhat (by assumption))).length ≤ 93 := wl_len _ 93;omega
   ·cases h
 ·split at h
  ·simp only [Except.ok.injEq, Option.some.injEq, Prod.mk.injEq] at h;obtain ⟨rfl, _, _⟩ := h;refine ⟨?_, ja hm _⟩;have h1 := tkw.yg p.most (escP (lowC c));have h2 := escP_len (lowC c);omega
  ·cases h
theorem simE_le (c : Int) : ji c ≤ 1114111 := by
 unfold ji
 repeat' (first | omega | split)
theorem dig_small {c : Int} (h : isDig c = true) : c < 128 := by simp only [isDig, Bool.and_eq_true, decide_eq_true_eq] at h;omega
theorem item_any (S : ByteArray) (p : Pt) (w : World) (hP : Pat S p) (i : Nat) (hi : i < p.n) : Calls Tryz.prog 70 #[txV S p, .int .i64 i] w (ItB (itemR p i) w) := by
 have hn := hP.n;have h2 := hP.le;have HP := xH hP;have HN := xH hn;clear hP;rw [hn] at hi;clear hn;have hm1 := vH p;have hm2 := most_ge p;unfold txV txC;go_enter Tryz.func70, Tryz.ntmps70;go_upto_region 1 with (fail)
 generalize hW : (w.alloc _) = W;have F0 := xH (zG (S := S) (p := p) hW);obtain ⟨B, hB⟩ : ∃ B, w.heap.size = B := ⟨_, rfl⟩;rw [hB] at F0 ⊢;clear hW hB;obtain ⟨c0, c1, c2, c3⟩ := F0.out.c;go_wp2_with fail
 refine Calls.mono (qG S p _ HP.out i (by omega) [91, 58] ⟨#[91, 58]⟩ rfl (by decide) (Or.inl (by rw [HN.out]; omega))) ?_;rintro e w1 ⟨rfl, hb1⟩;have F1 := xH (F0.out.step hb1);clear hb1 c0 c1 c2 c3;obtain ⟨c0, c1, c2, c3⟩ := F1.out.c;go_upto_if 25 with (fail)
 go_cut [1] (fun v1 wx => v1 = .int .i64 i ∧ FR w B S p wx ∧ Hid (itemR p i = itemC p i))
 case first =>
  cases h1 : p.has [91, 58] i with
  | false =>
   go_wp2_with fail
   go_meet
   exact ⟨rfl, F1.out, xH (by unfold itemR; rw [if_neg (by rw [h1]; simp)])⟩
  | true =>
   have hin1 := qR HP.out h1;rw [HN.out] at hin1;simp only [List.length_cons, List.length_nil] at hin1;go_wp2_with fail
   refine Calls.mono (qG S p _ HP.out (i + 2) (by omega) [94] ⟨#[94]⟩ rfl (by decide) (Or.inl (by rw [HN.out]; omega))) ?_;rintro e w2 ⟨rfl, hb⟩;have F2 := xH (F1.out.step hb);clear hb c0 c1 c2 c3;obtain ⟨c0, c1, c2, c3⟩ := F2.out.c;cases h2' : p.has [94] (i + 2) with
   | true =>
    have HPB := xH (show posB p i = i + 3 by unfold posB; rw [if_pos h2']);have hin2 := qR HP.out h2';rw [HN.out] at hin2;simp only [List.length_nil] at hin2;go_wp2_with fail
    go_loopw [9] (fun vi wr => LetRel w B S p (i + 3) vi wr) (fun vi _ => S.size - (intOf vi).toNat)
    case atStart => exact ⟨0, by omega, xH (fun j h => absurd h (Nat.not_lt_zero j)), rfl, F2.out⟩
    case round =>
     obtain ⟨l, hl, hd, rfl, hF⟩ := hrel;have F4 := xH hF;clear hF c0 c1 c2 c3;obtain ⟨c0, c1, c2, c3⟩ := F4.out.c;have hgb := gb HP.out;by_cases hlt : i + 3 + l < S.size
     ·obtain ⟨b0, b1⟩ := jS HP.out (i + 3 + l);go_wp2_with fail
      refine (letter_any _ _ b0 b1).mono ?_;rintro e w1' ⟨rfl, rfl⟩;cases hlet : isLet (p.g (i + 3 + l)) with
      | true =>
       go_wp2_with fail
       refine ⟨⟨l + 1, by omega, xH (fun j hj => by
        by_cases e : j = l
        ·subst e; exact ⟨by rw [HN.out]; exact hlt, hlet⟩
        ·exact hd.out j (by omega)), rfl, F4.out⟩, by simp only [intOf]; omega⟩
      | false =>
       have HL := xH (let_of (l := l) (by rw [HN.out]; exact h2) hd.out (Or.inr hlet));go_wp2_with fail
       refine Calls.mono (qG S p _ HP.out (i + 3 + l) (by omega) [58, 93] ⟨#[58, 93]⟩ rfl (by decide) (Or.inl (by rw [HN.out]; exact hl))) ?_;rintro e w5 ⟨rfl, hb⟩;have F5 := xH (F4.out.step hb);clear hb c0 c1 c2 c3;obtain ⟨c0, c1, c2, c3⟩ := F5.out.c;cases h3 : p.has [58, 93] (i + 3 + l) with
       | false =>
        go_wp2_with fail
        go_meet
        exact ⟨rfl, F5.out, xH (by unfold itemR; rw [if_neg (by rw [HPB.out, HL.out, h3]; simp)])⟩
       | true =>
        have hin := qR HP.out h3;rw [HN.out] at hin;simp only [List.length_cons, List.length_nil] at hin;have hxt := sub_ext HP.out (show i + 3 ≤ i + 3 + l by omega) (show i + 3 + l ≤ p.n by rw [HN.out]; omega);have HIT := xH (show itemR p i = if vz (p.sub (i + 3) (i + 3 + l)) = true then .ok (if p.has [94] (i + 2) = true then notL p (jC (p.sub (i + 3) (i + 3 + l))) else jC (p.sub (i + 3) (i + 3 + l)), false, i + 3 + l + 2) else .error (22, (i : Int)) by unfold itemR; rw [HPB.out, HL.out, if_pos ⟨h1, h3⟩]);have hpl := posixP_len (p.sub (i + 3) (i + 3 + l));have HPC := xH (posixP_canon (p.sub (i + 3) (i + 3 + l)));generalize p.sub (i + 3) (i + 3 + l) = nm at *;go_wp2_with fail
        refine Calls.mono (rposix_any nm _) ?_;rintro e w6 ⟨v6, rfl, hrs, hb⟩;have F6 := xH (F5.out.step hb);clear hb c0 c1 c2 c3;obtain ⟨c0, c1, c2, c3⟩ := F6.out.c;have HRS := xH hrs;obtain ⟨z1, z2, rfl⟩ := jg hrs;clear hrs;cases hpB : vz nm with
        | false =>
         have HR := xH (HIT.out.trans (if_neg (by simp [hpB])));go_wp2_with fail
         refine bodyPost_ret (qE rfl _ _ _) rfl ?_;exact itb_err HR.out F6.out.bel
        | true =>
         have HR := xH (show itemR p i = .ok (notL p (jC nm), false, i + 3 + l + 2) by rw [HIT.out, if_pos hpB, if_pos h2']);go_wp2_with fail
         refine Calls.mono (not_any S p _ HP.out _ (jC nm) HRS.out (by omega)) ?_;rintro e w7 ⟨v7, rfl, ho, hb⟩;have F7 := xH (F6.out.step hb);have HO := xH ho;clear hb ho c0 c1 c2 c3;obtain ⟨c0, c1, c2, c3⟩ := F7.out.c;obtain ⟨y1, y2, rfl⟩ := qN HO.out;go_wp2_with fail
         refine bodyPost_ret (qE rfl _ _ _) rfl ?_;exact itb_ok HR.out (vP HO.out (jX (notL_canon p _))) F7.out.bel
     ·have HL := xH (let_of (l := l) (by rw [HN.out]; exact h2) hd.out (Or.inl (by rw [HN.out]; omega)));go_wp2_with fail
      refine Calls.mono (qG S p _ HP.out (i + 3 + l) (by omega) [58, 93] ⟨#[58, 93]⟩ rfl (by decide) (Or.inl (by rw [HN.out]; exact hl))) ?_;rintro e w5 ⟨rfl, hb⟩;have F5 := xH (F4.out.step hb);clear hb c0 c1 c2 c3;obtain ⟨c0, c1, c2, c3⟩ := F5.out.c;cases h3 : p.has [58, 93] (i + 3 + l) with
      | false =>
       go_wp2_with fail
       go_meet
       exact ⟨rfl, F5.out, xH (by unfold itemR; rw [if_neg (by rw [HPB.out, HL.out, h3]; simp)])⟩
      | true =>
       have hin := qR HP.out h3;rw [HN.out] at hin;simp only [List.length_cons, List.length_nil] at hin;omega
   | false =>
    have HPB := xH (show posB p i = i + 2 by unfold posB; rw [if_neg (by simp [h2'])]);go_wp2_with fail
    go_loopw [9] (fun vi wr => LetRel w B S p (i + 2) vi wr) (fun vi _ => S.size - (intOf vi).toNat)
    case atStart => exact ⟨0, by omega, xH (fun j h => absurd h (Nat.not_lt_zero j)), rfl, F2.out⟩
    case round =>
     obtain ⟨l, hl, hd, rfl, hF⟩ := hrel;have F4 := xH hF;clear hF c0 c1 c2 c3;obtain ⟨c0, c1, c2, c3⟩ := F4.out.c;have hgb := gb HP.out;by_cases hlt : i + 2 + l < S.size
     ·obtain ⟨b0, b1⟩ := jS HP.out (i + 2 + l);go_wp2_with fail
      refine (letter_any _ _ b0 b1).mono ?_;rintro e w1' ⟨rfl, rfl⟩;cases hlet : isLet (p.g (i + 2 + l)) with
      | true =>
       go_wp2_with fail
       refine ⟨⟨l + 1, by omega, xH (fun j hj => by
        by_cases e : j = l
        ·subst e; exact ⟨by rw [HN.out]; exact hlt, hlet⟩
        ·exact hd.out j (by omega)), rfl, F4.out⟩, by simp only [intOf]; omega⟩
      | false =>
       have HL := xH (let_of (l := l) (by rw [HN.out]; exact h2) hd.out (Or.inr hlet));go_wp2_with fail
       refine Calls.mono (qG S p _ HP.out (i + 2 + l) (by omega) [58, 93] ⟨#[58, 93]⟩ rfl (by decide) (Or.inl (by rw [HN.out]; exact hl))) ?_;rintro e w5 ⟨rfl, hb⟩;have F5 := xH (F4.out.step hb);clear hb c0 c1 c2 c3;obtain ⟨c0, c1, c2, c3⟩ := F5.out.c;cases h3 : p.has [58, 93] (i + 2 + l) with
       | false =>
        go_wp2_with fail
        go_meet
        exact ⟨rfl, F5.out, xH (by unfold itemR; rw [if_neg (by rw [HPB.out, HL.out, h3]; simp)])⟩
       | true =>
        have hin := qR HP.out h3;rw [HN.out] at hin;simp only [List.length_cons, List.length_nil] at hin;have hxt := sub_ext HP.out (show i + 2 ≤ i + 2 + l by omega) (show i + 2 + l ≤ p.n by rw [HN.out]; omega);have HIT := xH (show itemR p i = if vz (p.sub (i + 2) (i + 2 + l)) = true then .ok (if p.has [94] (i + 2) = true then notL p (jC (p.sub (i + 2) (i + 2 + l))) else jC (p.sub (i + 2) (i + 2 + l)), false, i + 2 + l + 2) else .error (22, (i : Int)) by unfold itemR; rw [HPB.out, HL.out, if_pos ⟨h1, h3⟩]);have hpl := posixP_len (p.sub (i + 2) (i + 2 + l));have HPC := xH (posixP_canon (p.sub (i + 2) (i + 2 + l)));generalize p.sub (i + 2) (i + 2 + l) = nm at *;go_wp2_with fail
        refine Calls.mono (rposix_any nm _) ?_;rintro e w6 ⟨v6, rfl, hrs, hb⟩;have F6 := xH (F5.out.step hb);clear hb c0 c1 c2 c3;obtain ⟨c0, c1, c2, c3⟩ := F6.out.c;have HRS := xH hrs;obtain ⟨z1, z2, rfl⟩ := jg hrs;clear hrs;cases hpB : vz nm with
        | false =>
         have HR := xH (HIT.out.trans (if_neg (by simp [hpB])));go_wp2_with fail
         refine bodyPost_ret (qE rfl _ _ _) rfl ?_;exact itb_err HR.out F6.out.bel
        | true =>
         have HR := xH (show itemR p i = .ok (jC nm, false, i + 2 + l + 2) by rw [HIT.out, if_pos hpB, if_neg (by simp [h2'])]);go_wp2_with fail
         refine bodyPost_ret (qE rfl _ _ _) rfl ?_;exact itb_ok HR.out HRS.out F6.out.bel
     ·have HL := xH (let_of (l := l) (by rw [HN.out]; exact h2) hd.out (Or.inl (by rw [HN.out]; omega)));go_wp2_with fail
      refine Calls.mono (qG S p _ HP.out (i + 2 + l) (by omega) [58, 93] ⟨#[58, 93]⟩ rfl (by decide) (Or.inl (by rw [HN.out]; exact hl))) ?_;rintro e w5 ⟨rfl, hb⟩;have F5 := xH (F4.out.step hb);clear hb c0 c1 c2 c3;obtain ⟨c0, c1, c2, c3⟩ := F5.out.c;cases h3 : p.has [58, 93] (i + 2 + l) with
      | false =>
       go_wp2_with fail
       go_meet
       exact ⟨rfl, F5.out, xH (by unfold itemR; rw [if_neg (by rw [HPB.out, HL.out, h3]; simp)])⟩
      | true =>
       have hin := qR HP.out h3;rw [HN.out] at hin;simp only [List.length_cons, List.length_nil] at hin;omega
 case rest =>
  obtain ⟨rfl, hF, HIC⟩ := hcut;have F2 := xH hF;clear hF c0 c1 c2 c3;obtain ⟨c0, c1, c2, c3⟩ := F2.out.c;have HC0 : Hid (itemR p i = if (p.char i).1 = 92 then (if (p.char i).2 = p.n then .error (20, (p.n : Int)) else itemE p i (p.char i).2) else .ok ([((p.char i).1, (p.char i).1)], true, (p.char i).2)) := xH (HIC.out.trans rfl);clear HIC;go_wp2_with fail
  refine Calls.mono (char_any S p _ HP.out i (by rw [HN.out]; omega)) ?_;rintro e w3 ⟨rfl, hb⟩;have F3 := xH (F2.out.step hb);clear hb c0 c1 c2 c3;obtain ⟨c0, c1, c2, c3⟩ := F3.out.c;obtain ⟨z1, z2⟩ := zM HP.out (a := i) (by rw [HN.out]; omega);obtain ⟨y1, y2⟩ := char_val HP.out (a := i) (by rw [HN.out]; omega);rw [HN.out] at z2;generalize (p.char i).1 = c at *;generalize (p.char i).2 = z at *;by_cases h9 : c = 92;case neg =>
   have HR := xH (HC0.out.trans (if_neg h9));have F4 := xH (F3.out.step (qK w3 (.cells #[.int .i64 (c), .int .i64 (c)] 57)));go_wp2_with fail
   refine bodyPost_ret (qE rfl _ _ _) rfl ?_;exact itb_ok HR.out (rs_one y1 y2) F4.out.bel
  have HR1 := xH (HC0.out.trans (if_pos h9));clear HC0;subst h9;by_cases h0 : z = S.size
  ·have HR := xH (HR1.out.trans (if_pos (by rw [HN.out]; exact h0)));rw [HN.out] at HR;have hb0 : ((z : Int) == (S.size : Int)) = true := by simp; omega
   clear h0;go_wp2_with fail
   go_quiet (fail)
   rename_i nq;go_wp2_with fail
   refine bodyPost_ret (qE rfl _ _ _) rfl ?_;exact itb_err HR.out (tkw.zI F3.out.bel _)
  have HR2 := xH (HR1.out.trans (if_neg (by rw [HN.out]; exact h0)));have hb0 : ((z : Int) == (S.size : Int)) = false := by simp; omega
  have hz : z < S.size := by omega
  clear h0 HR1 y1 y2;go_wp2_with fail
  refine Calls.mono (char_any S p _ HP.out z (by rw [HN.out]; omega)) ?_;rintro e w4 ⟨rfl, hb⟩;have F4 := xH (F3.out.step hb);clear hb c0 c1 c2 c3;obtain ⟨c0, c1, c2, c3⟩ := F4.out.c;obtain ⟨q1, q2⟩ := zM HP.out (a := z) (by rw [HN.out]; omega);obtain ⟨y1, y2⟩ := char_val HP.out (a := z) (by rw [HN.out]; omega);rw [HN.out] at q2;have HE : Hid (itemR p i = if (p.char z).1 = 120 then (match hexz p (p.char z).2 with | none => .error (21, (i : Int)) | some (v, e) => .ok ([(v, v)], true, e)) else if ji (p.char z).1 ≠ 0 then .ok ([(ji (p.char z).1, ji (p.char z).1)], true, (p.char z).2) else if (p.char z).1 = 98 then .ok ([(8, 8)], true, (p.char z).2) else match many p (p.char z).1 (p.char z).2 with | .error e => .error (e, (i : Int)) | .ok (some (l, neg, e)) => .ok (if neg = true then notL p l else l, false, e) | .ok none => if (isLet (p.char z).1 || isDig (p.char z).1) = true then .error (21, (i : Int)) else .ok ([((p.char z).1, (p.char z).1)], true, (p.char z).2)) := xH (HR2.out.trans rfl);clear HR2;generalize (p.char z).1 = c at *;generalize (p.char z).2 = t at *;by_cases h1 : c = 120
  ·have HR1 := xH (HE.out.trans (if_pos h1));have b1 : (c == 120) = true := by simp [h1]
   clear h1 HE;go_wp2_with fail
   refine (hexa_any S p _ HP.out t (by rw [HN.out]; omega)).mono ?_;rintro e w5 ⟨⟨v, j, rfl, hj, hv⟩, hb⟩;have F5 := xH (F4.out.step hb);clear hb c0 c1 c2 c3;obtain ⟨c0, c1, c2, c3⟩ := F5.out.c;rcases hv with ⟨hv, rfl⟩ | hv
   ·have HR := xH (HR1.out.trans (show _ = Except.error (21, (i : Int)) by rw [hv]));go_wp2_with fail
    refine bodyPost_ret (qE rfl _ _ _) rfl ?_;exact itb_err HR.out F5.out.bel
   ·have HR := xH (HR1.out.trans (show _ = Except.ok ([(v, v)], true, j) by rw [hv]));obtain ⟨hv0, hv1, hj1, hj2⟩ := hexz_in HP.out (by rw [HN.out]; omega) hv;have F6 := xH (F5.out.step (qK w5 (.cells #[.int .i64 (v), .int .i64 (v)] 57)));go_wp2_with fail
    refine bodyPost_ret (qE rfl _ _ _) rfl ?_;exact itb_ok HR.out (rs_one hv0 hv1) F6.out.bel
  have HE1 := xH (HE.out.trans (if_neg h1));have b1 : (c == 120) = false := by simp [h1]
  clear h1 HE;go_wp2_with fail
  refine (simple_any c _).mono ?_;rintro e w1' ⟨rfl, rfl⟩;by_cases hs : ji c ≠ 0
  ·have HR := xH (HE1.out.trans (if_pos hs));obtain ⟨s1, s2⟩ := simN_pos hs;have s3 := simE_le c;rw [s1];clear hs HE1;go_wp2_with fail
   refine (simple_any c _).mono ?_;rintro e w1'' ⟨rfl, rfl⟩;rw [s1];go_wp2_with fail
   refine (simple_any c _).mono ?_;rintro e w1'' ⟨rfl, rfl⟩;rw [s1];have F5 := xH (F4.out.step (qK w4 (.cells #[.int .i64 (ji c), .int .i64 (ji c)] 57)));go_wp2_with fail
   refine bodyPost_ret (qE rfl _ _ _) rfl ?_;exact itb_ok HR.out (rs_one s2 s3) F5.out.bel
  have HE2 := xH (HE1.out.trans (if_neg hs));rw [simN_neg (by simpa using hs)];clear hs HE1;by_cases h3 : c = 98
  ·have HR := xH (HE2.out.trans (if_pos h3));have b3 : (c == 98) = true := by simp [h3]
   clear h3 HE2;have F5 := xH (F4.out.step (qK w4 (.cells #[.int .i64 (8), .int .i64 (8)] 57)));go_wp2_with fail
   refine bodyPost_ret (qE rfl _ _ _) rfl ?_;exact itb_ok HR.out (rs_one (by decide) (by decide)) F5.out.bel
  have HE3 := xH (HE2.out.trans (if_neg h3));have b3 : (c == 98) = false := by simp [h3]
  clear h3 HE2;go_wp2_with fail
  have HM := many_any S p w4 HP.out c t (by rw [HN.out]; omega) y1 y2;cases hm : many p c t with
  | error x =>
   have hx : x = 24 := many_err hm;subst hx;rw [hm] at HM;have HR := xH (HE3.out.trans (show _ = Except.error (24, (i : Int)) by rw [hm]));refine Calls.mono HM ?_;rintro e w5 ⟨⟨j, rfl⟩, hb⟩;have F5 := xH (F4.out.step hb);clear hb c0 c1 c2 c3 HM hm;obtain ⟨c0, c1, c2, c3⟩ := F5.out.c;go_wp2_with fail
   refine bodyPost_ret (qE rfl _ _ _) rfl ?_;exact itb_err HR.out F5.out.bel
  | ok o =>
   cases o with
   | none =>
    rw [hm] at HM;have HR1 := xH (HE3.out.trans (show _ = if (isLet c || isDig c) = true then Except.error (21, (i : Int)) else .ok ([(c, c)], true, t) by rw [hm]));refine Calls.mono HM ?_;rintro e w5 ⟨⟨v, b, j, ⟨x1, x2, x3, rfl⟩, rfl⟩, hb⟩;have F5 := xH (F4.out.step hb);clear hb c0 c1 c2 c3 HM hm;obtain ⟨c0, c1, c2, c3⟩ := F5.out.c;by_cases h128 : c < 128
    ·go_wp2_with fail
     refine (letter_any c _ y1 (by omega)).mono ?_;rintro e wl ⟨rfl, rfl⟩;cases hl : isLet c with
     | true =>
      have HR := xH (HR1.out.trans (if_pos (by simp [hl])));go_wp2_with fail
      refine bodyPost_ret (qE rfl _ _ _) rfl ?_;exact itb_err HR.out F5.out.bel
     | false =>
      go_wp2_with fail
      refine (digit_any c _ y1 (by omega)).mono ?_;rintro e wl ⟨rfl, rfl⟩;cases hd : isDig c with
      | true =>
       have HR := xH (HR1.out.trans (if_pos (by simp [hd])));go_wp2_with fail
       refine bodyPost_ret (qE rfl _ _ _) rfl ?_;exact itb_err HR.out F5.out.bel
      | false =>
       have HR := xH (HR1.out.trans (if_neg (by simp [hl, hd])));have F6 := xH (F5.out.step (qK w5 (.cells #[.int .i64 (c), .int .i64 (c)] 57)));go_wp2_with fail
       refine bodyPost_ret (qE rfl _ _ _) rfl ?_;exact itb_ok HR.out (rs_one y1 y2) F6.out.bel
    ·have hl : isLet c = false := Bool.eq_false_iff.2 fun e => h128 (let_small e)
     have hd : isDig c = false := Bool.eq_false_iff.2 fun e => h128 (dig_small e)
     have HR := xH (HR1.out.trans (if_neg (by simp [hl, hd])));have F6 := xH (F5.out.step (qK w5 (.cells #[.int .i64 (c), .int .i64 (c)] 57)));go_wp2_with fail
     refine bodyPost_ret (qE rfl _ _ _) rfl ?_;exact itb_ok HR.out (rs_one y1 y2) F6.out.bel
   | some x =>
    obtain ⟨l, neg, j⟩ := x;rw [hm] at HM;obtain ⟨hl100, hlc⟩ := many_len (S := S) hm;have HR1 := xH (HE3.out.trans (show _ = Except.ok (if neg = true then notL p l else l, false, j) by rw [hm]));refine Calls.mono HM ?_;rintro e w5 ⟨⟨v, rfl, ho⟩, hb⟩;have HW := xH (vP ho (jX hlc));have F5 := xH (F4.out.step hb);clear hb c0 c1 c2 c3 HM hm;obtain ⟨x1, x2, rfl⟩ := qN ho;clear ho;obtain ⟨c0, c1, c2, c3⟩ := F5.out.c;cases neg with
    | true =>
     have HR := xH (HR1.out.trans (show _ = Except.ok (notL p l, false, j) by rw [if_pos rfl]));go_wp2_with fail
     refine Calls.mono (not_any S p _ HP.out _ l HW.out (by omega)) ?_;rintro e w7 ⟨v7, rfl, ho, hb⟩;have F7 := xH (F5.out.step hb);have HO := xH ho;clear hb ho c0 c1 c2 c3;obtain ⟨c0, c1, c2, c3⟩ := F7.out.c;obtain ⟨u1, u2, rfl⟩ := qN HO.out;go_wp2_with fail
     refine bodyPost_ret (qE rfl _ _ _) rfl ?_;exact itb_ok HR.out (vP HO.out (jX (notL_canon p _))) F7.out.bel
    | false =>
     have HR := xH (HR1.out.trans (show _ = Except.ok (l, false, j) by rw [if_neg (by simp)]));go_wp2_with fail
     refine bodyPost_ret (qE rfl _ _ _) rfl ?_;exact itb_ok HR.out HW.out F5.out.bel
end Go.Proofs.YtikjhfmmfpeaoaaGreatDoor.rtw
end
section
namespace Go.Proofs.YtikjhfmmfpeaoaaGreatDoor.rtw
open sq
open Go Go.RowKit Go.Maps utfp utfw ucdp setp setw prp tkp rtp
open tkw (sg sg_bd vJ jM qK tkR qO qM vI)
theorem bits_or {x y : Nat} (hx : x < 32) (hy : y < 32) : bits BinOp.or IntKind.i64 (x : Int) (y : Int) = ((x ||| y : Nat) : Int) := by
 have h : ((List.range 32).all fun x => (List.range 32).all fun y => decide (bits BinOp.or IntKind.i64 (x : Int) (y : Int) = ((x ||| y : Nat) : Int))) = true := by decide +kernel
 have h2 := List.all_eq_true.1 (List.all_eq_true.1 h x (List.mem_range.2 hx)) y (List.mem_range.2 hy);exact of_decide_eq_true h2
theorem FG.poke {w W W' : World} {B : Nat} {S : ByteArray} {p : Pt} (h : FG w B S p W) (hb : Below (B + 2) W W') : FG w B S p W' :=
 ⟨⟨h.hB, h.below.trans (hb.mono (by omega)), h.x.below hb (by omega)⟩, by obtain ⟨old, h1, h2⟩ := h.g; exact ⟨old, (hb.block _ (by omega)).trans h1, h2⟩⟩
def FlRel (w : World) (B g : Nat) (S : ByteArray) (p : Pt) (f i : Nat) (vi vo : Value) (wr : World) : Prop :=
 ∃ (k : Nat) (off : Bool) (on of_ : Nat), k ≤ S.size ∧ on < 32 ∧ of_ < 32 ∧ vi = .int .i64 k ∧ vo = .bool off ∧ Hid (flagR p f (p.n + 1 - k) k off on of_ = flagR p f (p.n + 1 - i) i false 0 0) ∧ FG w B S p wr ∧ Hid (wr.heap[g]? = some (.cells (tkR (.slice none 0 0) { kind := 15, on := on, off := of_ }) 68 (0, 0)))
theorem flags_any (S : ByteArray) (p : Pt) (w : World) (hP : Pat S p) (f i : Nat) (hi : i ≤ p.n) : Calls Tryz.prog 77 #[txV S p, .int .i64 f, .int .i64 i] w (GotB w (flagR p f (p.n + 1 - i) i false 0 0)) := by
 have hn := hP.n;have h2 := hP.le;have HP := xH hP;have HN := xH hn;clear hP;rw [hn] at hi;clear hn;unfold txV txC;go_enter Tryz.func77, Tryz.ntmps77;go_upto_region 1 with (fail)
 generalize hW : (w.alloc _).alloc _ = W;have F0 := xH (fg_start (S := S) (p := p) hW);obtain ⟨B, hB⟩ : ∃ B, w.heap.size = B := ⟨_, rfl⟩;rw [hB] at F0 ⊢;clear hW hB;obtain ⟨c0, c1, c2, c3⟩ := F0.out.c;obtain ⟨old0, hg0, _⟩ := F0.out.g;have hlt0 := zi hg0;clear hg0;go_wp2_with fail
 have hbw := qK W tkw.ob00;have hgn := heap_alloc_new W (.cells #[.int .i64 15, .int .i64 0, .int .i64 0, .int .i64 0, .slice none 0 0, .bool false, .int .i64 0, .int .i64 0, .int .i64 0, .string ⟨#[]⟩, .int .i64 0, .int .i64 0] 68);generalize W.alloc (.cells #[.int .i64 15, .int .i64 0, .int .i64 0, .int .i64 0, .slice none 0 0, .bool false, .int .i64 0, .int .i64 0, .int .i64 0, .string ⟨#[]⟩, .int .i64 0, .int .i64 0] 68) = w0 at *;obtain ⟨g, hg⟩ : ∃ g, W.heap.size = g := ⟨_, rfl⟩;rw [hg] at hgn hlt0 ⊢;have HT0 : Hid (w0.heap[g]? = some (.cells (tkR (.slice none 0 0) { kind := 15 }) 68 (0, 0))) := xH hgn;have F1 := xH (F0.out.step hbw);have hBg : B + 2 ≤ g := hlt0;clear hbw hgn hg c0 c1 c2 c3 hlt0
 go_loopw [2, 8] (fun vi vo wr => FlRel w B g S p f i vi vo wr) (fun vi _ _ => S.size - (intOf vi).toNat)
 case atStart => exact ⟨i, false, 0, 0, by omega, by decide, by decide, rfl, rfl, xH rfl, F1.out, HT0⟩
 case round =>
  obtain ⟨k, off, on, of_, hk, h1, h3, rfl, rfl, hfl, hF, HT⟩ := hrel;have F4 := xH hF;clear hF;obtain ⟨c0, c1, c2, c3⟩ := F4.out.c;obtain ⟨m, hm⟩ : ∃ m, p.n + 1 - k = m + 1 := ⟨p.n - k, by have := HN.out; omega⟩;rw [hm] at hfl;by_cases hlt : k < S.size
  ·have HS := xH ((Eq.symm hfl.out).trans (show _ = _ by rw [flagR, if_neg (by rw [HN.out]; omega)]));obtain ⟨b0, b1⟩ := jS HP.out k;have hgb := gb HP.out;clear hfl;by_cases e41 : p.g k = 41
   ·have b41 : (p.g k == 41) = true := by simp [e41]
    have HR := xH (HS.out.trans (show _ = gtok { kind := 15, on := on, off := of_ } f (k + 1) by rw [if_pos e41]));go_wp2_with (refine tkw.qX rfl _ rfl g rfl _ HT.out rfl ?_)
    refine Calls.mono (qF (.slice none 0 0) ({ kind := 15, on := on, off := of_ }) (f) (k + 1) _ (k := B) (qm _ _)) ?_;rintro e w5 ⟨rfl, ho, hb⟩;have F5 := xH (F4.out.step hb);have HO := xH ho;clear hb ho c0 c1 c2 c3;obtain ⟨old, HG, hz⟩ := xG F5;go_wp2_with (refine xR HG hz HO rfl rfl rfl rfl rfl ?_)
    refine bodyPost_ret (xE HG rfl rfl) rfl ?_;exact qj F5.out HR.out HO.out (Nat.le_refl _)
   by_cases e58 : p.g k = 58
   ·have b41 : (p.g k == 41) = false := by simp [e41]
    have b58 : (p.g k == 58) = true := by simp [e58]
    have HR := xH (HS.out.trans (show _ = gtok { kind := 10, n := 2, on := on, off := of_ } f (k + 1) by rw [if_neg e41, if_pos e58]));have ct0 : wr.cell? ⟨g, 0, none⟩ = some (.int .i64 15) := by simp [World.cell?, HT.out, tkR]
    have cf0 : wr.frozen? ⟨g, 0, none⟩ = false := by simp [World.frozen?, HT.out]
    have ct6 : wr.cell? ⟨g, 6, none⟩ = some (.int .i64 0) := by simp [World.cell?, HT.out, tkR]
    have cf6 : wr.frozen? ⟨g, 6, none⟩ = false := by simp [World.frozen?, HT.out]
    have hb := (((Below.refl _ wr).setCell (p := ⟨g, 0, none⟩) hBg (.int .i64 10)).setCell (p := ⟨g, 6, none⟩) hBg (.int .i64 2));have F5 := xH (F4.out.poke hb);have HT5 : Hid (((wr.setCell ⟨g, 0, none⟩ (.int .i64 10)).setCell ⟨g, 6, none⟩ (.int .i64 2)).heap[g]? = some (.cells (tkR (.slice none 0 0) { kind := 10, n := 2, on := on, off := of_ }) 68 (0, 0))) := xH ((tkw.heap_set (o := 6) (v := .int .i64 2) (tkw.heap_set (o := 0) (v := .int .i64 10) HT.out)));clear hb;go_wp2_with (refine tkw.qX rfl _ rfl g rfl _ HT5.out rfl ?_)
    refine Calls.mono (qF (.slice none 0 0) ({ kind := 10, n := 2, on := on, off := of_ }) (f) (k + 1) _ (k := B) (qm _ _)) ?_;rintro e w6 ⟨rfl, ho, hb⟩;have F6 := xH (F5.out.step hb);have HO := xH ho;clear hb ho c0 c1 c2 c3;obtain ⟨old, HG, hz⟩ := xG F6;go_wp2_with (refine xR HG hz HO rfl rfl rfl rfl rfl ?_)
    refine bodyPost_ret (xE HG rfl rfl) rfl ?_;exact qj F6.out HR.out HO.out (Nat.le_refl _)
   by_cases e45 : p.g k = 45
   ·have b41 : (p.g k == 41) = false := by simp [e41]
    have b58 : (p.g k == 58) = false := by simp [e58]
    have b45 : (p.g k == 45) = true := by simp [e45]
    cases off with
    | true =>
     have HR := xH (HS.out.trans (show _ = .error (26, (f : Int)) by rw [if_neg e41, if_neg e58, if_pos e45, if_pos rfl]));go_wp2_with fail
     refine Calls.mono (qw _ _ _) ?_;rintro e w5 ⟨v, rfl, ho, hb⟩;have HO := xO F4.out.x ho;have F5 := xH (F4.out.step hb);clear hb ho c0 c1 c2 c3;obtain ⟨old, HG, hz⟩ := xG F5;go_wp2_with (refine xR HG hz HO rfl rfl rfl rfl rfl ?_)
     refine bodyPost_ret (xE HG rfl rfl) rfl ?_;exact qj F5.out HR.out HO.out (Nat.le_refl _)
    | false =>
     have HR : flagR p f (p.n + 1 - (k + 1)) (k + 1) true on of_ = _ := Eq.symm (HS.out.trans (show _ = flagR p f m (k + 1) true on of_ by rw [if_neg e41, if_neg e58, if_pos e45, if_neg (by simp)]) |>.trans (by rw [show p.n + 1 - (k + 1) = m by omega]));have ct11 : wr.cell? ⟨g, 11, none⟩ = some (.int .i64 (of_ : Nat)) := by simp [World.cell?, HT.out, tkR]
     have cf11 : wr.frozen? ⟨g, 11, none⟩ = false := by simp [World.frozen?, HT.out]
     have hor : bits BinOp.or IntKind.i64 (of_ : Int) 0 = (of_ : Int) := (bits_or (y := 0) h3 (by decide)).trans (by rw [Nat.or_zero]);have hb := ((Below.refl _ wr).setCell (p := ⟨g, 11, none⟩) hBg (.int .i64 (of_ : Nat)));have HT5 : Hid ((wr.setCell ⟨g, 11, none⟩ (.int .i64 (of_ : Nat))).heap[g]? = some (.cells (tkR (.slice none 0 0) { kind := 15, on := (on : Nat), off := (of_ : Nat) }) 68 (0, 0))) := xH ((tkw.heap_set (o := 11) (v := .int .i64 (of_ : Nat)) HT.out));go_wp2_with fail
     try rw [hor]
     exact ⟨⟨k + 1, true, on, of_, by omega, h1, h3, rfl, rfl, xH HR, F4.out.poke hb, HT5⟩, by simp [intOf]; omega⟩
   by_cases e105 : p.g k = 105
   ·have b41 : (p.g k == 41) = false := by simp [e41]
    have b58 : (p.g k == 58) = false := by simp [e58]
    have b45 : (p.g k == 45) = false := by simp [e45]
    have b105 : (p.g k == 105) = true := by simp [e105]
    have ho : optV (p.g k) = 1 := by simp [optV, e105]
    cases off with
    | true =>
     have HR : flagR p f (p.n + 1 - (k + 1)) (k + 1) true on ((of_ ||| 1 : Nat) : Int) = _ := Eq.symm (HS.out.trans (show _ = flagR p f m (k + 1) true on ((of_ ||| 1 : Nat) : Int) by rw [if_neg e41, if_neg e58, if_neg e45, if_pos (by simp [isOpt, ho]), if_pos rfl, ho, Int.toNat_natCast]) |>.trans (by rw [show p.n + 1 - (k + 1) = m by omega]));have ct11 : wr.cell? ⟨g, 11, none⟩ = some (.int .i64 (of_ : Nat)) := by simp [World.cell?, HT.out, tkR]
     have cf11 : wr.frozen? ⟨g, 11, none⟩ = false := by simp [World.frozen?, HT.out]
     have hor : bits BinOp.or IntKind.i64 (of_ : Int) 1 = ((of_ ||| 1 : Nat) : Int) := bits_or (y := 1) h3 (by decide);have hb := ((Below.refl _ wr).setCell (p := ⟨g, 11, none⟩) hBg (.int .i64 ((of_ ||| 1 : Nat) : Int)));have HT5 : Hid ((wr.setCell ⟨g, 11, none⟩ (.int .i64 ((of_ ||| 1 : Nat) : Int))).heap[g]? = some (.cells (tkR (.slice none 0 0) { kind := 15, on := (on : Nat), off := ((of_ ||| 1) : Nat) }) 68 (0, 0))) := xH ((tkw.heap_set (o := 11) (v := .int .i64 ((of_ ||| 1 : Nat) : Int)) HT.out));go_wp2_with fail
     try rw [hor]
     exact ⟨⟨k + 1, true, on, (of_ ||| 1), by omega, h1, Nat.or_lt_two_pow (n := 5) h3 (by decide), rfl, rfl, xH HR, F4.out.poke hb, HT5⟩, by simp [intOf]; omega⟩
    | false =>
     have HR : flagR p f (p.n + 1 - (k + 1)) (k + 1) false ((on ||| 1 : Nat) : Int) of_ = _ := Eq.symm (HS.out.trans (show _ = flagR p f m (k + 1) false ((on ||| 1 : Nat) : Int) of_ by rw [if_neg e41, if_neg e58, if_neg e45, if_pos (by simp [isOpt, ho]), if_neg (by simp), ho, Int.toNat_natCast]) |>.trans (by rw [show p.n + 1 - (k + 1) = m by omega]));have ct10 : wr.cell? ⟨g, 10, none⟩ = some (.int .i64 (on : Nat)) := by simp [World.cell?, HT.out, tkR]
     have cf10 : wr.frozen? ⟨g, 10, none⟩ = false := by simp [World.frozen?, HT.out]
     have hor : bits BinOp.or IntKind.i64 (on : Int) 1 = ((on ||| 1 : Nat) : Int) := bits_or (y := 1) h1 (by decide);have hb := ((Below.refl _ wr).setCell (p := ⟨g, 10, none⟩) hBg (.int .i64 ((on ||| 1 : Nat) : Int)));have HT5 : Hid ((wr.setCell ⟨g, 10, none⟩ (.int .i64 ((on ||| 1 : Nat) : Int))).heap[g]? = some (.cells (tkR (.slice none 0 0) { kind := 15, on := ((on ||| 1) : Nat), off := (of_ : Nat) }) 68 (0, 0))) := xH ((tkw.heap_set (o := 10) (v := .int .i64 ((on ||| 1 : Nat) : Int)) HT.out));go_wp2_with fail
     try rw [hor]
     exact ⟨⟨k + 1, false, (on ||| 1), of_, by omega, Nat.or_lt_two_pow (n := 5) h1 (by decide), h3, rfl, rfl, xH HR, F4.out.poke hb, HT5⟩, by simp [intOf]; omega⟩
   by_cases e109 : p.g k = 109
   ·have b41 : (p.g k == 41) = false := by simp [e41]
    have b58 : (p.g k == 58) = false := by simp [e58]
    have b45 : (p.g k == 45) = false := by simp [e45]
    have b105 : (p.g k == 105) = false := by simp [e105]
    have b109 : (p.g k == 109) = true := by simp [e109]
    have ho : optV (p.g k) = 2 := by simp [optV, e105, e109]
    cases off with
    | true =>
     have HR : flagR p f (p.n + 1 - (k + 1)) (k + 1) true on ((of_ ||| 2 : Nat) : Int) = _ := Eq.symm (HS.out.trans (show _ = flagR p f m (k + 1) true on ((of_ ||| 2 : Nat) : Int) by rw [if_neg e41, if_neg e58, if_neg e45, if_pos (by simp [isOpt, ho]), if_pos rfl, ho, Int.toNat_natCast]) |>.trans (by rw [show p.n + 1 - (k + 1) = m by omega]));have ct11 : wr.cell? ⟨g, 11, none⟩ = some (.int .i64 (of_ : Nat)) := by simp [World.cell?, HT.out, tkR]
     have cf11 : wr.frozen? ⟨g, 11, none⟩ = false := by simp [World.frozen?, HT.out]
     have hor : bits BinOp.or IntKind.i64 (of_ : Int) 2 = ((of_ ||| 2 : Nat) : Int) := bits_or (y := 2) h3 (by decide);have hb := ((Below.refl _ wr).setCell (p := ⟨g, 11, none⟩) hBg (.int .i64 ((of_ ||| 2 : Nat) : Int)));have HT5 : Hid ((wr.setCell ⟨g, 11, none⟩ (.int .i64 ((of_ ||| 2 : Nat) : Int))).heap[g]? = some (.cells (tkR (.slice none 0 0) { kind := 15, on := (on : Nat), off := ((of_ ||| 2) : Nat) }) 68 (0, 0))) := xH ((tkw.heap_set (o := 11) (v := .int .i64 ((of_ ||| 2 : Nat) : Int)) HT.out));go_wp2_with fail
     try rw [hor]
     exact ⟨⟨k + 1, true, on, (of_ ||| 2), by omega, h1, Nat.or_lt_two_pow (n := 5) h3 (by decide), rfl, rfl, xH HR, F4.out.poke hb, HT5⟩, by simp [intOf]; omega⟩
    | false =>
     have HR : flagR p f (p.n + 1 - (k + 1)) (k + 1) false ((on ||| 2 : Nat) : Int) of_ = _ := Eq.symm (HS.out.trans (show _ = flagR p f m (k + 1) false ((on ||| 2 : Nat) : Int) of_ by rw [if_neg e41, if_neg e58, if_neg e45, if_pos (by simp [isOpt, ho]), if_neg (by simp), ho, Int.toNat_natCast]) |>.trans (by rw [show p.n + 1 - (k + 1) = m by omega]));have ct10 : wr.cell? ⟨g, 10, none⟩ = some (.int .i64 (on : Nat)) := by simp [World.cell?, HT.out, tkR]
     have cf10 : wr.frozen? ⟨g, 10, none⟩ = false := by simp [World.frozen?, HT.out]
     have hor : bits BinOp.or IntKind.i64 (on : Int) 2 = ((on ||| 2 : Nat) : Int) := bits_or (y := 2) h1 (by decide);have hb := ((Below.refl _ wr).setCell (p := ⟨g, 10, none⟩) hBg (.int .i64 ((on ||| 2 : Nat) : Int)));have HT5 : Hid ((wr.setCell ⟨g, 10, none⟩ (.int .i64 ((on ||| 2 : Nat) : Int))).heap[g]? = some (.cells (tkR (.slice none 0 0) { kind := 15, on := ((on ||| 2) : Nat), off := (of_ : Nat) }) 68 (0, 0))) := xH ((tkw.heap_set (o := 10) (v := .int .i64 ((on ||| 2 : Nat) : Int)) HT.out));go_wp2_with fail
     try rw [hor]
     exact ⟨⟨k + 1, false, (on ||| 2), of_, by omega, Nat.or_lt_two_pow (n := 5) h1 (by decide), h3, rfl, rfl, xH HR, F4.out.poke hb, HT5⟩, by simp [intOf]; omega⟩
   by_cases e115 : p.g k = 115
   ·have b41 : (p.g k == 41) = false := by simp [e41]
    have b58 : (p.g k == 58) = false := by simp [e58]
    have b45 : (p.g k == 45) = false := by simp [e45]
    have b105 : (p.g k == 105) = false := by simp [e105]
    have b109 : (p.g k == 109) = false := by simp [e109]
    have b115 : (p.g k == 115) = true := by simp [e115]
    have ho : optV (p.g k) = 4 := by simp [optV, e105, e109, e115]
    cases off with
    | true =>
     have HR : flagR p f (p.n + 1 - (k + 1)) (k + 1) true on ((of_ ||| 4 : Nat) : Int) = _ := Eq.symm (HS.out.trans (show _ = flagR p f m (k + 1) true on ((of_ ||| 4 : Nat) : Int) by rw [if_neg e41, if_neg e58, if_neg e45, if_pos (by simp [isOpt, ho]), if_pos rfl, ho, Int.toNat_natCast]) |>.trans (by rw [show p.n + 1 - (k + 1) = m by omega]));have ct11 : wr.cell? ⟨g, 11, none⟩ = some (.int .i64 (of_ : Nat)) := by simp [World.cell?, HT.out, tkR]
     have cf11 : wr.frozen? ⟨g, 11, none⟩ = false := by simp [World.frozen?, HT.out]
     have hor : bits BinOp.or IntKind.i64 (of_ : Int) 4 = ((of_ ||| 4 : Nat) : Int) := bits_or (y := 4) h3 (by decide);have hb := ((Below.refl _ wr).setCell (p := ⟨g, 11, none⟩) hBg (.int .i64 ((of_ ||| 4 : Nat) : Int)));have HT5 : Hid ((wr.setCell ⟨g, 11, none⟩ (.int .i64 ((of_ ||| 4 : Nat) : Int))).heap[g]? = some (.cells (tkR (.slice none 0 0) { kind := 15, on := (on : Nat), off := ((of_ ||| 4) : Nat) }) 68 (0, 0))) := xH ((tkw.heap_set (o := 11) (v := .int .i64 ((of_ ||| 4 : Nat) : Int)) HT.out));go_wp2_with fail
     try rw [hor]
     exact ⟨⟨k + 1, true, on, (of_ ||| 4), by omega, h1, Nat.or_lt_two_pow (n := 5) h3 (by decide), rfl, rfl, xH HR, F4.out.poke hb, HT5⟩, by simp [intOf]; omega⟩
    | false =>
     have HR : flagR p f (p.n + 1 - (k + 1)) (k + 1) false ((on ||| 4 : Nat) : Int) of_ = _ := Eq.symm (HS.out.trans (show _ = flagR p f m (k + 1) false ((on ||| 4 : Nat) : Int) of_ by rw [if_neg e41, if_neg e58, if_neg e45, if_pos (by simp [isOpt, ho]), if_neg (by simp), ho, Int.toNat_natCast]) |>.trans (by rw [show p.n + 1 - (k + 1) = m by omega]));have ct10 : wr.cell? ⟨g, 10, none⟩ = some (.int .i64 (on : Nat)) := by simp [World.cell?, HT.out, tkR]
     have cf10 : wr.frozen? ⟨g, 10, none⟩ = false := by simp [World.frozen?, HT.out]
     have hor : bits BinOp.or IntKind.i64 (on : Int) 4 = ((on ||| 4 : Nat) : Int) := bits_or (y := 4) h1 (by decide);have hb := ((Below.refl _ wr).setCell (p := ⟨g, 10, none⟩) hBg (.int .i64 ((on ||| 4 : Nat) : Int)));have HT5 : Hid ((wr.setCell ⟨g, 10, none⟩ (.int .i64 ((on ||| 4 : Nat) : Int))).heap[g]? = some (.cells (tkR (.slice none 0 0) { kind := 15, on := ((on ||| 4) : Nat), off := (of_ : Nat) }) 68 (0, 0))) := xH ((tkw.heap_set (o := 10) (v := .int .i64 ((on ||| 4 : Nat) : Int)) HT.out));go_wp2_with fail
     try rw [hor]
     exact ⟨⟨k + 1, false, (on ||| 4), of_, by omega, Nat.or_lt_two_pow (n := 5) h1 (by decide), h3, rfl, rfl, xH HR, F4.out.poke hb, HT5⟩, by simp [intOf]; omega⟩
   by_cases e85 : p.g k = 85
   ·have b41 : (p.g k == 41) = false := by simp [e41]
    have b58 : (p.g k == 58) = false := by simp [e58]
    have b45 : (p.g k == 45) = false := by simp [e45]
    have b105 : (p.g k == 105) = false := by simp [e105]
    have b109 : (p.g k == 109) = false := by simp [e109]
    have b115 : (p.g k == 115) = false := by simp [e115]
    have b85 : (p.g k == 85) = true := by simp [e85]
    have ho : optV (p.g k) = 16 := by simp [optV, e105, e109, e115, e85]
    cases off with
    | true =>
     have HR : flagR p f (p.n + 1 - (k + 1)) (k + 1) true on ((of_ ||| 16 : Nat) : Int) = _ := Eq.symm (HS.out.trans (show _ = flagR p f m (k + 1) true on ((of_ ||| 16 : Nat) : Int) by rw [if_neg e41, if_neg e58, if_neg e45, if_pos (by simp [isOpt, ho]), if_pos rfl, ho, Int.toNat_natCast]) |>.trans (by rw [show p.n + 1 - (k + 1) = m by omega]));have ct11 : wr.cell? ⟨g, 11, none⟩ = some (.int .i64 (of_ : Nat)) := by simp [World.cell?, HT.out, tkR]
     have cf11 : wr.frozen? ⟨g, 11, none⟩ = false := by simp [World.frozen?, HT.out]
     have hor : bits BinOp.or IntKind.i64 (of_ : Int) 16 = ((of_ ||| 16 : Nat) : Int) := bits_or (y := 16) h3 (by decide);have hb := ((Below.refl _ wr).setCell (p := ⟨g, 11, none⟩) hBg (.int .i64 ((of_ ||| 16 : Nat) : Int)));have HT5 : Hid ((wr.setCell ⟨g, 11, none⟩ (.int .i64 ((of_ ||| 16 : Nat) : Int))).heap[g]? = some (.cells (tkR (.slice none 0 0) { kind := 15, on := (on : Nat), off := ((of_ ||| 16) : Nat) }) 68 (0, 0))) := xH ((tkw.heap_set (o := 11) (v := .int .i64 ((of_ ||| 16 : Nat) : Int)) HT.out));go_wp2_with fail
     try rw [hor]
     exact ⟨⟨k + 1, true, on, (of_ ||| 16), by omega, h1, Nat.or_lt_two_pow (n := 5) h3 (by decide), rfl, rfl, xH HR, F4.out.poke hb, HT5⟩, by simp [intOf]; omega⟩
    | false =>
     have HR : flagR p f (p.n + 1 - (k + 1)) (k + 1) false ((on ||| 16 : Nat) : Int) of_ = _ := Eq.symm (HS.out.trans (show _ = flagR p f m (k + 1) false ((on ||| 16 : Nat) : Int) of_ by rw [if_neg e41, if_neg e58, if_neg e45, if_pos (by simp [isOpt, ho]), if_neg (by simp), ho, Int.toNat_natCast]) |>.trans (by rw [show p.n + 1 - (k + 1) = m by omega]));have ct10 : wr.cell? ⟨g, 10, none⟩ = some (.int .i64 (on : Nat)) := by simp [World.cell?, HT.out, tkR]
     have cf10 : wr.frozen? ⟨g, 10, none⟩ = false := by simp [World.frozen?, HT.out]
     have hor : bits BinOp.or IntKind.i64 (on : Int) 16 = ((on ||| 16 : Nat) : Int) := bits_or (y := 16) h1 (by decide);have hb := ((Below.refl _ wr).setCell (p := ⟨g, 10, none⟩) hBg (.int .i64 ((on ||| 16 : Nat) : Int)));have HT5 : Hid ((wr.setCell ⟨g, 10, none⟩ (.int .i64 ((on ||| 16 : Nat) : Int))).heap[g]? = some (.cells (tkR (.slice none 0 0) { kind := 15, on := ((on ||| 16) : Nat), off := (of_ : Nat) }) 68 (0, 0))) := xH ((tkw.heap_set (o := 10) (v := .int .i64 ((on ||| 16 : Nat) : Int)) HT.out));go_wp2_with fail
     try rw [hor]
     exact ⟨⟨k + 1, false, (on ||| 16), of_, by omega, Nat.or_lt_two_pow (n := 5) h1 (by decide), h3, rfl, rfl, xH HR, F4.out.poke hb, HT5⟩, by simp [intOf]; omega⟩
   have b41 : (p.g k == 41) = false := by simp [e41]
   have b58 : (p.g k == 58) = false := by simp [e58]
   have b45 : (p.g k == 45) = false := by simp [e45]
   have b105 : (p.g k == 105) = false := by simp [e105]
   have b109 : (p.g k == 109) = false := by simp [e109]
   have b115 : (p.g k == 115) = false := by simp [e115]
   have b85 : (p.g k == 85) = false := by simp [e85]
   have ho : isOpt (p.g k) = false := by simp [isOpt, optV, e105, e109, e115, e85]
   have HR := xH (HS.out.trans (show _ = .error (26, (f : Int)) by rw [if_neg e41, if_neg e58, if_neg e45, if_neg (by simp [ho])]));go_wp2_with fail
   refine Calls.mono (qw _ _ _) ?_;rintro e w5 ⟨v, rfl, ho, hb⟩;have HO := xO F4.out.x ho;have F5 := xH (F4.out.step hb);clear hb ho c0 c1 c2 c3;obtain ⟨old, HG, hz⟩ := xG F5;go_wp2_with (refine xR HG hz HO rfl rfl rfl rfl rfl ?_)
   refine bodyPost_ret (xE HG rfl rfl) rfl ?_;exact qj F5.out HR.out HO.out (Nat.le_refl _)
  ·have HR := xH ((Eq.symm hfl.out).trans (show _ = .error (20, (p.n : Int)) by rw [flagR, if_pos (by rw [HN.out]; omega)]));go_wp2_with fail
   refine Calls.mono (end_any S p _ HP.out) ?_;rintro e w5 ⟨v, rfl, ho, hb⟩;have HO := xO F4.out.x ho;have F5 := xH (F4.out.step hb);clear hb ho c0 c1 c2 c3;obtain ⟨old, HG, hz⟩ := xG F5;go_wp2_with (refine xR HG hz HO rfl rfl rfl rfl rfl ?_)
   refine bodyPost_ret (xE HG rfl rfl) rfl ?_;exact qj F5.out HR.out HO.out (Nat.le_refl _)
end Go.Proofs.YtikjhfmmfpeaoaaGreatDoor.rtw
end
section
namespace Go.Proofs.YtikjhfmmfpeaoaaGreatDoor.rtw
open sq
open Go Go.RowKit Go.Maps utfp utfw ucdp setp setw prp tkp rtp
theorem notF_len {m : Int} : ∀ (S : List Rg) (a : Int), (notF m a S).length ≤ S.length + 1
 | [], a => by rw [notF];unfold addP;split <;> simp
 | r :: S, a => by
  have ih := notF_len (m := m) S (r.2 + 1);rw [notF];split
  ·simp only [List.length_cons]; omega
  ·simp only [List.length_cons]; omega
theorem notL_len (p : Pt) (l : List Rg) : (notL p l).length ≤ l.length + 1 := by have h1 := notF_len (m := p.most) (normR p.most l) 0;have h2 := tkw.yg p.most l;unfold notL notR;omega
theorem brac_bd {S : ByteArray} {p : Pt} (h : Pat S p) {i j : Nat} {s : ByteArray} (e : brac p i = some (s, j)) : i < j ∧ j ≤ p.n := by
 unfold brac at e;split at e
 ·cases e
 ·rename_i h0;split at e
  ·split at e
   ·cases e
   ·rename_i k hk;simp only [Option.some.injEq, Prod.mk.injEq] at e;unfold Pt.until at hk;have := tkw.find_bd hk;omega
  ·simp only [Option.some.injEq, Prod.mk.injEq] at e;have := zM h (a := i) (by omega);omega
theorem many_bd {S : ByteArray} {p : Pt} (h : Pat S p) {c : Int} {i b : Nat} {l : List Rg} {neg : Bool} (hi : i ≤ p.n) (e : many p c i = .ok (some (l, neg, b))) : i ≤ b ∧ b ≤ p.n := by
 unfold many at e;split at e
 ·split at e
  ·cases e
  ·rename_i s j hs;split at e
   ·simp only [Except.ok.injEq, Option.some.injEq, Prod.mk.injEq] at e;have := brac_bd h hs;omega
   ·cases e
 ·split at e
  ·simp only [Except.ok.injEq, Option.some.injEq, Prod.mk.injEq] at e;omega
  ·cases e
theorem itemE_bd {S : ByteArray} {p : Pt} (h : Pat S p) {i b to_ : Nat} {l : List Rg} {s : Bool} (hb : b < p.n) (e : itemE p i b = .ok (l, s, to_)) : b < to_ ∧ to_ ≤ p.n ∧ l.length ≤ 101 ∧ (s = true → ∃ c, l = [(c, c)]) := by
 have hc := zM h (a := b) hb;unfold itemE at e;simp only at e;split at e
 ·split at e
  ·cases e
  ·rename_i v j hv;simp only [Except.ok.injEq, Prod.mk.injEq] at e;obtain ⟨rfl, rfl, rfl⟩ := e;have := hexz_in h hc.2 hv;exact ⟨by omega, by omega, by simp, fun _ => ⟨_, rfl⟩⟩
 ·split at e
  ·simp only [Except.ok.injEq, Prod.mk.injEq] at e;obtain ⟨rfl, rfl, rfl⟩ := e;exact ⟨by omega, by omega, by simp, fun _ => ⟨_, rfl⟩⟩
  ·split at e
   ·simp only [Except.ok.injEq, Prod.mk.injEq] at e;obtain ⟨rfl, rfl, rfl⟩ := e;exact ⟨by omega, by omega, by simp, fun _ => ⟨_, rfl⟩⟩
   ·split at e
    ·cases e
    ·rename_i l2 neg j hm;simp only [Except.ok.injEq, Prod.mk.injEq] at e;obtain ⟨rfl, rfl, rfl⟩ := e;have h1 := many_bd h hc.2 hm;have h2 := (many_len (S := S) hm).1;have h3 := notL_len p l2;refine ⟨by omega, by omega, ?_, fun hh => absurd hh (by simp)⟩;split <;> omega
    ·split at e
     ·cases e
     ·simp only [Except.ok.injEq, Prod.mk.injEq] at e;obtain ⟨rfl, rfl, rfl⟩ := e;exact ⟨by omega, by omega, by simp, fun _ => ⟨_, rfl⟩⟩
theorem item_bd {S : ByteArray} {p : Pt} (h : Pat S p) {i to_ : Nat} {l : List Rg} {s : Bool} (hi : i < p.n) (e : itemR p i = .ok (l, s, to_)) : i < to_ ∧ to_ ≤ p.n ∧ l.length ≤ 101 ∧ (s = true → ∃ c, l = [(c, c)]) := by
 have hc := zM h (a := i) hi;unfold itemR at e;split at e
 ·rename_i h1;split at e
  ·simp only [Except.ok.injEq, Prod.mk.injEq] at e;obtain ⟨rfl, rfl, rfl⟩ := e;have h2 := qR h h1.2;have hin := qR h h1.1;simp only [List.length_cons, List.length_nil] at h2 hin;have hpb : i < posB p i ∧ posB p i ≤ p.n := by
    unfold posB;split
    ·rename_i h3;have := qR h h3;simp only [List.length_nil] at this;omega
    ·omega
   have h4 := tkw.run_bd (fits := isLet) (k := 1000) hpb.2;have h5 := posixP_len (p.sub (posB p i) (p.run isLet 1000 (posB p i)));have h6 := notL_len p (jC (p.sub (posB p i) (p.run isLet 1000 (posB p i))));refine ⟨by omega, by omega, ?_, fun hh => absurd hh (by simp)⟩;split <;> omega
  ·cases e
 ·unfold itemC at e;split at e
  ·split at e
   ·cases e
   ·have := itemE_bd h (by omega) e;exact ⟨by omega, this.2⟩
  ·simp only [Except.ok.injEq, Prod.mk.injEq] at e;obtain ⟨rfl, rfl, rfl⟩ := e;exact ⟨by omega, by omega, by simp, fun _ => ⟨_, rfl⟩⟩
theorem range_bd {S : ByteArray} {p : Pt} (h : Pat S p) {i to_ : Nat} {l : List Rg} (hi : i < p.n) (e : rangeR p i = .ok (l, to_)) : i < to_ ∧ to_ ≤ p.n ∧ l.length ≤ 101 := by
 unfold rangeR at e;split at e
 ·cases e
 ·rename_i l1 s1 to1 h1;have b1 := item_bd h hi h1;split at e
  ·rename_i hc;split at e
   ·cases e
   ·rename_i m also j h2;have b2 := item_bd h hc.2.2.1 h2;split at e
    ·cases e
    ·simp only [Except.ok.injEq, Prod.mk.injEq] at e;obtain ⟨rfl, rfl⟩ := e;exact ⟨by omega, by omega, by simp⟩
  ·simp only [Except.ok.injEq, Prod.mk.injEq] at e;obtain ⟨rfl, rfl⟩ := e;exact ⟨b1.1, b1.2.1, b1.2.2.1⟩
end Go.Proofs.YtikjhfmmfpeaoaaGreatDoor.rtw
end
