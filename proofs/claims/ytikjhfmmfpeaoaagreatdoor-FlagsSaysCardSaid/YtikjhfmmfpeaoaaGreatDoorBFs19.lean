/- T -/
import Derived.Test.YtikjhfmmfpeaoaaGreatDoorBFs13
set_option maxHeartbeats 16000000
set_option maxRecDepth 1000000
namespace Go.Proofs.YtikjhfmmfpeaoaaGreatDoor
section
namespace rtw
open sq
open Go Go.RowKit Go.Maps utfp utfw ucdp setp setw prp tkp rtp
open tkw (sg sg_bd vJ jM qK tkR qO qM vI)
theorem qQ {w w' : World} {g : Nat} {o : Obj} (h : w.heap[g]? = some o) (hb : Below w.heap.size w w') : w'.heap[g]? = some o := (hb.block g (zi h)).trans h
theorem condition_any (S : ByteArray) (p : Pt) (w : World) (hP : Pat S p) (f i : Nat) (hf : f ≤ p.n) (hi : i ≤ p.n) : Calls Tryz.prog 74 #[txV S p, .int .i64 f, .int .i64 i] w (GotB w (condR p f i)) := by
 have hn := hP.n;have h2 := hP.le;have HP := xH hP;have HN := xH hn;clear hP;rw [hn] at hi hf;clear hn;unfold txV txC;go_enter Tryz.func74, Tryz.ntmps74;go_upto_region 1 with (fail)
 generalize hW : (w.alloc _).alloc _ = W;have F0 := xH (fg_start (S := S) (p := p) hW);obtain ⟨B, hB⟩ : ∃ B, w.heap.size = B := ⟨_, rfl⟩;rw [hB] at F0 ⊢;clear hW hB;obtain ⟨c0, c1, c2, c3⟩ := F0.out.c;go_wp2_with fail
 refine xM (qG S p _ HP.out (i) (by omega) [63, 61] ⟨#[63, 61]⟩ rfl (by decide) (Or.inl (by rw [HN.out]; exact hi))) ?_;rintro e w1 ⟨rfl, hb⟩;have F1 := xH (F0.out.step hb);clear hb c0 c1 c2 c3;obtain ⟨c0, c1, c2, c3⟩ := F1.out.c;cases h1 : p.has [63, 61] i with
 | true =>
  have HR := xH (show condR p f i = gtok { kind := 10, n := 13 } f (f + 2) by unfold condR; rw [if_pos (by simp [h1])]);go_wp2_with fail
  refine xM (qF (.slice none 0 0) ({ kind := 10, n := 13 }) (f) (f + 2) _ (k := B) (qm _ _)) ?_;exact z73
 | false =>
  go_wp2_with fail
  refine xM (qG S p _ HP.out (i) (by omega) [63, 33] ⟨#[63, 33]⟩ rfl (by decide) (Or.inl (by rw [HN.out]; exact hi))) ?_;rintro e w2 ⟨rfl, hb⟩;have F2 := xH (F1.out.step hb);clear hb c0 c1 c2 c3;obtain ⟨c0, c1, c2, c3⟩ := F2.out.c;cases h2 : p.has [63, 33] i with
  | true =>
   have HR := xH (show condR p f i = gtok { kind := 10, n := 13 } f (f + 2) by unfold condR; rw [if_pos (by simp [h2])]);go_wp2_with fail
   refine xM (qF (.slice none 0 0) ({ kind := 10, n := 13 }) (f) (f + 2) _ (k := B) (qm _ _)) ?_;exact z74
  | false =>
   go_wp2_with fail
   refine xM (qG S p _ HP.out (i) (by omega) [63, 60, 61] ⟨#[63, 60, 61]⟩ rfl (by decide) (Or.inl (by rw [HN.out]; exact hi))) ?_;rintro e w3 ⟨rfl, hb⟩;have F3 := xH (F2.out.step hb);clear hb c0 c1 c2 c3;obtain ⟨c0, c1, c2, c3⟩ := F3.out.c;cases h3 : p.has [63, 60, 61] i with
   | true =>
    have HR := xH (show condR p f i = gtok { kind := 10, n := 13 } f (f + 2) by unfold condR; rw [if_pos (by simp [h3])]);go_wp2_with fail
    refine xM (qF (.slice none 0 0) ({ kind := 10, n := 13 }) (f) (f + 2) _ (k := B) (qm _ _)) ?_;exact z70
   | false =>
    go_wp2_with fail
    refine xM (qG S p _ HP.out (i) (by omega) [63, 60, 33] ⟨#[63, 60, 33]⟩ rfl (by decide) (Or.inl (by rw [HN.out]; exact hi))) ?_;rintro e w4 ⟨rfl, hb⟩;have F4 := xH (F3.out.step hb);clear hb c0 c1 c2 c3;obtain ⟨c0, c1, c2, c3⟩ := F4.out.c;cases h4 : p.has [63, 60, 33] i with
    | true =>
     have HR := xH (show condR p f i = gtok { kind := 10, n := 13 } f (f + 2) by unfold condR; rw [if_pos (by simp [h4])]);go_wp2_with fail
     refine xM (qF (.slice none 0 0) ({ kind := 10, n := 13 }) (f) (f + 2) _ (k := B) (qm _ _)) ?_;exact z71
    | false =>
     obtain ⟨old0, hg0, _⟩ := F4.out.g;have hlt0 := zi hg0;clear hg0;have hbw := qK w4 tkw.ob01;have hgn := heap_alloc_new w4 (.cells #[.int .i64 10, .int .i64 0, .int .i64 0, .int .i64 0, .slice none 0 0, .bool false, .int .i64 0, .int .i64 0, .int .i64 0, .string ⟨#[]⟩, .int .i64 0, .int .i64 0] 68);have d0 := qf hbw c0;have d1 := qf hbw c1;have d2 := qf hbw c2;have d3 := qf hbw c3;go_wp2_with fail
     generalize w4.alloc (.cells #[.int .i64 10, .int .i64 0, .int .i64 0, .int .i64 0, .slice none 0 0, .bool false, .int .i64 0, .int .i64 0, .int .i64 0, .string ⟨#[]⟩, .int .i64 0, .int .i64 0] 68) = w5 at *;obtain ⟨g, hg⟩ : ∃ g, w4.heap.size = g := ⟨_, rfl⟩;rw [hg] at hgn hlt0 ⊢;have HT5 : Hid (w5.heap[g]? = some (.cells (tkR (.slice none 0 0) { kind := 10 }) 68 (0, 0))) := xH hgn;have F5 := xH (F4.out.step hbw);have hBg : B + 2 ≤ g := hlt0;clear hbw hgn hg c0 c1 c2 c3 d0 d1 d2 d3 hlt0;obtain ⟨c0, c1, c2, c3⟩ := F5.out.c;refine xM (qG S p _ HP.out (i) (by omega) [60] ⟨#[60]⟩ rfl (by decide) (Or.inl (by rw [HN.out]; exact hi))) ?_;rintro e w6 ⟨rfl, hb⟩;have F6 := xH (F5.out.step hb);have HT6 := xH (qQ HT5.out hb);clear hb c0 c1 c2 c3;obtain ⟨c0, c1, c2, c3⟩ := F6.out.c;cases h60 : p.has [60] i with
     | true =>
      have hin := qR HP.out h60;rw [HN.out] at hin;simp only [dA, Nat.zero_add] at hin;have hgb := gb HP.out;obtain ⟨pb0, pb1⟩ := jS HP.out i;have hpi := ((has_byte HP.out 60 i).1 h60).2;have bpi : (p.g i != 60) = false := by rw [hpi]; decide
      clear hpi;have HE := xH (show condR p f i = condE p f { kind := 10, n := 10, name := p.sub (i + 1) (p.name (i + 1)).1 } ((p.name (i + 1)).1 + 1) ((p.name (i + 1)).2 && p.has [62] (p.name (i + 1)).1) by unfold condR; rw [if_neg (by simp [h1, h2, h3, h4]), if_pos h60]; rfl);have ct6 : w6.cell? ⟨g, 6, none⟩ = some (.int .i64 0) := by simp [World.cell?, HT6.out, tkR]
      have cf6 : w6.frozen? ⟨g, 6, none⟩ = false := by simp [World.frozen?, HT6.out]
      have hb := ((Below.refl (B + 2) w6).setCell (p := ⟨g, 6, none⟩) hBg (.int .i64 10));have Fa := xH (F6.out.poke hb);have HTa : Hid ((w6.setCell ⟨g, 6, none⟩ (.int .i64 10)).heap[g]? = some (.cells (tkR (.slice none 0 0) { kind := 10, n := 10 }) 68 (0, 0))) := xH (tkw.heap_set (o := 6) (v := .int .i64 10) HT6.out);clear hb;have ⟨d0, d1, d2, d3⟩ := Fa.out.c;go_wp2_with fail
      generalize (w6.setCell ⟨g, 6, none⟩ (.int .i64 10)) = wa at *;refine xM (name_any S p _ HP.out (i + 1) (by rw [HN.out]; omega)) ?_;rintro e w7 ⟨rfl, hb⟩;have F7 := xH (Fa.out.step hb);have HT7 := xH (qQ HTa.out hb);clear hb c0 c1 c2 c3;obtain ⟨c0, c1, c2, c3⟩ := F7.out.c;obtain ⟨m1, m2⟩ := zh (p := p) (a := i + 1) (by rw [HN.out]; omega);rw [HN.out] at m2;generalize (p.name (i + 1)).1 = z at *;generalize (p.name (i + 1)).2 = ok at *;generalize p.sub (i + 1) z = nm at *;have ct9 : w7.cell? ⟨g, 9, none⟩ = some (.string ⟨#[]⟩) := by simp [World.cell?, HT7.out, tkR]
      have cf9 : w7.frozen? ⟨g, 9, none⟩ = false := by simp [World.frozen?, HT7.out]
      cases ok with
      | false =>
       have HE2 := xH (HE.out.trans (show _ = condE p f { kind := 10, n := 10, name := nm } (z + 1) false from rfl));have hb := ((Below.refl (B + 2) w7).setCell (p := ⟨g, 9, none⟩) hBg (.string nm));have Fb := xH (F7.out.poke hb);have HTb : Hid ((w7.setCell ⟨g, 9, none⟩ (.string nm)).heap[g]? = some (.cells (tkR (.slice none 0 0) { kind := 10, n := 10, name := nm }) 68 (0, 0))) := xH (tkw.heap_set (o := 9) (v := .string nm) HT7.out);clear hb;have ⟨d0, d1, d2, d3⟩ := Fb.out.c;go_wp2_with fail
       generalize (w7.setCell ⟨g, 9, none⟩ (.string nm)) = wb at *;have HR := xH (HE2.out.trans (show _ = Except.error (32, (f : Int)) by unfold condE; rw [if_pos (Or.inl (by simp))]));refine xM (qw _ _ _) ?_;intro e w8 h;obtain ⟨v, rfl, HO, F8, old, HG, hz⟩ := yJ Fb h;clear h c0 c1 c2 c3;go_wp2_with (refine yR HG hz HO ?_)
       exact yW HG F8 HR HO
      | true =>
       have hb := ((Below.refl (B + 2) w7).setCell (p := ⟨g, 9, none⟩) hBg (.string nm));have Fb := xH (F7.out.poke hb);have HTb : Hid ((w7.setCell ⟨g, 9, none⟩ (.string nm)).heap[g]? = some (.cells (tkR (.slice none 0 0) { kind := 10, n := 10, name := nm }) 68 (0, 0))) := xH (tkw.heap_set (o := 9) (v := .string nm) HT7.out);clear hb;have ⟨d0, d1, d2, d3⟩ := Fb.out.c;go_wp2_with fail
       generalize (w7.setCell ⟨g, 9, none⟩ (.string nm)) = wb at *;refine xM (qG S p _ HP.out z (by omega) [62] ⟨#[62]⟩ rfl (by decide) (Or.inr (by simp))) ?_;rintro e w8 ⟨rfl, hb⟩;have F8 := xH (Fb.out.step hb);have HT8 := xH (qQ HTb.out hb);clear hb c0 c1 c2 c3;obtain ⟨c0, c1, c2, c3⟩ := F8.out.c;cases hz : p.has [62] z with
       | false =>
        have HE2 := xH (HE.out.trans (show _ = condE p f { kind := 10, n := 10, name := nm } (z + 1) false by rw [hz]; rfl));have HR := xH (HE2.out.trans (show _ = Except.error (32, (f : Int)) by unfold condE; rw [if_pos (Or.inl (by simp))]));exact z90
       | true =>
        have HE2 := xH (HE.out.trans (show _ = condE p f { kind := 10, n := 10, name := nm } (z + 1) true by rw [hz]; rfl));go_wp2_with fail
        refine xM (qG S p _ HP.out (z + 1) (by omega) [41] ⟨#[41]⟩ rfl (by decide) (Or.inr (by simp))) ?_;rintro e w9 ⟨rfl, hb⟩;have F9 := xH (F8.out.step hb);have HT9 := xH (qQ HT8.out hb);clear hb c0 c1 c2 c3;obtain ⟨c0, c1, c2, c3⟩ := F9.out.c;cases h41 : p.has [41] (z + 1) with
        | false =>
         have HR := xH (HE2.out.trans (show _ = Except.error (32, (f : Int)) by unfold condE; rw [if_pos (Or.inr h41)]));exact z86
        | true =>
         have HR := xH (HE2.out.trans (show _ = gtok ({ kind := 10, n := 10, name := nm }) f (z + 1 + 1) by unfold condE; rw [if_neg (by simp [h41]), if_neg (by simp)]));have ct6 : w9.cell? ⟨g, 6, none⟩ = some (.int .i64 10) := by simp [World.cell?, HT9.out, tkR]
         have cf6 : w9.frozen? ⟨g, 6, none⟩ = false := by simp [World.frozen?, HT9.out]
         go_wp2_with (refine tkw.qX rfl _ rfl g rfl _ HT9.out rfl ?_)
         refine xM (qF (.slice none 0 0) ({ kind := 10, n := 10, name := nm }) (f) (z + 1 + 1) _ (k := B) (qm _ _)) ?_;exact z69
     | false =>
      go_wp2_with fail
      refine xM (qG S p _ HP.out (i) (by omega) [39] ⟨#[39]⟩ rfl (by decide) (Or.inl (by rw [HN.out]; exact hi))) ?_;rintro e w7 ⟨rfl, hb⟩;have F7 := xH (F6.out.step hb);have HT7 := xH (qQ HT6.out hb);clear hb c0 c1 c2 c3;obtain ⟨c0, c1, c2, c3⟩ := F7.out.c;cases h39 : p.has [39] i with
      | true =>
       have hin := qR HP.out h39;rw [HN.out] at hin;simp only [dA, Nat.zero_add] at hin;have hgb := gb HP.out;obtain ⟨pb0, pb1⟩ := jS HP.out i;have hpi := ((has_byte HP.out 39 i).1 h39).2;have bpi : (p.g i != 60) = true := by rw [hpi]; decide
       clear hpi;have HE := xH (show condR p f i = condE p f { kind := 10, n := 10, name := p.sub (i + 1) (p.name (i + 1)).1 } ((p.name (i + 1)).1 + 1) ((p.name (i + 1)).2 && p.has [39] (p.name (i + 1)).1) by unfold condR; rw [if_neg (by simp [h1, h2, h3, h4]), if_neg (by simp [h60]), if_pos h39]; rfl);have ct6 : w7.cell? ⟨g, 6, none⟩ = some (.int .i64 0) := by simp [World.cell?, HT7.out, tkR]
       have cf6 : w7.frozen? ⟨g, 6, none⟩ = false := by simp [World.frozen?, HT7.out]
       have hb := ((Below.refl (B + 2) w7).setCell (p := ⟨g, 6, none⟩) hBg (.int .i64 10));have Fa := xH (F7.out.poke hb);have HTa : Hid ((w7.setCell ⟨g, 6, none⟩ (.int .i64 10)).heap[g]? = some (.cells (tkR (.slice none 0 0) { kind := 10, n := 10 }) 68 (0, 0))) := xH (tkw.heap_set (o := 6) (v := .int .i64 10) HT7.out);clear hb;have ⟨d0, d1, d2, d3⟩ := Fa.out.c;go_wp2_with fail
       generalize (w7.setCell ⟨g, 6, none⟩ (.int .i64 10)) = wa at *;refine xM (name_any S p _ HP.out (i + 1) (by rw [HN.out]; omega)) ?_;rintro e w8 ⟨rfl, hb⟩;have F8 := xH (Fa.out.step hb);have HT8 := xH (qQ HTa.out hb);clear hb c0 c1 c2 c3;obtain ⟨c0, c1, c2, c3⟩ := F8.out.c;obtain ⟨m1, m2⟩ := zh (p := p) (a := i + 1) (by rw [HN.out]; omega);rw [HN.out] at m2;generalize (p.name (i + 1)).1 = z at *;generalize (p.name (i + 1)).2 = ok at *;generalize p.sub (i + 1) z = nm at *;have ct9 : w8.cell? ⟨g, 9, none⟩ = some (.string ⟨#[]⟩) := by simp [World.cell?, HT8.out, tkR]
       have cf9 : w8.frozen? ⟨g, 9, none⟩ = false := by simp [World.frozen?, HT8.out]
       cases ok with
       | false =>
        have HE2 := xH (HE.out.trans (show _ = condE p f { kind := 10, n := 10, name := nm } (z + 1) false from rfl));have hb := ((Below.refl (B + 2) w8).setCell (p := ⟨g, 9, none⟩) hBg (.string nm));have Fb := xH (F8.out.poke hb);have HTb : Hid ((w8.setCell ⟨g, 9, none⟩ (.string nm)).heap[g]? = some (.cells (tkR (.slice none 0 0) { kind := 10, n := 10, name := nm }) 68 (0, 0))) := xH (tkw.heap_set (o := 9) (v := .string nm) HT8.out);clear hb;have ⟨d0, d1, d2, d3⟩ := Fb.out.c;go_wp2_with fail
        generalize (w8.setCell ⟨g, 9, none⟩ (.string nm)) = wb at *;have HR := xH (HE2.out.trans (show _ = Except.error (32, (f : Int)) by unfold condE; rw [if_pos (Or.inl (by simp))]));refine xM (qw _ _ _) ?_;intro e w9 h;obtain ⟨v, rfl, HO, F9, old, HG, hz⟩ := yJ Fb h;clear h c0 c1 c2 c3;go_wp2_with (refine yR HG hz HO ?_)
        exact yW HG F9 HR HO
       | true =>
        have hb := ((Below.refl (B + 2) w8).setCell (p := ⟨g, 9, none⟩) hBg (.string nm));have Fb := xH (F8.out.poke hb);have HTb : Hid ((w8.setCell ⟨g, 9, none⟩ (.string nm)).heap[g]? = some (.cells (tkR (.slice none 0 0) { kind := 10, n := 10, name := nm }) 68 (0, 0))) := xH (tkw.heap_set (o := 9) (v := .string nm) HT8.out);clear hb;have ⟨d0, d1, d2, d3⟩ := Fb.out.c;go_wp2_with fail
        generalize (w8.setCell ⟨g, 9, none⟩ (.string nm)) = wb at *;refine xM (qG S p _ HP.out z (by omega) [39] ⟨#[39]⟩ rfl (by decide) (Or.inr (by simp))) ?_;rintro e w9 ⟨rfl, hb⟩;have F9 := xH (Fb.out.step hb);have HT9 := xH (qQ HTb.out hb);clear hb c0 c1 c2 c3;obtain ⟨c0, c1, c2, c3⟩ := F9.out.c;cases hz : p.has [39] z with
        | false =>
         have HE2 := xH (HE.out.trans (show _ = condE p f { kind := 10, n := 10, name := nm } (z + 1) false by rw [hz]; rfl));have HR := xH (HE2.out.trans (show _ = Except.error (32, (f : Int)) by unfold condE; rw [if_pos (Or.inl (by simp))]));exact z86
        | true =>
         have HE2 := xH (HE.out.trans (show _ = condE p f { kind := 10, n := 10, name := nm } (z + 1) true by rw [hz]; rfl));go_wp2_with fail
         refine xM (qG S p _ HP.out (z + 1) (by omega) [41] ⟨#[41]⟩ rfl (by decide) (Or.inr (by simp))) ?_;rintro e w10 ⟨rfl, hb⟩;have F10 := xH (F9.out.step hb);have HT10 := xH (qQ HT9.out hb);clear hb c0 c1 c2 c3;obtain ⟨c0, c1, c2, c3⟩ := F10.out.c;cases h41 : p.has [41] (z + 1) with
         | false =>
          have HR := xH (HE2.out.trans (show _ = Except.error (32, (f : Int)) by unfold condE; rw [if_pos (Or.inr h41)]));go_wp2_with fail
          refine xM (qw _ _ _) ?_;exact z116
         | true =>
          have HR := xH (HE2.out.trans (show _ = gtok ({ kind := 10, n := 10, name := nm }) f (z + 1 + 1) by unfold condE; rw [if_neg (by simp [h41]), if_neg (by simp)]));have ct6 : w10.cell? ⟨g, 6, none⟩ = some (.int .i64 10) := by simp [World.cell?, HT10.out, tkR]
          have cf6 : w10.frozen? ⟨g, 6, none⟩ = false := by simp [World.frozen?, HT10.out]
          go_wp2_with (refine tkw.qX rfl _ rfl g rfl _ HT10.out rfl ?_)
          refine xM (qF (.slice none 0 0) ({ kind := 10, n := 10, name := nm }) (f) (z + 1 + 1) _ (k := B) (qm _ _)) ?_;rintro e w11 ⟨rfl, ho, hb⟩;have F11 := xH (F10.out.step hb);have HO := xH ho;clear hb ho c0 c1 c2 c3;obtain ⟨old, HG, hz⟩ := xG F11;go_wp2_with (refine yR HG hz HO ?_)
          exact yW HG F11 HR HO
      | false =>
       go_wp2_with fail
       refine xM (qG S p _ HP.out (i) (by omega) [68, 69, 70, 73, 78, 69] ⟨#[68, 69, 70, 73, 78, 69]⟩ rfl (by decide) (Or.inl (by rw [HN.out]; exact hi))) ?_;rintro e w8 ⟨rfl, hb⟩;have F8 := xH (F7.out.step hb);have HT8 := xH (qQ HT7.out hb);clear hb c0 c1 c2 c3;obtain ⟨c0, c1, c2, c3⟩ := F8.out.c;cases hD : p.has [68, 69, 70, 73, 78, 69] i with
       | true =>
        have hin := qR HP.out hD;rw [HN.out] at hin;simp only [dB, dA, Nat.zero_add] at hin;have HE := xH (show condR p f i = condE p f { kind := 10, n := 12 } (i + 6) true by unfold condR; rw [if_neg (by simp [h1, h2, h3, h4]), if_neg (by simp [h60]), if_neg (by simp [h39]), if_pos hD]);have ct6 : w8.cell? ⟨g, 6, none⟩ = some (.int .i64 0) := by simp [World.cell?, HT8.out, tkR]
        have cf6 : w8.frozen? ⟨g, 6, none⟩ = false := by simp [World.frozen?, HT8.out]
        have hb := ((Below.refl (B + 2) w8).setCell (p := ⟨g, 6, none⟩) hBg (.int .i64 12));have Fa := xH (F8.out.poke hb);have HTa : Hid ((w8.setCell ⟨g, 6, none⟩ (.int .i64 12)).heap[g]? = some (.cells (tkR (.slice none 0 0) { kind := 10, n := 12 }) 68 (0, 0))) := xH (tkw.heap_set (o := 6) (v := .int .i64 12) HT8.out);clear hb;have ⟨d0, d1, d2, d3⟩ := Fa.out.c;go_wp2_with fail
        generalize (w8.setCell ⟨g, 6, none⟩ (.int .i64 12)) = wa at *;refine xM (qG S p _ HP.out (i + 6) (by omega) [41] ⟨#[41]⟩ rfl (by decide) (Or.inr (by simp))) ?_;rintro e w9 ⟨rfl, hb⟩;have F9 := xH (Fa.out.step hb);have HT9 := xH (qQ HTa.out hb);clear hb c0 c1 c2 c3;obtain ⟨c0, c1, c2, c3⟩ := F9.out.c;cases h41 : p.has [41] (i + 6) with
        | false =>
         have HR := xH (HE.out.trans (show _ = Except.error (32, (f : Int)) by unfold condE; rw [if_pos (Or.inr h41)]));exact z86
        | true =>
         have HR := xH (HE.out.trans (show _ = gtok ({ kind := 10, n := 12 }) f (i + 6 + 1) by unfold condE; rw [if_neg (by simp [h41]), if_neg (by simp)]));have ct6 : w9.cell? ⟨g, 6, none⟩ = some (.int .i64 12) := by simp [World.cell?, HT9.out, tkR]
         have cf6 : w9.frozen? ⟨g, 6, none⟩ = false := by simp [World.frozen?, HT9.out]
         go_wp2_with (refine tkw.qX rfl _ rfl g rfl _ HT9.out rfl ?_)
         refine xM (qF (.slice none 0 0) ({ kind := 10, n := 12 }) (f) (i + 6 + 1) _ (k := B) (qm _ _)) ?_;exact z69
       | false =>
        go_wp2_with fail
        refine xM (qG S p _ HP.out (i) (by omega) [82, 38] ⟨#[82, 38]⟩ rfl (by decide) (Or.inl (by rw [HN.out]; exact hi))) ?_;rintro e w9 ⟨rfl, hb⟩;have F9 := xH (F8.out.step hb);have HT9 := xH (qQ HT8.out hb);clear hb c0 c1 c2 c3;obtain ⟨c0, c1, c2, c3⟩ := F9.out.c;cases hRA : p.has [82, 38] i with
        | true =>
         have hin := qR HP.out hRA;rw [HN.out] at hin;simp only [dB, dA, Nat.zero_add] at hin;have HE := xH (show condR p f i = condE p f { kind := 10, n := 11, m := 3, name := p.sub (i + 2) (p.name (i + 2)).1 } (p.name (i + 2)).1 (p.name (i + 2)).2 by unfold condR; rw [if_neg (by simp [h1, h2, h3, h4]), if_neg (by simp [h60]), if_neg (by simp [h39]), if_neg (by simp [hD]), if_pos hRA]);have ct6 : w9.cell? ⟨g, 6, none⟩ = some (.int .i64 0) := by simp [World.cell?, HT9.out, tkR]
         have cf6 : w9.frozen? ⟨g, 6, none⟩ = false := by simp [World.frozen?, HT9.out]
         have ct7 : w9.cell? ⟨g, 7, none⟩ = some (.int .i64 0) := by simp [World.cell?, HT9.out, tkR]
         have cf7 : w9.frozen? ⟨g, 7, none⟩ = false := by simp [World.frozen?, HT9.out]
         have hb := (((Below.refl (B + 2) w9).setCell (p := ⟨g, 6, none⟩) hBg (.int .i64 11)).setCell (p := ⟨g, 7, none⟩) hBg (.int .i64 3));have Fa := xH (F9.out.poke hb);have HTa : Hid (((w9.setCell ⟨g, 6, none⟩ (.int .i64 11)).setCell ⟨g, 7, none⟩ (.int .i64 3)).heap[g]? = some (.cells (tkR (.slice none 0 0) { kind := 10, n := 11, m := 3 }) 68 (0, 0))) := xH (tkw.heap_set (o := 7) (v := .int .i64 3) (tkw.heap_set (o := 6) (v := .int .i64 11) HT9.out));clear hb;have ⟨d0, d1, d2, d3⟩ := Fa.out.c;go_wp2_with fail
         generalize ((w9.setCell ⟨g, 6, none⟩ (.int .i64 11)).setCell ⟨g, 7, none⟩ (.int .i64 3)) = wa at *;refine xM (name_any S p _ HP.out (i + 2) (by rw [HN.out]; omega)) ?_;rintro e w10 ⟨rfl, hb⟩;have F10 := xH (Fa.out.step hb);have HT10 := xH (qQ HTa.out hb);clear hb c0 c1 c2 c3;obtain ⟨c0, c1, c2, c3⟩ := F10.out.c;obtain ⟨m1, m2⟩ := zh (p := p) (a := i + 2) (by rw [HN.out]; omega);rw [HN.out] at m2;generalize (p.name (i + 2)).1 = z at *;generalize (p.name (i + 2)).2 = ok at *;generalize p.sub (i + 2) z = nm at *;have ct9 : w10.cell? ⟨g, 9, none⟩ = some (.string ⟨#[]⟩) := by simp [World.cell?, HT10.out, tkR]
         have cf9 : w10.frozen? ⟨g, 9, none⟩ = false := by simp [World.frozen?, HT10.out]
         cases ok with
         | false =>
          have hb := ((Below.refl (B + 2) w10).setCell (p := ⟨g, 9, none⟩) hBg (.string nm));have Fb := xH (F10.out.poke hb);have HTb : Hid ((w10.setCell ⟨g, 9, none⟩ (.string nm)).heap[g]? = some (.cells (tkR (.slice none 0 0) { kind := 10, n := 11, m := 3, name := nm }) 68 (0, 0))) := xH (tkw.heap_set (o := 9) (v := .string nm) HT10.out);clear hb;have ⟨d0, d1, d2, d3⟩ := Fb.out.c;go_wp2_with fail
          generalize (w10.setCell ⟨g, 9, none⟩ (.string nm)) = wb at *;have HR := xH (HE.out.trans (show _ = Except.error (32, (f : Int)) by unfold condE; rw [if_pos (Or.inl (by simp))]));refine xM (qw _ _ _) ?_;intro e w11 h;obtain ⟨v, rfl, HO, F11, old, HG, hz⟩ := yJ Fb h;clear h c0 c1 c2 c3;go_wp2_with (refine yR HG hz HO ?_)
          exact yW HG F11 HR HO
         | true =>
          have hb := ((Below.refl (B + 2) w10).setCell (p := ⟨g, 9, none⟩) hBg (.string nm));have Fb := xH (F10.out.poke hb);have HTb : Hid ((w10.setCell ⟨g, 9, none⟩ (.string nm)).heap[g]? = some (.cells (tkR (.slice none 0 0) { kind := 10, n := 11, m := 3, name := nm }) 68 (0, 0))) := xH (tkw.heap_set (o := 9) (v := .string nm) HT10.out);clear hb;have ⟨d0, d1, d2, d3⟩ := Fb.out.c;go_wp2_with fail
          generalize (w10.setCell ⟨g, 9, none⟩ (.string nm)) = wb at *;refine xM (qG S p _ HP.out (z) (by omega) [41] ⟨#[41]⟩ rfl (by decide) (Or.inr (by simp))) ?_;rintro e w11 ⟨rfl, hb⟩;have F11 := xH (Fb.out.step hb);have HT11 := xH (qQ HTb.out hb);clear hb c0 c1 c2 c3;obtain ⟨c0, c1, c2, c3⟩ := F11.out.c;cases h41 : p.has [41] (z) with
          | false =>
           have HR := xH (HE.out.trans (show _ = Except.error (32, (f : Int)) by unfold condE; rw [if_pos (Or.inr h41)]));go_wp2_with fail
           refine xM (qw _ _ _) ?_;exact z117
          | true =>
           have HR := xH (HE.out.trans (show _ = gtok ({ kind := 10, n := 11, m := 3, name := nm }) f (z + 1) by unfold condE; rw [if_neg (by simp [h41]), if_neg (by simp)]));have ct6 : w11.cell? ⟨g, 6, none⟩ = some (.int .i64 11) := by simp [World.cell?, HT11.out, tkR]
           have cf6 : w11.frozen? ⟨g, 6, none⟩ = false := by simp [World.frozen?, HT11.out]
           go_wp2_with (refine tkw.qX rfl _ rfl g rfl _ HT11.out rfl ?_)
           refine xM (qF (.slice none 0 0) ({ kind := 10, n := 11, m := 3, name := nm }) (f) (z + 1) _ (k := B) (qm _ _)) ?_;rintro e w12 ⟨rfl, ho, hb⟩;have F12 := xH (F11.out.step hb);have HO := xH ho;clear hb ho c0 c1 c2 c3;obtain ⟨old, HG, hz⟩ := xG F12;go_wp2_with (refine yR HG hz HO ?_)
           exact yW HG F12 HR HO
        | false =>
         go_wp2_with fail
         refine xM (qG S p _ HP.out (i) (by omega) [82] ⟨#[82]⟩ rfl (by decide) (Or.inl (by rw [HN.out]; exact hi))) ?_;rintro e w10 ⟨rfl, hb⟩;have F10 := xH (F9.out.step hb);have HT10 := xH (qQ HT9.out hb);clear hb c0 c1 c2 c3;obtain ⟨c0, c1, c2, c3⟩ := F10.out.c;cases hR1 : p.has [82] i with
         | true =>
          have hin := qR HP.out hR1;rw [HN.out] at hin;simp only [dA, Nat.zero_add] at hin;have HE0 := xH (show condR p f i = (if (num p (i + 1)).2.2 = true then Except.error (25, (f : Int)) else condE p f { kind := 10, n := 11, mode := if (num p (i + 1)).2.1 = i + 1 then -1 else (num p (i + 1)).1 } (num p (i + 1)).2.1 true) by unfold condR; rw [if_neg (by simp [h1, h2, h3, h4]), if_neg (by simp [h60]), if_neg (by simp [h39]), if_neg (by simp [hD]), if_neg (by simp [hRA]), if_pos hR1]);have ct6 : w10.cell? ⟨g, 6, none⟩ = some (.int .i64 0) := by simp [World.cell?, HT10.out, tkR]
          have cf6 : w10.frozen? ⟨g, 6, none⟩ = false := by simp [World.frozen?, HT10.out]
          have hb := ((Below.refl (B + 2) w10).setCell (p := ⟨g, 6, none⟩) hBg (.int .i64 11));have Fa := xH (F10.out.poke hb);have HTa : Hid ((w10.setCell ⟨g, 6, none⟩ (.int .i64 11)).heap[g]? = some (.cells (tkR (.slice none 0 0) { kind := 10, n := 11 }) 68 (0, 0))) := xH (tkw.heap_set (o := 6) (v := .int .i64 11) HT10.out);clear hb;have ⟨d0, d1, d2, d3⟩ := Fa.out.c;go_wp2_with fail
          generalize (w10.setCell ⟨g, 6, none⟩ (.int .i64 11)) = wa at *;refine xM (vY S p _ HP.out (i + 1) (by rw [HN.out]; omega)) ?_;rintro e w11 ⟨rfl, hb⟩;have F11 := xH (Fa.out.step hb);have HT11 := xH (qQ HTa.out hb);clear hb c0 c1 c2 c3;obtain ⟨c0, c1, c2, c3⟩ := F11.out.c;obtain ⟨m1, m2⟩ := num_bd (p := p) (a := i + 1) (by rw [HN.out]; omega);rw [HN.out] at m2;generalize num p (i + 1) = q at *;obtain ⟨n, b, gr⟩ := q;simp only at m1 m2 HE0;cases gr with
          | true =>
           exact z64
          | false =>
           by_cases hb1 : b = i + 1
           ·subst hb1;have HE := xH (HE0.out.trans (show _ = condE p f { kind := 10, n := 11, mode := -1 } (i + 1) true by rw [if_neg (by simp), if_pos rfl]));have ct8 : w11.cell? ⟨g, 8, none⟩ = some (.int .i64 0) := by simp [World.cell?, HT11.out, tkR]
            have cf8 : w11.frozen? ⟨g, 8, none⟩ = false := by simp [World.frozen?, HT11.out]
            have ct8' : (w11.setCell ⟨g, 8, none⟩ (.int .i64 n)).cell? ⟨g, 8, none⟩ = some (.int .i64 n) := by have := tkw.heap_set (o := 8) (v := .int .i64 n) HT11.out;simp [World.cell?, this, tkR]
            have cf8' : (w11.setCell ⟨g, 8, none⟩ (.int .i64 n)).frozen? ⟨g, 8, none⟩ = false := by have := tkw.heap_set (o := 8) (v := .int .i64 n) HT11.out;simp [World.frozen?, this]
            have hb := (((Below.refl (B + 2) w11).setCell (p := ⟨g, 8, none⟩) hBg (.int .i64 n)).setCell (p := ⟨g, 8, none⟩) hBg (.int .i64 (-1)));have Fb := xH (F11.out.poke hb);have HTb : Hid (((w11.setCell ⟨g, 8, none⟩ (.int .i64 n)).setCell ⟨g, 8, none⟩ (.int .i64 (-1))).heap[g]? = some (.cells (tkR (.slice none 0 0) { kind := 10, n := 11, mode := -1 }) 68 (0, 0))) := xH (tkw.heap_set (o := 8) (v := .int .i64 (-1)) (tkw.heap_set (o := 8) (v := .int .i64 n) HT11.out));clear hb;have ⟨d0, d1, d2, d3⟩ := Fb.out.c;go_wp2_with fail
            generalize ((w11.setCell ⟨g, 8, none⟩ (.int .i64 n)).setCell ⟨g, 8, none⟩ (.int .i64 (-1))) = wb at *;refine xM (qG S p _ HP.out (i + 1) (by omega) [41] ⟨#[41]⟩ rfl (by decide) (Or.inr (by simp))) ?_;rintro e w12 ⟨rfl, hb⟩;have F12 := xH (Fb.out.step hb);have HT12 := xH (qQ HTb.out hb);clear hb c0 c1 c2 c3;obtain ⟨c0, c1, c2, c3⟩ := F12.out.c;cases h41 : p.has [41] (i + 1) with
            | false =>
             exact z49
            | true =>
             have HR := xH (HE.out.trans (show _ = gtok ({ kind := 10, n := 11, mode := -1 }) f (i + 1 + 1) by unfold condE; rw [if_neg (by simp [h41]), if_neg (by simp)]));have ct6 : w12.cell? ⟨g, 6, none⟩ = some (.int .i64 11) := by simp [World.cell?, HT12.out, tkR]
             have cf6 : w12.frozen? ⟨g, 6, none⟩ = false := by simp [World.frozen?, HT12.out]
             go_wp2_with (refine tkw.qX rfl _ rfl g rfl _ HT12.out rfl ?_)
             refine xM (qF (.slice none 0 0) ({ kind := 10, n := 11, mode := -1 }) (f) (i + 1 + 1) _ (k := B) (qm _ _)) ?_;exact z68
           ·have HE := xH (HE0.out.trans (show _ = condE p f { kind := 10, n := 11, mode := n } b true by rw [if_neg (by simp), if_neg hb1]));have hbi : ¬ (b : Int) = (i : Int) + 1 := by omega
            have ct8 : w11.cell? ⟨g, 8, none⟩ = some (.int .i64 0) := by simp [World.cell?, HT11.out, tkR]
            have cf8 : w11.frozen? ⟨g, 8, none⟩ = false := by simp [World.frozen?, HT11.out]
            have hb := ((Below.refl (B + 2) w11).setCell (p := ⟨g, 8, none⟩) hBg (.int .i64 n));have Fb := xH (F11.out.poke hb);have HTb : Hid ((w11.setCell ⟨g, 8, none⟩ (.int .i64 n)).heap[g]? = some (.cells (tkR (.slice none 0 0) { kind := 10, n := 11, mode := n }) 68 (0, 0))) := xH (tkw.heap_set (o := 8) (v := .int .i64 n) HT11.out);clear hb;have ⟨d0, d1, d2, d3⟩ := Fb.out.c;go_wp2_with fail
            generalize (w11.setCell ⟨g, 8, none⟩ (.int .i64 n)) = wb at *;refine xM (qG S p _ HP.out (b) (by omega) [41] ⟨#[41]⟩ rfl (by decide) (Or.inr (by simp))) ?_;rintro e w12 ⟨rfl, hb⟩;have F12 := xH (Fb.out.step hb);have HT12 := xH (qQ HTb.out hb);clear hb c0 c1 c2 c3;obtain ⟨c0, c1, c2, c3⟩ := F12.out.c;cases h41 : p.has [41] (b) with
            | false =>
             exact z49
            | true =>
             have HR := xH (HE.out.trans (show _ = gtok ({ kind := 10, n := 11, mode := n }) f (b + 1) by unfold condE; rw [if_neg (by simp [h41]), if_neg (by simp)]));have ct6 : w12.cell? ⟨g, 6, none⟩ = some (.int .i64 11) := by simp [World.cell?, HT12.out, tkR]
             have cf6 : w12.frozen? ⟨g, 6, none⟩ = false := by simp [World.frozen?, HT12.out]
             go_wp2_with (refine tkw.qX rfl _ rfl g rfl _ HT12.out rfl ?_)
             refine xM (qF (.slice none 0 0) ({ kind := 10, n := 11, mode := n }) (f) (b + 1) _ (k := B) (qm _ _)) ?_;exact z68
         | false =>
          have HE0 := xH (show condR p f i = (if (sgn p i).2.2.2 = true then Except.error (25, (f : Int)) else condE p f { kind := 10, n := 9, mode := (sgn p i).1, m := (sgn p i).2.1 } (sgn p i).2.2.1 (decide (i < (sgn p i).2.2.1))) by unfold condR; rw [if_neg (by simp [h1, h2, h3, h4]), if_neg (by simp [h60]), if_neg (by simp [h39]), if_neg (by simp [hD]), if_neg (by simp [hRA]), if_neg (by simp [hR1])]);have ct6 : w10.cell? ⟨g, 6, none⟩ = some (.int .i64 0) := by simp [World.cell?, HT10.out, tkR]
          have cf6 : w10.frozen? ⟨g, 6, none⟩ = false := by simp [World.frozen?, HT10.out]
          have hb := ((Below.refl (B + 2) w10).setCell (p := ⟨g, 6, none⟩) hBg (.int .i64 9));have Fa := xH (F10.out.poke hb);have HTa : Hid ((w10.setCell ⟨g, 6, none⟩ (.int .i64 9)).heap[g]? = some (.cells (tkR (.slice none 0 0) { kind := 10, n := 9 }) 68 (0, 0))) := xH (tkw.heap_set (o := 6) (v := .int .i64 9) HT10.out);clear hb;have ⟨d0, d1, d2, d3⟩ := Fa.out.c;go_wp2_with fail
          generalize (w10.setCell ⟨g, 6, none⟩ (.int .i64 9)) = wa at *;refine xM (zQ S p _ HP.out i (by rw [HN.out]; omega)) ?_;rintro e w11 ⟨rfl, hb⟩;have F11 := xH (Fa.out.step hb);have HT11 := xH (qQ HTa.out hb);clear hb c0 c1 c2 c3;obtain ⟨c0, c1, c2, c3⟩ := F11.out.c;obtain ⟨m1, m2⟩ := sgn_bd HP.out (a := i) (by rw [HN.out]; omega);rw [HN.out] at m2;generalize sgn p i = q at *;obtain ⟨n, m, b, gr⟩ := q;simp only at m1 m2 HE0;cases gr with
          | true =>
           exact z64
          | false =>
           have ct8 : w11.cell? ⟨g, 8, none⟩ = some (.int .i64 0) := by simp [World.cell?, HT11.out, tkR]
           have cf8 : w11.frozen? ⟨g, 8, none⟩ = false := by simp [World.frozen?, HT11.out]
           have ct7 : w11.cell? ⟨g, 7, none⟩ = some (.int .i64 0) := by simp [World.cell?, HT11.out, tkR]
           have cf7 : w11.frozen? ⟨g, 7, none⟩ = false := by simp [World.frozen?, HT11.out]
           by_cases hlt : i < b
           ·have HE := xH (HE0.out.trans (show _ = condE p f { kind := 10, n := 9, mode := n, m := m } b true by rw [if_neg (by simp), decide_eq_true hlt]));have hlti : (i : Int) < (b : Int) := by omega
            have hb := (((Below.refl (B + 2) w11).setCell (p := ⟨g, 8, none⟩) hBg (.int .i64 n)).setCell (p := ⟨g, 7, none⟩) hBg (.int .i64 m));have Fb := xH (F11.out.poke hb);have HTb : Hid (((w11.setCell ⟨g, 8, none⟩ (.int .i64 n)).setCell ⟨g, 7, none⟩ (.int .i64 m)).heap[g]? = some (.cells (tkR (.slice none 0 0) { kind := 10, n := 9, mode := n, m := m }) 68 (0, 0))) := xH (tkw.heap_set (o := 7) (v := .int .i64 m) (tkw.heap_set (o := 8) (v := .int .i64 n) HT11.out));clear hb;have ⟨d0, d1, d2, d3⟩ := Fb.out.c;go_wp2_with fail
            generalize ((w11.setCell ⟨g, 8, none⟩ (.int .i64 n)).setCell ⟨g, 7, none⟩ (.int .i64 m)) = wb at *;refine xM (qG S p _ HP.out (b) (by omega) [41] ⟨#[41]⟩ rfl (by decide) (Or.inr (by simp))) ?_;rintro e w12 ⟨rfl, hb⟩;have F12 := xH (Fb.out.step hb);have HT12 := xH (qQ HTb.out hb);clear hb c0 c1 c2 c3;obtain ⟨c0, c1, c2, c3⟩ := F12.out.c;cases h41 : p.has [41] (b) with
            | false =>
             exact z49
            | true =>
             by_cases h0 : n = 0
             ·have HR := xH (HE.out.trans (show _ = Except.error (25, (f : Int)) by unfold condE; rw [if_neg (by simp [h41]), if_pos ⟨rfl, h0⟩]));have b0 : (n == 0) = true := by simp [h0]
              clear h0;have ct6 : w12.cell? ⟨g, 6, none⟩ = some (.int .i64 9) := by simp [World.cell?, HT12.out, tkR]
              have cf6 : w12.frozen? ⟨g, 6, none⟩ = false := by simp [World.frozen?, HT12.out]
              have ct8 : w12.cell? ⟨g, 8, none⟩ = some (.int .i64 (n)) := by simp [World.cell?, HT12.out, tkR]
              have cf8 : w12.frozen? ⟨g, 8, none⟩ = false := by simp [World.frozen?, HT12.out]
              go_wp2_with fail
              refine xM (qw _ _ _) ?_;exact z118
             ·have HR := xH (HE.out.trans (show _ = gtok ({ kind := 10, n := 9, mode := n, m := m }) f (b + 1) by unfold condE; rw [if_neg (by simp [h41]), if_neg (fun h => h0 h.2)]));have b0 : (n == 0) = false := by simp [h0]
              have ct6 : w12.cell? ⟨g, 6, none⟩ = some (.int .i64 9) := by simp [World.cell?, HT12.out, tkR]
              have cf6 : w12.frozen? ⟨g, 6, none⟩ = false := by simp [World.frozen?, HT12.out]
              have ct8 : w12.cell? ⟨g, 8, none⟩ = some (.int .i64 (n)) := by simp [World.cell?, HT12.out, tkR]
              have cf8 : w12.frozen? ⟨g, 8, none⟩ = false := by simp [World.frozen?, HT12.out]
              go_wp2_with (refine tkw.qX rfl _ rfl g rfl _ HT12.out rfl ?_)
              refine xM (qF (.slice none 0 0) ({ kind := 10, n := 9, mode := n, m := m }) (f) (b + 1) _ (k := B) (qm _ _)) ?_;exact z68
           ·have HE := xH (HE0.out.trans (show _ = condE p f { kind := 10, n := 9, mode := n, m := m } b false by rw [if_neg (by simp), decide_eq_false hlt]));have hlti : ¬ (i : Int) < (b : Int) := by omega
            have hb := (((Below.refl (B + 2) w11).setCell (p := ⟨g, 8, none⟩) hBg (.int .i64 n)).setCell (p := ⟨g, 7, none⟩) hBg (.int .i64 m));have Fb := xH (F11.out.poke hb);have HTb : Hid (((w11.setCell ⟨g, 8, none⟩ (.int .i64 n)).setCell ⟨g, 7, none⟩ (.int .i64 m)).heap[g]? = some (.cells (tkR (.slice none 0 0) { kind := 10, n := 9, mode := n, m := m }) 68 (0, 0))) := xH (tkw.heap_set (o := 7) (v := .int .i64 m) (tkw.heap_set (o := 8) (v := .int .i64 n) HT11.out));clear hb;have ⟨d0, d1, d2, d3⟩ := Fb.out.c;go_wp2_with fail
            generalize ((w11.setCell ⟨g, 8, none⟩ (.int .i64 n)).setCell ⟨g, 7, none⟩ (.int .i64 m)) = wb at *;have HR := xH (HE.out.trans (show _ = Except.error (32, (f : Int)) by unfold condE; rw [if_pos (Or.inl (by simp))]));refine xM (qw _ _ _) ?_;intro e w12 h;obtain ⟨v, rfl, HO, F12, old, HG, hz⟩ := yJ Fb h;clear h c0 c1 c2 c3;go_wp2_with (refine yR HG hz HO ?_)
            exact yW HG F12 HR HO
def VbRel (w : World) (B : Nat) (S : ByteArray) (p : Pt) (a : Nat) (vi : Value) (wr : World) : Prop :=
 ∃ l : Nat, a + l ≤ S.size ∧ Hid (∀ j, j < l → p.g (a + j) ≠ 41) ∧ vi = .int .i64 ((a + l : Nat) : Int) ∧ FG w B S p wr
def VcRel (w : World) (B : Nat) (S s : ByteArray) (p : Pt) (a : Nat) (v6 v7 v8 vk : Value) (wr : World) : Prop :=
 ∃ k : Nat, k ≤ s.size ∧ Hid (∀ j, j < k → p.g (a + j) ≠ 58) ∧ v6 = .string s ∧ v7 = .string ⟨#[]⟩ ∧ v8 = .bool false ∧ vk = .int .i64 k ∧ FG w B S p wr
theorem find_at2 {p : Pt} {c : Int} : ∀ {l m a : Nat}, l < m → (∀ j, j < l → p.g (a + j) ≠ c) → p.g (a + l) = c → p.find c m a = some (a + l)
 | 0, m + 1, a, _, _, h2 => by rw [Pt.find, if_pos (by simpa using h2)]; rfl
 | l + 1, m + 1, a, h, h1, h2 => by rw [Pt.find, if_neg (by simpa using h1 0 (by omega)), find_at2 (l := l) (m := m) (a := a + 1) (by omega) (fun j hj => by have := h1 (j + 1) (by omega); rwa [show a + (j + 1) = a + 1 + j by omega] at this) (by rwa [show a + (l + 1) = a + 1 + l by omega] at h2)];rw [show a + (l + 1) = a + 1 + l by omega]
theorem find_no2 {p : Pt} {c : Int} : ∀ {m a : Nat}, (∀ j, j < m → p.g (a + j) ≠ c) → p.find c m a = none
 | 0, _, _ => rfl
 | m + 1, a, h => by rw [Pt.find, if_neg (by simpa using h 0 (by omega)), find_no2 (fun j hj => by have := h (j + 1) (by omega); rwa [show a + (j + 1) = a + 1 + j by omega] at this)]
theorem qy {s : ByteArray} {l : List UInt8} (h : ¬ s = ⟨l.toArray⟩) : (s.toList == l) = false := by exact z115
theorem jR {s : ByteArray} {l : List UInt8} (h : s = ⟨l.toArray⟩) : (s.toList == l) = true := by exact z115
theorem emp_n {s : ByteArray} (h : ¬ s = ⟨#[]⟩) : s.toList.isEmpty = false := by
 have := qy (l := []) h;cases hs : s.toList with
 | nil => rw [hs] at this; exact absurd this (by decide)
 | cons x l => rfl
theorem emp_y {s : ByteArray} (h : s = ⟨#[]⟩) : s.toList.isEmpty = true := by subst h;rw [show (⟨#[]⟩ : ByteArray).toList = [] from Lib.toList_data _];rfl
theorem verb_any (S : ByteArray) (p : Pt) (w : World) (hP : Pat S p) (f : Nat) (hf : f + 2 ≤ p.n) : Calls Tryz.prog 71 #[txV S p, .int .i64 f] w (GotB w (verbR p f)) := by
 have hn := hP.n;have h2 := hP.le;have HP := xH hP;have HN := xH hn;clear hP;rw [hn] at hf;clear hn;unfold txV txC;go_enter Tryz.func71, Tryz.ntmps71;go_upto_region 1 with (fail)
 generalize hW : (w.alloc _).alloc _ = W;have F0 := xH (fg_start (S := S) (p := p) hW);obtain ⟨B, hB⟩ : ∃ B, w.heap.size = B := ⟨_, rfl⟩;rw [hB] at F0 ⊢;clear hW hB;obtain ⟨c0, c1, c2, c3⟩ := F0.out.c;go_wp2_with fail
 go_loopw [5] (fun vi wr => VbRel w B S p (f + 2) vi wr) (fun vi _ => S.size - (intOf vi).toNat)
 case atStart => exact ⟨0, by omega, xH (fun j h => absurd h (Nat.not_lt_zero j)), rfl, F0.out⟩
 case round =>
  obtain ⟨l, hl, hd, rfl, hF⟩ := hrel;have F4 := xH hF;clear hF c0 c1 c2 c3;obtain ⟨c0, c1, c2, c3⟩ := F4.out.c;have hgb := gb HP.out;by_cases hlt : f + 2 + l < S.size
  ·obtain ⟨b0, b1⟩ := jS HP.out (f + 2 + l);by_cases hc : p.g (f + 2 + l) = 41
   ·have HU := xH (show p.until 41 (f + 2) = some (f + 2 + l) by unfold Pt.until; exact find_at2 (by rw [HN.out]; omega) hd.out hc);have HSVX := xH (sub_ext HP.out (show f + 2 ≤ f + 2 + l by omega) (show f + 2 + l ≤ p.n by rw [HN.out]; omega));have hsz : (p.sub (f + 2) (f + 2 + l)).size = l := by rw [tkw.sub_size]; omega
    have HSB := xH (fun k (h : k < (p.sub (f + 2) (f + 2 + l)).size) => show (((p.sub (f + 2) (f + 2 + l))[k]'h).toNat : Int) = p.g (f + 2 + k) from tkw.sub_at (jS HP.out) h);have HX1 := xH (fun k (h : k < (p.sub (f + 2) (f + 2 + l)).size) => show (p.sub (f + 2) (f + 2 + l)).extract 0 k = p.sub (f + 2) (f + 2 + k) by rw [← HSVX.out, ← sub_ext HP.out (show f + 2 ≤ f + 2 + k by omega) (by rw [HN.out]; omega), ByteArray.extract_extract, Nat.add_zero, Nat.min_eq_left (by omega)]);have HX2 := xH (fun k (h : k < (p.sub (f + 2) (f + 2 + l)).size) => show (p.sub (f + 2) (f + 2 + l)).extract (k + 1) (p.sub (f + 2) (f + 2 + l)).size = p.sub (f + 2 + k + 1) (f + 2 + l) by rw [hsz, ← HSVX.out, ← sub_ext HP.out (show f + 2 + k + 1 ≤ f + 2 + l by omega) (by rw [HN.out]; omega), ByteArray.extract_extract, Nat.min_eq_left (by omega), ← Nat.add_assoc]);have hxt := HSVX.out;have HSV : Hid (∃ x, x = p.sub (f + 2) (f + 2 + l)) := xH ⟨_, rfl⟩;have hz0 : (p.sub (f + 2) (f + 2 + l)).size ≤ 1000 := by omega
    have HVS := xH (show ∀ g, p.find 58 (f + 2 + l - (f + 2)) (f + 2) = none → verbR p f = verbG f (f + 2 + l) (p.sub (f + 2) (f + 2 + l)) ⟨#[]⟩ g ∨ verbR p f = verbG f (f + 2 + l) (p.sub (f + 2) (f + 2 + l)) ⟨#[]⟩ false from fun g h => Or.inr (by unfold verbR; rw [HU.out]; simp only; rw [h]));clear HSVX HSV;generalize p.sub (f + 2) (f + 2 + l) = sv at *;have bq : (p.g (f + 2 + l) != 41) = false := by simp [hc]
    go_wp2_with fail
    go_loopw [6, 7, 8, 9] (fun v6 v7 v8 vk wr => VcRel w B S sv p (f + 2) v6 v7 v8 vk wr) (fun _ _ _ vk _ => sv.size - (intOf vk).toNat)
    case atStart => exact ⟨0, by omega, xH (fun j h => absurd h (Nat.not_lt_zero j)), by rw [hxt], rfl, rfl, rfl, F4.out⟩
    case round =>
     obtain ⟨k, hk, hd2, rfl, rfl, rfl, rfl, hF⟩ := hrel;have F8 := xH hF;clear hF c0 c1 c2 c3;obtain ⟨c0, c1, c2, c3⟩ := F8.out.c;by_cases hlt2 : k < sv.size
     ·obtain ⟨b0, b1⟩ := jS HP.out (f + 2 + k);have hgs : ((sv[k]'hlt2).toNat : Int) = p.g (f + 2 + k) := by have := HSB.out k hlt2; simpa using this
      by_cases hc : p.g (f + 2 + k) = 58
      ·have bc : (p.g (f + 2 + k) == 58) = true := by simp [hc]
       have HZ := xH (show verbR p f = verbG f (f + 2 + l) (p.sub (f + 2) (f + 2 + k)) (p.sub (f + 2 + k + 1) (f + 2 + l)) true by unfold verbR; rw [HU.out]; simp only; rw [find_at2 (l := k) (by omega) hd2.out hc]);have hx1 : sv.extract 0 k = p.sub (f + 2) (f + 2 + k) := HX1.out k hlt2;have hx2 : sv.extract (k + 1) sv.size = p.sub (f + 2 + k + 1) (f + 2 + l) := HX2.out k hlt2;have hx3 := hx2;rw [hsz] at hx3;clear hc;generalize p.sub (f + 2) (f + 2 + k) = wd at *;generalize p.sub (f + 2 + k + 1) (f + 2 + l) = arg at *;by_cases e0 : wd = ⟨#[65, 67, 67, 69, 80, 84]⟩
       ·have hv : verbV wd = 1 := by unfold verbV; rw [if_pos e0]
        have b0 := jR (l := [65, 67, 67, 69, 80, 84]) e0;clear e0;exact z23
       by_cases e1 : wd = ⟨#[70, 65, 73, 76]⟩
       ·have hv : verbV wd = 2 := by unfold verbV; rw [if_neg e0, if_pos e1]
        have b0 := qy (l := [65, 67, 67, 69, 80, 84]) e0;have b1 := jR (l := [70, 65, 73, 76]) e1;clear e0 e1;exact z23
       by_cases e2 : wd = ⟨#[70]⟩
       ·have hv : verbV wd = 2 := by unfold verbV; rw [if_neg e0, if_neg e1, if_pos e2]
        have b0 := qy (l := [65, 67, 67, 69, 80, 84]) e0;have b1 := qy (l := [70, 65, 73, 76]) e1;have b2 := jR (l := [70]) e2;clear e0 e1 e2;exact z23
       by_cases e3 : wd = ⟨#[67, 79, 77, 77, 73, 84]⟩
       ·have hv : verbV wd = 3 := by unfold verbV; rw [if_neg e0, if_neg e1, if_neg e2, if_pos e3]
        have b0 := qy (l := [65, 67, 67, 69, 80, 84]) e0;have b1 := qy (l := [70, 65, 73, 76]) e1;have b2 := qy (l := [70]) e2;have b3 := jR (l := [67, 79, 77, 77, 73, 84]) e3;clear e0 e1 e2 e3;by_cases ha : arg = ⟨#[]⟩
        ·have HR := xH (HZ.out.trans (show _ = Except.error (28, (f : Int)) by unfold verbG; rw [if_pos (by simp [ha])]));exact z60
        ·have HR := xH (HZ.out.trans (show _ = gtok { kind := 13, n := 3, name := arg } f (f + 2 + l + 1) by unfold verbG; rw [if_neg (by simp [hv, ha]), hv]));have ba := qy (l := []) ha;have bb := emp_n ha;clear ha;go_wp2_with fail
         refine xM (qF (.slice none 0 0) ({ kind := 13, n := 3, name := arg }) (f) (f + 2 + l + 1) _ (k := B) (qm _ _)) ?_;exact z76
       by_cases e4 : wd = ⟨#[80, 82, 85, 78, 69]⟩
       ·have hv : verbV wd = 4 := by unfold verbV; rw [if_neg e0, if_neg e1, if_neg e2, if_neg e3, if_pos e4]
        have b0 := qy (l := [65, 67, 67, 69, 80, 84]) e0;have b1 := qy (l := [70, 65, 73, 76]) e1;have b2 := qy (l := [70]) e2;have b3 := qy (l := [67, 79, 77, 77, 73, 84]) e3;have b4 := jR (l := [80, 82, 85, 78, 69]) e4;clear e0 e1 e2 e3 e4;by_cases ha : arg = ⟨#[]⟩
        ·have HR := xH (HZ.out.trans (show _ = Except.error (28, (f : Int)) by unfold verbG; rw [if_pos (by simp [ha])]));exact z60
        ·have HR := xH (HZ.out.trans (show _ = gtok { kind := 13, n := 4, name := arg } f (f + 2 + l + 1) by unfold verbG; rw [if_neg (by simp [hv, ha]), hv]));have ba := qy (l := []) ha;have bb := emp_n ha;clear ha;go_wp2_with fail
         refine xM (qF (.slice none 0 0) ({ kind := 13, n := 4, name := arg }) (f) (f + 2 + l + 1) _ (k := B) (qm _ _)) ?_;exact z76
       by_cases e5 : wd = ⟨#[83, 75, 73, 80]⟩
       ·have hv : verbV wd = 5 := by unfold verbV; rw [if_neg e0, if_neg e1, if_neg e2, if_neg e3, if_neg e4, if_pos e5]
        have b0 := qy (l := [65, 67, 67, 69, 80, 84]) e0;have b1 := qy (l := [70, 65, 73, 76]) e1;have b2 := qy (l := [70]) e2;have b3 := qy (l := [67, 79, 77, 77, 73, 84]) e3;have b4 := qy (l := [80, 82, 85, 78, 69]) e4;have b5 := jR (l := [83, 75, 73, 80]) e5;clear e0 e1 e2 e3 e4 e5;by_cases ha : arg = ⟨#[]⟩
        ·have HR := xH (HZ.out.trans (show _ = Except.error (28, (f : Int)) by unfold verbG; rw [if_pos (by simp [ha])]));exact z60
        ·have HR := xH (HZ.out.trans (show _ = gtok { kind := 13, n := 5, name := arg } f (f + 2 + l + 1) by unfold verbG; rw [if_neg (by simp [hv, ha]), hv]));have ba := qy (l := []) ha;have bb := emp_n ha;clear ha;go_wp2_with fail
         refine xM (qF (.slice none 0 0) ({ kind := 13, n := 5, name := arg }) (f) (f + 2 + l + 1) _ (k := B) (qm _ _)) ?_;exact z76
       by_cases e6 : wd = ⟨#[84, 72, 69, 78]⟩
       ·have hv : verbV wd = 6 := by unfold verbV; rw [if_neg e0, if_neg e1, if_neg e2, if_neg e3, if_neg e4, if_neg e5, if_pos e6]
        have b0 := qy (l := [65, 67, 67, 69, 80, 84]) e0;have b1 := qy (l := [70, 65, 73, 76]) e1;have b2 := qy (l := [70]) e2;have b3 := qy (l := [67, 79, 77, 77, 73, 84]) e3;have b4 := qy (l := [80, 82, 85, 78, 69]) e4;have b5 := qy (l := [83, 75, 73, 80]) e5;have b6 := jR (l := [84, 72, 69, 78]) e6;clear e0 e1 e2 e3 e4 e5 e6;by_cases ha : arg = ⟨#[]⟩
        ·have HR := xH (HZ.out.trans (show _ = Except.error (28, (f : Int)) by unfold verbG; rw [if_pos (by simp [ha])]));exact z60
        ·have HR := xH (HZ.out.trans (show _ = gtok { kind := 13, n := 6, name := arg } f (f + 2 + l + 1) by unfold verbG; rw [if_neg (by simp [hv, ha]), hv]));have ba := qy (l := []) ha;have bb := emp_n ha;clear ha;go_wp2_with fail
         refine xM (qF (.slice none 0 0) ({ kind := 13, n := 6, name := arg }) (f) (f + 2 + l + 1) _ (k := B) (qm _ _)) ?_;exact z76
       by_cases e7 : wd = ⟨#[77, 65, 82, 75]⟩
       ·have hv : verbV wd = 7 := by unfold verbV; rw [if_neg e0, if_neg e1, if_neg e2, if_neg e3, if_neg e4, if_neg e5, if_neg e6, if_pos e7]
        have b0 := qy (l := [65, 67, 67, 69, 80, 84]) e0;have b1 := qy (l := [70, 65, 73, 76]) e1;have b2 := qy (l := [70]) e2;have b3 := qy (l := [67, 79, 77, 77, 73, 84]) e3;have b4 := qy (l := [80, 82, 85, 78, 69]) e4;have b5 := qy (l := [83, 75, 73, 80]) e5;have b6 := qy (l := [84, 72, 69, 78]) e6;have b7 := jR (l := [77, 65, 82, 75]) e7;clear e0 e1 e2 e3 e4 e5 e6 e7;exact z18
       by_cases e8 : wd = ⟨#[]⟩
       ·have hv : verbV wd = 7 := by unfold verbV; rw [if_neg e0, if_neg e1, if_neg e2, if_neg e3, if_neg e4, if_neg e5, if_neg e6, if_neg e7, if_pos e8]
        have b0 := qy (l := [65, 67, 67, 69, 80, 84]) e0;have b1 := qy (l := [70, 65, 73, 76]) e1;have b2 := qy (l := [70]) e2;have b3 := qy (l := [67, 79, 77, 77, 73, 84]) e3;have b4 := qy (l := [80, 82, 85, 78, 69]) e4;have b5 := qy (l := [83, 75, 73, 80]) e5;have b6 := qy (l := [84, 72, 69, 78]) e6;have b7 := qy (l := [77, 65, 82, 75]) e7;have b8 := jR (l := []) e8;have bz := emp_y e8;clear e0 e1 e2 e3 e4 e5 e6 e7 e8;exact z18
       have hv : verbV wd = 0 := by unfold verbV; rw [if_neg e0, if_neg e1, if_neg e2, if_neg e3, if_neg e4, if_neg e5, if_neg e6, if_neg e7, if_neg e8]
       have b0 := qy (l := [65, 67, 67, 69, 80, 84]) e0;have b1 := qy (l := [70, 65, 73, 76]) e1;have b2 := qy (l := [70]) e2;have b3 := qy (l := [67, 79, 77, 77, 73, 84]) e3;have b4 := qy (l := [80, 82, 85, 78, 69]) e4;have b5 := qy (l := [83, 75, 73, 80]) e5;have b6 := qy (l := [84, 72, 69, 78]) e6;have b7 := qy (l := [77, 65, 82, 75]) e7;have b8 := qy (l := []) e8;have bz := emp_n e8;clear e0 e1 e2 e3 e4 e5 e6 e7 e8;exact z23
      ·have bc : (p.g (f + 2 + k) == 58) = false := by simp [hc]
       go_wp2_with fail
       exact ⟨⟨k + 1, by omega, xH (fun j hj => by
        by_cases e : j = k
        ·subst e; exact hc
        ·exact hd2.out j (by omega)), rfl, rfl, rfl, rfl, F8.out⟩, by simp [intOf]; omega⟩
     ·obtain rfl : k = sv.size := by omega
      have HZ := xH (show verbR p f = verbG f (f + 2 + l) sv ⟨#[]⟩ false by rcases HVS.out false (find_no2 (fun j hj => hd2.out j (by omega))) with h | h <;> exact h);clear hlt2;by_cases e0 : sv = ⟨#[65, 67, 67, 69, 80, 84]⟩
      ·have hv : verbV sv = 1 := by unfold verbV; rw [if_pos e0]
       have b0 := jR (l := [65, 67, 67, 69, 80, 84]) e0;clear e0;have HR := xH (HZ.out.trans (show _ = gtok { kind := 13, n := 1, name := ⟨#[]⟩ } f (f + 2 + l + 1) by unfold verbG; rw [if_neg (by simp [hv]), hv]));go_wp2_with fail
       refine xM (qF (.slice none 0 0) ({ kind := 13, n := 1, name := ⟨#[]⟩ }) (f) (f + 2 + l + 1) _ (k := B) (qm _ _)) ?_;exact z76
      by_cases e1 : sv = ⟨#[70, 65, 73, 76]⟩
      ·have hv : verbV sv = 2 := by unfold verbV; rw [if_neg e0, if_pos e1]
       have b0 := qy (l := [65, 67, 67, 69, 80, 84]) e0;have b1 := jR (l := [70, 65, 73, 76]) e1;clear e0 e1;exact z30
      by_cases e2 : sv = ⟨#[70]⟩
      ·have hv : verbV sv = 2 := by unfold verbV; rw [if_neg e0, if_neg e1, if_pos e2]
       have b0 := qy (l := [65, 67, 67, 69, 80, 84]) e0;have b1 := qy (l := [70, 65, 73, 76]) e1;have b2 := jR (l := [70]) e2;clear e0 e1 e2;exact z30
      by_cases e3 : sv = ⟨#[67, 79, 77, 77, 73, 84]⟩
      ·have hv : verbV sv = 3 := by unfold verbV; rw [if_neg e0, if_neg e1, if_neg e2, if_pos e3]
       have b0 := qy (l := [65, 67, 67, 69, 80, 84]) e0;have b1 := qy (l := [70, 65, 73, 76]) e1;have b2 := qy (l := [70]) e2;have b3 := jR (l := [67, 79, 77, 77, 73, 84]) e3;clear e0 e1 e2 e3;have HR := xH (HZ.out.trans (show _ = gtok { kind := 13, n := 3, name := ⟨#[]⟩ } f (f + 2 + l + 1) by unfold verbG; rw [if_neg (by simp [hv]), hv]));go_wp2_with fail
       refine xM (qF (.slice none 0 0) ({ kind := 13, n := 3, name := ⟨#[]⟩ }) (f) (f + 2 + l + 1) _ (k := B) (qm _ _)) ?_;exact z76
      by_cases e4 : sv = ⟨#[80, 82, 85, 78, 69]⟩
      ·have hv : verbV sv = 4 := by unfold verbV; rw [if_neg e0, if_neg e1, if_neg e2, if_neg e3, if_pos e4]
       have b0 := qy (l := [65, 67, 67, 69, 80, 84]) e0;have b1 := qy (l := [70, 65, 73, 76]) e1;have b2 := qy (l := [70]) e2;have b3 := qy (l := [67, 79, 77, 77, 73, 84]) e3;have b4 := jR (l := [80, 82, 85, 78, 69]) e4;clear e0 e1 e2 e3 e4;have HR := xH (HZ.out.trans (show _ = gtok { kind := 13, n := 4, name := ⟨#[]⟩ } f (f + 2 + l + 1) by unfold verbG; rw [if_neg (by simp [hv]), hv]));go_wp2_with fail
       refine xM (qF (.slice none 0 0) ({ kind := 13, n := 4, name := ⟨#[]⟩ }) (f) (f + 2 + l + 1) _ (k := B) (qm _ _)) ?_;exact z76
      by_cases e5 : sv = ⟨#[83, 75, 73, 80]⟩
      ·have hv : verbV sv = 5 := by unfold verbV; rw [if_neg e0, if_neg e1, if_neg e2, if_neg e3, if_neg e4, if_pos e5]
       have b0 := qy (l := [65, 67, 67, 69, 80, 84]) e0;have b1 := qy (l := [70, 65, 73, 76]) e1;have b2 := qy (l := [70]) e2;have b3 := qy (l := [67, 79, 77, 77, 73, 84]) e3;have b4 := qy (l := [80, 82, 85, 78, 69]) e4;have b5 := jR (l := [83, 75, 73, 80]) e5;clear e0 e1 e2 e3 e4 e5;have HR := xH (HZ.out.trans (show _ = gtok { kind := 13, n := 5, name := ⟨#[]⟩ } f (f + 2 + l + 1) by unfold verbG; rw [if_neg (by simp [hv]), hv]));go_wp2_with fail
       refine xM (qF (.slice none 0 0) ({ kind := 13, n := 5, name := ⟨#[]⟩ }) (f) (f + 2 + l + 1) _ (k := B) (qm _ _)) ?_;exact z76
      by_cases e6 : sv = ⟨#[84, 72, 69, 78]⟩
      ·have hv : verbV sv = 6 := by unfold verbV; rw [if_neg e0, if_neg e1, if_neg e2, if_neg e3, if_neg e4, if_neg e5, if_pos e6]
       have b0 := qy (l := [65, 67, 67, 69, 80, 84]) e0;have b1 := qy (l := [70, 65, 73, 76]) e1;have b2 := qy (l := [70]) e2;have b3 := qy (l := [67, 79, 77, 77, 73, 84]) e3;have b4 := qy (l := [80, 82, 85, 78, 69]) e4;have b5 := qy (l := [83, 75, 73, 80]) e5;have b6 := jR (l := [84, 72, 69, 78]) e6;clear e0 e1 e2 e3 e4 e5 e6;have HR := xH (HZ.out.trans (show _ = gtok { kind := 13, n := 6, name := ⟨#[]⟩ } f (f + 2 + l + 1) by unfold verbG; rw [if_neg (by simp [hv]), hv]));go_wp2_with fail
       refine xM (qF (.slice none 0 0) ({ kind := 13, n := 6, name := ⟨#[]⟩ }) (f) (f + 2 + l + 1) _ (k := B) (qm _ _)) ?_;exact z76
      by_cases e7 : sv = ⟨#[77, 65, 82, 75]⟩
      ·have hv : verbV sv = 7 := by unfold verbV; rw [if_neg e0, if_neg e1, if_neg e2, if_neg e3, if_neg e4, if_neg e5, if_neg e6, if_pos e7]
       have b0 := qy (l := [65, 67, 67, 69, 80, 84]) e0;have b1 := qy (l := [70, 65, 73, 76]) e1;have b2 := qy (l := [70]) e2;have b3 := qy (l := [67, 79, 77, 77, 73, 84]) e3;have b4 := qy (l := [80, 82, 85, 78, 69]) e4;have b5 := qy (l := [83, 75, 73, 80]) e5;have b6 := qy (l := [84, 72, 69, 78]) e6;have b7 := jR (l := [77, 65, 82, 75]) e7;clear e0 e1 e2 e3 e4 e5 e6 e7;have HR := xH (HZ.out.trans (show _ = Except.error (28, (f : Int)) by unfold verbG; rw [if_pos (by simp [hv])]));exact z90
      by_cases e8 : sv = ⟨#[]⟩
      ·have hv : verbV sv = 7 := by unfold verbV; rw [if_neg e0, if_neg e1, if_neg e2, if_neg e3, if_neg e4, if_neg e5, if_neg e6, if_neg e7, if_pos e8]
       have b0 := qy (l := [65, 67, 67, 69, 80, 84]) e0;have b1 := qy (l := [70, 65, 73, 76]) e1;have b2 := qy (l := [70]) e2;have b3 := qy (l := [67, 79, 77, 77, 73, 84]) e3;have b4 := qy (l := [80, 82, 85, 78, 69]) e4;have b5 := qy (l := [83, 75, 73, 80]) e5;have b6 := qy (l := [84, 72, 69, 78]) e6;have b7 := qy (l := [77, 65, 82, 75]) e7;have b8 := jR (l := []) e8;have bz := emp_y e8;exact z45
      have hv : verbV sv = 0 := by unfold verbV; rw [if_neg e0, if_neg e1, if_neg e2, if_neg e3, if_neg e4, if_neg e5, if_neg e6, if_neg e7, if_neg e8]
      have b0 := qy (l := [65, 67, 67, 69, 80, 84]) e0;have b1 := qy (l := [70, 65, 73, 76]) e1;have b2 := qy (l := [70]) e2;have b3 := qy (l := [67, 79, 77, 77, 73, 84]) e3;have b4 := qy (l := [80, 82, 85, 78, 69]) e4;have b5 := qy (l := [83, 75, 73, 80]) e5;have b6 := qy (l := [84, 72, 69, 78]) e6;have b7 := qy (l := [77, 65, 82, 75]) e7;have b8 := qy (l := []) e8;have bz := emp_n e8;exact z45
   ·go_wp2_with fail
    exact ⟨⟨l + 1, by omega, xH (fun j hj => by
     by_cases e : j = l
     ·subst e; exact hc
     ·exact hd.out j (by omega)), rfl, F4.out⟩, by simp only [intOf]; omega⟩
  ·have HU := xH (show p.until 41 (f + 2) = none by unfold Pt.until; exact find_no2 (fun j hj => hd.out j (by have := HN.out; omega)));have HR := xH (show verbR p f = .error (20, (p.n : Int)) by unfold verbR; rw [HU.out]);exact z83
end rtw
end
end Go.Proofs.YtikjhfmmfpeaoaaGreatDoor
