/- T -/
import Derived.Test.YtdgfclbajjjcgaaBWb10
set_option maxHeartbeats 16000000
set_option maxRecDepth 1000000
namespace Go.Proofs.Ytdgfclbajjjcgaa
section
namespace rtw
open sq
open Go Go.RowKit Go.Maps utfp utfw ucdp setp setw prp tkp rtp
open tkw (sg sg_bd vJ jM qK tkR qO qM vI)
theorem bits_or {x y : Nat} (hx : x < 32) (hy : y < 32) : bits BinOp.or IntKind.i64 (x : Int) (y : Int) = ((x ||| y : Nat) : Int) := by
 have h : ((List.range 32).all fun x => (List.range 32).all fun y => decide (bits BinOp.or IntKind.i64 (x : Int) (y : Int) = ((x ||| y : Nat) : Int))) = true := by decide +kernel
 have h2 := List.all_eq_true.1 (List.all_eq_true.1 h x (List.mem_range.2 hx)) y (List.mem_range.2 hy);exact of_decide_eq_true h2
theorem FG.poke {w W W' : World} {B : Nat} {S : ByteArray} {p : Pt} (h : FG w B S p W) (hb : Below (B + 2) W W') : FG w B S p W' :=
 ⟨⟨h.hB, h.below.trans (hb.mono (by omega)), h.x.below hb (by omega)⟩, by obtain ⟨old, h1, h2⟩ := h.g; exact ⟨old, (hb.block _ (by omega)).trans h1, h2⟩⟩
def FlRel (w : World) (B g : Nat) (S : ByteArray) (p : Pt) (f i : Nat) (vi vo : Value) (wr : World) : Prop :=
 ∃ (k : Nat) (off : Bool) (on of_ : Nat), k ≤ S.size ∧ on < 32 ∧ of_ < 32 ∧ vi = .int .i64 k ∧ vo = .bool off ∧ Hid (flagR p f (p.n + 1 - k) k off on of_ = flagR p f (p.n + 1 - i) i false 0 0) ∧ FG w B S p wr ∧ Hid (wr.heap[g]? = some (.cells (tkR (.slice none 0 0) { kind := 15, on := on, off := of_ }) 90 (0, 0)))
theorem flags_any (S : ByteArray) (p : Pt) (w : World) (hP : Pat S p) (f i : Nat) (hi : i ≤ p.n) : Calls Try.prog 106 #[txV S p, .int .i64 f, .int .i64 i] w (GotB w (flagR p f (p.n + 1 - i) i false 0 0)) := by
 have hn := hP.n;have h2 := hP.le;have HP := xH hP;have HN := xH hn;clear hP;rw [hn] at hi;clear hn;unfold txV txC;go_enter Try.func106, Try.ntmps106;go_upto_region 1 with (fail)
 generalize hW : (w.alloc _).alloc _ = W;have F0 := xH (fg_start (S := S) (p := p) hW);obtain ⟨B, hB⟩ : ∃ B, w.heap.size = B := ⟨_, rfl⟩;rw [hB] at F0 ⊢;clear hW hB;obtain ⟨c0, c1, c2, c3⟩ := F0.out.c;obtain ⟨old0, hg0, _⟩ := F0.out.g;have hlt0 := zi hg0;clear hg0;go_wp2_with fail
 have hbw := qK W tkw.ob00;have hgn := heap_alloc_new W (.cells #[.int .i64 15, .int .i64 0, .int .i64 0, .int .i64 0, .slice none 0 0, .bool false, .int .i64 0, .int .i64 0, .int .i64 0, .string ⟨#[]⟩, .int .i64 0, .int .i64 0] 90);generalize W.alloc (.cells #[.int .i64 15, .int .i64 0, .int .i64 0, .int .i64 0, .slice none 0 0, .bool false, .int .i64 0, .int .i64 0, .int .i64 0, .string ⟨#[]⟩, .int .i64 0, .int .i64 0] 90) = w0 at *;obtain ⟨g, hg⟩ : ∃ g, W.heap.size = g := ⟨_, rfl⟩;rw [hg] at hgn hlt0 ⊢;have HT0 : Hid (w0.heap[g]? = some (.cells (tkR (.slice none 0 0) { kind := 15 }) 90 (0, 0))) := xH hgn;have F1 := xH (F0.out.step hbw);have hBg : B + 2 ≤ g := hlt0;clear hbw hgn hg c0 c1 c2 c3 hlt0
 go_loopw [2, 8] (fun vi vo wr => FlRel w B g S p f i vi vo wr) (fun vi _ _ => S.size - (intOf vi).toNat)
 case atStart => exact ⟨i, false, 0, 0, by omega, by decide, by decide, rfl, rfl, xH rfl, F1.out, HT0⟩
 case round =>
  obtain ⟨k, off, on, of_, hk, h1, h3, rfl, rfl, hfl, hF, HT⟩ := hrel;have F4 := xH hF;clear hF;obtain ⟨c0, c1, c2, c3⟩ := F4.out.c;obtain ⟨m, hm⟩ : ∃ m, p.n + 1 - k = m + 1 := ⟨p.n - k, by have := HN.out; omega⟩;rw [hm] at hfl;by_cases hlt : k < S.size
  ·have HS := xH ((Eq.symm hfl.out).trans (show _ = _ by rw [flagR, if_neg (by rw [HN.out]; omega)]));obtain ⟨b0, b1⟩ := jS HP.out k;have hgb := gb HP.out;clear hfl;by_cases e41 : p.g k = 41
   ·have b41 : (p.g k == 41) = true := by simp [e41]
    have HR := xH (HS.out.trans (show _ = gtok { kind := 15, on := on, off := of_ } f (k + 1) by rw [if_pos e41]));go_wp2_with (refine tkw.qX rfl _ rfl g rfl _ HT.out rfl ?_)
    refine xM (qF (.slice none 0 0) ({ kind := 15, on := on, off := of_ }) (f) (k + 1) _ (k := B) (qm _ _)) ?_;exact z67
   by_cases e58 : p.g k = 58
   ·have b41 : (p.g k == 41) = false := by simp [e41]
    have b58 : (p.g k == 58) = true := by simp [e58]
    have HR := xH (HS.out.trans (show _ = gtok { kind := 10, n := 2, on := on, off := of_ } f (k + 1) by rw [if_neg e41, if_pos e58]));have ct0 : wr.cell? ⟨g, 0, none⟩ = some (.int .i64 15) := by simp [World.cell?, HT.out, tkR]
    have cf0 : wr.frozen? ⟨g, 0, none⟩ = false := by simp [World.frozen?, HT.out]
    have ct6 : wr.cell? ⟨g, 6, none⟩ = some (.int .i64 0) := by simp [World.cell?, HT.out, tkR]
    have cf6 : wr.frozen? ⟨g, 6, none⟩ = false := by simp [World.frozen?, HT.out]
    have hb := (((Below.refl _ wr).setCell (p := ⟨g, 0, none⟩) hBg (.int .i64 10)).setCell (p := ⟨g, 6, none⟩) hBg (.int .i64 2));have F5 := xH (F4.out.poke hb);have HT5 : Hid (((wr.setCell ⟨g, 0, none⟩ (.int .i64 10)).setCell ⟨g, 6, none⟩ (.int .i64 2)).heap[g]? = some (.cells (tkR (.slice none 0 0) { kind := 10, n := 2, on := on, off := of_ }) 90 (0, 0))) := xH ((tkw.heap_set (o := 6) (v := .int .i64 2) (tkw.heap_set (o := 0) (v := .int .i64 10) HT.out)));clear hb;go_wp2_with (refine tkw.qX rfl _ rfl g rfl _ HT5.out rfl ?_)
    refine xM (qF (.slice none 0 0) ({ kind := 10, n := 2, on := on, off := of_ }) (f) (k + 1) _ (k := B) (qm _ _)) ?_;exact z68
   by_cases e45 : p.g k = 45
   ·have b41 : (p.g k == 41) = false := by simp [e41]
    have b58 : (p.g k == 58) = false := by simp [e58]
    have b45 : (p.g k == 45) = true := by simp [e45]
    cases off with
    | true =>
     have HR := xH (HS.out.trans (show _ = .error (26, (f : Int)) by rw [if_neg e41, if_neg e58, if_pos e45, if_pos rfl]));exact z83
    | false =>
     have HR : flagR p f (p.n + 1 - (k + 1)) (k + 1) true on of_ = _ := Eq.symm (HS.out.trans (show _ = flagR p f m (k + 1) true on of_ by rw [if_neg e41, if_neg e58, if_pos e45, if_neg (by simp)]) |>.trans (by rw [show p.n + 1 - (k + 1) = m by omega]));have ct11 : wr.cell? ⟨g, 11, none⟩ = some (.int .i64 (of_ : Nat)) := by simp [World.cell?, HT.out, tkR]
     have cf11 : wr.frozen? ⟨g, 11, none⟩ = false := by simp [World.frozen?, HT.out]
     have hor : bits BinOp.or IntKind.i64 (of_ : Int) 0 = (of_ : Int) := (bits_or (y := 0) h3 (by decide)).trans (by rw [Nat.or_zero]);have hb := ((Below.refl _ wr).setCell (p := ⟨g, 11, none⟩) hBg (.int .i64 (of_ : Nat)));have HT5 : Hid ((wr.setCell ⟨g, 11, none⟩ (.int .i64 (of_ : Nat))).heap[g]? = some (.cells (tkR (.slice none 0 0) { kind := 15, on := (on : Nat), off := (of_ : Nat) }) 90 (0, 0))) := xH ((tkw.heap_set (o := 11) (v := .int .i64 (of_ : Nat)) HT.out));go_wp2_with fail
     try rw [hor]
     exact ⟨⟨k + 1, true, on, of_, by omega, h1, h3, rfl, rfl, xH HR, F4.out.poke hb, HT5⟩, by simp [intOf]; omega⟩
   by_cases e105 : p.g k = 105
   ·have b41 : (p.g k == 41) = false := by simp [e41]
    have b58 : (p.g k == 58) = false := by simp [e58]
    have b45 : (p.g k == 45) = false := by simp [e45]
    have b105 : (p.g k == 105) = true := by simp [e105]
    have ho : optV (p.g k) = 1 := by simp [optV, e105]
    cases off with
    | true =>
     have HR : flagR p f (p.n + 1 - (k + 1)) (k + 1) true on ((of_ ||| 1 : Nat) : Int) = _ := Eq.symm (HS.out.trans (show _ = flagR p f m (k + 1) true on ((of_ ||| 1 : Nat) : Int) by rw [if_neg e41, if_neg e58, if_neg e45, if_pos (by simp [isOpt, ho]), if_pos rfl, ho, Int.toNat_natCast]) |>.trans (by rw [show p.n + 1 - (k + 1) = m by omega]));have ct11 : wr.cell? ⟨g, 11, none⟩ = some (.int .i64 (of_ : Nat)) := by simp [World.cell?, HT.out, tkR]
     have cf11 : wr.frozen? ⟨g, 11, none⟩ = false := by simp [World.frozen?, HT.out]
     have hor : bits BinOp.or IntKind.i64 (of_ : Int) 1 = ((of_ ||| 1 : Nat) : Int) := bits_or (y := 1) h3 (by decide);have hb := ((Below.refl _ wr).setCell (p := ⟨g, 11, none⟩) hBg (.int .i64 ((of_ ||| 1 : Nat) : Int)));have HT5 : Hid ((wr.setCell ⟨g, 11, none⟩ (.int .i64 ((of_ ||| 1 : Nat) : Int))).heap[g]? = some (.cells (tkR (.slice none 0 0) { kind := 15, on := (on : Nat), off := ((of_ ||| 1) : Nat) }) 90 (0, 0))) := xH ((tkw.heap_set (o := 11) (v := .int .i64 ((of_ ||| 1 : Nat) : Int)) HT.out));go_wp2_with fail
     try rw [hor]
     exact ⟨⟨k + 1, true, on, (of_ ||| 1), by omega, h1, Nat.or_lt_two_pow (n := 5) h3 (by decide), rfl, rfl, xH HR, F4.out.poke hb, HT5⟩, by simp [intOf]; omega⟩
    | false =>
     have HR : flagR p f (p.n + 1 - (k + 1)) (k + 1) false ((on ||| 1 : Nat) : Int) of_ = _ := Eq.symm (HS.out.trans (show _ = flagR p f m (k + 1) false ((on ||| 1 : Nat) : Int) of_ by rw [if_neg e41, if_neg e58, if_neg e45, if_pos (by simp [isOpt, ho]), if_neg (by simp), ho, Int.toNat_natCast]) |>.trans (by rw [show p.n + 1 - (k + 1) = m by omega]));have ct10 : wr.cell? ⟨g, 10, none⟩ = some (.int .i64 (on : Nat)) := by simp [World.cell?, HT.out, tkR]
     have cf10 : wr.frozen? ⟨g, 10, none⟩ = false := by simp [World.frozen?, HT.out]
     have hor : bits BinOp.or IntKind.i64 (on : Int) 1 = ((on ||| 1 : Nat) : Int) := bits_or (y := 1) h1 (by decide);have hb := ((Below.refl _ wr).setCell (p := ⟨g, 10, none⟩) hBg (.int .i64 ((on ||| 1 : Nat) : Int)));have HT5 : Hid ((wr.setCell ⟨g, 10, none⟩ (.int .i64 ((on ||| 1 : Nat) : Int))).heap[g]? = some (.cells (tkR (.slice none 0 0) { kind := 15, on := ((on ||| 1) : Nat), off := (of_ : Nat) }) 90 (0, 0))) := xH ((tkw.heap_set (o := 10) (v := .int .i64 ((on ||| 1 : Nat) : Int)) HT.out));go_wp2_with fail
     try rw [hor]
     exact ⟨⟨k + 1, false, (on ||| 1), of_, by omega, Nat.or_lt_two_pow (n := 5) h1 (by decide), h3, rfl, rfl, xH HR, F4.out.poke hb, HT5⟩, by simp [intOf]; omega⟩
   by_cases e109 : p.g k = 109
   ·have b41 : (p.g k == 41) = false := by simp [e41]
    have b58 : (p.g k == 58) = false := by simp [e58]
    have b45 : (p.g k == 45) = false := by simp [e45]
    have b105 : (p.g k == 105) = false := by simp [e105]
    have b109 : (p.g k == 109) = true := by simp [e109]
    have ho : optV (p.g k) = 2 := by simp [optV, e109]
    cases off with
    | true =>
     have HR : flagR p f (p.n + 1 - (k + 1)) (k + 1) true on ((of_ ||| 2 : Nat) : Int) = _ := Eq.symm (HS.out.trans (show _ = flagR p f m (k + 1) true on ((of_ ||| 2 : Nat) : Int) by rw [if_neg e41, if_neg e58, if_neg e45, if_pos (by simp [isOpt, ho]), if_pos rfl, ho, Int.toNat_natCast]) |>.trans (by rw [show p.n + 1 - (k + 1) = m by omega]));have ct11 : wr.cell? ⟨g, 11, none⟩ = some (.int .i64 (of_ : Nat)) := by simp [World.cell?, HT.out, tkR]
     have cf11 : wr.frozen? ⟨g, 11, none⟩ = false := by simp [World.frozen?, HT.out]
     have hor : bits BinOp.or IntKind.i64 (of_ : Int) 2 = ((of_ ||| 2 : Nat) : Int) := bits_or (y := 2) h3 (by decide);have hb := ((Below.refl _ wr).setCell (p := ⟨g, 11, none⟩) hBg (.int .i64 ((of_ ||| 2 : Nat) : Int)));have HT5 : Hid ((wr.setCell ⟨g, 11, none⟩ (.int .i64 ((of_ ||| 2 : Nat) : Int))).heap[g]? = some (.cells (tkR (.slice none 0 0) { kind := 15, on := (on : Nat), off := ((of_ ||| 2) : Nat) }) 90 (0, 0))) := xH ((tkw.heap_set (o := 11) (v := .int .i64 ((of_ ||| 2 : Nat) : Int)) HT.out));go_wp2_with fail
     try rw [hor]
     exact ⟨⟨k + 1, true, on, (of_ ||| 2), by omega, h1, Nat.or_lt_two_pow (n := 5) h3 (by decide), rfl, rfl, xH HR, F4.out.poke hb, HT5⟩, by simp [intOf]; omega⟩
    | false =>
     have HR : flagR p f (p.n + 1 - (k + 1)) (k + 1) false ((on ||| 2 : Nat) : Int) of_ = _ := Eq.symm (HS.out.trans (show _ = flagR p f m (k + 1) false ((on ||| 2 : Nat) : Int) of_ by rw [if_neg e41, if_neg e58, if_neg e45, if_pos (by simp [isOpt, ho]), if_neg (by simp), ho, Int.toNat_natCast]) |>.trans (by rw [show p.n + 1 - (k + 1) = m by omega]));have ct10 : wr.cell? ⟨g, 10, none⟩ = some (.int .i64 (on : Nat)) := by simp [World.cell?, HT.out, tkR]
     have cf10 : wr.frozen? ⟨g, 10, none⟩ = false := by simp [World.frozen?, HT.out]
     have hor : bits BinOp.or IntKind.i64 (on : Int) 2 = ((on ||| 2 : Nat) : Int) := bits_or (y := 2) h1 (by decide);have hb := ((Below.refl _ wr).setCell (p := ⟨g, 10, none⟩) hBg (.int .i64 ((on ||| 2 : Nat) : Int)));have HT5 : Hid ((wr.setCell ⟨g, 10, none⟩ (.int .i64 ((on ||| 2 : Nat) : Int))).heap[g]? = some (.cells (tkR (.slice none 0 0) { kind := 15, on := ((on ||| 2) : Nat), off := (of_ : Nat) }) 90 (0, 0))) := xH ((tkw.heap_set (o := 10) (v := .int .i64 ((on ||| 2 : Nat) : Int)) HT.out));go_wp2_with fail
     try rw [hor]
     exact ⟨⟨k + 1, false, (on ||| 2), of_, by omega, Nat.or_lt_two_pow (n := 5) h1 (by decide), h3, rfl, rfl, xH HR, F4.out.poke hb, HT5⟩, by simp [intOf]; omega⟩
   by_cases e115 : p.g k = 115
   ·have b41 : (p.g k == 41) = false := by simp [e41]
    have b58 : (p.g k == 58) = false := by simp [e58]
    have b45 : (p.g k == 45) = false := by simp [e45]
    have b105 : (p.g k == 105) = false := by simp [e105]
    have b109 : (p.g k == 109) = false := by simp [e109]
    have b115 : (p.g k == 115) = true := by simp [e115]
    have ho : optV (p.g k) = 4 := by simp [optV, e115]
    cases off with
    | true =>
     have HR : flagR p f (p.n + 1 - (k + 1)) (k + 1) true on ((of_ ||| 4 : Nat) : Int) = _ := Eq.symm (HS.out.trans (show _ = flagR p f m (k + 1) true on ((of_ ||| 4 : Nat) : Int) by rw [if_neg e41, if_neg e58, if_neg e45, if_pos (by simp [isOpt, ho]), if_pos rfl, ho, Int.toNat_natCast]) |>.trans (by rw [show p.n + 1 - (k + 1) = m by omega]));have ct11 : wr.cell? ⟨g, 11, none⟩ = some (.int .i64 (of_ : Nat)) := by simp [World.cell?, HT.out, tkR]
     have cf11 : wr.frozen? ⟨g, 11, none⟩ = false := by simp [World.frozen?, HT.out]
     have hor : bits BinOp.or IntKind.i64 (of_ : Int) 4 = ((of_ ||| 4 : Nat) : Int) := bits_or (y := 4) h3 (by decide);have hb := ((Below.refl _ wr).setCell (p := ⟨g, 11, none⟩) hBg (.int .i64 ((of_ ||| 4 : Nat) : Int)));have HT5 : Hid ((wr.setCell ⟨g, 11, none⟩ (.int .i64 ((of_ ||| 4 : Nat) : Int))).heap[g]? = some (.cells (tkR (.slice none 0 0) { kind := 15, on := (on : Nat), off := ((of_ ||| 4) : Nat) }) 90 (0, 0))) := xH ((tkw.heap_set (o := 11) (v := .int .i64 ((of_ ||| 4 : Nat) : Int)) HT.out));go_wp2_with fail
     try rw [hor]
     exact ⟨⟨k + 1, true, on, (of_ ||| 4), by omega, h1, Nat.or_lt_two_pow (n := 5) h3 (by decide), rfl, rfl, xH HR, F4.out.poke hb, HT5⟩, by simp [intOf]; omega⟩
    | false =>
     have HR : flagR p f (p.n + 1 - (k + 1)) (k + 1) false ((on ||| 4 : Nat) : Int) of_ = _ := Eq.symm (HS.out.trans (show _ = flagR p f m (k + 1) false ((on ||| 4 : Nat) : Int) of_ by rw [if_neg e41, if_neg e58, if_neg e45, if_pos (by simp [isOpt, ho]), if_neg (by simp), ho, Int.toNat_natCast]) |>.trans (by rw [show p.n + 1 - (k + 1) = m by omega]));have ct10 : wr.cell? ⟨g, 10, none⟩ = some (.int .i64 (on : Nat)) := by simp [World.cell?, HT.out, tkR]
     have cf10 : wr.frozen? ⟨g, 10, none⟩ = false := by simp [World.frozen?, HT.out]
     have hor : bits BinOp.or IntKind.i64 (on : Int) 4 = ((on ||| 4 : Nat) : Int) := bits_or (y := 4) h1 (by decide);have hb := ((Below.refl _ wr).setCell (p := ⟨g, 10, none⟩) hBg (.int .i64 ((on ||| 4 : Nat) : Int)));have HT5 : Hid ((wr.setCell ⟨g, 10, none⟩ (.int .i64 ((on ||| 4 : Nat) : Int))).heap[g]? = some (.cells (tkR (.slice none 0 0) { kind := 15, on := ((on ||| 4) : Nat), off := (of_ : Nat) }) 90 (0, 0))) := xH ((tkw.heap_set (o := 10) (v := .int .i64 ((on ||| 4 : Nat) : Int)) HT.out));go_wp2_with fail
     try rw [hor]
     exact ⟨⟨k + 1, false, (on ||| 4), of_, by omega, Nat.or_lt_two_pow (n := 5) h1 (by decide), h3, rfl, rfl, xH HR, F4.out.poke hb, HT5⟩, by simp [intOf]; omega⟩
   by_cases e85 : p.g k = 85
   ·have b41 : (p.g k == 41) = false := by simp [e41]
    have b58 : (p.g k == 58) = false := by simp [e58]
    have b45 : (p.g k == 45) = false := by simp [e45]
    have b105 : (p.g k == 105) = false := by simp [e105]
    have b109 : (p.g k == 109) = false := by simp [e109]
    have b115 : (p.g k == 115) = false := by simp [e115]
    have b85 : (p.g k == 85) = true := by simp [e85]
    have ho : optV (p.g k) = 16 := by simp [optV, e85]
    cases off with
    | true =>
     have HR : flagR p f (p.n + 1 - (k + 1)) (k + 1) true on ((of_ ||| 16 : Nat) : Int) = _ := Eq.symm (HS.out.trans (show _ = flagR p f m (k + 1) true on ((of_ ||| 16 : Nat) : Int) by rw [if_neg e41, if_neg e58, if_neg e45, if_pos (by simp [isOpt, ho]), if_pos rfl, ho, Int.toNat_natCast]) |>.trans (by rw [show p.n + 1 - (k + 1) = m by omega]));have ct11 : wr.cell? ⟨g, 11, none⟩ = some (.int .i64 (of_ : Nat)) := by simp [World.cell?, HT.out, tkR]
     have cf11 : wr.frozen? ⟨g, 11, none⟩ = false := by simp [World.frozen?, HT.out]
     have hor : bits BinOp.or IntKind.i64 (of_ : Int) 16 = ((of_ ||| 16 : Nat) : Int) := bits_or (y := 16) h3 (by decide);have hb := ((Below.refl _ wr).setCell (p := ⟨g, 11, none⟩) hBg (.int .i64 ((of_ ||| 16 : Nat) : Int)));have HT5 : Hid ((wr.setCell ⟨g, 11, none⟩ (.int .i64 ((of_ ||| 16 : Nat) : Int))).heap[g]? = some (.cells (tkR (.slice none 0 0) { kind := 15, on := (on : Nat), off := ((of_ ||| 16) : Nat) }) 90 (0, 0))) := xH ((tkw.heap_set (o := 11) (v := .int .i64 ((of_ ||| 16 : Nat) : Int)) HT.out));go_wp2_with fail
     try rw [hor]
     exact ⟨⟨k + 1, true, on, (of_ ||| 16), by omega, h1, Nat.or_lt_two_pow (n := 5) h3 (by decide), rfl, rfl, xH HR, F4.out.poke hb, HT5⟩, by simp [intOf]; omega⟩
    | false =>
     have HR : flagR p f (p.n + 1 - (k + 1)) (k + 1) false ((on ||| 16 : Nat) : Int) of_ = _ := Eq.symm (HS.out.trans (show _ = flagR p f m (k + 1) false ((on ||| 16 : Nat) : Int) of_ by rw [if_neg e41, if_neg e58, if_neg e45, if_pos (by simp [isOpt, ho]), if_neg (by simp), ho, Int.toNat_natCast]) |>.trans (by rw [show p.n + 1 - (k + 1) = m by omega]));have ct10 : wr.cell? ⟨g, 10, none⟩ = some (.int .i64 (on : Nat)) := by simp [World.cell?, HT.out, tkR]
     have cf10 : wr.frozen? ⟨g, 10, none⟩ = false := by simp [World.frozen?, HT.out]
     have hor : bits BinOp.or IntKind.i64 (on : Int) 16 = ((on ||| 16 : Nat) : Int) := bits_or (y := 16) h1 (by decide);have hb := ((Below.refl _ wr).setCell (p := ⟨g, 10, none⟩) hBg (.int .i64 ((on ||| 16 : Nat) : Int)));have HT5 : Hid ((wr.setCell ⟨g, 10, none⟩ (.int .i64 ((on ||| 16 : Nat) : Int))).heap[g]? = some (.cells (tkR (.slice none 0 0) { kind := 15, on := ((on ||| 16) : Nat), off := (of_ : Nat) }) 90 (0, 0))) := xH ((tkw.heap_set (o := 10) (v := .int .i64 ((on ||| 16 : Nat) : Int)) HT.out));go_wp2_with fail
     try rw [hor]
     exact ⟨⟨k + 1, false, (on ||| 16), of_, by omega, Nat.or_lt_two_pow (n := 5) h1 (by decide), h3, rfl, rfl, xH HR, F4.out.poke hb, HT5⟩, by simp [intOf]; omega⟩
   have b41 : (p.g k == 41) = false := by simp [e41]
   have b58 : (p.g k == 58) = false := by simp [e58]
   have b45 : (p.g k == 45) = false := by simp [e45]
   have b105 : (p.g k == 105) = false := by simp [e105]
   have b109 : (p.g k == 109) = false := by simp [e109]
   have b115 : (p.g k == 115) = false := by simp [e115]
   have b85 : (p.g k == 85) = false := by simp [e85]
   have ho : isOpt (p.g k) = false := by simp [isOpt, optV, e105, e109, e115, e85]
   have HR := xH (HS.out.trans (show _ = .error (26, (f : Int)) by rw [if_neg e41, if_neg e58, if_neg e45, if_neg (by simp [ho])]));exact z83
  ·have HR := xH ((Eq.symm hfl.out).trans (show _ = .error (20, (p.n : Int)) by rw [flagR, if_pos (by rw [HN.out]; omega)]));exact z79
end rtw
end
section
namespace rtw
open sq
open Go Go.RowKit Go.Maps utfp utfw ucdp setp setw prp tkp rtp
theorem notF_len {m : Int} : ∀ (S : List Rg) (a : Int), (notF m a S).length ≤ S.length + 1
 | [], a => by rw [notF];unfold addP;split <;> simp
 | r :: S, a => by
  have ih := notF_len (m := m) S (r.2 + 1);rw [notF];split
  ·simp only [dB]; omega
  ·simp only [dB]; omega
theorem notL_len (p : Pt) (l : List Rg) : (notL p l).length ≤ l.length + 1 := by have h1 := notF_len (m := p.most) (normR p.most l) 0;have h2 := tkw.yg p.most l;unfold notL notR;omega
theorem brac_bd {S : ByteArray} {p : Pt} (h : Pat S p) {i j : Nat} {s : ByteArray} (e : brac p i = some (s, j)) : i < j ∧ j ≤ p.n := by
 unfold brac at e;split at e
 ·cases e
 ·rename_i h0;split at e
  ·split at e
   ·cases e
   ·rename_i k hk;simp only [dG, dL] at e;unfold Pt.until at hk;have := tkw.find_bd hk;omega
  ·simp only [dG, dL] at e;have := zM h (a := i) (by omega);omega
theorem many_bd {S : ByteArray} {p : Pt} (h : Pat S p) {c : Int} {i b : Nat} {l : List Rg} {neg : Bool} (hi : i ≤ p.n) (e : many p c i = .ok (some (l, neg, b))) : i ≤ b ∧ b ≤ p.n := by
 unfold many at e;split at e
 ·split at e
  ·cases e
  ·rename_i s j hs;split at e
   ·simp only [Except.ok.injEq, dG, dL] at e;have := brac_bd h hs;omega
   ·cases e
 ·split at e
  ·simp only [Except.ok.injEq, dG, dL] at e;omega
  ·cases e
theorem itemE_bd {S : ByteArray} {p : Pt} (h : Pat S p) {i b to_ : Nat} {l : List Rg} {s : Bool} (hb : b < p.n) (e : itemE p i b = .ok (l, s, to_)) : b < to_ ∧ to_ ≤ p.n ∧ l.length ≤ 101 ∧ (s = true → ∃ c, l = [(c, c)]) := by
 have hc := zM h (a := b) hb;unfold itemE at e;simp only at e;split at e
 ·split at e
  ·cases e
  ·rename_i v j hv;simp only [Except.ok.injEq, dL] at e;obtain ⟨rfl, rfl, rfl⟩ := e;have := hexz_in h hc.2 hv;exact ⟨by omega, by omega, by simp, fun _ => ⟨_, rfl⟩⟩
 ·split at e
  ·simp only [Except.ok.injEq, dL] at e;obtain ⟨rfl, rfl, rfl⟩ := e;exact ⟨by omega, by omega, by simp, fun _ => ⟨_, rfl⟩⟩
  ·split at e
   ·simp only [Except.ok.injEq, dL] at e;obtain ⟨rfl, rfl, rfl⟩ := e;exact ⟨by omega, by omega, by simp, fun _ => ⟨_, rfl⟩⟩
   ·split at e
    ·cases e
    ·rename_i l2 neg j hm;simp only [Except.ok.injEq, dL] at e;obtain ⟨rfl, rfl, rfl⟩ := e;have h1 := many_bd h hc.2 hm;have h2 := (many_len (S := S) hm).1;have h3 := notL_len p l2;refine ⟨by omega, by omega, ?_, fun hh => absurd hh (by simp)⟩;split <;> omega
    ·split at e
     ·cases e
     ·simp only [Except.ok.injEq, dL] at e;obtain ⟨rfl, rfl, rfl⟩ := e;exact ⟨by omega, by omega, by simp, fun _ => ⟨_, rfl⟩⟩
theorem item_bd {S : ByteArray} {p : Pt} (h : Pat S p) {i to_ : Nat} {l : List Rg} {s : Bool} (hi : i < p.n) (e : itemR p i = .ok (l, s, to_)) : i < to_ ∧ to_ ≤ p.n ∧ l.length ≤ 101 ∧ (s = true → ∃ c, l = [(c, c)]) := by
 have hc := zM h (a := i) hi;unfold itemR at e;split at e
 ·rename_i h1;split at e
  ·simp only [Except.ok.injEq, dL] at e;obtain ⟨rfl, rfl, rfl⟩ := e;have h2 := qR h h1.2;have hin := qR h h1.1;simp only [dB, dA] at h2 hin;have hpb : i < posB p i ∧ posB p i ≤ p.n := by unfold posB;exact z141
   have h4 := tkw.run_bd (fits := isLet) (k := 1000) hpb.2;have h5 := posixP_len (p.sub (posB p i) (p.run isLet 1000 (posB p i)));have h6 := notL_len p (jC (p.sub (posB p i) (p.run isLet 1000 (posB p i))));refine ⟨by omega, by omega, ?_, fun hh => absurd hh (by simp)⟩;split <;> omega
  ·cases e
 ·unfold itemC at e;split at e
  ·split at e
   ·cases e
   ·have := itemE_bd h (by omega) e;exact ⟨by omega, this.2⟩
  ·simp only [Except.ok.injEq, dL] at e;obtain ⟨rfl, rfl, rfl⟩ := e;exact ⟨by omega, by omega, by simp, fun _ => ⟨_, rfl⟩⟩
theorem range_bd {S : ByteArray} {p : Pt} (h : Pat S p) {i to_ : Nat} {l : List Rg} (hi : i < p.n) (e : rangeR p i = .ok (l, to_)) : i < to_ ∧ to_ ≤ p.n ∧ l.length ≤ 101 := by
 unfold rangeR at e;split at e
 ·cases e
 ·rename_i l1 s1 to1 h1;have b1 := item_bd h hi h1;split at e
  ·rename_i hc;split at e
   ·cases e
   ·rename_i m also j h2;have b2 := item_bd h hc.2.2.1 h2;split at e
    ·cases e
    ·simp only [Except.ok.injEq, dL] at e;obtain ⟨rfl, rfl⟩ := e;exact ⟨by omega, by omega, by simp⟩
  ·simp only [Except.ok.injEq, dL] at e;obtain ⟨rfl, rfl⟩ := e;exact ⟨b1.1, b1.2.1, b1.2.2.1⟩
end rtw
end
section
namespace rtw
open sq
open Go Go.RowKit Go.Maps utfp utfw ucdp setp setw prp tkp rtp
open tkw (sg sg_bd vJ jM qK tkR qO qM vI)
theorem has_ne {S : ByteArray} {p : Pt} (h : Pat S p) {s : List UInt8} {i : Nat} (e : p.has s i = true) (hs : s ≠ []) : i + s.length ≤ p.n := by
 rcases has_lt h e with h | h
 ·exact h
 ·exact absurd h hs
theorem jA {t : Tk} {f b to_ : Nat} {x : Option Tk} (e : gtok t f b = .ok (x, to_)) : to_ = b := by unfold gtok at e;simp only [Except.ok.injEq, dL] at e;exact e.2.symm
theorem back_bd {S : ByteArray} {p : Pt} (h : Pat S p) {i z : Nat} (hz : i < z) (hz2 : z ≤ p.n) {x : Option Tk} {to_ : Nat} : ∀ l : List (List UInt8 × List UInt8), (∀ q ∈ l, q.1.length = 1 ∧ q.2.length = 1) → backR p i z l = .ok (x, to_) → i < to_ ∧ to_ ≤ p.n
 | [], _, e => by cases e
 | (a, b) :: l, hl, e => by
  have ih := back_bd h hz hz2 (x := x) (to_ := to_) l (fun q hq => hl q (List.mem_cons_of_mem _ hq));have hl1 := hl (a, b) dJ;rw [backR] at e;split at e
  ·rename_i h1;split at e
   ·rename_i h2;have b1 := has_ne h h1 (fun e => by rw [e] at hl1; exact absurd hl1.1 (by simp));have b2 := has_ne h h2.2 (fun e => by rw [e] at hl1; exact absurd hl1.2 (by simp));have b3 := zh (p := p) (a := z + 1) (by rw [hl1.1] at b1; exact b1);rw [hl1.2] at b2;have := jA e;omega
   ·exact ih e
  ·exact ih e
theorem qt_bd {S : ByteArray} {p : Pt} (h : Pat S p) {i : Nat} (hi : i ≤ p.n) : i ≤ (p.quotes i).2.2 ∧ (p.quotes i).2.2 ≤ p.n ∧ ((p.quotes i).2.1.length = 1 ∨ (p.quotes i).2.1 = []) := by
 unfold Pt.quotes;split
 ·rename_i e; have := qR h e; simp at this ⊢; omega
 ·split
  ·rename_i e; have := qR h e; simp at this ⊢; omega
  ·split
   ·rename_i e; have := qR h e; simp at this ⊢; omega
   ·simp; omega
theorem refR_bd {S : ByteArray} {p : Pt} (h : Pat S p) {f i : Nat} (hf : f < i) (hi : i ≤ p.n) {x : Option Tk} {to_ : Nat} (e : refR p f i = .ok (x, to_)) : f < to_ ∧ to_ ≤ p.n := by
 have q := qt_bd h hi;have s := sgn_bd h q.2.1;unfold refR at e;simp only at e;split at e
 ·cases e
 ·split at e
  ·split at e
   ·cases e
   ·rename_i hz;split at e
    ·cases e
    ·have hb : p.has (p.quotes i).2.1 (sgn p (p.quotes i).2.2).2.2.1 = true := by simpa using hz
     have := jA e;by_cases q2 : (p.quotes i).2.1 = []
     ·rw [q2] at this;simp at this;omega
     ·have := has_ne h hb q2;omega
  ·split at e
   ·cases e
   ·rename_i hz;have hne : ¬ (p.quotes i).2.1 = [] := fun e2 => hz (Or.inl e2)
    have hh : p.has (p.quotes i).2.1 (p.name (p.quotes i).2.2).1 = true := by
     cases e2 : p.has (p.quotes i).2.1 (p.name (p.quotes i).2.2).1 with
     | true => rfl
     | false => exact absurd (Or.inr (Or.inr e2)) hz
    have hb := has_ne h hh hne;have nb := zh (p := p) q.2.1;have := jA e;rcases q.2.2 with q2 | q2
    ·omega
    ·exact absurd q2 hne
theorem escR_eq (p : Pt) (i : Nat) : escR p i = if i + 1 = p.n then .error (20, p.n) else if ji (p.char (i + 1)).1 ≠ 0 then gtok { kind := 1, c := ji (p.char (i + 1)).1 } i (p.char (i + 1)).2 else if (p.char (i + 1)).1 = 120 then (match hexz p (p.char (i + 1)).2 with | none => .error (21, i) | some (v, e) => gtok { kind := 1, c := v } i e) else if (p.char (i + 1)).1 = 78 then gtok { kind := 2, set := [(10, 10)], neg := true } i (p.char (i + 1)).2 else if vZ (p.char (i + 1)).1 ≠ 0 then gtok { kind := 4, n := vZ (p.char (i + 1)).1 } i (p.char (i + 1)).2 else if (p.char (i + 1)).1 = 75 then gtok { kind := 5 } i (p.char (i + 1)).2 else if (p.char (i + 1)).1 = 82 then gtok { kind := 6 } i (p.char (i + 1)).2 else if (p.char (i + 1)).1 = 69 then .ok (none, (p.char (i + 1)).2) else if 49 ≤ (p.char (i + 1)).1 ∧ (p.char (i + 1)).1 ≤ 57 then (if (num p (i + 1)).2.2 = true then .error (25, i) else gtok { kind := 11, n := (num p (i + 1)).1 } i (num p (i + 1)).2.1) else if (p.char (i + 1)).1 = 103 then refR p i (p.char (i + 1)).2 else if (p.char (i + 1)).1 = 107 then backR p i (p.char (i + 1)).2 quotT else match many p (p.char (i + 1)).1 (p.char (i + 1)).2 with | .error e => .error (e, i) | .ok (some (l, neg, e)) => gtok { kind := 2, set := l, neg := neg } i e | .ok none => if (p.char (i + 1)).1 = 48 ∨ isLet (p.char (i + 1)).1 = true then .error (21, i) else gtok { kind := 1, c := (p.char (i + 1)).1 } i (p.char (i + 1)).2 := rfl
theorem escR_bd {S : ByteArray} {p : Pt} (h : Pat S p) {i : Nat} (hi : i < p.n) {x : Option Tk} {to_ : Nat} (e : escR p i = .ok (x, to_)) : i < to_ ∧ to_ ≤ p.n := by
 rw [escR_eq] at e;by_cases h0 : i + 1 = p.n
 ·rw [if_pos h0] at e; cases e
 rw [if_neg h0] at e;have c := zM h (a := i + 1) (by omega);by_cases t0 : ji (p.char (i + 1)).1 ≠ 0
 ·rw [if_pos t0] at e;have := jA e; omega
 rw [if_neg t0] at e;by_cases t1 : (p.char (i + 1)).1 = 120
 ·rw [if_pos t1] at e;cases hv : hexz p (p.char (i + 1)).2 with
  | none => rw [hv] at e; cases e
  | some q =>
   obtain ⟨v, j⟩ := q;rw [hv] at e;have := hexz_in h c.2 hv;have := jA e;omega
 rw [if_neg t1] at e;by_cases t2 : (p.char (i + 1)).1 = 78
 ·rw [if_pos t2] at e;have := jA e; omega
 rw [if_neg t2] at e;by_cases t3 : vZ (p.char (i + 1)).1 ≠ 0
 ·rw [if_pos t3] at e;have := jA e; omega
 rw [if_neg t3] at e;by_cases t4 : (p.char (i + 1)).1 = 75
 ·rw [if_pos t4] at e;have := jA e; omega
 rw [if_neg t4] at e;by_cases t5 : (p.char (i + 1)).1 = 82
 ·rw [if_pos t5] at e;have := jA e; omega
 rw [if_neg t5] at e;by_cases t6 : (p.char (i + 1)).1 = 69
 ·rw [if_pos t6] at e;simp only [Except.ok.injEq, dL] at e; omega
 rw [if_neg t6] at e;by_cases t7 : 49 ≤ (p.char (i + 1)).1 ∧ (p.char (i + 1)).1 ≤ 57
 ·rw [if_pos t7] at e;by_cases hg : (num p (i + 1)).2.2 = true
  ·rw [if_pos hg] at e; cases e
  ·rw [if_neg hg] at e;have := num_bd (p := p) (a := i + 1) (by omega);have := jA e;omega
 rw [if_neg t7] at e;by_cases t8 : (p.char (i + 1)).1 = 103
 ·rw [if_pos t8] at e;exact refR_bd h (by omega) c.2 e
 rw [if_neg t8] at e;by_cases t9 : (p.char (i + 1)).1 = 107
 ·rw [if_pos t9] at e;exact back_bd h (by omega) c.2 quotT (by decide) e
 rw [if_neg t9] at e;cases hm : many p (p.char (i + 1)).1 (p.char (i + 1)).2 with
 | error x => rw [hm] at e; cases e
 | ok y =>
  cases y with
  | none =>
   rw [hm] at e;by_cases h48 : (p.char (i + 1)).1 = 48 ∨ isLet (p.char (i + 1)).1 = true
   ·simp only [h48, if_true] at e;cases e
   ·simp only [h48, if_false] at e;have := jA e; omega
  | some q =>
   obtain ⟨l, neg, j⟩ := q;rw [hm] at e;have := many_bd h c.2 hm;have := jA e;omega
theorem cls_bd {S : ByteArray} {p : Pt} (h : Pat S p) {first to_ : Nat} {r : List Rg} : ∀ (k : Nat) (all : List Rg) (i : Nat), clsL p first k all i = .ok (r, to_) → i < to_ ∧ to_ ≤ p.n
 | 0, _, _, e => by cases e
 | k + 1, all, i, e => by
  rw [clsL] at e;split at e
  ·cases e
  ·split at e
   ·simp only [Except.ok.injEq, dL] at e;omega
   ·split at e
    ·cases e
    ·rename_i l j hr;have b1 := range_bd h (by omega) hr;have b2 := cls_bd h k _ _ e;omega
theorem clsR_bd {S : ByteArray} {p : Pt} (h : Pat S p) {f : Nat} {x : Option Tk} {to_ : Nat} (e : clsR p f = .ok (x, to_)) : f < to_ ∧ to_ ≤ p.n := by
 unfold clsR at e;simp only at e;split at e
 ·cases e
 ·rename_i all b hc;have b1 := cls_bd h _ _ _ hc;have := jA e;split at b1 <;> omega
theorem shut_bd {S : ByteArray} {p : Pt} (h : Pat S p) {t : Tk} {f i : Nat} {s : List UInt8} {c : Int} {x : Option Tk} {to_ : Nat} (e : shutR p t f i s c = .ok (x, to_)) : to_ = i + s.length ∧ (s ≠ [] → to_ ≤ p.n) := by
 unfold shutR at e;split at e
 ·rename_i h1;have := jA e;exact ⟨this, fun hs => by have b := has_ne h h1 hs; omega⟩
 ·split at e <;> cases e
theorem call_bd {S : ByteArray} {p : Pt} (h : Pat S p) {t : Tk} {f i : Nat} {s : List UInt8} (hs : s ≠ []) (hi : i ≤ p.n) {x : Option Tk} {to_ : Nat} (e : callR p t f i s = .ok (x, to_)) : i ≤ to_ ∧ to_ ≤ p.n := by
 have nb := zh (p := p) hi;unfold callR at e;split at e
 ·cases e
 ·split at e
  ·cases e
  ·rename_i hz;have hh : p.has s (p.name i).1 = true := by
    cases e2 : p.has s (p.name i).1 with
    | true => rfl
    | false => exact absurd (Or.inr e2) hz
   have b := has_ne h hh hs;have := jA e;omega
theorem flag_bd {p : Pt} {f : Nat} {x : Option Tk} {to_ : Nat} : ∀ (k i : Nat) (off : Bool) (on of_ : Int), flagR p f k i off on of_ = .ok (x, to_) → i < to_ ∧ to_ ≤ p.n
 | 0, _, _, _, _, e => by cases e
 | k + 1, i, off, on, of_, e => by
  rw [flagR] at e;split at e
  ·cases e
  ·split at e
   ·have := jA e; omega
   ·split at e
    ·have := jA e; omega
    ·split at e
     ·split at e
      ·cases e
      ·have := flag_bd _ _ _ _ _ e; omega
     ·split at e
      ·split at e <;> (have := flag_bd _ _ _ _ _ e; omega)
      ·cases e
theorem condE_bd {S : ByteArray} {p : Pt} (h : Pat S p) {f to_ : Nat} {t : Tk} {ok : Bool} {x : Option Tk} {b : Nat} (e : condE p f t to_ ok = .ok (x, b)) : b = to_ + 1 ∧ b ≤ p.n := by
 unfold condE at e;split at e
 ·cases e
 ·rename_i hz;have hh : p.has [41] to_ = true := by
   cases e2 : p.has [41] to_ with
   | true => rfl
   | false => exact absurd (Or.inr e2) hz
  have b := qR h hh;simp only [dA] at b;split at e
  ·cases e
  ·have := jA e; omega
theorem condR_bd {S : ByteArray} {p : Pt} (h : Pat S p) {f i : Nat} (hf : f + 2 < i) (hi : i ≤ p.n) {x : Option Tk} {b : Nat} (e : condR p f i = .ok (x, b)) : f < b ∧ b ≤ p.n := by
 unfold condR at e;split at e
 ·have := jA e; omega
 ·split at e
  ·rename_i h1;exact z93
  ·split at e
   ·rename_i h1;exact z93
   ·split at e
    ·have := condE_bd h e; omega
    ·split at e
     ·rename_i h1;have b1 := qR h h1;simp only [dB, dA] at b1;have nb := zh (p := p) (a := i + 2) (by omega);have := condE_bd h e;omega
     ·split at e
      ·rename_i h1;have b1 := qR h h1;simp only [dA] at b1;have nb := num_bd (p := p) (a := i + 1) (by omega);split at e
       ·cases e
       ·have := condE_bd h e; omega
      ·have sb := sgn_bd h hi;split at e
       ·cases e
       ·have := condE_bd h e; omega
theorem verb_bd {p : Pt} {f : Nat} {x : Option Tk} {b : Nat} (e : verbR p f = .ok (x, b)) : f < b ∧ b ≤ p.n := by
 unfold verbR at e;split at e
 ·cases e
 ·rename_i i hi;unfold Pt.until at hi;have b1 := tkw.find_bd hi;split at e
  all_goals
   unfold verbG at e;split at e
   ·cases e
   ·have := jA e; omega
theorem kind_bd {S : ByteArray} {p : Pt} (h : Pat S p) {f i : Nat} {g : G} : ∀ l : List (List UInt8 × Int), (∀ q ∈ l, q.1 ≠ []) → kindR p f i l = some g → ∃ t b, g = gtok t f b ∧ i < b ∧ b ≤ p.n
 | [], _, e => by cases e
 | (s, k) :: l, hl, e => by
  rw [kindR] at e;split at e
  ·rename_i h1;have hs := hl (s, k) dJ;have b := has_ne h h1 hs;have : s.length ≠ 0 := fun e => hs (List.length_eq_zero_iff.1 e)
   exact ⟨_, _, (Option.some.inj e).symm, by omega, by omega⟩
  ·exact kind_bd h l (fun q hq => hl q (List.mem_cons_of_mem _ hq)) e
theorem numR_bd {S : ByteArray} {p : Pt} (h : Pat S p) {f i : Nat} (hi : i ≤ p.n) {x : Option Tk} {b : Nat} (e : numR p f i = .ok (x, b)) : i < b ∧ b ≤ p.n := by
 have sb := sgn_bd h hi;unfold numR at e;simp only at e;split at e
 ·cases e
 ·split at e
  ·split at e <;> cases e
  ·split at e
   ·cases e
   ·rename_i r hr;split at e
    ·cases e
    ·obtain ⟨y, j⟩ := r;simp only [Except.ok.injEq, dL] at e;have := shut_bd h hr;simp only [dB, dA] at this;have h2 := this.2 (by simp);omega
theorem openR_bd {S : ByteArray} {p : Pt} (h : Pat S p) {f : Nat} (hf : f < p.n) {x : Option Tk} {b : Nat} (e : openR p f = .ok (x, b)) : f < b ∧ b ≤ p.n := by
 unfold openR at e;split at e
 ·exact verb_bd e
 ·split at e
  ·have := jA e; omega
  ·rename_i hq;have b0 := qR h (by simpa using hq : p.has [63] (f + 1) = true);simp only [dA] at b0;split at e
   ·cases e
   ·split at e
    ·rename_i g hg;obtain ⟨t, j, rfl, h1, h2⟩ := kind_bd h kindsT (by decide) hg;have := jA e;omega
    ·unfold openK at e;have key : ∀ {c : UInt8} {s : List UInt8}, p.has (c :: s) (f + 2) = true → f + 2 + (c :: s).length ≤ p.n := fun h1 => qR h h1
     by_cases t0 : p.has [35] (f + 2) = true
     ·rw [if_pos t0] at e;cases hj : p.until 41 (f + 2) with
      | none => rw [hj] at e; cases e
      | some j =>
       rw [hj] at e;unfold Pt.until at hj;have := tkw.find_bd hj;simp only [Except.ok.injEq, dL] at e;omega
     rw [if_neg t0] at e;by_cases t1 : p.has [80, 60] (f + 2) = true
     ·rw [if_pos t1] at e;have := key t1;exact z138
     rw [if_neg t1] at e;by_cases t2 : p.has [60] (f + 2) = true
     ·rw [if_pos t2] at e;have := key t2;exact z138
     rw [if_neg t2] at e;by_cases t3 : p.has [39] (f + 2) = true
     ·rw [if_pos t3] at e;have := key t3;exact z138
     rw [if_neg t3] at e;by_cases t4 : p.has [80, 61] (f + 2) = true
     ·rw [if_pos t4] at e;have := key t4;exact z138
     rw [if_neg t4] at e;by_cases t5 : p.has [80, 62] (f + 2) = true
     ·rw [if_pos t5] at e;have := key t5;exact z138
     rw [if_neg t5] at e;by_cases t6 : p.has [38] (f + 2) = true
     ·rw [if_pos t6] at e;have := key t6;exact z138
     rw [if_neg t6] at e;by_cases t7 : p.has [82] (f + 2) = true
     ·rw [if_pos t7] at e;have := shut_bd h e;simp only [dB, dA] at this;have h2 := this.2 (by simp);omega
     rw [if_neg t7] at e;by_cases t8 : p.has [67] (f + 2) = true
     ·rw [if_pos t8] at e;have := key t8;simp only [dB, dA] at this;have nb := num_bd (p := p) (a := f + 2 + 1) (by omega);by_cases hg : (num p (f + 2 + 1)).2.2 = true
      ·rw [if_pos hg] at e; cases e
      ·rw [if_neg hg] at e;have := shut_bd h e;simp only [dB, dA] at this;have h2 := this.2 (by simp);omega
     rw [if_neg t8] at e;by_cases t9 : p.has [40] (f + 2) = true
     ·rw [if_pos t9] at e;have := key t9;simp only [dB, dA] at this;exact condR_bd h (by omega) (by omega) e
     rw [if_neg t9] at e;by_cases t10 : numB p (f + 2) = true
     ·rw [if_pos t10] at e;have := numR_bd h (by omega) e; omega
     rw [if_neg t10] at e;have := flag_bd _ _ _ _ _ e;omega
theorem skip_bd {p : Pt} : ∀ (k a : Nat), a ≤ p.n → a ≤ skipC p k a ∧ skipC p k a ≤ p.n
 | 0, a, h => ⟨xL _, h⟩
 | k + 1, a, h => by
  rw [skipC];split
  ·have := skip_bd (p := p) k (a + 1) (by omega); omega
  ·omega
theorem mode_bd {S : ByteArray} {p : Pt} (h : Pat S p) {a : Nat} (ha : a ≤ p.n) : a ≤ (p.mode a).2 ∧ (p.mode a).2 ≤ p.n := by unfold Pt.mode;exact z118
theorem quan_bd {S : ByteArray} {p : Pt} (h : Pat S p) {i a : Nat} {n m : Int} (ha : a ≤ p.n) {x : Option Tk} {b : Nat} (e : quan p i a n m = .ok (x, b)) : a ≤ b ∧ b ≤ p.n := by have := mode_bd h ha;unfold quan at e;have := jA e;omega
theorem bracR_bd {S : ByteArray} {p : Pt} (h : Pat S p) {i b : Nat} (hi : i < p.n) {n m : Int} {g : Bool} (e : bracR p i = some (n, m, b, g)) : i < b ∧ b < p.n := by
 have n1 := num_bd (p := p) (a := i + 1) (by omega);unfold bracR at e;simp only at e;split at e
 ·rename_i h1;have b1 := qR h h1.2;simp only [dA] at b1;have n2 := num_bd (p := p) (a := (num p (i + 1)).2.1 + 1) (by omega);split at e
  ·rename_i h2;have b2 := qR h h2;simp only [dA] at b2;simp only [dG, dL] at e;omega
  ·cases e
 ·split at e
  ·cases e
  ·rename_i hz;have hh : p.has [125] (num p (i + 1)).2.1 = true := by
    cases e2 : p.has [125] (num p (i + 1)).2.1 with
    | true => rfl
    | false => exact absurd (Or.inr e2) hz
   have b2 := qR h hh;simp only [dA] at b2;simp only [dG, dL] at e;omega
theorem tokR_eq (p : Pt) (i : Nat) : tokR p i = if p.x = true ∧ (9 ≤ (p.char i).1 ∧ (p.char i).1 ≤ 13 ∨ (p.char i).1 = 32) then .ok (none, (p.char i).2) else if p.x = true ∧ (p.char i).1 = 35 then .ok (none, skipC p p.n (p.char i).2) else if (p.char i).1 = 92 then escR p i else if (p.char i).1 = 91 then clsR p i else if (p.char i).1 = 40 then openR p i else if (p.char i).1 = 46 then gtok { kind := 3 } i (p.char i).2 else if (p.char i).1 = 94 then gtok { kind := 4, n := 1 } i (p.char i).2 else if (p.char i).1 = 36 then gtok { kind := 4, n := 2 } i (p.char i).2 else if (p.char i).1 = 124 then gtok { kind := 7 } i (p.char i).2 else if (p.char i).1 = 41 then gtok { kind := 8 } i (p.char i).2 else if (p.char i).1 = 42 then quan p i (p.char i).2 0 (-1) else if (p.char i).1 = 43 then quan p i (p.char i).2 1 (-1) else if (p.char i).1 = 63 then quan p i (p.char i).2 0 1 else if (p.char i).1 = 123 then (match bracR p i with | none => gtok { kind := 1, c := (p.char i).1 } i (p.char i).2 | some (n, m, b, great) => if great = true then .error (25, i) else if 0 ≤ m ∧ m < n then .error (23, i) else quan p i (b + 1) n m) else gtok { kind := 1, c := (p.char i).1 } i (p.char i).2 := rfl
theorem tokR_bd {S : ByteArray} {p : Pt} (h : Pat S p) {i : Nat} (hi : i < p.n) {x : Option Tk} {b : Nat} (e : tokR p i = .ok (x, b)) : i < b ∧ b ≤ p.n := by
 have c := zM h hi;rw [tokR_eq] at e;by_cases t0 : p.x = true ∧ (9 ≤ (p.char i).1 ∧ (p.char i).1 ≤ 13 ∨ (p.char i).1 = 32)
 ·rw [if_pos t0] at e;simp only [Except.ok.injEq, dL] at e; omega
 rw [if_neg t0] at e;by_cases t1 : p.x = true ∧ (p.char i).1 = 35
 ·rw [if_pos t1] at e;have := skip_bd (p := p) p.n _ c.2;simp only [Except.ok.injEq, dL] at e; omega
 rw [if_neg t1] at e;by_cases t2 : (p.char i).1 = 92
 ·rw [if_pos t2] at e;exact escR_bd h hi e
 rw [if_neg t2] at e;by_cases t3 : (p.char i).1 = 91
 ·rw [if_pos t3] at e;exact clsR_bd h e
 rw [if_neg t3] at e;by_cases t4 : (p.char i).1 = 40
 ·rw [if_pos t4] at e;exact openR_bd h hi e
 rw [if_neg t4] at e;by_cases t5 : (p.char i).1 = 46
 ·rw [if_pos t5] at e;have := jA e; omega
 rw [if_neg t5] at e;by_cases t6 : (p.char i).1 = 94
 ·rw [if_pos t6] at e;have := jA e; omega
 rw [if_neg t6] at e;by_cases t7 : (p.char i).1 = 36
 ·rw [if_pos t7] at e;have := jA e; omega
 rw [if_neg t7] at e;by_cases t8 : (p.char i).1 = 124
 ·rw [if_pos t8] at e;have := jA e; omega
 rw [if_neg t8] at e;by_cases t9 : (p.char i).1 = 41
 ·rw [if_pos t9] at e;have := jA e; omega
 rw [if_neg t9] at e;by_cases t10 : (p.char i).1 = 42
 ·rw [if_pos t10] at e;have := quan_bd h c.2 e; omega
 rw [if_neg t10] at e;by_cases t11 : (p.char i).1 = 43
 ·rw [if_pos t11] at e;have := quan_bd h c.2 e; omega
 rw [if_neg t11] at e;by_cases t12 : (p.char i).1 = 63
 ·rw [if_pos t12] at e;have := quan_bd h c.2 e; omega
 rw [if_neg t12] at e;by_cases t13 : (p.char i).1 = 123
 ·rw [if_pos t13] at e;cases hb : bracR p i with
  | none => rw [hb] at e; have := jA e; omega
  | some q =>
   obtain ⟨n, m, j, g⟩ := q;rw [hb] at e;have := bracR_bd h hi hb;simp only at e;by_cases hg : g = true
   ·rw [if_pos hg] at e; cases e
   ·rw [if_neg hg] at e;by_cases hm : 0 ≤ m ∧ m < n
    ·rw [if_pos hm] at e; cases e
    ·rw [if_neg hm] at e;have := quan_bd h (by omega) e; omega
 rw [if_neg t13] at e;have := jA e; omega
end rtw
end
end Go.Proofs.Ytdgfclbajjjcgaa
