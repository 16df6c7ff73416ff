/- Texts that TokensQuoteLaw leans on, merged: what the functions of the program answer. -/
import Derived.Shelf.Bytes.SlIndexAt
import Derived.Test.YtkcmjcgjfjfimaaGreatDoorBQu03
section
namespace Go.Proofs.YtkcmjcgjfjfimaaGreatDoor.tkw
open Go Go.RowKit Go.Maps utfp utfw ucdp setp setw prp tkp
theorem digits_bd {p : Pt} {a : Nat} (ha : a ≤ p.n) : 0 ≤ (p.digits a).1 ∧ (p.digits a).1 ≤ 256 ∧ a ≤ (p.digits a).2 ∧ (p.digits a).2 ≤ p.n := by
 have bd := run_bd (p := p) (fits := isDig) (k := 1000) ha
 have := val_bd (p := p) (a := a) (p.run isDig 1000 a - a) fun i hi => dig_bd (p := p) (a := a) (k := 1000) (i := a + i) (by omega) (by omega)
 exact ⟨this.1, this.2, bd.1, bd.2.1⟩
theorem number_ok {C : Cf} {w : World} {a f : Nat} {T : Rw} (h : LX C w a f T) {n : Int} {b : Nat} (hp : C.p.number f a = .ok (n, b)) :
   Calls Tryz.prog 69 #[.pointer (some ⟨C.L, 0, none⟩)] w (Ret C w (.tuple #[.int .i64 n, .bool (decide (a < b))]) b f T) := by
 unfold Pt.number at hp
 split at hp
 · cases hp
 rename_i hle
 have e := Except.ok.inj hp
 have HD := Lib.hid (digits_any h)
 rw [e] at HD hle
 have bd := digits_bd (p := C.p) h.an
 rw [e] at bd
 obtain ⟨b1, b2, b3, b4⟩ := bd
 simp only at hle HD b1 b2 b3 b4
 clear h hp e
 go_enter Tryz.func69, Tryz.ntmps69
 go_wp2_with fail
 refine HD.out.mono ?_
 rintro e1 w1 ⟨rfl, hx, hk⟩
 have HX := Lib.hid hx
 have HK := Lib.hid hk
 clear hx hk
 go_wp2_with fail
 go_ret2
 exact ⟨rfl, HX.out, HK.out⟩
theorem number_err {C : Cf} {w : World} {a f : Nat} {T : Rw} (h : LX C w a f T) {x : Int × Int} (hp : C.p.number f a = .error x) :
   Calls Tryz.prog 69 #[.pointer (some ⟨C.L, 0, none⟩)] w (Pan C w x) := by
 unfold Pt.number at hp
 split at hp
 case isFalse => cases hp
 rename_i hle
 cases hp
 have HD := Lib.hid (digits_any h)
 have hB := h.hb
 clear h
 go_enter Tryz.func69, Tryz.ntmps69
 go_wp2_with fail
 refine HD.out.mono ?_
 rintro e1 w1 ⟨rfl, hx, hk⟩
 have HF := Lib.hid (fail_any hx 25)
 have HK := Lib.hid hk
 clear hx hk
 go_wp2_with fail
 refine HF.out.mono ?_
 rintro e2 w2 ⟨rfl, hk2⟩
 exact ⟨rfl, rfl, (HK.out.mono hB).trans hk2⟩
theorem sign_bd {p : Pt} {a : Nat} (ha : a ≤ p.n) : a ≤ (p.sign a).2 ∧ (p.sign a).2 ≤ p.n := by
 unfold Pt.sign
 split
 · rename_i h
   have := has_le ha h
   simp only [List.length_cons, List.length_nil] at this ⊢
   omega
 · split
   · rename_i h
     have := has_le ha h
     simp only [List.length_cons, List.length_nil] at this ⊢
     omega
   · simp only
     omega
theorem number_bd {p : Pt} {f a : Nat} {n : Int} {b : Nat} (ha : a ≤ p.n) (h : p.number f a = .ok (n, b)) : 0 ≤ n ∧ n ≤ 255 ∧ a ≤ b ∧ b ≤ p.n := by
 unfold Pt.number at h
 split at h
 · cases h
 · have e := Except.ok.inj h
   have := digits_bd ha
   rw [e] at this
   rename_i hle
   rw [e] at hle
   simp only at hle this
   omega
def RP {α : Type} (C : Cf) (w : World) (r : R α) (ok : α → Ending → World → Prop) (e : Ending) (w' : World) : Prop := match r with
 | .error x => Pan C w x e w'
 | .ok v => ok v e w'
theorem rp_err {α : Type} {C : Cf} {w : World} {r : R α} {ok : α → Ending → World → Prop} {e : Ending} {w' : World} {x : Int × Int} (h : r = .error x) (hp : Pan C w x e w') : RP C w r ok e w' := by
 subst h
 exact hp
theorem rp_ok {α : Type} {C : Cf} {w : World} {r : R α} {ok : α → Ending → World → Prop} {e : Ending} {w' : World} {v : α} (h : r = .ok v) (hp : ok v e w') : RP C w r ok e w' := by
 subst h
 exact hp
theorem take_y {C : Cf} {w : World} {a f : Nat} {T : Rw} (h : LX C w a f T) (s : ByteArray) (l : List UInt8) (k : Nat) (hs : s.data.toList = l) (hk : l.length = k) (h1 : k ≤ 1000) (hh : C.p.has l a = true) :
   Calls Tryz.prog 59 #[.pointer (some ⟨C.L, 0, none⟩), .string s] w (Ret C w (.bool true) (a + k) f T) := by
 subst hs
 subst hk
 exact take_yes h s h1 hh
theorem take_n {C : Cf} {w : World} {a f : Nat} {T : Rw} (h : LX C w a f T) (s : ByteArray) (l : List UInt8) (hs : s.data.toList = l) (h1 : l.length ≤ 1000) (hh : C.p.has l a = false) :
   Calls Tryz.prog 59 #[.pointer (some ⟨C.L, 0, none⟩), .string s] w (Ret C w (.bool false) a f T) := by
 subst hs
 exact take_no h s h1 hh
theorem number_any {C : Cf} {w : World} {a f : Nat} {T : Rw} (h : LX C w a f T) :
   Calls Tryz.prog 69 #[.pointer (some ⟨C.L, 0, none⟩)] w (RP C w (C.p.number f a) fun v => Ret C w (.tuple #[.int .i64 v.1, .bool (decide (a < v.2))]) v.2 f T) := by
 cases hn : C.p.number f a with
 | error x => exact number_err h hn
 | ok v => exact number_ok h (n := v.1) (b := v.2) hn
def SgOk (C : Cf) (w : World) (a f : Nat) (T : Rw) : Option (Int × Int × Nat) → Ending → World → Prop
 | none => Ret C w (.tuple #[.int .i64 0, .int .i64 0, .bool false]) a f T
 | some (n, m, b) => Ret C w (.tuple #[.int .i64 n, .int .i64 m, .bool true]) b f T
set_option maxHeartbeats 1000000 in
theorem signed_1 {C : Cf} {w : World} {a f : Nat} {T : Rw} (h : LX C w a f T) (h1 : C.p.has [45] a = true) : Calls Tryz.prog 90 #[.pointer (some ⟨C.L, 0, none⟩)] w (RP C w (C.p.signed f a) (SgOk C w a f T)) := by
 have hs : C.p.sign a = (1, a + 1) := by unfold Pt.sign; rw [if_pos h1]
 have hsg : C.p.signed f a = match C.p.number f (C.p.sign a).2 with | .error e => .error e | .ok (n, b) => if b = (C.p.sign a).2 then .ok none else .ok (some (n, (C.p.sign a).1, b)) := rfl
 have bd := sign_bd h.an
 rw [hs] at hsg bd
 simp only at hsg bd
 have c1 := h.cells.c1
 have fz := h.cells.fz 1
 have HP := Lib.hid h
 have hk0 := Kept.refl w.heap.size C.L w
 have hB := h.hb
 have tl := h.tl
 have an := h.an
 have Hh1 := Lib.hid h1
 clear h1
 cases hn : C.p.number f (a + 1) with
 | error x =>
   rw [hn] at hsg
   simp only at hsg
   have HS := Lib.hid hsg
   have HN := Lib.hid hn
   clear hsg hn hs
   go_enter Tryz.func90, Tryz.ntmps90
   go_wp2_with fail
   refine Calls.mono (take_y h ⟨#[45]⟩ [45] 1 rfl rfl (by decide) Hh1.out) ?_
   rintro e1 w1 ⟨rfl, hx1, hkn⟩
   have hk1 := hk0.then hkn
   clear hkn
   go_wp2_with fail
   refine Calls.mono (number_any hx1) ?_
   intro e2 w2 hr
   rw [HN.out] at hr
   obtain ⟨rfl, hkn⟩ := hr
   exact ⟨rfl, rp_err HS.out ⟨rfl, (hk1.mono hB).trans hkn⟩⟩
 | ok v =>
   obtain ⟨n, b⟩ := v
   have nb := number_bd bd.2 hn
   obtain ⟨nb1, nb2, nb3, nb4⟩ := nb
   rw [hn] at hsg
   simp only at hsg
   have HN := Lib.hid hn
   clear hn hs
   by_cases hb : b = a + 1
   · rw [if_pos hb] at hsg
     have HS := Lib.hid hsg
     have hl : decide (a + 1 < b) = false := by simp; omega
     have HL := Lib.hid hl
     clear hsg hb hl
     go_enter Tryz.func90, Tryz.ntmps90
     go_wp2_with fail
     refine Calls.mono (take_y h ⟨#[45]⟩ [45] 1 rfl rfl (by decide) Hh1.out) ?_
     rintro e1 w1 ⟨rfl, hx1, hkn⟩
     have hk1 := hk0.then hkn
     clear hkn
     go_wp2_with fail
     refine Calls.mono (number_any hx1) ?_
     intro e2 w2 hr
     rw [HN.out] at hr
     obtain ⟨rfl, hxn, hkn⟩ := hr
     have hkm := hk1.then hkn
     clear hkn
     rw [HL.out]
     have fz2 := hxn.cells.fz 1
     have d1 := hxn.cells.c1
     go_wp2_with fail
     go_ret3
     exact rp_ok HS.out ⟨rfl, hxn.at_ an tl, hkm.setCell 1 _⟩
   · rw [if_neg hb] at hsg
     have HS := Lib.hid hsg
     have hl : decide (a + 1 < b) = true := by simp; omega
     have HL := Lib.hid hl
     clear hsg hb hl
     go_enter Tryz.func90, Tryz.ntmps90
     go_wp2_with fail
     refine Calls.mono (take_y h ⟨#[45]⟩ [45] 1 rfl rfl (by decide) Hh1.out) ?_
     rintro e1 w1 ⟨rfl, hx1, hkn⟩
     have hk1 := hk0.then hkn
     clear hkn
     go_wp2_with fail
     refine Calls.mono (number_any hx1) ?_
     intro e2 w2 hr
     rw [HN.out] at hr
     obtain ⟨rfl, hxn, hkn⟩ := hr
     have hkm := hk1.then hkn
     clear hkn
     rw [HL.out]
     go_wp2_with fail
     go_ret3
     exact rp_ok HS.out ⟨rfl, hxn, hkm⟩
set_option maxHeartbeats 1000000 in
theorem signed_2 {C : Cf} {w : World} {a f : Nat} {T : Rw} (h : LX C w a f T) (h1 : C.p.has [45] a = false) (h2 : C.p.has [43] a = true) : Calls Tryz.prog 90 #[.pointer (some ⟨C.L, 0, none⟩)] w (RP C w (C.p.signed f a) (SgOk C w a f T)) := by
 have hs : C.p.sign a = (2, a + 1) := by unfold Pt.sign; rw [if_neg (by simp [h1]), if_pos h2]
 have hsg : C.p.signed f a = match C.p.number f (C.p.sign a).2 with | .error e => .error e | .ok (n, b) => if b = (C.p.sign a).2 then .ok none else .ok (some (n, (C.p.sign a).1, b)) := rfl
 have bd := sign_bd h.an
 rw [hs] at hsg bd
 simp only at hsg bd
 have c1 := h.cells.c1
 have fz := h.cells.fz 1
 have HP := Lib.hid h
 have hk0 := Kept.refl w.heap.size C.L w
 have hB := h.hb
 have tl := h.tl
 have an := h.an
 have Hh1 := Lib.hid h1
 clear h1
 have Hh2 := Lib.hid h2
 clear h2
 cases hn : C.p.number f (a + 1) with
 | error x =>
   rw [hn] at hsg
   simp only at hsg
   have HS := Lib.hid hsg
   have HN := Lib.hid hn
   clear hsg hn hs
   go_enter Tryz.func90, Tryz.ntmps90
   go_wp2_with fail
   refine Calls.mono (take_n h ⟨#[45]⟩ [45] rfl (by decide) Hh1.out) ?_
   rintro e1 w1 ⟨rfl, hx1, hkn⟩
   have hk1 := hk0.then hkn
   clear hkn
   go_wp2_with fail
   refine Calls.mono (take_y hx1 ⟨#[43]⟩ [43] 1 rfl rfl (by decide) Hh2.out) ?_
   rintro e2 w2 ⟨rfl, hx2, hkn⟩
   have hk2 := hk1.then hkn
   clear hkn
   go_wp2_with fail
   refine Calls.mono (number_any hx2) ?_
   intro e3 w3 hr
   rw [HN.out] at hr
   obtain ⟨rfl, hkn⟩ := hr
   exact ⟨rfl, rp_err HS.out ⟨rfl, (hk2.mono hB).trans hkn⟩⟩
 | ok v =>
   obtain ⟨n, b⟩ := v
   have nb := number_bd bd.2 hn
   obtain ⟨nb1, nb2, nb3, nb4⟩ := nb
   rw [hn] at hsg
   simp only at hsg
   have HN := Lib.hid hn
   clear hn hs
   by_cases hb : b = a + 1
   · rw [if_pos hb] at hsg
     have HS := Lib.hid hsg
     have hl : decide (a + 1 < b) = false := by simp; omega
     have HL := Lib.hid hl
     clear hsg hb hl
     go_enter Tryz.func90, Tryz.ntmps90
     go_wp2_with fail
     refine Calls.mono (take_n h ⟨#[45]⟩ [45] rfl (by decide) Hh1.out) ?_
     rintro e1 w1 ⟨rfl, hx1, hkn⟩
     have hk1 := hk0.then hkn
     clear hkn
     go_wp2_with fail
     refine Calls.mono (take_y hx1 ⟨#[43]⟩ [43] 1 rfl rfl (by decide) Hh2.out) ?_
     rintro e2 w2 ⟨rfl, hx2, hkn⟩
     have hk2 := hk1.then hkn
     clear hkn
     go_wp2_with fail
     refine Calls.mono (number_any hx2) ?_
     intro e3 w3 hr
     rw [HN.out] at hr
     obtain ⟨rfl, hxn, hkn⟩ := hr
     have hkm := hk2.then hkn
     clear hkn
     rw [HL.out]
     have fz2 := hxn.cells.fz 1
     have d1 := hxn.cells.c1
     go_wp2_with fail
     go_ret3
     exact rp_ok HS.out ⟨rfl, hxn.at_ an tl, hkm.setCell 1 _⟩
   · rw [if_neg hb] at hsg
     have HS := Lib.hid hsg
     have hl : decide (a + 1 < b) = true := by simp; omega
     have HL := Lib.hid hl
     clear hsg hb hl
     go_enter Tryz.func90, Tryz.ntmps90
     go_wp2_with fail
     refine Calls.mono (take_n h ⟨#[45]⟩ [45] rfl (by decide) Hh1.out) ?_
     rintro e1 w1 ⟨rfl, hx1, hkn⟩
     have hk1 := hk0.then hkn
     clear hkn
     go_wp2_with fail
     refine Calls.mono (take_y hx1 ⟨#[43]⟩ [43] 1 rfl rfl (by decide) Hh2.out) ?_
     rintro e2 w2 ⟨rfl, hx2, hkn⟩
     have hk2 := hk1.then hkn
     clear hkn
     go_wp2_with fail
     refine Calls.mono (number_any hx2) ?_
     intro e3 w3 hr
     rw [HN.out] at hr
     obtain ⟨rfl, hxn, hkn⟩ := hr
     have hkm := hk2.then hkn
     clear hkn
     rw [HL.out]
     go_wp2_with fail
     go_ret3
     exact rp_ok HS.out ⟨rfl, hxn, hkm⟩
set_option maxHeartbeats 1000000 in
theorem signed_0 {C : Cf} {w : World} {a f : Nat} {T : Rw} (h : LX C w a f T) (h1 : C.p.has [45] a = false) (h2 : C.p.has [43] a = false) : Calls Tryz.prog 90 #[.pointer (some ⟨C.L, 0, none⟩)] w (RP C w (C.p.signed f a) (SgOk C w a f T)) := by
 have hs : C.p.sign a = (0, a) := by unfold Pt.sign; rw [if_neg (by simp [h1]), if_neg (by simp [h2])]
 have hsg : C.p.signed f a = match C.p.number f (C.p.sign a).2 with | .error e => .error e | .ok (n, b) => if b = (C.p.sign a).2 then .ok none else .ok (some (n, (C.p.sign a).1, b)) := rfl
 have bd := sign_bd h.an
 rw [hs] at hsg bd
 simp only at hsg bd
 have c1 := h.cells.c1
 have fz := h.cells.fz 1
 have HP := Lib.hid h
 have hk0 := Kept.refl w.heap.size C.L w
 have hB := h.hb
 have tl := h.tl
 have an := h.an
 have Hh1 := Lib.hid h1
 clear h1
 have Hh2 := Lib.hid h2
 clear h2
 cases hn : C.p.number f (a) with
 | error x =>
   rw [hn] at hsg
   simp only at hsg
   have HS := Lib.hid hsg
   have HN := Lib.hid hn
   clear hsg hn hs
   go_enter Tryz.func90, Tryz.ntmps90
   go_wp2_with fail
   refine Calls.mono (take_n h ⟨#[45]⟩ [45] rfl (by decide) Hh1.out) ?_
   rintro e1 w1 ⟨rfl, hx1, hkn⟩
   have hk1 := hk0.then hkn
   clear hkn
   go_wp2_with fail
   refine Calls.mono (take_n hx1 ⟨#[43]⟩ [43] rfl (by decide) Hh2.out) ?_
   rintro e2 w2 ⟨rfl, hx2, hkn⟩
   have hk2 := hk1.then hkn
   clear hkn
   go_wp2_with fail
   refine Calls.mono (number_any hx2) ?_
   intro e3 w3 hr
   rw [HN.out] at hr
   obtain ⟨rfl, hkn⟩ := hr
   exact ⟨rfl, rp_err HS.out ⟨rfl, (hk2.mono hB).trans hkn⟩⟩
 | ok v =>
   obtain ⟨n, b⟩ := v
   have nb := number_bd bd.2 hn
   obtain ⟨nb1, nb2, nb3, nb4⟩ := nb
   rw [hn] at hsg
   simp only at hsg
   have HN := Lib.hid hn
   clear hn hs
   by_cases hb : b = a
   · rw [if_pos hb] at hsg
     have HS := Lib.hid hsg
     have hl : decide (a < b) = false := by simp; omega
     have HL := Lib.hid hl
     clear hsg hb hl
     go_enter Tryz.func90, Tryz.ntmps90
     go_wp2_with fail
     refine Calls.mono (take_n h ⟨#[45]⟩ [45] rfl (by decide) Hh1.out) ?_
     rintro e1 w1 ⟨rfl, hx1, hkn⟩
     have hk1 := hk0.then hkn
     clear hkn
     go_wp2_with fail
     refine Calls.mono (take_n hx1 ⟨#[43]⟩ [43] rfl (by decide) Hh2.out) ?_
     rintro e2 w2 ⟨rfl, hx2, hkn⟩
     have hk2 := hk1.then hkn
     clear hkn
     go_wp2_with fail
     refine Calls.mono (number_any hx2) ?_
     intro e3 w3 hr
     rw [HN.out] at hr
     obtain ⟨rfl, hxn, hkn⟩ := hr
     have hkm := hk2.then hkn
     clear hkn
     rw [HL.out]
     have fz2 := hxn.cells.fz 1
     have d1 := hxn.cells.c1
     go_wp2_with fail
     go_ret3
     exact rp_ok HS.out ⟨rfl, hxn.at_ an tl, hkm.setCell 1 _⟩
   · rw [if_neg hb] at hsg
     have HS := Lib.hid hsg
     have hl : decide (a < b) = true := by simp; omega
     have HL := Lib.hid hl
     clear hsg hb hl
     go_enter Tryz.func90, Tryz.ntmps90
     go_wp2_with fail
     refine Calls.mono (take_n h ⟨#[45]⟩ [45] rfl (by decide) Hh1.out) ?_
     rintro e1 w1 ⟨rfl, hx1, hkn⟩
     have hk1 := hk0.then hkn
     clear hkn
     go_wp2_with fail
     refine Calls.mono (take_n hx1 ⟨#[43]⟩ [43] rfl (by decide) Hh2.out) ?_
     rintro e2 w2 ⟨rfl, hx2, hkn⟩
     have hk2 := hk1.then hkn
     clear hkn
     go_wp2_with fail
     refine Calls.mono (number_any hx2) ?_
     intro e3 w3 hr
     rw [HN.out] at hr
     obtain ⟨rfl, hxn, hkn⟩ := hr
     have hkm := hk2.then hkn
     clear hkn
     rw [HL.out]
     go_wp2_with fail
     go_ret3
     exact rp_ok HS.out ⟨rfl, hxn, hkm⟩
theorem signed_any {C : Cf} {w : World} {a f : Nat} {T : Rw} (h : LX C w a f T) : Calls Tryz.prog 90 #[.pointer (some ⟨C.L, 0, none⟩)] w (RP C w (C.p.signed f a) (SgOk C w a f T)) := by
 cases h1 : C.p.has [45] a with
 | true => exact signed_1 h h1
 | false =>
   cases h2 : C.p.has [43] a with
   | true => exact signed_2 h h1 h2
   | false => exact signed_0 h h1 h2
end Go.Proofs.YtkcmjcgjfjfimaaGreatDoor.tkw
end
section
namespace Go.Proofs.YtkcmjcgjfjfimaaGreatDoor.tkw
open Go Go.RowKit Go.Maps utfp utfw ucdp setp setw prp tkp
set_option maxHeartbeats 1000000 in
theorem name_any {C : Cf} {w : World} {a f : Nat} {T : Rw} (h : LX C w a f T) :
   Calls Tryz.prog 91 #[.pointer (some ⟨C.L, 0, none⟩)] w (Ret C w (.tuple #[.string (C.p.sub a (C.p.name a).1), .bool (C.p.name a).2]) (C.p.name a).1 f T) := by
 have HR := Lib.hid (run_wrd h)
 have bd := run_bd (p := C.p) (fits := isWrd) (k := 1000) h.an
 have hg := h.sl.1
 have hn := h.ok.n
 unfold Pt.name
 simp only
 obtain ⟨e, he⟩ : ∃ e, C.p.run isWrd 1000 a = e := ⟨_, rfl⟩
 rw [he] at HR bd ⊢
 have hsz := sub_size C.p a e
 have HAT := Lib.hid (fun k hk => sub_at (p := C.p) hg (a := a) (b := e) (k := k) hk)
 obtain ⟨s, hs⟩ : ∃ s, C.p.sub a e = s := ⟨_, rfl⟩
 rw [hs] at HR hsz HAT ⊢
 have HG := Lib.hid hg
 have HG := Lib.hid hg
 clear h he hs hg
 obtain ⟨b1, b2, b3⟩ := bd
 by_cases hz : s.size = 0
 · have em := is_empty hz
   have HZ := Lib.hid (show (decide (a < e) && !isDig (C.p.g a) && decide (e - a ≤ 32)) = false by rw [show decide (a < e) = false by simp; omega]; rfl)
   clear hz hsz
   go_enter Tryz.func91, Tryz.ntmps91
   go_wp2_with fail
   refine HR.out.mono ?_
   rintro e1 w1 ⟨rfl, hx, hk⟩
   go_wp2_with fail
   go_ret2
   exact ret_of (by rw [HZ.out]; rfl) rfl rfl hx hk
 · have em := not_empty (s := s) (by omega)
   have hpos : 0 < s.size := by omega
   have hat := HAT.out 0 hpos
   rw [Nat.add_zero] at hat
   have g1 := (HG.out a).1
   have g2 := (HG.out a).2
   have HSZ := Lib.hid hsz
   clear hsz hz
   have hlt : decide (a < e) = true := by have := HSZ.out; simp; omega
   cases hd : isDig (C.p.g a) with
   | true =>
     have HD := Lib.hid hd
     rw [hlt]
     clear hd hlt
     go_enter Tryz.func91, Tryz.ntmps91
     go_wp2_with fail
     refine HR.out.mono ?_
     rintro e1 w1 ⟨rfl, hx, hk⟩
     go_wp2_with fail
     refine (isDig_any _ _).mono ?_
     rintro e2 w2 ⟨rfl, rfl⟩
     rw [HD.out]
     go_wp2_with fail
     go_ret2
     exact ret_of rfl rfl rfl hx hk
   | false =>
     have HD := Lib.hid hd
     rw [hlt]
     clear hd hlt
     by_cases h32 : s.size ≤ 32
     · have hi : (s.size : Int) ≤ 32 := by omega
       have HE := Lib.hid (show (true && !false && decide (e - a ≤ 32)) = true by have := HSZ.out; simp; omega)
       go_enter Tryz.func91, Tryz.ntmps91
       go_wp2_with fail
       refine HR.out.mono ?_
       rintro e1 w1 ⟨rfl, hx, hk⟩
       go_wp2_with fail
       refine (isDig_any _ _).mono ?_
       rintro e2 w2 ⟨rfl, rfl⟩
       rw [HD.out]
       go_wp2_with fail
       go_ret2
       exact ret_of (by rw [HE.out]; rfl) rfl rfl hx hk
     · have hi : decide ((s.size : Int) ≤ 32) = false := by simp; omega
       have HE := Lib.hid (show (true && !false && decide (e - a ≤ 32)) = false by have := HSZ.out; simp; omega)
       clear h32
       go_enter Tryz.func91, Tryz.ntmps91
       go_wp2_with fail
       refine HR.out.mono ?_
       rintro e1 w1 ⟨rfl, hx, hk⟩
       go_wp2_with fail
       refine (isDig_any _ _).mono ?_
       rintro e2 w2 ⟨rfl, rfl⟩
       rw [HD.out]
       go_wp2_with fail
       go_ret2
       exact ret_of (by rw [HE.out]; rfl) rfl rfl hx hk
set_option maxHeartbeats 1000000 in
theorem mode_1 {C : Cf} {w : World} {a f : Nat} {T : Rw} (h : LX C w a f T) (h1 : C.p.has [63] a = true) : Calls Tryz.prog 61 #[.pointer (some ⟨C.L, 0, none⟩)] w (Ret C w (.int .i64 (C.p.mode a).1) (C.p.mode a).2 f T) := by
 have hs : C.p.mode a = (1, a + 1) := by unfold Pt.mode; rw [if_pos h1]
 rw [hs]
 clear hs
 have hk0 := Kept.refl w.heap.size C.L w
 have hB := h.hb
 have H1 := Lib.hid h1
 clear h1
 go_enter Tryz.func61, Tryz.ntmps61
 go_wp2_with fail
 refine Calls.mono (take_y h ⟨#[63]⟩ [63] 1 rfl rfl (by decide) H1.out) ?_
 rintro e1 w1 ⟨rfl, hx1, hkn⟩
 have hk1 := hk0.then hkn
 clear hkn
 go_wp2_with fail
 go_ret
 exact ⟨rfl, hx1, hk1⟩
set_option maxHeartbeats 1000000 in
theorem mode_2 {C : Cf} {w : World} {a f : Nat} {T : Rw} (h : LX C w a f T) (h1 : C.p.has [63] a = false) (h2 : C.p.has [43] a = true) : Calls Tryz.prog 61 #[.pointer (some ⟨C.L, 0, none⟩)] w (Ret C w (.int .i64 (C.p.mode a).1) (C.p.mode a).2 f T) := by
 have hs : C.p.mode a = (2, a + 1) := by unfold Pt.mode; rw [if_neg (by simp [h1]), if_pos h2]
 rw [hs]
 clear hs
 have hk0 := Kept.refl w.heap.size C.L w
 have hB := h.hb
 have H1 := Lib.hid h1
 clear h1
 have H2 := Lib.hid h2
 clear h2
 go_enter Tryz.func61, Tryz.ntmps61
 go_wp2_with fail
 refine Calls.mono (take_n h ⟨#[63]⟩ [63] rfl (by decide) H1.out) ?_
 rintro e1 w1 ⟨rfl, hx1, hkn⟩
 have hk1 := hk0.then hkn
 clear hkn
 go_wp2_with fail
 refine Calls.mono (take_y hx1 ⟨#[43]⟩ [43] 1 rfl rfl (by decide) H2.out) ?_
 rintro e2 w2 ⟨rfl, hx2, hkn⟩
 have hk2 := hk1.then hkn
 clear hkn
 go_wp2_with fail
 go_ret
 exact ⟨rfl, hx2, hk2⟩
set_option maxHeartbeats 1000000 in
theorem mode_0 {C : Cf} {w : World} {a f : Nat} {T : Rw} (h : LX C w a f T) (h1 : C.p.has [63] a = false) (h2 : C.p.has [43] a = false) : Calls Tryz.prog 61 #[.pointer (some ⟨C.L, 0, none⟩)] w (Ret C w (.int .i64 (C.p.mode a).1) (C.p.mode a).2 f T) := by
 have hs : C.p.mode a = (0, a) := by unfold Pt.mode; rw [if_neg (by simp [h1]), if_neg (by simp [h2])]
 rw [hs]
 clear hs
 have hk0 := Kept.refl w.heap.size C.L w
 have hB := h.hb
 have H1 := Lib.hid h1
 clear h1
 have H2 := Lib.hid h2
 clear h2
 go_enter Tryz.func61, Tryz.ntmps61
 go_wp2_with fail
 refine Calls.mono (take_n h ⟨#[63]⟩ [63] rfl (by decide) H1.out) ?_
 rintro e1 w1 ⟨rfl, hx1, hkn⟩
 have hk1 := hk0.then hkn
 clear hkn
 go_wp2_with fail
 refine Calls.mono (take_n hx1 ⟨#[43]⟩ [43] rfl (by decide) H2.out) ?_
 rintro e2 w2 ⟨rfl, hx2, hkn⟩
 have hk2 := hk1.then hkn
 clear hkn
 go_wp2_with fail
 go_ret
 exact ⟨rfl, hx2, hk2⟩
theorem mode_any {C : Cf} {w : World} {a f : Nat} {T : Rw} (h : LX C w a f T) : Calls Tryz.prog 61 #[.pointer (some ⟨C.L, 0, none⟩)] w (Ret C w (.int .i64 (C.p.mode a).1) (C.p.mode a).2 f T) := by
 cases h1 : C.p.has [63] a with
 | true => exact mode_1 h h1
 | false =>
   cases h2 : C.p.has [43] a with
   | true => exact mode_2 h h1 h2
   | false => exact mode_0 h h1 h2
theorem digits_none {p : Pt} {a : Nat} (h : (p.digits a).2 = a) : (p.digits a).1 = 0 := by
 unfold Pt.digits at h ⊢
 simp only at h ⊢
 rw [h, Nat.sub_self]
 rfl
theorem bounds_bd {p : Pt} {a : Nat} (ha : a ≤ p.n) {n m : Int} {b : Nat} (h : p.bounds a = some (n, m, b)) : 0 ≤ n ∧ n ≤ 256 ∧ -1 ≤ m ∧ m ≤ 256 ∧ a ≤ b ∧ b ≤ p.n := by
 have d1 := digits_bd (p := p) ha
 unfold Pt.bounds at h
 split at h
 · cases h
 · split at h
   · rename_i h2
     have := has_le d1.2.2.2 h2
     simp only [List.length_cons, List.length_nil] at this
     have d2 := digits_bd (p := p) (a := (p.digits a).2 + 1) (by omega)
     simp only [Option.some.injEq, Prod.mk.injEq] at h
     obtain ⟨rfl, rfl, rfl⟩ := h
     refine ⟨d1.1, d1.2.1, ?_, ?_, by omega, d2.2.2.2⟩
     · split <;> omega
     · split <;> omega
   · simp only [Option.some.injEq, Prod.mk.injEq] at h
     obtain ⟨rfl, rfl, rfl⟩ := h
     omega
set_option maxHeartbeats 2000000 in
theorem bounds_any {C : Cf} {w : World} {a f : Nat} {T : Rw} (h : LX C w a f T) : Calls Tryz.prog 85 #[.pointer (some ⟨C.L, 0, none⟩)] w (SgOk C w a f T (C.p.bounds a)) := by
 have bd := digits_bd (p := C.p) h.an
 have hd := digits_any h
 obtain ⟨⟨v, b⟩, hv⟩ : ∃ d, C.p.digits a = d := ⟨_, rfl⟩
 have hbs : C.p.bounds a = if (C.p.digits a).2 = a then none
   else if C.p.has [44] (C.p.digits a).2 = true then some ((C.p.digits a).1, (if (C.p.digits ((C.p.digits a).2 + 1)).2 = (C.p.digits a).2 + 1 then -1 else (C.p.digits ((C.p.digits a).2 + 1)).1), (C.p.digits ((C.p.digits a).2 + 1)).2)
   else some ((C.p.digits a).1, (C.p.digits a).1, (C.p.digits a).2) := rfl
 have h0 := digits_none (p := C.p) (a := a)
 rw [hv] at hd bd hbs h0
 simp only at hd bd hbs h0
 obtain ⟨d1, d2, d3, d4⟩ := bd
 have hk0 := Kept.refl w.heap.size C.L w
 have hB := h.hb
 have HD := Lib.hid hd
 clear hd hv
 by_cases hz : b = a
 · have hv0 := h0 hz
   subst hv0
   rw [if_pos hz] at hbs
   subst hz
   have HS := Lib.hid hbs
   have HD2 := HD.out
   rw [show decide (b < b) = false by simp] at HD2
   have HD3 := Lib.hid HD2
   clear HD HD2 h0 hbs
   go_enter Tryz.func85, Tryz.ntmps85
   go_wp2_with fail
   refine Calls.mono (HD3.out) ?_
   rintro e1 w1 ⟨rfl, hx1, hkn⟩
   have hk1 := hk0.then hkn
   clear hkn
   go_wp2_with fail
   rw [HS.out]
   go_ret3
   exact ⟨rfl, hx1, hk1⟩
 · rw [if_neg hz] at hbs
   have HD2 := HD.out
   rw [show decide (a < b) = true by simp; omega] at HD2
   have HD3 := Lib.hid HD2
   clear HD HD2 h0
   cases h44 : C.p.has [44] b with
   | false =>
     rw [if_neg (by simp [h44])] at hbs
     have HS := Lib.hid hbs
     have H44 := Lib.hid h44
     clear hbs hz h44
     go_enter Tryz.func85, Tryz.ntmps85
     go_wp2_with fail
     refine Calls.mono (HD3.out) ?_
     rintro e1 w1 ⟨rfl, hx1, hkn⟩
     have hk1 := hk0.then hkn
     clear hkn
     go_wp2_with fail
     refine Calls.mono (take_n hx1 ⟨#[44]⟩ [44] rfl (by decide) H44.out) ?_
     rintro e2 w2 ⟨rfl, hx2, hkn⟩
     have hk2 := hk1.then hkn
     clear hkn
     go_wp2_with fail
     rw [HS.out]
     go_ret3
     exact ⟨rfl, hx2, hk2⟩
   | true =>
     rw [if_pos h44] at hbs
     have hb1 := has_le d4 h44
     simp only [List.length_cons, List.length_nil] at hb1
     have bd2 := digits_bd (p := C.p) (a := b + 1) (by omega)
     obtain ⟨⟨v2, b2⟩, hv2⟩ : ∃ d, C.p.digits (b + 1) = d := ⟨_, rfl⟩
     rw [hv2] at hbs bd2
     simp only at hbs bd2
     obtain ⟨q1, q2, q3, q4⟩ := bd2
     have H44 := Lib.hid h44
     have HV2 := Lib.hid hv2
     clear hz h44 hv2
     by_cases hz2 : b2 = b + 1
     · rw [if_pos hz2] at hbs
       have HS := Lib.hid hbs
       have HL := Lib.hid (show decide (b + 1 < b2) = false by simp; omega)
       clear hbs hz2
       go_enter Tryz.func85, Tryz.ntmps85
       go_wp2_with fail
       refine Calls.mono (HD3.out) ?_
       rintro e1 w1 ⟨rfl, hx1, hkn⟩
       have hk1 := hk0.then hkn
       clear hkn
       go_wp2_with fail
       refine Calls.mono (take_y hx1 ⟨#[44]⟩ [44] 1 rfl rfl (by decide) H44.out) ?_
       rintro e2 w2 ⟨rfl, hx2, hkn⟩
       have hk2 := hk1.then hkn
       clear hkn
       go_wp2_with fail
       refine Calls.mono (digits_any hx2) ?_
       intro e3 w3 hr
       rw [HV2.out] at hr
       obtain ⟨rfl, hx3, hkn⟩ := hr
       have hk3 := hk2.then hkn
       clear hkn
       simp only
       rw [HL.out]
       go_wp2_with fail
       rw [HS.out]
       go_ret3
       exact ⟨rfl, hx3, hk3⟩
     · rw [if_neg hz2] at hbs
       have HS := Lib.hid hbs
       have HL := Lib.hid (show decide (b + 1 < b2) = true by simp; omega)
       clear hbs hz2
       go_enter Tryz.func85, Tryz.ntmps85
       go_wp2_with fail
       refine Calls.mono (HD3.out) ?_
       rintro e1 w1 ⟨rfl, hx1, hkn⟩
       have hk1 := hk0.then hkn
       clear hkn
       go_wp2_with fail
       refine Calls.mono (take_y hx1 ⟨#[44]⟩ [44] 1 rfl rfl (by decide) H44.out) ?_
       rintro e2 w2 ⟨rfl, hx2, hkn⟩
       have hk2 := hk1.then hkn
       clear hkn
       go_wp2_with fail
       refine Calls.mono (digits_any hx2) ?_
       intro e3 w3 hr
       rw [HV2.out] at hr
       obtain ⟨rfl, hx3, hkn⟩ := hr
       have hk3 := hk2.then hkn
       clear hkn
       simp only
       rw [HL.out]
       go_wp2_with fail
       rw [HS.out]
       go_ret3
       exact ⟨rfl, hx3, hk3⟩
end Go.Proofs.YtkcmjcgjfjfimaaGreatDoor.tkw
end
section
namespace Go.Proofs.YtkcmjcgjfjfimaaGreatDoor.tkw
open Go Go.RowKit Go.Maps utfp utfw ucdp setp setw prp tkp
def idxN : Option Nat → Nat → Int
 | none, _ => -1
 | some i, a => (i : Int) - a
theorem find_bd {p : Pt} {c : Int} : ∀ {k a i : Nat}, p.find c k a = some i → a ≤ i ∧ i < a + k
 | 0, a, i, h => by cases h
 | k + 1, a, i, h => by
   unfold Pt.find at h
   split at h
   · cases h; omega
   · have := find_bd h; omega
theorem byte_eq {g c : Int} (h1 : 0 ≤ g) (h2 : g ≤ 255) (h3 : 0 ≤ c) (h4 : c ≤ 255) : (UInt8.ofNat g.toNat == c.toNat.toUInt8) = decide (g = c) := by
 by_cases h : g = c
 · subst h; simp [Nat.toUInt8]
 · rw [decide_eq_false h, beq_eq_false_iff_ne]
   intro e
   have := congrArg UInt8.toNat e
   simp [Nat.toUInt8, UInt8.toNat_ofNat'] at this
   omega
theorem index_find {p : Pt} (hg : ∀ i, 0 ≤ p.g i ∧ p.g i ≤ 255) {c : Int} (h1 : 0 ≤ c) (h2 : c ≤ 255) : ∀ (k a : Nat), Lib.indexByte (Lib.bytesOf ((List.range k).map fun i => p.g (a + i))) c.toNat.toUInt8 = idxN (p.find c k a) a
 | 0, a => rfl
 | k + 1, a => by
   have ih := index_find hg h1 h2 k (a + 1)
   rw [List.range_succ_eq_map]
   have hm : ((0 :: (List.range k).map Nat.succ).map fun i => p.g (a + i)) = p.g a :: (List.range k).map fun i => p.g (a + 1 + i) := by
     simp only [List.map_cons, List.map_map, Nat.add_zero]
     congr 1
     apply List.map_congr_left
     intro i _
     simp only [Function.comp, Nat.succ_eq_add_one]
     congr 1
     omega
   rw [hm]
   show Lib.indexByte (UInt8.ofNat (p.g a).toNat :: Lib.bytesOf _) _ = _
   unfold Lib.indexByte Pt.find
   rw [byte_eq (hg a).1 (hg a).2 h1 h2, ih]
   by_cases h : p.g a = c
   · simp [h, idxN]
   · simp only [h, decide_false, Bool.false_eq_true, if_false]
     cases hf : p.find c k (a + 1) with
     | none => simp [idxN]
     | some i =>
       have := find_bd hf
       have hne : ((i : Int) - ((a + 1 : Nat) : Int) == -1) = false := by rw [beq_eq_false_iff_ne]; omega
       simp only [idxN, hne, Bool.false_eq_true, if_false]
       omega
set_option maxRecDepth 100000 in
theorem indexByte_any (v : Value) (p : Pt) (a k : Nat) (c : Int) (w : World) (h : Sl w v k fun i => p.g (a + i)) (hg : ∀ i, 0 ≤ p.g i ∧ p.g i ≤ 255) (h1 : 0 ≤ c) (h2 : c ≤ 255) :
   Calls Tryz.prog 155 #[v, .int .u8 c] w fun e w' => e = .returned (.int .i64 (idxN (p.find c k a) a)) ∧ w = w' := by
 have HI := Lib.hid (index_find hg h1 h2 k a)
 obtain ⟨_, _, ⟨rfl, a0, cap, rfl, _⟩ | ⟨b, off, cap, rfl, _, hc⟩⟩ := h
 · cases a0 with
   | none =>
     clear hg
     go_enter Tryz.func155, Tryz.ntmps155
     go_wp2
     rw [run_callFunc_extern Tryz.func170 (by kernel_rfl) (by kernel_rfl) (by kernel_rfl) (e := Extern.BytealgIndexByte.indexByte) (by kernel_rfl), Lib.run_indexByteNil w 0 cap c]
     simp only [Result.andThen]
     rw [Oper.upon_value]
     go_wp2
     go_ret
     exact ⟨rfl, rfl⟩
   | some ad =>
     clear hg
     go_enter Tryz.func155, Tryz.ntmps155
     go_wp2
     rw [run_callFunc_extern Tryz.func170 (by kernel_rfl) (by kernel_rfl) (by kernel_rfl) (e := Extern.BytealgIndexByte.indexByte) (by kernel_rfl), Lib.run_indexByteAt w ad 0 cap [] rfl (fun i hi => by omega) c]
     simp only [Result.andThen]
     rw [Oper.upon_value]
     go_wp2
     go_ret
     exact ⟨rfl, rfl⟩
 · have HC := Lib.hid hc
   clear hg hc
   go_enter Tryz.func155, Tryz.ntmps155
   go_wp2
   rw [run_callFunc_extern Tryz.func170 (by kernel_rfl) (by kernel_rfl) (by kernel_rfl) (e := Extern.BytealgIndexByte.indexByte) (by kernel_rfl), Lib.run_indexByteSlice w b off k cap ((List.range k).map fun i => p.g (a + i)) (by simp) (fun i hi => by rw [HC.out i hi]; simp [List.getD, hi]) c, HI.out]
   simp only [Result.andThen]
   rw [Oper.upon_value]
   go_wp2
   go_ret
   exact ⟨rfl, rfl⟩
set_option maxRecDepth 100000 in
theorem index1_any (v v2 : Value) (p : Pt) (a k : Nat) (h2g : Nat → Int) (w : World) (h : Sl w v k fun i => p.g (a + i)) (hs : Sl w v2 1 h2g) (hg : ∀ i, 0 ≤ p.g i ∧ p.g i ≤ 255) :
   Calls Tryz.prog 129 #[v, v2] w fun e w' => e = .returned (.int .i64 (idxN (p.find (h2g 0) k a) a)) ∧ w = w' := by
 have hb := hs.1 0
 have HI := Lib.hid (indexByte_any v p a k (h2g 0) w h hg hb.1 hb.2)
 obtain ⟨b, off, cap, rfl, hc⟩ := cell_sl hs (i := 0) (by omega)
 obtain ⟨x, y, rfl⟩ := len_sl h
 rw [Nat.add_zero] at hc
 clear h hs hg hb
 go_enter Tryz.func129, Tryz.ntmps129
 go_wp2_with fail
 refine HI.out.mono ?_
 rintro e w' ⟨rfl, rfl⟩
 go_wp2_with fail
 go_ret
 exact ⟨rfl, rfl⟩
theorem to_sl_again {u : World} {v v' : Value} {n k : Nat} {g : Nat → Int} (hr : ∀ w1, (Instr.slice 22 v none (some (.int .i64 k)) none).run Tryz.prog w1 = .ok v' w1) (h : Sl u v n g) (hk : k ≤ n) : Sl u v' k g := by
 obtain ⟨v2, hr2, h2⟩ := to_sl h hk
 have := (hr u).symm.trans (hr2 u)
 simp only [Result.ok.injEq, and_true] at this
 rw [this]
 exact h2
theorem from_sl_again {u : World} {v v' : Value} {n a : Nat} {g : Nat → Int} (hr : ∀ w1, (Instr.slice 22 v (some (.int .i64 a)) none none).run Tryz.prog w1 = .ok v' w1) (h : Sl u v n g) (ha : a ≤ n) : Sl u v' (n - a) fun i => g (a + i) := by
 obtain ⟨v2, hr2, h2⟩ := from_sl h ha
 have := (hr u).symm.trans (hr2 u)
 simp only [Result.ok.injEq, and_true] at this
 rw [this]
 exact h2
def CutP (v : Value) (p : Pt) (a k : Nat) (r : Option Nat) (w : World) (e : Ending) (w' : World) : Prop := (∃ q, w' = w.drewN q) ∧ match r with
 | none => e = .returned (.tuple #[v, .slice none 0 0, .bool false])
 | some i => ∃ va vb, e = .returned (.tuple #[va, vb, .bool true]) ∧ ∀ u, Sl u v k (fun j => p.g (a + j)) → Sl u va (i - a) fun j => p.g (a + j)
set_option maxRecDepth 100000 in
set_option maxHeartbeats 1000000 in
theorem cut_any (v v2 : Value) (p : Pt) (a k : Nat) (h2g : Nat → Int) (w : World) (h : Sl w v k fun i => p.g (a + i)) (hs : Sl w v2 1 h2g) (hg : ∀ i, 0 ≤ p.g i ∧ p.g i ≤ 255) (hk : k ≤ 1000) :
   Calls Tryz.prog 106 #[v, v2] w (CutP v p a k (p.find (h2g 0) k a) w) := by
 have HI := Lib.hid (index1_any v v2 p a k h2g w h hs hg)
 cases hf : p.find (h2g 0) k a with
 | none =>
   rw [hf, show idxN none a = -1 from rfl] at HI
   clear h hs hg hf
   go_enter Tryz.func106, Tryz.ntmps106
   go_wp2_with fail
   refine HI.out.mono ?_
   rintro e w' ⟨rfl, rfl⟩
   go_wp2_with fail
   go_ret3
   exact ⟨⟨0, rfl⟩, rfl⟩
 | some i =>
   have bd := find_bd hf
   rw [hf, show idxN (some i) a = (i : Int) - a from rfl] at HI
   obtain ⟨x2, y2, rfl⟩ := len_sl hs
   obtain ⟨j, hj⟩ : ∃ j : Nat, (i : Int) - a = j := ⟨i - a, by omega⟩
   rw [hj] at HI
   obtain ⟨va, hra, hva⟩ := to_sl h (k := j) (by omega)
   obtain ⟨vb, hrb, hvb⟩ := from_sl h (a := j + 1) (by omega)
   have hw : IntKind.i64.wrap ((j : Int) + 1) = (j : Int) + 1 := IntWalk.i64_in _ (by omega)
   have hrb2 : ∀ w1, (Instr.slice 22 v (some (.int .i64 ((j : Int) + 1))) none none).run Tryz.prog w1 = .ok vb w1 := fun w1 => by rw [← hrb w1]; rfl
   have HV := Lib.hid (show ∀ u, Sl u v k (fun j => p.g (a + j)) → Sl u va (i - a) fun j => p.g (a + j) by rw [show i - a = j by omega]; exact fun u hu => to_sl_again hra hu (by omega))
   have hj0 : (0 : Int) ≤ (j : Int) := by omega
   clear h hs hg hf hva hvb hrb hj bd
   go_enter Tryz.func106, Tryz.ntmps106
   go_wp2_with fail
   refine HI.out.mono ?_
   rintro e w' ⟨rfl, rfl⟩
   go_wp2_with fail
   go_quiet (fail)
   go_wp2_with fail
   go_ret3
   exact ⟨⟨_, rfl⟩, va, vb, rfl, HV.out⟩
end Go.Proofs.YtkcmjcgjfjfimaaGreatDoor.tkw
end
section
namespace Go.Proofs.YtkcmjcgjfjfimaaGreatDoor.tkw
open Go Go.RowKit Go.Maps utfp utfw ucdp setp setw prp tkp
def UnOk (C : Cf) (w : World) (a f : Nat) (T : Rw) : Option Nat → Ending → World → Prop
 | none => Ret C w (.tuple #[.string ⟨#[]⟩, .bool false]) a f T
 | some i => Ret C w (.tuple #[.string (C.p.sub a i), .bool true]) (i + 1) f T
set_option maxRecDepth 100000 in
set_option maxHeartbeats 4000000 in
theorem until_any {C : Cf} {w : World} {a f : Nat} {T : Rw} (h : LX C w a f T) (c : UInt8) : Calls Tryz.prog 75 #[.pointer (some ⟨C.L, 0, none⟩), .string ⟨#[c]⟩] w (UnOk C w a f T (C.p.until (c.toNat : Int) a)) := by
 have hc := h.cells
 have c0 := hc.c0
 have c1 := hc.c1
 have hsl := h.sl
 have ha := h.an
 have hn := h.ok.n
 have tl := h.tl
 obtain ⟨v', hr, hv⟩ := from_sl hsl ha
 have HV := Lib.hid hv
 have HR := Lib.hid hr
 have HC := Lib.hid (fun u => conv_bs u ⟨#[c]⟩ (show 1 ≤ 1000 by omega))
 have hcv := fun u => (conv_bs u ⟨#[c]⟩ (show 1 ≤ 1000 by omega)).1
 have hs0 : sg ⟨#[c]⟩ 0 = (c.toNat : Int) := rfl
 have hz : (⟨#[c]⟩ : ByteArray).size = 1 := rfl
 rw [hz] at HC hcv
 have HCUT := Lib.hid (fun (u : World) (hu : Below w.heap.size w u) (v2 : Value) (h2 : Sl u v2 1 (sg ⟨#[c]⟩)) => cut_any v' v2 C.p a (C.p.n - a) (sg ⟨#[c]⟩) u (below_sl hu hv) h2 hsl.1 (by omega))
 rw [hs0] at HCUT
 have hfd : C.p.find (c.toNat : Int) (C.p.n - a) a = C.p.until (c.toNat : Int) a := rfl
 rw [hfd] at HCUT
 have C0 := Lib.hid c0
 have C1 := Lib.hid c1
 have HX := Lib.hid h
 cases hf : C.p.until (c.toNat : Int) a with
 | none =>
   have HF := Lib.hid hf
   clear h hc hsl hv c0 c1 hs0 hz hfd hf hr
   have hr := HR.out
   go_enter Tryz.func75, Tryz.ntmps75
   go_wp2_with fail
   refine wp_region_held_drew (S := fun w' => Below w.heap.size w w') (by kernel_rfl) (Below.refl _ _).drew (fun hHeld => ?_)
   refine wpAnyH_take (i := 0) (v := ?_) rfl (by kernel_rfl) (by kernel_rfl) (by kernel_rfl) (fun _ _ _ h => h) (Or.inl ⟨by rfl, ?_⟩) (by assumption) ?_
   rotate_left
   · intro w' hSw
     have k0 := below_cell hSw C0.out
     have k1 := below_cell hSw C1.out
     go_simp
     try rfl
   simp only [Act.put, List.setIfInBounds_toArray, List.set_cons_zero, List.set_cons_succ, List.getElem_toArray, List.getElem_cons_zero]
   refine wpAnyH_take (i := 1) (v := ?_) rfl (by kernel_rfl) (by kernel_rfl) (by kernel_rfl) (fun _ _ _ h => h) (Or.inl ⟨by rfl, ?_⟩) (by assumption) ?_
   rotate_left
   · intro w' hSw
     have k0 := below_cell hSw C0.out
     have k1 := below_cell hSw C1.out
     go_simp
     try rfl
   simp only [Act.put, List.setIfInBounds_toArray, List.set_cons_zero, List.set_cons_succ, List.getElem_toArray, List.getElem_cons_succ, List.getElem_cons_zero]
   refine wpAnyH_take (i := 2) (v := ?_) rfl (by kernel_rfl) (by kernel_rfl) (by kernel_rfl) (fun _ _ _ h => h) (Or.inl ⟨by rfl, ?_⟩) (by assumption) ?_
   rotate_left
   · intro w' hSw
     have k0 := below_cell hSw C0.out
     have k1 := below_cell hSw C1.out
     go_simp
     try rfl
   simp only [Act.put, List.setIfInBounds_toArray, List.set_cons_zero, List.set_cons_succ, List.getElem_toArray, List.getElem_cons_succ, List.getElem_cons_zero]
   refine wpAnyH_take (i := 3) (v := ?_) rfl (by kernel_rfl) (by kernel_rfl) (by kernel_rfl) (fun _ _ _ h => h) (Or.inl ⟨by rfl, ?_⟩) (by assumption) ?_
   rotate_left
   · intro w' hSw
     have k0 := below_cell hSw C0.out
     have k1 := below_cell hSw C1.out
     go_simp
     try rfl
   simp only [Act.put, List.setIfInBounds_toArray, List.set_cons_zero, List.set_cons_succ, List.getElem_toArray, List.getElem_cons_succ, List.getElem_cons_zero]
   refine wpAnyH_take (i := 4) (v := ?_) rfl (by kernel_rfl) (by kernel_rfl) (by kernel_rfl) (fun _ _ _ h => h) (Or.inl ⟨by rfl, ?_⟩) (by assumption) ?_
   rotate_left
   · intro w' hSw
     have k0 := below_cell hSw C0.out
     have k1 := below_cell hSw C1.out
     go_simp
     try rfl
   simp only [Act.put, List.setIfInBounds_toArray, List.set_cons_zero, List.set_cons_succ, List.getElem_toArray, List.getElem_cons_succ, List.getElem_cons_zero]
   refine wpAnyH_take (i := 5) (v := ?_) rfl (by kernel_rfl) (by kernel_rfl) (by kernel_rfl) (fun _ _ _ h => h) (Or.inl ⟨by rfl, ?_⟩) (by assumption) ?_
   rotate_left
   · intro w' hSw
     have k0 := below_cell hSw C0.out
     have k1 := below_cell hSw C1.out
     go_simp
     try rfl
   simp only [Act.put, List.setIfInBounds_toArray, List.set_cons_zero, List.set_cons_succ, List.getElem_toArray, List.getElem_cons_succ, List.getElem_cons_zero]
   refine wpAnyH_take (i := 6) (v := ?_) rfl (by kernel_rfl) (by kernel_rfl) (by kernel_rfl) (fun _ _ _ h => h) (Or.inl ⟨by rfl, ?_⟩) (by assumption) ?_
   rotate_left
   · intro w' hSw
     have k0 := below_cell hSw C0.out
     have k1 := below_cell hSw C1.out
     go_simp
     try rfl
   simp only [Act.put, List.setIfInBounds_toArray, List.set_cons_zero, List.set_cons_succ, List.getElem_toArray, List.getElem_cons_succ, List.getElem_cons_zero]
   refine wpAnyH_take (i := 7) (v := ?_) rfl (by kernel_rfl) (by kernel_rfl) (by kernel_rfl) (fun _ _ _ h => h) (Or.inl ⟨by rfl, ?_⟩) (by assumption) ?_
   rotate_left
   · intro w' hSw
     have k0 := below_cell hSw C0.out
     have k1 := below_cell hSw C1.out
     go_simp
     try rfl
   simp only [Act.put, List.setIfInBounds_toArray, List.set_cons_zero, List.set_cons_succ, List.getElem_toArray, List.getElem_cons_succ, List.getElem_cons_zero]
   refine wpAnyH_take (i := 8) (v := ?_) rfl (by kernel_rfl) (by kernel_rfl) (by kernel_rfl) (fun _ _ _ h => h) (Or.inl ⟨by rfl, ?_⟩) (by assumption) ?_
   rotate_left
   · intro w' hSw
     have k0 := below_cell hSw C0.out
     have k1 := below_cell hSw C1.out
     go_simp
     try rfl
   simp only [Act.put, List.setIfInBounds_toArray, List.set_cons_zero, List.set_cons_succ, List.getElem_toArray, List.getElem_cons_succ, List.getElem_cons_zero]
   refine wpAnyH_take (i := 9) (v := ?_) rfl (by kernel_rfl) (by kernel_rfl) (by kernel_rfl) (fun _ _ _ h => h) (Or.inl ⟨by rfl, ?_⟩) (by assumption) ?_
   rotate_left
   · intro w' hSw
     have k0 := below_cell hSw C0.out
     have k1 := below_cell hSw C1.out
     go_simp
     try rfl
   simp only [Act.put, List.setIfInBounds_toArray, List.set_cons_zero, List.set_cons_succ, List.getElem_toArray, List.getElem_cons_succ, List.getElem_cons_zero]
   refine wpAnyH_ready (rs := [10]) (by kernel_rfl) (by simp) ?_
   refine AllReadyH.cons rfl (fun K hK => ?_) AllReadyH.nil
   go_simp
   refine hK.out _ _ (below_trans hHeld (below_bw _ _)) (fun hHeld => ?_)
   clear hK K
   try simp only [Act.put, List.setIfInBounds_toArray, List.set_cons_zero, List.set_cons_succ, List.getElem_toArray, List.getElem_cons_succ, List.getElem_cons_zero]
   refine wpAnyH_ready (rs := [11]) (by kernel_rfl) (by simp) ?_
   refine AllReadyH.cons rfl (fun K hK => ?_) AllReadyH.nil
   go_simp
   refine Calls.mono (HCUT.out _ hHeld _ (HC.out _).2) ?_
   intro e w1 hcut
   rw [HF.out] at hcut
   obtain ⟨⟨q, rfl⟩, rfl⟩ := hcut
   refine hK.out _ _ (below_dn hHeld _) (fun hHeld => ?_)
   clear hK K
   try simp only [Act.put, List.setIfInBounds_toArray, List.set_cons_zero, List.set_cons_succ, List.getElem_toArray, List.getElem_cons_succ, List.getElem_cons_zero]
   refine wpAnyH_take (i := 12) (v := ?_) rfl (by kernel_rfl) (by kernel_rfl) (by kernel_rfl) (fun _ _ _ h => h) (Or.inl ⟨by rfl, ?_⟩) (by assumption) ?_
   rotate_left
   · intro w' hSw
     go_simp
     try rfl
   simp only [Act.put, List.setIfInBounds_toArray, List.set_cons_zero, List.set_cons_succ, List.getElem_toArray, List.getElem_cons_succ, List.getElem_cons_zero]
   refine wpAnyH_take (i := 13) (v := ?_) rfl (by kernel_rfl) (by kernel_rfl) (by kernel_rfl) (fun _ _ _ h => h) (Or.inl ⟨by rfl, ?_⟩) (by assumption) ?_
   rotate_left
   · intro w' hSw
     go_simp
     try rfl
   simp only [Act.put, List.setIfInBounds_toArray, List.set_cons_zero, List.set_cons_succ, List.getElem_toArray, List.getElem_cons_succ, List.getElem_cons_zero]
   refine wpAnyH_take (i := 14) (v := ?_) rfl (by kernel_rfl) (by kernel_rfl) (by kernel_rfl) (fun _ _ _ h => h) (Or.inl ⟨by rfl, ?_⟩) (by assumption) ?_
   rotate_left
   · intro w' hSw
     go_simp
     try rfl
   simp only [Act.put, List.setIfInBounds_toArray, List.set_cons_zero, List.set_cons_succ, List.getElem_toArray, List.getElem_cons_succ, List.getElem_cons_zero]
   refine wpAnyH_take (i := 15) (v := ?_) rfl (by kernel_rfl) (by kernel_rfl) (by kernel_rfl) (fun _ _ _ h => h) (Or.inl ⟨by rfl, ?_⟩) (by assumption) ?_
   rotate_left
   · intro w' hSw
     go_simp
     try rfl
   simp only [Act.put, List.setIfInBounds_toArray, List.set_cons_zero, List.set_cons_succ, List.getElem_toArray, List.getElem_cons_succ, List.getElem_cons_zero]
   refine wpAnyH_take (i := 16) (v := ?_) rfl (by kernel_rfl) (by kernel_rfl) (by kernel_rfl) (fun _ _ _ h => h) (Or.inl ⟨by rfl, ?_⟩) (by assumption) ?_
   rotate_left
   · intro w' hSw
     go_simp
     try rfl
   simp only [Act.put, List.setIfInBounds_toArray, List.set_cons_zero, List.set_cons_succ, List.getElem_toArray, List.getElem_cons_succ, List.getElem_cons_zero]
   refine wpAnyH_take (i := 17) (v := ?_) rfl (by kernel_rfl) (by kernel_rfl) (by kernel_rfl) (fun _ _ _ h => h) (Or.inl ⟨by rfl, ?_⟩) (by assumption) ?_
   rotate_left
   · intro w' hSw
     go_simp
     try rfl
   simp only [Act.put, List.setIfInBounds_toArray, List.set_cons_zero, List.set_cons_succ, List.getElem_toArray, List.getElem_cons_succ, List.getElem_cons_zero]
   refine wpAnyH_take (i := 18) (v := ?_) rfl (by kernel_rfl) (by kernel_rfl) (by kernel_rfl) (fun _ _ _ h => h) (Or.inl ⟨by rfl, ?_⟩) (by assumption) ?_
   rotate_left
   · intro w' hSw
     go_simp
     try rfl
   simp only [Act.put, List.setIfInBounds_toArray, List.set_cons_zero, List.set_cons_succ, List.getElem_toArray, List.getElem_cons_succ, List.getElem_cons_zero]
   refine wpAnyH_done (by kernel_rfl) ?_ _
   have HX1 := Lib.hid (HX.out.below hHeld)
   have HB1 := Lib.hid hHeld
   go_wp2_with fail
   go_ret2
   exact ⟨rfl, HX1.out, Kept.of_below HB1.out⟩
 | some i =>
   have bd := find_bd (p := C.p) (k := C.p.n - a) (a := a) hf
   have HF := Lib.hid hf
   obtain ⟨m, hm⟩ : ∃ m, i - a = m := ⟨_, rfl⟩
   clear h hc hsl hv c0 c1 hs0 hz hfd hf hr
   have hr := HR.out
   go_enter Tryz.func75, Tryz.ntmps75
   go_wp2_with fail
   refine wp_region_held_drew (S := fun w' => Below w.heap.size w w') (by kernel_rfl) (Below.refl _ _).drew (fun hHeld => ?_)
   refine wpAnyH_take (i := 0) (v := ?_) rfl (by kernel_rfl) (by kernel_rfl) (by kernel_rfl) (fun _ _ _ h => h) (Or.inl ⟨by rfl, ?_⟩) (by assumption) ?_
   rotate_left
   · intro w' hSw
     have k0 := below_cell hSw C0.out
     have k1 := below_cell hSw C1.out
     go_simp
     try rfl
   simp only [Act.put, List.setIfInBounds_toArray, List.set_cons_zero, List.set_cons_succ, List.getElem_toArray, List.getElem_cons_zero]
   refine wpAnyH_take (i := 1) (v := ?_) rfl (by kernel_rfl) (by kernel_rfl) (by kernel_rfl) (fun _ _ _ h => h) (Or.inl ⟨by rfl, ?_⟩) (by assumption) ?_
   rotate_left
   · intro w' hSw
     have k0 := below_cell hSw C0.out
     have k1 := below_cell hSw C1.out
     go_simp
     try rfl
   simp only [Act.put, List.setIfInBounds_toArray, List.set_cons_zero, List.set_cons_succ, List.getElem_toArray, List.getElem_cons_succ, List.getElem_cons_zero]
   refine wpAnyH_take (i := 2) (v := ?_) rfl (by kernel_rfl) (by kernel_rfl) (by kernel_rfl) (fun _ _ _ h => h) (Or.inl ⟨by rfl, ?_⟩) (by assumption) ?_
   rotate_left
   · intro w' hSw
     have k0 := below_cell hSw C0.out
     have k1 := below_cell hSw C1.out
     go_simp
     try rfl
   simp only [Act.put, List.setIfInBounds_toArray, List.set_cons_zero, List.set_cons_succ, List.getElem_toArray, List.getElem_cons_succ, List.getElem_cons_zero]
   refine wpAnyH_take (i := 3) (v := ?_) rfl (by kernel_rfl) (by kernel_rfl) (by kernel_rfl) (fun _ _ _ h => h) (Or.inl ⟨by rfl, ?_⟩) (by assumption) ?_
   rotate_left
   · intro w' hSw
     have k0 := below_cell hSw C0.out
     have k1 := below_cell hSw C1.out
     go_simp
     try rfl
   simp only [Act.put, List.setIfInBounds_toArray, List.set_cons_zero, List.set_cons_succ, List.getElem_toArray, List.getElem_cons_succ, List.getElem_cons_zero]
   refine wpAnyH_take (i := 4) (v := ?_) rfl (by kernel_rfl) (by kernel_rfl) (by kernel_rfl) (fun _ _ _ h => h) (Or.inl ⟨by rfl, ?_⟩) (by assumption) ?_
   rotate_left
   · intro w' hSw
     have k0 := below_cell hSw C0.out
     have k1 := below_cell hSw C1.out
     go_simp
     try rfl
   simp only [Act.put, List.setIfInBounds_toArray, List.set_cons_zero, List.set_cons_succ, List.getElem_toArray, List.getElem_cons_succ, List.getElem_cons_zero]
   refine wpAnyH_take (i := 5) (v := ?_) rfl (by kernel_rfl) (by kernel_rfl) (by kernel_rfl) (fun _ _ _ h => h) (Or.inl ⟨by rfl, ?_⟩) (by assumption) ?_
   rotate_left
   · intro w' hSw
     have k0 := below_cell hSw C0.out
     have k1 := below_cell hSw C1.out
     go_simp
     try rfl
   simp only [Act.put, List.setIfInBounds_toArray, List.set_cons_zero, List.set_cons_succ, List.getElem_toArray, List.getElem_cons_succ, List.getElem_cons_zero]
   refine wpAnyH_take (i := 6) (v := ?_) rfl (by kernel_rfl) (by kernel_rfl) (by kernel_rfl) (fun _ _ _ h => h) (Or.inl ⟨by rfl, ?_⟩) (by assumption) ?_
   rotate_left
   · intro w' hSw
     have k0 := below_cell hSw C0.out
     have k1 := below_cell hSw C1.out
     go_simp
     try rfl
   simp only [Act.put, List.setIfInBounds_toArray, List.set_cons_zero, List.set_cons_succ, List.getElem_toArray, List.getElem_cons_succ, List.getElem_cons_zero]
   refine wpAnyH_take (i := 7) (v := ?_) rfl (by kernel_rfl) (by kernel_rfl) (by kernel_rfl) (fun _ _ _ h => h) (Or.inl ⟨by rfl, ?_⟩) (by assumption) ?_
   rotate_left
   · intro w' hSw
     have k0 := below_cell hSw C0.out
     have k1 := below_cell hSw C1.out
     go_simp
     try rfl
   simp only [Act.put, List.setIfInBounds_toArray, List.set_cons_zero, List.set_cons_succ, List.getElem_toArray, List.getElem_cons_succ, List.getElem_cons_zero]
   refine wpAnyH_take (i := 8) (v := ?_) rfl (by kernel_rfl) (by kernel_rfl) (by kernel_rfl) (fun _ _ _ h => h) (Or.inl ⟨by rfl, ?_⟩) (by assumption) ?_
   rotate_left
   · intro w' hSw
     have k0 := below_cell hSw C0.out
     have k1 := below_cell hSw C1.out
     go_simp
     try rfl
   simp only [Act.put, List.setIfInBounds_toArray, List.set_cons_zero, List.set_cons_succ, List.getElem_toArray, List.getElem_cons_succ, List.getElem_cons_zero]
   refine wpAnyH_take (i := 9) (v := ?_) rfl (by kernel_rfl) (by kernel_rfl) (by kernel_rfl) (fun _ _ _ h => h) (Or.inl ⟨by rfl, ?_⟩) (by assumption) ?_
   rotate_left
   · intro w' hSw
     have k0 := below_cell hSw C0.out
     have k1 := below_cell hSw C1.out
     go_simp
     try rfl
   simp only [Act.put, List.setIfInBounds_toArray, List.set_cons_zero, List.set_cons_succ, List.getElem_toArray, List.getElem_cons_succ, List.getElem_cons_zero]
   refine wpAnyH_ready (rs := [10]) (by kernel_rfl) (by simp) ?_
   refine AllReadyH.cons rfl (fun K hK => ?_) AllReadyH.nil
   go_simp
   refine hK.out _ _ (below_trans hHeld (below_bw _ _)) (fun hHeld => ?_)
   clear hK K
   try simp only [Act.put, List.setIfInBounds_toArray, List.set_cons_zero, List.set_cons_succ, List.getElem_toArray, List.getElem_cons_succ, List.getElem_cons_zero]
   refine wpAnyH_ready (rs := [11]) (by kernel_rfl) (by simp) ?_
   refine AllReadyH.cons rfl (fun K hK => ?_) AllReadyH.nil
   go_simp
   refine Calls.mono (HCUT.out _ hHeld _ (HC.out _).2) ?_
   intro e w1 hcut
   rw [HF.out] at hcut
   obtain ⟨⟨q, rfl⟩, va, vb, rfl, hva⟩ := hcut
   refine hK.out _ _ (below_dn hHeld _) (fun hHeld => ?_)
   clear hK K
   try simp only [Act.put, List.setIfInBounds_toArray, List.set_cons_zero, List.set_cons_succ, List.getElem_toArray, List.getElem_cons_succ, List.getElem_cons_zero]
   refine wpAnyH_take (i := 12) (v := ?_) rfl (by kernel_rfl) (by kernel_rfl) (by kernel_rfl) (fun _ _ _ h => h) (Or.inl ⟨by rfl, ?_⟩) (by assumption) ?_
   rotate_left
   · intro w' hSw
     go_simp
     try rfl
   simp only [Act.put, List.setIfInBounds_toArray, List.set_cons_zero, List.set_cons_succ, List.getElem_toArray, List.getElem_cons_succ, List.getElem_cons_zero]
   refine wpAnyH_take (i := 13) (v := ?_) rfl (by kernel_rfl) (by kernel_rfl) (by kernel_rfl) (fun _ _ _ h => h) (Or.inl ⟨by rfl, ?_⟩) (by assumption) ?_
   rotate_left
   · intro w' hSw
     go_simp
     try rfl
   simp only [Act.put, List.setIfInBounds_toArray, List.set_cons_zero, List.set_cons_succ, List.getElem_toArray, List.getElem_cons_succ, List.getElem_cons_zero]
   refine wpAnyH_take (i := 14) (v := ?_) rfl (by kernel_rfl) (by kernel_rfl) (by kernel_rfl) (fun _ _ _ h => h) (Or.inl ⟨by rfl, ?_⟩) (by assumption) ?_
   rotate_left
   · intro w' hSw
     go_simp
     try rfl
   simp only [Act.put, List.setIfInBounds_toArray, List.set_cons_zero, List.set_cons_succ, List.getElem_toArray, List.getElem_cons_succ, List.getElem_cons_zero]
   refine wpAnyH_take (i := 15) (v := ?_) rfl (by kernel_rfl) (by kernel_rfl) (by kernel_rfl) (fun _ _ _ h => h) (Or.inl ⟨by rfl, ?_⟩) (by assumption) ?_
   rotate_left
   · intro w' hSw
     go_simp
     try rfl
   simp only [Act.put, List.setIfInBounds_toArray, List.set_cons_zero, List.set_cons_succ, List.getElem_toArray, List.getElem_cons_succ, List.getElem_cons_zero]
   refine wpAnyH_take (i := 16) (v := ?_) rfl (by kernel_rfl) (by kernel_rfl) (by kernel_rfl) (fun _ _ _ h => h) (Or.inl ⟨by rfl, ?_⟩) (by assumption) ?_
   rotate_left
   · intro w' hSw
     go_simp
     try rfl
   simp only [Act.put, List.setIfInBounds_toArray, List.set_cons_zero, List.set_cons_succ, List.getElem_toArray, List.getElem_cons_succ, List.getElem_cons_zero]
   refine wpAnyH_take (i := 17) (v := ?_) rfl (by kernel_rfl) (by kernel_rfl) (by kernel_rfl) (fun _ _ _ h => h) (Or.inl ⟨by rfl, ?_⟩) (by assumption) ?_
   rotate_left
   · intro w' hSw
     go_simp
     try rfl
   simp only [Act.put, List.setIfInBounds_toArray, List.set_cons_zero, List.set_cons_succ, List.getElem_toArray, List.getElem_cons_succ, List.getElem_cons_zero]
   refine wpAnyH_take (i := 18) (v := ?_) rfl (by kernel_rfl) (by kernel_rfl) (by kernel_rfl) (fun _ _ _ h => h) (Or.inl ⟨by rfl, ?_⟩) (by assumption) ?_
   rotate_left
   · intro w' hSw
     go_simp
     try rfl
   simp only [Act.put, List.setIfInBounds_toArray, List.set_cons_zero, List.set_cons_succ, List.getElem_toArray, List.getElem_cons_succ, List.getElem_cons_zero]
   refine wpAnyH_done (by kernel_rfl) ?_ _
   have HX1 := Lib.hid (HX.out.below hHeld)
   have HB1 := Lib.hid hHeld
   rw [hm] at hva
   have HVA := Lib.hid (fun u (hu : Sl u C.pv C.p.n C.p.g) => hva u (from_sl_again HR.out hu ha))
   obtain ⟨x1, y1, hvs⟩ := len_sl (HVA.out _ HX1.out.sl)
   clear hHeld hva hcv
   generalize (Lib.bytesWorld _ _ _).drewN q = w1 at *
   subst hvs
   have d1 := HX1.out.cells.c1
   have fz := HX1.out.cells.fz 1
   have hx2 := HX1.out.at_ (b := i + 1) (by omega) (by omega)
   have hcv2 := conv_sl (HVA.out _ hx2.sl)
   have HE := Lib.hid (show ((a : Int) + ((m : Int) + 1)) = ((i + 1 : Nat) : Int) by omega)
   have hcv3 : (convert 22 9 (.slice x1 m y1)).run Tryz.prog (w1.setCell ⟨C.L, 1, none⟩ (.int .i64 ((a : Int) + ((m : Int) + 1)))) = .ok (.string (strOf m fun j => C.p.g (a + j))) (w1.setCell ⟨C.L, 1, none⟩ (.int .i64 ((a : Int) + ((m : Int) + 1)))) := by rw [HE.out]; exact hcv2
   have HX2 := Lib.hid hx2
   have HS := Lib.hid (show (strOf m fun j => C.p.g (a + j)) = C.p.sub a i by unfold Pt.sub strOf; rw [hm])
   have mb : m ≤ 1000 := by omega
   clear hx2 hcv2 hm
   go_wp2_with fail
   go_ret2
   rw [HE.out]
   exact ret_of (by rw [← HS.out]; rfl) rfl rfl HX2.out ((Kept.of_below HB1.out).setCell 1 _)
end Go.Proofs.YtkcmjcgjfjfimaaGreatDoor.tkw
end
