/- Texts that TokensQuoteLaw leans on, merged: what the functions of the program answer. -/
import Derived.Test.YtkcmjcgjfjfimaaGreatDoorBQu10
section
namespace Go.Proofs.YtkcmjcgjfjfimaaGreatDoor.tkw
open Go Go.RowKit Go.Maps utfp utfw ucdp setp setw prp tkp
set_option maxRecDepth 100000 in
set_option maxHeartbeats 2000000 in
theorem classEsc_0 {C : Cf} {w : World} {a f : Nat} {T : Rw} (h : LX C w a f T) (h1 : a = C.p.n) : Calls Tryz.prog 120 #[.pointer (some ⟨C.L, 0, none⟩)] w (RP C w (C.p.classEsc f a) (TkOk C w f T)) := by
 have HS := Lib.hid (show C.p.classEsc f a = .error (C.p.er 20 f) by unfold Pt.classEsc; rw [if_pos h1]; rfl)
 have HA := Lib.hid (show decide (a = C.p.n) = true by simpa using h1)
 clear h1
 have hbw := below_al w ob00
 have hx0 := h.below hbw
 have hg0 := heap_alloc_new w (.cells #[.int .i64 0, .int .i64 0, .int .i64 0, .int .i64 0, .slice none 0 0, .bool false, .int .i64 0, .int .i64 0, .int .i64 0, .string ⟨#[]⟩, .int .i64 0, .int .i64 0] 30)
 have hrl := h.row_lt (g := w.heap.size) (Nat.le_refl _)
 have hB := h.hb
 have hlt := h.cells.lt
 have hsz : (w.alloc ob00).heap.size = w.heap.size + 1 := World.size_alloc ..
 go_enter Tryz.func120, Tryz.ntmps120
 go_wp2_with fail
 generalize hWW : w.alloc ob00 = W at *
 have HSZ := Lib.hid hsz
 have HG0 := Lib.hid hg0
 have hkw := Kept.of_below (L := C.L) hbw
 have hk0 := Kept.refl W.heap.size C.L W
 clear hWW hsz hg0 hbw
 refine Calls.mono (ended_any hx0) ?_
 rintro e1 w1 ⟨rfl, q1, rfl⟩
 have hx1 := hx0.drewN q1
 have hk1 := hk0.drewN q1
 rw [show decide (a = C.p.n) = true from HA.out]
 go_wp2_with fail
 refine Calls.mono (fail_any hx1 20) ?_
 rintro e2 w2 ⟨rfl, hkn⟩
 exact ⟨rfl, rp_err HS.out ⟨rfl, ((hkw.then hk1).mono hB).trans hkn⟩⟩
set_option maxRecDepth 100000 in
set_option maxHeartbeats 8000000 in
theorem classEsc_1 {C : Cf} {w : World} {a f : Nat} {T : Rw} (h : LX C w a f T) (h1 : ¬ a = C.p.n) : Calls Tryz.prog 120 #[.pointer (some ⟨C.L, 0, none⟩)] w (RP C w (C.p.classEsc f a) (TkOk C w f T)) := by
 have hs : C.p.classEsc f a = (match C.p.common f (C.p.char a).1 (C.p.char a).2 with
   | .error e => .error e
   | .ok (some r) => .ok r
   | .ok none => if (C.p.char a).1 = 98 then .ok ({ kind := 1, c := 8 }, (C.p.char a).2)
     else if (isLet (C.p.char a).1 || isDig (C.p.char a).1) = true then .error (21, f)
     else .ok ({ kind := 1, c := (C.p.char a).1 }, (C.p.char a).2)) := by unfold Pt.classEsc; rw [if_neg h1]; rfl
 have HA := Lib.hid (show decide (a = C.p.n) = false by simpa using h1)
 clear h1
 have hv := char_val h.sl.1 h.an
 obtain ⟨c, hcc⟩ : ∃ c, (C.p.char a).1 = c := ⟨_, rfl⟩
 obtain ⟨b, hb⟩ : ∃ b, (C.p.char a).2 = b := ⟨_, rfl⟩
 rw [hcc] at hv
 have HCC := Lib.hid hcc
 have HBB := Lib.hid hb
 rw [hcc, hb] at hs
 clear hcc hb
 have hbw := below_al w ob00
 have hx0 := h.below hbw
 have hg0 := heap_alloc_new w (.cells #[.int .i64 0, .int .i64 0, .int .i64 0, .int .i64 0, .slice none 0 0, .bool false, .int .i64 0, .int .i64 0, .int .i64 0, .string ⟨#[]⟩, .int .i64 0, .int .i64 0] 30)
 have hrl := h.row_lt (g := w.heap.size) (Nat.le_refl _)
 have hB := h.hb
 have hlt := h.cells.lt
 have hsz : (w.alloc ob00).heap.size = w.heap.size + 1 := World.size_alloc ..
 cases hm : C.p.common f c b with
 | error x =>
   rw [hm] at hs
   have HS := Lib.hid hs
   have HM := Lib.hid hm
   clear hs hm
   go_enter Tryz.func120, Tryz.ntmps120
   go_wp2_with fail
   generalize hWW : w.alloc ob00 = W at *
   have HSZ := Lib.hid hsz
   have HG0 := Lib.hid hg0
   have hkw := Kept.of_below (L := C.L) hbw
   have hk0 := Kept.refl W.heap.size C.L W
   clear hWW hsz hg0 hbw
   refine Calls.mono (ended_any hx0) ?_
   rintro e1 w1 ⟨rfl, q1, rfl⟩
   have hx1 := hx0.drewN q1
   have hk1 := hk0.drewN q1
   rw [show decide (a = C.p.n) = false from HA.out]
   go_wp2_with fail
   refine Calls.mono (char_any hx1) ?_
   intro e2 w2 hr
   rw [HBB.out, HCC.out] at hr
   obtain ⟨rfl, hx2, hkn⟩ := hr
   have hk2 := hk1.then hkn
   clear hkn
   go_wp2_with fail
   refine Calls.mono (common_any hx2 c hv) ?_
   intro e3 w3 hr
   rw [HM.out] at hr
   obtain ⟨rfl, hkn⟩ := hr
   exact ⟨rfl, rp_err HS.out ⟨rfl, ((hkw.then hk2).mono hB).trans hkn⟩⟩
 | ok o =>
   cases o with
   | some r =>
     obtain ⟨t, bb⟩ := r
     rw [hm] at hs
     simp only at hs
     have HS := Lib.hid hs
     have HM := Lib.hid hm
     clear hs hm
     go_enter Tryz.func120, Tryz.ntmps120
     go_wp2_with fail
     generalize hWW : w.alloc ob00 = W at *
     have HSZ := Lib.hid hsz
     have HG0 := Lib.hid hg0
     have hkw := Kept.of_below (L := C.L) hbw
     have hk0 := Kept.refl W.heap.size C.L W
     clear hWW hsz hg0 hbw
     refine Calls.mono (ended_any hx0) ?_
     rintro e1 w1 ⟨rfl, q1, rfl⟩
     have hx1 := hx0.drewN q1
     have hk1 := hk0.drewN q1
     rw [show decide (a = C.p.n) = false from HA.out]
     go_wp2_with fail
     refine Calls.mono (char_any hx1) ?_
     intro e2 w2 hr
     rw [HBB.out, HCC.out] at hr
     obtain ⟨rfl, hx2, hkn⟩ := hr
     have hk2 := hk1.then hkn
     clear hkn
     go_wp2_with fail
     refine Calls.mono (common_any hx2 c hv) ?_
     intro e3 w3 hr
     rw [HM.out] at hr
     obtain ⟨v3, rfl, ho, hx3, hkn⟩ := hr
     replace ho := ownR_base ho (hkw.then hk2).size
     obtain ⟨x3, y3, rfl⟩ := ownR_len ho
     have hk3 := hk2.then hkn
     have hbA := below_al w3 (.cells (tkR (.slice x3 t.set.length y3) t) 30)
     have HOA := Lib.hid (ownR_kept ho (Kept.of_below (L := C.L) hbA) hlt)
     have hx4 := hx3.below hbA
     have hk4 := hk3.then (Kept.of_below (L := C.L) hbA)
     clear hkn ho hbA
     unfold tkR
     have HG := Lib.hid ((hk4.block w.heap.size (by rw [HSZ.out]; omega) (by omega)).trans HG0.out)
     go_wp2_with (refine wpList_store_tok rfl rfl _ _ rfl w.heap.size rfl _ (tkR (.slice x3 t.set.length y3) t) HG.out rfl rfl (tkR_one (t := t) (HOA.out)) rfl ?_)
     refine bodyPost_ret (results_tok rfl _ _ w.heap.size (tkR (.slice x3 t.set.length y3) t) rfl (setRow_heap _ _ _ _ _ _ HG.out) rfl) rfl ?_
     exact rp_ok HS.out ⟨_, rfl, ownR_setRow (D := (t : Tk).set) (HOA.out) HG.out, hx4.setRow HG.out hB hrl, (hkw.then hk4).setRow (Nat.le_refl _) _⟩
   | none =>
     rw [hm] at hs
     simp only at hs
     have HM := Lib.hid hm
     clear hm
     by_cases h98 : c = 98
     · rw [if_pos h98] at hs
       subst h98
       have HS := Lib.hid hs
       clear hs
       go_enter Tryz.func120, Tryz.ntmps120
       go_wp2_with fail
       generalize hWW : w.alloc ob00 = W at *
       have HSZ := Lib.hid hsz
       have HG0 := Lib.hid hg0
       have hkw := Kept.of_below (L := C.L) hbw
       have hk0 := Kept.refl W.heap.size C.L W
       clear hWW hsz hg0 hbw
       refine Calls.mono (ended_any hx0) ?_
       rintro e1 w1 ⟨rfl, q1, rfl⟩
       have hx1 := hx0.drewN q1
       have hk1 := hk0.drewN q1
       rw [show decide (a = C.p.n) = false from HA.out]
       go_wp2_with fail
       refine Calls.mono (char_any hx1) ?_
       intro e2 w2 hr
       rw [HBB.out, HCC.out] at hr
       obtain ⟨rfl, hx2, hkn⟩ := hr
       have hk2 := hk1.then hkn
       clear hkn
       go_wp2_with fail
       refine Calls.mono (common_any hx2 98 hv) ?_
       intro e3 w3 hr
       rw [HM.out] at hr
       obtain ⟨v3, rfl, ho, hx3, hkn⟩ := hr
       replace ho := ownR_base ho (hkw.then hk2).size
       obtain ⟨x3, y3, rfl⟩ := ownR_len ho
       have hk3 := hk2.then hkn
       have hbA := below_al w3 (.cells (tkR (.slice x3 tk0.set.length y3) tk0) 30)
       have hx4 := hx3.below hbA
       have hk4 := hk3.then (Kept.of_below (L := C.L) hbA)
       clear hkn ho
       unfold tkR
       have HG := Lib.hid ((hk4.block w.heap.size (by rw [HSZ.out]; omega) (by omega)).trans HG0.out)
       go_upto_region 8 with (fail)
       go_wp2_with (refine wpList_store_tok rfl rfl _ _ rfl w.heap.size rfl _ (tkR (.slice none 0 0) ({ kind := 1, c := 8 } : Tk)) HG.out rfl rfl (tkR_one (t := ({ kind := 1, c := 8 } : Tk)) (ownR_nil w 0)) rfl ?_)
       refine bodyPost_ret (results_tok rfl _ _ w.heap.size (tkR (.slice none 0 0) ({ kind := 1, c := 8 } : Tk)) rfl (setRow_heap _ _ _ _ _ _ HG.out) rfl) rfl ?_
       exact rp_ok HS.out ⟨_, rfl, ownR_setRow (D := (({ kind := 1, c := 8 } : Tk) : Tk).set) (ownR_nil _ _) HG.out, hx4.setRow HG.out hB hrl, (hkw.then hk4).setRow (Nat.le_refl _) _⟩
     · rw [if_neg h98] at hs
       have HIL := Lib.hid (fun u => isLet_any c u)
       have HID := Lib.hid (fun u => isDig_any c u)
       cases hl : isLet c with
       | true =>
         rw [if_pos (by simp [hl])] at hs
         have HS := Lib.hid hs
         have HL := Lib.hid hl
         clear hs hl
         go_enter Tryz.func120, Tryz.ntmps120
         go_wp2_with fail
         generalize hWW : w.alloc ob00 = W at *
         have HSZ := Lib.hid hsz
         have HG0 := Lib.hid hg0
         have hkw := Kept.of_below (L := C.L) hbw
         have hk0 := Kept.refl W.heap.size C.L W
         clear hWW hsz hg0 hbw
         refine Calls.mono (ended_any hx0) ?_
         rintro e1 w1 ⟨rfl, q1, rfl⟩
         have hx1 := hx0.drewN q1
         have hk1 := hk0.drewN q1
         rw [show decide (a = C.p.n) = false from HA.out]
         go_wp2_with fail
         refine Calls.mono (char_any hx1) ?_
         intro e2 w2 hr
         rw [HBB.out, HCC.out] at hr
         obtain ⟨rfl, hx2, hkn⟩ := hr
         have hk2 := hk1.then hkn
         clear hkn
         go_wp2_with fail
         refine Calls.mono (common_any hx2 c hv) ?_
         intro e3 w3 hr
         rw [HM.out] at hr
         obtain ⟨v3, rfl, ho, hx3, hkn⟩ := hr
         replace ho := ownR_base ho (hkw.then hk2).size
         obtain ⟨x3, y3, rfl⟩ := ownR_len ho
         have hk3 := hk2.then hkn
         have hbA := below_al w3 (.cells (tkR (.slice x3 tk0.set.length y3) tk0) 30)
         have hx4 := hx3.below hbA
         have hk4 := hk3.then (Kept.of_below (L := C.L) hbA)
         clear hkn ho
         unfold tkR
         go_wp2_with fail
         refine (HIL.out _).mono ?_
         rintro e5 w5 ⟨rfl, rfl⟩
         rw [HL.out]
         go_wp2_with fail
         refine Calls.mono (fail_any hx4 21) ?_
         rintro e7 w7 ⟨rfl, hkn⟩
         exact ⟨rfl, rp_err HS.out ⟨rfl, ((hkw.then hk4).mono hB).trans hkn⟩⟩
       | false =>
         have HL := Lib.hid hl
         cases hd : isDig c with
         | true =>
           rw [if_pos (by simp [hl, hd])] at hs
           have HS := Lib.hid hs
           have HD := Lib.hid hd
           clear hs hl hd
           go_enter Tryz.func120, Tryz.ntmps120
           go_wp2_with fail
           generalize hWW : w.alloc ob00 = W at *
           have HSZ := Lib.hid hsz
           have HG0 := Lib.hid hg0
           have hkw := Kept.of_below (L := C.L) hbw
           have hk0 := Kept.refl W.heap.size C.L W
           clear hWW hsz hg0 hbw
           refine Calls.mono (ended_any hx0) ?_
           rintro e1 w1 ⟨rfl, q1, rfl⟩
           have hx1 := hx0.drewN q1
           have hk1 := hk0.drewN q1
           rw [show decide (a = C.p.n) = false from HA.out]
           go_wp2_with fail
           refine Calls.mono (char_any hx1) ?_
           intro e2 w2 hr
           rw [HBB.out, HCC.out] at hr
           obtain ⟨rfl, hx2, hkn⟩ := hr
           have hk2 := hk1.then hkn
           clear hkn
           go_wp2_with fail
           refine Calls.mono (common_any hx2 c hv) ?_
           intro e3 w3 hr
           rw [HM.out] at hr
           obtain ⟨v3, rfl, ho, hx3, hkn⟩ := hr
           replace ho := ownR_base ho (hkw.then hk2).size
           obtain ⟨x3, y3, rfl⟩ := ownR_len ho
           have hk3 := hk2.then hkn
           have hbA := below_al w3 (.cells (tkR (.slice x3 tk0.set.length y3) tk0) 30)
           have hx4 := hx3.below hbA
           have hk4 := hk3.then (Kept.of_below (L := C.L) hbA)
           clear hkn ho
           unfold tkR
           go_wp2_with fail
           refine (HIL.out _).mono ?_
           rintro e5 w5 ⟨rfl, rfl⟩
           rw [HL.out]
           go_wp2_with fail
           refine (HID.out _).mono ?_
           rintro e6 w6 ⟨rfl, rfl⟩
           rw [HD.out]
           go_wp2_with fail
           refine Calls.mono (fail_any hx4 21) ?_
           rintro e7 w7 ⟨rfl, hkn⟩
           exact ⟨rfl, rp_err HS.out ⟨rfl, ((hkw.then hk4).mono hB).trans hkn⟩⟩
         | false =>
           rw [if_neg (by simp [hl, hd])] at hs
           have HS := Lib.hid hs
           have HD := Lib.hid hd
           clear hs hl hd
           go_enter Tryz.func120, Tryz.ntmps120
           go_wp2_with fail
           generalize hWW : w.alloc ob00 = W at *
           have HSZ := Lib.hid hsz
           have HG0 := Lib.hid hg0
           have hkw := Kept.of_below (L := C.L) hbw
           have hk0 := Kept.refl W.heap.size C.L W
           clear hWW hsz hg0 hbw
           refine Calls.mono (ended_any hx0) ?_
           rintro e1 w1 ⟨rfl, q1, rfl⟩
           have hx1 := hx0.drewN q1
           have hk1 := hk0.drewN q1
           rw [show decide (a = C.p.n) = false from HA.out]
           go_wp2_with fail
           refine Calls.mono (char_any hx1) ?_
           intro e2 w2 hr
           rw [HBB.out, HCC.out] at hr
           obtain ⟨rfl, hx2, hkn⟩ := hr
           have hk2 := hk1.then hkn
           clear hkn
           go_wp2_with fail
           refine Calls.mono (common_any hx2 c hv) ?_
           intro e3 w3 hr
           rw [HM.out] at hr
           obtain ⟨v3, rfl, ho, hx3, hkn⟩ := hr
           replace ho := ownR_base ho (hkw.then hk2).size
           obtain ⟨x3, y3, rfl⟩ := ownR_len ho
           have hk3 := hk2.then hkn
           have hbA := below_al w3 (.cells (tkR (.slice x3 tk0.set.length y3) tk0) 30)
           have hx4 := hx3.below hbA
           have hk4 := hk3.then (Kept.of_below (L := C.L) hbA)
           clear hkn ho
           unfold tkR
           go_wp2_with fail
           refine (HIL.out _).mono ?_
           rintro e5 w5 ⟨rfl, rfl⟩
           rw [HL.out]
           go_wp2_with fail
           refine (HID.out _).mono ?_
           rintro e6 w6 ⟨rfl, rfl⟩
           rw [HD.out]
           have HG := Lib.hid ((hk4.block w.heap.size (by rw [HSZ.out]; omega) (by omega)).trans HG0.out)
           go_wp2_with (refine wpList_store_tok rfl rfl _ _ rfl w.heap.size rfl _ (tkR (.slice none 0 0) ({ kind := 1, c := c } : Tk)) HG.out rfl rfl (tkR_one (t := ({ kind := 1, c := c } : Tk)) (ownR_nil w 0)) rfl ?_)
           refine bodyPost_ret (results_tok rfl _ _ w.heap.size (tkR (.slice none 0 0) ({ kind := 1, c := c } : Tk)) rfl (setRow_heap _ _ _ _ _ _ HG.out) rfl) rfl ?_
           exact rp_ok HS.out ⟨_, rfl, ownR_setRow (D := (({ kind := 1, c := c } : Tk) : Tk).set) (ownR_nil _ _) HG.out, hx4.setRow HG.out hB hrl, (hkw.then hk4).setRow (Nat.le_refl _) _⟩
theorem classEsc_any {C : Cf} {w : World} {a f : Nat} {T : Rw} (h : LX C w a f T) : Calls Tryz.prog 120 #[.pointer (some ⟨C.L, 0, none⟩)] w (RP C w (C.p.classEsc f a) (TkOk C w f T)) := by
 by_cases h1 : a = C.p.n
 · exact classEsc_0 h h1
 · exact classEsc_1 h h1
end Go.Proofs.YtkcmjcgjfjfimaaGreatDoor.tkw
end
section
namespace Go.Proofs.YtkcmjcgjfjfimaaGreatDoor.tkw
open Go Go.RowKit Go.Maps utfp utfw ucdp setp setw prp tkp
set_option maxRecDepth 100000 in
set_option maxHeartbeats 2000000 in
theorem item_0 {C : Cf} {w : World} {a f : Nat} {T : Rw} (h : LX C w a f T) (h1 : a = C.p.n) : Calls Tryz.prog 93 #[.pointer (some ⟨C.L, 0, none⟩)] w (RP C w (C.p.item a) (TkOk C w a T)) := by
 have HS := Lib.hid (show C.p.item a = .error (C.p.er 20 a) by unfold Pt.item; rw [if_pos h1]; rfl)
 have HA := Lib.hid (show decide (a = C.p.n) = true by simpa using h1)
 clear h1
 have hbw := below_al w ob00
 have hx0 := h.below hbw
 have hg0 := heap_alloc_new w (.cells #[.int .i64 0, .int .i64 0, .int .i64 0, .int .i64 0, .slice none 0 0, .bool false, .int .i64 0, .int .i64 0, .int .i64 0, .string ⟨#[]⟩, .int .i64 0, .int .i64 0] 30)
 have hrl := h.row_lt (g := w.heap.size) (Nat.le_refl _)
 have hB := h.hb
 have hlt := h.cells.lt
 have hsz : (w.alloc ob00).heap.size = w.heap.size + 1 := World.size_alloc ..
 go_enter Tryz.func93, Tryz.ntmps93
 go_upto_region 1 with (fail)
 generalize hWW : w.alloc ob00 = W at *
 have HSZ := Lib.hid hsz
 have HG0 := Lib.hid hg0
 have hkw := Kept.of_below (L := C.L) hbw
 have hk0 := Kept.refl W.heap.size C.L W
 clear hWW hsz hg0 hbw
 have d1 := hx0.cells.c1
 have d2 := hx0.cells.c2
 have fz := hx0.cells.fz 2
 go_wp2_with fail
 have hx1 := hx0.from h.an
 have hk1 := hk0.setCell 2 (.int .i64 a)
 clear d1 d2 fz
 refine Calls.mono (ended_any hx1) ?_
 rintro e2 w2 ⟨rfl, q2, rfl⟩
 have hx2 := hx1.drewN q2
 have hk2 := hk1.drewN q2
 rw [show decide (a = C.p.n) = true from HA.out]
 go_wp2_with fail
 refine Calls.mono (fail_any hx2 20) ?_
 rintro e3 w3 ⟨rfl, hkn⟩
 exact ⟨rfl, rp_err HS.out ⟨rfl, ((hkw.then hk2).mono hB).trans hkn⟩⟩
set_option maxRecDepth 100000 in
set_option maxHeartbeats 8000000 in
theorem item_1 {C : Cf} {w : World} {a f : Nat} {T : Rw} (h : LX C w a f T) (h1 : ¬ a = C.p.n) : Calls Tryz.prog 93 #[.pointer (some ⟨C.L, 0, none⟩)] w (RP C w (C.p.item a) (TkOk C w a T)) := by
 have hs : C.p.item a = (match C.p.posix a with
   | .error e => .error e
   | .ok (some r) => .ok r
   | .ok none => if (C.p.char a).1 = 92 then C.p.classEsc a (C.p.char a).2 else .ok ({ kind := 1, c := (C.p.char a).1 }, (C.p.char a).2)) := by unfold Pt.item; rw [if_neg h1]; rfl
 have HA := Lib.hid (show decide (a = C.p.n) = false by simpa using h1)
 clear h1
 have hv := char_val h.sl.1 h.an
 obtain ⟨c, hcc⟩ : ∃ c, (C.p.char a).1 = c := ⟨_, rfl⟩
 obtain ⟨b, hb⟩ : ∃ b, (C.p.char a).2 = b := ⟨_, rfl⟩
 rw [hcc] at hv
 have HCC := Lib.hid hcc
 have HBB := Lib.hid hb
 rw [hcc, hb] at hs
 clear hcc hb
 have hbw := below_al w ob00
 have hx0 := h.below hbw
 have hg0 := heap_alloc_new w (.cells #[.int .i64 0, .int .i64 0, .int .i64 0, .int .i64 0, .slice none 0 0, .bool false, .int .i64 0, .int .i64 0, .int .i64 0, .string ⟨#[]⟩, .int .i64 0, .int .i64 0] 30)
 have hrl := h.row_lt (g := w.heap.size) (Nat.le_refl _)
 have hB := h.hb
 have hlt := h.cells.lt
 have hsz : (w.alloc ob00).heap.size = w.heap.size + 1 := World.size_alloc ..
 cases hm : C.p.posix a with
 | error x =>
   rw [hm] at hs
   have HS := Lib.hid hs
   have HM := Lib.hid hm
   clear hs hm
   go_enter Tryz.func93, Tryz.ntmps93
   go_upto_region 1 with (fail)
   generalize hWW : w.alloc ob00 = W at *
   have HSZ := Lib.hid hsz
   have HG0 := Lib.hid hg0
   have hkw := Kept.of_below (L := C.L) hbw
   have hk0 := Kept.refl W.heap.size C.L W
   clear hWW hsz hg0 hbw
   have d1 := hx0.cells.c1
   have d2 := hx0.cells.c2
   have fz := hx0.cells.fz 2
   go_wp2_with fail
   have hx1 := hx0.from h.an
   have hk1 := hk0.setCell 2 (.int .i64 a)
   clear d1 d2 fz
   refine Calls.mono (ended_any hx1) ?_
   rintro e2 w2 ⟨rfl, q2, rfl⟩
   have hx2 := hx1.drewN q2
   have hk2 := hk1.drewN q2
   rw [show decide (a = C.p.n) = false from HA.out]
   go_wp2_with fail
   refine Calls.mono (posix_any hx2) ?_
   intro e3 w3 hr
   rw [HM.out] at hr
   obtain ⟨rfl, hkn⟩ := hr
   exact ⟨rfl, rp_err HS.out ⟨rfl, ((hkw.then hk2).mono hB).trans hkn⟩⟩
 | ok o =>
   cases o with
   | some r =>
     obtain ⟨t, bb⟩ := r
     rw [hm] at hs
     simp only at hs
     have HS := Lib.hid hs
     have HM := Lib.hid hm
     clear hs hm
     go_enter Tryz.func93, Tryz.ntmps93
     go_upto_region 1 with (fail)
     generalize hWW : w.alloc ob00 = W at *
     have HSZ := Lib.hid hsz
     have HG0 := Lib.hid hg0
     have hkw := Kept.of_below (L := C.L) hbw
     have hk0 := Kept.refl W.heap.size C.L W
     clear hWW hsz hg0 hbw
     have d1 := hx0.cells.c1
     have d2 := hx0.cells.c2
     have fz := hx0.cells.fz 2
     go_wp2_with fail
     have hx1 := hx0.from h.an
     have hk1 := hk0.setCell 2 (.int .i64 a)
     clear d1 d2 fz
     refine Calls.mono (ended_any hx1) ?_
     rintro e2 w2 ⟨rfl, q2, rfl⟩
     have hx2 := hx1.drewN q2
     have hk2 := hk1.drewN q2
     rw [show decide (a = C.p.n) = false from HA.out]
     go_wp2_with fail
     refine Calls.mono (posix_any hx2) ?_
     intro e3 w3 hr
     rw [HM.out] at hr
     obtain ⟨v3, rfl, ho, hx3, hkn⟩ := hr
     replace ho := ownR_base ho (hkw.then hk2).size
     obtain ⟨x3, y3, rfl⟩ := ownR_len ho
     have hk3 := hk2.then hkn
     have hbA := below_al w3 (.cells (tkR (.slice x3 t.set.length y3) t) 30)
     have HOA := Lib.hid (ownR_kept ho (Kept.of_below (L := C.L) hbA) hlt)
     have hx4 := hx3.below hbA
     have hk4 := hk3.then (Kept.of_below (L := C.L) hbA)
     clear hkn ho hbA
     unfold tkR
     have HG := Lib.hid ((hk4.block w.heap.size (by rw [HSZ.out]; omega) (by omega)).trans HG0.out)
     go_wp2_with (refine wpList_store_tok rfl rfl _ _ rfl w.heap.size rfl _ (tkR (.slice x3 t.set.length y3) t) HG.out rfl rfl (tkR_one (t := t) (HOA.out)) rfl ?_)
     refine bodyPost_ret (results_tok rfl _ _ w.heap.size (tkR (.slice x3 t.set.length y3) t) rfl (setRow_heap _ _ _ _ _ _ HG.out) rfl) rfl ?_
     exact rp_ok HS.out ⟨_, rfl, ownR_setRow (D := (t : Tk).set) (HOA.out) HG.out, hx4.setRow HG.out hB hrl, (hkw.then hk4).setRow (Nat.le_refl _) _⟩
   | none =>
     rw [hm] at hs
     simp only at hs
     have HM := Lib.hid hm
     clear hm
     by_cases h92 : c = 92
     · rw [if_pos h92] at hs
       subst h92
       cases hq : C.p.classEsc a b with
       | error x =>
         rw [hq] at hs
         have HS := Lib.hid hs
         have HQ := Lib.hid hq
         clear hs hq
         go_enter Tryz.func93, Tryz.ntmps93
         go_upto_region 1 with (fail)
         generalize hWW : w.alloc ob00 = W at *
         have HSZ := Lib.hid hsz
         have HG0 := Lib.hid hg0
         have hkw := Kept.of_below (L := C.L) hbw
         have hk0 := Kept.refl W.heap.size C.L W
         clear hWW hsz hg0 hbw
         have d1 := hx0.cells.c1
         have d2 := hx0.cells.c2
         have fz := hx0.cells.fz 2
         go_wp2_with fail
         have hx1 := hx0.from h.an
         have hk1 := hk0.setCell 2 (.int .i64 a)
         clear d1 d2 fz
         refine Calls.mono (ended_any hx1) ?_
         rintro e2 w2 ⟨rfl, q2, rfl⟩
         have hx2 := hx1.drewN q2
         have hk2 := hk1.drewN q2
         rw [show decide (a = C.p.n) = false from HA.out]
         go_wp2_with fail
         refine Calls.mono (posix_any hx2) ?_
         intro e3 w3 hr
         rw [HM.out] at hr
         obtain ⟨v3, rfl, ho, hx3, hkn⟩ := hr
         replace ho := ownR_base ho (hkw.then hk2).size
         obtain ⟨x3, y3, rfl⟩ := ownR_len ho
         have hk3 := hk2.then hkn
         have hbA := below_al w3 (.cells (tkR (.slice x3 tk0.set.length y3) tk0) 30)
         have hx4 := hx3.below hbA
         have hk4 := hk3.then (Kept.of_below (L := C.L) hbA)
         clear hkn ho
         unfold tkR
         clear hbA
         go_wp2_with fail
         refine Calls.mono (char_any hx4) ?_
         intro e5 w5 hr
         rw [HBB.out, HCC.out] at hr
         obtain ⟨rfl, hx5, hkn⟩ := hr
         have hk5 := hk4.then hkn
         clear hkn
         go_wp2_with fail
         refine Calls.mono (classEsc_any hx5) ?_
         intro e6 w6 hr
         rw [HQ.out] at hr
         obtain ⟨rfl, hkn⟩ := hr
         exact ⟨rfl, rp_err HS.out ⟨rfl, ((hkw.then hk5).mono hB).trans hkn⟩⟩
       | ok r =>
         obtain ⟨t, bb⟩ := r
         rw [hq] at hs
         have HS := Lib.hid hs
         have HQ := Lib.hid hq
         clear hs hq
         go_enter Tryz.func93, Tryz.ntmps93
         go_upto_region 1 with (fail)
         generalize hWW : w.alloc ob00 = W at *
         have HSZ := Lib.hid hsz
         have HG0 := Lib.hid hg0
         have hkw := Kept.of_below (L := C.L) hbw
         have hk0 := Kept.refl W.heap.size C.L W
         clear hWW hsz hg0 hbw
         have d1 := hx0.cells.c1
         have d2 := hx0.cells.c2
         have fz := hx0.cells.fz 2
         go_wp2_with fail
         have hx1 := hx0.from h.an
         have hk1 := hk0.setCell 2 (.int .i64 a)
         clear d1 d2 fz
         refine Calls.mono (ended_any hx1) ?_
         rintro e2 w2 ⟨rfl, q2, rfl⟩
         have hx2 := hx1.drewN q2
         have hk2 := hk1.drewN q2
         rw [show decide (a = C.p.n) = false from HA.out]
         go_wp2_with fail
         refine Calls.mono (posix_any hx2) ?_
         intro e3 w3 hr
         rw [HM.out] at hr
         obtain ⟨v3, rfl, ho, hx3, hkn⟩ := hr
         replace ho := ownR_base ho (hkw.then hk2).size
         obtain ⟨x3, y3, rfl⟩ := ownR_len ho
         have hk3 := hk2.then hkn
         have hbA := below_al w3 (.cells (tkR (.slice x3 tk0.set.length y3) tk0) 30)
         have hx4 := hx3.below hbA
         have hk4 := hk3.then (Kept.of_below (L := C.L) hbA)
         clear hkn ho
         unfold tkR
         clear hbA
         go_wp2_with fail
         refine Calls.mono (char_any hx4) ?_
         intro e5 w5 hr
         rw [HBB.out, HCC.out] at hr
         obtain ⟨rfl, hx5, hkn⟩ := hr
         have hk5 := hk4.then hkn
         clear hkn
         go_wp2_with fail
         refine Calls.mono (classEsc_any hx5) ?_
         intro e6 w6 hr
         rw [HQ.out] at hr
         obtain ⟨v6, rfl, ho, hx6, hkn⟩ := hr
         replace ho := ownR_base ho (hkw.then hk5).size
         obtain ⟨x6, y6, rfl⟩ := ownR_len ho
         have HO6 := Lib.hid ho
         have hk6 := hk5.then hkn
         clear hkn ho
         have HG := Lib.hid ((hk6.block w.heap.size (by rw [HSZ.out]; omega) (by omega)).trans HG0.out)
         go_wp2_with (refine wpList_store_tok rfl rfl _ _ rfl w.heap.size rfl _ (tkR (.slice x6 t.set.length y6) t) HG.out rfl rfl (tkR_one (t := t) (HO6.out)) rfl ?_)
         refine bodyPost_ret (results_tok rfl _ _ w.heap.size (tkR (.slice x6 t.set.length y6) t) rfl (setRow_heap _ _ _ _ _ _ HG.out) rfl) rfl ?_
         exact rp_ok HS.out ⟨_, rfl, ownR_setRow (D := (t : Tk).set) (HO6.out) HG.out, hx6.setRow HG.out hB hrl, (hkw.then hk6).setRow (Nat.le_refl _) _⟩
     · rw [if_neg h92] at hs
       have HS := Lib.hid hs
       clear hs
       go_enter Tryz.func93, Tryz.ntmps93
       go_upto_region 1 with (fail)
       generalize hWW : w.alloc ob00 = W at *
       have HSZ := Lib.hid hsz
       have HG0 := Lib.hid hg0
       have hkw := Kept.of_below (L := C.L) hbw
       have hk0 := Kept.refl W.heap.size C.L W
       clear hWW hsz hg0 hbw
       have d1 := hx0.cells.c1
       have d2 := hx0.cells.c2
       have fz := hx0.cells.fz 2
       go_wp2_with fail
       have hx1 := hx0.from h.an
       have hk1 := hk0.setCell 2 (.int .i64 a)
       clear d1 d2 fz
       refine Calls.mono (ended_any hx1) ?_
       rintro e2 w2 ⟨rfl, q2, rfl⟩
       have hx2 := hx1.drewN q2
       have hk2 := hk1.drewN q2
       rw [show decide (a = C.p.n) = false from HA.out]
       go_wp2_with fail
       refine Calls.mono (posix_any hx2) ?_
       intro e3 w3 hr
       rw [HM.out] at hr
       obtain ⟨v3, rfl, ho, hx3, hkn⟩ := hr
       replace ho := ownR_base ho (hkw.then hk2).size
       obtain ⟨x3, y3, rfl⟩ := ownR_len ho
       have hk3 := hk2.then hkn
       have hbA := below_al w3 (.cells (tkR (.slice x3 tk0.set.length y3) tk0) 30)
       have hx4 := hx3.below hbA
       have hk4 := hk3.then (Kept.of_below (L := C.L) hbA)
       clear hkn ho
       unfold tkR
       clear hbA
       go_wp2_with fail
       refine Calls.mono (char_any hx4) ?_
       intro e5 w5 hr
       rw [HBB.out, HCC.out] at hr
       obtain ⟨rfl, hx5, hkn⟩ := hr
       have hk5 := hk4.then hkn
       clear hkn
       have HG := Lib.hid ((hk5.block w.heap.size (by rw [HSZ.out]; omega) (by omega)).trans HG0.out)
       go_wp2_with (refine wpList_store_tok rfl rfl _ _ rfl w.heap.size rfl _ (tkR (.slice none 0 0) ({ kind := 1, c := c } : Tk)) HG.out rfl rfl (tkR_one (t := ({ kind := 1, c := c } : Tk)) (ownR_nil w 0)) rfl ?_)
       refine bodyPost_ret (results_tok rfl _ _ w.heap.size (tkR (.slice none 0 0) ({ kind := 1, c := c } : Tk)) rfl (setRow_heap _ _ _ _ _ _ HG.out) rfl) rfl ?_
       exact rp_ok HS.out ⟨_, rfl, ownR_setRow (D := (({ kind := 1, c := c } : Tk) : Tk).set) (ownR_nil _ _) HG.out, hx5.setRow HG.out hB hrl, (hkw.then hk5).setRow (Nat.le_refl _) _⟩
theorem item_any {C : Cf} {w : World} {a f : Nat} {T : Rw} (h : LX C w a f T) : Calls Tryz.prog 93 #[.pointer (some ⟨C.L, 0, none⟩)] w (RP C w (C.p.item a) (TkOk C w a T)) := by
 by_cases h1 : a = C.p.n
 · exact item_0 h h1
 · exact item_1 h h1
end Go.Proofs.YtkcmjcgjfjfimaaGreatDoor.tkw
end
section
namespace Go.Proofs.YtkcmjcgjfjfimaaGreatDoor.tkw
open Go Go.RowKit Go.Maps utfp utfw ucdp setp setw prp tkp
def RetR (C : Cf) (w : World) (b0 : Nat) (l : List Rg) (b f : Nat) (T : Rw) (e : Ending) (w' : World) : Prop := ∃ v, e = .returned v ∧ OwnR w' b0 v l ∧ LX C w' b f T ∧ Kept w.heap.size C.L w w'
theorem ownR_new {w : World} {b0 B : Nat} {x y : Int} (hb : b0 ≤ B) (hB : B = w.heap.size) : OwnR (w.alloc (.cells #[.int .i64 x, .int .i64 y] 43)) b0 (.slice (some ⟨B, 0, none⟩) 1 1) [(x, y)] := by
 subst hB
 refine ⟨⟨rfl, Or.inr ⟨w.heap.size, 1, #[.int .i64 x, .int .i64 y], rfl, hb, heap_alloc_new w _, Nat.le_refl _, by decide, rfl, rfl⟩⟩, fun h => absurd h (by simp)⟩
set_option maxRecDepth 100000 in
set_option maxHeartbeats 2000000 in
theorem members_lit {C : Cf} {w : World} {a f b0 : Nat} {T : Rw} (h : LX C w a f T) (v : Value) (t : Tk) (ho : OwnR w b0 v t.set) (hb0 : b0 ≤ w.heap.size) (h1 : t.kind = 1) : Calls Tryz.prog 95 #[.pointer (some ⟨C.L, 0, none⟩), .agg (tkR v t)] w (RetR C w b0 (C.p.members t) a f T) := by
 obtain ⟨kd, at0, to0, c, set, neg, n, m, mode, name, on, off⟩ := t
 simp only at h1 ho
 subst h1
 obtain ⟨x, y, rfl⟩ := ownR_len ho
 have hbw := below_al w (.cells (tkR (.slice x set.length y) ⟨1, at0, to0, c, set, neg, n, m, mode, name, on, off⟩) 30)
 have hx1 := h.below hbw
 have hbw2 := below_al (w.alloc (.cells (tkR (.slice x set.length y) ⟨1, at0, to0, c, set, neg, n, m, mode, name, on, off⟩) 30)) (.cells #[.int .i64 c, .int .i64 c] 43)
 have HX2 := Lib.hid (hx1.below hbw2)
 have HK2 := Lib.hid ((Kept.of_below (L := C.L) hbw).then (Kept.of_below (L := C.L) hbw2))
 have HN := Lib.hid (ownR_new (w := w.alloc (.cells (tkR (.slice x set.length y) ⟨1, at0, to0, c, set, neg, n, m, mode, name, on, off⟩) 30)) (b0 := b0) (B := w.heap.size + 1) (x := c) (y := c) (by omega) (World.size_alloc ..).symm)
 have HS := Lib.hid (show C.p.members ⟨1, at0, to0, c, set, neg, n, m, mode, name, on, off⟩ = [(c, c)] by unfold Pt.members; rw [if_pos rfl])
 clear hbw hx1 hbw2 h ho
 unfold tkR
 go_enter Tryz.func95, Tryz.ntmps95
 go_wp2_with fail
 go_ret
 rw [HS.out]
 exact ⟨_, rfl, HN.out, HX2.out, HK2.out⟩
set_option maxRecDepth 100000 in
set_option maxHeartbeats 2000000 in
theorem members_set {C : Cf} {w : World} {a f b0 : Nat} {T : Rw} (h : LX C w a f T) (v : Value) (t : Tk) (ho : OwnR w b0 v t.set) (hb0 : b0 ≤ w.heap.size) (h1 : ¬ t.kind = 1) (h2 : t.neg = false) : Calls Tryz.prog 95 #[.pointer (some ⟨C.L, 0, none⟩), .agg (tkR v t)] w (RetR C w b0 (C.p.members t) a f T) := by
 obtain ⟨kd, at0, to0, c, set, neg, n, m, mode, name, on, off⟩ := t
 simp only at h1 h2 ho
 subst h2
 obtain ⟨x, y, rfl⟩ := ownR_len ho
 have hbw := below_al w (.cells (tkR (.slice x set.length y) ⟨kd, at0, to0, c, set, false, n, m, mode, name, on, off⟩) 30)
 have HX1 := Lib.hid (h.below hbw)
 have HK1 := Lib.hid (Kept.of_below (L := C.L) hbw)
 have HO := Lib.hid (show OwnR (w.alloc (.cells (tkR (.slice x set.length y) ⟨kd, at0, to0, c, set, false, n, m, mode, name, on, off⟩) 30)) b0 (.slice x set.length y) set from ⟨World.ownsRow.alloc ho.1 _, ho.2⟩)
 have HS := Lib.hid (show C.p.members ⟨kd, at0, to0, c, set, false, n, m, mode, name, on, off⟩ = set by unfold Pt.members; rw [if_neg h1, if_neg (by simp)])
 clear hbw h ho
 unfold tkR
 go_enter Tryz.func95, Tryz.ntmps95
 go_wp2_with fail
 go_ret
 rw [HS.out]
 exact ⟨_, rfl, HO.out, HX1.out, HK1.out⟩
set_option maxRecDepth 100000 in
set_option maxHeartbeats 4000000 in
theorem members_not {C : Cf} {w : World} {a f b0 : Nat} {T : Rw} (h : LX C w a f T) (v : Value) (t : Tk) (ho : OwnR w b0 v t.set) (hb0 : b0 ≤ w.heap.size) (hC : Canon t.set) (h1 : ¬ t.kind = 1) (h2 : t.neg = true) : Calls Tryz.prog 95 #[.pointer (some ⟨C.L, 0, none⟩), .agg (tkR v t)] w (RetR C w b0 (C.p.members t) a f T) := by
 obtain ⟨kd, at0, to0, c, set, neg, n, m, mode, name, on, off⟩ := t
 simp only at h1 h2 hC ho
 subst h2
 obtain ⟨x, y, rfl⟩ := ownR_len ho
 have hbw := below_al w (.cells (tkR (.slice x set.length y) ⟨kd, at0, to0, c, set, true, n, m, mode, name, on, off⟩) 30)
 have hx1 := h.below hbw
 have ho1 : OwnR (w.alloc (.cells (tkR (.slice x set.length y) ⟨kd, at0, to0, c, set, true, n, m, mode, name, on, off⟩) 30)) b0 (.slice x set.length y) set := ⟨World.ownsRow.alloc ho.1 _, ho.2⟩
 have HR1 := Lib.hid (rs_own ho1 (wf_canon hC.2))
 have b4 : (w.alloc (.cells (tkR (.slice x set.length y) ⟨kd, at0, to0, c, set, true, n, m, mode, name, on, off⟩) 30)).cell? ⟨w.heap.size, 4, none⟩ = some (.slice x set.length y) := by rw [World.cell?_alloc_new]; rfl
 have c3 := hx1.cells.c3
 have HS := Lib.hid (show C.p.members ⟨kd, at0, to0, c, set, true, n, m, mode, name, on, off⟩ = notR C.p.most set by unfold Pt.members; rw [if_neg h1, if_pos rfl])
 have hm1 := most_le C.p
 have hm2 := most_ge C.p
 have HLN := Lib.hid (clen hC)
 have HC := Lib.hid hC
 clear ho1 ho
 unfold tkR at hbw hx1 HR1 b4 c3
 unfold tkR
 go_enter Tryz.func95, Tryz.ntmps95
 go_wp2_with fail
 generalize hW : w.alloc (.cells _ _) = W at *
 have HX1 := Lib.hid hx1
 have HBW := Lib.hid hbw
 have B4 := Lib.hid b4
 have C3 := Lib.hid c3
 have HB0 := Lib.hid hb0
 have HNEW := Lib.hid (fun (u : World) (hu : Below W.heap.size W u) => setw.new_any (.slice x set.length y) set C.p.most u (setw.rsAt_below HR1.out hu) HLN.out (by omega) (by omega))
 clear hW hx1 hbw b4 c3 h hC hb0
 refine wp_region_held_drew (S := fun w' => Below W.heap.size W w') (by kernel_rfl) (Below.refl _ _).drew (fun hHeld => ?_)
 refine wpAnyH_take (i := 0) (v := ?_) rfl (by kernel_rfl) (by kernel_rfl) (by kernel_rfl) (fun _ _ _ h => h) (Or.inl ⟨by rfl, ?_⟩) (by assumption) ?_
 rotate_left
 · intro w' hSw
   have k3 := below_cell hSw C3.out
   have k4 := below_cell hSw B4.out
   go_simp
   try rfl
 simp only [Act.put, List.setIfInBounds_toArray, List.set_cons_zero, List.set_cons_succ, List.getElem_toArray, List.getElem_cons_zero]
 refine wpAnyH_take (i := 1) (v := ?_) rfl (by kernel_rfl) (by kernel_rfl) (by kernel_rfl) (fun _ _ _ h => h) (Or.inl ⟨by rfl, ?_⟩) (by assumption) ?_
 rotate_left
 · intro w' hSw
   have k3 := below_cell hSw C3.out
   have k4 := below_cell hSw B4.out
   go_simp
   try rfl
 simp only [Act.put, List.setIfInBounds_toArray, List.set_cons_zero, List.set_cons_succ, List.getElem_toArray, List.getElem_cons_succ, List.getElem_cons_zero]
 refine wpAnyH_take (i := 2) (v := ?_) rfl (by kernel_rfl) (by kernel_rfl) (by kernel_rfl) (fun _ _ _ h => h) (Or.inl ⟨by rfl, ?_⟩) (by assumption) ?_
 rotate_left
 · intro w' hSw
   have k3 := below_cell hSw C3.out
   have k4 := below_cell hSw B4.out
   go_simp
   try rfl
 simp only [Act.put, List.setIfInBounds_toArray, List.set_cons_zero, List.set_cons_succ, List.getElem_toArray, List.getElem_cons_succ, List.getElem_cons_zero]
 refine wpAnyH_take (i := 3) (v := ?_) rfl (by kernel_rfl) (by kernel_rfl) (by kernel_rfl) (fun _ _ _ h => h) (Or.inl ⟨by rfl, ?_⟩) (by assumption) ?_
 rotate_left
 · intro w' hSw
   have k3 := below_cell hSw C3.out
   have k4 := below_cell hSw B4.out
   go_simp
   try rfl
 simp only [Act.put, List.setIfInBounds_toArray, List.set_cons_zero, List.set_cons_succ, List.getElem_toArray, List.getElem_cons_succ, List.getElem_cons_zero]
 refine wpAnyH_take (i := 4) (v := ?_) rfl (by kernel_rfl) (by kernel_rfl) (by kernel_rfl) (fun _ _ _ h => h) (Or.inl ⟨by rfl, ?_⟩) (by assumption) ?_
 rotate_left
 · intro w' hSw
   have k3 := below_cell hSw C3.out
   have k4 := below_cell hSw B4.out
   go_simp
   try rfl
 simp only [Act.put, List.setIfInBounds_toArray, List.set_cons_zero, List.set_cons_succ, List.getElem_toArray, List.getElem_cons_succ, List.getElem_cons_zero]
 refine wpAnyH_take (i := 5) (v := ?_) rfl (by kernel_rfl) (by kernel_rfl) (by kernel_rfl) (fun _ _ _ h => h) (Or.inl ⟨by rfl, ?_⟩) (by assumption) ?_
 rotate_left
 · intro w' hSw
   have k3 := below_cell hSw C3.out
   have k4 := below_cell hSw B4.out
   go_simp
   try rfl
 simp only [Act.put, List.setIfInBounds_toArray, List.set_cons_zero, List.set_cons_succ, List.getElem_toArray, List.getElem_cons_succ, List.getElem_cons_zero]
 refine wpAnyH_take (i := 7) (v := ?_) rfl (by kernel_rfl) (by kernel_rfl) (by kernel_rfl) (fun _ _ _ h => h) (Or.inl ⟨by rfl, ?_⟩) (by assumption) ?_
 rotate_left
 · intro w' hSw
   have k3 := below_cell hSw C3.out
   have k4 := below_cell hSw B4.out
   go_simp
   try rfl
 simp only [Act.put, List.setIfInBounds_toArray, List.set_cons_zero, List.set_cons_succ, List.getElem_toArray, List.getElem_cons_succ, List.getElem_cons_zero]
 refine wpAnyH_take (i := 8) (v := ?_) rfl (by kernel_rfl) (by kernel_rfl) (by kernel_rfl) (fun _ _ _ h => h) (Or.inl ⟨by rfl, ?_⟩) (by assumption) ?_
 rotate_left
 · intro w' hSw
   have k3 := below_cell hSw C3.out
   have k4 := below_cell hSw B4.out
   go_simp
   try rfl
 simp only [Act.put, List.setIfInBounds_toArray, List.set_cons_zero, List.set_cons_succ, List.getElem_toArray, List.getElem_cons_succ, List.getElem_cons_zero]
 refine wpAnyH_take (i := 9) (v := ?_) rfl (by kernel_rfl) (by kernel_rfl) (by kernel_rfl) (fun _ _ _ h => h) (Or.inl ⟨by rfl, ?_⟩) (by assumption) ?_
 rotate_left
 · intro w' hSw
   have k3 := below_cell hSw C3.out
   have k4 := below_cell hSw B4.out
   go_simp
   try rfl
 simp only [Act.put, List.setIfInBounds_toArray, List.set_cons_zero, List.set_cons_succ, List.getElem_toArray, List.getElem_cons_succ, List.getElem_cons_zero]
 refine wpAnyH_take (i := 10) (v := ?_) rfl (by kernel_rfl) (by kernel_rfl) (by kernel_rfl) (fun _ _ _ h => h) (Or.inl ⟨by rfl, ?_⟩) (by assumption) ?_
 rotate_left
 · intro w' hSw
   have k3 := below_cell hSw C3.out
   have k4 := below_cell hSw B4.out
   go_simp
   try rfl
 simp only [Act.put, List.setIfInBounds_toArray, List.set_cons_zero, List.set_cons_succ, List.getElem_toArray, List.getElem_cons_succ, List.getElem_cons_zero]
 refine wpAnyH_ready (rs := [6]) (by kernel_rfl) (by simp) ?_
 refine AllReadyH.cons rfl (fun K hK => ?_) AllReadyH.nil
 go_simp
 refine (HNEW.out _ hHeld).mono ?_
 rintro e1 w1 ⟨v1, S1, rfl, hS1, hh1, hz1, hb1⟩
 obtain ⟨x1, y1, rfl⟩ := zsAt_len hz1
 have HHB1 := Lib.hid (hHeld.trans (hb1.mono hHeld.size))
 refine hK.out _ _ HHB1.out (fun hHeld => ?_)
 clear hK K
 try simp only [Act.put, List.setIfInBounds_toArray, List.set_cons_zero, List.set_cons_succ, List.getElem_toArray, List.getElem_cons_succ, List.getElem_cons_zero]
 refine wpAnyH_ready (rs := [11]) (by kernel_rfl) (by simp) ?_
 refine AllReadyH.cons rfl (fun K hK => ?_) AllReadyH.nil
 go_simp
 refine (setw.not_any (.slice x1 S1.length y1) S1 _ C.p.most _ hS1 (zsAt_below hz1 (Below.refl _ _)) (by omega) (by omega)).mono ?_
 rintro e2 w2 ⟨v2, S2, rfl, hS2, hh2, hz2, hb2⟩
 obtain ⟨x2, y2, rfl⟩ := zsAt_len hz2
 have HHB2 := Lib.hid (hHeld.trans (hb2.mono hHeld.size))
 refine hK.out _ _ HHB2.out (fun hHeld => ?_)
 clear hK K
 try simp only [Act.put, List.setIfInBounds_toArray, List.set_cons_zero, List.set_cons_succ, List.getElem_toArray, List.getElem_cons_succ, List.getElem_cons_zero]
 refine wpAnyH_ready (rs := [12]) (by kernel_rfl) (by simp) ?_
 refine AllReadyH.cons rfl (fun K hK => ?_) AllReadyH.nil
 go_simp
 refine (setw.ranges_any (.slice x2 S2.length y2) S2 _ _ hS2 hz2).mono ?_
 rintro e3 w3 ⟨v3, rfl, ho3, hb3⟩
 have HHB := Lib.hid (hHeld.trans (hb3.mono hHeld.size))
 refine hK.out _ _ HHB.out (fun hHeld => ?_)
 clear hK K
 try simp only [Act.put, List.setIfInBounds_toArray, List.set_cons_zero, List.set_cons_succ, List.getElem_toArray, List.getElem_cons_succ, List.getElem_cons_zero]
 refine wpAnyH_take (i := 13) (v := ?_) rfl (by kernel_rfl) (by kernel_rfl) (by kernel_rfl) (fun _ _ _ h => h) (Or.inl ⟨by rfl, ?_⟩) (by assumption) ?_
 rotate_left
 · intro w' hSw
   have k3 := below_cell hSw C3.out
   have k4 := below_cell hSw B4.out
   go_simp
   try rfl
 simp only [Act.put, List.setIfInBounds_toArray, List.set_cons_zero, List.set_cons_succ, List.getElem_toArray, List.getElem_cons_succ, List.getElem_cons_zero]
 refine wpAnyH_done (by kernel_rfl) ?_ _
 have HEQ := Lib.hid (show S2 = notR C.p.most set from notR_only hm1 hS2 HC.out fun c => by
   rw [hh2]
   show (0 ≤ c ∧ c ≤ min C.p.most 1114111 ∧ ¬Has S1 c) ↔ _
   rw [hh1]
   constructor
   · rintro ⟨p1, p2, p3⟩
     exact ⟨p1, by omega, fun hq => p3 ⟨hq, p1, by omega⟩⟩
   · rintro ⟨p1, p2, p3⟩
     exact ⟨p1, by omega, fun hq => p3 hq.1⟩)
 have HO := Lib.hid (ownR_base ho3 (b' := b0) (by have := HB0.out; have := HBW.out.size; have := HHB2.out.size; omega))
 have HXX := Lib.hid (HX1.out.below hHeld)
 have HKK := Lib.hid ((Kept.of_below (L := C.L) HBW.out).then (Kept.of_below (L := C.L) hHeld))
 rw [HEQ.out] at HO
 obtain ⟨x4, y4, rfl⟩ := ownR_len HO.out
 clear hHeld hS1 hh1 hz1 hS2 hh2 hz2 ho3
 go_wp2_with fail
 go_ret
 rw [HS.out]
 exact ⟨_, rfl, HO.out, HXX.out, HKK.out⟩
theorem members_any {C : Cf} {w : World} {a f b0 : Nat} {T : Rw} (h : LX C w a f T) (v : Value) (t : Tk) (ho : OwnR w b0 v t.set) (hb0 : b0 ≤ w.heap.size) (hC : Canon t.set) : Calls Tryz.prog 95 #[.pointer (some ⟨C.L, 0, none⟩), .agg (tkR v t)] w (RetR C w b0 (C.p.members t) a f T) := by
 by_cases h1 : t.kind = 1
 · exact members_lit h v t ho hb0 h1
 · cases h2 : t.neg with
   | false => exact members_set h v t ho hb0 h1 h2
   | true => exact members_not h v t ho hb0 hC h1 h2
theorem prop_can {p : Pt} {f a : Nat} {neg : Bool} {t : Tk} {b : Nat} (h : p.prop f a neg = .ok (t, b)) : Canon t.set := by
 unfold Pt.prop at h
 split at h
 · simp only [Except.ok.injEq, Prod.mk.injEq] at h
   rw [← h.1]
   exact normR_canon (most_le p) _
 · exact absurd h (by simp)
theorem common_can {p : Pt} {f a : Nat} {c : Int} {t : Tk} {b : Nat} (h : p.common f c a = .ok (some (t, b))) : Canon t.set := by
 unfold Pt.common at h
 split at h
 · simp only [Except.ok.injEq, Option.some.injEq, Prod.mk.injEq] at h
   rw [← h.1]
   exact canon_nil
 · split at h
   · split at h
     · exact absurd h (by simp)
     · simp only [Except.ok.injEq, Option.some.injEq, Prod.mk.injEq] at h
       rw [← h.1]
       exact canon_nil
   · split at h
     · split at h
       · exact absurd h (by simp)
       · rename_i r hr
         simp only [Except.ok.injEq, Option.some.injEq] at h
         rw [h] at hr
         exact prop_can hr
     · split at h
       · simp only [Except.ok.injEq, Option.some.injEq, Prod.mk.injEq] at h
         rw [← h.1]
         exact normR_canon (most_le p) _
       · exact absurd h (by simp)
theorem posix_can {p : Pt} {f : Nat} {t : Tk} {b : Nat} (h : p.posix f = .ok (some (t, b))) : Canon t.set := by
 unfold Pt.posix at h
 simp only at h
 repeat' split at h
 all_goals first
   | (simp only [Except.ok.injEq, Option.some.injEq, Prod.mk.injEq] at h
      rw [← h.1]
      exact normR_canon (most_le p) _)
   | exact absurd h (by simp)
theorem classEsc_can {p : Pt} {f a : Nat} {t : Tk} {b : Nat} (h : p.classEsc f a = .ok (t, b)) : Canon t.set := by
 unfold Pt.classEsc at h
 split at h
 · exact absurd h (by simp)
 · split at h
   · exact absurd h (by simp)
   · rename_i r hr
     simp only [Except.ok.injEq] at h
     rw [h] at hr
     exact common_can hr
   · repeat' split at h
     all_goals first
       | (simp only [Except.ok.injEq, Prod.mk.injEq] at h
          rw [← h.1]
          exact canon_nil)
       | exact absurd h (by simp)
theorem item_can {p : Pt} {a : Nat} {t : Tk} {b : Nat} (h : p.item a = .ok (t, b)) : Canon t.set := by
 unfold Pt.item at h
 split at h
 · exact absurd h (by simp)
 · split at h
   · exact absurd h (by simp)
   · rename_i r hr
     simp only [Except.ok.injEq] at h
     rw [h] at hr
     exact posix_can hr
   · split at h
     · exact classEsc_can h
     · simp only [Except.ok.injEq, Prod.mk.injEq] at h
       rw [← h.1]
       exact canon_nil
end Go.Proofs.YtkcmjcgjfjfimaaGreatDoor.tkw
end
