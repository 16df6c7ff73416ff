/- Texts that TokensQuoteLaw leans on, merged: what the functions of the program answer. -/
import Derived.Test.YtkcmjcgjfjfimaaGreatDoorBQu14
section
namespace Go.Proofs.YtkcmjcgjfjfimaaGreatDoor.tkw
open Go Go.RowKit Go.Maps utfp utfw ucdp setp setw prp tkp
set_option maxRecDepth 100000 in
set_option maxHeartbeats 4000000 in
theorem counted_any {C : Cf} {w : World} {a f : Nat} {T : Rw} (h : LX C w a f T) : Calls Tryz.prog 101 #[.pointer (some ⟨C.L, 0, none⟩)] w (RP C w (C.p.counted f a) (QOk C w a f T)) := by
 have tl := h.tl
 have hs : C.p.counted f a = (match C.p.signed f a with
   | .error e => .error e
   | .ok none => .ok none
   | .ok (some (n, m, b)) => match C.p.close f b with
     | .error e => .error e
     | .ok b' => if n = 0 ∧ m ≠ 0 then .error (25, (f : Int)) else .ok (some ({ kind := 12, n := n, m := m }, b'))) := rfl
 have hk0 := Kept.refl w.heap.size C.L w
 have hB := h.hb
 cases hsg : C.p.signed f a with
 | error x =>
   rw [hsg] at hs
   have HS := Lib.hid (show C.p.counted f a = .error x from hs)
   have HSG := Lib.hid hsg
   clear hs hsg
   go_enter Tryz.func101, Tryz.ntmps101
   go_wp2_with fail
   refine Calls.mono (signed_any h) ?_
   intro e1 w1 hr
   rw [HSG.out] at hr
   obtain ⟨rfl, hkn⟩ := hr
   exact ⟨rfl, rp_err HS.out ⟨rfl, (hk0.mono hB).trans hkn⟩⟩
 | ok o =>
   cases o with
   | none =>
     rw [hsg] at hs
     have HS := Lib.hid (show C.p.counted f a = .ok none from hs)
     have HSG := Lib.hid hsg
     clear hs hsg
     go_enter Tryz.func101, Tryz.ntmps101
     go_wp2_with fail
     refine Calls.mono (signed_any h) ?_
     intro e1 w1 hr
     rw [HSG.out] at hr
     obtain ⟨rfl, hx1, hkn⟩ := hr
     have hk1 := hk0.then hkn
     clear hkn
     go_wp2_with fail
     go_ret
     exact rp_ok HS.out ⟨rfl, hx1, hk1⟩
   | some r =>
     obtain ⟨n, m, b⟩ := r
     rw [hsg] at hs
     simp only at hs
     obtain ⟨s1, s2, s3, s4⟩ := signed_gt h.an hsg
     have HSG := Lib.hid hsg
     clear hsg
     cases h4 : C.p.has [41] b with
     | false =>
       have hcl : C.p.close f b = .error (C.p.broken f b) := by unfold Pt.close; rw [if_neg (by simp [h4])]
       rw [hcl] at hs
       have HS := Lib.hid (show C.p.counted f a = .error (C.p.broken f b) from hs)
       have HCL := Lib.hid hcl
       clear hs hcl h4
       go_enter Tryz.func101, Tryz.ntmps101
       go_wp2_with fail
       refine Calls.mono (signed_any h) ?_
       intro e1 w1 hr
       rw [HSG.out] at hr
       obtain ⟨rfl, hx1, hkn⟩ := hr
       have hk1 := hk0.then hkn
       clear hkn
       go_wp2_with fail
       refine Calls.mono (close_any hx1) ?_
       intro e2 w2 hr
       rw [HCL.out] at hr
       obtain ⟨rfl, hkn⟩ := hr
       exact ⟨rfl, rp_err HS.out ⟨rfl, (hk1.mono hB).trans hkn⟩⟩
     | true =>
       have hcl : C.p.close f b = .ok (b + 1) := by unfold Pt.close; rw [if_pos h4]
       rw [hcl] at hs
       simp only at hs
       have HCL := Lib.hid hcl
       clear hcl h4
       by_cases hn0 : n = 0
       · subst hn0
         by_cases hm0 : m = 0
         · subst hm0
           have HS := Lib.hid (show C.p.counted f a = .ok (some (({ kind := 12, n := 0, m := 0 } : Tk), b + 1)) by rw [hs, if_neg (by simp; try omega)])
           clear hs
           go_enter Tryz.func101, Tryz.ntmps101
           go_wp2_with fail
           refine Calls.mono (signed_any h) ?_
           intro e1 w1 hr
           rw [HSG.out] at hr
           obtain ⟨rfl, hx1, hkn⟩ := hr
           have hk1 := hk0.then hkn
           clear hkn
           go_wp2_with fail
           refine Calls.mono (close_any hx1) ?_
           intro e2 w2 hr
           rw [HCL.out] at hr
           obtain ⟨rfl, hx2, hkn⟩ := hr
           have hk2 := hk1.then hkn
           clear hkn
           go_wp2_with fail
           refine Calls.mono (put_any hx2 (.slice none 0 0) ({ kind := 12, n := 0, m := 0 } : Tk) (ownR_nil _ _) (by omega)) ?_
           rintro e5 w5 ⟨rfl, hx5, hkn⟩
           go_wp2_with fail
           go_ret
           exact rp_ok HS.out ⟨rfl, hx5, (hk2.mono hB).trans hkn⟩
         · have hb0 : (m != 0) = true := by simpa using hm0
           have HS := Lib.hid (show C.p.counted f a = .error (C.p.er 25 f) by rw [hs, if_pos ⟨rfl, hm0⟩]; rfl)
           clear hs
           go_enter Tryz.func101, Tryz.ntmps101
           go_wp2_with fail
           refine Calls.mono (signed_any h) ?_
           intro e1 w1 hr
           rw [HSG.out] at hr
           obtain ⟨rfl, hx1, hkn⟩ := hr
           have hk1 := hk0.then hkn
           clear hkn
           go_wp2_with fail
           refine Calls.mono (close_any hx1) ?_
           intro e2 w2 hr
           rw [HCL.out] at hr
           obtain ⟨rfl, hx2, hkn⟩ := hr
           have hk2 := hk1.then hkn
           clear hkn
           go_wp2_with fail
           refine Calls.mono (fail_any hx2 25) ?_
           rintro e9 w9 ⟨rfl, hkn⟩
           exact ⟨rfl, rp_err HS.out ⟨rfl, (hk2.mono hB).trans hkn⟩⟩
       · have HS := Lib.hid (show C.p.counted f a = .ok (some (({ kind := 12, n := n, m := m } : Tk), b + 1)) by rw [hs, if_neg (by simp; try omega)])
         clear hs
         go_enter Tryz.func101, Tryz.ntmps101
         go_wp2_with fail
         refine Calls.mono (signed_any h) ?_
         intro e1 w1 hr
         rw [HSG.out] at hr
         obtain ⟨rfl, hx1, hkn⟩ := hr
         have hk1 := hk0.then hkn
         clear hkn
         go_wp2_with fail
         refine Calls.mono (close_any hx1) ?_
         intro e2 w2 hr
         rw [HCL.out] at hr
         obtain ⟨rfl, hx2, hkn⟩ := hr
         have hk2 := hk1.then hkn
         clear hkn
         go_wp2_with fail
         refine Calls.mono (put_any hx2 (.slice none 0 0) ({ kind := 12, n := n, m := m } : Tk) (ownR_nil _ _) (by omega)) ?_
         rintro e5 w5 ⟨rfl, hx5, hkn⟩
         go_wp2_with fail
         go_ret
         exact rp_ok HS.out ⟨rfl, hx5, (hk2.mono hB).trans hkn⟩
end Go.Proofs.YtkcmjcgjfjfimaaGreatDoor.tkw
end
section
namespace Go.Proofs.YtkcmjcgjfjfimaaGreatDoor.tkw
open Go Go.RowKit Go.Maps utfp utfw ucdp setp setw prp tkp
def escN (p : Pt) (f a : Nat) (c : Int) (b : Nat) : R (List Tk × Nat) :=
 if assertE c ≠ 0 then tkp.one f (.ok ({ kind := 4, n := assertE c }, b))
 else if c = 81 then .ok (p.quoted (p.n - b) b)
 else if c = 69 then .ok ([], b)
 else if c = 78 then tkp.one f (.ok ({ kind := 2, set := [(10, 10)], neg := true }, b))
 else if c = 75 then tkp.one f (.ok ({ kind := 5 }, b))
 else if c = 82 then tkp.one f (.ok ({ kind := 6 }, b))
 else if c = 103 then tkp.one f (p.refer f b)
 else if c = 107 then tkp.one f (p.nback f b)
 else if c ≠ 48 ∧ isDig c = true then (match p.number f a with | .error e => .error e | .ok (n, b') => tkp.one f (.ok ({ kind := 11, n := n }, b')))
 else if c = 48 ∨ isLet c = true then .error (21, f)
 else tkp.one f (.ok ({ kind := 1, c := c }, b))
theorem escape_eq {p : Pt} {f a b : Nat} {c : Int} (h1 : ¬ a = p.n) (hc : (p.char a).1 = c) (hb : (p.char a).2 = b) : p.escape f a = (match p.common f c b with
   | .error e => .error e
   | .ok (some r) => tkp.one f (.ok r)
   | .ok none => escN p f a c b) := by
 subst hc hb
 unfold Pt.escape escN
 rw [if_neg h1]
 rfl
set_option maxRecDepth 100000 in
set_option maxHeartbeats 2000000 in
theorem escape_0 {C : Cf} {w : World} {a f : Nat} {T : Rw} (h : LX C w a f T) (h1 : a = C.p.n) : Calls Tryz.prog 36 #[.pointer (some ⟨C.L, 0, none⟩)] w (RP C w (C.p.escape f a) (PtOk C w T)) := by
 have HS := Lib.hid (show C.p.escape f a = .error (C.p.er 20 f) by unfold Pt.escape; rw [if_pos h1]; rfl)
 have HA := Lib.hid (show decide (a = C.p.n) = true by simpa using h1)
 clear h1
 have hk0 := Kept.refl w.heap.size C.L w
 have hB := h.hb
 go_enter Tryz.func36, Tryz.ntmps36
 go_wp2_with fail
 refine Calls.mono (ended_any h) ?_
 rintro e1 w1 ⟨rfl, q1, rfl⟩
 rw [HA.out]
 go_wp2_with fail
 refine Calls.mono (fail_any (h.drewN q1) 20) ?_
 rintro e9 w9 ⟨rfl, hkn⟩
 exact ⟨rfl, rp_err HS.out ⟨rfl, ((hk0.drewN q1).mono hB).trans hkn⟩⟩
set_option maxRecDepth 100000 in
set_option maxHeartbeats 2000000 in
theorem escape_1 {C : Cf} {w : World} {a f : Nat} {T : Rw} (h : LX C w a f T) (hT : T.length + 1 ≤ a) (h1 : ¬ a = C.p.n) {c : Int} {b : Nat} (hcc : (C.p.char a).1 = c) (hb : (C.p.char a).2 = b) {x : Int × Int} (hm : C.p.common f c b = .error x) : Calls Tryz.prog 36 #[.pointer (some ⟨C.L, 0, none⟩)] w (RP C w (C.p.escape f a) (PtOk C w T)) := by
 have hs := escape_eq (f := f) h1 hcc hb
 have hcp := char_pure h.sl.1 h.an
 obtain ⟨_, p2, p3, p4⟩ := hcp
 have hlt := p4 (by have := h.an; omega)
 have hv := char_val h.sl.1 h.an
 rw [hb] at p2 p3 hlt
 rw [hcc] at hv
 have HA := Lib.hid (show decide (a = C.p.n) = false by simpa using h1)
 have HCC := Lib.hid hcc
 have HBB := Lib.hid hb
 have an := h.an
 have tl := h.tl
 have hn := h.ok.n
 clear hcc hb h1 p4
 have hk0 := Kept.refl w.heap.size C.L w
 have hB := h.hb
 rw [hm] at hs
 have HS := Lib.hid (show C.p.escape f a = .error x from hs)
 have HM := Lib.hid hm
 clear hs hm
 go_enter Tryz.func36, Tryz.ntmps36
 go_wp2_with fail
 refine Calls.mono (ended_any h) ?_
 rintro e1 w1 ⟨rfl, q1, rfl⟩
 have hx1 := h.drewN q1
 have hk1 := hk0.drewN q1
 have d1 := hx1.cells.c1
 rw [HA.out]
 go_wp2_with fail
 refine Calls.mono (char_any hx1) ?_
 intro e2 w2 hr
 rw [HBB.out, HCC.out] at hr
 obtain ⟨rfl, hx2, hkn⟩ := hr
 have hk2 := hk1.then hkn
 clear hkn d1
 go_wp2_with fail
 refine Calls.mono (common_any hx2 c hv) ?_
 intro e3 w3 hr
 rw [HM.out] at hr
 obtain ⟨rfl, hkn⟩ := hr
 exact ⟨rfl, rp_err HS.out ⟨rfl, (hk2.mono hB).trans hkn⟩⟩
set_option maxRecDepth 100000 in
set_option maxHeartbeats 2000000 in
theorem escape_2 {C : Cf} {w : World} {a f : Nat} {T : Rw} (h : LX C w a f T) (hT : T.length + 1 ≤ a) (h1 : ¬ a = C.p.n) {c : Int} {b : Nat} (hcc : (C.p.char a).1 = c) (hb : (C.p.char a).2 = b) {t : Tk} {b' : Nat} (hm : C.p.common f c b = .ok (some (t, b'))) : Calls Tryz.prog 36 #[.pointer (some ⟨C.L, 0, none⟩)] w (RP C w (C.p.escape f a) (PtOk C w T)) := by
 have hs := escape_eq (f := f) h1 hcc hb
 have hcp := char_pure h.sl.1 h.an
 obtain ⟨_, p2, p3, p4⟩ := hcp
 have hlt := p4 (by have := h.an; omega)
 have hv := char_val h.sl.1 h.an
 rw [hb] at p2 p3 hlt
 rw [hcc] at hv
 have HA := Lib.hid (show decide (a = C.p.n) = false by simpa using h1)
 have HCC := Lib.hid hcc
 have HBB := Lib.hid hb
 have an := h.an
 have tl := h.tl
 have hn := h.ok.n
 clear hcc hb h1 p4
 have hk0 := Kept.refl w.heap.size C.L w
 have hB := h.hb
 have hge := common_ge h.sl.1 p3 hm
 rw [hm] at hs
 have HS := Lib.hid (show C.p.escape f a = .ok ([lay t f b'], b') from hs)
 have HM := Lib.hid hm
 clear hs hm
 go_enter Tryz.func36, Tryz.ntmps36
 go_wp2_with fail
 refine Calls.mono (ended_any h) ?_
 rintro e1 w1 ⟨rfl, q1, rfl⟩
 have hx1 := h.drewN q1
 have hk1 := hk0.drewN q1
 have d1 := hx1.cells.c1
 rw [HA.out]
 go_wp2_with fail
 refine Calls.mono (char_any hx1) ?_
 intro e2 w2 hr
 rw [HBB.out, HCC.out] at hr
 obtain ⟨rfl, hx2, hkn⟩ := hr
 have hk2 := hk1.then hkn
 clear hkn d1
 go_wp2_with fail
 refine Calls.mono (common_any hx2 c hv) ?_
 intro e3 w3 hr
 rw [HM.out] at hr
 obtain ⟨v3, rfl, ho, hx3, hkn⟩ := hr
 obtain ⟨x3, y3, rfl⟩ := ownR_len ho
 have hk3 := hk2.then hkn
 have hbA := below_al w3 (.cells (tkR (.slice x3 t.set.length y3) t) 30)
 have HOA := Lib.hid (ownR_base (show OwnR (w3.alloc (.cells (tkR (.slice x3 t.set.length y3) t) 30)) w2.heap.size (.slice x3 t.set.length y3) t.set from ⟨World.ownsRow.alloc ho.1 _, ho.2⟩) (b' := C.base) (Nat.le_trans hB hk2.size))
 have hx4 := hx3.below hbA
 have hk4 := hk3.then (Kept.of_below (L := C.L) hbA)
 clear hkn ho hbA
 unfold tkR
 go_wp2_with fail
 refine Calls.mono (put_any hx4 (.slice x3 t.set.length y3) t (HOA.out) (by omega)) ?_
 intro e8 w8 hr
 have HP := Lib.hid (ptOk_put hr (hk4.mono hB))
 obtain ⟨rfl, _, _⟩ := hr
 go_wp2_with fail
 go_end0
 exact rp_ok HS.out HP.out
set_option maxRecDepth 100000 in
set_option maxHeartbeats 4000000 in
theorem escape_3 {C : Cf} {w : World} {a f : Nat} {T : Rw} (h : LX C w a f T) (hT : T.length + 1 ≤ a) (h1 : ¬ a = C.p.n) {c : Int} {b : Nat} (hcc : (C.p.char a).1 = c) (hb : (C.p.char a).2 = b) (hm : C.p.common f c b = .ok none) (ha : assertE c ≠ 0) : Calls Tryz.prog 36 #[.pointer (some ⟨C.L, 0, none⟩)] w (RP C w (C.p.escape f a) (PtOk C w T)) := by
 have hs := escape_eq (f := f) h1 hcc hb
 have hcp := char_pure h.sl.1 h.an
 obtain ⟨_, p2, p3, p4⟩ := hcp
 have hlt := p4 (by have := h.an; omega)
 have hv := char_val h.sl.1 h.an
 rw [hb] at p2 p3 hlt
 rw [hcc] at hv
 have HA := Lib.hid (show decide (a = C.p.n) = false by simpa using h1)
 have HCC := Lib.hid hcc
 have HBB := Lib.hid hb
 have an := h.an
 have tl := h.tl
 have hn := h.ok.n
 clear hcc hb h1 p4
 have hk0 := Kept.refl w.heap.size C.L w
 have hB := h.hb
 have HLE := Lib.hid (look_ass c)
 have HD := Lib.hid (show decide (assertE c ≠ 0) = true by simpa using ha)
 rw [HD.out] at HLE
 rw [hm] at hs
 simp only at hs
 have HM := Lib.hid hm
 clear hm
 have HS := Lib.hid (show C.p.escape f a = .ok ([lay ({ kind := 4, n := assertE c } : Tk) f b], b) by rw [hs]; unfold escN; rw [if_pos ha]; rfl)
 clear hs ha
 go_enter Tryz.func36, Tryz.ntmps36
 go_wp2_with fail
 refine Calls.mono (ended_any h) ?_
 rintro e1 w1 ⟨rfl, q1, rfl⟩
 have hx1 := h.drewN q1
 have hk1 := hk0.drewN q1
 have d1 := hx1.cells.c1
 rw [HA.out]
 go_wp2_with fail
 refine Calls.mono (char_any hx1) ?_
 intro e2 w2 hr
 rw [HBB.out, HCC.out] at hr
 obtain ⟨rfl, hx2, hkn⟩ := hr
 have hk2 := hk1.then hkn
 clear hkn d1
 go_wp2_with fail
 refine Calls.mono (common_any hx2 c hv) ?_
 intro e3 w3 hr
 rw [HM.out] at hr
 obtain ⟨v3, rfl, ho, hx3, hkn⟩ := hr
 obtain ⟨x3, y3, rfl⟩ := ownR_len ho
 have hk3 := hk2.then hkn
 have hbA := below_al w3 (.cells (tkR (.slice x3 tk0.set.length y3) tk0) 30)
 have hx4 := hx3.below hbA
 have hk4 := hk3.then (Kept.of_below (L := C.L) hbA)
 obtain ⟨m2, hm2⟩ := hx4.e2
 have c7 := hx4.cells.c7
 have HM2 := Lib.hid hm2
 clear hkn ho hbA hm2
 unfold tkR at c7 HM2
 unfold tkR
 go_wp2_with (refine wpList_look_i rfl _ _ rfl C.m2 m2 assL rfl HM2.out c rfl (by omega) ?_; rw [HLE.out.1, HLE.out.2])
 refine Calls.mono (put_any hx4 (.slice none 0 0) ({ kind := 4, n := assertE c } : Tk) (ownR_nil _ _) (by omega)) ?_
 intro e8 w8 hr
 have HP := Lib.hid (ptOk_put hr (hk4.mono hB))
 obtain ⟨rfl, _, _⟩ := hr
 go_wp2_with fail
 go_end0
 exact rp_ok HS.out HP.out
set_option maxRecDepth 100000 in
set_option maxHeartbeats 4000000 in
theorem escape_4 {C : Cf} {w : World} {a f : Nat} {T : Rw} (h : LX C w a f T) (hT : T.length + 1 ≤ a) (h1 : ¬ a = C.p.n) {c : Int} {b : Nat} (hcc : (C.p.char a).1 = c) (hb : (C.p.char a).2 = b) (hm : C.p.common f c b = .ok none) (hk : c = 81) : Calls Tryz.prog 36 #[.pointer (some ⟨C.L, 0, none⟩)] w (RP C w (C.p.escape f a) (PtOk C w T)) := by
 have hs := escape_eq (f := f) h1 hcc hb
 subst hk
 have hcp := char_pure h.sl.1 h.an
 obtain ⟨_, p2, p3, p4⟩ := hcp
 have hlt := p4 (by have := h.an; omega)
 have hv := char_val h.sl.1 h.an
 rw [hb] at p2 p3 hlt
 rw [hcc] at hv
 have HA := Lib.hid (show decide (a = C.p.n) = false by simpa using h1)
 have HCC := Lib.hid hcc
 have HBB := Lib.hid hb
 have an := h.an
 have tl := h.tl
 have hn := h.ok.n
 clear hcc hb h1 p4
 have hk0 := Kept.refl w.heap.size C.L w
 have hB := h.hb
 have HLE := Lib.hid (look_ass 81)
 have HD := Lib.hid (show decide (assertE 81 ≠ 0) = false by decide)
 rw [HD.out] at HLE
 rw [hm] at hs
 simp only at hs
 have HM := Lib.hid hm
 clear hm
 obtain ⟨R, hR⟩ : ∃ R, C.p.quoted (C.p.n - b) b = R := ⟨_, rfl⟩
 have HS := Lib.hid (show C.p.escape f a = .ok R by rw [hs]; unfold escN; rw [if_neg (by decide), if_pos rfl, hR])
 have HR := Lib.hid hR
 clear hs hR
 go_enter Tryz.func36, Tryz.ntmps36
 go_wp2_with fail
 refine Calls.mono (ended_any h) ?_
 rintro e1 w1 ⟨rfl, q1, rfl⟩
 have hx1 := h.drewN q1
 have hk1 := hk0.drewN q1
 have d1 := hx1.cells.c1
 rw [HA.out]
 go_wp2_with fail
 refine Calls.mono (char_any hx1) ?_
 intro e2 w2 hr
 rw [HBB.out, HCC.out] at hr
 obtain ⟨rfl, hx2, hkn⟩ := hr
 have hk2 := hk1.then hkn
 clear hkn d1
 go_wp2_with fail
 refine Calls.mono (common_any hx2 81 hv) ?_
 intro e3 w3 hr
 rw [HM.out] at hr
 obtain ⟨v3, rfl, ho, hx3, hkn⟩ := hr
 obtain ⟨x3, y3, rfl⟩ := ownR_len ho
 have hk3 := hk2.then hkn
 have hbA := below_al w3 (.cells (tkR (.slice x3 tk0.set.length y3) tk0) 30)
 have hx4 := hx3.below hbA
 have hk4 := hk3.then (Kept.of_below (L := C.L) hbA)
 obtain ⟨m2, hm2⟩ := hx4.e2
 have c7 := hx4.cells.c7
 have HM2 := Lib.hid hm2
 clear hkn ho hbA hm2
 unfold tkR at c7 HM2
 unfold tkR
 go_wp2_with (refine wpList_look_i rfl _ _ rfl C.m2 m2 assL rfl HM2.out 81 rfl (by omega) ?_; rw [HLE.out.1, HLE.out.2])
 refine Calls.mono (quoted_any hx4) ?_
 intro e8 w8 hr
 rw [HR.out] at hr
 obtain ⟨rfl, f', v', hx8, hkn⟩ := hr
 have HP := Lib.hid (show PtOk C w T R (.returned (.tuple #[])) w8 from ⟨rfl, f', v', hx8, (hk4.mono hB).trans hkn⟩)
 clear hx8 hkn
 go_wp2_with fail
 go_end0
 exact rp_ok HS.out HP.out
set_option maxRecDepth 100000 in
set_option maxHeartbeats 4000000 in
theorem escape_5 {C : Cf} {w : World} {a f : Nat} {T : Rw} (h : LX C w a f T) (hT : T.length + 1 ≤ a) (h1 : ¬ a = C.p.n) {c : Int} {b : Nat} (hcc : (C.p.char a).1 = c) (hb : (C.p.char a).2 = b) (hm : C.p.common f c b = .ok none) (hk : c = 69) : Calls Tryz.prog 36 #[.pointer (some ⟨C.L, 0, none⟩)] w (RP C w (C.p.escape f a) (PtOk C w T)) := by
 have hs := escape_eq (f := f) h1 hcc hb
 subst hk
 have hcp := char_pure h.sl.1 h.an
 obtain ⟨_, p2, p3, p4⟩ := hcp
 have hlt := p4 (by have := h.an; omega)
 have hv := char_val h.sl.1 h.an
 rw [hb] at p2 p3 hlt
 rw [hcc] at hv
 have HA := Lib.hid (show decide (a = C.p.n) = false by simpa using h1)
 have HCC := Lib.hid hcc
 have HBB := Lib.hid hb
 have an := h.an
 have tl := h.tl
 have hn := h.ok.n
 clear hcc hb h1 p4
 have hk0 := Kept.refl w.heap.size C.L w
 have hB := h.hb
 have HLE := Lib.hid (look_ass 69)
 have HD := Lib.hid (show decide (assertE 69 ≠ 0) = false by decide)
 rw [HD.out] at HLE
 rw [hm] at hs
 simp only at hs
 have HM := Lib.hid hm
 clear hm
 have HS := Lib.hid (show C.p.escape f a = .ok ([], b) by rw [hs]; unfold escN; rw [if_neg (by decide), if_neg (by decide), if_pos rfl])
 clear hs
 go_enter Tryz.func36, Tryz.ntmps36
 go_wp2_with fail
 refine Calls.mono (ended_any h) ?_
 rintro e1 w1 ⟨rfl, q1, rfl⟩
 have hx1 := h.drewN q1
 have hk1 := hk0.drewN q1
 have d1 := hx1.cells.c1
 rw [HA.out]
 go_wp2_with fail
 refine Calls.mono (char_any hx1) ?_
 intro e2 w2 hr
 rw [HBB.out, HCC.out] at hr
 obtain ⟨rfl, hx2, hkn⟩ := hr
 have hk2 := hk1.then hkn
 clear hkn d1
 go_wp2_with fail
 refine Calls.mono (common_any hx2 69 hv) ?_
 intro e3 w3 hr
 rw [HM.out] at hr
 obtain ⟨v3, rfl, ho, hx3, hkn⟩ := hr
 obtain ⟨x3, y3, rfl⟩ := ownR_len ho
 have hk3 := hk2.then hkn
 have hbA := below_al w3 (.cells (tkR (.slice x3 tk0.set.length y3) tk0) 30)
 have hx4 := hx3.below hbA
 have hk4 := hk3.then (Kept.of_below (L := C.L) hbA)
 obtain ⟨m2, hm2⟩ := hx4.e2
 have c7 := hx4.cells.c7
 have HM2 := Lib.hid hm2
 clear hkn ho hbA hm2
 unfold tkR at c7 HM2
 unfold tkR
 go_wp2_with (refine wpList_look_i rfl _ _ rfl C.m2 m2 assL rfl HM2.out 69 rfl (by omega) ?_; rw [HLE.out.1, HLE.out.2])
 go_end0
 exact rp_ok HS.out ⟨rfl, f, T.v, by rw [List.append_nil]; exact hx4, hk4.mono hB⟩
set_option maxRecDepth 100000 in
set_option maxHeartbeats 4000000 in
theorem escape_6 {C : Cf} {w : World} {a f : Nat} {T : Rw} (h : LX C w a f T) (hT : T.length + 1 ≤ a) (h1 : ¬ a = C.p.n) {c : Int} {b : Nat} (hcc : (C.p.char a).1 = c) (hb : (C.p.char a).2 = b) (hm : C.p.common f c b = .ok none) (hk : c = 78) : Calls Tryz.prog 36 #[.pointer (some ⟨C.L, 0, none⟩)] w (RP C w (C.p.escape f a) (PtOk C w T)) := by
 have hs := escape_eq (f := f) h1 hcc hb
 subst hk
 have hcp := char_pure h.sl.1 h.an
 obtain ⟨_, p2, p3, p4⟩ := hcp
 have hlt := p4 (by have := h.an; omega)
 have hv := char_val h.sl.1 h.an
 rw [hb] at p2 p3 hlt
 rw [hcc] at hv
 have HA := Lib.hid (show decide (a = C.p.n) = false by simpa using h1)
 have HCC := Lib.hid hcc
 have HBB := Lib.hid hb
 have an := h.an
 have tl := h.tl
 have hn := h.ok.n
 clear hcc hb h1 p4
 have hk0 := Kept.refl w.heap.size C.L w
 have hB := h.hb
 have HLE := Lib.hid (look_ass 78)
 have HD := Lib.hid (show decide (assertE 78 ≠ 0) = false by decide)
 rw [HD.out] at HLE
 rw [hm] at hs
 simp only at hs
 have HM := Lib.hid hm
 clear hm
 have HS := Lib.hid (show C.p.escape f a = .ok ([lay ({ kind := 2, set := [(10, 10)], neg := true } : Tk) f b], b) by rw [hs]; unfold escN; rw [if_neg (by decide), if_neg (by decide), if_neg (by decide), if_pos rfl]; rfl)
 clear hs
 go_enter Tryz.func36, Tryz.ntmps36
 go_wp2_with fail
 refine Calls.mono (ended_any h) ?_
 rintro e1 w1 ⟨rfl, q1, rfl⟩
 have hx1 := h.drewN q1
 have hk1 := hk0.drewN q1
 have d1 := hx1.cells.c1
 rw [HA.out]
 go_wp2_with fail
 refine Calls.mono (char_any hx1) ?_
 intro e2 w2 hr
 rw [HBB.out, HCC.out] at hr
 obtain ⟨rfl, hx2, hkn⟩ := hr
 have hk2 := hk1.then hkn
 clear hkn d1
 go_wp2_with fail
 refine Calls.mono (common_any hx2 78 hv) ?_
 intro e3 w3 hr
 rw [HM.out] at hr
 obtain ⟨v3, rfl, ho, hx3, hkn⟩ := hr
 obtain ⟨x3, y3, rfl⟩ := ownR_len ho
 have hk3 := hk2.then hkn
 have hbA := below_al w3 (.cells (tkR (.slice x3 tk0.set.length y3) tk0) 30)
 have hx4 := hx3.below hbA
 have hk4 := hk3.then (Kept.of_below (L := C.L) hbA)
 obtain ⟨m2, hm2⟩ := hx4.e2
 have c7 := hx4.cells.c7
 have HM2 := Lib.hid hm2
 clear hkn ho hbA hm2
 unfold tkR at c7 HM2
 unfold tkR
 go_wp2_with (refine wpList_look_i rfl _ _ rfl C.m2 m2 assL rfl HM2.out 78 rfl (by omega) ?_; rw [HLE.out.1, HLE.out.2])
 have hbN := below_al (w3.alloc (.cells (tkR (.slice x3 tk0.set.length y3) tk0) 30)) (.cells #[.int .i64 10, .int .i64 10] 43)
 have hx5 := hx4.below hbN
 have hk5 := hk4.then (Kept.of_below (L := C.L) hbN)
 have HON := Lib.hid (ownR_new (w := w3.alloc (.cells (tkR (.slice x3 tk0.set.length y3) tk0) 30)) (b0 := C.base) (B := w3.heap.size + 1) (x := 10) (y := 10) (by have := hk3.size; omega) (World.size_alloc ..).symm)
 refine Calls.mono (put_any hx5 (.slice (some ⟨w3.heap.size + 1, 0, none⟩) 1 1) ({ kind := 2, set := [(10, 10)], neg := true } : Tk) (HON.out) (by omega)) ?_
 intro e8 w8 hr
 have HP := Lib.hid (ptOk_put hr (hk5.mono hB))
 obtain ⟨rfl, _, _⟩ := hr
 go_wp2_with fail
 go_end0
 exact rp_ok HS.out HP.out
set_option maxRecDepth 100000 in
set_option maxHeartbeats 4000000 in
theorem escape_7 {C : Cf} {w : World} {a f : Nat} {T : Rw} (h : LX C w a f T) (hT : T.length + 1 ≤ a) (h1 : ¬ a = C.p.n) {c : Int} {b : Nat} (hcc : (C.p.char a).1 = c) (hb : (C.p.char a).2 = b) (hm : C.p.common f c b = .ok none) (hk : c = 75) : Calls Tryz.prog 36 #[.pointer (some ⟨C.L, 0, none⟩)] w (RP C w (C.p.escape f a) (PtOk C w T)) := by
 have hs := escape_eq (f := f) h1 hcc hb
 subst hk
 have hcp := char_pure h.sl.1 h.an
 obtain ⟨_, p2, p3, p4⟩ := hcp
 have hlt := p4 (by have := h.an; omega)
 have hv := char_val h.sl.1 h.an
 rw [hb] at p2 p3 hlt
 rw [hcc] at hv
 have HA := Lib.hid (show decide (a = C.p.n) = false by simpa using h1)
 have HCC := Lib.hid hcc
 have HBB := Lib.hid hb
 have an := h.an
 have tl := h.tl
 have hn := h.ok.n
 clear hcc hb h1 p4
 have hk0 := Kept.refl w.heap.size C.L w
 have hB := h.hb
 have HLE := Lib.hid (look_ass 75)
 have HD := Lib.hid (show decide (assertE 75 ≠ 0) = false by decide)
 rw [HD.out] at HLE
 rw [hm] at hs
 simp only at hs
 have HM := Lib.hid hm
 clear hm
 have HS := Lib.hid (show C.p.escape f a = .ok ([lay ({ kind := 5 } : Tk) f b], b) by rw [hs]; unfold escN; rw [if_neg (by decide), if_neg (by decide), if_neg (by decide), if_neg (by decide), if_pos rfl]; rfl)
 clear hs
 go_enter Tryz.func36, Tryz.ntmps36
 go_wp2_with fail
 refine Calls.mono (ended_any h) ?_
 rintro e1 w1 ⟨rfl, q1, rfl⟩
 have hx1 := h.drewN q1
 have hk1 := hk0.drewN q1
 have d1 := hx1.cells.c1
 rw [HA.out]
 go_wp2_with fail
 refine Calls.mono (char_any hx1) ?_
 intro e2 w2 hr
 rw [HBB.out, HCC.out] at hr
 obtain ⟨rfl, hx2, hkn⟩ := hr
 have hk2 := hk1.then hkn
 clear hkn d1
 go_wp2_with fail
 refine Calls.mono (common_any hx2 75 hv) ?_
 intro e3 w3 hr
 rw [HM.out] at hr
 obtain ⟨v3, rfl, ho, hx3, hkn⟩ := hr
 obtain ⟨x3, y3, rfl⟩ := ownR_len ho
 have hk3 := hk2.then hkn
 have hbA := below_al w3 (.cells (tkR (.slice x3 tk0.set.length y3) tk0) 30)
 have hx4 := hx3.below hbA
 have hk4 := hk3.then (Kept.of_below (L := C.L) hbA)
 obtain ⟨m2, hm2⟩ := hx4.e2
 have c7 := hx4.cells.c7
 have HM2 := Lib.hid hm2
 clear hkn ho hbA hm2
 unfold tkR at c7 HM2
 unfold tkR
 go_wp2_with (refine wpList_look_i rfl _ _ rfl C.m2 m2 assL rfl HM2.out 75 rfl (by omega) ?_; rw [HLE.out.1, HLE.out.2])
 refine Calls.mono (put_any hx4 (.slice none 0 0) ({ kind := 5 } : Tk) (ownR_nil _ _) (by omega)) ?_
 intro e8 w8 hr
 have HP := Lib.hid (ptOk_put hr (hk4.mono hB))
 obtain ⟨rfl, _, _⟩ := hr
 go_wp2_with fail
 go_end0
 exact rp_ok HS.out HP.out
set_option maxRecDepth 100000 in
set_option maxHeartbeats 4000000 in
theorem escape_8 {C : Cf} {w : World} {a f : Nat} {T : Rw} (h : LX C w a f T) (hT : T.length + 1 ≤ a) (h1 : ¬ a = C.p.n) {c : Int} {b : Nat} (hcc : (C.p.char a).1 = c) (hb : (C.p.char a).2 = b) (hm : C.p.common f c b = .ok none) (hk : c = 82) : Calls Tryz.prog 36 #[.pointer (some ⟨C.L, 0, none⟩)] w (RP C w (C.p.escape f a) (PtOk C w T)) := by
 have hs := escape_eq (f := f) h1 hcc hb
 subst hk
 have hcp := char_pure h.sl.1 h.an
 obtain ⟨_, p2, p3, p4⟩ := hcp
 have hlt := p4 (by have := h.an; omega)
 have hv := char_val h.sl.1 h.an
 rw [hb] at p2 p3 hlt
 rw [hcc] at hv
 have HA := Lib.hid (show decide (a = C.p.n) = false by simpa using h1)
 have HCC := Lib.hid hcc
 have HBB := Lib.hid hb
 have an := h.an
 have tl := h.tl
 have hn := h.ok.n
 clear hcc hb h1 p4
 have hk0 := Kept.refl w.heap.size C.L w
 have hB := h.hb
 have HLE := Lib.hid (look_ass 82)
 have HD := Lib.hid (show decide (assertE 82 ≠ 0) = false by decide)
 rw [HD.out] at HLE
 rw [hm] at hs
 simp only at hs
 have HM := Lib.hid hm
 clear hm
 have HS := Lib.hid (show C.p.escape f a = .ok ([lay ({ kind := 6 } : Tk) f b], b) by rw [hs]; unfold escN; rw [if_neg (by decide), if_neg (by decide), if_neg (by decide), if_neg (by decide), if_neg (by decide), if_pos rfl]; rfl)
 clear hs
 go_enter Tryz.func36, Tryz.ntmps36
 go_wp2_with fail
 refine Calls.mono (ended_any h) ?_
 rintro e1 w1 ⟨rfl, q1, rfl⟩
 have hx1 := h.drewN q1
 have hk1 := hk0.drewN q1
 have d1 := hx1.cells.c1
 rw [HA.out]
 go_wp2_with fail
 refine Calls.mono (char_any hx1) ?_
 intro e2 w2 hr
 rw [HBB.out, HCC.out] at hr
 obtain ⟨rfl, hx2, hkn⟩ := hr
 have hk2 := hk1.then hkn
 clear hkn d1
 go_wp2_with fail
 refine Calls.mono (common_any hx2 82 hv) ?_
 intro e3 w3 hr
 rw [HM.out] at hr
 obtain ⟨v3, rfl, ho, hx3, hkn⟩ := hr
 obtain ⟨x3, y3, rfl⟩ := ownR_len ho
 have hk3 := hk2.then hkn
 have hbA := below_al w3 (.cells (tkR (.slice x3 tk0.set.length y3) tk0) 30)
 have hx4 := hx3.below hbA
 have hk4 := hk3.then (Kept.of_below (L := C.L) hbA)
 obtain ⟨m2, hm2⟩ := hx4.e2
 have c7 := hx4.cells.c7
 have HM2 := Lib.hid hm2
 clear hkn ho hbA hm2
 unfold tkR at c7 HM2
 unfold tkR
 go_wp2_with (refine wpList_look_i rfl _ _ rfl C.m2 m2 assL rfl HM2.out 82 rfl (by omega) ?_; rw [HLE.out.1, HLE.out.2])
 refine Calls.mono (put_any hx4 (.slice none 0 0) ({ kind := 6 } : Tk) (ownR_nil _ _) (by omega)) ?_
 intro e8 w8 hr
 have HP := Lib.hid (ptOk_put hr (hk4.mono hB))
 obtain ⟨rfl, _, _⟩ := hr
 go_wp2_with fail
 go_end0
 exact rp_ok HS.out HP.out
set_option maxRecDepth 100000 in
set_option maxHeartbeats 4000000 in
theorem escape_9 {C : Cf} {w : World} {a f : Nat} {T : Rw} (h : LX C w a f T) (hT : T.length + 1 ≤ a) (h1 : ¬ a = C.p.n) {c : Int} {b : Nat} (hcc : (C.p.char a).1 = c) (hb : (C.p.char a).2 = b) (hm : C.p.common f c b = .ok none) (hk : c = 103) : Calls Tryz.prog 36 #[.pointer (some ⟨C.L, 0, none⟩)] w (RP C w (C.p.escape f a) (PtOk C w T)) := by
 have hs := escape_eq (f := f) h1 hcc hb
 subst hk
 have hcp := char_pure h.sl.1 h.an
 obtain ⟨_, p2, p3, p4⟩ := hcp
 have hlt := p4 (by have := h.an; omega)
 have hv := char_val h.sl.1 h.an
 rw [hb] at p2 p3 hlt
 rw [hcc] at hv
 have HA := Lib.hid (show decide (a = C.p.n) = false by simpa using h1)
 have HCC := Lib.hid hcc
 have HBB := Lib.hid hb
 have an := h.an
 have tl := h.tl
 have hn := h.ok.n
 clear hcc hb h1 p4
 have hk0 := Kept.refl w.heap.size C.L w
 have hB := h.hb
 have HLE := Lib.hid (look_ass 103)
 have HD := Lib.hid (show decide (assertE 103 ≠ 0) = false by decide)
 rw [HD.out] at HLE
 rw [hm] at hs
 simp only at hs
 have HM := Lib.hid hm
 clear hm
 have hs2 : C.p.escape f a = tkp.one f (C.p.refer f b) := by rw [hs]; unfold escN; rw [if_neg (by decide), if_neg (by decide), if_neg (by decide), if_neg (by decide), if_neg (by decide), if_neg (by decide), if_pos rfl]
 clear hs
 cases hr0 : tkp.one f (C.p.refer f b) with
 | error x =>
   rw [hr0] at hs2
   have HS := Lib.hid hs2
   have HR := Lib.hid hr0
   clear hs2 hr0
   go_enter Tryz.func36, Tryz.ntmps36
   go_wp2_with fail
   refine Calls.mono (ended_any h) ?_
   rintro e1 w1 ⟨rfl, q1, rfl⟩
   have hx1 := h.drewN q1
   have hk1 := hk0.drewN q1
   have d1 := hx1.cells.c1
   rw [HA.out]
   go_wp2_with fail
   refine Calls.mono (char_any hx1) ?_
   intro e2 w2 hr
   rw [HBB.out, HCC.out] at hr
   obtain ⟨rfl, hx2, hkn⟩ := hr
   have hk2 := hk1.then hkn
   clear hkn d1
   go_wp2_with fail
   refine Calls.mono (common_any hx2 103 hv) ?_
   intro e3 w3 hr
   rw [HM.out] at hr
   obtain ⟨v3, rfl, ho, hx3, hkn⟩ := hr
   obtain ⟨x3, y3, rfl⟩ := ownR_len ho
   have hk3 := hk2.then hkn
   have hbA := below_al w3 (.cells (tkR (.slice x3 tk0.set.length y3) tk0) 30)
   have hx4 := hx3.below hbA
   have hk4 := hk3.then (Kept.of_below (L := C.L) hbA)
   obtain ⟨m2, hm2⟩ := hx4.e2
   have c7 := hx4.cells.c7
   have HM2 := Lib.hid hm2
   clear hkn ho hbA hm2
   unfold tkR at c7 HM2
   unfold tkR
   go_wp2_with (refine wpList_look_i rfl _ _ rfl C.m2 m2 assL rfl HM2.out 103 rfl (by omega) ?_; rw [HLE.out.1, HLE.out.2])
   refine Calls.mono (refer_any hx4) ?_
   intro e8 w8 hr
   rw [HR.out] at hr
   obtain ⟨rfl, hkn⟩ := hr
   exact ⟨rfl, rp_err HS.out ⟨rfl, (hk4.mono hB).trans hkn⟩⟩
 | ok r =>
   rw [hr0] at hs2
   have HS := Lib.hid hs2
   have HR := Lib.hid hr0
   clear hs2 hr0
   go_enter Tryz.func36, Tryz.ntmps36
   go_wp2_with fail
   refine Calls.mono (ended_any h) ?_
   rintro e1 w1 ⟨rfl, q1, rfl⟩
   have hx1 := h.drewN q1
   have hk1 := hk0.drewN q1
   have d1 := hx1.cells.c1
   rw [HA.out]
   go_wp2_with fail
   refine Calls.mono (char_any hx1) ?_
   intro e2 w2 hr
   rw [HBB.out, HCC.out] at hr
   obtain ⟨rfl, hx2, hkn⟩ := hr
   have hk2 := hk1.then hkn
   clear hkn d1
   go_wp2_with fail
   refine Calls.mono (common_any hx2 103 hv) ?_
   intro e3 w3 hr
   rw [HM.out] at hr
   obtain ⟨v3, rfl, ho, hx3, hkn⟩ := hr
   obtain ⟨x3, y3, rfl⟩ := ownR_len ho
   have hk3 := hk2.then hkn
   have hbA := below_al w3 (.cells (tkR (.slice x3 tk0.set.length y3) tk0) 30)
   have hx4 := hx3.below hbA
   have hk4 := hk3.then (Kept.of_below (L := C.L) hbA)
   obtain ⟨m2, hm2⟩ := hx4.e2
   have c7 := hx4.cells.c7
   have HM2 := Lib.hid hm2
   clear hkn ho hbA hm2
   unfold tkR at c7 HM2
   unfold tkR
   go_wp2_with (refine wpList_look_i rfl _ _ rfl C.m2 m2 assL rfl HM2.out 103 rfl (by omega) ?_; rw [HLE.out.1, HLE.out.2])
   refine Calls.mono (refer_any hx4) ?_
   intro e8 w8 hr
   rw [HR.out] at hr
   obtain ⟨rfl, f', v', hx8, hkn⟩ := hr
   have HP := Lib.hid (show PtOk C w T r (.returned (.tuple #[])) w8 from ⟨rfl, f', v', hx8, (hk4.mono hB).trans hkn⟩)
   clear hx8 hkn
   go_wp2_with fail
   go_end0
   exact rp_ok HS.out HP.out
set_option maxRecDepth 100000 in
set_option maxHeartbeats 4000000 in
theorem escape_10 {C : Cf} {w : World} {a f : Nat} {T : Rw} (h : LX C w a f T) (hT : T.length + 1 ≤ a) (h1 : ¬ a = C.p.n) {c : Int} {b : Nat} (hcc : (C.p.char a).1 = c) (hb : (C.p.char a).2 = b) (hm : C.p.common f c b = .ok none) (hk : c = 107) : Calls Tryz.prog 36 #[.pointer (some ⟨C.L, 0, none⟩)] w (RP C w (C.p.escape f a) (PtOk C w T)) := by
 have hs := escape_eq (f := f) h1 hcc hb
 subst hk
 have hcp := char_pure h.sl.1 h.an
 obtain ⟨_, p2, p3, p4⟩ := hcp
 have hlt := p4 (by have := h.an; omega)
 have hv := char_val h.sl.1 h.an
 rw [hb] at p2 p3 hlt
 rw [hcc] at hv
 have HA := Lib.hid (show decide (a = C.p.n) = false by simpa using h1)
 have HCC := Lib.hid hcc
 have HBB := Lib.hid hb
 have an := h.an
 have tl := h.tl
 have hn := h.ok.n
 clear hcc hb h1 p4
 have hk0 := Kept.refl w.heap.size C.L w
 have hB := h.hb
 have HLE := Lib.hid (look_ass 107)
 have HD := Lib.hid (show decide (assertE 107 ≠ 0) = false by decide)
 rw [HD.out] at HLE
 rw [hm] at hs
 simp only at hs
 have HM := Lib.hid hm
 clear hm
 have hs2 : C.p.escape f a = tkp.one f (C.p.nback f b) := by rw [hs]; unfold escN; rw [if_neg (by decide), if_neg (by decide), if_neg (by decide), if_neg (by decide), if_neg (by decide), if_neg (by decide), if_neg (by decide), if_pos rfl]
 clear hs
 cases hr0 : tkp.one f (C.p.nback f b) with
 | error x =>
   rw [hr0] at hs2
   have HS := Lib.hid hs2
   have HR := Lib.hid hr0
   clear hs2 hr0
   go_enter Tryz.func36, Tryz.ntmps36
   go_wp2_with fail
   refine Calls.mono (ended_any h) ?_
   rintro e1 w1 ⟨rfl, q1, rfl⟩
   have hx1 := h.drewN q1
   have hk1 := hk0.drewN q1
   have d1 := hx1.cells.c1
   rw [HA.out]
   go_wp2_with fail
   refine Calls.mono (char_any hx1) ?_
   intro e2 w2 hr
   rw [HBB.out, HCC.out] at hr
   obtain ⟨rfl, hx2, hkn⟩ := hr
   have hk2 := hk1.then hkn
   clear hkn d1
   go_wp2_with fail
   refine Calls.mono (common_any hx2 107 hv) ?_
   intro e3 w3 hr
   rw [HM.out] at hr
   obtain ⟨v3, rfl, ho, hx3, hkn⟩ := hr
   obtain ⟨x3, y3, rfl⟩ := ownR_len ho
   have hk3 := hk2.then hkn
   have hbA := below_al w3 (.cells (tkR (.slice x3 tk0.set.length y3) tk0) 30)
   have hx4 := hx3.below hbA
   have hk4 := hk3.then (Kept.of_below (L := C.L) hbA)
   obtain ⟨m2, hm2⟩ := hx4.e2
   have c7 := hx4.cells.c7
   have HM2 := Lib.hid hm2
   clear hkn ho hbA hm2
   unfold tkR at c7 HM2
   unfold tkR
   go_wp2_with (refine wpList_look_i rfl _ _ rfl C.m2 m2 assL rfl HM2.out 107 rfl (by omega) ?_; rw [HLE.out.1, HLE.out.2])
   refine Calls.mono (nback_any hx4) ?_
   intro e8 w8 hr
   rw [HR.out] at hr
   obtain ⟨rfl, hkn⟩ := hr
   exact ⟨rfl, rp_err HS.out ⟨rfl, (hk4.mono hB).trans hkn⟩⟩
 | ok r =>
   rw [hr0] at hs2
   have HS := Lib.hid hs2
   have HR := Lib.hid hr0
   clear hs2 hr0
   go_enter Tryz.func36, Tryz.ntmps36
   go_wp2_with fail
   refine Calls.mono (ended_any h) ?_
   rintro e1 w1 ⟨rfl, q1, rfl⟩
   have hx1 := h.drewN q1
   have hk1 := hk0.drewN q1
   have d1 := hx1.cells.c1
   rw [HA.out]
   go_wp2_with fail
   refine Calls.mono (char_any hx1) ?_
   intro e2 w2 hr
   rw [HBB.out, HCC.out] at hr
   obtain ⟨rfl, hx2, hkn⟩ := hr
   have hk2 := hk1.then hkn
   clear hkn d1
   go_wp2_with fail
   refine Calls.mono (common_any hx2 107 hv) ?_
   intro e3 w3 hr
   rw [HM.out] at hr
   obtain ⟨v3, rfl, ho, hx3, hkn⟩ := hr
   obtain ⟨x3, y3, rfl⟩ := ownR_len ho
   have hk3 := hk2.then hkn
   have hbA := below_al w3 (.cells (tkR (.slice x3 tk0.set.length y3) tk0) 30)
   have hx4 := hx3.below hbA
   have hk4 := hk3.then (Kept.of_below (L := C.L) hbA)
   obtain ⟨m2, hm2⟩ := hx4.e2
   have c7 := hx4.cells.c7
   have HM2 := Lib.hid hm2
   clear hkn ho hbA hm2
   unfold tkR at c7 HM2
   unfold tkR
   go_wp2_with (refine wpList_look_i rfl _ _ rfl C.m2 m2 assL rfl HM2.out 107 rfl (by omega) ?_; rw [HLE.out.1, HLE.out.2])
   refine Calls.mono (nback_any hx4) ?_
   intro e8 w8 hr
   rw [HR.out] at hr
   obtain ⟨rfl, f', v', hx8, hkn⟩ := hr
   have HP := Lib.hid (show PtOk C w T r (.returned (.tuple #[])) w8 from ⟨rfl, f', v', hx8, (hk4.mono hB).trans hkn⟩)
   clear hx8 hkn
   go_wp2_with fail
   go_end0
   exact rp_ok HS.out HP.out
set_option maxRecDepth 100000 in
set_option maxHeartbeats 4000000 in
theorem escape_11 {C : Cf} {w : World} {a f : Nat} {T : Rw} (h : LX C w a f T) (hT : T.length + 1 ≤ a) (h1 : ¬ a = C.p.n) {c : Int} {b : Nat} (hcc : (C.p.char a).1 = c) (hb : (C.p.char a).2 = b) (hm : C.p.common f c b = .ok none) (ha : assertE c = 0) (k1 : ¬ c = 81) (k2 : ¬ c = 69) (k3 : ¬ c = 78) (k4 : ¬ c = 75) (k5 : ¬ c = 82) (k6 : ¬ c = 103) (k7 : ¬ c = 107) (k8 : c ≠ 48) (hd : isDig c = true) : Calls Tryz.prog 36 #[.pointer (some ⟨C.L, 0, none⟩)] w (RP C w (C.p.escape f a) (PtOk C w T)) := by
 have hs := escape_eq (f := f) h1 hcc hb
 have hcp := char_pure h.sl.1 h.an
 obtain ⟨_, p2, p3, p4⟩ := hcp
 have hlt := p4 (by have := h.an; omega)
 have hv := char_val h.sl.1 h.an
 rw [hb] at p2 p3 hlt
 rw [hcc] at hv
 have HA := Lib.hid (show decide (a = C.p.n) = false by simpa using h1)
 have HCC := Lib.hid hcc
 have HBB := Lib.hid hb
 have an := h.an
 have tl := h.tl
 have hn := h.ok.n
 clear hcc hb h1 p4
 have hk0 := Kept.refl w.heap.size C.L w
 have hB := h.hb
 have HLE := Lib.hid (look_ass c)
 have HD := Lib.hid (show decide (assertE c ≠ 0) = false by simpa using ha)
 rw [HD.out] at HLE
 rw [hm] at hs
 simp only at hs
 have HM := Lib.hid hm
 clear hm
 have HID := Lib.hid (fun u => isDig_any c u)
 have HIL := Lib.hid (fun u => isLet_any c u)
 have HDG := Lib.hid hd
 have hs2 : C.p.escape f a = (match C.p.number f a with | .error e => .error e | .ok (n, b') => tkp.one f (.ok ({ kind := 11, n := n }, b'))) := by rw [hs]; unfold escN; rw [if_neg (by simpa using ha), if_neg k1, if_neg k2, if_neg k3, if_neg k4, if_neg k5, if_neg k6, if_neg k7, if_pos ⟨k8, hd⟩]
 clear hs ha hd
 cases hnb : C.p.number f a with
 | error x =>
   rw [hnb] at hs2
   have HS := Lib.hid (show C.p.escape f a = .error x from hs2)
   have HNB := Lib.hid hnb
   clear hs2 hnb
   go_enter Tryz.func36, Tryz.ntmps36
   go_wp2_with fail
   refine Calls.mono (ended_any h) ?_
   rintro e1 w1 ⟨rfl, q1, rfl⟩
   have hx1 := h.drewN q1
   have hk1 := hk0.drewN q1
   have d1 := hx1.cells.c1
   rw [HA.out]
   go_wp2_with fail
   refine Calls.mono (char_any hx1) ?_
   intro e2 w2 hr
   rw [HBB.out, HCC.out] at hr
   obtain ⟨rfl, hx2, hkn⟩ := hr
   have hk2 := hk1.then hkn
   clear hkn d1
   go_wp2_with fail
   refine Calls.mono (common_any hx2 c hv) ?_
   intro e3 w3 hr
   rw [HM.out] at hr
   obtain ⟨v3, rfl, ho, hx3, hkn⟩ := hr
   obtain ⟨x3, y3, rfl⟩ := ownR_len ho
   have hk3 := hk2.then hkn
   have hbA := below_al w3 (.cells (tkR (.slice x3 tk0.set.length y3) tk0) 30)
   have hx4 := hx3.below hbA
   have hk4 := hk3.then (Kept.of_below (L := C.L) hbA)
   obtain ⟨m2, hm2⟩ := hx4.e2
   have c7 := hx4.cells.c7
   have HM2 := Lib.hid hm2
   clear hkn ho hbA hm2
   unfold tkR at c7 HM2
   unfold tkR
   go_wp2_with (refine wpList_look_i rfl _ _ rfl C.m2 m2 assL rfl HM2.out c rfl (by omega) ?_; rw [HLE.out.1, HLE.out.2])
   refine (HID.out _).mono ?_
   rintro e5 w5 ⟨rfl, rfl⟩
   rw [HDG.out]
   have e1 := hx4.cells.c1
   have fz := hx4.cells.fz 1
   have hx6 := hx4.at_ an tl
   have hk6 := hk4.setCell 1 (.int .i64 a)
   unfold tkR at e1 fz hx6 hk6
   go_wp2_with fail
   refine Calls.mono (number_any hx6) ?_
   intro e8 w8 hr
   rw [HNB.out] at hr
   obtain ⟨rfl, hkn⟩ := hr
   exact ⟨rfl, rp_err HS.out ⟨rfl, (hk6.mono hB).trans hkn⟩⟩
 | ok r =>
   obtain ⟨n, b'⟩ := r
   obtain ⟨n1, n2, n3, n4⟩ := number_bd an hnb
   rw [hnb] at hs2
   have HS := Lib.hid (show C.p.escape f a = .ok ([lay ({ kind := 11, n := n } : Tk) f b'], b') from hs2)
   have HNB := Lib.hid hnb
   clear hs2 hnb
   go_enter Tryz.func36, Tryz.ntmps36
   go_wp2_with fail
   refine Calls.mono (ended_any h) ?_
   rintro e1 w1 ⟨rfl, q1, rfl⟩
   have hx1 := h.drewN q1
   have hk1 := hk0.drewN q1
   have d1 := hx1.cells.c1
   rw [HA.out]
   go_wp2_with fail
   refine Calls.mono (char_any hx1) ?_
   intro e2 w2 hr
   rw [HBB.out, HCC.out] at hr
   obtain ⟨rfl, hx2, hkn⟩ := hr
   have hk2 := hk1.then hkn
   clear hkn d1
   go_wp2_with fail
   refine Calls.mono (common_any hx2 c hv) ?_
   intro e3 w3 hr
   rw [HM.out] at hr
   obtain ⟨v3, rfl, ho, hx3, hkn⟩ := hr
   obtain ⟨x3, y3, rfl⟩ := ownR_len ho
   have hk3 := hk2.then hkn
   have hbA := below_al w3 (.cells (tkR (.slice x3 tk0.set.length y3) tk0) 30)
   have hx4 := hx3.below hbA
   have hk4 := hk3.then (Kept.of_below (L := C.L) hbA)
   obtain ⟨m2, hm2⟩ := hx4.e2
   have c7 := hx4.cells.c7
   have HM2 := Lib.hid hm2
   clear hkn ho hbA hm2
   unfold tkR at c7 HM2
   unfold tkR
   go_wp2_with (refine wpList_look_i rfl _ _ rfl C.m2 m2 assL rfl HM2.out c rfl (by omega) ?_; rw [HLE.out.1, HLE.out.2])
   refine (HID.out _).mono ?_
   rintro e5 w5 ⟨rfl, rfl⟩
   rw [HDG.out]
   have e1 := hx4.cells.c1
   have fz := hx4.cells.fz 1
   have hx6 := hx4.at_ an tl
   have hk6 := hk4.setCell 1 (.int .i64 a)
   unfold tkR at e1 fz hx6 hk6
   go_wp2_with fail
   refine Calls.mono (number_any hx6) ?_
   intro e8 w8 hr
   rw [HNB.out] at hr
   obtain ⟨rfl, hx8, hkn⟩ := hr
   have hk8 := hk6.then hkn
   clear hkn
   go_wp2_with fail
   refine Calls.mono (put_any hx8 (.slice none 0 0) ({ kind := 11, n := n } : Tk) (ownR_nil _ _) (by omega)) ?_
   intro e10 w10 hr
   have HP := Lib.hid (ptOk_put hr (hk8.mono hB))
   obtain ⟨rfl, _, _⟩ := hr
   go_wp2_with fail
   go_end0
   exact rp_ok HS.out HP.out
set_option maxRecDepth 100000 in
set_option maxHeartbeats 4000000 in
theorem escape_12 {C : Cf} {w : World} {a f : Nat} {T : Rw} (h : LX C w a f T) (hT : T.length + 1 ≤ a) (h1 : ¬ a = C.p.n) {c : Int} {b : Nat} (hcc : (C.p.char a).1 = c) (hb : (C.p.char a).2 = b) (hm : C.p.common f c b = .ok none) (hk : c = 48) : Calls Tryz.prog 36 #[.pointer (some ⟨C.L, 0, none⟩)] w (RP C w (C.p.escape f a) (PtOk C w T)) := by
 have hs := escape_eq (f := f) h1 hcc hb
 subst hk
 have hcp := char_pure h.sl.1 h.an
 obtain ⟨_, p2, p3, p4⟩ := hcp
 have hlt := p4 (by have := h.an; omega)
 have hv := char_val h.sl.1 h.an
 rw [hb] at p2 p3 hlt
 rw [hcc] at hv
 have HA := Lib.hid (show decide (a = C.p.n) = false by simpa using h1)
 have HCC := Lib.hid hcc
 have HBB := Lib.hid hb
 have an := h.an
 have tl := h.tl
 have hn := h.ok.n
 clear hcc hb h1 p4
 have hk0 := Kept.refl w.heap.size C.L w
 have hB := h.hb
 have HLE := Lib.hid (look_ass 48)
 have HD := Lib.hid (show decide (assertE 48 ≠ 0) = false by decide)
 rw [HD.out] at HLE
 rw [hm] at hs
 simp only at hs
 have HM := Lib.hid hm
 clear hm
 have HS := Lib.hid (show C.p.escape f a = .error (C.p.er 21 f) by rw [hs]; unfold escN; rw [if_neg (by decide), if_neg (by decide), if_neg (by decide), if_neg (by decide), if_neg (by decide), if_neg (by decide), if_neg (by decide), if_neg (by decide), if_neg (by decide), if_pos (Or.inl rfl)]; rfl)
 clear hs
 go_enter Tryz.func36, Tryz.ntmps36
 go_wp2_with fail
 refine Calls.mono (ended_any h) ?_
 rintro e1 w1 ⟨rfl, q1, rfl⟩
 have hx1 := h.drewN q1
 have hk1 := hk0.drewN q1
 have d1 := hx1.cells.c1
 rw [HA.out]
 go_wp2_with fail
 refine Calls.mono (char_any hx1) ?_
 intro e2 w2 hr
 rw [HBB.out, HCC.out] at hr
 obtain ⟨rfl, hx2, hkn⟩ := hr
 have hk2 := hk1.then hkn
 clear hkn d1
 go_wp2_with fail
 refine Calls.mono (common_any hx2 48 hv) ?_
 intro e3 w3 hr
 rw [HM.out] at hr
 obtain ⟨v3, rfl, ho, hx3, hkn⟩ := hr
 obtain ⟨x3, y3, rfl⟩ := ownR_len ho
 have hk3 := hk2.then hkn
 have hbA := below_al w3 (.cells (tkR (.slice x3 tk0.set.length y3) tk0) 30)
 have hx4 := hx3.below hbA
 have hk4 := hk3.then (Kept.of_below (L := C.L) hbA)
 obtain ⟨m2, hm2⟩ := hx4.e2
 have c7 := hx4.cells.c7
 have HM2 := Lib.hid hm2
 clear hkn ho hbA hm2
 unfold tkR at c7 HM2
 unfold tkR
 go_wp2_with (refine wpList_look_i rfl _ _ rfl C.m2 m2 assL rfl HM2.out 48 rfl (by omega) ?_; rw [HLE.out.1, HLE.out.2])
 refine Calls.mono (fail_any hx4 21) ?_
 rintro e9 w9 ⟨rfl, hkn⟩
 exact ⟨rfl, rp_err HS.out ⟨rfl, (hk4.mono hB).trans hkn⟩⟩
set_option maxRecDepth 100000 in
set_option maxHeartbeats 4000000 in
theorem escape_13 {C : Cf} {w : World} {a f : Nat} {T : Rw} (h : LX C w a f T) (hT : T.length + 1 ≤ a) (h1 : ¬ a = C.p.n) {c : Int} {b : Nat} (hcc : (C.p.char a).1 = c) (hb : (C.p.char a).2 = b) (hm : C.p.common f c b = .ok none) (ha : assertE c = 0) (k1 : ¬ c = 81) (k2 : ¬ c = 69) (k3 : ¬ c = 78) (k4 : ¬ c = 75) (k5 : ¬ c = 82) (k6 : ¬ c = 103) (k7 : ¬ c = 107) (k8 : c ≠ 48) (hd : isDig c = false) (hl : isLet c = true) : Calls Tryz.prog 36 #[.pointer (some ⟨C.L, 0, none⟩)] w (RP C w (C.p.escape f a) (PtOk C w T)) := by
 have hs := escape_eq (f := f) h1 hcc hb
 have hcp := char_pure h.sl.1 h.an
 obtain ⟨_, p2, p3, p4⟩ := hcp
 have hlt := p4 (by have := h.an; omega)
 have hv := char_val h.sl.1 h.an
 rw [hb] at p2 p3 hlt
 rw [hcc] at hv
 have HA := Lib.hid (show decide (a = C.p.n) = false by simpa using h1)
 have HCC := Lib.hid hcc
 have HBB := Lib.hid hb
 have an := h.an
 have tl := h.tl
 have hn := h.ok.n
 clear hcc hb h1 p4
 have hk0 := Kept.refl w.heap.size C.L w
 have hB := h.hb
 have HLE := Lib.hid (look_ass c)
 have HD := Lib.hid (show decide (assertE c ≠ 0) = false by simpa using ha)
 rw [HD.out] at HLE
 rw [hm] at hs
 simp only at hs
 have HM := Lib.hid hm
 clear hm
 have HID := Lib.hid (fun u => isDig_any c u)
 have HIL := Lib.hid (fun u => isLet_any c u)
 have HDG := Lib.hid hd
 have HLG := Lib.hid hl
 have HS := Lib.hid (show C.p.escape f a = .error (C.p.er 21 f) by rw [hs]; unfold escN; rw [if_neg (by simpa using ha), if_neg k1, if_neg k2, if_neg k3, if_neg k4, if_neg k5, if_neg k6, if_neg k7, if_neg (by simp [hd]), if_pos (Or.inr hl)]; rfl)
 clear hs ha hd hl
 go_enter Tryz.func36, Tryz.ntmps36
 go_wp2_with fail
 refine Calls.mono (ended_any h) ?_
 rintro e1 w1 ⟨rfl, q1, rfl⟩
 have hx1 := h.drewN q1
 have hk1 := hk0.drewN q1
 have d1 := hx1.cells.c1
 rw [HA.out]
 go_wp2_with fail
 refine Calls.mono (char_any hx1) ?_
 intro e2 w2 hr
 rw [HBB.out, HCC.out] at hr
 obtain ⟨rfl, hx2, hkn⟩ := hr
 have hk2 := hk1.then hkn
 clear hkn d1
 go_wp2_with fail
 refine Calls.mono (common_any hx2 c hv) ?_
 intro e3 w3 hr
 rw [HM.out] at hr
 obtain ⟨v3, rfl, ho, hx3, hkn⟩ := hr
 obtain ⟨x3, y3, rfl⟩ := ownR_len ho
 have hk3 := hk2.then hkn
 have hbA := below_al w3 (.cells (tkR (.slice x3 tk0.set.length y3) tk0) 30)
 have hx4 := hx3.below hbA
 have hk4 := hk3.then (Kept.of_below (L := C.L) hbA)
 obtain ⟨m2, hm2⟩ := hx4.e2
 have c7 := hx4.cells.c7
 have HM2 := Lib.hid hm2
 clear hkn ho hbA hm2
 unfold tkR at c7 HM2
 unfold tkR
 go_wp2_with (refine wpList_look_i rfl _ _ rfl C.m2 m2 assL rfl HM2.out c rfl (by omega) ?_; rw [HLE.out.1, HLE.out.2])
 refine (HID.out _).mono ?_
 rintro e5 w5 ⟨rfl, rfl⟩
 rw [HDG.out]
 go_wp2_with fail
 refine (HIL.out _).mono ?_
 rintro e6 w6 ⟨rfl, rfl⟩
 rw [HLG.out]
 go_wp2_with fail
 refine Calls.mono (fail_any hx4 21) ?_
 rintro e9 w9 ⟨rfl, hkn⟩
 exact ⟨rfl, rp_err HS.out ⟨rfl, (hk4.mono hB).trans hkn⟩⟩
set_option maxRecDepth 100000 in
set_option maxHeartbeats 4000000 in
theorem escape_14 {C : Cf} {w : World} {a f : Nat} {T : Rw} (h : LX C w a f T) (hT : T.length + 1 ≤ a) (h1 : ¬ a = C.p.n) {c : Int} {b : Nat} (hcc : (C.p.char a).1 = c) (hb : (C.p.char a).2 = b) (hm : C.p.common f c b = .ok none) (ha : assertE c = 0) (k1 : ¬ c = 81) (k2 : ¬ c = 69) (k3 : ¬ c = 78) (k4 : ¬ c = 75) (k5 : ¬ c = 82) (k6 : ¬ c = 103) (k7 : ¬ c = 107) (k8 : c ≠ 48) (hd : isDig c = false) (hl : isLet c = false) : Calls Tryz.prog 36 #[.pointer (some ⟨C.L, 0, none⟩)] w (RP C w (C.p.escape f a) (PtOk C w T)) := by
 have hs := escape_eq (f := f) h1 hcc hb
 have hcp := char_pure h.sl.1 h.an
 obtain ⟨_, p2, p3, p4⟩ := hcp
 have hlt := p4 (by have := h.an; omega)
 have hv := char_val h.sl.1 h.an
 rw [hb] at p2 p3 hlt
 rw [hcc] at hv
 have HA := Lib.hid (show decide (a = C.p.n) = false by simpa using h1)
 have HCC := Lib.hid hcc
 have HBB := Lib.hid hb
 have an := h.an
 have tl := h.tl
 have hn := h.ok.n
 clear hcc hb h1 p4
 have hk0 := Kept.refl w.heap.size C.L w
 have hB := h.hb
 have HLE := Lib.hid (look_ass c)
 have HD := Lib.hid (show decide (assertE c ≠ 0) = false by simpa using ha)
 rw [HD.out] at HLE
 rw [hm] at hs
 simp only at hs
 have HM := Lib.hid hm
 clear hm
 have HID := Lib.hid (fun u => isDig_any c u)
 have HIL := Lib.hid (fun u => isLet_any c u)
 have HDG := Lib.hid hd
 have HLG := Lib.hid hl
 have HS := Lib.hid (show C.p.escape f a = .ok ([lay ({ kind := 1, c := c } : Tk) f b], b) by rw [hs]; unfold escN; rw [if_neg (by simpa using ha), if_neg k1, if_neg k2, if_neg k3, if_neg k4, if_neg k5, if_neg k6, if_neg k7, if_neg (by simp [hd]), if_neg (by simp [hl, k8])]; rfl)
 clear hs ha hd hl
 go_enter Tryz.func36, Tryz.ntmps36
 go_wp2_with fail
 refine Calls.mono (ended_any h) ?_
 rintro e1 w1 ⟨rfl, q1, rfl⟩
 have hx1 := h.drewN q1
 have hk1 := hk0.drewN q1
 have d1 := hx1.cells.c1
 rw [HA.out]
 go_wp2_with fail
 refine Calls.mono (char_any hx1) ?_
 intro e2 w2 hr
 rw [HBB.out, HCC.out] at hr
 obtain ⟨rfl, hx2, hkn⟩ := hr
 have hk2 := hk1.then hkn
 clear hkn d1
 go_wp2_with fail
 refine Calls.mono (common_any hx2 c hv) ?_
 intro e3 w3 hr
 rw [HM.out] at hr
 obtain ⟨v3, rfl, ho, hx3, hkn⟩ := hr
 obtain ⟨x3, y3, rfl⟩ := ownR_len ho
 have hk3 := hk2.then hkn
 have hbA := below_al w3 (.cells (tkR (.slice x3 tk0.set.length y3) tk0) 30)
 have hx4 := hx3.below hbA
 have hk4 := hk3.then (Kept.of_below (L := C.L) hbA)
 obtain ⟨m2, hm2⟩ := hx4.e2
 have c7 := hx4.cells.c7
 have HM2 := Lib.hid hm2
 clear hkn ho hbA hm2
 unfold tkR at c7 HM2
 unfold tkR
 go_wp2_with (refine wpList_look_i rfl _ _ rfl C.m2 m2 assL rfl HM2.out c rfl (by omega) ?_; rw [HLE.out.1, HLE.out.2])
 refine (HID.out _).mono ?_
 rintro e5 w5 ⟨rfl, rfl⟩
 rw [HDG.out]
 go_wp2_with fail
 refine (HIL.out _).mono ?_
 rintro e6 w6 ⟨rfl, rfl⟩
 rw [HLG.out]
 go_wp2_with fail
 refine Calls.mono (put_any hx4 (.slice none 0 0) ({ kind := 1, c := c } : Tk) (ownR_nil _ _) (by omega)) ?_
 intro e8 w8 hr
 have HP := Lib.hid (ptOk_put hr (hk4.mono hB))
 obtain ⟨rfl, _, _⟩ := hr
 go_wp2_with fail
 go_end0
 exact rp_ok HS.out HP.out
theorem escape_any {C : Cf} {w : World} {a f : Nat} {T : Rw} (h : LX C w a f T) (hT : T.length + 1 ≤ a) : Calls Tryz.prog 36 #[.pointer (some ⟨C.L, 0, none⟩)] w (RP C w (C.p.escape f a) (PtOk C w T)) := by
 by_cases h1 : a = C.p.n
 · exact escape_0 h h1
 obtain ⟨c, hcc⟩ : ∃ c, (C.p.char a).1 = c := ⟨_, rfl⟩
 obtain ⟨b, hb⟩ : ∃ b, (C.p.char a).2 = b := ⟨_, rfl⟩
 cases hm : C.p.common f c b with
 | error x => exact escape_1 h hT h1 hcc hb hm
 | ok o =>
   cases o with
   | some r =>
     obtain ⟨t, b'⟩ := r
     exact escape_2 h hT h1 hcc hb hm
   | none =>
     by_cases ha : assertE c = 0
     · by_cases k1 : c = 81
       · exact escape_4 h hT h1 hcc hb hm k1
       by_cases k2 : c = 69
       · exact escape_5 h hT h1 hcc hb hm k2
       by_cases k3 : c = 78
       · exact escape_6 h hT h1 hcc hb hm k3
       by_cases k4 : c = 75
       · exact escape_7 h hT h1 hcc hb hm k4
       by_cases k5 : c = 82
       · exact escape_8 h hT h1 hcc hb hm k5
       by_cases k6 : c = 103
       · exact escape_9 h hT h1 hcc hb hm k6
       by_cases k7 : c = 107
       · exact escape_10 h hT h1 hcc hb hm k7
       by_cases k8 : c = 48
       · exact escape_12 h hT h1 hcc hb hm k8
       cases hd : isDig c with
       | true => exact escape_11 h hT h1 hcc hb hm ha k1 k2 k3 k4 k5 k6 k7 k8 hd
       | false =>
         cases hl : isLet c with
         | true => exact escape_13 h hT h1 hcc hb hm ha k1 k2 k3 k4 k5 k6 k7 k8 hd hl
         | false => exact escape_14 h hT h1 hcc hb hm ha k1 k2 k3 k4 k5 k6 k7 k8 hd hl
     · exact escape_3 h hT h1 hcc hb hm ha
end Go.Proofs.YtkcmjcgjfjfimaaGreatDoor.tkw
end
section
namespace Go.Proofs.YtkcmjcgjfjfimaaGreatDoor.tkw
open Go Go.RowKit Go.Maps utfp utfw ucdp setp setw prp tkp
theorem look_opt (c : Int) : lookI optL c = (optV c : Int) := by
 unfold lookI optL optV
 simp only [lookI]
 by_cases h1 : c = 85
 · subst h1; decide
 by_cases h2 : c = 115
 · subst h2; decide
 by_cases h3 : c = 109
 · subst h3; decide
 by_cases h4 : c = 105
 · subst h4; decide
 simp [h1, h2, h3, h4]
theorem wpList_look_j {w : World} {ops : Array Oper} {rest : List Oper} {o : Oper} {a : Act} {Q : Exit → Act → World → Prop} (hg : o.guard = none) (m x : Operand) (hop : o.op = Op.lookup 53 m x false)
   (b n : Nat) (L : List (Int × Int)) (hm : a.eval m = .map (some b)) (hown : MapI w b n L) (key : Int) (hx : a.eval x = .int .i64 key) (hk : -9223372036854775808 ≤ key ∧ key ≤ 9223372036854775807)
   (hK : wpList Tryz.prog ops Q rest (a.put o.dst (.int .i64 (lookI L key))) w) :
   wpList Tryz.prog ops Q (o :: rest) a w := by
 refine wpList_plain hg fun K' hK' => ?_
 obtain ⟨v, ps, hrun, hv⟩ := World.ownsMap.lookup hown (int_keyed Tryz.underlying3) Tryz.underlying53 (zeroN w) (show RV (.int .i64 0) = some (.held (.int .i64 0), []) from rfl) (keyOf_int_mk Tryz.underlying3 (a := key) (by show (decide (-9223372036854775808 ≤ key) && decide (key ≤ 9223372036854775807)) = true; simp [hk.1, hk.2]))
 rw [at_LI] at hv
 obtain rfl := rv_inv hv
 unfold Oper.wp
 simp [execOp, hop, hm, hx, hrun, Result.andThen]
 exact hK' _ _ hK
theorem bolQ_eq {r s : Bool} {w : World} (h : s = r) : BolQ r w (.returned (.bool s)) w := by
 subst h
 exact ⟨rfl, 0, rfl⟩
theorem optT_any {C : Cf} {w : World} {a f : Nat} {T : Rw} (h : LX C w a f T) {B : Nat} (hB : w.cell? ⟨B, 0, none⟩ = some (.pointer (some ⟨C.L, 0, none⟩))) (c : Int) (h1 : 0 ≤ c) (h2 : c ≤ 255) :
   Calls Tryz.prog 154 #[.int .i64 c, .pointer (some ⟨B, 0, none⟩)] w (BolQ (isOpt c) w) := by
 obtain ⟨m3, hm3⟩ := h.e3
 have c8 := h.cells.c8
 have HM := Lib.hid hm3
 have HL := Lib.hid (look_opt c)
 have HO := Lib.hid (show isOpt c = (optV c != 0) from rfl)
 clear hm3 h
 go_enter Tryz.func154, Tryz.ntmps154
 go_wp2_with (refine wpList_look_j rfl _ _ rfl C.m3 m3 optL rfl HM.out c rfl (by omega) ?_; rw [HL.out])
 go_ret
 exact bolQ_eq (by rw [HO.out]; cases optV c <;> simp <;> omega)
theorem optV_lt (c : Int) : optV c < 32 := by
 unfold optV
 repeat' split
 all_goals decide
theorem orV_lt (p : Pt) (a : Nat) : ∀ k, p.orV a k < 32
 | 0 => by unfold Pt.orV; decide
 | k + 1 => by
   unfold Pt.orV
   exact Nat.or_lt_two_pow (n := 5) (orV_lt p a k) (optV_lt _)
theorem bits_or {x y : Nat} (hx : x < 32) (hy : y < 32) : bits BinOp.or IntKind.i64 (x : Int) (y : Int) = ((x ||| y : Nat) : Int) := by
 have h : ((List.range 32).all fun x => (List.range 32).all fun y => decide (bits BinOp.or IntKind.i64 (x : Int) (y : Int) = ((x ||| y : Nat) : Int))) = true := by decide +kernel
 have h2 := List.all_eq_true.1 (List.all_eq_true.1 h x (List.mem_range.2 hx)) y (List.mem_range.2 hy)
 exact of_decide_eq_true h2
theorem isOpt_bd {c : Int} (h : isOpt c = true) : 0 ≤ c ∧ c ≤ 127 := by
 unfold isOpt optV at h
 repeat' split at h
 all_goals first | omega | exact absurd h (by decide)
set_option maxRecDepth 100000 in
set_option maxHeartbeats 4000000 in
theorem letters_any {C : Cf} {w : World} {a f : Nat} {T : Rw} (h : LX C w a f T) :
   Calls Tryz.prog 128 #[.pointer (some ⟨C.L, 0, none⟩)] w (Ret C w (.int .i64 ((C.p.letters a).1 : Int)) (C.p.letters a).2 f T) := by
 have hbw := below_al w (.cells #[.pointer (some ⟨C.L, 0, none⟩)] 39)
 have hx0 := h.below hbw
 have hb0 : (w.alloc (.cells #[.pointer (some ⟨C.L, 0, none⟩)] 39)).cell? ⟨w.heap.size, 0, none⟩ = some (.pointer (some ⟨C.L, 0, none⟩)) := by rw [World.cell?_alloc_new]; rfl
 have hlt : C.L < w.heap.size := h.cells.lt
 have hsz0 : (w.alloc (.cells #[.pointer (some ⟨C.L, 0, none⟩)] 39)).heap.size = w.heap.size + 1 := World.size_alloc ..
 have hR := run_any hx0 1000 (Nat.le_refl _) 154 #[.pointer (some ⟨w.heap.size, 0, none⟩)] isOpt (enters_of Tryz.func154 (by kernel_rfl) rfl) fun c u b h1 h2 hx hk => optT_any hx ((hk.cell (a := ⟨w.heap.size, 0, none⟩) (by rw [hsz0]; exact Nat.lt_succ_self _) (by show w.heap.size ≠ C.L; omega)).trans hb0) c h1 h2
 have bd := run_bd (p := C.p) (fits := isOpt) (k := 1000) h.an
 have HD := Lib.hid (fun i (h1 : a ≤ i) (h2 : i < C.p.run isOpt 1000 a) => isOpt_bd (run_fits (p := C.p) (fits := isOpt) (k := 1000) h1 h2))
 have hg := h.sl.1
 unfold Pt.letters
 simp only
 obtain ⟨e, he⟩ : ∃ e, C.p.run isOpt 1000 a = e := ⟨_, rfl⟩
 rw [he] at hR bd HD ⊢
 have hsz := sub_size C.p a e
 have HAT := Lib.hid (fun k hk => sub_at (p := C.p) hg (a := a) (b := e) (k := k) hk)
 obtain ⟨s, hs⟩ : ∃ s, C.p.sub a e = s := ⟨_, rfl⟩
 rw [hs] at hR hsz HAT
 have HK0 := Lib.hid (Kept.of_below (L := C.L) hbw)
 have HB0 := Lib.hid hb0
 clear h he hs hg hx0 hb0
 obtain ⟨b1, b2, b3⟩ := bd
 go_enter Tryz.func128, Tryz.ntmps128
 go_wp2_with fail
 generalize hWW : w.alloc (.cells #[.pointer (some ⟨C.L, 0, none⟩)] 39) = W at *
 have HR := Lib.hid hR
 have HSZ0 := Lib.hid hsz0
 clear hWW hR hsz0 hbw
 refine HR.out.mono ?_
 rintro e1 w1 ⟨rfl, hx, hk⟩
 have HX := Lib.hid hx
 have HK := Lib.hid hk
 have HSZ := Lib.hid hsz
 have HBX := Lib.hid ((hk.cell (a := ⟨w.heap.size, 0, none⟩) (by rw [HSZ0.out]; exact Nat.lt_succ_self _) (by show w.heap.size ≠ C.L; omega)).trans HB0.out)
 clear hx hk hsz
 go_wp2_with fail
 go_loopw [4, 6] (fun v _ wr => ∃ k, k ≤ s.size ∧ wr = w1.iter s k ∧ v = .int .i64 (C.p.orV a k : Int)) (fun _ _ wr => s.size - wr.iterPos w1.heap.size)
 case atStart => exact ⟨0, Nat.zero_le _, rfl, rfl⟩
 case round =>
   obtain ⟨k, hk, rfl, rfl⟩ := hrel
   have hxk := HX.out.below (below_iter w1 s k)
   by_cases hp : k < s.size
   · have hd := HD.out (a + k) (by omega) (by have := HSZ.out; omega)
     have hd1 := hd.1
     have hd2 := hd.2
     clear hd
     have hat := HAT.out k hp
     have hxk1 := HX.out.below (below_iter w1 s (k + 1))
     obtain ⟨m3, hm3⟩ := hxk1.e3
     have c8 := hxk1.cells.c8
     have cb := below_cell (below_iter w1 s (k + 1)) HBX.out
     have HM := Lib.hid hm3
     have HL := Lib.hid (look_opt (C.p.g (a + k)))
     have hor := bits_or (orV_lt C.p a k) (optV_lt (C.p.g (a + k)))
     have HS := Lib.hid (show C.p.orV a k ||| optV (C.p.g (a + k)) = C.p.orV a (k + 1) from rfl)
     rw [HS.out] at hor
     have hnx : ∀ ty, (Instr.next (.pointer (some ⟨w1.heap.size, 0, none⟩)) true ty).run Tryz.prog (w1.iter s k) = .ok (.tuple #[.bool true, .int .i64 k, .int .i32 (C.p.g (a + k))]) (w1.iter s (k + 1)) := fun ty => by
       rw [run_next_any w1 s k ty hp, decode_ascii s k hp (by omega)]
       simp only
       rw [hat]
     clear hat hxk hxk1 hm3
     go_wp2_with (refine wpList_look_j rfl _ _ rfl C.m3 m3 optL rfl HM.out (C.p.g (a + k)) rfl (by omega) ?_; rw [HL.out])
     go_roundw
     case rel => exact ⟨k + 1, hp, rfl, rfl⟩
     case measure => simp; omega
   · have hnx : ∀ ty, (Instr.next (.pointer (some ⟨w1.heap.size, 0, none⟩)) true ty).run Tryz.prog (w1.iter s k) = _ := fun ty => run_next_end w1 s k ty hp
     obtain rfl : k = s.size := by omega
     clear hxk
     go_wp2_with fail
     go_ret
     exact ret_of (by rw [HSZ.out]; rfl) rfl rfl (HX.out.below (below_iter _ _ _)) (HK0.out.then (HK.out.then (Kept.of_below (below_iter _ _ _))))
end Go.Proofs.YtkcmjcgjfjfimaaGreatDoor.tkw
end
