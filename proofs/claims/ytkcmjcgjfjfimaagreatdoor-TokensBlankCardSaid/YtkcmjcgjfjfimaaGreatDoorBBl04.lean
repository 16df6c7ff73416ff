/- T -/
import Derived.Test.YtkcmjcgjfjfimaaGreatDoorBBl03
section
namespace Go.Proofs.YtkcmjcgjfjfimaaGreatDoor.tkw
open Go Go.RowKit Go.Maps utfp utfw ucdp setp setw prp tkp
def tokN (p : Pt) (f : Nat) (c : Int) (b : Nat) : R (List Tk × Nat) :=
 if c = 92 then p.escape f b
 else if c = 91 then tkp.one f (p.cls b)
 else if c = 40 then p.group f b
 else if c = 41 then tkp.one f (.ok ({ kind := 8 }, b))
 else if c = 124 then tkp.one f (.ok ({ kind := 7 }, b))
 else if c = 46 then tkp.one f (.ok ({ kind := 3 }, b))
 else if c = 94 then tkp.one f (.ok ({ kind := 4, n := 1 }, b))
 else if c = 36 then tkp.one f (.ok ({ kind := 4, n := 2 }, b))
 else match p.ign c b with
  | some b' => .ok ([], b')
  | none => tkp.one f (.ok ({ kind := 1, c := c }, b))
theorem token_eq {p : Pt} {f b : Nat} {c : Int} (hc : (p.char f).1 = c) (hb : (p.char f).2 = b) (hq : p.quant f = .ok none) : p.token f = tokN p f c b := by
 subst hc hb
 unfold Pt.token tokN
 simp only [hq]
 rfl
set_option maxRecDepth 100000 in
set_option maxHeartbeats 2000000 in
theorem token_0 {C : Cf} {w : World} {f f0 : Nat} {T : Rw} (h : LX C w f f0 T) (hlt : f < C.p.n) (hna : NaAt C.w0) (hve : VerbOk C) {x : Int × Int} (hq : C.p.quant f = .error x) : Calls Tryz.prog 23 #[.pointer (some ⟨C.L, 0, none⟩)] w (RP C w (C.p.token f) (PtOk C w T)) := by
 have HS := Lib.hid (show C.p.token f = .error x by unfold Pt.token; simp only [hq])
 have HQ := Lib.hid hq
 clear hq
 have hk0 := Kept.refl w.heap.size C.L w
 have hB := h.hb
 have d1 := h.cells.c1
 have d2 := h.cells.c2
 have fz := h.cells.fz 2
 have tl := h.tl
 have hx1 := h.from h.an
 have hk1 := hk0.setCell 2 (.int .i64 f)
 go_enter Tryz.func23, Tryz.ntmps23
 go_wp2_with fail
 clear d1 d2 fz
 refine Calls.mono (quant_any hx1) ?_
 intro e2 w2 hr
 rw [HQ.out] at hr
 obtain ⟨rfl, hkn⟩ := hr
 exact ⟨rfl, rp_err HS.out ⟨rfl, (hk1.mono hB).trans hkn⟩⟩
set_option maxRecDepth 100000 in
set_option maxHeartbeats 2000000 in
theorem token_1 {C : Cf} {w : World} {f f0 : Nat} {T : Rw} (h : LX C w f f0 T) (hlt : f < C.p.n) (hna : NaAt C.w0) (hve : VerbOk C) {t : Tk} {b : Nat} (hq : C.p.quant f = .ok (some (t, b))) : Calls Tryz.prog 23 #[.pointer (some ⟨C.L, 0, none⟩)] w (RP C w (C.p.token f) (PtOk C w T)) := by
 have HS := Lib.hid (show C.p.token f = .ok ([lay t f b], b) by unfold Pt.token; simp only [hq]; rfl)
 have HQ := Lib.hid hq
 clear hq
 have hk0 := Kept.refl w.heap.size C.L w
 have hB := h.hb
 have d1 := h.cells.c1
 have d2 := h.cells.c2
 have fz := h.cells.fz 2
 have tl := h.tl
 have hx1 := h.from h.an
 have hk1 := hk0.setCell 2 (.int .i64 f)
 go_enter Tryz.func23, Tryz.ntmps23
 go_wp2_with fail
 clear d1 d2 fz
 refine Calls.mono (quant_any hx1) ?_
 intro e2 w2 hr
 rw [HQ.out] at hr
 have HPP := Lib.hid (ptOk_b hr (hk1.mono hB))
 obtain ⟨rfl, _, _⟩ := hr
 go_wp2_with fail
 go_end0
 exact rp_ok HS.out HPP.out
set_option maxRecDepth 100000 in
set_option maxHeartbeats 4000000 in
theorem token_2 {C : Cf} {w : World} {f f0 : Nat} {T : Rw} (h : LX C w f f0 T) (hlt : f < C.p.n) (hna : NaAt C.w0) (hve : VerbOk C) {c : Int} {b : Nat} (hcc : (C.p.char f).1 = c) (hb : (C.p.char f).2 = b) (hq : C.p.quant f = .ok none) (hk : c = 92) : Calls Tryz.prog 23 #[.pointer (some ⟨C.L, 0, none⟩)] w (RP C w (C.p.token f) (PtOk C w T)) := by
 subst hk
 have hs := token_eq hcc hb hq
 have hcp := char_pure h.sl.1 h.an
 obtain ⟨_, p2, p3, p4⟩ := hcp
 have hbl := p4 hlt
 rw [hb] at p2 p3 hbl
 have HQ := Lib.hid hq
 have HCC := Lib.hid hcc
 have HBB := Lib.hid hb
 clear hcc hb hq p4
 have hk0 := Kept.refl w.heap.size C.L w
 have hB := h.hb
 have hs2 : C.p.token f = C.p.escape f b := by rw [hs]; unfold tokN; rw [if_pos rfl]
 clear hs
 cases hr0 : C.p.escape f b with
 | error x =>
  have HS := Lib.hid (hs2.trans hr0)
  have HR := Lib.hid hr0
  clear hs2 hr0
  have d1 := h.cells.c1
  have d2 := h.cells.c2
  have fz := h.cells.fz 2
  have tl := h.tl
  have hx1 := h.from h.an
  have hk1 := hk0.setCell 2 (.int .i64 f)
  go_enter Tryz.func23, Tryz.ntmps23
  go_wp2_with fail
  clear d1 d2 fz
  refine Calls.mono (quant_any hx1) ?_
  intro e2 w2 hr
  rw [HQ.out] at hr
  obtain ⟨rfl, hx2, hkn⟩ := hr
  have hk2 := hk1.then hkn
  clear hkn
  go_wp2_with fail
  refine Calls.mono (char_any hx2) ?_
  intro e3 w3 hr
  rw [HBB.out, HCC.out] at hr
  obtain ⟨rfl, hx3, hkn⟩ := hr
  have hk3 := hk2.then hkn
  clear hkn
  go_wp2_with fail
  refine Calls.mono (escape_any hx3 (by omega)) ?_
  intro e18 w18 hr
  rw [HR.out] at hr
  obtain ⟨rfl, hkn⟩ := hr
  exact ⟨rfl, rp_err HS.out ⟨rfl, (hk3.mono hB).trans hkn⟩⟩
 | ok r =>
  have HS := Lib.hid (hs2.trans hr0)
  have HR := Lib.hid hr0
  clear hs2 hr0
  have d1 := h.cells.c1
  have d2 := h.cells.c2
  have fz := h.cells.fz 2
  have tl := h.tl
  have hx1 := h.from h.an
  have hk1 := hk0.setCell 2 (.int .i64 f)
  go_enter Tryz.func23, Tryz.ntmps23
  go_wp2_with fail
  clear d1 d2 fz
  refine Calls.mono (quant_any hx1) ?_
  intro e2 w2 hr
  rw [HQ.out] at hr
  obtain ⟨rfl, hx2, hkn⟩ := hr
  have hk2 := hk1.then hkn
  clear hkn
  go_wp2_with fail
  refine Calls.mono (char_any hx2) ?_
  intro e3 w3 hr
  rw [HBB.out, HCC.out] at hr
  obtain ⟨rfl, hx3, hkn⟩ := hr
  have hk3 := hk2.then hkn
  clear hkn
  go_wp2_with fail
  refine Calls.mono (escape_any hx3 (by omega)) ?_
  intro e18 w18 hr
  rw [HR.out] at hr
  obtain ⟨rfl, f', v', hx18, hkn⟩ := hr
  have HPP := Lib.hid (show PtOk C w T r (.returned (.tuple #[])) w18 from ⟨rfl, f', v', hx18, (hk3.mono hB).trans hkn⟩)
  clear hx18 hkn
  go_wp2_with fail
  go_end0
  exact rp_ok HS.out HPP.out
set_option maxRecDepth 100000 in
set_option maxHeartbeats 4000000 in
theorem token_3 {C : Cf} {w : World} {f f0 : Nat} {T : Rw} (h : LX C w f f0 T) (hlt : f < C.p.n) (hna : NaAt C.w0) (hve : VerbOk C) {c : Int} {b : Nat} (hcc : (C.p.char f).1 = c) (hb : (C.p.char f).2 = b) (hq : C.p.quant f = .ok none) (hk : c = 91) : Calls Tryz.prog 23 #[.pointer (some ⟨C.L, 0, none⟩)] w (RP C w (C.p.token f) (PtOk C w T)) := by
 subst hk
 have hs := token_eq hcc hb hq
 have hcp := char_pure h.sl.1 h.an
 obtain ⟨_, p2, p3, p4⟩ := hcp
 have hbl := p4 hlt
 rw [hb] at p2 p3 hbl
 have HQ := Lib.hid hq
 have HCC := Lib.hid hcc
 have HBB := Lib.hid hb
 clear hcc hb hq p4
 have hk0 := Kept.refl w.heap.size C.L w
 have hB := h.hb
 have hs2 : C.p.token f = tkp.one f (C.p.cls b) := by rw [hs]; unfold tokN; rw [if_neg (by decide), if_pos rfl]
 clear hs
 cases hr0 : tkp.one f (C.p.cls b) with
 | error x =>
  have HS := Lib.hid (hs2.trans hr0)
  have HR := Lib.hid hr0
  clear hs2 hr0
  have d1 := h.cells.c1
  have d2 := h.cells.c2
  have fz := h.cells.fz 2
  have tl := h.tl
  have hx1 := h.from h.an
  have hk1 := hk0.setCell 2 (.int .i64 f)
  go_enter Tryz.func23, Tryz.ntmps23
  go_wp2_with fail
  clear d1 d2 fz
  refine Calls.mono (quant_any hx1) ?_
  intro e2 w2 hr
  rw [HQ.out] at hr
  obtain ⟨rfl, hx2, hkn⟩ := hr
  have hk2 := hk1.then hkn
  clear hkn
  go_wp2_with fail
  refine Calls.mono (char_any hx2) ?_
  intro e3 w3 hr
  rw [HBB.out, HCC.out] at hr
  obtain ⟨rfl, hx3, hkn⟩ := hr
  have hk3 := hk2.then hkn
  clear hkn
  go_wp2_with fail
  refine Calls.mono (class_any hx3 (by omega)) ?_
  intro e18 w18 hr
  rw [HR.out] at hr
  obtain ⟨rfl, hkn⟩ := hr
  exact ⟨rfl, rp_err HS.out ⟨rfl, (hk3.mono hB).trans hkn⟩⟩
 | ok r =>
  have HS := Lib.hid (hs2.trans hr0)
  have HR := Lib.hid hr0
  clear hs2 hr0
  have d1 := h.cells.c1
  have d2 := h.cells.c2
  have fz := h.cells.fz 2
  have tl := h.tl
  have hx1 := h.from h.an
  have hk1 := hk0.setCell 2 (.int .i64 f)
  go_enter Tryz.func23, Tryz.ntmps23
  go_wp2_with fail
  clear d1 d2 fz
  refine Calls.mono (quant_any hx1) ?_
  intro e2 w2 hr
  rw [HQ.out] at hr
  obtain ⟨rfl, hx2, hkn⟩ := hr
  have hk2 := hk1.then hkn
  clear hkn
  go_wp2_with fail
  refine Calls.mono (char_any hx2) ?_
  intro e3 w3 hr
  rw [HBB.out, HCC.out] at hr
  obtain ⟨rfl, hx3, hkn⟩ := hr
  have hk3 := hk2.then hkn
  clear hkn
  go_wp2_with fail
  refine Calls.mono (class_any hx3 (by omega)) ?_
  intro e18 w18 hr
  rw [HR.out] at hr
  obtain ⟨rfl, f', v', hx18, hkn⟩ := hr
  have HPP := Lib.hid (show PtOk C w T r (.returned (.tuple #[])) w18 from ⟨rfl, f', v', hx18, (hk3.mono hB).trans hkn⟩)
  clear hx18 hkn
  go_wp2_with fail
  go_end0
  exact rp_ok HS.out HPP.out
set_option maxRecDepth 100000 in
set_option maxHeartbeats 4000000 in
theorem token_4 {C : Cf} {w : World} {f f0 : Nat} {T : Rw} (h : LX C w f f0 T) (hlt : f < C.p.n) (hna : NaAt C.w0) (hve : VerbOk C) {c : Int} {b : Nat} (hcc : (C.p.char f).1 = c) (hb : (C.p.char f).2 = b) (hq : C.p.quant f = .ok none) (hk : c = 40) : Calls Tryz.prog 23 #[.pointer (some ⟨C.L, 0, none⟩)] w (RP C w (C.p.token f) (PtOk C w T)) := by
 subst hk
 have hs := token_eq hcc hb hq
 have hcp := char_pure h.sl.1 h.an
 obtain ⟨_, p2, p3, p4⟩ := hcp
 have hbl := p4 hlt
 rw [hb] at p2 p3 hbl
 have HQ := Lib.hid hq
 have HCC := Lib.hid hcc
 have HBB := Lib.hid hb
 clear hcc hb hq p4
 have hk0 := Kept.refl w.heap.size C.L w
 have hB := h.hb
 have hs2 : C.p.token f = C.p.group f b := by rw [hs]; unfold tokN; rw [if_neg (by decide), if_neg (by decide), if_pos rfl]
 clear hs
 cases hr0 : C.p.group f b with
 | error x =>
  have HS := Lib.hid (hs2.trans hr0)
  have HR := Lib.hid hr0
  clear hs2 hr0
  have d1 := h.cells.c1
  have d2 := h.cells.c2
  have fz := h.cells.fz 2
  have tl := h.tl
  have hx1 := h.from h.an
  have hk1 := hk0.setCell 2 (.int .i64 f)
  go_enter Tryz.func23, Tryz.ntmps23
  go_wp2_with fail
  clear d1 d2 fz
  refine Calls.mono (quant_any hx1) ?_
  intro e2 w2 hr
  rw [HQ.out] at hr
  obtain ⟨rfl, hx2, hkn⟩ := hr
  have hk2 := hk1.then hkn
  clear hkn
  go_wp2_with fail
  refine Calls.mono (char_any hx2) ?_
  intro e3 w3 hr
  rw [HBB.out, HCC.out] at hr
  obtain ⟨rfl, hx3, hkn⟩ := hr
  have hk3 := hk2.then hkn
  clear hkn
  go_wp2_with fail
  refine Calls.mono (group_any hx3 (by omega) hna hve) ?_
  intro e18 w18 hr
  rw [HR.out] at hr
  obtain ⟨rfl, hkn⟩ := hr
  exact ⟨rfl, rp_err HS.out ⟨rfl, (hk3.mono hB).trans hkn⟩⟩
 | ok r =>
  have HS := Lib.hid (hs2.trans hr0)
  have HR := Lib.hid hr0
  clear hs2 hr0
  have d1 := h.cells.c1
  have d2 := h.cells.c2
  have fz := h.cells.fz 2
  have tl := h.tl
  have hx1 := h.from h.an
  have hk1 := hk0.setCell 2 (.int .i64 f)
  go_enter Tryz.func23, Tryz.ntmps23
  go_wp2_with fail
  clear d1 d2 fz
  refine Calls.mono (quant_any hx1) ?_
  intro e2 w2 hr
  rw [HQ.out] at hr
  obtain ⟨rfl, hx2, hkn⟩ := hr
  have hk2 := hk1.then hkn
  clear hkn
  go_wp2_with fail
  refine Calls.mono (char_any hx2) ?_
  intro e3 w3 hr
  rw [HBB.out, HCC.out] at hr
  obtain ⟨rfl, hx3, hkn⟩ := hr
  have hk3 := hk2.then hkn
  clear hkn
  go_wp2_with fail
  refine Calls.mono (group_any hx3 (by omega) hna hve) ?_
  intro e18 w18 hr
  rw [HR.out] at hr
  obtain ⟨rfl, f', v', hx18, hkn⟩ := hr
  have HPP := Lib.hid (show PtOk C w T r (.returned (.tuple #[])) w18 from ⟨rfl, f', v', hx18, (hk3.mono hB).trans hkn⟩)
  clear hx18 hkn
  go_wp2_with fail
  go_end0
  exact rp_ok HS.out HPP.out
set_option maxRecDepth 100000 in
set_option maxHeartbeats 4000000 in
theorem token_5 {C : Cf} {w : World} {f f0 : Nat} {T : Rw} (h : LX C w f f0 T) (hlt : f < C.p.n) (hna : NaAt C.w0) (hve : VerbOk C) {c : Int} {b : Nat} (hcc : (C.p.char f).1 = c) (hb : (C.p.char f).2 = b) (hq : C.p.quant f = .ok none) (hk : c = 41) : Calls Tryz.prog 23 #[.pointer (some ⟨C.L, 0, none⟩)] w (RP C w (C.p.token f) (PtOk C w T)) := by
 subst hk
 have hs := token_eq hcc hb hq
 have hcp := char_pure h.sl.1 h.an
 obtain ⟨_, p2, p3, p4⟩ := hcp
 have hbl := p4 hlt
 rw [hb] at p2 p3 hbl
 have HQ := Lib.hid hq
 have HCC := Lib.hid hcc
 have HBB := Lib.hid hb
 clear hcc hb hq p4
 have hk0 := Kept.refl w.heap.size C.L w
 have hB := h.hb
 have HS := Lib.hid (show C.p.token f = .ok ([lay ({ kind := 8 } : Tk) f b], b) by rw [hs]; unfold tokN; rw [if_neg (by decide), if_neg (by decide), if_neg (by decide), if_pos rfl]; rfl)
 clear hs
 have d1 := h.cells.c1
 have d2 := h.cells.c2
 have fz := h.cells.fz 2
 have tl := h.tl
 have hx1 := h.from h.an
 have hk1 := hk0.setCell 2 (.int .i64 f)
 go_enter Tryz.func23, Tryz.ntmps23
 go_wp2_with fail
 clear d1 d2 fz
 refine Calls.mono (quant_any hx1) ?_
 intro e2 w2 hr
 rw [HQ.out] at hr
 obtain ⟨rfl, hx2, hkn⟩ := hr
 have hk2 := hk1.then hkn
 clear hkn
 go_wp2_with fail
 refine Calls.mono (char_any hx2) ?_
 intro e3 w3 hr
 rw [HBB.out, HCC.out] at hr
 obtain ⟨rfl, hx3, hkn⟩ := hr
 have hk3 := hk2.then hkn
 clear hkn
 go_wp2_with fail
 refine Calls.mono (put_any hx3 (.slice none 0 0) ({ kind := 8 } : Tk) (ownR_nil _ _) (by omega)) ?_
 intro e18 w18 hr
 have HPP := Lib.hid (ptOk_put hr (hk3.mono hB))
 obtain ⟨rfl, _, _⟩ := hr
 go_wp2_with fail
 go_end0
 exact rp_ok HS.out HPP.out
set_option maxRecDepth 100000 in
set_option maxHeartbeats 4000000 in
theorem token_6 {C : Cf} {w : World} {f f0 : Nat} {T : Rw} (h : LX C w f f0 T) (hlt : f < C.p.n) (hna : NaAt C.w0) (hve : VerbOk C) {c : Int} {b : Nat} (hcc : (C.p.char f).1 = c) (hb : (C.p.char f).2 = b) (hq : C.p.quant f = .ok none) (hk : c = 124) : Calls Tryz.prog 23 #[.pointer (some ⟨C.L, 0, none⟩)] w (RP C w (C.p.token f) (PtOk C w T)) := by
 subst hk
 have hs := token_eq hcc hb hq
 have hcp := char_pure h.sl.1 h.an
 obtain ⟨_, p2, p3, p4⟩ := hcp
 have hbl := p4 hlt
 rw [hb] at p2 p3 hbl
 have HQ := Lib.hid hq
 have HCC := Lib.hid hcc
 have HBB := Lib.hid hb
 clear hcc hb hq p4
 have hk0 := Kept.refl w.heap.size C.L w
 have hB := h.hb
 have HS := Lib.hid (show C.p.token f = .ok ([lay ({ kind := 7 } : Tk) f b], b) by rw [hs]; unfold tokN; rw [if_neg (by decide), if_neg (by decide), if_neg (by decide), if_neg (by decide), if_pos rfl]; rfl)
 clear hs
 have d1 := h.cells.c1
 have d2 := h.cells.c2
 have fz := h.cells.fz 2
 have tl := h.tl
 have hx1 := h.from h.an
 have hk1 := hk0.setCell 2 (.int .i64 f)
 go_enter Tryz.func23, Tryz.ntmps23
 go_wp2_with fail
 clear d1 d2 fz
 refine Calls.mono (quant_any hx1) ?_
 intro e2 w2 hr
 rw [HQ.out] at hr
 obtain ⟨rfl, hx2, hkn⟩ := hr
 have hk2 := hk1.then hkn
 clear hkn
 go_wp2_with fail
 refine Calls.mono (char_any hx2) ?_
 intro e3 w3 hr
 rw [HBB.out, HCC.out] at hr
 obtain ⟨rfl, hx3, hkn⟩ := hr
 have hk3 := hk2.then hkn
 clear hkn
 go_wp2_with fail
 refine Calls.mono (put_any hx3 (.slice none 0 0) ({ kind := 7 } : Tk) (ownR_nil _ _) (by omega)) ?_
 intro e18 w18 hr
 have HPP := Lib.hid (ptOk_put hr (hk3.mono hB))
 obtain ⟨rfl, _, _⟩ := hr
 go_wp2_with fail
 go_end0
 exact rp_ok HS.out HPP.out
set_option maxRecDepth 100000 in
set_option maxHeartbeats 4000000 in
theorem token_7 {C : Cf} {w : World} {f f0 : Nat} {T : Rw} (h : LX C w f f0 T) (hlt : f < C.p.n) (hna : NaAt C.w0) (hve : VerbOk C) {c : Int} {b : Nat} (hcc : (C.p.char f).1 = c) (hb : (C.p.char f).2 = b) (hq : C.p.quant f = .ok none) (hk : c = 46) : Calls Tryz.prog 23 #[.pointer (some ⟨C.L, 0, none⟩)] w (RP C w (C.p.token f) (PtOk C w T)) := by
 subst hk
 have hs := token_eq hcc hb hq
 have hcp := char_pure h.sl.1 h.an
 obtain ⟨_, p2, p3, p4⟩ := hcp
 have hbl := p4 hlt
 rw [hb] at p2 p3 hbl
 have HQ := Lib.hid hq
 have HCC := Lib.hid hcc
 have HBB := Lib.hid hb
 clear hcc hb hq p4
 have hk0 := Kept.refl w.heap.size C.L w
 have hB := h.hb
 have HS := Lib.hid (show C.p.token f = .ok ([lay ({ kind := 3 } : Tk) f b], b) by rw [hs]; unfold tokN; rw [if_neg (by decide), if_neg (by decide), if_neg (by decide), if_neg (by decide), if_neg (by decide), if_pos rfl]; rfl)
 clear hs
 have d1 := h.cells.c1
 have d2 := h.cells.c2
 have fz := h.cells.fz 2
 have tl := h.tl
 have hx1 := h.from h.an
 have hk1 := hk0.setCell 2 (.int .i64 f)
 go_enter Tryz.func23, Tryz.ntmps23
 go_wp2_with fail
 clear d1 d2 fz
 refine Calls.mono (quant_any hx1) ?_
 intro e2 w2 hr
 rw [HQ.out] at hr
 obtain ⟨rfl, hx2, hkn⟩ := hr
 have hk2 := hk1.then hkn
 clear hkn
 go_wp2_with fail
 refine Calls.mono (char_any hx2) ?_
 intro e3 w3 hr
 rw [HBB.out, HCC.out] at hr
 obtain ⟨rfl, hx3, hkn⟩ := hr
 have hk3 := hk2.then hkn
 clear hkn
 go_wp2_with fail
 refine Calls.mono (put_any hx3 (.slice none 0 0) ({ kind := 3 } : Tk) (ownR_nil _ _) (by omega)) ?_
 intro e18 w18 hr
 have HPP := Lib.hid (ptOk_put hr (hk3.mono hB))
 obtain ⟨rfl, _, _⟩ := hr
 go_wp2_with fail
 go_end0
 exact rp_ok HS.out HPP.out
set_option maxRecDepth 100000 in
set_option maxHeartbeats 4000000 in
theorem token_8 {C : Cf} {w : World} {f f0 : Nat} {T : Rw} (h : LX C w f f0 T) (hlt : f < C.p.n) (hna : NaAt C.w0) (hve : VerbOk C) {c : Int} {b : Nat} (hcc : (C.p.char f).1 = c) (hb : (C.p.char f).2 = b) (hq : C.p.quant f = .ok none) (hk : c = 94) : Calls Tryz.prog 23 #[.pointer (some ⟨C.L, 0, none⟩)] w (RP C w (C.p.token f) (PtOk C w T)) := by
 subst hk
 have hs := token_eq hcc hb hq
 have hcp := char_pure h.sl.1 h.an
 obtain ⟨_, p2, p3, p4⟩ := hcp
 have hbl := p4 hlt
 rw [hb] at p2 p3 hbl
 have HQ := Lib.hid hq
 have HCC := Lib.hid hcc
 have HBB := Lib.hid hb
 clear hcc hb hq p4
 have hk0 := Kept.refl w.heap.size C.L w
 have hB := h.hb
 have HS := Lib.hid (show C.p.token f = .ok ([lay ({ kind := 4, n := 1 } : Tk) f b], b) by rw [hs]; unfold tokN; rw [if_neg (by decide), if_neg (by decide), if_neg (by decide), if_neg (by decide), if_neg (by decide), if_neg (by decide), if_pos rfl]; rfl)
 clear hs
 have d1 := h.cells.c1
 have d2 := h.cells.c2
 have fz := h.cells.fz 2
 have tl := h.tl
 have hx1 := h.from h.an
 have hk1 := hk0.setCell 2 (.int .i64 f)
 go_enter Tryz.func23, Tryz.ntmps23
 go_wp2_with fail
 clear d1 d2 fz
 refine Calls.mono (quant_any hx1) ?_
 intro e2 w2 hr
 rw [HQ.out] at hr
 obtain ⟨rfl, hx2, hkn⟩ := hr
 have hk2 := hk1.then hkn
 clear hkn
 go_wp2_with fail
 refine Calls.mono (char_any hx2) ?_
 intro e3 w3 hr
 rw [HBB.out, HCC.out] at hr
 obtain ⟨rfl, hx3, hkn⟩ := hr
 have hk3 := hk2.then hkn
 clear hkn
 go_wp2_with fail
 refine Calls.mono (put_any hx3 (.slice none 0 0) ({ kind := 4, n := 1 } : Tk) (ownR_nil _ _) (by omega)) ?_
 intro e18 w18 hr
 have HPP := Lib.hid (ptOk_put hr (hk3.mono hB))
 obtain ⟨rfl, _, _⟩ := hr
 go_wp2_with fail
 go_end0
 exact rp_ok HS.out HPP.out
set_option maxRecDepth 100000 in
set_option maxHeartbeats 4000000 in
theorem token_9 {C : Cf} {w : World} {f f0 : Nat} {T : Rw} (h : LX C w f f0 T) (hlt : f < C.p.n) (hna : NaAt C.w0) (hve : VerbOk C) {c : Int} {b : Nat} (hcc : (C.p.char f).1 = c) (hb : (C.p.char f).2 = b) (hq : C.p.quant f = .ok none) (hk : c = 36) : Calls Tryz.prog 23 #[.pointer (some ⟨C.L, 0, none⟩)] w (RP C w (C.p.token f) (PtOk C w T)) := by
 subst hk
 have hs := token_eq hcc hb hq
 have hcp := char_pure h.sl.1 h.an
 obtain ⟨_, p2, p3, p4⟩ := hcp
 have hbl := p4 hlt
 rw [hb] at p2 p3 hbl
 have HQ := Lib.hid hq
 have HCC := Lib.hid hcc
 have HBB := Lib.hid hb
 clear hcc hb hq p4
 have hk0 := Kept.refl w.heap.size C.L w
 have hB := h.hb
 have HS := Lib.hid (show C.p.token f = .ok ([lay ({ kind := 4, n := 2 } : Tk) f b], b) by rw [hs]; unfold tokN; rw [if_neg (by decide), if_neg (by decide), if_neg (by decide), if_neg (by decide), if_neg (by decide), if_neg (by decide), if_neg (by decide), if_pos rfl]; rfl)
 clear hs
 have d1 := h.cells.c1
 have d2 := h.cells.c2
 have fz := h.cells.fz 2
 have tl := h.tl
 have hx1 := h.from h.an
 have hk1 := hk0.setCell 2 (.int .i64 f)
 go_enter Tryz.func23, Tryz.ntmps23
 go_wp2_with fail
 clear d1 d2 fz
 refine Calls.mono (quant_any hx1) ?_
 intro e2 w2 hr
 rw [HQ.out] at hr
 obtain ⟨rfl, hx2, hkn⟩ := hr
 have hk2 := hk1.then hkn
 clear hkn
 go_wp2_with fail
 refine Calls.mono (char_any hx2) ?_
 intro e3 w3 hr
 rw [HBB.out, HCC.out] at hr
 obtain ⟨rfl, hx3, hkn⟩ := hr
 have hk3 := hk2.then hkn
 clear hkn
 go_wp2_with fail
 refine Calls.mono (put_any hx3 (.slice none 0 0) ({ kind := 4, n := 2 } : Tk) (ownR_nil _ _) (by omega)) ?_
 intro e18 w18 hr
 have HPP := Lib.hid (ptOk_put hr (hk3.mono hB))
 obtain ⟨rfl, _, _⟩ := hr
 go_wp2_with fail
 go_end0
 exact rp_ok HS.out HPP.out
set_option maxRecDepth 100000 in
set_option maxHeartbeats 4000000 in
theorem token_10 {C : Cf} {w : World} {f f0 : Nat} {T : Rw} (h : LX C w f f0 T) (hlt : f < C.p.n) (hna : NaAt C.w0) (hve : VerbOk C) {c : Int} {b : Nat} (hcc : (C.p.char f).1 = c) (hb : (C.p.char f).2 = b) (hq : C.p.quant f = .ok none) (k0 : ¬ c = 92) (k1 : ¬ c = 91) (k2 : ¬ c = 40) (k3 : ¬ c = 41) (k4 : ¬ c = 124) (k5 : ¬ c = 46) (k6 : ¬ c = 94) (k7 : ¬ c = 36) : Calls Tryz.prog 23 #[.pointer (some ⟨C.L, 0, none⟩)] w (RP C w (C.p.token f) (PtOk C w T)) := by
 have hs := token_eq hcc hb hq
 have hcp := char_pure h.sl.1 h.an
 obtain ⟨_, p2, p3, p4⟩ := hcp
 have hbl := p4 hlt
 rw [hb] at p2 p3 hbl
 have HQ := Lib.hid hq
 have HCC := Lib.hid hcc
 have HBB := Lib.hid hb
 clear hcc hb hq p4
 have hk0 := Kept.refl w.heap.size C.L w
 have hB := h.hb
 have hs2 : C.p.token f = (match C.p.ign c b with | some b' => .ok ([], b') | none => tkp.one f (.ok ({ kind := 1, c := c }, b))) := by
  rw [hs]; unfold tokN; rw [if_neg k0, if_neg k1, if_neg k2, if_neg k3, if_neg k4, if_neg k5, if_neg k6, if_neg k7]
 clear hs
 cases hi : C.p.ign c b with
 | some b' =>
  rw [hi] at hs2
  have HS := Lib.hid (show C.p.token f = .ok ([], b') from hs2)
  have HI := Lib.hid hi
  clear hs2 hi
  have d1 := h.cells.c1
  have d2 := h.cells.c2
  have fz := h.cells.fz 2
  have tl := h.tl
  have hx1 := h.from h.an
  have hk1 := hk0.setCell 2 (.int .i64 f)
  go_enter Tryz.func23, Tryz.ntmps23
  go_wp2_with fail
  clear d1 d2 fz
  refine Calls.mono (quant_any hx1) ?_
  intro e2 w2 hr
  rw [HQ.out] at hr
  obtain ⟨rfl, hx2, hkn⟩ := hr
  have hk2 := hk1.then hkn
  clear hkn
  go_wp2_with fail
  refine Calls.mono (char_any hx2) ?_
  intro e3 w3 hr
  rw [HBB.out, HCC.out] at hr
  obtain ⟨rfl, hx3, hkn⟩ := hr
  have hk3 := hk2.then hkn
  clear hkn
  go_wp2_with fail
  refine Calls.mono (ignores_any hx3 c) ?_
  intro e4 w4 hr
  rw [HI.out] at hr
  obtain ⟨rfl, hx4, hkn⟩ := hr
  have hk4 := hk3.then hkn
  clear hkn
  go_wp2_with fail
  go_end0
  exact rp_ok HS.out ⟨rfl, f, T.v, by rw [List.append_nil]; exact hx4, hk4.mono hB⟩
 | none =>
  rw [hi] at hs2
  have HS := Lib.hid (show C.p.token f = .ok ([lay ({ kind := 1, c := c } : Tk) f b], b) from hs2)
  have HI := Lib.hid hi
  clear hs2 hi
  have d1 := h.cells.c1
  have d2 := h.cells.c2
  have fz := h.cells.fz 2
  have tl := h.tl
  have hx1 := h.from h.an
  have hk1 := hk0.setCell 2 (.int .i64 f)
  go_enter Tryz.func23, Tryz.ntmps23
  go_wp2_with fail
  clear d1 d2 fz
  refine Calls.mono (quant_any hx1) ?_
  intro e2 w2 hr
  rw [HQ.out] at hr
  obtain ⟨rfl, hx2, hkn⟩ := hr
  have hk2 := hk1.then hkn
  clear hkn
  go_wp2_with fail
  refine Calls.mono (char_any hx2) ?_
  intro e3 w3 hr
  rw [HBB.out, HCC.out] at hr
  obtain ⟨rfl, hx3, hkn⟩ := hr
  have hk3 := hk2.then hkn
  clear hkn
  go_wp2_with fail
  refine Calls.mono (ignores_any hx3 c) ?_
  intro e4 w4 hr
  rw [HI.out] at hr
  obtain ⟨rfl, hx4, hkn⟩ := hr
  have hk4 := hk3.then hkn
  clear hkn
  go_wp2_with fail
  refine Calls.mono (put_any hx4 (.slice none 0 0) ({ kind := 1, c := c } : Tk) (ownR_nil _ _) (by omega)) ?_
  intro e18 w18 hr
  have HPP := Lib.hid (ptOk_put hr (hk4.mono hB))
  obtain ⟨rfl, _, _⟩ := hr
  go_wp2_with fail
  go_end0
  exact rp_ok HS.out HPP.out
theorem token_any {C : Cf} {w : World} {f f0 : Nat} {T : Rw} (h : LX C w f f0 T) (hlt : f < C.p.n) (hna : NaAt C.w0) (hve : VerbOk C) : Calls Tryz.prog 23 #[.pointer (some ⟨C.L, 0, none⟩)] w (RP C w (C.p.token f) (PtOk C w T)) := by
 cases hq : C.p.quant f with
 | error x => exact token_0 h hlt hna hve hq
 | ok o =>
  cases o with
  | some r =>
   obtain ⟨t, b⟩ := r
   exact token_1 h hlt hna hve hq
  | none =>
   obtain ⟨c, hcc⟩ : ∃ c, (C.p.char f).1 = c := ⟨_, rfl⟩
   obtain ⟨b, hb⟩ : ∃ b, (C.p.char f).2 = b := ⟨_, rfl⟩
   by_cases k0 : c = 92
   ·exact token_2 h hlt hna hve hcc hb hq k0
   by_cases k1 : c = 91
   ·exact token_3 h hlt hna hve hcc hb hq k1
   by_cases k2 : c = 40
   ·exact token_4 h hlt hna hve hcc hb hq k2
   by_cases k3 : c = 41
   ·exact token_5 h hlt hna hve hcc hb hq k3
   by_cases k4 : c = 124
   ·exact token_6 h hlt hna hve hcc hb hq k4
   by_cases k5 : c = 46
   ·exact token_7 h hlt hna hve hcc hb hq k5
   by_cases k6 : c = 94
   ·exact token_8 h hlt hna hve hcc hb hq k6
   by_cases k7 : c = 36
   ·exact token_9 h hlt hna hve hcc hb hq k7
   exact token_10 h hlt hna hve hcc hb hq k0 k1 k2 k3 k4 k5 k6 k7
end Go.Proofs.YtkcmjcgjfjfimaaGreatDoor.tkw
end
section
namespace Go.Proofs.YtkcmjcgjfjfimaaGreatDoor.tkw
open Go Go.RowKit Go.Maps utfp utfw ucdp setp setw prp tkp
set_option maxRecDepth 100000 in
theorem idxS_any (s : ByteArray) (c : Int) (w : World) : Calls Tryz.prog 167 #[.string s, .int .u8 c] w fun e w' => e = .returned (.int .i64 (Lib.indexByte s.data.toList c.toNat.toUInt8)) ∧ w = w' := by
 go_enter Tryz.func167, Tryz.ntmps167
 go_wp2
 rw [run_callFunc_extern Tryz.func191 (by kernel_rfl) (by kernel_rfl) (by kernel_rfl) (e := Extern.BytealgIndexByte.indexByte) (by kernel_rfl), Lib.run_indexByteString s c w]
 simp only [Result.andThen]
 rw [Oper.upon_value]
 go_wp2
 go_ret
 exact ⟨rfl, rfl⟩
set_option maxRecDepth 100000 in
theorem idx1_any (s : ByteArray) (c : UInt8) (w : World) (hs : s.size ≤ 1000) : Calls Tryz.prog 153 #[.string s, .string ⟨#[c]⟩] w fun e w' => e = .returned (.int .i64 (Lib.indexByte s.data.toList c)) ∧ w = w' := by
 have HI := Lib.hid (idxS_any s (c.toNat : Int) w)
 rw [show ((c.toNat : Int)).toNat.toUInt8 = c by simp] at HI
 have hz : (⟨#[c]⟩ : ByteArray).size = 1 := rfl
 have h0 : (⟨#[c]⟩ : ByteArray)[0]? = some c := rfl
 cases hb : ([c] == s.toList) with
 | true =>
  have HS := Lib.hid (show Lib.indexByte s.data.toList c = 0 by
   rw [← Lib.toList_data, ← eq_of_beq hb]
   simp [Lib.indexByte])
  go_enter Tryz.func153, Tryz.ntmps153
  go_wp2_with fail
  go_ret
  rw [HS.out]
  exact ⟨rfl, rfl⟩
 | false =>
  go_enter Tryz.func153, Tryz.ntmps153
  go_wp2_with fail
  refine HI.out.mono ?_
  rintro e w' ⟨rfl, rfl⟩
  go_wp2_with fail
  go_ret
  exact ⟨rfl, rfl⟩
theorem sub_idx {p : Pt} (hg : ∀ i, 0 ≤ p.g i ∧ p.g i ≤ 255) {c : UInt8} (a b : Nat) : Lib.indexByte (p.sub a b).data.toList c = idxN (p.find (c.toNat : Int) (b - a) a) a := by
 have h := index_find hg (c := (c.toNat : Int)) (by omega) (by have := c.toNat_lt; omega) (b - a) a
 rw [show ((c.toNat : Int)).toNat.toUInt8 = c by simp] at h
 exact h
end Go.Proofs.YtkcmjcgjfjfimaaGreatDoor.tkw
end
section
namespace Go.Proofs.YtkcmjcgjfjfimaaGreatDoor.tkw
open Go Go.RowKit Go.Maps utfp utfw ucdp setp setw prp tkp
theorem sub_extract (p : Pt) (a b i k : Nat) (hik : i ≤ k) (hk : k ≤ b - a) : (p.sub a b).extract i k = p.sub (a + i) (a + k) := by
 unfold Pt.sub
 have e : ∀ (x y : ByteArray), x.data.toList = y.data.toList → x = y := fun ⟨x⟩ ⟨y⟩ h => by
  congr 1
  exact Array.toList_inj.1 h
 apply e
 rw [ByteArray.data_extract, Array.toList_extract, strOfNums_data, strOfNums_data]
 apply List.ext_getElem?
 intro n
 simp only [List.extract, List.map_map, List.getElem?_take, List.getElem?_drop, List.getElem?_map]
 by_cases h : n < k - i
 ·rw [if_pos h, List.getElem?_range (by omega), List.getElem?_range (by omega)]
  simp [Nat.add_assoc]
 ·rw [if_neg h, List.getElem?_eq_none (by simp; omega)]
  rfl
def CutS (p : Pt) (a b : Nat) (r : Option Nat) (w : World) (e : Ending) (w' : World) : Prop := (∃ q, w' = w.drewN q) ∧ match r with
 | none => e = .returned (.tuple #[.string (p.sub a b), .string ⟨#[]⟩, .bool false])
 | some j => e = .returned (.tuple #[.string (p.sub a j), .string (p.sub (j + 1) b), .bool true])
set_option maxRecDepth 100000 in
set_option maxHeartbeats 1000000 in
theorem cutS_any {p : Pt} (hg : ∀ i, 0 ≤ p.g i ∧ p.g i ≤ 255) (a b : Nat) (c : UInt8) (w : World) (hs : b - a ≤ 1000) :
   Calls Tryz.prog 126 #[.string (p.sub a b), .string ⟨#[c]⟩] w (CutS p a b (p.find (c.toNat : Int) (b - a) a) w) := by
 have hsz := sub_size p a b
 have HI := Lib.hid (idx1_any (p.sub a b) c w (by omega))
 rw [sub_idx hg] at HI
 have hz : (⟨#[c]⟩ : ByteArray).size = 1 := rfl
 cases hf : p.find (c.toNat : Int) (b - a) a with
 | none =>
   rw [hf, show idxN none a = -1 from rfl] at HI
   generalize hsb : p.sub a b = s at *
   have HSB := Lib.hid hsb
   clear hf hg hsb
   go_enter Tryz.func126, Tryz.ntmps126
   go_wp2_with fail
   refine HI.out.mono ?_
   rintro e w' ⟨rfl, rfl⟩
   go_wp2_with fail
   go_ret3
   exact ⟨⟨0, rfl⟩, by simp only [HSB.out]; rfl⟩
 | some j =>
   have bd := find_bd hf
   obtain ⟨m, hm⟩ : ∃ m, j - a = m := ⟨_, rfl⟩
   have hj : j = a + m := by omega
   subst hj
   rw [hf, show idxN (some (a + m)) a = (m : Int) by show ((a + m : Nat) : Int) - (a : Int) = m; omega] at HI
   have HE1 := Lib.hid (sub_extract p a b 0 m (Nat.zero_le _) (by omega))
   have HE2 := Lib.hid (sub_extract p a b (m + 1) (b - a) (by omega) (Nat.le_refl _))
   rw [show a + (b - a) = b by omega] at HE2
   generalize hsb : p.sub a b = s at *
   clear hf hg hsb hm
   have hml : m < s.size := by omega
   go_enter Tryz.func126, Tryz.ntmps126
   go_wp2_with fail
   refine HI.out.mono ?_
   rintro e w' ⟨rfl, rfl⟩
   go_wp2_with fail
   go_quiet (fail)
   go_wp2_with fail
   go_ret3
   refine ⟨⟨_, rfl⟩, ?_⟩
   show Ending.returned (.tuple #[.string (s.extract 0 m), .string (s.extract (m + 1) (b - a)), .bool true]) = _
   rw [HE1.out, HE2.out]
   rfl
set_option maxRecDepth 100000 in
theorem cutStr_any {p : Pt} (hg : ∀ i, 0 ≤ p.g i ∧ p.g i ≤ 255) (a b : Nat) (c : UInt8) (w : World) (hs : b - a ≤ 1000) :
   Calls Tryz.prog 98 #[.string (p.sub a b), .string ⟨#[c]⟩] w (CutS p a b (p.find (c.toNat : Int) (b - a) a) w) := by
 have HL := Lib.hid (cutS_any hg a b c w hs)
 obtain ⟨r, hr⟩ : ∃ r, p.find (c.toNat : Int) (b - a) a = r := ⟨_, rfl⟩
 rw [hr] at HL ⊢
 clear hg hr
 cases r with
 | none =>
   have hsb : ∃ s, s = p.sub a b := ⟨_, rfl⟩
   obtain ⟨s, hsb⟩ := hsb
   rw [← hsb] at HL ⊢
   have HSB := Lib.hid hsb
   clear hsb
   go_enter Tryz.func98, Tryz.ntmps98
   go_wp2_with fail
   refine HL.out.mono ?_
   rintro e w1 ⟨⟨q, rfl⟩, he⟩
   simp only [← HSB.out] at he
   subst he
   go_wp2_with fail
   go_ret3
   exact ⟨⟨q, rfl⟩, by simp only [← HSB.out]; rfl⟩
 | some j =>
   generalize hsb : p.sub a b = s at *
   go_enter Tryz.func98, Tryz.ntmps98
   go_wp2_with fail
   refine HL.out.mono ?_
   rintro e w1 ⟨⟨q, rfl⟩, he⟩
   simp only at he
   subst he
   go_wp2_with fail
   go_ret3
   exact ⟨⟨q, rfl⟩, rfl⟩
end Go.Proofs.YtkcmjcgjfjfimaaGreatDoor.tkw
end
