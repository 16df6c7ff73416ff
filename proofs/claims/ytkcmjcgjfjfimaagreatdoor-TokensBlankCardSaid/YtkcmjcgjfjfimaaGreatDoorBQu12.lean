/- Texts that TokensQuoteLaw leans on, merged: what the functions of the program answer. -/
import Derived.Test.YtkcmjcgjfjfimaaGreatDoorBQu11
section
namespace Go.Proofs.YtkcmjcgjfjfimaaGreatDoor.tkw
open Go Go.RowKit Go.Maps utfp utfw ucdp setp setw prp tkp
def ItOk (C : Cf) (w : World) (T : Rw) (r : List Rg × Nat) (e : Ending) (w' : World) : Prop := ∃ f', RetR C w w.heap.size r.1 r.2 f' T e w'
set_option maxRecDepth 100000 in
set_option maxHeartbeats 2000000 in
theorem items_0 {C : Cf} {w : World} {a f : Nat} {T : Rw} (h : LX C w a f T) {x : Int × Int} (hi : C.p.item a = .error x) : Calls Tryz.prog 71 #[.pointer (some ⟨C.L, 0, none⟩)] w (RP C w (C.p.items a) (ItOk C w T)) := by
 have HS := Lib.hid (show C.p.items a = .error x by unfold Pt.items; rw [hi])
 have HI := Lib.hid hi
 clear hi
 have d1 := h.cells.c1
 have hk0 := Kept.refl w.heap.size C.L w
 have hB := h.hb
 go_enter Tryz.func71, Tryz.ntmps71
 go_wp2_with fail
 refine Calls.mono (item_any h) ?_
 intro e1 w1 hr
 rw [HI.out] at hr
 obtain ⟨rfl, hkn⟩ := hr
 exact ⟨rfl, rp_err HS.out ⟨rfl, hkn⟩⟩
set_option maxRecDepth 100000 in
set_option maxHeartbeats 2000000 in
theorem items_1 {C : Cf} {w : World} {a f : Nat} {T : Rw} (h : LX C w a f T) {t : Tk} {b : Nat} (hi : C.p.item a = .ok (t, b)) (h1 : ¬ t.kind = 1) : Calls Tryz.prog 71 #[.pointer (some ⟨C.L, 0, none⟩)] w (RP C w (C.p.items a) (ItOk C w T)) := by
 obtain ⟨kd, at0, to0, c, set, neg, n, m, mode, name, on, off⟩ := t
 simp only at h1
 have HS := Lib.hid (show C.p.items a = .ok (C.p.members (⟨kd, at0, to0, c, set, neg, n, m, mode, name, on, off⟩ : Tk), b) by unfold Pt.items; rw [hi]; simp [h1])
 have HCA := Lib.hid (item_can hi)
 have HI := Lib.hid hi
 clear hi
 have d1 := h.cells.c1
 have hk0 := Kept.refl w.heap.size C.L w
 have hB := h.hb
 go_enter Tryz.func71, Tryz.ntmps71
 go_wp2_with fail
 refine Calls.mono (item_any h) ?_
 intro e1 w1 hr
 rw [HI.out] at hr
 obtain ⟨v1, rfl, ho, hx1, hkn⟩ := hr
 obtain ⟨x1, y1, rfl⟩ := ownR_len ho
 have hk1 := hk0.then hkn
 have hbA := below_al w1 (.cells (tkR (.slice x1 set.length y1) (⟨kd, at0, to0, c, set, neg, n, m, mode, name, on, off⟩ : Tk)) 30)
 have HOA := Lib.hid (show OwnR (w1.alloc (.cells (tkR (.slice x1 set.length y1) (⟨kd, at0, to0, c, set, neg, n, m, mode, name, on, off⟩ : Tk)) 30)) w.heap.size (.slice x1 set.length y1) set from ⟨World.ownsRow.alloc ho.1 _, ho.2⟩)
 have hx2 := hx1.below hbA
 have hk2 := hk1.then (Kept.of_below (L := C.L) hbA)
 clear hkn ho d1
 unfold tkR
 go_wp2_with fail
 refine Calls.mono (members_any hx2 (.slice x1 set.length y1) (⟨kd, at0, to0, c, set, neg, n, m, mode, name, on, off⟩ : Tk) HOA.out hk2.size HCA.out) ?_
 rintro e9 w9 ⟨v9, rfl, ho9, hx9, hkn⟩
 have hk9 := hk2.then hkn
 clear hkn
 go_wp2_with fail
 go_ret
 exact rp_ok HS.out ⟨_, _, rfl, ho9, hx9, hk9⟩
set_option maxRecDepth 100000 in
set_option maxHeartbeats 2000000 in
theorem items_2 {C : Cf} {w : World} {a f : Nat} {T : Rw} (h : LX C w a f T) {t : Tk} {b : Nat} (hi : C.p.item a = .ok (t, b)) (h1 : t.kind = 1) (h2 : C.p.dash b = false) : Calls Tryz.prog 71 #[.pointer (some ⟨C.L, 0, none⟩)] w (RP C w (C.p.items a) (ItOk C w T)) := by
 obtain ⟨kd, at0, to0, c, set, neg, n, m, mode, name, on, off⟩ := t
 simp only at h1
 subst h1
 have HS := Lib.hid (show C.p.items a = .ok (C.p.members (⟨1, at0, to0, c, set, neg, n, m, mode, name, on, off⟩ : Tk), b) by unfold Pt.items; rw [hi]; simp [h2])
 have HCA := Lib.hid (item_can hi)
 have HI := Lib.hid hi
 have HD := Lib.hid h2
 clear hi h2
 have d1 := h.cells.c1
 have hk0 := Kept.refl w.heap.size C.L w
 have hB := h.hb
 go_enter Tryz.func71, Tryz.ntmps71
 go_wp2_with fail
 refine Calls.mono (item_any h) ?_
 intro e1 w1 hr
 rw [HI.out] at hr
 obtain ⟨v1, rfl, ho, hx1, hkn⟩ := hr
 obtain ⟨x1, y1, rfl⟩ := ownR_len ho
 have hk1 := hk0.then hkn
 have hbA := below_al w1 (.cells (tkR (.slice x1 set.length y1) (⟨1, at0, to0, c, set, neg, n, m, mode, name, on, off⟩ : Tk)) 30)
 have HOA := Lib.hid (show OwnR (w1.alloc (.cells (tkR (.slice x1 set.length y1) (⟨1, at0, to0, c, set, neg, n, m, mode, name, on, off⟩ : Tk)) 30)) w.heap.size (.slice x1 set.length y1) set from ⟨World.ownsRow.alloc ho.1 _, ho.2⟩)
 have hx2 := hx1.below hbA
 have hk2 := hk1.then (Kept.of_below (L := C.L) hbA)
 clear hkn ho d1
 unfold tkR
 go_wp2_with fail
 refine Calls.mono (dash_any hx2) ?_
 intro e3 w3 hr
 rw [HD.out] at hr
 obtain ⟨rfl, hx3, hkn⟩ := hr
 have HG4 := Lib.hid ((hkn.block w1.heap.size (by rw [World.size_alloc]; omega) (by have := hx1.cells.lt; omega)).trans (heap_alloc_new w1 _))
 have hk3 := hk2.then hkn
 rw [if_neg (by simp)] at hx3
 have HO3 := Lib.hid (ownR_kept HOA.out hkn h.cells.lt)
 clear hkn
 go_wp2_with (refine wpList_load_tok rfl _ rfl w1.heap.size rfl (tkR (.slice x1 set.length y1) (⟨1, at0, to0, c, set, neg, n, m, mode, name, on, off⟩ : Tk)) HG4.out rfl ?_)
 refine Calls.mono (members_any hx3 (.slice x1 set.length y1) (⟨1, at0, to0, c, set, neg, n, m, mode, name, on, off⟩ : Tk) HO3.out hk3.size HCA.out) ?_
 rintro e9 w9 ⟨v9, rfl, ho9, hx9, hkn⟩
 have hk9 := hk3.then hkn
 clear hkn
 go_wp2_with fail
 go_ret
 exact rp_ok HS.out ⟨_, _, rfl, ho9, hx9, hk9⟩
set_option maxRecDepth 100000 in
set_option maxHeartbeats 2000000 in
theorem items_3 {C : Cf} {w : World} {a f : Nat} {T : Rw} (h : LX C w a f T) {t : Tk} {b : Nat} (hi : C.p.item a = .ok (t, b)) (h1 : t.kind = 1) (h2 : C.p.dash b = true) {x : Int × Int} (hj : C.p.item (b + 1) = .error x) : Calls Tryz.prog 71 #[.pointer (some ⟨C.L, 0, none⟩)] w (RP C w (C.p.items a) (ItOk C w T)) := by
 obtain ⟨kd, at0, to0, c, set, neg, n, m, mode, name, on, off⟩ := t
 simp only at h1
 subst h1
 have HS := Lib.hid (show C.p.items a = .error x by unfold Pt.items; rw [hi]; simp [h2, hj])
 have HI := Lib.hid hi
 have HD := Lib.hid h2
 have HJ := Lib.hid hj
 clear hi h2 hj
 have d1 := h.cells.c1
 have hk0 := Kept.refl w.heap.size C.L w
 have hB := h.hb
 go_enter Tryz.func71, Tryz.ntmps71
 go_wp2_with fail
 refine Calls.mono (item_any h) ?_
 intro e1 w1 hr
 rw [HI.out] at hr
 obtain ⟨v1, rfl, ho, hx1, hkn⟩ := hr
 obtain ⟨x1, y1, rfl⟩ := ownR_len ho
 have hk1 := hk0.then hkn
 have hbA := below_al w1 (.cells (tkR (.slice x1 set.length y1) (⟨1, at0, to0, c, set, neg, n, m, mode, name, on, off⟩ : Tk)) 30)
 have HOA := Lib.hid (show OwnR (w1.alloc (.cells (tkR (.slice x1 set.length y1) (⟨1, at0, to0, c, set, neg, n, m, mode, name, on, off⟩ : Tk)) 30)) w.heap.size (.slice x1 set.length y1) set from ⟨World.ownsRow.alloc ho.1 _, ho.2⟩)
 have hx2 := hx1.below hbA
 have hk2 := hk1.then (Kept.of_below (L := C.L) hbA)
 clear hkn ho d1
 unfold tkR
 go_wp2_with fail
 refine Calls.mono (dash_any hx2) ?_
 intro e3 w3 hr
 rw [HD.out] at hr
 obtain ⟨rfl, hx3, hkn⟩ := hr
 have HG4 := Lib.hid ((hkn.block w1.heap.size (by rw [World.size_alloc]; omega) (by have := hx1.cells.lt; omega)).trans (heap_alloc_new w1 _))
 have hk3 := hk2.then hkn
 rw [if_pos rfl] at hx3
 clear hkn
 go_wp2_with fail
 refine Calls.mono (item_any hx3) ?_
 intro e4 w4 hr
 rw [HJ.out] at hr
 obtain ⟨rfl, hkn⟩ := hr
 exact ⟨rfl, rp_err HS.out ⟨rfl, (hk3.mono hB).trans hkn⟩⟩
set_option maxRecDepth 100000 in
set_option maxHeartbeats 4000000 in
theorem items_4 {C : Cf} {w : World} {a f : Nat} {T : Rw} (h : LX C w a f T) {t : Tk} {b : Nat} (hi : C.p.item a = .ok (t, b)) (h1 : t.kind = 1) (h2 : C.p.dash b = true) {d : Tk} {b' : Nat} (hj : C.p.item (b + 1) = .ok (d, b')) (h3 : ¬ d.kind = 1) : Calls Tryz.prog 71 #[.pointer (some ⟨C.L, 0, none⟩)] w (RP C w (C.p.items a) (ItOk C w T)) := by
 obtain ⟨kd, at0, to0, c, set, neg, n, m, mode, name, on, off⟩ := t
 simp only at h1
 subst h1
 obtain ⟨kd1, at1, to1, c1, set1, neg1, n1, m1, mode1, name1, on1, off1⟩ := d
 simp only at h3
 have HS := Lib.hid (show C.p.items a = .error (23, (a : Int)) by unfold Pt.items; rw [hi]; simp [h2, hj, h3])
 have HI := Lib.hid hi
 have HD := Lib.hid h2
 have HJ := Lib.hid hj
 clear hi h2 hj
 have d1 := h.cells.c1
 have hk0 := Kept.refl w.heap.size C.L w
 have hB := h.hb
 go_enter Tryz.func71, Tryz.ntmps71
 go_wp2_with fail
 refine Calls.mono (item_any h) ?_
 intro e1 w1 hr
 rw [HI.out] at hr
 obtain ⟨v1, rfl, ho, hx1, hkn⟩ := hr
 obtain ⟨x1, y1, rfl⟩ := ownR_len ho
 have hk1 := hk0.then hkn
 have hbA := below_al w1 (.cells (tkR (.slice x1 set.length y1) (⟨1, at0, to0, c, set, neg, n, m, mode, name, on, off⟩ : Tk)) 30)
 have HOA := Lib.hid (show OwnR (w1.alloc (.cells (tkR (.slice x1 set.length y1) (⟨1, at0, to0, c, set, neg, n, m, mode, name, on, off⟩ : Tk)) 30)) w.heap.size (.slice x1 set.length y1) set from ⟨World.ownsRow.alloc ho.1 _, ho.2⟩)
 have hx2 := hx1.below hbA
 have hk2 := hk1.then (Kept.of_below (L := C.L) hbA)
 clear hkn ho d1
 unfold tkR
 go_wp2_with fail
 refine Calls.mono (dash_any hx2) ?_
 intro e3 w3 hr
 rw [HD.out] at hr
 obtain ⟨rfl, hx3, hkn⟩ := hr
 have HG4 := Lib.hid ((hkn.block w1.heap.size (by rw [World.size_alloc]; omega) (by have := hx1.cells.lt; omega)).trans (heap_alloc_new w1 _))
 have hk3 := hk2.then hkn
 rw [if_pos rfl] at hx3
 have HKN3 := Lib.hid hkn
 clear hkn
 go_wp2_with fail
 refine Calls.mono (item_any hx3) ?_
 intro e4 w4 hr
 rw [HJ.out] at hr
 obtain ⟨v4, rfl, ho, hx4, hkn⟩ := hr
 obtain ⟨x4, y4, rfl⟩ := ownR_len ho
 have hk4 := hk3.then hkn
 have hlt3 : w1.heap.size < w3.heap.size := by
   have := HKN3.out.size
   rw [World.size_alloc] at this
   omega
 have HG5 := Lib.hid ((hkn.block w1.heap.size hlt3 (by have := hx1.cells.lt; omega)).trans HG4.out)
 have hbA := below_al w4 (.cells (tkR (.slice x4 set1.length y4) (⟨kd1, at1, to1, c1, set1, neg1, n1, m1, mode1, name1, on1, off1⟩ : Tk)) 30)
 have hx5 := hx4.below hbA
 have hk5 := hk4.then (Kept.of_below (L := C.L) hbA)
 have b50 : (w4.alloc (.cells (tkR (.slice x4 set1.length y4) (⟨kd1, at1, to1, c1, set1, neg1, n1, m1, mode1, name1, on1, off1⟩ : Tk)) 30)).cell? ⟨w4.heap.size, 0, none⟩ = some (.int .i64 kd1) := by rw [World.cell?_alloc_new]; rfl
 have b53 : (w4.alloc (.cells (tkR (.slice x4 set1.length y4) (⟨kd1, at1, to1, c1, set1, neg1, n1, m1, mode1, name1, on1, off1⟩ : Tk)) 30)).cell? ⟨w4.heap.size, 3, none⟩ = some (.int .i64 c1) := by rw [World.cell?_alloc_new]; rfl
 have b43 : (w4.alloc (.cells (tkR (.slice x4 set1.length y4) (⟨kd1, at1, to1, c1, set1, neg1, n1, m1, mode1, name1, on1, off1⟩ : Tk)) 30)).cell? ⟨w1.heap.size, 3, none⟩ = some (.int .i64 c) := below_cell hbA (show w4.cell? ⟨w1.heap.size, 3, none⟩ = _ by simp [World.cell?, HG5.out, tkR])
 clear hkn ho
 unfold tkR at hbA hx5 hk5 b50 b53 b43 ⊢
 go_upto_region 6 with (fail)
 generalize hW5 : w4.alloc (.cells _ _) = W5 at *
 go_wp2_with fail
 exact ⟨rfl, rp_err HS.out (pan_of rfl (hk5.mono hB))⟩
set_option maxRecDepth 100000 in
set_option maxHeartbeats 4000000 in
theorem items_5 {C : Cf} {w : World} {a f : Nat} {T : Rw} (h : LX C w a f T) {t : Tk} {b : Nat} (hi : C.p.item a = .ok (t, b)) (h1 : t.kind = 1) (h2 : C.p.dash b = true) {d : Tk} {b' : Nat} (hj : C.p.item (b + 1) = .ok (d, b')) (h3 : d.kind = 1) (h4 : d.c < t.c) : Calls Tryz.prog 71 #[.pointer (some ⟨C.L, 0, none⟩)] w (RP C w (C.p.items a) (ItOk C w T)) := by
 obtain ⟨kd, at0, to0, c, set, neg, n, m, mode, name, on, off⟩ := t
 simp only at h1
 subst h1
 obtain ⟨kd1, at1, to1, c1, set1, neg1, n1, m1, mode1, name1, on1, off1⟩ := d
 simp only at h3 h4
 subst h3
 have HS := Lib.hid (show C.p.items a = .error (23, (a : Int)) by unfold Pt.items; rw [hi]; simp [h2, hj, h4])
 have HI := Lib.hid hi
 have HD := Lib.hid h2
 have HJ := Lib.hid hj
 clear hi h2 hj
 have d1 := h.cells.c1
 have hk0 := Kept.refl w.heap.size C.L w
 have hB := h.hb
 go_enter Tryz.func71, Tryz.ntmps71
 go_wp2_with fail
 refine Calls.mono (item_any h) ?_
 intro e1 w1 hr
 rw [HI.out] at hr
 obtain ⟨v1, rfl, ho, hx1, hkn⟩ := hr
 obtain ⟨x1, y1, rfl⟩ := ownR_len ho
 have hk1 := hk0.then hkn
 have hbA := below_al w1 (.cells (tkR (.slice x1 set.length y1) (⟨1, at0, to0, c, set, neg, n, m, mode, name, on, off⟩ : Tk)) 30)
 have HOA := Lib.hid (show OwnR (w1.alloc (.cells (tkR (.slice x1 set.length y1) (⟨1, at0, to0, c, set, neg, n, m, mode, name, on, off⟩ : Tk)) 30)) w.heap.size (.slice x1 set.length y1) set from ⟨World.ownsRow.alloc ho.1 _, ho.2⟩)
 have hx2 := hx1.below hbA
 have hk2 := hk1.then (Kept.of_below (L := C.L) hbA)
 clear hkn ho d1
 unfold tkR
 go_wp2_with fail
 refine Calls.mono (dash_any hx2) ?_
 intro e3 w3 hr
 rw [HD.out] at hr
 obtain ⟨rfl, hx3, hkn⟩ := hr
 have HG4 := Lib.hid ((hkn.block w1.heap.size (by rw [World.size_alloc]; omega) (by have := hx1.cells.lt; omega)).trans (heap_alloc_new w1 _))
 have hk3 := hk2.then hkn
 rw [if_pos rfl] at hx3
 have HKN3 := Lib.hid hkn
 clear hkn
 go_wp2_with fail
 refine Calls.mono (item_any hx3) ?_
 intro e4 w4 hr
 rw [HJ.out] at hr
 obtain ⟨v4, rfl, ho, hx4, hkn⟩ := hr
 obtain ⟨x4, y4, rfl⟩ := ownR_len ho
 have hk4 := hk3.then hkn
 have hlt3 : w1.heap.size < w3.heap.size := by
   have := HKN3.out.size
   rw [World.size_alloc] at this
   omega
 have HG5 := Lib.hid ((hkn.block w1.heap.size hlt3 (by have := hx1.cells.lt; omega)).trans HG4.out)
 have hbA := below_al w4 (.cells (tkR (.slice x4 set1.length y4) (⟨1, at1, to1, c1, set1, neg1, n1, m1, mode1, name1, on1, off1⟩ : Tk)) 30)
 have hx5 := hx4.below hbA
 have hk5 := hk4.then (Kept.of_below (L := C.L) hbA)
 have b50 : (w4.alloc (.cells (tkR (.slice x4 set1.length y4) (⟨1, at1, to1, c1, set1, neg1, n1, m1, mode1, name1, on1, off1⟩ : Tk)) 30)).cell? ⟨w4.heap.size, 0, none⟩ = some (.int .i64 1) := by rw [World.cell?_alloc_new]; rfl
 have b53 : (w4.alloc (.cells (tkR (.slice x4 set1.length y4) (⟨1, at1, to1, c1, set1, neg1, n1, m1, mode1, name1, on1, off1⟩ : Tk)) 30)).cell? ⟨w4.heap.size, 3, none⟩ = some (.int .i64 c1) := by rw [World.cell?_alloc_new]; rfl
 have b43 : (w4.alloc (.cells (tkR (.slice x4 set1.length y4) (⟨1, at1, to1, c1, set1, neg1, n1, m1, mode1, name1, on1, off1⟩ : Tk)) 30)).cell? ⟨w1.heap.size, 3, none⟩ = some (.int .i64 c) := below_cell hbA (show w4.cell? ⟨w1.heap.size, 3, none⟩ = _ by simp [World.cell?, HG5.out, tkR])
 clear hkn ho
 unfold tkR at hbA hx5 hk5 b50 b53 b43 ⊢
 go_upto_region 6 with (fail)
 generalize hW5 : w4.alloc (.cells _ _) = W5 at *
 go_wp2_with fail
 exact ⟨rfl, rp_err HS.out (pan_of rfl (hk5.mono hB))⟩
set_option maxRecDepth 100000 in
set_option maxHeartbeats 4000000 in
theorem items_6 {C : Cf} {w : World} {a f : Nat} {T : Rw} (h : LX C w a f T) {t : Tk} {b : Nat} (hi : C.p.item a = .ok (t, b)) (h1 : t.kind = 1) (h2 : C.p.dash b = true) {d : Tk} {b' : Nat} (hj : C.p.item (b + 1) = .ok (d, b')) (h3 : d.kind = 1) (h4 : ¬ d.c < t.c) : Calls Tryz.prog 71 #[.pointer (some ⟨C.L, 0, none⟩)] w (RP C w (C.p.items a) (ItOk C w T)) := by
 obtain ⟨kd, at0, to0, c, set, neg, n, m, mode, name, on, off⟩ := t
 simp only at h1
 subst h1
 obtain ⟨kd1, at1, to1, c1, set1, neg1, n1, m1, mode1, name1, on1, off1⟩ := d
 simp only at h3 h4
 subst h3
 have HS := Lib.hid (show C.p.items a = .ok ([(c, c1)], b') by unfold Pt.items; rw [hi]; simp [h2, hj, h4])
 have HI := Lib.hid hi
 have HD := Lib.hid h2
 have HJ := Lib.hid hj
 clear hi h2 hj
 have d1 := h.cells.c1
 have hk0 := Kept.refl w.heap.size C.L w
 have hB := h.hb
 go_enter Tryz.func71, Tryz.ntmps71
 go_wp2_with fail
 refine Calls.mono (item_any h) ?_
 intro e1 w1 hr
 rw [HI.out] at hr
 obtain ⟨v1, rfl, ho, hx1, hkn⟩ := hr
 obtain ⟨x1, y1, rfl⟩ := ownR_len ho
 have hk1 := hk0.then hkn
 have hbA := below_al w1 (.cells (tkR (.slice x1 set.length y1) (⟨1, at0, to0, c, set, neg, n, m, mode, name, on, off⟩ : Tk)) 30)
 have HOA := Lib.hid (show OwnR (w1.alloc (.cells (tkR (.slice x1 set.length y1) (⟨1, at0, to0, c, set, neg, n, m, mode, name, on, off⟩ : Tk)) 30)) w.heap.size (.slice x1 set.length y1) set from ⟨World.ownsRow.alloc ho.1 _, ho.2⟩)
 have hx2 := hx1.below hbA
 have hk2 := hk1.then (Kept.of_below (L := C.L) hbA)
 clear hkn ho d1
 unfold tkR
 go_wp2_with fail
 refine Calls.mono (dash_any hx2) ?_
 intro e3 w3 hr
 rw [HD.out] at hr
 obtain ⟨rfl, hx3, hkn⟩ := hr
 have HG4 := Lib.hid ((hkn.block w1.heap.size (by rw [World.size_alloc]; omega) (by have := hx1.cells.lt; omega)).trans (heap_alloc_new w1 _))
 have hk3 := hk2.then hkn
 rw [if_pos rfl] at hx3
 have HKN3 := Lib.hid hkn
 clear hkn
 go_wp2_with fail
 refine Calls.mono (item_any hx3) ?_
 intro e4 w4 hr
 rw [HJ.out] at hr
 obtain ⟨v4, rfl, ho, hx4, hkn⟩ := hr
 obtain ⟨x4, y4, rfl⟩ := ownR_len ho
 have hk4 := hk3.then hkn
 have hlt3 : w1.heap.size < w3.heap.size := by
   have := HKN3.out.size
   rw [World.size_alloc] at this
   omega
 have HG5 := Lib.hid ((hkn.block w1.heap.size hlt3 (by have := hx1.cells.lt; omega)).trans HG4.out)
 have hbA := below_al w4 (.cells (tkR (.slice x4 set1.length y4) (⟨1, at1, to1, c1, set1, neg1, n1, m1, mode1, name1, on1, off1⟩ : Tk)) 30)
 have hx5 := hx4.below hbA
 have hk5 := hk4.then (Kept.of_below (L := C.L) hbA)
 have b50 : (w4.alloc (.cells (tkR (.slice x4 set1.length y4) (⟨1, at1, to1, c1, set1, neg1, n1, m1, mode1, name1, on1, off1⟩ : Tk)) 30)).cell? ⟨w4.heap.size, 0, none⟩ = some (.int .i64 1) := by rw [World.cell?_alloc_new]; rfl
 have b53 : (w4.alloc (.cells (tkR (.slice x4 set1.length y4) (⟨1, at1, to1, c1, set1, neg1, n1, m1, mode1, name1, on1, off1⟩ : Tk)) 30)).cell? ⟨w4.heap.size, 3, none⟩ = some (.int .i64 c1) := by rw [World.cell?_alloc_new]; rfl
 have b43 : (w4.alloc (.cells (tkR (.slice x4 set1.length y4) (⟨1, at1, to1, c1, set1, neg1, n1, m1, mode1, name1, on1, off1⟩ : Tk)) 30)).cell? ⟨w1.heap.size, 3, none⟩ = some (.int .i64 c) := below_cell hbA (show w4.cell? ⟨w1.heap.size, 3, none⟩ = _ by simp [World.cell?, HG5.out, tkR])
 clear hkn ho
 unfold tkR at hbA hx5 hk5 b50 b53 b43 ⊢
 go_upto_region 6 with (fail)
 generalize hW5 : w4.alloc (.cells _ _) = W5 at *
 have HX5 := Lib.hid hx5
 have HK5 := Lib.hid hk5
 clear hW5 hx5 hk5 hbA
 go_wp2_with fail
 go_ret
 have hbR := below_al W5 (.cells #[.int .i64 c, .int .i64 c1] 43)
 exact rp_ok HS.out ⟨_, _, rfl, ownR_new (Nat.le_trans HK5.out.size (Nat.le_refl _)) rfl, HX5.out.below hbR, HK5.out.then (Kept.of_below (L := C.L) hbR)⟩
theorem items_any {C : Cf} {w : World} {a f : Nat} {T : Rw} (h : LX C w a f T) : Calls Tryz.prog 71 #[.pointer (some ⟨C.L, 0, none⟩)] w (RP C w (C.p.items a) (ItOk C w T)) := by
 cases hi : C.p.item a with
 | error x => exact items_0 h hi
 | ok r =>
   obtain ⟨t, b⟩ := r
   by_cases h1 : t.kind = 1
   · cases h2 : C.p.dash b with
     | false => exact items_2 h hi h1 h2
     | true =>
       cases hj : C.p.item (b + 1) with
       | error x => exact items_3 h hi h1 h2 hj
       | ok r2 =>
         obtain ⟨d, b'⟩ := r2
         by_cases h3 : d.kind = 1
         · by_cases h4 : d.c < t.c
           · exact items_5 h hi h1 h2 hj h3 h4
           · exact items_6 h hi h1 h2 hj h3 h4
         · exact items_4 h hi h1 h2 hj h3
   · exact items_1 h hi h1
end Go.Proofs.YtkcmjcgjfjfimaaGreatDoor.tkw
end
section
namespace Go.Proofs.YtkcmjcgjfjfimaaGreatDoor.tkw
open Go Go.RowKit Go.Maps utfp utfw ucdp setp setw prp tkp
theorem insR_len : ∀ (a b : Int) (S : List Rg), (insR a b S).length ≤ S.length + 1
 | _, _, [] => by simp [insR]
 | a, b, r :: S => by
   unfold insR
   split
   · simp
   · split
     · have := insR_len a b S
       simp only [List.length_cons]
       omega
     · have := insR_len (min a r.1) (max b r.2) S
       simp only [List.length_cons]
       omega
theorem normR_len (m : Int) : ∀ l : List Rg, (normR m l).length ≤ l.length
 | [] => Nat.le_refl _
 | r :: l => by
   have := normR_len m l
   have h2 := insR_len (max r.1 0) (min r.2 m) (normR m l)
   unfold normR
   split
   · simp only [List.length_cons]
     omega
   · simp only [List.length_cons]
     omega
theorem notF_len (m : Int) : ∀ (S : List Rg) (lo : Int), (notF m lo S).length ≤ S.length + 1
 | [], lo => by
   unfold notF addP
   split <;> simp
 | r :: S, lo => by
   have := notF_len m S (r.2 + 1)
   unfold notF
   split
   · simp only [List.length_cons]
     omega
   · simp only [List.length_cons]
     omega
theorem lookP_len (n : ByteArray) {k : Nat} : ∀ {M : List (ByteArray × List Rg)}, (∀ p ∈ M, p.2.length ≤ k) → (lookP M n []).length ≤ k
 | [], _ => Nat.zero_le _
 | (b, R) :: M, h => by
   unfold lookP
   split
   · exact h (b, R) (List.mem_cons_self ..)
   · exact lookP_len n fun p hp => h p (List.mem_cons_of_mem _ hp)
theorem posixP_len (n : ByteArray) : (posixP n).length ≤ 93 := lookP_len n fun p hp => by
 have := List.all_eq_true.1 (show (posix.all fun p => decide (p.2.length ≤ 93)) = true by decide +kernel) p hp
 simpa using this
theorem escP_len (c : Int) : (escP c).length ≤ 93 := by
 unfold escP
 repeat' split
 all_goals simp
theorem prop_len {p : Pt} {f a : Nat} {neg : Bool} {t : Tk} {b : Nat} (h : p.prop f a neg = .ok (t, b)) : t.set.length ≤ 93 := by
 unfold Pt.prop at h
 split at h
 · simp only [Except.ok.injEq, Prod.mk.injEq] at h
   rw [← h.1]
   exact Nat.le_trans (normR_len _ _) (wl_len _ _)
 · exact absurd h (by simp)
theorem common_len {p : Pt} {f a : Nat} {c : Int} {t : Tk} {b : Nat} (h : p.common f c a = .ok (some (t, b))) : t.set.length ≤ 93 := by
 unfold Pt.common at h
 split at h
 · simp only [Except.ok.injEq, Option.some.injEq, Prod.mk.injEq] at h
   rw [← h.1]
   exact Nat.zero_le _
 · split at h
   · split at h
     · exact absurd h (by simp)
     · simp only [Except.ok.injEq, Option.some.injEq, Prod.mk.injEq] at h
       rw [← h.1]
       exact Nat.zero_le _
   · split at h
     · split at h
       · exact absurd h (by simp)
       · rename_i r hr
         simp only [Except.ok.injEq, Option.some.injEq] at h
         rw [h] at hr
         exact prop_len hr
     · split at h
       · simp only [Except.ok.injEq, Option.some.injEq, Prod.mk.injEq] at h
         rw [← h.1]
         exact Nat.le_trans (normR_len _ _) (escP_len _)
       · exact absurd h (by simp)
theorem posix_len {p : Pt} {f : Nat} {t : Tk} {b : Nat} (h : p.posix f = .ok (some (t, b))) : t.set.length ≤ 93 := by
 unfold Pt.posix at h
 simp only at h
 repeat' split at h
 all_goals first
   | (simp only [Except.ok.injEq, Option.some.injEq, Prod.mk.injEq] at h
      rw [← h.1]
      exact Nat.le_trans (normR_len _ _) (posixP_len _))
   | exact absurd h (by simp)
theorem classEsc_len {p : Pt} {f a : Nat} {t : Tk} {b : Nat} (h : p.classEsc f a = .ok (t, b)) : t.set.length ≤ 93 := by
 unfold Pt.classEsc at h
 split at h
 · exact absurd h (by simp)
 · split at h
   · exact absurd h (by simp)
   · rename_i r hr
     simp only [Except.ok.injEq] at h
     rw [h] at hr
     exact common_len hr
   · repeat' split at h
     all_goals first
       | (simp only [Except.ok.injEq, Prod.mk.injEq] at h
          rw [← h.1]
          exact Nat.zero_le _)
       | exact absurd h (by simp)
theorem item_len {p : Pt} {a : Nat} {t : Tk} {b : Nat} (h : p.item a = .ok (t, b)) : t.set.length ≤ 93 := by
 unfold Pt.item at h
 split at h
 · exact absurd h (by simp)
 · split at h
   · exact absurd h (by simp)
   · rename_i r hr
     simp only [Except.ok.injEq] at h
     rw [h] at hr
     exact posix_len hr
   · split at h
     · exact classEsc_len h
     · simp only [Except.ok.injEq, Prod.mk.injEq] at h
       rw [← h.1]
       exact Nat.zero_le _
theorem members_len {p : Pt} {t : Tk} (h : t.set.length ≤ 93) : (p.members t).length ≤ 94 := by
 unfold Pt.members
 split
 · simp
 · split
   · exact Nat.le_trans (notF_len _ _ _) (by omega)
   · omega
theorem items_len {p : Pt} {a : Nat} {l : List Rg} {b : Nat} (h : p.items a = .ok (l, b)) : l.length ≤ 94 := by
 unfold Pt.items at h
 split at h
 · exact absurd h (by simp)
 · rename_i c b1 hi
   split at h
   · split at h
     · exact absurd h (by simp)
     · split at h
       · exact absurd h (by simp)
       · simp only [Except.ok.injEq, Prod.mk.injEq] at h
         rw [← h.1]
         simp
   · simp only [Except.ok.injEq, Prod.mk.injEq] at h
     rw [← h.1]
     exact members_len (item_len hi)
theorem hexa_ge {p : Pt} {f a : Nat} {v : Int} {b : Nat} (ha : a ≤ p.n) (h : p.hexa f a = .ok (v, b)) : a ≤ b := by
 unfold Pt.hexa at h
 split at h
 · rename_i h1
   split at h
   · exact absurd h (by simp)
   · simp only [Except.ok.injEq, Prod.mk.injEq] at h
     have hl := has_le ha h1
     simp only [List.length_cons, List.length_nil] at hl
     have := hexd_bd (p := p) (most := 6) (a := a + 1) (by omega)
     omega
 · simp only [Except.ok.injEq] at h
   have := hexd_bd (p := p) (most := 2) ha
   rw [h] at this
   exact this.1
theorem propName_ge {p : Pt} (hg : ∀ i, 0 ≤ p.g i ∧ p.g i ≤ 255) {a : Nat} (ha : a ≤ p.n) : a ≤ (p.propName a).2 := by
 unfold Pt.propName
 split
 · split
   · exact Nat.le_succ _
   · rename_i i hi
     have := find_bd hi
     show a ≤ i + 1
     omega
 · exact (char_pure hg ha).2.1
theorem prop_ge {p : Pt} (hg : ∀ i, 0 ≤ p.g i ∧ p.g i ≤ 255) {f a : Nat} {neg : Bool} {t : Tk} {b : Nat} (ha : a ≤ p.n) (h : p.prop f a neg = .ok (t, b)) : a ≤ b := by
 unfold Pt.prop at h
 split at h
 · simp only [Except.ok.injEq, Prod.mk.injEq] at h
   rw [← h.2]
   exact propName_ge hg ha
 · exact absurd h (by simp)
theorem common_ge {p : Pt} (hg : ∀ i, 0 ≤ p.g i ∧ p.g i ≤ 255) {f a : Nat} {c : Int} {t : Tk} {b : Nat} (ha : a ≤ p.n) (h : p.common f c a = .ok (some (t, b))) : a ≤ b := by
 unfold Pt.common at h
 split at h
 · simp only [Except.ok.injEq, Option.some.injEq, Prod.mk.injEq] at h
   omega
 · split at h
   · split at h
     · exact absurd h (by simp)
     · rename_i v b1 hv
       simp only [Except.ok.injEq, Option.some.injEq, Prod.mk.injEq] at h
       have := hexa_ge ha hv
       omega
   · split at h
     · split at h
       · exact absurd h (by simp)
       · rename_i r hr
         simp only [Except.ok.injEq, Option.some.injEq] at h
         rw [h] at hr
         exact prop_ge hg ha hr
     · split at h
       · simp only [Except.ok.injEq, Option.some.injEq, Prod.mk.injEq] at h
         omega
       · exact absurd h (by simp)
theorem posix_gt {p : Pt} {f : Nat} {t : Tk} {b : Nat} (ha : f ≤ p.n) (h : p.posix f = .ok (some (t, b))) : f < b := by
 unfold Pt.posix at h
 split at h
 · rename_i h1
   have hl := has_le ha h1
   simp only [List.length_cons, List.length_nil] at hl
   have hb : (if p.has [94] (f + 2) = true then f + 3 else f + 2) ≤ p.n := by
     split
     · rename_i h2
       have := has_le hl h2
       simpa using this
     · exact hl
   have h3 : f + 2 ≤ (if p.has [94] (f + 2) = true then f + 3 else f + 2) := by split <;> omega
   generalize (if p.has [94] (f + 2) = true then f + 3 else f + 2) = bg at *
   simp only at h
   have := (run_bd (p := p) (fits := isLet) (k := 1000) hb).1
   split at h
   · split at h
     · simp only [Except.ok.injEq, Option.some.injEq, Prod.mk.injEq] at h
       omega
     · exact absurd h (by simp)
   · exact absurd h (by simp)
 · exact absurd h (by simp)
theorem classEsc_ge {p : Pt} (hg : ∀ i, 0 ≤ p.g i ∧ p.g i ≤ 255) {f a : Nat} {t : Tk} {b : Nat} (ha : a ≤ p.n) (h : p.classEsc f a = .ok (t, b)) : a ≤ b := by
 obtain ⟨_, q2, q3, _⟩ := char_pure hg ha
 unfold Pt.classEsc at h
 split at h
 · exact absurd h (by simp)
 · split at h
   · exact absurd h (by simp)
   · rename_i r hr
     simp only [Except.ok.injEq] at h
     rw [h] at hr
     exact Nat.le_trans q2 (common_ge hg q3 hr)
   · repeat' split at h
     all_goals first
       | (simp only [Except.ok.injEq, Prod.mk.injEq] at h
          omega)
       | exact absurd h (by simp)
theorem item_gt {p : Pt} (hg : ∀ i, 0 ≤ p.g i ∧ p.g i ≤ 255) {a : Nat} {t : Tk} {b : Nat} (ha : a ≤ p.n) (h : p.item a = .ok (t, b)) : a < b := by
 obtain ⟨_, q2, q3, q4⟩ := char_pure hg ha
 unfold Pt.item at h
 split at h
 · exact absurd h (by simp)
 · rename_i hne
   have hlt := q4 (by omega)
   split at h
   · exact absurd h (by simp)
   · rename_i r hr
     simp only [Except.ok.injEq] at h
     rw [h] at hr
     exact posix_gt ha hr
   · split at h
     · exact Nat.lt_of_lt_of_le hlt (classEsc_ge hg q3 h)
     · simp only [Except.ok.injEq, Prod.mk.injEq] at h
       omega
theorem has_lt {p : Pt} {c : UInt8} {l : List UInt8} {a : Nat} (h : p.has (c :: l) a = true) : a < p.n := by
 unfold Pt.has at h
 simp only [Bool.and_eq_true, decide_eq_true_eq] at h
 exact h.1.1
theorem items_gt {p : Pt} (hg : ∀ i, 0 ≤ p.g i ∧ p.g i ≤ 255) {a : Nat} {l : List Rg} {b : Nat} (ha : a ≤ p.n) (h : p.items a = .ok (l, b)) : a < b := by
 unfold Pt.items at h
 split at h
 · exact absurd h (by simp)
 · rename_i c b1 hi
   have h1 := item_gt hg ha hi
   split at h
   · rename_i hd
     split at h
     · exact absurd h (by simp)
     · rename_i d b2 hj
       split at h
       · exact absurd h (by simp)
       · simp only [Except.ok.injEq, Prod.mk.injEq] at h
         have hdd : p.has [45] b1 = true := by
           unfold Pt.dash at hd
           simp only [Bool.and_eq_true] at hd
           exact hd.2.2
         have hl := has_lt hdd
         have := item_gt hg hl hj
         omega
   · simp only [Except.ok.injEq, Prod.mk.injEq] at h
     omega
theorem hexVal_bd {p : Pt} {a : Nat} : ∀ k, (∀ i, i < k → isHexd (p.g (a + i)) = true) → 0 ≤ p.hexVal a k ∧ p.hexVal a k + 1 ≤ (16 : Int) ^ k
 | 0, _ => by simp [Pt.hexVal]
 | k + 1, h => by
   have ih := hexVal_bd k fun i hi => h i (by omega)
   have hd := hexV_bd (h k (by omega))
   have e : (16 : Int) ^ (k + 1) = 16 ^ k * 16 := Int.pow_succ 16 k
   rw [e]
   unfold Pt.hexVal
   generalize (16 : Int) ^ k = q at *
   omega
theorem hexd_val {p : Pt} {most a : Nat} (hm : most ≤ 6) (ha : a ≤ p.n) : 0 ≤ (p.hexd most a).1 ∧ (p.hexd most a).1 ≤ 16777216 := by
 have bd := run_bd (p := p) (fits := isHexd) (k := most) ha
 have hb := hexVal_bd (p := p) (a := a) (p.run isHexd most a - a) fun i hi => run_fits (k := most) (a := a) (Nat.le_add_right _ _) (by omega)
 have hp : ∀ k : Nat, k ≤ 6 → (16 : Int) ^ k ≤ 16777216 := by
   intro k hk
   have hc : k = 0 ∨ k = 1 ∨ k = 2 ∨ k = 3 ∨ k = 4 ∨ k = 5 ∨ k = 6 := by omega
   rcases hc with rfl | rfl | rfl | rfl | rfl | rfl | rfl <;> decide
 have := hp (p.run isHexd most a - a) (by omega)
 unfold Pt.hexd
 exact ⟨hb.1, by have := hb.2; simp only; omega⟩
def Ch (t : Tk) : Prop := -1 ≤ t.c ∧ t.c ≤ 16777216
theorem simple_bd (c : Int) : 0 ≤ simpleE c ∧ simpleE c ≤ 27 := by
 unfold simpleE
 repeat' split
 all_goals omega
theorem hexa_val {p : Pt} {f a : Nat} {v : Int} {b : Nat} (ha : a ≤ p.n) (h : p.hexa f a = .ok (v, b)) : 0 ≤ v ∧ v ≤ 16777216 := by
 unfold Pt.hexa at h
 split at h
 · rename_i h1
   split at h
   · exact absurd h (by simp)
   · simp only [Except.ok.injEq, Prod.mk.injEq] at h
     have hl := has_le ha h1
     simp only [List.length_cons, List.length_nil] at hl
     have := hexd_val (p := p) (most := 6) (a := a + 1) (by omega) (by omega)
     rw [h.1] at this
     exact this
 · simp only [Except.ok.injEq] at h
   have := hexd_val (p := p) (most := 2) (by omega) ha
   rw [h] at this
   exact this
theorem common_ch {p : Pt} {f a : Nat} {c : Int} {t : Tk} {b : Nat} (ha : a ≤ p.n) (h : p.common f c a = .ok (some (t, b))) : Ch t := by
 unfold Pt.common at h
 split at h
 · simp only [Except.ok.injEq, Option.some.injEq, Prod.mk.injEq] at h
   rw [← h.1]
   have := simple_bd c
   exact ⟨by simp only; omega, by simp only; omega⟩
 · split at h
   · split at h
     · exact absurd h (by simp)
     · rename_i v b1 hv
       simp only [Except.ok.injEq, Option.some.injEq, Prod.mk.injEq] at h
       have := hexa_val ha hv
       rw [← h.1]
       exact ⟨by simp only; omega, by simp only; omega⟩
   · split at h
     · split at h
       · exact absurd h (by simp)
       · rename_i r hr
         simp only [Except.ok.injEq, Option.some.injEq] at h
         rw [h] at hr
         unfold Pt.prop at hr
         split at hr
         · simp only [Except.ok.injEq, Prod.mk.injEq] at hr
           rw [← hr.1]
           exact ⟨by show (-1 : Int) ≤ 0; decide, by show (0 : Int) ≤ 16777216; decide⟩
         · exact absurd hr (by simp)
     · split at h
       · simp only [Except.ok.injEq, Option.some.injEq, Prod.mk.injEq] at h
         rw [← h.1]
         exact ⟨by show (-1 : Int) ≤ 0; decide, by show (0 : Int) ≤ 16777216; decide⟩
       · exact absurd h (by simp)
theorem item_ch {p : Pt} (hg : ∀ i, 0 ≤ p.g i ∧ p.g i ≤ 255) {a : Nat} {t : Tk} {b : Nat} (ha : a ≤ p.n) (h : p.item a = .ok (t, b)) : Ch t := by
 obtain ⟨_, q2, q3, q4⟩ := char_pure hg ha
 have hv := char_val hg ha
 have hv2 := char_val hg q3
 unfold Pt.item at h
 split at h
 · exact absurd h (by simp)
 · split at h
   · exact absurd h (by simp)
   · rename_i r hr
     simp only [Except.ok.injEq] at h
     rw [h] at hr
     unfold Pt.posix at hr
     simp only at hr
     repeat' split at hr
     all_goals first
       | (simp only [Except.ok.injEq, Option.some.injEq, Prod.mk.injEq] at hr
          rw [← hr.1]
          exact ⟨by show (-1 : Int) ≤ 0; decide, by show (0 : Int) ≤ 16777216; decide⟩)
       | exact absurd hr (by simp)
   · split at h
     · unfold Pt.classEsc at h
       have q5 := (char_pure hg q3).2.2.1
       split at h
       · exact absurd h (by simp)
       · split at h
         · exact absurd h (by simp)
         · rename_i r hr
           simp only [Except.ok.injEq] at h
           rw [h] at hr
           exact common_ch q5 hr
         · repeat' split at h
           all_goals first
             | (simp only [Except.ok.injEq, Prod.mk.injEq] at h
                rw [← h.1]
                exact ⟨by simp only; omega, by simp only; omega⟩)
             | exact absurd h (by simp)
     · simp only [Except.ok.injEq, Prod.mk.injEq] at h
       rw [← h.1]
       exact ⟨by simp only; omega, by simp only; omega⟩
theorem members_wf {p : Pt} {t : Tk} (h : Canon t.set) (hc : Ch t) : Wf (p.members t) := by
 unfold Pt.members
 split
 · intro r hr
   simp only [List.mem_cons, List.not_mem_nil, or_false] at hr
   subst hr
   have := hc.1
   have := hc.2
   exact ⟨⟨by simp only; omega, by simp only; omega⟩, ⟨by simp only; omega, by simp only; omega⟩⟩
 · split
   · exact wf_canon (notR_canon (most_le p) h).2
   · exact wf_canon h.2
theorem items_wf {p : Pt} (hg : ∀ i, 0 ≤ p.g i ∧ p.g i ≤ 255) {a : Nat} {l : List Rg} {b : Nat} (ha : a ≤ p.n) (h : p.items a = .ok (l, b)) : Wf l := by
 unfold Pt.items at h
 split at h
 · exact absurd h (by simp)
 · rename_i c b1 hi
   have h1 := item_ch hg ha hi
   split at h
   · rename_i hd
     split at h
     · exact absurd h (by simp)
     · rename_i d b2 hj
       split at h
       · exact absurd h (by simp)
       · simp only [Except.ok.injEq, Prod.mk.injEq] at h
         have hdd : p.has [45] b1 = true := by
           unfold Pt.dash at hd
           simp only [Bool.and_eq_true] at hd
           exact hd.2.2
         have h2 := item_ch hg (has_lt hdd) hj
         rw [← h.1]
         intro r hr
         simp only [List.mem_cons, List.not_mem_nil, or_false] at hr
         subst hr
         have := h1.1
         have := h1.2
         have := h2.1
         have := h2.2
         exact ⟨⟨by simp only; omega, by simp only; omega⟩, ⟨by simp only; omega, by simp only; omega⟩⟩
   · simp only [Except.ok.injEq, Prod.mk.injEq] at h
     rw [← h.1]
     exact members_wf (item_can hi) h1
theorem wpList_append_rs {w : World} {ops : Array Oper} {rest : List Oper} {o : Oper} {a : Act} {Q : Exit → Act → World → Prop} (hgd : o.guard = none) (s x : Operand)
   (ho : o.op = .call { callee := .builtin .append, args := #[s, x], argTypes := #[28, 28] }) (base : Nat) (v : Value) (D : List Rg) (hs : a.eval s = v) (hown : OwnR w base v D)
   (b2 : Nat) (v2 : Value) (N : List Rg) (hx : a.eval x = v2) (hN : OwnR w b2 v2 N) (hlen : D.length ≤ 100000000) (hlen2 : N.length ≤ 100000000) (hbase : base ≤ w.heap.size)
   (h : ∀ v' w', OwnR w' base v' (D ++ N) → w.grownBy w' v.ownBlock → wpList Tryz.prog ops Q rest (a.put o.dst v') w') :
   wpList Tryz.prog ops Q (o :: rest) a w := by
 obtain ⟨i0, hi, hz0, hz1, hz2⟩ := info_parts infoRange
 by_cases hE : N = []
 · subst hE
   refine wpList_append_own_none hgd s x _ ho base 43 i0 2 Tryz.underlying28 hi v _ _ hs hown.1 (hx.trans (hN.2 rfl)) ?_
   refine h v w ?_ ⟨rfl, rfl, rfl, Nat.le_refl _, fun _ _ _ => rfl⟩
   simpa using hown
 · obtain ⟨hl, ⟨_, h0⟩ | ⟨g, cap, cur, rfl, hg0, hgb, hc1, hc2, hc3, hc4⟩⟩ := hN.1
   · exact absurd (List.length_eq_zero_iff.1 h0) hE
   · have hcells := World.ownsRow.cells hN.1 (g := g) rfl
     refine wpList_append_own_at w hgd s x _ ho base 43 i0 (.agg #[.int .i64 0, .int .i64 0]) 2 16 Tryz.underlying28 hi hz0 hz1 hz2 rfl (by decide) v _ _ hs hown.1 ⟨g, 0, none⟩ N.length cap (rcs N) hx hl hcells ?_ (by unfold maxLen; omega) (by omega) hbase ?_
     · intro u hu
       unfold rcs at hu
       obtain ⟨r, _, hr⟩ := List.mem_flatMap.1 hu
       simp only [List.mem_cons, List.not_mem_nil, or_false] at hr
       rcases hr with rfl | rfl <;> rfl
     · intro v' w' hown' hgr hnil _
       refine h v' w' ⟨?_, fun hD => ?_⟩ hgr
       · have e : rcs (D ++ N) = rcs D ++ rcs N := by simp [rcs]
         rw [e]
         simpa using hown'
       · exact absurd (List.append_eq_nil_iff.1 hD).2 hE
theorem lx_grown {C : Cf} {w w2 w3 : World} {a0 f0 a f : Nat} {T : Rw} {v : Value} {D : List Rg} (h : LX C w a0 f0 T) (h2 : LX C w2 a f T) (hk : Kept w.heap.size C.L w w2) (ho : OwnR w2 w.heap.size v D) (hg : w2.grownBy w3 v.ownBlock) : LX C w3 a f T ∧ Kept w.heap.size C.L w w3 := by
 have hb : ∀ k, k < w.heap.size → w3.heap[k]? = w2.heap[k]? := fun k hk' => hg.block k (Nat.lt_of_lt_of_le hk' hk.size) fun e => by
   have := (World.ownsRow.lt ho.1 k e.symm).1
   omega
 have hk3 : Kept w.heap.size C.L w w3 := hk.trans ⟨hg.os, hg.tape, hg.output, hg.size, fun k hk' _ => hb k hk'⟩
 exact ⟨h.move hk3 h2.an h2.fn h2.tl fun _ => by rw [hb _ h.cells.lt]; exact h2.lx.1, hk3⟩
end Go.Proofs.YtkcmjcgjfjfimaaGreatDoor.tkw
end
section
namespace Go.Proofs.YtkcmjcgjfjfimaaGreatDoor.tkw
open Go Go.RowKit Go.Maps utfp utfw ucdp setp setw prp tkp
def PtOk (C : Cf) (w : World) (T : Rw) (r : List Tk × Nat) (e : Ending) (w' : World) : Prop := e = .returned (.tuple #[]) ∧ ∃ f' v', LX C w' r.2 f' ⟨T.l ++ r.1, v'⟩ ∧ Kept C.base C.L w w'
theorem ptOk_put {C : Cf} {w w1 w2 : World} {a f : Nat} {T : Rw} {t : Tk} {e : Ending} (h : RetB C w1 (.tuple #[]) a f (T.l ++ [lay t f a]) e w2) (hk : Kept C.base C.L w w1) : PtOk C w T ([lay t f a], a) e w2 := by
 obtain ⟨h1, ⟨tv, h2⟩, h3⟩ := h
 exact ⟨h1, f, tv, h2, hk.trans h3⟩
def ClRel (C : Cf) (w : World) (T : Rw) (a0 : Nat) (R : R (List Rg × Nat)) (v : Value) (wr : World) : Prop :=
 ∃ l b f' k, a0 ≤ b ∧ l.length ≤ 94 * b ∧ Wf l ∧ C.p.n + 1 - b ≤ k ∧ C.p.more k l b = R ∧ OwnR wr w.heap.size v l ∧ LX C wr b f' T ∧ Kept w.heap.size C.L w wr
theorem more_err {p : Pt} {l : List Rg} {b k : Nat} {x : Int × Int} (hb : b ≤ p.n) (hk : p.n + 1 - b ≤ k) (h1 : p.has [93] b = false) (hi : p.items b = .error x) : p.more k l b = .error x := by
 obtain ⟨j, rfl⟩ : ∃ j, k = j + 1 := ⟨k - 1, by omega⟩
 rw [Pt.more, if_neg (by simp [h1]), hi]
theorem more_step {p : Pt} {l m : List Rg} {b b' k : Nat} (hb : b ≤ p.n) (hk : p.n + 1 - b ≤ k) (hlt : b < b') (h1 : p.has [93] b = false) (hi : p.items b = .ok (m, b')) : ∃ j, p.n + 1 - b' ≤ j ∧ p.more k l b = p.more j (l ++ m) b' := by
 obtain ⟨j, rfl⟩ : ∃ j, k = j + 1 := ⟨k - 1, by omega⟩
 refine ⟨j, by omega, ?_⟩
 rw [Pt.more, if_neg (by simp [h1]), hi]
theorem more_end {p : Pt} {l : List Rg} {b k : Nat} (hb : b ≤ p.n) (hk : p.n + 1 - b ≤ k) (h1 : p.has [93] b = true) : p.more k l b = .ok (l, b + 1) := by
 obtain ⟨j, rfl⟩ : ∃ j, k = j + 1 := ⟨k - 1, by omega⟩
 rw [Pt.more, if_pos h1]
theorem wf_two {A B : List Rg} (h1 : Wf A) (h2 : Wf B) : Wf (A ++ B) := fun r hr => (List.mem_append.1 hr).elim (h1 r) (h2 r)
set_option maxRecDepth 100000 in
set_option maxHeartbeats 4000000 in
theorem class_0 {C : Cf} {w : World} {a f : Nat} {T : Rw} (h : LX C w a f T) (hT : T.length + 1 ≤ a) (hneg : C.p.has [94] a = false) : Calls Tryz.prog 37 #[.pointer (some ⟨C.L, 0, none⟩)] w (RP C w (tkp.one f (C.p.cls a)) (PtOk C w T)) := by
 have ha0 : a ≤ C.p.n := by
   have := h.an
   skip
   omega
 have hs : C.p.cls a = (match C.p.items a with
   | .error e => .error e
   | .ok (l, b) => match C.p.more (C.p.n + 1 - b) l b with
     | .error e => .error e
     | .ok (l', b') => .ok ({ kind := 2, set := normR C.p.most l', neg := false }, b')) := by
   unfold Pt.cls
   rw [hneg]
   rfl
 have HN := Lib.hid hneg
 have hg := h.sl.1
 have hn := h.ok.n
 have hL := h.cells.lt
 have d2 := h.cells.c2
 have fn := h.fn
 have hk0 := Kept.refl w.heap.size C.L w
 have hB := h.hb
 cases hi : C.p.items a with
 | error x =>
   rw [hi] at hs
   have HS := Lib.hid (show tkp.one f (C.p.cls a) = .error x by rw [hs]; rfl)
   have HI := Lib.hid hi
   clear hs hi
   go_enter Tryz.func37, Tryz.ntmps37
   go_wp2_with fail
   refine Calls.mono (take_n h ⟨#[94]⟩ [94] rfl (by decide) HN.out) ?_
   rintro e1 w1 ⟨rfl, hx1, hkn⟩
   have hk1 := hk0.then hkn
   clear hkn
   go_wp2_with fail
   refine Calls.mono (items_any hx1) ?_
   intro e2 w2 hr
   rw [HI.out] at hr
   obtain ⟨rfl, hkn⟩ := hr
   exact ⟨rfl, rp_err HS.out ⟨rfl, (hk1.mono hB).trans hkn⟩⟩
 | ok r =>
   obtain ⟨l, b⟩ := r
   rw [hi] at hs
   simp only at hs
   have hgt := items_gt hg ha0 hi
   have hlen := items_len hi
   have hwf := items_wf hg ha0 hi
   obtain ⟨R, hR⟩ : ∃ R, C.p.more (C.p.n + 1 - b) l b = R := ⟨_, rfl⟩
   rw [hR] at hs
   have HS := Lib.hid hs
   have HI := Lib.hid hi
   have HR := Lib.hid hR
   have HW := Lib.hid hwf
   have HX := Lib.hid h
   have HG := Lib.hid hg
   clear hs hi hR hwf h hg
   go_enter Tryz.func37, Tryz.ntmps37
   go_wp2_with fail
   refine Calls.mono (take_n HX.out ⟨#[94]⟩ [94] rfl (by decide) HN.out) ?_
   rintro e1 w1 ⟨rfl, hx1, hkn⟩
   have hk1 := hk0.then hkn
   clear hkn
   go_wp2_with fail
   refine Calls.mono (items_any hx1) ?_
   intro e2 w2 hr
   rw [HI.out] at hr
   obtain ⟨f2, v2, rfl, ho, hx2, hkn⟩ := hr
   have hk2 := hk1.then hkn
   have HO := Lib.hid (ownR_base ho hk1.size)
   obtain ⟨x2, y2, rfl⟩ := ownR_len ho
   have HX2 := Lib.hid hx2
   have HK2 := Lib.hid hk2
   clear hkn ho d2 hx2 hk2 hx1 hk1 hk0
   go_wp2_with fail
   go_loopw [4] (fun v wr => ClRel C w T a R v wr) (fun _ wr => C.p.n - (intOf ((wr.cell? ⟨C.L, 1, none⟩).getD (.int .i64 0))).toNat)
   case atStart => exact ⟨l, b, f2, C.p.n + 1 - b, by omega, by omega, HW.out, Nat.le_refl _, HR.out, HO.out, HX2.out, HK2.out⟩
   case round =>
     obtain ⟨l', b', f', k, q1, q2, hw, hk, hm, ho, hx, hkp⟩ := hrel
     obtain ⟨x3, y3, rfl⟩ := ownR_len ho
     have d1 := hx.cells.c1
     have an := hx.an
     have tl := hx.tl
     have HM := Lib.hid (show (intOf ((wr.cell? ⟨C.L, 1, none⟩).getD (.int .i64 0))).toNat = b' by rw [d1]; exact Int.toNat_natCast _)
     have HXR := Lib.hid hx
     have HKP := Lib.hid hkp
     have HO := Lib.hid ho
     have HW := Lib.hid hw
     clear d1 ho hkp hw
     cases h9 : C.p.has [93] b' with
     | true =>
       have HRR := Lib.hid ((more_end an hk h9).symm.trans hm)
       have HSS := Lib.hid (show tkp.one f (C.p.cls a) = .ok ([lay { kind := 2, set := normR C.p.most l', neg := false } f (b' + 1)], b' + 1) by rw [HS.out, ← HRR.out]; rfl)
       have H9 := Lib.hid h9
       clear h9 hm hx
       go_wp2_with fail
       refine Calls.mono (take_y HXR.out ⟨#[93]⟩ [93] 1 rfl rfl (by decide) H9.out) ?_
       rintro e5 w5 ⟨rfl, hx5, hkn⟩
       have e2 := hx5.cells.c2
       have fz := hx5.cells.fz 2
       have HK6 := Lib.hid (hkn.setCell 2 (.int .i64 f))
       have HX6 := Lib.hid (hx5.from fn)
       clear hx5 hkn
       go_wp2_with fail
       have HRS := Lib.hid (rs_own (ownR_kept HO.out HK6.out hL) HW.out)
       refine Calls.mono (set_any HX6.out (.slice x3 l'.length y3) l' false HRS.out (by omega)) ?_
       rintro e7 w7 ⟨v7, rfl, ho7, hx7, hkn⟩
       obtain ⟨x7, y7, rfl⟩ := ownR_len ho7
       have HK7 := Lib.hid ((HKP.out.then HK6.out).then hkn)
       have HO7 := Lib.hid (ownR_base ho7 (b' := C.base) (Nat.le_trans hB (HKP.out.then HK6.out).size))
       have HX7 := Lib.hid hx7
       clear hkn ho7 hx7 e2 fz
       go_wp2_with fail
       refine Calls.mono (put_any HX7.out (.slice x7 (normR C.p.most l').length y7) { kind := 2, set := normR C.p.most l', neg := false } HO7.out (by omega)) ?_
       intro e8 w8 hr
       have HP := Lib.hid (ptOk_put hr (HK7.out.mono hB))
       obtain ⟨rfl, _, _⟩ := hr
       go_wp2_with fail
       go_end0
       exact rp_ok HSS.out HP.out
     | false =>
       have H9 := Lib.hid h9
       cases hi2 : C.p.items b' with
       | error x =>
         have HSS := Lib.hid (show tkp.one f (C.p.cls a) = .error x by rw [HS.out, ← hm, more_err an hk h9 hi2]; rfl)
         have HI2 := Lib.hid hi2
         clear h9 hi2 hm hx
         go_wp2_with fail
         refine Calls.mono (take_n HXR.out ⟨#[93]⟩ [93] rfl (by decide) H9.out) ?_
         rintro e5 w5 ⟨rfl, hx5, hkn5⟩
         go_wp2_with fail
         refine Calls.mono (items_any hx5) ?_
         intro e6 w6 hr
         rw [HI2.out] at hr
         obtain ⟨rfl, hkn⟩ := hr
         exact ⟨rfl, rp_err HSS.out ⟨rfl, ((HKP.out.then hkn5).mono hB).trans hkn⟩⟩
       | ok r =>
         obtain ⟨m, b2⟩ := r
         have hgt2 := items_gt HG.out an hi2
         have hl2 := items_len hi2
         obtain ⟨j, hj1, hj2⟩ := more_step (l := l') an hk hgt2 h9 hi2
         have HJ := Lib.hid (hj2.symm.trans hm)
         have HWF := Lib.hid (wf_two HW.out (items_wf HG.out an hi2))
         have HI2 := Lib.hid hi2
         clear h9 hi2 hm hx hj2
         go_wp2_with fail
         refine Calls.mono (take_n HXR.out ⟨#[93]⟩ [93] rfl (by decide) H9.out) ?_
         rintro e5 w5 ⟨rfl, hx5, hkn5⟩
         go_wp2_with fail
         refine Calls.mono (items_any hx5) ?_
         intro e6 w6 hr
         rw [HI2.out] at hr
         obtain ⟨f6, v6, rfl, ho6, hx6, hkn6⟩ := hr
         have HK6 := Lib.hid (HKP.out.then (hkn5.then hkn6))
         have HO6 := Lib.hid (ownR_kept HO.out (hkn5.then hkn6) hL)
         have HN6 := Lib.hid ho6
         have HX6 := Lib.hid hx6
         obtain ⟨x6, y6, rfl⟩ := ownR_len ho6
         clear hx5 hkn5 ho6 hx6 hkn6
         go_wp2_with (at_builtin; refine wpList_append_rs rfl _ _ rfl w.heap.size (.slice x3 l'.length y3) l' rfl HO6.out _ (.slice x6 m.length y6) m rfl HN6.out (by omega) (by omega) HK6.out.size ?_)
         intro v7 w7 ho7 hgr
         obtain ⟨hx7, hk7⟩ := lx_grown HX.out HX6.out HK6.out HO6.out hgr
         have HX7 := Lib.hid hx7
         have HK7 := Lib.hid hk7
         have HO7 := Lib.hid ho7
         have an2 := hx7.an
         have HM2 := Lib.hid (show (intOf ((w7.cell? ⟨C.L, 1, none⟩).getD (.int .i64 0))).toNat = b2 by rw [hx7.cells.c1]; exact Int.toNat_natCast _)
         clear hx7 hk7 ho7 hgr
         go_wp2_with fail
         go_roundw
         case rel => exact ⟨l' ++ m, b2, f6, j, by omega, by rw [List.length_append]; omega, HWF.out, hj1, HJ.out, HO7.out, HX7.out, HK7.out⟩
         case measure =>
           rw [HM.out, HM2.out]
           omega
set_option maxRecDepth 100000 in
set_option maxHeartbeats 4000000 in
theorem class_1 {C : Cf} {w : World} {a f : Nat} {T : Rw} (h : LX C w a f T) (hT : T.length + 1 ≤ a) (hneg : C.p.has [94] a = true) : Calls Tryz.prog 37 #[.pointer (some ⟨C.L, 0, none⟩)] w (RP C w (tkp.one f (C.p.cls a)) (PtOk C w T)) := by
 have ha0 : (a + 1) ≤ C.p.n := by
   have := h.an
   have := has_lt hneg
   omega
 have hs : C.p.cls a = (match C.p.items (a + 1) with
   | .error e => .error e
   | .ok (l, b) => match C.p.more (C.p.n + 1 - b) l b with
     | .error e => .error e
     | .ok (l', b') => .ok ({ kind := 2, set := normR C.p.most l', neg := true }, b')) := by
   unfold Pt.cls
   rw [hneg]
   rfl
 have HN := Lib.hid hneg
 have hg := h.sl.1
 have hn := h.ok.n
 have hL := h.cells.lt
 have d2 := h.cells.c2
 have fn := h.fn
 have hk0 := Kept.refl w.heap.size C.L w
 have hB := h.hb
 cases hi : C.p.items (a + 1) with
 | error x =>
   rw [hi] at hs
   have HS := Lib.hid (show tkp.one f (C.p.cls a) = .error x by rw [hs]; rfl)
   have HI := Lib.hid hi
   clear hs hi
   go_enter Tryz.func37, Tryz.ntmps37
   go_wp2_with fail
   refine Calls.mono (take_y h ⟨#[94]⟩ [94] 1 rfl rfl (by decide) HN.out) ?_
   rintro e1 w1 ⟨rfl, hx1, hkn⟩
   have hk1 := hk0.then hkn
   clear hkn
   go_wp2_with fail
   refine Calls.mono (items_any hx1) ?_
   intro e2 w2 hr
   rw [HI.out] at hr
   obtain ⟨rfl, hkn⟩ := hr
   exact ⟨rfl, rp_err HS.out ⟨rfl, (hk1.mono hB).trans hkn⟩⟩
 | ok r =>
   obtain ⟨l, b⟩ := r
   rw [hi] at hs
   simp only at hs
   have hgt := items_gt hg ha0 hi
   have hlen := items_len hi
   have hwf := items_wf hg ha0 hi
   obtain ⟨R, hR⟩ : ∃ R, C.p.more (C.p.n + 1 - b) l b = R := ⟨_, rfl⟩
   rw [hR] at hs
   have HS := Lib.hid hs
   have HI := Lib.hid hi
   have HR := Lib.hid hR
   have HW := Lib.hid hwf
   have HX := Lib.hid h
   have HG := Lib.hid hg
   clear hs hi hR hwf h hg
   go_enter Tryz.func37, Tryz.ntmps37
   go_wp2_with fail
   refine Calls.mono (take_y HX.out ⟨#[94]⟩ [94] 1 rfl rfl (by decide) HN.out) ?_
   rintro e1 w1 ⟨rfl, hx1, hkn⟩
   have hk1 := hk0.then hkn
   clear hkn
   go_wp2_with fail
   refine Calls.mono (items_any hx1) ?_
   intro e2 w2 hr
   rw [HI.out] at hr
   obtain ⟨f2, v2, rfl, ho, hx2, hkn⟩ := hr
   have hk2 := hk1.then hkn
   have HO := Lib.hid (ownR_base ho hk1.size)
   obtain ⟨x2, y2, rfl⟩ := ownR_len ho
   have HX2 := Lib.hid hx2
   have HK2 := Lib.hid hk2
   clear hkn ho d2 hx2 hk2 hx1 hk1 hk0
   go_wp2_with fail
   go_loopw [4] (fun v wr => ClRel C w T (a + 1) R v wr) (fun _ wr => C.p.n - (intOf ((wr.cell? ⟨C.L, 1, none⟩).getD (.int .i64 0))).toNat)
   case atStart => exact ⟨l, b, f2, C.p.n + 1 - b, by omega, by omega, HW.out, Nat.le_refl _, HR.out, HO.out, HX2.out, HK2.out⟩
   case round =>
     obtain ⟨l', b', f', k, q1, q2, hw, hk, hm, ho, hx, hkp⟩ := hrel
     obtain ⟨x3, y3, rfl⟩ := ownR_len ho
     have d1 := hx.cells.c1
     have an := hx.an
     have tl := hx.tl
     have HM := Lib.hid (show (intOf ((wr.cell? ⟨C.L, 1, none⟩).getD (.int .i64 0))).toNat = b' by rw [d1]; exact Int.toNat_natCast _)
     have HXR := Lib.hid hx
     have HKP := Lib.hid hkp
     have HO := Lib.hid ho
     have HW := Lib.hid hw
     clear d1 ho hkp hw
     cases h9 : C.p.has [93] b' with
     | true =>
       have HRR := Lib.hid ((more_end an hk h9).symm.trans hm)
       have HSS := Lib.hid (show tkp.one f (C.p.cls a) = .ok ([lay { kind := 2, set := normR C.p.most l', neg := true } f (b' + 1)], b' + 1) by rw [HS.out, ← HRR.out]; rfl)
       have H9 := Lib.hid h9
       clear h9 hm hx
       go_wp2_with fail
       refine Calls.mono (take_y HXR.out ⟨#[93]⟩ [93] 1 rfl rfl (by decide) H9.out) ?_
       rintro e5 w5 ⟨rfl, hx5, hkn⟩
       have e2 := hx5.cells.c2
       have fz := hx5.cells.fz 2
       have HK6 := Lib.hid (hkn.setCell 2 (.int .i64 f))
       have HX6 := Lib.hid (hx5.from fn)
       clear hx5 hkn
       go_wp2_with fail
       have HRS := Lib.hid (rs_own (ownR_kept HO.out HK6.out hL) HW.out)
       refine Calls.mono (set_any HX6.out (.slice x3 l'.length y3) l' true HRS.out (by omega)) ?_
       rintro e7 w7 ⟨v7, rfl, ho7, hx7, hkn⟩
       obtain ⟨x7, y7, rfl⟩ := ownR_len ho7
       have HK7 := Lib.hid ((HKP.out.then HK6.out).then hkn)
       have HO7 := Lib.hid (ownR_base ho7 (b' := C.base) (Nat.le_trans hB (HKP.out.then HK6.out).size))
       have HX7 := Lib.hid hx7
       clear hkn ho7 hx7 e2 fz
       go_wp2_with fail
       refine Calls.mono (put_any HX7.out (.slice x7 (normR C.p.most l').length y7) { kind := 2, set := normR C.p.most l', neg := true } HO7.out (by omega)) ?_
       intro e8 w8 hr
       have HP := Lib.hid (ptOk_put hr (HK7.out.mono hB))
       obtain ⟨rfl, _, _⟩ := hr
       go_wp2_with fail
       go_end0
       exact rp_ok HSS.out HP.out
     | false =>
       have H9 := Lib.hid h9
       cases hi2 : C.p.items b' with
       | error x =>
         have HSS := Lib.hid (show tkp.one f (C.p.cls a) = .error x by rw [HS.out, ← hm, more_err an hk h9 hi2]; rfl)
         have HI2 := Lib.hid hi2
         clear h9 hi2 hm hx
         go_wp2_with fail
         refine Calls.mono (take_n HXR.out ⟨#[93]⟩ [93] rfl (by decide) H9.out) ?_
         rintro e5 w5 ⟨rfl, hx5, hkn5⟩
         go_wp2_with fail
         refine Calls.mono (items_any hx5) ?_
         intro e6 w6 hr
         rw [HI2.out] at hr
         obtain ⟨rfl, hkn⟩ := hr
         exact ⟨rfl, rp_err HSS.out ⟨rfl, ((HKP.out.then hkn5).mono hB).trans hkn⟩⟩
       | ok r =>
         obtain ⟨m, b2⟩ := r
         have hgt2 := items_gt HG.out an hi2
         have hl2 := items_len hi2
         obtain ⟨j, hj1, hj2⟩ := more_step (l := l') an hk hgt2 h9 hi2
         have HJ := Lib.hid (hj2.symm.trans hm)
         have HWF := Lib.hid (wf_two HW.out (items_wf HG.out an hi2))
         have HI2 := Lib.hid hi2
         clear h9 hi2 hm hx hj2
         go_wp2_with fail
         refine Calls.mono (take_n HXR.out ⟨#[93]⟩ [93] rfl (by decide) H9.out) ?_
         rintro e5 w5 ⟨rfl, hx5, hkn5⟩
         go_wp2_with fail
         refine Calls.mono (items_any hx5) ?_
         intro e6 w6 hr
         rw [HI2.out] at hr
         obtain ⟨f6, v6, rfl, ho6, hx6, hkn6⟩ := hr
         have HK6 := Lib.hid (HKP.out.then (hkn5.then hkn6))
         have HO6 := Lib.hid (ownR_kept HO.out (hkn5.then hkn6) hL)
         have HN6 := Lib.hid ho6
         have HX6 := Lib.hid hx6
         obtain ⟨x6, y6, rfl⟩ := ownR_len ho6
         clear hx5 hkn5 ho6 hx6 hkn6
         go_wp2_with (at_builtin; refine wpList_append_rs rfl _ _ rfl w.heap.size (.slice x3 l'.length y3) l' rfl HO6.out _ (.slice x6 m.length y6) m rfl HN6.out (by omega) (by omega) HK6.out.size ?_)
         intro v7 w7 ho7 hgr
         obtain ⟨hx7, hk7⟩ := lx_grown HX.out HX6.out HK6.out HO6.out hgr
         have HX7 := Lib.hid hx7
         have HK7 := Lib.hid hk7
         have HO7 := Lib.hid ho7
         have an2 := hx7.an
         have HM2 := Lib.hid (show (intOf ((w7.cell? ⟨C.L, 1, none⟩).getD (.int .i64 0))).toNat = b2 by rw [hx7.cells.c1]; exact Int.toNat_natCast _)
         clear hx7 hk7 ho7 hgr
         go_wp2_with fail
         go_roundw
         case rel => exact ⟨l' ++ m, b2, f6, j, by omega, by rw [List.length_append]; omega, HWF.out, hj1, HJ.out, HO7.out, HX7.out, HK7.out⟩
         case measure =>
           rw [HM.out, HM2.out]
           omega
theorem class_any {C : Cf} {w : World} {a f : Nat} {T : Rw} (h : LX C w a f T) (hT : T.length + 1 ≤ a) : Calls Tryz.prog 37 #[.pointer (some ⟨C.L, 0, none⟩)] w (RP C w (tkp.one f (C.p.cls a)) (PtOk C w T)) := by
 cases h1 : C.p.has [94] a with
 | false => exact class_0 h hT h1
 | true => exact class_1 h hT h1
end Go.Proofs.YtkcmjcgjfjfimaaGreatDoor.tkw
end
