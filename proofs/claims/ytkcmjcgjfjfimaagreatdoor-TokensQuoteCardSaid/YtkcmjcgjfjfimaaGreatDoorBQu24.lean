/- Texts that TokensQuoteLaw leans on, merged: what the functions of the program answer. -/
import Derived.BigQuiet
import Derived.Carry
import Derived.ChangeMaps5
import Derived.Deep.DeepHandedRow
import Derived.Deep.Onto
import Derived.Defers
import Derived.KernelRfl
import Derived.Laws.Pointers
import Derived.Lib.LaidTab
import Derived.Lib.QuietBelow
import Derived.Lib.SlBytesConst
import Derived.Recover
import Derived.SizedLaws
import Derived.Stop.LaidErr
import Derived.Test.YtkcmjcgjfjfimaaGreatDoorCards
import Derived.Test.YtkcmjcgjfjfimaaGreatDoorTie
import Derived.Test.YtkcmjcgjfjfimaaGreatDoorBQu23
section
namespace Go.Proofs.YtkcmjcgjfjfimaaGreatDoor.tkw
open Go Go.RowKit Go.Maps utfp utfw ucdp setp setw prp tkp
theorem below_drw {B : Nat} (w : World) : Below B w w.drew := ⟨rfl, rfl, rfl, Nat.le_refl _, fun _ _ => rfl⟩
set_option maxRecDepth 100000 in
set_option maxHeartbeats 2000000 in
theorem catch_idle (a b c : Nat) (w : World) :
   CallsD Tryz.prog 21 #[.pointer (some ⟨a, 0, none⟩), .pointer (some ⟨b, 0, none⟩), .pointer (some ⟨c, 0, none⟩)] .returning w fun e u' w' => e = .returned (.tuple #[]) ∧ u' = .returning ∧ w' = w := by
 refine callsD_of_wpS Tryz.func21 rfl fun c₀ cs hu => ?_
 apply wpS_seq
 apply wpS_region
 simp [wpOpsS, go_sem, recoverD, hu, Tryz.ntmps21, Exit.thenS]
 refine wpS_of_wp ?_
 rw [show (#[.pointer (some ⟨a, 0, none⟩), .pointer (some ⟨b, 0, none⟩), .pointer (some ⟨c, 0, none⟩)] ++ ((Array.replicate 11 undef).setIfInBounds 2 Value.nilIface).setIfInBounds 0 Value.nilIface : Array Value) =
   #[.pointer (some ⟨a, 0, none⟩), .pointer (some ⟨b, 0, none⟩), .pointer (some ⟨c, 0, none⟩), Value.nilIface, undef, Value.nilIface, undef, undef, undef, undef, undef, undef, undef, undef] from rfl]
 go_wp2_with fail
 cases c₀
 simp_all [bodyPostS, results, Tryz.results21]
theorem assert_fault (x y : Int) (w : World) : (Instr.typeAssert (.iface 58 (.agg #[.int .i64 x, .int .i64 y])) 20 58 false).run Tryz.prog w = .ok (.agg #[.int .i64 x, .int .i64 y]) w := by kernel_rfl
set_option maxRecDepth 100000 in
set_option maxHeartbeats 2000000 in
theorem catch_pan (a b c : Nat) (x : Int × Int) (older : List PanicEntry) (w : World) (va vb vc : Value) (ha : w.cell? ⟨a, 0, none⟩ = some va) (hb : w.cell? ⟨b, 0, none⟩ = some vb) (hc : w.cell? ⟨c, 0, none⟩ = some vc)
   (fa : w.frozen? ⟨a, 0, none⟩ = false) (fb : w.frozen? ⟨b, 0, none⟩ = false) (fc : w.frozen? ⟨c, 0, none⟩ = false) (hab : a ≠ b) (hac : a ≠ c) (hbc : b ≠ c) :
   CallsD Tryz.prog 21 #[.pointer (some ⟨a, 0, none⟩), .pointer (some ⟨b, 0, none⟩), .pointer (some ⟨c, 0, none⟩)] (.panicking ({ v := fltV x, recovered := false } :: older)) w fun e u' w' =>
     e = .returned (.tuple #[]) ∧ u' = .panicking ({ v := fltV x, recovered := true } :: older) ∧ ∃ w1, Below w.heap.size w w1 ∧ w' = ((w1.setCell ⟨a, 0, none⟩ (.slice none 0 0)).setCell ⟨b, 0, none⟩ (.int .i64 x.1)).setCell ⟨c, 0, none⟩ (.int .i64 x.2) := by
 refine callsD_of_wpS Tryz.func21 rfl fun c₀ cs hu => ?_
 apply wpS_seq
 apply wpS_region
 simp [wpOpsS, go_sem, recoverD, hu, Tryz.ntmps21, Exit.thenS]
 refine wpS_of_wp ?_
 rw [show (#[.pointer (some ⟨a, 0, none⟩), .pointer (some ⟨b, 0, none⟩), .pointer (some ⟨c, 0, none⟩)] ++ ((Array.replicate 11 undef).setIfInBounds 2 (fltV x)).setIfInBounds 0 (fltV x) : Array Value) =
   #[.pointer (some ⟨a, 0, none⟩), .pointer (some ⟨b, 0, none⟩), .pointer (some ⟨c, 0, none⟩), fltV x, undef, fltV x, undef, undef, undef, undef, undef, undef, undef, undef] from rfl]
 unfold fltV
 obtain ⟨x1, x2⟩ := x
 have hta := fun w => assert_fault x1 x2 w
 have k1 := below_al w (.cells #[.int .i64 x1, .int .i64 x2] 58)
 have f0 : (w.alloc (.cells #[.int .i64 x1, .int .i64 x2] 58)).cell? ⟨w.heap.size, 0, none⟩ = some (.int .i64 x1) := by simp
 have f1 : (w.alloc (.cells #[.int .i64 x1, .int .i64 x2] 58)).cell? ⟨w.heap.size, 1, none⟩ = some (.int .i64 x2) := by simp
 have a1 := below_cell k1 ha
 have b1 := below_cell k1 hb
 have c1 := below_cell k1 hc
 have la := cell_lt ha
 have lb := cell_lt hb
 have lc := cell_lt hc
 simp only at la lb lc
 have fa1 : (w.alloc (.cells #[.int .i64 x1, .int .i64 x2] 58)).frozen? ⟨a, 0, none⟩ = false := (World.frozen?_of_block (k1.block a la)).trans fa
 have fb1 : (w.alloc (.cells #[.int .i64 x1, .int .i64 x2] 58)).frozen? ⟨b, 0, none⟩ = false := (World.frozen?_of_block (k1.block b lb)).trans fb
 have fc1 : (w.alloc (.cells #[.int .i64 x1, .int .i64 x2] 58)).frozen? ⟨c, 0, none⟩ = false := (World.frozen?_of_block (k1.block c lc)).trans fc
 have K1 := Lib.hid k1
 go_wp2_with fail
 clear ha hb hc fa fb fc k1
 obtain ⟨M, hM⟩ : ∃ M, w.heap.size = M := ⟨_, rfl⟩
 have nMa : M ≠ a := by omega
 have nMb : M ≠ b := by omega
 have nMc : M ≠ c := by omega
 rw [hM] at f0 f1 ⊢
 clear hM
 generalize w.alloc _ = w1 at *
 go_region
 go_wp2_with fail
 cases c₀
 simp_all [bodyPostS, results, Tryz.results21]
 exact ⟨w1.drew, K1.out.trans (below_drw _), rfl⟩
structure Glo (w0 : World) : Prop where
 tabs : Tabs w0
 er : ∃ t x, w0.cell? ⟨8, 0, none⟩ = some (.iface t x)
 tabS : ∀ i, i < 94 → w0.cell? ⟨7, i, none⟩ = some (.int .i64 (st i))
 gr : GlobAt w0 3 groupsC
 lo : GlobAt w0 5 looksC
 na : NaAt w0
 ve : VeAt w0
def ReadB (w0 : World) (r : R (List Tk)) (e : Ending) (w' : World) : Prop := Below w0.heap.size w0 w' ∧ match r with
 | .error x => e = .returned (.tuple #[.slice none 0 0, .int .i64 x.1, .int .i64 x.2])
 | .ok T => ∃ v, e = .returned (.tuple #[v, .int .i64 0, .int .i64 0]) ∧ TokRow w' w0.heap.size v T
theorem tokRow_base {w : World} {b b' : Nat} {v : Value} {T : List Tk} (h : TokRow w b v T) (hb : b' ≤ b) : TokRow w b' v T := by
 obtain ⟨l, h1, h2, h3⟩ := h
 exact ⟨l, h1, fun p hp => ⟨World.ownsRow.mono (h2 p hp).1 hb, (h2 p hp).2⟩, World.ownsRow.mono h3 hb⟩
def RdRel (C : Cf) (w : World) (R : R (List Tk)) (wr : World) : Prop :=
 ∃ k b f' T v, C.p.n < b + k ∧ C.p.read k T b = R ∧ LX C wr b f' ⟨T, v⟩ ∧ Kept C.base C.L w wr
set_option maxRecDepth 100000 in
set_option maxHeartbeats 4000000 in
theorem read_any {w0 w : World} {L m1 m2 m3 : Nat} {pv : Value} {p : Pt} (hf : Fresh w0 w L m1 m2 m3 pv p) (hb : Below w0.heap.size w0 w) (hs : Sl w0 pv p.n p.g) (hn : p.n ≤ 1000) (hG : Glo w0) :
   Calls Tryz.prog 12 #[.pointer (some ⟨L, 0, none⟩)] w (ReadB w0 (p.read (p.n + 1) [] 0)) := by
 obtain ⟨R, hR⟩ : ∃ R, p.read (p.n + 1) [] 0 = R := ⟨_, rfl⟩
 rw [hR]
 have hmf : ∀ (fn : Fn) (first cap : Array Value) (w : World), (Instr.makeFunc fn first cap).run Tryz.prog w = .ok (.func fn first cap) w := fun _ _ _ _ => rfl
 have HR := Lib.hid hR
 clear hR
 have hw3 : ∃ w3, w3 = ((w.alloc (.cells #[.slice none 0 0] 24)).alloc (.cells #[.int .i64 0] 25)).alloc (.cells #[.int .i64 0] 3) := ⟨_, rfl⟩
 obtain ⟨w3, hw3⟩ := hw3
 have hs3 : w3.heap.size = w.heap.size + 3 := by rw [hw3]; simp
 have hb3 : Below w.heap.size w w3 := by
   rw [hw3]
   exact ((below_al w _).alloc (by simp) _).alloc (by simp; omega) _
 have r2 : w3.cell? ⟨w.heap.size, 0, none⟩ = some (.slice none 0 0) := by rw [hw3]; simp [go_sem]
 have r3 : w3.cell? ⟨w.heap.size + 1, 0, none⟩ = some (.int .i64 0) := by rw [hw3]; simp [go_sem]
 have r4 : w3.cell? ⟨w.heap.size + 1 + 1, 0, none⟩ = some (.int .i64 0) := by rw [hw3]; simp [go_sem]
 have z2 : w3.frozen? ⟨w.heap.size, 0, none⟩ = false := by rw [hw3]; simp [go_sem]
 have z3 : w3.frozen? ⟨w.heap.size + 1, 0, none⟩ = false := by rw [hw3]; simp [go_sem]
 have z4 : w3.frozen? ⟨w.heap.size + 1 + 1, 0, none⟩ = false := by rw [hw3]; simp [go_sem]
 have HW := Lib.hid hw3
 have hx : ∃ C : Cf, C.w0 = w0 ∧ C.L = L ∧ C.base = w.heap.size + 3 ∧ C.p = p ∧ LX C w3 0 0 ⟨[], .slice none 0 0⟩ := by
   obtain ⟨q1, hm1⟩ := hf.e1
   obtain ⟨q2, hm2⟩ := hf.e2
   obtain ⟨q3, hm3⟩ := hf.e3
   have x1 := hf.b1
   have x2 := hf.b2
   have x3 := hf.b3
   have xL := hf.bL
   obtain ⟨y1, y2, y3⟩ := hf.ne
   refine ⟨{ w0 := w0, L := L, base := w.heap.size + 3, pv := pv, p := p, m1 := m1, m2 := m2, m3 := m3 }, rfl, rfl, rfl, rfl, ?_⟩
   refine ⟨⟨hs, hn, hG.tabs, hG.er, hG.tabS, hG.gr, ?_, hG.lo, ?_, xL.1, ?_, ⟨?_, y1⟩, ⟨?_, y2⟩, ⟨?_, y3⟩⟩, hb.trans (hb3.mono hb.size), ⟨?_, [], rfl, (by intro p hp; cases hp), World.ownsRow_nil _ _ _ _⟩, ⟨q1, mapI_below hm1 hb3⟩, ⟨q2, mapI_below hm2 hb3⟩, ⟨q3, mapI_below hm3 hb3⟩, ?_, Nat.zero_le _, Nat.zero_le _, Nat.le_refl _⟩
   · obtain ⟨_, fr, e⟩ := hG.na
     exact fun i v hi => by
       rw [cell_of_row _ _ _ _ _ _ e]
       show namingsC.toArray[i]? = some v
       simpa using hi
   · obtain ⟨_, fr, e⟩ := hG.ve
     exact fun i v hi => by
       rw [cell_of_row _ _ _ _ _ _ e]
       show verbsC.toArray[i]? = some v
       simpa using hi
   · show L < w.heap.size + 3
     omega
   · show m1 < w.heap.size + 3
     omega
   · show m2 < w.heap.size + 3
     omega
   · show m3 < w.heap.size + 3
     omega
   · show w3.heap[L]? = _
     rw [hb3.block L xL.2]
     exact hf.lx
   · show w.heap.size + 3 ≤ _
     rw [hs3]
     exact Nat.le_refl _
 obtain ⟨C, rfl, rfl, hCb, rfl, hx⟩ := hx
 have HX := Lib.hid hx
 have HG := Lib.hid hG
 have hLn : C.L < w.heap.size := hf.bL.2
 have h0s := hb.size
 have HB := Lib.hid hb
 have HB3 := Lib.hid hb3
 clear hx hf hb hb3 hs hw3 hG
 go_enter_defers Tryz.func12, Tryz.ntmps12
 go_wp2_with fail
 rw [← HW.out]
 obtain ⟨N, hN⟩ : ∃ N, w.heap.size = N := ⟨_, rfl⟩
 rw [hN] at r2 r3 r4 z2 z3 z4 hCb hLn h0s hs3 ⊢
 go_loopw [6, 7, 8, 9, 10] (fun _ _ _ _ _ wr => RdRel C w3 R wr) (fun _ _ _ _ _ wr => C.p.n - (intOf ((wr.cell? ⟨C.L, 1, none⟩).getD (.int .i64 0))).toNat)
 case atStart => exact ⟨C.p.n + 1, 0, 0, [], _, by omega, HR.out, HX.out, Kept.refl _ _ _⟩
 case round =>
   obtain ⟨k, b, f', T, v, hk, hr, hx, hkp⟩ := hrel
   have an := hx.an
   have HM := Lib.hid (show (intOf ((wr.cell? ⟨C.L, 1, none⟩).getD (.int .i64 0))).toNat = b by rw [hx.cells.c1]; exact Int.toNat_natCast _)
   have hsl : ∃ a n c, v = .slice a n c := by
     obtain ⟨l0, _, _, hl3⟩ := hx.lx.2
     rcases hl3.2 with ⟨h, _⟩ | ⟨g, cap, cur, h, _⟩ <;> exact ⟨_, _, _, h⟩
   obtain ⟨va, vn, vc, rfl⟩ := hsl
   have c9 : wr.cell? ⟨C.L, 9, none⟩ = some (.slice va vn vc) := by rw [cell_of_row _ _ _ _ _ _ hx.lx.1]; rfl
   have s2 : wr.cell? ⟨N, 0, none⟩ = some (.slice none 0 0) := (hkp.cell (a := ⟨N, 0, none⟩) (by show N < C.base; omega) (by show N ≠ C.L; omega)).trans r2
   have s3 : wr.cell? ⟨N + 1, 0, none⟩ = some (.int .i64 0) := (hkp.cell (a := ⟨N + 1, 0, none⟩) (by show N + 1 < C.base; omega) (by show N + 1 ≠ C.L; omega)).trans r3
   have s4 : wr.cell? ⟨N + 1 + 1, 0, none⟩ = some (.int .i64 0) := (hkp.cell (a := ⟨N + 1 + 1, 0, none⟩) (by show N + 1 + 1 < C.base; omega) (by show N + 1 + 1 ≠ C.L; omega)).trans r4
   have y2 : wr.frozen? ⟨N, 0, none⟩ = false := (hkp.frozen (a := ⟨N, 0, none⟩) (by show N < C.base; omega) (by show N ≠ C.L; omega)).trans z2
   have y3 : wr.frozen? ⟨N + 1, 0, none⟩ = false := (hkp.frozen (a := ⟨N + 1, 0, none⟩) (by show N + 1 < C.base; omega) (by show N + 1 ≠ C.L; omega)).trans z3
   have y4 : wr.frozen? ⟨N + 1 + 1, 0, none⟩ = false := (hkp.frozen (a := ⟨N + 1 + 1, 0, none⟩) (by show N + 1 + 1 < C.base; omega) (by show N + 1 + 1 ≠ C.L; omega)).trans z4
   have HXR := Lib.hid hx
   have HK := Lib.hid hkp
   obtain ⟨k, rfl⟩ : ∃ j, k = j + 1 := ⟨k - 1, by omega⟩
   by_cases hbn : b = C.p.n
   · have HA := Lib.hid (show decide (b = C.p.n) = true by simpa using hbn)
     have HQ := Lib.hid (show R = .ok T by rw [← hr, read_succ, if_pos hbn])
     clear hr hbn hx hkp
     go_wp2_with fail
     refine Calls.mono (ended_any HXR.out) ?_
     rintro e1 w1 ⟨rfl, q1, rfl⟩
     rw [HA.out]
     go_wp2_with fail
     refine leaves_cons (f := 21) (args := #[.pointer (some ⟨N, 0, none⟩), .pointer (some ⟨N + 1, 0, none⟩), .pointer (some ⟨N + 1 + 1, 0, none⟩)]) (by simp) (by simp [go_sem]) ?_
     refine (catch_idle N (N + 1) (N + 1 + 1) _).mono ?_
     rintro e u' w'' ⟨rfl, rfl, rfl⟩
     have q2 : ((((wr.drewN q1).setCell ⟨N, 0, none⟩ (.slice va vn vc)).setCell ⟨N + 1, 0, none⟩ (.int .i64 0)).setCell ⟨N + 1 + 1, 0, none⟩ (.int .i64 0)).cell? ⟨N, 0, none⟩ = some (.slice va vn vc) := by simp [go_sem, s2]
     have q3 : ((((wr.drewN q1).setCell ⟨N, 0, none⟩ (.slice va vn vc)).setCell ⟨N + 1, 0, none⟩ (.int .i64 0)).setCell ⟨N + 1 + 1, 0, none⟩ (.int .i64 0)).cell? ⟨N + 1, 0, none⟩ = some (.int .i64 0) := by simp [go_sem, s3]
     have q4 : ((((wr.drewN q1).setCell ⟨N, 0, none⟩ (.slice va vn vc)).setCell ⟨N + 1, 0, none⟩ (.int .i64 0)).setCell ⟨N + 1 + 1, 0, none⟩ (.int .i64 0)).cell? ⟨N + 1 + 1, 0, none⟩ = some (.int .i64 0) := by simp [go_sem, s4]
     simp [Leaves, settle, results, Tryz.results12, go_sem, q2, q3, q4]
     rw [HQ.out]
     have hk := HK.out.drewN q1
     have hL0 := HX.out.ok.hL
     have hbw : Below C.w0.heap.size C.w0 (wr.drewN q1) := (HB.out.trans (HB3.out.mono (by omega))).trans ((hk.below (by omega)).mono hL0)
     refine ⟨((hbw.setCell (by show _ ≤ N; omega) _).setCell (by show _ ≤ N + 1; omega) _).setCell (by show _ ≤ N + 1 + 1; omega) _, _, rfl, ?_⟩
     have ht := (HXR.out.drewN q1).lx.2
     have ht1 := tokRow_kept ht ((Kept.refl _ N _).setCell 0 (.slice va vn vc)) (by omega)
     have ht2 := tokRow_kept ht1 ((Kept.refl _ (N + 1) _).setCell 0 (.int .i64 0)) (by omega)
     have ht3 := tokRow_kept ht2 ((Kept.refl _ (N + 1 + 1) _).setCell 0 (.int .i64 0)) (by omega)
     exact tokRow_base ht3 (by omega)
   · have HA := Lib.hid (show decide (b = C.p.n) = false by simpa using hbn)
     have hlt : b < C.p.n := by omega
     cases ht : C.p.token b with
     | error x =>
       have HQ := Lib.hid (show R = .error x by rw [← hr, read_succ, if_neg hbn, ht])
       have HT := Lib.hid ht
       clear hr hbn hx hkp ht
       go_wp2_with fail
       refine Calls.mono (ended_any HXR.out) ?_
       rintro e1 w1 ⟨rfl, q1, rfl⟩
       rw [HA.out]
       go_wp2_with fail
       refine Calls.mono (token_any (HXR.out.drewN q1) hlt HG.out.na (verbOk HG.out.ve)) ?_
       intro e2 w2 hr
       rw [HT.out] at hr
       obtain ⟨rfl, hkn⟩ := hr
       have hk2 := (HK.out.drewN q1).trans hkn
       have s2 : w2.cell? ⟨N, 0, none⟩ = some (.slice none 0 0) := (hk2.cell (a := ⟨N, 0, none⟩) (by show N < C.base; omega) (by show N ≠ C.L; omega)).trans r2
       have s3 : w2.cell? ⟨N + 1, 0, none⟩ = some (.int .i64 0) := (hk2.cell (a := ⟨N + 1, 0, none⟩) (by show N + 1 < C.base; omega) (by show N + 1 ≠ C.L; omega)).trans r3
       have s4 : w2.cell? ⟨N + 1 + 1, 0, none⟩ = some (.int .i64 0) := (hk2.cell (a := ⟨N + 1 + 1, 0, none⟩) (by show N + 1 + 1 < C.base; omega) (by show N + 1 + 1 ≠ C.L; omega)).trans r4
       have y2 : w2.frozen? ⟨N, 0, none⟩ = false := (hk2.frozen (a := ⟨N, 0, none⟩) (by show N < C.base; omega) (by show N ≠ C.L; omega)).trans z2
       have y3 : w2.frozen? ⟨N + 1, 0, none⟩ = false := (hk2.frozen (a := ⟨N + 1, 0, none⟩) (by show N + 1 < C.base; omega) (by show N + 1 ≠ C.L; omega)).trans z3
       have y4 : w2.frozen? ⟨N + 1 + 1, 0, none⟩ = false := (hk2.frozen (a := ⟨N + 1 + 1, 0, none⟩) (by show N + 1 + 1 < C.base; omega) (by show N + 1 + 1 ≠ C.L; omega)).trans z4
       have HK2 := Lib.hid hk2
       clear hk2 hkn
       go_wp2_with fail
       refine leaves_cons (f := 21) (args := #[.pointer (some ⟨N, 0, none⟩), .pointer (some ⟨N + 1, 0, none⟩), .pointer (some ⟨N + 1 + 1, 0, none⟩)]) (by simp) (by simp [go_sem]) ?_
       refine (catch_pan N (N + 1) (N + 1 + 1) x [] w2 _ _ _ s2 s3 s4 y2 y3 y4 (by omega) (by omega) (by omega)).mono ?_
       rintro e u' w'' ⟨rfl, rfl, w5, hb5, rfl⟩
       have s2 := below_cell hb5 s2
       have s3 := below_cell hb5 s3
       have s4 := below_cell hb5 s4
       simp [Leaves, settle, results, Tryz.results12, go_sem, s2, s3, s4]
       rw [HQ.out]
       have hL0 := HX.out.ok.hL
       have hsz := HK2.out.size
       have hbw : Below C.w0.heap.size C.w0 w5 := ((HB.out.trans (HB3.out.mono (by omega))).trans ((HK2.out.below (by omega)).mono hL0)).trans (hb5.mono (by omega))
       exact ⟨((hbw.setCell (by show _ ≤ N; omega) _).setCell (by show _ ≤ N + 1; omega) _).setCell (by show _ ≤ N + 1 + 1; omega) _, rfl⟩
     | ok s =>
       obtain ⟨ts, b'⟩ := s
       have HQ := Lib.hid (show C.p.read k (T ++ ts) b' = R by rw [← hr, read_succ, if_neg hbn, ht])
       have HT := Lib.hid ht
       clear hr hbn hx hkp ht
       go_wp2_with fail
       refine Calls.mono (ended_any HXR.out) ?_
       rintro e1 w1 ⟨rfl, q1, rfl⟩
       rw [HA.out]
       go_wp2_with fail
       refine Calls.mono (token_any (HXR.out.drewN q1) hlt HG.out.na (verbOk HG.out.ve)) ?_
       intro e2 w2 hr
       rw [HT.out] at hr
       obtain ⟨rfl, f2, v2, hx2, hkn⟩ := hr
       have HX2 := Lib.hid hx2
       have HK2 := Lib.hid ((HK.out.drewN q1).trans hkn)
       have HM2 := Lib.hid (show (intOf ((w2.cell? ⟨C.L, 1, none⟩).getD (.int .i64 0))).toNat = b' by rw [hx2.cells.c1]; exact Int.toNat_natCast _)
       have hgt := Lib.hid ((token_ok HXR.out.sl.1 hlt).val HT.out).1
       clear hx2 hkn c9 s2 s3 s4 y2 y3 y4
       go_wp2_with fail
       go_roundw
       case rel => exact ⟨k, b', f2, T ++ ts, v2, by have := hgt.out; omega, HQ.out, HX2.out, HK2.out⟩
       case measure =>
         rw [HM.out, HM2.out]
         have := hgt.out
         omega
end Go.Proofs.YtkcmjcgjfjfimaaGreatDoor.tkw
end
section
namespace Go.Proofs.YtkcmjcgjfjfimaaGreatDoor.tkw
open Go Go.RowKit Go.Maps utfp utfw ucdp setp setw prp tkp
theorem sl_form {w : World} {v : Value} {n : Nat} {g : Nat → Int} (h : Sl w v n g) : ∃ a c, v = .slice a n c := by
 obtain ⟨_, _, ⟨rfl, a, c, hv, _⟩ | ⟨b, off, cap, hv, _⟩⟩ := h
 · exact ⟨_, _, hv⟩
 · exact ⟨_, _, hv⟩
theorem globAt_below {w w' : World} {g : Nat} {cs : List Value} (h : GlobAt w g cs) (hb : Below w.heap.size w w') : GlobAt w' g cs := fun i v hi => below_cell hb (h i v hi)
theorem tokRow_form {w : World} {b : Nat} {v : Value} {T : List Tk} (h : TokRow w b v T) : ∃ a n c, v = .slice a n c := by
 obtain ⟨l0, _, _, hl3⟩ := h
 rcases hl3.2 with ⟨h, _⟩ | ⟨g, cap, cur, h, _⟩ <;> exact ⟨_, _, _, h⟩
theorem read_lex {w : World} {a : Option Addr} {n cap : Nat} {g : Nat → Int} {o : Int} (hv : Sl w (.slice a n cap) n g) (hG : Glo w) (hn : n ≤ 1000) {w1 : World} (hb : Below w.heap.size w w1) (hr : lexP g n o = (ptOf g n o).read ((ptOf g n o).n + 1) [] 0)
   (L m1 m2 m3 : Nat) (w2 : World) (hf : Fresh w1 w2 L m1 m2 m3 (.slice a n cap) (ptOf g n o)) (hb2 : Below w1.heap.size w1 w2) : Calls Tryz.prog 12 #[.pointer (some ⟨L, 0, none⟩)] w2 (ReadB w (lexP g n o)) := by
 have hs := hb.size
 rw [hr]
 refine read_any (w0 := w) (p := ptOf g n o) (pv := .slice a n cap) ⟨hf.lx, hf.e1, hf.e2, hf.e3, ?_, ?_, ?_, ?_, hf.ne⟩ (hb.trans (hb2.mono hs)) hv hn hG
 · have := hf.b1; omega
 · have := hf.b2; omega
 · have := hf.b3; omega
 · have := hf.bL; omega
set_option maxRecDepth 100000 in
set_option maxHeartbeats 4000000 in
theorem lex_any (v : Value) (n : Nat) (g : Nat → Int) (o : Int) (w : World) (hv : Sl w v n g) (hG : Glo w) : Calls Tryz.prog 7 #[v, .int .i64 o] w (ReadB w (lexP g n o)) := by
 obtain ⟨a, cap, rfl⟩ := sl_form hv
 by_cases h0 : o < 0 ∨ 65535 < o
 · have HR := Lib.hid (lex_arg (g := g) (n := n) h0)
   rcases (show o < 0 ∨ (0 ≤ o ∧ 65535 < o) by omega) with h | ⟨h, h2⟩
   all_goals
     clear h0 hv hG
     go_enter Tryz.func7, Tryz.ntmps7
     go_wp2_with fail
     go_ret3
     rw [HR.out]
     exact ⟨Below.refl _ _, rfl⟩
 have ho0 : 0 ≤ o := by omega
 have ho1 : o ≤ 65535 := by omega
 by_cases h1 : 1000 < n
 · have HR := Lib.hid (show lexP g n o = .error (10, 1000) by unfold lexP; rw [if_neg h0, if_pos h1])
   have hn1 : (1000 : Int) < (n : Int) := by omega
   clear h0 hv hG
   go_enter Tryz.func7, Tryz.ntmps7
   go_wp2_with fail
   go_ret3
   rw [HR.out]
   exact ⟨Below.refl _ _, rfl⟩
 have hn1 : (n : Int) ≤ 1000 := by omega
 have hu := opt_bit o ho0 ho1 5 (by decide)
 have e5 : (((2 ^ 5 : Nat) : Int)) = 32 := by decide
 rw [e5] at hu
 clear e5
 have RD := Lib.hid (fun (w1 : World) (hb : Below w.heap.size w w1) (hr : lexP g n o = (ptOf g n o).read ((ptOf g n o).n + 1) [] 0) => read_lex (a := a) (n := n) (cap := cap) (g := g) (o := o) hv hG (by omega) hb hr)
 have NW := Lib.hid (fun w1 => newLexer_any a n cap g o w1 ho0 ho1)
 cases hub : o.toNat.testBit 5 with
 | false =>
   rw [hub] at hu
   have hr : lexP g n o = (ptOf g n o).read ((ptOf g n o).n + 1) [] 0 := lexP_run ho0 ho1 (by omega) (by rw [hub]; intro h; cases h)
   have HR := Lib.hid hr
   clear hr h0 hv hG hub h1
   go_enter Tryz.func7, Tryz.ntmps7
   go_wp2_with fail
   refine (NW.out w).mono ?_
   rintro e w2 ⟨L, m1, m2, m3, rfl, hf, hb2⟩
   have HC := Lib.hid (RD.out w (Below.refl _ _) HR.out L m1 m2 m3 w2 hf hb2)
   clear hf hb2
   go_wp2_with fail
   refine HC.out.mono ?_
   intro e w3 hr3
   obtain ⟨R, hR⟩ : ∃ R, lexP g n o = R := ⟨_, rfl⟩
   rw [hR] at hr3
   obtain ⟨hb3, hr3⟩ := hr3
   cases R with
   | error x =>
     obtain rfl := hr3
     have HRR := Lib.hid hR
     clear hR
     go_wp2_with fail
     go_ret3
     rw [HRR.out]
     exact ⟨hb3, rfl⟩
   | ok T =>
     obtain ⟨v, rfl, ht⟩ := hr3
     obtain ⟨va, vn, vc, rfl⟩ := tokRow_form ht
     have HT := Lib.hid ht
     have HRR := Lib.hid hR
     clear hR ht
     go_wp2_with fail
     go_ret3
     rw [HRR.out]
     exact ⟨hb3, _, rfl, HT.out⟩
 | true =>
   rw [hub] at hu
   have HV := Lib.hid (valid_any (.slice a n cap) n g w hv hG.tabs)
   cases hvb : (validP g n).2 with
   | false =>
     have HR := Lib.hid (show lexP g n o = .error (13, (validP g n).1) by unfold lexP; rw [if_neg h0, if_neg h1, if_pos ⟨hub, hvb⟩])
     generalize validP g n = q at *
     obtain ⟨q1, q2⟩ := q
     simp only at hvb
     subst hvb
     clear h0 hv hG hub h1
     go_enter Tryz.func7, Tryz.ntmps7
     go_wp2_with fail
     refine HV.out.mono ?_
     rintro e w2 ⟨rfl, hd2⟩
     go_wp2_with fail
     go_ret3
     rw [HR.out]
     exact ⟨drawn_below hd2, rfl⟩
   | true =>
     have hr : lexP g n o = (ptOf g n o).read ((ptOf g n o).n + 1) [] 0 := lexP_run ho0 ho1 (by omega) (fun _ => hvb)
     have HR := Lib.hid hr
     generalize validP g n = q at *
     obtain ⟨q1, q2⟩ := q
     simp only at hvb
     subst hvb
     clear hr h0 hv hG hub h1
     go_enter Tryz.func7, Tryz.ntmps7
     go_wp2_with fail
     refine HV.out.mono ?_
     rintro e w1 ⟨rfl, hd1⟩
     have hb1 := drawn_below hd1
     clear hd1
     go_wp2_with fail
     refine (NW.out w1).mono ?_
     rintro e w2 ⟨L, m1, m2, m3, rfl, hf, hb2⟩
     have HC := Lib.hid (RD.out w1 hb1 HR.out L m1 m2 m3 w2 hf hb2)
     clear hf hb2
     go_wp2_with fail
     refine HC.out.mono ?_
     intro e w3 hr3
     obtain ⟨R, hR⟩ : ∃ R, lexP g n o = R := ⟨_, rfl⟩
     rw [hR] at hr3
     obtain ⟨hb3, hr3⟩ := hr3
     cases R with
     | error x =>
       obtain rfl := hr3
       have HRR := Lib.hid hR
       clear hR
       go_wp2_with fail
       go_ret3
       rw [HRR.out]
       exact ⟨hb3, rfl⟩
     | ok T =>
       obtain ⟨v, rfl, ht⟩ := hr3
       obtain ⟨va, vn, vc, rfl⟩ := tokRow_form ht
       have HT := Lib.hid ht
       have HRR := Lib.hid hR
       clear hR ht
       go_wp2_with fail
       go_ret3
       rw [HRR.out]
       exact ⟨hb3, _, rfl, HT.out⟩
end Go.Proofs.YtkcmjcgjfjfimaaGreatDoor.tkw
end
section
namespace Go.Proofs.YtkcmjcgjfjfimaaGreatDoor.tkr
open Go Go.RowKit Go.ChangeShapes Go.WideShapes Go.ChangeAt utfp utfw prp tkp tkw
theorem own : ownKnob Tryz.prog.godebug = none := by kernel_rfl
theorem laidOut : laidOutB Tryz.prog = true := by kernel_rfl
theorem cellsInt : Tryz.prog.cellsOf 3 = 1 := by kernel_rfl
theorem cellsByte : Tryz.prog.cellsOf 5 = 1 := by kernel_rfl
theorem bytesByte : Tryz.prog.bytesOf 5 = 1 := by kernel_rfl
theorem recBytes : Tryz.prog.readableRec 22 = true := by kernel_rfl
theorem rowBytes : (22 : TypeId) < Tryz.prog.types.size := of_decide_eq_true (by kernel_rfl)
def valD {H : Type} : DataW H → Value
 | .lit (.int k z) => .int k z
 | .lit (.string s) => .string ⟨s.toArray⟩
 | _ => undef
def rowV {H : Type} : DataW H → List Value
 | .agg xs => xs.map valD
 | d => [valD d]
theorem flat_k {α : Type} (f : α → List Value) (k : Nat) : ∀ (l : List α) (i j : Nat), (∀ a ∈ l, (f a).length = k) → j < k → (l.flatMap f)[i * k + j]? = (l[i]?).bind fun a => (f a)[j]?
 | [], i, j, _, _ => by simp
 | a :: l, 0, j, h, hj => by
   rw [List.flatMap_cons, List.getElem?_append_left (by rw [h a (List.mem_cons_self ..)]; omega)]
   simp
 | a :: l, i + 1, j, h, hj => by
   have e : (i + 1) * k + j = k + (i * k + j) := by rw [Nat.add_mul, Nat.one_mul]; omega
   rw [List.flatMap_cons, List.getElem?_append_right (by rw [h a (List.mem_cons_self ..)]; omega), h a (List.mem_cons_self ..), e, Nat.add_sub_cancel_left, flat_k f k l i j (fun b hb => h b (List.mem_cons_of_mem _ hb)) hj]
   simp
section
variable {H : Type} {enc : TypeId × Value → H} {P : Program} {w : World} {base : Nat} {sp : Nat → Bool} {held : Bool}
theorem val_of {fuel : Nat} {t : TypeId} {v : Value} {x : DataW H × List MemPlace} (ht : P.underlying t = some .string ∨ P.underlying t = some (.int .i64)) (h : DataW.trod enc P w base sp held fuel t [v] = some x) : v = valD x.1 := by
 rcases ht with ht | ht
 · obtain ⟨s, h1, rfl, _⟩ := DataW.trod_string ht h
   simp only [List.cons.injEq, and_true] at h1
   rw [h1]
   show Value.string s = .string ⟨s.data.toList.toArray⟩
   simp
 · obtain ⟨z, h1, rfl, _⟩ := DataW.trod_int ht h
   simp only [List.cons.injEq, and_true] at h1
   exact h1
theorem struct_vals {fuel : Nat} {e : TypeId} {fs : Array Field} {cs : List Value} {D : DataW H} {p : List MemPlace} (he : P.underlying e = some (.struct fs)) (hce : P.cellsOf e = fs.size)
   (hf : ∀ (i : Nat) (f : Field), fs[i]? = some f → f.offset = i ∧ P.cellsOf f.type = 1 ∧ (P.underlying f.type = some .string ∨ P.underlying f.type = some (.int .i64))) (h : DataW.trod enc P w base sp held fuel e cs = some (D, p)) : cs = rowV D ∧ cs.length = fs.size := by
 obtain ⟨xs, n, _, hx, hl, hxl, hi⟩ := DataW.trod_struct he h
 rw [hce] at hl
 simp only [Prod.mk.injEq] at hx
 obtain ⟨rfl, rfl⟩ := hx
 refine ⟨?_, hl⟩
 show cs = (xs.map (·.1)).map valD
 apply List.ext_getElem?
 intro i
 by_cases hlt : i < fs.size
 · obtain ⟨f, hfi⟩ : ∃ f, fs[i]? = some f := ⟨fs[i], by simp [hlt]⟩
   obtain ⟨h1, h2, h3⟩ := hf i f hfi
   have ht := hi i f hfi
   rw [h1, h2] at ht
   have hc : (cs.drop i).take 1 = [cs[i]] := by
     rw [List.drop_eq_getElem_cons (by omega)]
     rfl
   rw [hc] at ht
   obtain ⟨x, hx⟩ : ∃ x, xs[i]? = some x := ⟨xs[i], by simp [hxl, hlt]⟩
   rw [hx] at ht
   have hv := val_of h3 ht
   rw [List.getElem?_map, List.getElem?_map, hx, List.getElem?_eq_getElem (by omega), hv]
   rfl
 · rw [List.getElem?_eq_none (by omega), List.getElem?_eq_none (by simp; omega)]
theorem array_vals {fuel : Nat} {t e : TypeId} {n k : Nat} {cs : List Value} {Ds : List (DataW H)} {p : List MemPlace} (ht : P.underlying t = some (.array n e)) (hce : P.cellsOf e = k) (hct : P.cellsOf t = n * k)
   (hel : ∀ (m : Nat) (c : List Value) (D : DataW H) (q : List MemPlace), DataW.trod enc P w base sp held m e c = some (D, q) → c = rowV D ∧ c.length = k) (h : DataW.trod enc P w base sp held fuel t cs = some (.agg Ds, p)) : cs = Ds.flatMap rowV := by
 cases fuel with
 | zero => simp [DataW.trod] at h
 | succ fuel =>
   simp only [DataW.trod, ht, hce, hct] at h
   split at h
   · rename_i hl
     obtain ⟨xs, hm, hx⟩ := Option.map_eq_some_iff.1 h
     have hxs : xs.map (·.1) = Ds := by
       have := congrArg Prod.fst hx
       simpa using this
     have hxl : xs.length = n := by simpa using Lib.mapM_length hm
     have hlen : ∀ D ∈ Ds, (rowV D).length = k := fun D hD => by
       rw [← hxs] at hD
       obtain ⟨x, hx1, rfl⟩ := List.mem_map.1 hD
       obtain ⟨i, hi, hix⟩ := List.getElem_of_mem hx1
       obtain ⟨y, hy, hf⟩ := Lib.mapM_at hm i i (by rw [List.getElem?_range (by omega)])
       rw [List.getElem?_eq_getElem hi, hix] at hy
       cases hy
       obtain ⟨h1, h2⟩ := hel _ _ _ _ hf
       rw [← h1, h2]
     apply List.ext_getElem?
     intro i
     by_cases hk : k = 0
     · subst hk
       rw [List.getElem?_eq_none (by omega), List.getElem?_eq_none]
       have : ∀ l : List (DataW H), (∀ D ∈ l, (rowV D).length = 0) → (l.flatMap rowV).length = 0 := fun l => by
         induction l with
         | nil => intro _; rfl
         | cons a l ih =>
           intro hh
           rw [List.flatMap_cons, List.length_append, hh a (List.mem_cons_self ..), ih fun D hD => hh D (List.mem_cons_of_mem _ hD)]
       rw [this Ds hlen]
       exact Nat.zero_le _
     · have hk0 : 0 < k := Nat.pos_of_ne_zero hk
       have hi2 : i = i / k * k + i % k := by rw [Nat.mul_comm]; exact (Nat.div_add_mod i k).symm
       have hmod := Nat.mod_lt i hk0
       have hflat := flat_k rowV k Ds (i / k) (i % k) hlen hmod
       rw [← hi2] at hflat
       rw [hflat]
       by_cases hlt : i / k < n
       · obtain ⟨y, hy, hf⟩ := Lib.mapM_at hm (i / k) (i / k) (by simp [hlt])
         have hD : Ds[i / k]? = some y.1 := by rw [← hxs, List.getElem?_map, hy]; rfl
         obtain ⟨h1, _⟩ := hel _ _ _ _ hf
         rw [hD, Option.bind_some, ← h1, List.getElem?_take, if_pos hmod, List.getElem?_drop, ← hi2]
       · have hD : Ds[i / k]? = none := List.getElem?_eq_none (by rw [← hxs]; simp; omega)
         rw [hD, Option.bind_none]
         refine List.getElem?_eq_none ?_
         rw [hl]
         have : n ≤ i / k := by omega
         calc n * k ≤ i / k * k := Nat.mul_le_mul_right k this
           _ ≤ i := Nat.div_mul_le_self i k
   · cases h
end
theorem elem_string {H : Type} {enc : TypeId × Value → H} {P : Program} {w : World} {base : Nat} {sp : Nat → Bool} {held : Bool} {e : TypeId} (he : P.underlying e = some .string) (m : Nat) (c : List Value) (D : DataW H) (q : List MemPlace) (h : DataW.trod enc P w base sp held m e c = some (D, q)) : c = rowV D ∧ c.length = 1 := by
 obtain ⟨s, rfl, hx, _⟩ := DataW.trod_string he h
 simp only [Prod.mk.injEq] at hx
 obtain ⟨rfl, rfl⟩ := hx
 refine ⟨?_, rfl⟩
 show [Value.string s] = [.string ⟨s.data.toList.toArray⟩]
 simp
theorem var_array {P : Program} {W : World} {name : String} {Ds : List (DataW Unit)} {r : List (String × DataW Unit)} {g : Nat} {t e : TypeId} {n k : Nat}
   (hg : P.globalNamed name = some g) (hty : (P.globals[g]?).map (·.type) = some t) (ht : P.underlying t = some (.array n e)) (hce : P.cellsOf e = k) (hct : P.cellsOf t = n * k)
   (hel : ∀ (enc : TypeId × Value → Unit) (base : Nat) (sp : Nat → Bool) (held : Bool) (m : Nat) (c : List Value) (D : DataW Unit) (q : List MemPlace), DataW.trod enc P W base sp held m e c = some (D, q) → c = rowV D ∧ c.length = k)
   (h : laidMet P ((name, .agg Ds) :: r) W) : ∃ ty fr, W.heap[g]? = some (.cells (Ds.flatMap rowV).toArray ty fr) := by
 obtain ⟨ps, ⟨g', t', cs, fuel, p, q, hg', ht', hvar, hd, _, _⟩, _⟩ := h
 obtain rfl := Option.some.inj (hg.symm.trans hg')
 obtain rfl := Option.some.inj (hty.symm.trans ht')
 have hc := array_vals ht hce hct (fun m c D q hh => hel _ _ _ _ m c D q hh) hd
 unfold World.var? at hvar
 rw [hg] at hvar
 simp only [Option.bind_some] at hvar
 split at hvar
 · rename_i c ty fr e
   simp only [Option.some.injEq] at hvar
   subst hvar
   refine ⟨ty, fr, ?_⟩
   rw [e, ← hc]
 · cases hvar
theorem var_iface {P : Program} {W : World} {name nm : String} {D : DataW Unit} {r : List (String × DataW Unit)} {g : Nat} {t : TypeId} {ms : Array (String × TypeId)}
   (hg : P.globalNamed name = some g) (hty : (P.globals[g]?).map (·.type) = some t) (ht : P.underlying t = some (.interface ms)) (h : laidMet P ((name, .iface nm D) :: r) W) : ∃ u x, W.cell? ⟨g, 0, none⟩ = some (.iface u x) := by
 obtain ⟨ps, ⟨g', t', cs, fuel, p, q, hg', ht', hvar, hd, _, _⟩, _⟩ := h
 obtain rfl := Option.some.inj (hg.symm.trans hg')
 obtain rfl := Option.some.inj (hty.symm.trans ht')
 have hc := World.var?_cell hg hvar 0
 obtain ⟨l⟩ := cs
 cases fuel with
 | zero => simp [DataW.trod] at hd
 | succ fuel =>
   unfold DataW.trod at hd
   rw [ht] at hd
   split at hd <;> simp_all
def lens : List Int := [1, 1, 1, 1, 1, 1, 1, 1, 1, 1, 1, 1, 1, 1, 1, 1, 0, 0, 0, 0, 0, 0, 0, 0, 2, 2, 2, 2, 3, 3, 4, 0]
theorem lens_at (i : Nat) (h : i < 32) : lens.getD i 0 = len0 (8 * i) := by
 have all : ∀ i : Fin 32, lens.getD i.val 0 = len0 (8 * (i.val : Nat)) := by decide +kernel
 exact all ⟨i, h⟩
theorem len0_eight {x : Int} (_h0 : 0 ≤ x) : len0 (8 * (x / 8)) = len0 x := by
 rcases len0_cases x with ⟨a, b⟩ | ⟨a, b⟩ | ⟨a, b⟩ | ⟨a, b⟩ | ⟨a, b⟩ <;>
 rcases len0_cases (8 * (x / 8)) with ⟨c, d⟩ | ⟨c, d⟩ | ⟨c, d⟩ | ⟨c, d⟩ | ⟨c, d⟩ <;> omega
def hds : List Int := [0, 0, 192, 224, 240]
theorem hds_at (s : Int) (h0 : 0 ≤ s) (h1 : s ≤ 4) : hds.getD s.toNat 0 = head0 s := by
 have hs : s = 0 ∨ s = 1 ∨ s = 2 ∨ s = 3 ∨ s = 4 := by omega
 rcases hs with rfl | rfl | rfl | rfl | rfl <;> rfl
theorem wf_byte {n : Int} (h : (Lit.int .u8 n).wf = true) : 0 ≤ n ∧ n ≤ 255 := by
 have h2 : IntKind.u8.min ≤ n ∧ n ≤ IntKind.u8.max := by simpa [Lit.wf] using h
 rw [show IntKind.u8.min = 0 by decide, show IntKind.u8.max = 255 by decide] at h2
 exact h2
set_option maxRecDepth 100000 in
theorem open_bytes {H : Type} {enc : TypeId × Value → H} {W : World} {base : Nat} {v : Value} {d : DataW H} {ps : List MemPlace} (hval : Value.okWide Tryz.prog W .any base 22 v)
   (h : DataW.Trod enc Tryz.prog W 0 (fun _ => true) true 22 v d ps) (hsz : ∀ elems spare, d = .slice elems spare → (elems.length + spare.length) * Tryz.prog.bytesOf 5 ≤ reachBytes) :
   ∃ n g, Sl W v n g := by
 obtain ⟨a0, len, cap, rfl⟩ := okWide_slice Tryz.underlying22 hval
 obtain ⟨fuel, hf⟩ := h
 rcases open_ints Tryz.underlying22 Tryz.underlying5 cellsByte hf with ⟨hcs, _⟩ | ⟨a, len', cap', zs, hcs, _, hl, hm, hz, hx, hcell, hwz⟩
 · simp [Value.cells] at hcs
   obtain ⟨rfl, rfl, rfl⟩ := hcs
   exact ⟨0, fun _ => 0, fun _ => by simp, by simp, Or.inl ⟨rfl, _, _, rfl, by omega⟩⟩
 · simp [Value.cells] at hcs
   obtain ⟨rfl, rfl, rfl⟩ := hcs
   simp only [Prod.mk.injEq] at hx
   obtain ⟨rfl, _⟩ := hx
   simp only [if_true] at hz
   have hr := hsz _ _ rfl
   rw [bytesByte] at hr
   simp only [lits, List.length_map, List.length_take, List.length_drop, reachBytes] at hr
   unfold maxLen at hm
   have hgb : ∀ i, 0 ≤ zs.getD i 0 ∧ zs.getD i 0 ≤ 255 := by
     intro i
     by_cases hi : i < zs.length
     · simp only [List.getD, List.getElem?_eq_getElem hi, Option.getD_some]
       exact wf_byte (hwz _ (List.getElem_mem hi))
     · simp [List.getD, List.getElem?_eq_none (Nat.le_of_not_lt hi)]
   by_cases h0 : len = 0
   · subst h0
     exact ⟨0, fun _ => 0, fun _ => by simp, by simp, Or.inl ⟨rfl, _, _, rfl, by omega⟩⟩
   · obtain ⟨b, off, spot⟩ := a
     have c0 := hcell 0 (by omega)
     cases spot with
     | some s =>
       exfalso
       have : ((⟨b, off, some s⟩ : Addr).add 0).spot.isSome = true := by unfold Addr.add; split <;> simp_all
       unfold World.cell? at c0
       split at c0
       · simp [this] at c0
       · simp at c0
     | none =>
       refine ⟨len, fun i => zs.getD i 0, hgb, by omega, Or.inr ⟨b, off, cap, rfl, ⟨hl, by omega⟩, fun i hi => ?_⟩⟩
       have := hcell i (by omega)
       have hplain : (⟨b, off, none⟩ : Addr).add i = ⟨b, off + i, none⟩ := by unfold Addr.add; split <;> simp_all
       rw [hplain] at this
       exact this
def laidList : List (String × DataW Unit) := [("math/bits.deBruijn32tab", Rows.laid_math_bits_deBruijn32tab), ("math/bits.deBruijn64tab", Rows.laid_math_bits_deBruijn64tab), ("internal/strconv.uint64pow10", Rows.laid_internal_strconv_uint64pow10), ("strconv.ErrRange", Rows.laid_strconv_ErrRange), ("strconv.ErrSyntax", Rows.laid_strconv_ErrSyntax), ("lurcher/utf.lengths", Rows.laid_lurcher_utf_lengths), ("lurcher/utf.heads", Rows.laid_lurcher_utf_heads), ("lurcher/props.starts", Rows.laid_lurcher_props_starts), ("lurcher/tokens.groups", Rows.laid_lurcher_tokens_groups), ("lurcher/tokens.looks", Rows.laid_lurcher_tokens_looks), ("lurcher/tokens.namings", Rows.laid_lurcher_tokens_namings), ("lurcher/tokens.verbs", Rows.laid_lurcher_tokens_verbs)]
def datV {H : Type} : DataW H → List Value
 | .agg Ds => Ds.flatMap rowV
 | _ => []
def layV (l : List Value) : Obj → Obj
 | .cells _ t frozen => .cells l.toArray t frozen
 | o => o
noncomputable def low : Nat := (World.holding Tryz.prog default ⟨#[], #[], []⟩).heap.size
theorem wf_int {n : Int} (h : (Lit.int .i64 n).wf = true) : -9223372036854775808 ≤ n ∧ n ≤ 9223372036854775807 := by
 have h2 : IntKind.i64.min ≤ n ∧ n ≤ IntKind.i64.max := by simpa [Lit.wf] using h
 rw [show IntKind.i64.min = -9223372036854775808 by decide, show IntKind.i64.max = 9223372036854775807 by decide] at h2
 exact h2
theorem gEr : Tryz.prog.globalNamed "strconv.ErrSyntax" = some 8 := by kernel_rfl
theorem gErType : (Tryz.prog.globals[8]?).map (·.type) = some 148 := by kernel_rfl
theorem gLengths : Tryz.prog.globalNamed "lurcher/utf.lengths" = some 0 := by kernel_rfl
theorem gHeads : Tryz.prog.globalNamed "lurcher/utf.heads" = some 1 := by kernel_rfl
theorem gLengthsType : (Tryz.prog.globals[0]?).map (·.type) = some 65 := by kernel_rfl
theorem gHeadsType : (Tryz.prog.globals[1]?).map (·.type) = some 67 := by kernel_rfl
theorem cellsLengths : Tryz.prog.cellsOf 65 = 32 := by kernel_rfl
theorem cellsHeads : Tryz.prog.cellsOf 67 = 5 := by kernel_rfl
theorem gStarts : Tryz.prog.globalNamed "lurcher/props.starts" = some 7 := by kernel_rfl
theorem gStartsType : (Tryz.prog.globals[7]?).map (·.type) = some 168 := by kernel_rfl
theorem cellsStarts : Tryz.prog.cellsOf 168 = 94 := by kernel_rfl
theorem gGroups : Tryz.prog.globalNamed "lurcher/tokens.groups" = some 3 := by kernel_rfl
theorem gGroupsType : (Tryz.prog.globals[3]?).map (·.type) = some 140 := by kernel_rfl
theorem cellsGroups : Tryz.prog.cellsOf 140 = 6 * 2 := by kernel_rfl
theorem cellsGroup : Tryz.prog.cellsOf 139 = 2 := by kernel_rfl
theorem gLooks : Tryz.prog.globalNamed "lurcher/tokens.looks" = some 5 := by kernel_rfl
theorem gLooksType : (Tryz.prog.globals[5]?).map (·.type) = some 143 := by kernel_rfl
theorem cellsLooks : Tryz.prog.cellsOf 143 = 4 * 1 := by kernel_rfl
theorem cellsString : Tryz.prog.cellsOf 9 = 1 := by kernel_rfl
theorem gNamings : Tryz.prog.globalNamed "lurcher/tokens.namings" = some 4 := by kernel_rfl
theorem gNamingsType : (Tryz.prog.globals[4]?).map (·.type) = some 142 := by kernel_rfl
theorem cellsNamings : Tryz.prog.cellsOf 142 = 6 * 5 := by kernel_rfl
theorem cellsNaming : Tryz.prog.cellsOf 141 = 5 := by kernel_rfl
theorem gVerbs : Tryz.prog.globalNamed "lurcher/tokens.verbs" = some 2 := by kernel_rfl
theorem gVerbsType : (Tryz.prog.globals[2]?).map (·.type) = some 118 := by kernel_rfl
theorem cellsVerbs : Tryz.prog.cellsOf 118 = 9 * 3 := by kernel_rfl
theorem cellsVerb : Tryz.prog.cellsOf 117 = 3 := by kernel_rfl
theorem fields2 {P : Program} {f0 f1 : Field} (h0 : f0.offset = 0 ∧ P.cellsOf f0.type = 1 ∧ (P.underlying f0.type = some .string ∨ P.underlying f0.type = some (.int .i64))) (h1 : f1.offset = 1 ∧ P.cellsOf f1.type = 1 ∧ (P.underlying f1.type = some .string ∨ P.underlying f1.type = some (.int .i64))) :
   ∀ (i : Nat) (f : Field), (#[f0, f1] : Array Field)[i]? = some f → f.offset = i ∧ P.cellsOf f.type = 1 ∧ (P.underlying f.type = some .string ∨ P.underlying f.type = some (.int .i64))
 | 0, f, h => by cases h; exact h0
 | 1, f, h => by cases h; exact h1
 | i + 2, f, h => by simp at h
theorem fields3 {P : Program} {f0 f1 f2 : Field} (h0 : f0.offset = 0 ∧ P.cellsOf f0.type = 1 ∧ (P.underlying f0.type = some .string ∨ P.underlying f0.type = some (.int .i64))) (h1 : f1.offset = 1 ∧ P.cellsOf f1.type = 1 ∧ (P.underlying f1.type = some .string ∨ P.underlying f1.type = some (.int .i64))) (h2 : f2.offset = 2 ∧ P.cellsOf f2.type = 1 ∧ (P.underlying f2.type = some .string ∨ P.underlying f2.type = some (.int .i64))) :
   ∀ (i : Nat) (f : Field), (#[f0, f1, f2] : Array Field)[i]? = some f → f.offset = i ∧ P.cellsOf f.type = 1 ∧ (P.underlying f.type = some .string ∨ P.underlying f.type = some (.int .i64))
 | 0, f, h => by cases h; exact h0
 | 1, f, h => by cases h; exact h1
 | 2, f, h => by cases h; exact h2
 | i + 3, f, h => by simp at h
theorem fields5 {P : Program} {f0 f1 f2 f3 f4 : Field} (h0 : f0.offset = 0 ∧ P.cellsOf f0.type = 1 ∧ (P.underlying f0.type = some .string ∨ P.underlying f0.type = some (.int .i64))) (h1 : f1.offset = 1 ∧ P.cellsOf f1.type = 1 ∧ (P.underlying f1.type = some .string ∨ P.underlying f1.type = some (.int .i64))) (h2 : f2.offset = 2 ∧ P.cellsOf f2.type = 1 ∧ (P.underlying f2.type = some .string ∨ P.underlying f2.type = some (.int .i64))) (h3 : f3.offset = 3 ∧ P.cellsOf f3.type = 1 ∧ (P.underlying f3.type = some .string ∨ P.underlying f3.type = some (.int .i64))) (h4 : f4.offset = 4 ∧ P.cellsOf f4.type = 1 ∧ (P.underlying f4.type = some .string ∨ P.underlying f4.type = some (.int .i64))) :
   ∀ (i : Nat) (f : Field), (#[f0, f1, f2, f3, f4] : Array Field)[i]? = some f → f.offset = i ∧ P.cellsOf f.type = 1 ∧ (P.underlying f.type = some .string ∨ P.underlying f.type = some (.int .i64))
 | 0, f, h => by cases h; exact h0
 | 1, f, h => by cases h; exact h1
 | 2, f, h => by cases h; exact h2
 | 3, f, h => by cases h; exact h3
 | 4, f, h => by cases h; exact h4
 | i + 5, f, h => by simp at h
theorem glo_of {W : World} (h : laidMetH Tryz.prog laidList W) : Glo W := by
 have h1 : laidMet Tryz.prog laidList W := h
 have h5 := h1.tail.tail.tail.tail
 have h6 := h5.tail
 have h7 := h6.tail
 have h8 := h7.tail
 have h9 := h8.tail
 have h10 := h9.tail
 have h11 := h10.tail
 have h12 := h11.tail
 have T1 : Lib.TabIs Tryz.prog W "lurcher/utf.lengths" .i64 lens := Lib.tabIs_of_head gLengths gLengthsType Tryz.underlying65 Tryz.underlying3 cellsInt cellsLengths h6
 have T2 : Lib.TabIs Tryz.prog W "lurcher/utf.heads" .i64 hds := Lib.tabIs_of_head gHeads gHeadsType Tryz.underlying67 Tryz.underlying3 cellsInt cellsHeads h7
 have T3 : Lib.TabIs Tryz.prog W "lurcher/props.starts" .i64 starts := Lib.tabIs_of_head gStarts gStartsType Tryz.underlying168 Tryz.underlying3 cellsInt cellsStarts h8
 obtain ⟨gt, gf, gh⟩ := var_array gGroups gGroupsType Tryz.underlying140 cellsGroup cellsGroups (fun enc base sp held m c D q hh => struct_vals Tryz.underlying139 cellsGroup (fields2 ⟨rfl, cellsString, Or.inl Tryz.underlying9⟩ ⟨rfl, cellsInt, Or.inr Tryz.underlying3⟩) hh) h9
 obtain ⟨lt, lf, lh⟩ := var_array gLooks gLooksType Tryz.underlying143 cellsString cellsLooks (fun enc base sp held m c D q hh => elem_string Tryz.underlying9 m c D q hh) h10
 obtain ⟨nt, nf, nh⟩ := var_array gNamings gNamingsType Tryz.underlying142 cellsNaming cellsNamings (fun enc base sp held m c D q hh => struct_vals Tryz.underlying141 cellsNaming (fields5 ⟨rfl, cellsString, Or.inl Tryz.underlying9⟩ ⟨rfl, cellsString, Or.inl Tryz.underlying9⟩ ⟨rfl, cellsInt, Or.inr Tryz.underlying3⟩ ⟨rfl, cellsInt, Or.inr Tryz.underlying3⟩ ⟨rfl, cellsInt, Or.inr Tryz.underlying3⟩) hh) h11
 obtain ⟨vt, vf, vh⟩ := var_array gVerbs gVerbsType Tryz.underlying118 cellsVerb cellsVerbs (fun enc base sp held m c D q hh => struct_vals Tryz.underlying117 cellsVerb (fields3 ⟨rfl, cellsString, Or.inl Tryz.underlying9⟩ ⟨rfl, cellsInt, Or.inr Tryz.underlying3⟩ ⟨rfl, cellsInt, Or.inr Tryz.underlying3⟩) hh) h12
 refine ⟨⟨fun x a b => ?_, fun s a b => ?_⟩, ?_, fun i hi => ?_, fun i v hi => ?_, fun i v hi => ?_, ⟨nt, nf, nh⟩, ⟨vt, vf, vh⟩⟩
 · have hi : (x / 8).toNat < 32 := by omega
   rw [T1.cell gLengths (x / 8).toNat (by simpa [lens] using hi), lens_at _ hi, show ((x / 8).toNat : Int) = x / 8 from by omega, len0_eight a]
 · have hi : s.toNat < 5 := by omega
   rw [T2.cell gHeads s.toNat (by simpa [hds] using hi), hds_at s a b]
 · exact var_iface gEr gErType Tryz.underlying148 h5
 · rw [T3.cell gStarts i (by simpa [starts] using hi)]
   rfl
 · rw [cell_of_row _ _ _ _ _ _ gh]
   show groupsC.toArray[i]? = some v
   simpa using hi
 · rw [cell_of_row _ _ _ _ _ _ lh]
   show looksC.toArray[i]? = some v
   simpa using hi
end Go.Proofs.YtkcmjcgjfjfimaaGreatDoor.tkr
end
section
namespace Go.Proofs.YtkcmjcgjfjfimaaGreatDoor.tkw
open Go Go.RowKit Go.Maps utfp utfw ucdp setp setw prp tkp
theorem flat_at {α : Type} (f : α → List Value) (h : ∀ a, (f a).length = 12) : ∀ (l : List α) (i j : Nat), j < 12 → (l.flatMap f)[i * 12 + j]? = (l[i]?).bind fun a => (f a)[j]?
 | [], i, j, _ => by simp
 | a :: l, 0, j, hj => by
   rw [List.flatMap_cons, List.getElem?_append_left (by rw [h]; omega)]
   simp
 | a :: l, i + 1, j, hj => by
   rw [List.flatMap_cons, List.getElem?_append_right (by rw [h]; omega), h, show (i + 1) * 12 + j - 12 = i * 12 + j by omega, flat_at f h l i j hj]
   simp
theorem tok_cells {w : World} {base : Nat} {v : Value} {T : List Tk} (h : TokRow w base v T) : ∃ a cap, v = .slice a T.length cap ∧ T.length ≤ cap ∧ cap ≤ 9223372036854775807 ∧ (T = [] ∨ ∃ g, a = some ⟨g, 0, none⟩ ∧
   ∀ i t, T[i]? = some t → ∃ x y, ∀ j, j < 12 → w.cell? ⟨g, i * 12 + j, none⟩ = (tkCells (.slice x t.set.length y) t)[j]?) := by
 obtain ⟨l, h1, h2, h3⟩ := h
 have hl : l.length = T.length := by rw [← h1]; simp
 rw [hl] at h3
 rcases h3.2 with ⟨rfl, h0⟩ | ⟨g, cap, cur, hv, _, _, hc1, hc2, _, _⟩
 · have : T = [] := List.length_eq_zero_iff.1 h0
   subst this
   exact ⟨none, 0, rfl, Nat.le_refl _, by omega, Or.inl rfl⟩
 · subst hv
   unfold maxLen at hc2
   refine ⟨_, cap, rfl, hc1, by omega, Or.inr ⟨g, rfl, fun i t hi => ?_⟩⟩
   have hlt : i < l.length := by
     rw [hl]
     exact (List.getElem?_eq_some_iff.1 hi).1
   obtain ⟨p, hp⟩ : ∃ p, l[i]? = some p := ⟨_, List.getElem?_eq_getElem hlt⟩
   have ht : p.1 = t := by
     rw [← h1, List.getElem?_map, hp] at hi
     exact Option.some.inj hi
   subst ht
   have hmem : p ∈ l := List.mem_of_getElem? hp
   obtain ⟨x, y, hs⟩ := ownR_len (h2 p hmem)
   refine ⟨x, y, fun j hj => ?_⟩
   rw [World.ownsRow.cellAt h3 (i * 12 + j) (by omega), flat_at _ (fun _ => rfl) l i j hj, hp, ← hs]
   rfl
theorem awk_1 : (match lexP (at_ [97, 123, 50, 44, 125, 43, 91, 94, 93, 97, 45, 99, 91, 58, 100, 105, 103, 105, 116, 58, 93, 93]) 22 0 with
   | .ok [_, t, u] => decide (t.m = -1) && decide (t.mode = 2) && u.neg && decide (u.set.length = 3)
   | _ => false) = true := by decide +kernel
theorem awk_2 : lexP (at_ [120, 40, 63, 60, 110, 45]) 6 0 = .error (27, 1) := by kernel_rfl
theorem awk_3 : lexP (at_ [40, 63, 60, 110]) 4 0 = .error (20, 4) := by kernel_rfl
theorem glo_below {w w' : World} (h : Glo w) (hb : Below w.heap.size w w') : Glo w' := by
 obtain ⟨t, x, he⟩ := h.er
 obtain ⟨t1, f1, n1⟩ := h.na
 obtain ⟨t2, f2, n2⟩ := h.ve
 have lt : ∀ {g : Nat} {o : Obj}, w.heap[g]? = some o → g < w.heap.size := fun {g o} e => by
   apply Classical.byContradiction
   intro hn
   rw [Array.getElem?_eq_none (by omega)] at e
   cases e
 exact ⟨below_tabs hb h.tabs, ⟨t, x, below_cell hb he⟩, fun i hi => below_cell hb (h.tabS i hi), globAt_below h.gr hb, globAt_below h.lo hb, ⟨t1, f1, (hb.block _ (lt n1)).trans n1⟩, ⟨t2, f2, (hb.block _ (lt n2)).trans n2⟩⟩
theorem sl_lit (w : World) (t : TypeId) (fr : Nat × Nat) (l : List Int) (hl : ∀ x ∈ l, 0 ≤ x ∧ x ≤ 255) (hn : l.length ≤ 140737488355328) : Sl (w.alloc (.cells (l.map (Value.int .u8)).toArray t fr)) (.slice (some ⟨w.heap.size, 0, none⟩) l.length l.length) l.length (at_ l) := by
 refine ⟨fun i => ?_, hn, Or.inr ⟨w.heap.size, 0, l.length, rfl, ⟨Nat.le_refl _, by omega⟩, fun i hi => ?_⟩⟩
 · unfold at_
   by_cases hi : i < l.length
   · have : l.getD i 0 ∈ l := by
       rw [show l.getD i 0 = l[i] by simp [List.getD, hi]]
       exact List.getElem_mem hi
     exact hl _ this
   · rw [show l.getD i 0 = 0 by simp [List.getD, Nat.not_lt.1 hi]]
     omega
 · rw [cell_of_row _ _ _ _ _ _ (heap_alloc_new w _)]
   simp [at_, List.getD, hi]
theorem lex_lit (w : World) (l : List Int) (hl : ∀ x ∈ l, 0 ≤ x ∧ x ≤ 255) (hn : l.length ≤ 140737488355328) (o : Int) (hG : Glo w) : Calls Tryz.prog 7 #[.slice (some ⟨w.heap.size, 0, none⟩) l.length l.length, .int .i64 o] (w.alloc (.cells (l.map (Value.int .u8)).toArray 5 (l.length, l.length + 1)))
   fun e w' => ReadB w (lexP (at_ l) l.length o) e w' := by
 refine (lex_any _ l.length (at_ l) o _ (sl_lit w 5 _ l hl hn) (glo_below hG (below_al w _))).mono ?_
 intro e w' h
 obtain ⟨R, hR⟩ : ∃ R, lexP (at_ l) l.length o = R := ⟨_, rfl⟩
 rw [hR] at h ⊢
 obtain ⟨hb, h⟩ := h
 refine ⟨below_trans (below_al w _) hb, ?_⟩
 cases R with
 | error x => exact h
 | ok T =>
   obtain ⟨v, h1, h2⟩ := h
   exact ⟨v, h1, tokRow_base h2 (by simp)⟩
def BoolB (r : Bool) (w : World) (e : Ending) (w' : World) : Prop := e = .returned (.bool r) ∧ Below w.heap.size w w'
theorem awk_T : ∃ a t u, lexP (at_ [97, 123, 50, 44, 125, 43, 91, 94, 93, 97, 45, 99, 91, 58, 100, 105, 103, 105, 116, 58, 93, 93]) 22 0 = .ok [a, t, u] ∧ t.m = -1 ∧ t.mode = 2 ∧ u.neg = true ∧ u.set.length = 3 := by
 have h := awk_1
 split at h
 · rename_i a t u e
   simp only [Bool.and_eq_true, decide_eq_true_eq] at h
   exact ⟨a, t, u, e, h.1.1.1, h.1.1.2, h.1.2, h.2⟩
 · cases h
set_option maxRecDepth 100000 in
set_option maxHeartbeats 4000000 in
theorem awake_any (w : World) (hG : Glo w) : Calls Tryz.prog 6 #[] w (BoolB true w) := by
 obtain ⟨a, t, u, hT, t1, t2, t3, t4⟩ := awk_T
 have L1 := Lib.hid (lex_lit w [97, 123, 50, 44, 125, 43, 91, 94, 93, 97, 45, 99, 91, 58, 100, 105, 103, 105, 116, 58, 93, 93] (by decide) (by decide) 0 hG)
 have L2 := Lib.hid (fun w1 hG1 => lex_lit w1 [120, 40, 63, 60, 110, 45] (by decide) (by decide) 0 hG1)
 have L3 := Lib.hid (fun w1 hG1 => lex_lit w1 [40, 63, 60, 110] (by decide) (by decide) 0 hG1)
 have HT := Lib.hid hT
 have kc := fun (w : World) (C : Array Value) (n c : Nat) => Lib.run_convert_bytes_const (P := Tryz.prog) w 22 5 C n c Tryz.underlying22 Tryz.underlying5
 clear hT
 go_enter Tryz.func6, Tryz.ntmps6
 go_wp2_with fail
 refine L1.out.mono ?_
 intro e w1 h1
 rw [show ([97, 123, 50, 44, 125, 43, 91, 94, 93, 97, 45, 99, 91, 58, 100, 105, 103, 105, 116, 58, 93, 93] : List Int).length = 22 from rfl, HT.out] at h1
 obtain ⟨hb1, v, rfl, hr⟩ := h1
 obtain ⟨va, cap, rfl, hc1, hc2, hr2 | ⟨g, rfl, hcell⟩⟩ := tok_cells hr
 · cases hr2
 obtain ⟨x1, y1, c1⟩ := hcell 1 t rfl
 obtain ⟨x2, y2, c2⟩ := hcell 2 u rfl
 have k7 := c1 7 (by decide)
 have k8 := c1 8 (by decide)
 have m5 := c2 5 (by decide)
 have m4 := c2 4 (by decide)
 rw [show (tkCells (.slice x1 t.set.length y1) t)[7]? = some (.int .i64 t.m) from rfl, t1] at k7
 rw [show (tkCells (.slice x1 t.set.length y1) t)[8]? = some (.int .i64 t.mode) from rfl, t2] at k8
 rw [show (tkCells (.slice x2 u.set.length y2) u)[5]? = some (.bool u.neg) from rfl, t3] at m5
 rw [show (tkCells (.slice x2 u.set.length y2) u)[4]? = some (.slice x2 u.set.length y2) from rfl, t4] at m4
 have hG1 := glo_below hG hb1
 clear c1 c2 hcell hr t1 t2 t3 t4
 simp only [List.length_cons, List.length_nil, Nat.zero_add, Nat.reduceAdd, Nat.reduceMul] at hc1 k7 k8 m5 m4 ⊢
 go_wp2_with fail
 refine (L2.out w1 hG1).mono ?_
 intro e w2 h2
 rw [show ([120, 40, 63, 60, 110, 45] : List Int).length = 6 from rfl, awk_2] at h2
 obtain ⟨hb2, rfl⟩ := h2
 have k7 := below_cell hb2 k7
 have k8 := below_cell hb2 k8
 have m5 := below_cell hb2 m5
 have m4 := below_cell hb2 m4
 have hG2 := glo_below hG1 hb2
 go_wp2_with fail
 refine (L3.out w2 hG2).mono ?_
 intro e w3 h3
 rw [show ([40, 63, 60, 110] : List Int).length = 4 from rfl, awk_3] at h3
 obtain ⟨hb3, rfl⟩ := h3
 have k7 := below_cell hb3 k7
 have k8 := below_cell hb3 k8
 have m5 := below_cell hb3 m5
 have m4 := below_cell hb3 m4
 go_wp2_with fail
 go_ret
 exact ⟨rfl, below_trans (below_trans hb1 hb2) hb3⟩
end Go.Proofs.YtkcmjcgjfjfimaaGreatDoor.tkw
end
section
namespace Go.Proofs.YtkcmjcgjfjfimaaGreatDoor.tkw
open Go.Sort Go Go.RowKit Go.Maps utfp utfw ucdp setp setw prp tkp
theorem validF_le {g : Nat → Int} {n : Nat} (hg : ∀ i, 0 ≤ g i ∧ g i ≤ 255) : ∀ f (p : Nat), p ≤ n → (validF g n f p).1 ≤ n
 | 0, p, h => by simpa [validF] using h
 | f + 1, p, h => by
   have hb := seqAt_num (n := n) (p := p) hg
   have h2 := hb.2.2.2.2 (by omega)
   simp only [validF]
   split
   · split
     · show (p : Int) ≤ n
       omega
     · exact validF_le hg f _ (by omega)
   · show (p : Int) ≤ n
     omega
theorem lex_bounds {g : Nat → Int} {n : Nat} {o : Int} (hg : ∀ i, 0 ≤ g i ∧ g i ≤ 255) : (∀ x, lexP g n o = .error x → 1 ≤ x.1 ∧ x.1 ≤ 45 ∧ 0 ≤ x.2 ∧ x.2 ≤ n) ∧ (∀ T, lexP g n o = .ok T → Rise 0 T n) := by
 unfold lexP
 by_cases h1 : o < 0 ∨ 65535 < o
 · rw [if_pos h1]
   exact ⟨fun x e => by cases e; exact ⟨by omega, by omega, Int.le_refl _, Int.natCast_nonneg n⟩, fun T e => by cases e⟩
 · rw [if_neg h1]
   by_cases h2 : 1000 < n
   · rw [if_pos h2]
     exact ⟨fun x e => by cases e; exact ⟨by omega, by omega, by omega, by show (1000 : Int) ≤ n; omega⟩, fun T e => by cases e⟩
   · rw [if_neg h2]
     split
     · refine ⟨fun x e => ?_, fun T e => by cases e⟩
       cases e
       have a := validF_ge (n := n) hg n 0
       have b := validF_le (n := n) hg n 0 (Nat.zero_le _)
       exact ⟨by omega, by omega, a, b⟩
     · have h := read_ok (p := { g := g, n := n, u := o.toNat.testBit 5, x := o.toNat.testBit 3 }) hg (k := n + 1) (T := []) (a := 0) (Nat.zero_le _) (Nat.le_refl _)
       exact ⟨fun x e => h.err e, fun T e => h.val e⟩
theorem cell_regrown {w : World} {a : Addr} {v : Value} (h : w.cell? a = some v) : ∀ d os, (grow (redrawn w d) os).cell? a = some v := fun d os => below_cell (below_regrown w d os) h
theorem add_row0 (b i s : Nat) : (⟨b, 0, none⟩ : Addr).add (i * s) = ⟨b, i * s, none⟩ := by unfold Addr.add; split <;> simp_all
end Go.Proofs.YtkcmjcgjfjfimaaGreatDoor.tkw
end
