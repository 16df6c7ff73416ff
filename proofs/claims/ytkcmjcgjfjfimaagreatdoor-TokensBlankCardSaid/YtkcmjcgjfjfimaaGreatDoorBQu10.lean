/- Texts that TokensQuoteLaw leans on, merged: what the functions of the program answer. -/
import Derived.Test.YtkcmjcgjfjfimaaGreatDoorBQu09
section
namespace Go.Proofs.YtkcmjcgjfjfimaaGreatDoor.tkw
open Go Go.RowKit Go.Maps utfp utfw ucdp setp setw prp tkp
theorem char_val {p : Pt} (hg : ∀ i, 0 ≤ p.g i ∧ p.g i ≤ 255) {a : Nat} (_ha : a ≤ p.n) : -1 ≤ (p.char a).1 ∧ (p.char a).1 ≤ 1114111 := by
 unfold Pt.char nextP
 split
 · exact ⟨Int.le_refl _, by simp⟩
 · unfold stepv
   simp only [Int.toNat_natCast]
   split
   · rename_i h
     obtain ⟨_, h⟩ := h
     unfold seqAt at h ⊢
     by_cases h1 : len0 (p.g a) = 0 ∨ (p.n : Int) - a < len0 (p.g a)
     · rw [if_pos h1] at h
       exact absurd h (by decide)
     · rw [if_neg h1] at h ⊢
       by_cases h2 : conts p.g a (len0 (p.g a) - 1).toNat = true ∧ wid (acc p.g a (head0 (len0 (p.g a))) (len0 (p.g a) - 1).toNat) = len0 (p.g a)
       · rw [if_pos h2] at h ⊢
         have := wid_cases (acc p.g a (head0 (len0 (p.g a))) (len0 (p.g a) - 1).toNat)
         simp only at h ⊢
         omega
       · rw [if_neg h2] at h
         exact absurd h (by decide)
   · have := hg a
     simp only
     omega
theorem zeroN (w : World) : (zeroValue 3).run Tryz.prog w = .ok (.int .i64 0) w := by kernel_rfl
theorem wpList_look_i {w : World} {ops : Array Oper} {rest : List Oper} {o : Oper} {a : Act} {Q : Exit → Act → World → Prop} (hg : o.guard = none) (m x : Operand) (hop : o.op = Op.lookup 53 m x true)
   (b n : Nat) (L : List (Int × Int)) (hm : a.eval m = .map (some b)) (hown : MapI w b n L) (key : Int) (hx : a.eval x = .int .i64 key) (hk : -9223372036854775808 ≤ key ∧ key ≤ 9223372036854775807)
   (hK : wpList Tryz.prog ops Q rest (a.put o.dst (.tuple #[.int .i64 (lookI L key), .bool (hasI L key)])) w) :
   wpList Tryz.prog ops Q (o :: rest) a w := by
 refine wpList_plain hg fun K' hK' => ?_
 obtain ⟨v, ps, hrun, hv⟩ := World.ownsMap.look_ok hown (int_keyed Tryz.underlying3) Tryz.underlying53 (zeroN w) (show RV (.int .i64 0) = some (.held (.int .i64 0), []) from rfl) (keyOf_int_mk Tryz.underlying3 (a := key) (by show (decide (-9223372036854775808 ≤ key) && decide (key ≤ 9223372036854775807)) = true; simp [hk.1, hk.2]))
 rw [at_LI] at hv
 rw [has_LI] at hrun
 obtain rfl := rv_inv hv
 unfold Oper.wp
 simp [execOp, hop, hm, hx, hrun, Result.andThen]
 exact hK' _ _ hK
theorem look_esc (c : Int) : lookI escL c = simpleE c ∧ hasI escL c = decide (simpleE c ≠ 0) := by
 unfold lookI escL simpleE hasI
 simp only [lookI, List.any_cons, List.any_nil]
 by_cases h1 : c = 97
 · subst h1; decide
 by_cases h2 : c = 101
 · subst h2; decide
 by_cases h3 : c = 102
 · subst h3; decide
 by_cases h4 : c = 110
 · subst h4; decide
 by_cases h5 : c = 114
 · subst h5; decide
 by_cases h6 : c = 116
 · subst h6; decide
 simp [h1, h2, h3, h4, h5, h6, Ne.symm h1, Ne.symm h2, Ne.symm h3, Ne.symm h4, Ne.symm h5, Ne.symm h6]
theorem look_ass (c : Int) : lookI assL c = assertE c ∧ hasI assL c = decide (assertE c ≠ 0) := by
 unfold lookI assL assertE hasI
 simp only [lookI, List.any_cons, List.any_nil]
 by_cases h1 : c = 98
 · subst h1; decide
 by_cases h2 : c = 66
 · subst h2; decide
 by_cases h3 : c = 65
 · subst h3; decide
 by_cases h4 : c = 122
 · subst h4; decide
 by_cases h5 : c = 90
 · subst h5; decide
 by_cases h6 : c = 71
 · subst h6; decide
 simp [h1, h2, h3, h4, h5, h6, Ne.symm h1, Ne.symm h2, Ne.symm h3, Ne.symm h4, Ne.symm h5, Ne.symm h6]
theorem norm_len {c : Int} : (escP c).length ≤ 1000000 := clen (prw.escP_canon c)
def MbOk (C : Cf) (w : World) (a f : Nat) (T : Rw) : Option (Tk × Nat) → Ending → World → Prop
 | none => RetTB C w tk0 false a f T
 | some r => RetTB C w r.1 true r.2 f T
set_option maxRecDepth 100000 in
set_option maxHeartbeats 2000000 in
theorem common_a {C : Cf} {w : World} {a f : Nat} {T : Rw} (h : LX C w a f T) (c : Int) (hc : -1 ≤ c ∧ c ≤ 1114111) (h1 : simpleE c ≠ 0) : Calls Tryz.prog 64 #[.pointer (some ⟨C.L, 0, none⟩), .int .i64 c] w (RP C w (C.p.common f c a) (MbOk C w a f T)) := by
 have hs : C.p.common f c a = .ok (some ({ kind := 1, c := simpleE c }, a)) := by unfold Pt.common; rw [if_pos h1]
 have HS := Lib.hid hs
 have hbw := below_al w ob00
 have hx0 := h.below hbw
 have hg0 := heap_alloc_new w (.cells #[.int .i64 0, .int .i64 0, .int .i64 0, .int .i64 0, .slice none 0 0, .bool false, .int .i64 0, .int .i64 0, .int .i64 0, .string ⟨#[]⟩, .int .i64 0, .int .i64 0] 30)
 have HLE := Lib.hid (look_esc c)
 have hrl := h.row_lt (g := w.heap.size) (Nat.le_refl _)
 have hB := h.hb
 have hlt := h.cells.lt
 have hsz : (w.alloc ob00).heap.size = w.heap.size + 1 := World.size_alloc ..
 obtain ⟨m1, hm1⟩ := hx0.e1
 have c6 := hx0.cells.c6
 have HM := Lib.hid hm1
 clear hm1
 have HD := Lib.hid (show decide (simpleE c ≠ 0) = true by simpa using h1)
 clear hs h1
 rw [HD.out] at HLE
 go_enter Tryz.func64, Tryz.ntmps64
 go_upto_region 1 with (fail)
 generalize hWW : w.alloc ob00 = W at *
 have HSZ := Lib.hid hsz
 have HG0 := Lib.hid hg0
 have hkw := Kept.of_below (L := C.L) hbw
 have hk0 := Kept.refl W.heap.size C.L W
 clear hWW hsz hg0 hbw
 have HG := Lib.hid ((hk0.block w.heap.size (by rw [HSZ.out]; omega) (by omega)).trans HG0.out)
 go_wp2_with first | (refine wpList_look_i rfl _ _ rfl C.m1 m1 escL rfl HM.out c rfl (by omega) ?_; rw [HLE.out.1, HLE.out.2]) | (refine wpList_store_tok rfl rfl _ _ rfl w.heap.size rfl _ (tkR (.slice none 0 0) ({ kind := 1, c := simpleE c } : Tk)) HG.out rfl rfl (tkR_one (t := ({ kind := 1, c := simpleE c } : Tk)) (ownR_nil W 0)) rfl ?_)
 refine bodyPost_ret (results_tok2 rfl _ _ w.heap.size (tkR (.slice none 0 0) ({ kind := 1, c := simpleE c } : Tk)) rfl (setRow_heap _ _ _ _ _ _ HG.out) rfl) rfl ?_
 exact rp_ok HS.out ⟨_, rfl, ownR_setRow (D := (({ kind := 1, c := simpleE c } : Tk) : Tk).set) (ownR_nil _ _) HG.out, hx0.setRow HG.out hB hrl, (hkw.then hk0).setRow (Nat.le_refl _) _⟩
set_option maxRecDepth 100000 in
set_option maxHeartbeats 2000000 in
theorem common_b {C : Cf} {w : World} {a f : Nat} {T : Rw} (h : LX C w a f T) {c : Int} (hc : -1 ≤ c ∧ c ≤ 1114111) (h2 : c = 120) : Calls Tryz.prog 64 #[.pointer (some ⟨C.L, 0, none⟩), .int .i64 c] w (RP C w (C.p.common f c a) (MbOk C w a f T)) := by
 subst h2
 have h1 : simpleE 120 = 0 := rfl
 have hs : C.p.common f 120 a = (match C.p.hexa f a with | .error e => .error e | .ok (v, b) => .ok (some ({ kind := 1, c := v }, b))) := by unfold Pt.common; rw [if_neg (by simp [h1]), if_pos rfl]; rfl
 have hbw := below_al w ob00
 have hx0 := h.below hbw
 have hg0 := heap_alloc_new w (.cells #[.int .i64 0, .int .i64 0, .int .i64 0, .int .i64 0, .slice none 0 0, .bool false, .int .i64 0, .int .i64 0, .int .i64 0, .string ⟨#[]⟩, .int .i64 0, .int .i64 0] 30)
 have HLE := Lib.hid (look_esc 120)
 have hrl := h.row_lt (g := w.heap.size) (Nat.le_refl _)
 have hB := h.hb
 have hlt := h.cells.lt
 have hsz : (w.alloc ob00).heap.size = w.heap.size + 1 := World.size_alloc ..
 obtain ⟨m1, hm1⟩ := hx0.e1
 have c6 := hx0.cells.c6
 have HM := Lib.hid hm1
 clear hm1
 have HSE := Lib.hid h1
 have HD := Lib.hid (show decide (simpleE 120 ≠ 0) = false by simpa using h1)
 rw [HD.out] at HLE
 clear h1
 cases hh : C.p.hexa f a with
 | error x =>
   rw [hh] at hs
   have HS := Lib.hid hs
   have HH := Lib.hid hh
   clear hs hh
   go_enter Tryz.func64, Tryz.ntmps64
   go_upto_region 1 with (fail)
   generalize hWW : w.alloc ob00 = W at *
   have HSZ := Lib.hid hsz
   have HG0 := Lib.hid hg0
   have hkw := Kept.of_below (L := C.L) hbw
   have hk0 := Kept.refl W.heap.size C.L W
   clear hWW hsz hg0 hbw
   go_wp2_with (refine wpList_look_i rfl _ _ rfl C.m1 m1 escL rfl HM.out 120 rfl (by omega) ?_; rw [HLE.out.1, HLE.out.2])
   refine Calls.mono (hexa_any hx0) ?_
   intro e1 w1 hr
   rw [HH.out] at hr
   obtain ⟨rfl, hkn⟩ := hr
   exact ⟨rfl, rp_err HS.out ⟨rfl, ((hkw.then hk0).mono hB).trans hkn⟩⟩
 | ok r =>
   obtain ⟨v, b⟩ := r
   rw [hh] at hs
   have HS := Lib.hid hs
   have HH := Lib.hid hh
   clear hs hh
   go_enter Tryz.func64, Tryz.ntmps64
   go_upto_region 1 with (fail)
   generalize hWW : w.alloc ob00 = W at *
   have HSZ := Lib.hid hsz
   have HG0 := Lib.hid hg0
   have hkw := Kept.of_below (L := C.L) hbw
   have hk0 := Kept.refl W.heap.size C.L W
   clear hWW hsz hg0 hbw
   go_wp2_with (refine wpList_look_i rfl _ _ rfl C.m1 m1 escL rfl HM.out 120 rfl (by omega) ?_; rw [HLE.out.1, HLE.out.2])
   refine Calls.mono (hexa_any hx0) ?_
   intro e1 w1 hr
   rw [HH.out] at hr
   obtain ⟨rfl, hx1, hkn⟩ := hr
   have hk1 := hk0.then hkn
   clear hkn
   have HG := Lib.hid ((hk1.block w.heap.size (by rw [HSZ.out]; omega) (by omega)).trans HG0.out)
   go_wp2_with (refine wpList_store_tok rfl rfl _ _ rfl w.heap.size rfl _ (tkR (.slice none 0 0) ({ kind := 1, c := v } : Tk)) HG.out rfl rfl (tkR_one (t := ({ kind := 1, c := v } : Tk)) (ownR_nil W 0)) rfl ?_)
   refine bodyPost_ret (results_tok2 rfl _ _ w.heap.size (tkR (.slice none 0 0) ({ kind := 1, c := v } : Tk)) rfl (setRow_heap _ _ _ _ _ _ HG.out) rfl) rfl ?_
   exact rp_ok HS.out ⟨_, rfl, ownR_setRow (D := (({ kind := 1, c := v } : Tk) : Tk).set) (ownR_nil _ _) HG.out, hx1.setRow HG.out hB hrl, (hkw.then hk1).setRow (Nat.le_refl _) _⟩
set_option maxRecDepth 100000 in
set_option maxHeartbeats 2000000 in
theorem common_c {C : Cf} {w : World} {a f : Nat} {T : Rw} (h : LX C w a f T) {c : Int} (hc : -1 ≤ c ∧ c ≤ 1114111) (h2 : c = 112) : Calls Tryz.prog 64 #[.pointer (some ⟨C.L, 0, none⟩), .int .i64 c] w (RP C w (C.p.common f c a) (MbOk C w a f T)) := by
 subst h2
 have h1 : simpleE 112 = 0 := rfl
 have hs : C.p.common f 112 a = (match C.p.prop f a false with | .error e => .error e | .ok r => .ok (some r)) := by unfold Pt.common; rw [if_neg (by simp [h1]), if_neg (by decide), if_pos (by decide)]; rfl
 have hbw := below_al w ob00
 have hx0 := h.below hbw
 have hg0 := heap_alloc_new w (.cells #[.int .i64 0, .int .i64 0, .int .i64 0, .int .i64 0, .slice none 0 0, .bool false, .int .i64 0, .int .i64 0, .int .i64 0, .string ⟨#[]⟩, .int .i64 0, .int .i64 0] 30)
 have HLE := Lib.hid (look_esc 112)
 have hrl := h.row_lt (g := w.heap.size) (Nat.le_refl _)
 have hB := h.hb
 have hlt := h.cells.lt
 have hsz : (w.alloc ob00).heap.size = w.heap.size + 1 := World.size_alloc ..
 obtain ⟨m1, hm1⟩ := hx0.e1
 have c6 := hx0.cells.c6
 have HM := Lib.hid hm1
 clear hm1
 have HSE := Lib.hid h1
 have HD := Lib.hid (show decide (simpleE 112 ≠ 0) = false by simpa using h1)
 rw [HD.out] at HLE
 clear h1
 cases hh : C.p.prop f a false with
 | error x =>
   rw [hh] at hs
   have HS := Lib.hid hs
   have HH := Lib.hid hh
   clear hs hh
   go_enter Tryz.func64, Tryz.ntmps64
   go_upto_region 1 with (fail)
   generalize hWW : w.alloc ob00 = W at *
   have HSZ := Lib.hid hsz
   have HG0 := Lib.hid hg0
   have hkw := Kept.of_below (L := C.L) hbw
   have hk0 := Kept.refl W.heap.size C.L W
   clear hWW hsz hg0 hbw
   go_wp2_with (refine wpList_look_i rfl _ _ rfl C.m1 m1 escL rfl HM.out 112 rfl (by omega) ?_; rw [HLE.out.1, HLE.out.2])
   refine Calls.mono (property_any hx0 false) ?_
   intro e1 w1 hr
   rw [HH.out] at hr
   obtain ⟨rfl, hkn⟩ := hr
   exact ⟨rfl, rp_err HS.out ⟨rfl, ((hkw.then hk0).mono hB).trans hkn⟩⟩
 | ok r =>
   obtain ⟨t, b⟩ := r
   rw [hh] at hs
   have HS := Lib.hid hs
   have HH := Lib.hid hh
   clear hs hh
   go_enter Tryz.func64, Tryz.ntmps64
   go_upto_region 1 with (fail)
   generalize hWW : w.alloc ob00 = W at *
   have HSZ := Lib.hid hsz
   have HG0 := Lib.hid hg0
   have hkw := Kept.of_below (L := C.L) hbw
   have hk0 := Kept.refl W.heap.size C.L W
   clear hWW hsz hg0 hbw
   go_wp2_with (refine wpList_look_i rfl _ _ rfl C.m1 m1 escL rfl HM.out 112 rfl (by omega) ?_; rw [HLE.out.1, HLE.out.2])
   refine Calls.mono (property_any hx0 false) ?_
   intro e1 w1 hr
   rw [HH.out] at hr
   obtain ⟨v1, rfl, ho, hx1, hkn⟩ := hr
   replace ho := ownR_base ho (hkw.then hk0).size
   obtain ⟨x1, y1, rfl⟩ := ownR_len ho
   have HO1 := Lib.hid ho
   have hk1 := hk0.then hkn
   clear hkn ho
   have HG := Lib.hid ((hk1.block w.heap.size (by rw [HSZ.out]; omega) (by omega)).trans HG0.out)
   go_wp2_with (refine wpList_store_tok rfl rfl _ _ rfl w.heap.size rfl _ (tkR (.slice x1 t.set.length y1) t) HG.out rfl rfl (tkR_one (t := t) (HO1.out)) rfl ?_)
   refine bodyPost_ret (results_tok2 rfl _ _ w.heap.size (tkR (.slice x1 t.set.length y1) t) rfl (setRow_heap _ _ _ _ _ _ HG.out) rfl) rfl ?_
   exact rp_ok HS.out ⟨_, rfl, ownR_setRow (D := (t : Tk).set) (HO1.out) HG.out, hx1.setRow HG.out hB hrl, (hkw.then hk1).setRow (Nat.le_refl _) _⟩
set_option maxRecDepth 100000 in
set_option maxHeartbeats 2000000 in
theorem common_d {C : Cf} {w : World} {a f : Nat} {T : Rw} (h : LX C w a f T) {c : Int} (hc : -1 ≤ c ∧ c ≤ 1114111) (h2 : c = 80) : Calls Tryz.prog 64 #[.pointer (some ⟨C.L, 0, none⟩), .int .i64 c] w (RP C w (C.p.common f c a) (MbOk C w a f T)) := by
 subst h2
 have h1 : simpleE 80 = 0 := rfl
 have hs : C.p.common f 80 a = (match C.p.prop f a true with | .error e => .error e | .ok r => .ok (some r)) := by unfold Pt.common; rw [if_neg (by simp [h1]), if_neg (by decide), if_pos (by decide)]; rfl
 have hbw := below_al w ob00
 have hx0 := h.below hbw
 have hg0 := heap_alloc_new w (.cells #[.int .i64 0, .int .i64 0, .int .i64 0, .int .i64 0, .slice none 0 0, .bool false, .int .i64 0, .int .i64 0, .int .i64 0, .string ⟨#[]⟩, .int .i64 0, .int .i64 0] 30)
 have HLE := Lib.hid (look_esc 80)
 have hrl := h.row_lt (g := w.heap.size) (Nat.le_refl _)
 have hB := h.hb
 have hlt := h.cells.lt
 have hsz : (w.alloc ob00).heap.size = w.heap.size + 1 := World.size_alloc ..
 obtain ⟨m1, hm1⟩ := hx0.e1
 have c6 := hx0.cells.c6
 have HM := Lib.hid hm1
 clear hm1
 have HSE := Lib.hid h1
 have HD := Lib.hid (show decide (simpleE 80 ≠ 0) = false by simpa using h1)
 rw [HD.out] at HLE
 clear h1
 cases hh : C.p.prop f a true with
 | error x =>
   rw [hh] at hs
   have HS := Lib.hid hs
   have HH := Lib.hid hh
   clear hs hh
   go_enter Tryz.func64, Tryz.ntmps64
   go_upto_region 1 with (fail)
   generalize hWW : w.alloc ob00 = W at *
   have HSZ := Lib.hid hsz
   have HG0 := Lib.hid hg0
   have hkw := Kept.of_below (L := C.L) hbw
   have hk0 := Kept.refl W.heap.size C.L W
   clear hWW hsz hg0 hbw
   go_wp2_with (refine wpList_look_i rfl _ _ rfl C.m1 m1 escL rfl HM.out 80 rfl (by omega) ?_; rw [HLE.out.1, HLE.out.2])
   refine Calls.mono (property_any hx0 true) ?_
   intro e1 w1 hr
   rw [HH.out] at hr
   obtain ⟨rfl, hkn⟩ := hr
   exact ⟨rfl, rp_err HS.out ⟨rfl, ((hkw.then hk0).mono hB).trans hkn⟩⟩
 | ok r =>
   obtain ⟨t, b⟩ := r
   rw [hh] at hs
   have HS := Lib.hid hs
   have HH := Lib.hid hh
   clear hs hh
   go_enter Tryz.func64, Tryz.ntmps64
   go_upto_region 1 with (fail)
   generalize hWW : w.alloc ob00 = W at *
   have HSZ := Lib.hid hsz
   have HG0 := Lib.hid hg0
   have hkw := Kept.of_below (L := C.L) hbw
   have hk0 := Kept.refl W.heap.size C.L W
   clear hWW hsz hg0 hbw
   go_wp2_with (refine wpList_look_i rfl _ _ rfl C.m1 m1 escL rfl HM.out 80 rfl (by omega) ?_; rw [HLE.out.1, HLE.out.2])
   refine Calls.mono (property_any hx0 true) ?_
   intro e1 w1 hr
   rw [HH.out] at hr
   obtain ⟨v1, rfl, ho, hx1, hkn⟩ := hr
   replace ho := ownR_base ho (hkw.then hk0).size
   obtain ⟨x1, y1, rfl⟩ := ownR_len ho
   have HO1 := Lib.hid ho
   have hk1 := hk0.then hkn
   clear hkn ho
   have HG := Lib.hid ((hk1.block w.heap.size (by rw [HSZ.out]; omega) (by omega)).trans HG0.out)
   go_wp2_with (refine wpList_store_tok rfl rfl _ _ rfl w.heap.size rfl _ (tkR (.slice x1 t.set.length y1) t) HG.out rfl rfl (tkR_one (t := t) (HO1.out)) rfl ?_)
   refine bodyPost_ret (results_tok2 rfl _ _ w.heap.size (tkR (.slice x1 t.set.length y1) t) rfl (setRow_heap _ _ _ _ _ _ HG.out) rfl) rfl ?_
   exact rp_ok HS.out ⟨_, rfl, ownR_setRow (D := (t : Tk).set) (HO1.out) HG.out, hx1.setRow HG.out hB hrl, (hkw.then hk1).setRow (Nat.le_refl _) _⟩
set_option maxRecDepth 100000 in
set_option maxHeartbeats 2000000 in
theorem common_e {C : Cf} {w : World} {a f : Nat} {T : Rw} (h : LX C w a f T) (c : Int) (hc : -1 ≤ c ∧ c ≤ 1114111) (h1 : simpleE c = 0) (h120 : ¬ c = 120) (h112 : ¬ c = 112) (h80 : ¬ c = 80) (h65 : 65 ≤ c) (h90 : c ≤ 90) : Calls Tryz.prog 64 #[.pointer (some ⟨C.L, 0, none⟩), .int .i64 c] w (RP C w (C.p.common f c a) (MbOk C w a f T)) := by
 have hs : C.p.common f c a = if escB (c + 32) = true then .ok (some ({ kind := 2, set := normR C.p.most (escP (c + 32)), neg := true }, a)) else .ok none := by
   have e1 : capB c = true := by unfold capB; simp; omega
   have e2 : lowC c = c + 32 := by unfold lowC; rw [e1]; rfl
   unfold Pt.common
   rw [if_neg (by simp [h1]), if_neg h120, if_neg (by omega), e1, e2]
 have hbw := below_al w ob00
 have hx0 := h.below hbw
 have hg0 := heap_alloc_new w (.cells #[.int .i64 0, .int .i64 0, .int .i64 0, .int .i64 0, .slice none 0 0, .bool false, .int .i64 0, .int .i64 0, .int .i64 0, .string ⟨#[]⟩, .int .i64 0, .int .i64 0] 30)
 have HLE := Lib.hid (look_esc c)
 have hrl := h.row_lt (g := w.heap.size) (Nat.le_refl _)
 have hB := h.hb
 have hlt := h.cells.lt
 have hsz : (w.alloc ob00).heap.size = w.heap.size + 1 := World.size_alloc ..
 obtain ⟨m1, hm1⟩ := hx0.e1
 have c6 := hx0.cells.c6
 have HM := Lib.hid hm1
 clear hm1
 have HSE := Lib.hid h1
 have HD := Lib.hid (show decide (simpleE c ≠ 0) = false by simpa using h1)
 rw [HD.out] at HLE
 clear h1
 have HES := Lib.hid (fun u => prw.esc_any (c + 32) u)
 have HWF := Lib.hid (wf_canon (prw.escP_canon (c + 32)).2)
 have HLN := Lib.hid (norm_len (c := c + 32))
 cases he : escB (c + 32) with
 | false =>
   rw [if_neg (by simp [he])] at hs
   have HS := Lib.hid hs
   have HE := Lib.hid he
   clear hs he
   go_enter Tryz.func64, Tryz.ntmps64
   go_upto_region 1 with (fail)
   generalize hWW : w.alloc ob00 = W at *
   have HSZ := Lib.hid hsz
   have HG0 := Lib.hid hg0
   have hkw := Kept.of_below (L := C.L) hbw
   have hk0 := Kept.refl W.heap.size C.L W
   clear hWW hsz hg0 hbw
   go_wp2_with (refine wpList_look_i rfl _ _ rfl C.m1 m1 escL rfl HM.out c rfl (by omega) ?_; rw [HLE.out.1, HLE.out.2])
   refine (HES.out _).mono ?_
   rintro e1 w1 ⟨v1, rfl, ho, hb1⟩
   rw [HE.out]
   have hx1 := hx0.below hb1
   have hk1 := hk0.then (Kept.of_below (L := C.L) hb1)
   have HRS := Lib.hid (rs_own ho HWF.out)
   clear ho
   have HG := Lib.hid ((hk1.block w.heap.size (by rw [HSZ.out]; omega) (by omega)).trans HG0.out)
   go_wp2_with (refine wpList_store_tok rfl rfl _ _ rfl w.heap.size rfl _ (tkR (.slice none 0 0) tk0) HG.out rfl rfl (tkR_one (t := tk0) (ownR_nil w1 0)) rfl ?_)
   refine bodyPost_ret (results_tok2 rfl _ _ w.heap.size (tkR (.slice none 0 0) tk0) rfl (setRow_heap _ _ _ _ _ _ HG.out) rfl) rfl ?_
   exact rp_ok HS.out ⟨_, rfl, ownR_setRow (D := (tk0 : Tk).set) (ownR_nil _ _) HG.out, hx1.setRow HG.out hB hrl, (hkw.then hk1).setRow (Nat.le_refl _) _⟩
 | true =>
   rw [if_pos he] at hs
   have HS := Lib.hid hs
   have HE := Lib.hid he
   clear hs he
   go_enter Tryz.func64, Tryz.ntmps64
   go_upto_region 1 with (fail)
   generalize hWW : w.alloc ob00 = W at *
   have HSZ := Lib.hid hsz
   have HG0 := Lib.hid hg0
   have hkw := Kept.of_below (L := C.L) hbw
   have hk0 := Kept.refl W.heap.size C.L W
   clear hWW hsz hg0 hbw
   go_wp2_with (refine wpList_look_i rfl _ _ rfl C.m1 m1 escL rfl HM.out c rfl (by omega) ?_; rw [HLE.out.1, HLE.out.2])
   refine (HES.out _).mono ?_
   rintro e1 w1 ⟨v1, rfl, ho, hb1⟩
   rw [HE.out]
   have hx1 := hx0.below hb1
   have hk1 := hk0.then (Kept.of_below (L := C.L) hb1)
   have HRS := Lib.hid (rs_own ho HWF.out)
   clear ho
   go_wp2_with fail
   refine Calls.mono (set_any hx1 v1 (escP (c + 32)) true HRS.out HLN.out) ?_
   intro e2 w2 hr
   obtain ⟨v2, rfl, ho, hx2, hkn⟩ := hr
   replace ho := ownR_base ho (hkw.then hk1).size
   obtain ⟨x2, y2, rfl⟩ := ownR_len ho
   have HO2 := Lib.hid ho
   have hk2 := hk1.then hkn
   clear hkn ho
   have HG := Lib.hid ((hk2.block w.heap.size (by rw [HSZ.out]; omega) (by omega)).trans HG0.out)
   go_wp2_with (refine wpList_store_tok rfl rfl _ _ rfl w.heap.size rfl _ (tkR (.slice x2 (normR C.p.most (escP (c + 32))).length y2) ({ kind := 2, set := normR C.p.most (escP (c + 32)), neg := true } : Tk)) HG.out rfl rfl (tkR_one (t := ({ kind := 2, set := normR C.p.most (escP (c + 32)), neg := true } : Tk)) (HO2.out)) rfl ?_)
   refine bodyPost_ret (results_tok2 rfl _ _ w.heap.size (tkR (.slice x2 (normR C.p.most (escP (c + 32))).length y2) ({ kind := 2, set := normR C.p.most (escP (c + 32)), neg := true } : Tk)) rfl (setRow_heap _ _ _ _ _ _ HG.out) rfl) rfl ?_
   exact rp_ok HS.out ⟨_, rfl, ownR_setRow (D := (({ kind := 2, set := normR C.p.most (escP (c + 32)), neg := true } : Tk) : Tk).set) (HO2.out) HG.out, hx2.setRow HG.out hB hrl, (hkw.then hk2).setRow (Nat.le_refl _) _⟩
set_option maxRecDepth 100000 in
set_option maxHeartbeats 2000000 in
theorem common_f {C : Cf} {w : World} {a f : Nat} {T : Rw} (h : LX C w a f T) (c : Int) (hc : -1 ≤ c ∧ c ≤ 1114111) (h1 : simpleE c = 0) (h120 : ¬ c = 120) (h112 : ¬ c = 112) (h80 : ¬ c = 80) (h65 : ¬ 65 ≤ c) : Calls Tryz.prog 64 #[.pointer (some ⟨C.L, 0, none⟩), .int .i64 c] w (RP C w (C.p.common f c a) (MbOk C w a f T)) := by
 have hs : C.p.common f c a = if escB (c) = true then .ok (some ({ kind := 2, set := normR C.p.most (escP (c)), neg := false }, a)) else .ok none := by
   have e1 : capB c = false := by unfold capB; simp; omega
   have e2 : lowC c = c := by unfold lowC; rw [e1]; rfl
   unfold Pt.common
   rw [if_neg (by simp [h1]), if_neg h120, if_neg (by omega), e1, e2]
 have hbw := below_al w ob00
 have hx0 := h.below hbw
 have hg0 := heap_alloc_new w (.cells #[.int .i64 0, .int .i64 0, .int .i64 0, .int .i64 0, .slice none 0 0, .bool false, .int .i64 0, .int .i64 0, .int .i64 0, .string ⟨#[]⟩, .int .i64 0, .int .i64 0] 30)
 have HLE := Lib.hid (look_esc c)
 have hrl := h.row_lt (g := w.heap.size) (Nat.le_refl _)
 have hB := h.hb
 have hlt := h.cells.lt
 have hsz : (w.alloc ob00).heap.size = w.heap.size + 1 := World.size_alloc ..
 obtain ⟨m1, hm1⟩ := hx0.e1
 have c6 := hx0.cells.c6
 have HM := Lib.hid hm1
 clear hm1
 have HSE := Lib.hid h1
 have HD := Lib.hid (show decide (simpleE c ≠ 0) = false by simpa using h1)
 rw [HD.out] at HLE
 clear h1
 have HES := Lib.hid (fun u => prw.esc_any (c) u)
 have HWF := Lib.hid (wf_canon (prw.escP_canon (c)).2)
 have HLN := Lib.hid (norm_len (c := c))
 cases he : escB (c) with
 | false =>
   rw [if_neg (by simp [he])] at hs
   have HS := Lib.hid hs
   have HE := Lib.hid he
   clear hs he
   go_enter Tryz.func64, Tryz.ntmps64
   go_upto_region 1 with (fail)
   generalize hWW : w.alloc ob00 = W at *
   have HSZ := Lib.hid hsz
   have HG0 := Lib.hid hg0
   have hkw := Kept.of_below (L := C.L) hbw
   have hk0 := Kept.refl W.heap.size C.L W
   clear hWW hsz hg0 hbw
   go_wp2_with (refine wpList_look_i rfl _ _ rfl C.m1 m1 escL rfl HM.out c rfl (by omega) ?_; rw [HLE.out.1, HLE.out.2])
   refine (HES.out _).mono ?_
   rintro e1 w1 ⟨v1, rfl, ho, hb1⟩
   rw [HE.out]
   have hx1 := hx0.below hb1
   have hk1 := hk0.then (Kept.of_below (L := C.L) hb1)
   have HRS := Lib.hid (rs_own ho HWF.out)
   clear ho
   have HG := Lib.hid ((hk1.block w.heap.size (by rw [HSZ.out]; omega) (by omega)).trans HG0.out)
   go_wp2_with (refine wpList_store_tok rfl rfl _ _ rfl w.heap.size rfl _ (tkR (.slice none 0 0) tk0) HG.out rfl rfl (tkR_one (t := tk0) (ownR_nil w1 0)) rfl ?_)
   refine bodyPost_ret (results_tok2 rfl _ _ w.heap.size (tkR (.slice none 0 0) tk0) rfl (setRow_heap _ _ _ _ _ _ HG.out) rfl) rfl ?_
   exact rp_ok HS.out ⟨_, rfl, ownR_setRow (D := (tk0 : Tk).set) (ownR_nil _ _) HG.out, hx1.setRow HG.out hB hrl, (hkw.then hk1).setRow (Nat.le_refl _) _⟩
 | true =>
   rw [if_pos he] at hs
   have HS := Lib.hid hs
   have HE := Lib.hid he
   clear hs he
   go_enter Tryz.func64, Tryz.ntmps64
   go_upto_region 1 with (fail)
   generalize hWW : w.alloc ob00 = W at *
   have HSZ := Lib.hid hsz
   have HG0 := Lib.hid hg0
   have hkw := Kept.of_below (L := C.L) hbw
   have hk0 := Kept.refl W.heap.size C.L W
   clear hWW hsz hg0 hbw
   go_wp2_with (refine wpList_look_i rfl _ _ rfl C.m1 m1 escL rfl HM.out c rfl (by omega) ?_; rw [HLE.out.1, HLE.out.2])
   refine (HES.out _).mono ?_
   rintro e1 w1 ⟨v1, rfl, ho, hb1⟩
   rw [HE.out]
   have hx1 := hx0.below hb1
   have hk1 := hk0.then (Kept.of_below (L := C.L) hb1)
   have HRS := Lib.hid (rs_own ho HWF.out)
   clear ho
   go_wp2_with fail
   refine Calls.mono (set_any hx1 v1 (escP (c)) false HRS.out HLN.out) ?_
   intro e2 w2 hr
   obtain ⟨v2, rfl, ho, hx2, hkn⟩ := hr
   replace ho := ownR_base ho (hkw.then hk1).size
   obtain ⟨x2, y2, rfl⟩ := ownR_len ho
   have HO2 := Lib.hid ho
   have hk2 := hk1.then hkn
   clear hkn ho
   have HG := Lib.hid ((hk2.block w.heap.size (by rw [HSZ.out]; omega) (by omega)).trans HG0.out)
   go_wp2_with (refine wpList_store_tok rfl rfl _ _ rfl w.heap.size rfl _ (tkR (.slice x2 (normR C.p.most (escP (c))).length y2) ({ kind := 2, set := normR C.p.most (escP (c)), neg := false } : Tk)) HG.out rfl rfl (tkR_one (t := ({ kind := 2, set := normR C.p.most (escP (c)), neg := false } : Tk)) (HO2.out)) rfl ?_)
   refine bodyPost_ret (results_tok2 rfl _ _ w.heap.size (tkR (.slice x2 (normR C.p.most (escP (c))).length y2) ({ kind := 2, set := normR C.p.most (escP (c)), neg := false } : Tk)) rfl (setRow_heap _ _ _ _ _ _ HG.out) rfl) rfl ?_
   exact rp_ok HS.out ⟨_, rfl, ownR_setRow (D := (({ kind := 2, set := normR C.p.most (escP (c)), neg := false } : Tk) : Tk).set) (HO2.out) HG.out, hx2.setRow HG.out hB hrl, (hkw.then hk2).setRow (Nat.le_refl _) _⟩
set_option maxRecDepth 100000 in
set_option maxHeartbeats 2000000 in
theorem common_g {C : Cf} {w : World} {a f : Nat} {T : Rw} (h : LX C w a f T) (c : Int) (hc : -1 ≤ c ∧ c ≤ 1114111) (h1 : simpleE c = 0) (h120 : ¬ c = 120) (h112 : ¬ c = 112) (h80 : ¬ c = 80) (h65 : 65 ≤ c) (h90 : ¬ c ≤ 90) : Calls Tryz.prog 64 #[.pointer (some ⟨C.L, 0, none⟩), .int .i64 c] w (RP C w (C.p.common f c a) (MbOk C w a f T)) := by
 have hs : C.p.common f c a = if escB (c) = true then .ok (some ({ kind := 2, set := normR C.p.most (escP (c)), neg := false }, a)) else .ok none := by
   have e1 : capB c = false := by unfold capB; simp; omega
   have e2 : lowC c = c := by unfold lowC; rw [e1]; rfl
   unfold Pt.common
   rw [if_neg (by simp [h1]), if_neg h120, if_neg (by omega), e1, e2]
 have hbw := below_al w ob00
 have hx0 := h.below hbw
 have hg0 := heap_alloc_new w (.cells #[.int .i64 0, .int .i64 0, .int .i64 0, .int .i64 0, .slice none 0 0, .bool false, .int .i64 0, .int .i64 0, .int .i64 0, .string ⟨#[]⟩, .int .i64 0, .int .i64 0] 30)
 have HLE := Lib.hid (look_esc c)
 have hrl := h.row_lt (g := w.heap.size) (Nat.le_refl _)
 have hB := h.hb
 have hlt := h.cells.lt
 have hsz : (w.alloc ob00).heap.size = w.heap.size + 1 := World.size_alloc ..
 obtain ⟨m1, hm1⟩ := hx0.e1
 have c6 := hx0.cells.c6
 have HM := Lib.hid hm1
 clear hm1
 have HSE := Lib.hid h1
 have HD := Lib.hid (show decide (simpleE c ≠ 0) = false by simpa using h1)
 rw [HD.out] at HLE
 clear h1
 have HES := Lib.hid (fun u => prw.esc_any (c) u)
 have HWF := Lib.hid (wf_canon (prw.escP_canon (c)).2)
 have HLN := Lib.hid (norm_len (c := c))
 cases he : escB (c) with
 | false =>
   rw [if_neg (by simp [he])] at hs
   have HS := Lib.hid hs
   have HE := Lib.hid he
   clear hs he
   go_enter Tryz.func64, Tryz.ntmps64
   go_upto_region 1 with (fail)
   generalize hWW : w.alloc ob00 = W at *
   have HSZ := Lib.hid hsz
   have HG0 := Lib.hid hg0
   have hkw := Kept.of_below (L := C.L) hbw
   have hk0 := Kept.refl W.heap.size C.L W
   clear hWW hsz hg0 hbw
   go_wp2_with (refine wpList_look_i rfl _ _ rfl C.m1 m1 escL rfl HM.out c rfl (by omega) ?_; rw [HLE.out.1, HLE.out.2])
   refine (HES.out _).mono ?_
   rintro e1 w1 ⟨v1, rfl, ho, hb1⟩
   rw [HE.out]
   have hx1 := hx0.below hb1
   have hk1 := hk0.then (Kept.of_below (L := C.L) hb1)
   have HRS := Lib.hid (rs_own ho HWF.out)
   clear ho
   have HG := Lib.hid ((hk1.block w.heap.size (by rw [HSZ.out]; omega) (by omega)).trans HG0.out)
   go_wp2_with (refine wpList_store_tok rfl rfl _ _ rfl w.heap.size rfl _ (tkR (.slice none 0 0) tk0) HG.out rfl rfl (tkR_one (t := tk0) (ownR_nil w1 0)) rfl ?_)
   refine bodyPost_ret (results_tok2 rfl _ _ w.heap.size (tkR (.slice none 0 0) tk0) rfl (setRow_heap _ _ _ _ _ _ HG.out) rfl) rfl ?_
   exact rp_ok HS.out ⟨_, rfl, ownR_setRow (D := (tk0 : Tk).set) (ownR_nil _ _) HG.out, hx1.setRow HG.out hB hrl, (hkw.then hk1).setRow (Nat.le_refl _) _⟩
 | true =>
   rw [if_pos he] at hs
   have HS := Lib.hid hs
   have HE := Lib.hid he
   clear hs he
   go_enter Tryz.func64, Tryz.ntmps64
   go_upto_region 1 with (fail)
   generalize hWW : w.alloc ob00 = W at *
   have HSZ := Lib.hid hsz
   have HG0 := Lib.hid hg0
   have hkw := Kept.of_below (L := C.L) hbw
   have hk0 := Kept.refl W.heap.size C.L W
   clear hWW hsz hg0 hbw
   go_wp2_with (refine wpList_look_i rfl _ _ rfl C.m1 m1 escL rfl HM.out c rfl (by omega) ?_; rw [HLE.out.1, HLE.out.2])
   refine (HES.out _).mono ?_
   rintro e1 w1 ⟨v1, rfl, ho, hb1⟩
   rw [HE.out]
   have hx1 := hx0.below hb1
   have hk1 := hk0.then (Kept.of_below (L := C.L) hb1)
   have HRS := Lib.hid (rs_own ho HWF.out)
   clear ho
   go_wp2_with fail
   refine Calls.mono (set_any hx1 v1 (escP (c)) false HRS.out HLN.out) ?_
   intro e2 w2 hr
   obtain ⟨v2, rfl, ho, hx2, hkn⟩ := hr
   replace ho := ownR_base ho (hkw.then hk1).size
   obtain ⟨x2, y2, rfl⟩ := ownR_len ho
   have HO2 := Lib.hid ho
   have hk2 := hk1.then hkn
   clear hkn ho
   have HG := Lib.hid ((hk2.block w.heap.size (by rw [HSZ.out]; omega) (by omega)).trans HG0.out)
   go_wp2_with (refine wpList_store_tok rfl rfl _ _ rfl w.heap.size rfl _ (tkR (.slice x2 (normR C.p.most (escP (c))).length y2) ({ kind := 2, set := normR C.p.most (escP (c)), neg := false } : Tk)) HG.out rfl rfl (tkR_one (t := ({ kind := 2, set := normR C.p.most (escP (c)), neg := false } : Tk)) (HO2.out)) rfl ?_)
   refine bodyPost_ret (results_tok2 rfl _ _ w.heap.size (tkR (.slice x2 (normR C.p.most (escP (c))).length y2) ({ kind := 2, set := normR C.p.most (escP (c)), neg := false } : Tk)) rfl (setRow_heap _ _ _ _ _ _ HG.out) rfl) rfl ?_
   exact rp_ok HS.out ⟨_, rfl, ownR_setRow (D := (({ kind := 2, set := normR C.p.most (escP (c)), neg := false } : Tk) : Tk).set) (HO2.out) HG.out, hx2.setRow HG.out hB hrl, (hkw.then hk2).setRow (Nat.le_refl _) _⟩
theorem common_any {C : Cf} {w : World} {a f : Nat} {T : Rw} (h : LX C w a f T) (c : Int) (hc : -1 ≤ c ∧ c ≤ 1114111) : Calls Tryz.prog 64 #[.pointer (some ⟨C.L, 0, none⟩), .int .i64 c] w (RP C w (C.p.common f c a) (MbOk C w a f T)) := by
 by_cases h1 : simpleE c = 0
 · by_cases h120 : c = 120
   · exact common_b h hc h120
   by_cases h112 : c = 112
   · exact common_c h hc h112
   by_cases h80 : c = 80
   · exact common_d h hc h80
   by_cases h65 : 65 ≤ c
   · by_cases h90 : c ≤ 90
     · exact common_e h c hc h1 h120 h112 h80 h65 h90
     · exact common_g h c hc h1 h120 h112 h80 h65 h90
   · exact common_f h c hc h1 h120 h112 h80 h65
 · exact common_a h c hc h1
end Go.Proofs.YtkcmjcgjfjfimaaGreatDoor.tkw
end
section
namespace Go.Proofs.YtkcmjcgjfjfimaaGreatDoor.tkw
open Go Go.RowKit Go.Maps utfp utfw ucdp setp setw prp tkp
set_option maxRecDepth 100000 in
set_option maxHeartbeats 2000000 in
theorem posix_0 {C : Cf} {w : World} {f : Nat} {T : Rw} (h : LX C w f f T) (h1 : C.p.has [91, 58] f = false) : Calls Tryz.prog 119 #[.pointer (some ⟨C.L, 0, none⟩)] w (RP C w (C.p.posix f) (MbOk C w f f T)) := by
 have hs : C.p.posix f = .ok none := by unfold Pt.posix; rw [if_neg (by simp [h1])]
 have HS := Lib.hid hs
 have H1 := Lib.hid h1
 clear hs h1
 have fn := h.fn
 have tl := h.tl
 have hbw := below_al w ob00
 have hx0 := h.below hbw
 have hg0 := heap_alloc_new w (.cells #[.int .i64 0, .int .i64 0, .int .i64 0, .int .i64 0, .slice none 0 0, .bool false, .int .i64 0, .int .i64 0, .int .i64 0, .string ⟨#[]⟩, .int .i64 0, .int .i64 0] 30)
 have hrl := h.row_lt (g := w.heap.size) (Nat.le_refl _)
 have hB := h.hb
 have hlt := h.cells.lt
 have hsz : (w.alloc ob00).heap.size = w.heap.size + 1 := World.size_alloc ..
 go_enter Tryz.func119, Tryz.ntmps119
 go_wp2_with fail
 generalize hWW : w.alloc ob00 = W at *
 have HSZ := Lib.hid hsz
 have HG0 := Lib.hid hg0
 have hkw := Kept.of_below (L := C.L) hbw
 have hk0 := Kept.refl W.heap.size C.L W
 clear hWW hsz hg0 hbw
 refine Calls.mono (take_n hx0 ⟨#[91, 58]⟩ [91, 58] rfl (by decide) H1.out) ?_
 rintro e1 w1 ⟨rfl, hx1, hkn⟩
 have hk1 := hk0.then hkn
 clear hkn
 have d1 := hx1.cells.c1
 have d2 := hx1.cells.c2
 have fz := hx1.cells.fz 1
 have hx9 := hx1.at_ fn tl
 have hk9 := hk1.setCell 1 (.int .i64 f)
 have HG := Lib.hid ((hk9.block w.heap.size (by rw [HSZ.out]; omega) (by omega)).trans HG0.out)
 go_wp2_with (refine wpList_store_tok rfl rfl _ _ rfl w.heap.size rfl _ (tkR (.slice none 0 0) tk0) HG.out rfl rfl (tkR_one (t := tk0) (ownR_nil w 0)) rfl ?_)
 refine bodyPost_ret (results_tok2 rfl _ _ w.heap.size (tkR (.slice none 0 0) tk0) rfl (setRow_heap _ _ _ _ _ _ HG.out) rfl) rfl ?_
 exact rp_ok HS.out ⟨_, rfl, ownR_setRow (D := (tk0 : Tk).set) (ownR_nil _ _) HG.out, hx9.setRow HG.out hB hrl, (hkw.then hk9).setRow (Nat.le_refl _) _⟩
set_option maxRecDepth 100000 in
set_option maxHeartbeats 4000000 in
theorem posix_1 {C : Cf} {w : World} {f : Nat} {T : Rw} (h : LX C w f f T) (h1 : C.p.has [91, 58] f = true) (h2 : C.p.has [94] (f + 2) = false) : Calls Tryz.prog 119 #[.pointer (some ⟨C.L, 0, none⟩)] w (RP C w (C.p.posix f) (MbOk C w f f T)) := by
 have hl := has_le h.an h1
 simp only [List.length_cons, List.length_nil] at hl
 have hl3 : f + 2 ≤ C.p.n := by
   have := hl
   skip
   omega
 have bd := run_bd (p := C.p) (fits := isLet) (k := 1000) hl3
 obtain ⟨bd1, bd2, _⟩ := bd
 have hn := h.ok.n
 have hs : C.p.posix f = if C.p.has [58, 93] (C.p.run isLet 1000 (f + 2)) = true then (if posixB (C.p.sub (f + 2) (C.p.run isLet 1000 (f + 2))) = true then .ok (some ({ kind := 2, set := normR C.p.most (posixP (C.p.sub (f + 2) (C.p.run isLet 1000 (f + 2)))), neg := false }, C.p.run isLet 1000 (f + 2) + 2)) else .error (22, (f : Int))) else .ok none := by
   unfold Pt.posix
   rw [if_pos h1]
   simp only [h2, if_true, Bool.false_eq_true, if_false]
 have hsz := sub_size C.p (f + 2) (C.p.run isLet 1000 (f + 2))
 obtain ⟨q, hq⟩ : ∃ q, C.p.run isLet 1000 (f + 2) = q := ⟨_, rfl⟩
 rw [hq] at hs hsz bd1 bd2
 obtain ⟨nm, hnm⟩ : ∃ nm, C.p.sub (f + 2) q = nm := ⟨_, rfl⟩
 rw [hnm] at hs hsz
 have HQ := Lib.hid hq
 have HNM := Lib.hid hnm
 have HPO := Lib.hid (fun u => prw.pos_any nm u (show _ ≤ 9223372036854775807 by omega))
 clear hq hnm hsz
 have fn := h.fn
 have tl := h.tl
 have hbw := below_al w ob00
 have hx0 := h.below hbw
 have hg0 := heap_alloc_new w (.cells #[.int .i64 0, .int .i64 0, .int .i64 0, .int .i64 0, .slice none 0 0, .bool false, .int .i64 0, .int .i64 0, .int .i64 0, .string ⟨#[]⟩, .int .i64 0, .int .i64 0] 30)
 have hrl := h.row_lt (g := w.heap.size) (Nat.le_refl _)
 have hB := h.hb
 have hlt := h.cells.lt
 have hsz : (w.alloc ob00).heap.size = w.heap.size + 1 := World.size_alloc ..
 have H1 := Lib.hid h1
 have H2 := Lib.hid h2
 clear h1 h2
 cases h3 : C.p.has [58, 93] q with
 | false =>
   rw [if_neg (by simp [h3])] at hs
   have HS := Lib.hid hs
   have H3 := Lib.hid h3
   clear hs h3
   go_enter Tryz.func119, Tryz.ntmps119
   go_wp2_with fail
   generalize hWW : w.alloc ob00 = W at *
   have HSZ := Lib.hid hsz
   have HG0 := Lib.hid hg0
   have hkw := Kept.of_below (L := C.L) hbw
   have hk0 := Kept.refl W.heap.size C.L W
   clear hWW hsz hg0 hbw
   refine Calls.mono (take_y hx0 ⟨#[91, 58]⟩ [91, 58] 2 rfl rfl (by decide) H1.out) ?_
   rintro e1 w1 ⟨rfl, hx1, hkn⟩
   have hk1 := hk0.then hkn
   clear hkn
   go_wp2_with fail
   refine Calls.mono (take_n hx1 ⟨#[94]⟩ [94] rfl (by decide) H2.out) ?_
   rintro e2 w2 ⟨rfl, hx2, hkn⟩
   have hk2 := hk1.then hkn
   clear hkn
   go_wp2_with fail
   refine Calls.mono (run_let hx2) ?_
   intro e3 w3 hr
   rw [HQ.out, HNM.out] at hr
   obtain ⟨rfl, hx3, hkn⟩ := hr
   have hk3 := hk2.then hkn
   clear hkn
   go_wp2_with fail
   refine Calls.mono (take_n hx3 ⟨#[58, 93]⟩ [58, 93] rfl (by decide) H3.out) ?_
   rintro e4 w4 ⟨rfl, hx4, hkn⟩
   have hk4 := hk3.then hkn
   clear hkn
   have d1 := hx4.cells.c1
   have d2 := hx4.cells.c2
   have fz := hx4.cells.fz 1
   have hx9 := hx4.at_ fn tl
   have hk9 := hk4.setCell 1 (.int .i64 f)
   have HG := Lib.hid ((hk9.block w.heap.size (by rw [HSZ.out]; omega) (by omega)).trans HG0.out)
   go_wp2_with (refine wpList_store_tok rfl rfl _ _ rfl w.heap.size rfl _ (tkR (.slice none 0 0) tk0) HG.out rfl rfl (tkR_one (t := tk0) (ownR_nil w 0)) rfl ?_)
   refine bodyPost_ret (results_tok2 rfl _ _ w.heap.size (tkR (.slice none 0 0) tk0) rfl (setRow_heap _ _ _ _ _ _ HG.out) rfl) rfl ?_
   exact rp_ok HS.out ⟨_, rfl, ownR_setRow (D := (tk0 : Tk).set) (ownR_nil _ _) HG.out, hx9.setRow HG.out hB hrl, (hkw.then hk9).setRow (Nat.le_refl _) _⟩
 | true =>
   rw [if_pos h3] at hs
   have H3 := Lib.hid h3
   clear h3
   cases h4 : posixB nm with
   | false =>
     rw [if_neg (by simp [h4])] at hs
     have HS := Lib.hid hs
     have H4 := Lib.hid h4
     clear hs h4
     go_enter Tryz.func119, Tryz.ntmps119
     go_wp2_with fail
     generalize hWW : w.alloc ob00 = W at *
     have HSZ := Lib.hid hsz
     have HG0 := Lib.hid hg0
     have hkw := Kept.of_below (L := C.L) hbw
     have hk0 := Kept.refl W.heap.size C.L W
     clear hWW hsz hg0 hbw
     refine Calls.mono (take_y hx0 ⟨#[91, 58]⟩ [91, 58] 2 rfl rfl (by decide) H1.out) ?_
     rintro e1 w1 ⟨rfl, hx1, hkn⟩
     have hk1 := hk0.then hkn
     clear hkn
     go_wp2_with fail
     refine Calls.mono (take_n hx1 ⟨#[94]⟩ [94] rfl (by decide) H2.out) ?_
     rintro e2 w2 ⟨rfl, hx2, hkn⟩
     have hk2 := hk1.then hkn
     clear hkn
     go_wp2_with fail
     refine Calls.mono (run_let hx2) ?_
     intro e3 w3 hr
     rw [HQ.out, HNM.out] at hr
     obtain ⟨rfl, hx3, hkn⟩ := hr
     have hk3 := hk2.then hkn
     clear hkn
     go_wp2_with fail
     refine Calls.mono (take_y hx3 ⟨#[58, 93]⟩ [58, 93] 2 rfl rfl (by decide) H3.out) ?_
     rintro e4 w4 ⟨rfl, hx4, hkn⟩
     have hk4 := hk3.then hkn
     clear hkn
     go_wp2_with fail
     refine (HPO.out _).mono ?_
     rintro e5 w5 ⟨v5, rfl, ho, hb5⟩
     rw [H4.out]
     have hx5 := hx4.below hb5
     have hk5 := hk4.then (Kept.of_below (L := C.L) hb5)
     have HRS := Lib.hid (rs_own ho (wf_canon (prw.posixP_canon nm).2))
     clear ho
     go_wp2_with fail
     refine Calls.mono (fail_any hx5 22) ?_
     rintro e6 w6 ⟨rfl, hkn⟩
     exact ⟨rfl, rp_err HS.out ⟨rfl, ((hkw.then hk5).mono hB).trans hkn⟩⟩
   | true =>
     rw [if_pos h4] at hs
     have HS := Lib.hid hs
     have H4 := Lib.hid h4
     have HLN := Lib.hid (clen (prw.posixP_canon nm))
     clear hs h4
     go_enter Tryz.func119, Tryz.ntmps119
     go_wp2_with fail
     generalize hWW : w.alloc ob00 = W at *
     have HSZ := Lib.hid hsz
     have HG0 := Lib.hid hg0
     have hkw := Kept.of_below (L := C.L) hbw
     have hk0 := Kept.refl W.heap.size C.L W
     clear hWW hsz hg0 hbw
     refine Calls.mono (take_y hx0 ⟨#[91, 58]⟩ [91, 58] 2 rfl rfl (by decide) H1.out) ?_
     rintro e1 w1 ⟨rfl, hx1, hkn⟩
     have hk1 := hk0.then hkn
     clear hkn
     go_wp2_with fail
     refine Calls.mono (take_n hx1 ⟨#[94]⟩ [94] rfl (by decide) H2.out) ?_
     rintro e2 w2 ⟨rfl, hx2, hkn⟩
     have hk2 := hk1.then hkn
     clear hkn
     go_wp2_with fail
     refine Calls.mono (run_let hx2) ?_
     intro e3 w3 hr
     rw [HQ.out, HNM.out] at hr
     obtain ⟨rfl, hx3, hkn⟩ := hr
     have hk3 := hk2.then hkn
     clear hkn
     go_wp2_with fail
     refine Calls.mono (take_y hx3 ⟨#[58, 93]⟩ [58, 93] 2 rfl rfl (by decide) H3.out) ?_
     rintro e4 w4 ⟨rfl, hx4, hkn⟩
     have hk4 := hk3.then hkn
     clear hkn
     go_wp2_with fail
     refine (HPO.out _).mono ?_
     rintro e5 w5 ⟨v5, rfl, ho, hb5⟩
     rw [H4.out]
     have hx5 := hx4.below hb5
     have hk5 := hk4.then (Kept.of_below (L := C.L) hb5)
     have HRS := Lib.hid (rs_own ho (wf_canon (prw.posixP_canon nm).2))
     clear ho
     go_wp2_with fail
     refine Calls.mono (set_any hx5 v5 (posixP nm) false HRS.out HLN.out) ?_
     intro e6 w6 hr
     obtain ⟨v6, rfl, ho, hx6, hkn⟩ := hr
     replace ho := ownR_base ho (hkw.then hk5).size
     obtain ⟨x6, y6, rfl⟩ := ownR_len ho
     have HO6 := Lib.hid ho
     have hk6 := hk5.then hkn
     clear hkn ho
     have HG := Lib.hid ((hk6.block w.heap.size (by rw [HSZ.out]; omega) (by omega)).trans HG0.out)
     go_wp2_with (refine wpList_store_tok rfl rfl _ _ rfl w.heap.size rfl _ (tkR (.slice x6 (normR C.p.most (posixP nm)).length y6) ({ kind := 2, set := normR C.p.most (posixP nm), neg := false } : Tk)) HG.out rfl rfl (tkR_one (t := ({ kind := 2, set := normR C.p.most (posixP nm), neg := false } : Tk)) (HO6.out)) rfl ?_)
     refine bodyPost_ret (results_tok2 rfl _ _ w.heap.size (tkR (.slice x6 (normR C.p.most (posixP nm)).length y6) ({ kind := 2, set := normR C.p.most (posixP nm), neg := false } : Tk)) rfl (setRow_heap _ _ _ _ _ _ HG.out) rfl) rfl ?_
     exact rp_ok HS.out ⟨_, rfl, ownR_setRow (D := (({ kind := 2, set := normR C.p.most (posixP nm), neg := false } : Tk) : Tk).set) (HO6.out) HG.out, hx6.setRow HG.out hB hrl, (hkw.then hk6).setRow (Nat.le_refl _) _⟩
set_option maxRecDepth 100000 in
set_option maxHeartbeats 4000000 in
theorem posix_2 {C : Cf} {w : World} {f : Nat} {T : Rw} (h : LX C w f f T) (h1 : C.p.has [91, 58] f = true) (h2 : C.p.has [94] (f + 2) = true) : Calls Tryz.prog 119 #[.pointer (some ⟨C.L, 0, none⟩)] w (RP C w (C.p.posix f) (MbOk C w f f T)) := by
 have hl := has_le h.an h1
 simp only [List.length_cons, List.length_nil] at hl
 have hl3 : f + 3 ≤ C.p.n := by
   have := has_le (p := C.p) (a := f + 2) (by omega) h2
   simp only [List.length_cons, List.length_nil] at this
   omega
 have bd := run_bd (p := C.p) (fits := isLet) (k := 1000) hl3
 obtain ⟨bd1, bd2, _⟩ := bd
 have hn := h.ok.n
 have hs : C.p.posix f = if C.p.has [58, 93] (C.p.run isLet 1000 (f + 3)) = true then (if posixB (C.p.sub (f + 3) (C.p.run isLet 1000 (f + 3))) = true then .ok (some ({ kind := 2, set := normR C.p.most (posixP (C.p.sub (f + 3) (C.p.run isLet 1000 (f + 3)))), neg := true }, C.p.run isLet 1000 (f + 3) + 2)) else .error (22, (f : Int))) else .ok none := by
   unfold Pt.posix
   rw [if_pos h1]
   simp only [h2, if_true, Bool.false_eq_true, if_false]
 have hsz := sub_size C.p (f + 3) (C.p.run isLet 1000 (f + 3))
 obtain ⟨q, hq⟩ : ∃ q, C.p.run isLet 1000 (f + 3) = q := ⟨_, rfl⟩
 rw [hq] at hs hsz bd1 bd2
 obtain ⟨nm, hnm⟩ : ∃ nm, C.p.sub (f + 3) q = nm := ⟨_, rfl⟩
 rw [hnm] at hs hsz
 have HQ := Lib.hid hq
 have HNM := Lib.hid hnm
 have HPO := Lib.hid (fun u => prw.pos_any nm u (show _ ≤ 9223372036854775807 by omega))
 clear hq hnm hsz
 have fn := h.fn
 have tl := h.tl
 have hbw := below_al w ob00
 have hx0 := h.below hbw
 have hg0 := heap_alloc_new w (.cells #[.int .i64 0, .int .i64 0, .int .i64 0, .int .i64 0, .slice none 0 0, .bool false, .int .i64 0, .int .i64 0, .int .i64 0, .string ⟨#[]⟩, .int .i64 0, .int .i64 0] 30)
 have hrl := h.row_lt (g := w.heap.size) (Nat.le_refl _)
 have hB := h.hb
 have hlt := h.cells.lt
 have hsz : (w.alloc ob00).heap.size = w.heap.size + 1 := World.size_alloc ..
 have H1 := Lib.hid h1
 have H2 := Lib.hid h2
 clear h1 h2
 cases h3 : C.p.has [58, 93] q with
 | false =>
   rw [if_neg (by simp [h3])] at hs
   have HS := Lib.hid hs
   have H3 := Lib.hid h3
   clear hs h3
   go_enter Tryz.func119, Tryz.ntmps119
   go_wp2_with fail
   generalize hWW : w.alloc ob00 = W at *
   have HSZ := Lib.hid hsz
   have HG0 := Lib.hid hg0
   have hkw := Kept.of_below (L := C.L) hbw
   have hk0 := Kept.refl W.heap.size C.L W
   clear hWW hsz hg0 hbw
   refine Calls.mono (take_y hx0 ⟨#[91, 58]⟩ [91, 58] 2 rfl rfl (by decide) H1.out) ?_
   rintro e1 w1 ⟨rfl, hx1, hkn⟩
   have hk1 := hk0.then hkn
   clear hkn
   go_wp2_with fail
   refine Calls.mono (take_y hx1 ⟨#[94]⟩ [94] 1 rfl rfl (by decide) H2.out) ?_
   rintro e2 w2 ⟨rfl, hx2, hkn⟩
   have hk2 := hk1.then hkn
   clear hkn
   go_wp2_with fail
   refine Calls.mono (run_let hx2) ?_
   intro e3 w3 hr
   rw [HQ.out, HNM.out] at hr
   obtain ⟨rfl, hx3, hkn⟩ := hr
   have hk3 := hk2.then hkn
   clear hkn
   go_wp2_with fail
   refine Calls.mono (take_n hx3 ⟨#[58, 93]⟩ [58, 93] rfl (by decide) H3.out) ?_
   rintro e4 w4 ⟨rfl, hx4, hkn⟩
   have hk4 := hk3.then hkn
   clear hkn
   have d1 := hx4.cells.c1
   have d2 := hx4.cells.c2
   have fz := hx4.cells.fz 1
   have hx9 := hx4.at_ fn tl
   have hk9 := hk4.setCell 1 (.int .i64 f)
   have HG := Lib.hid ((hk9.block w.heap.size (by rw [HSZ.out]; omega) (by omega)).trans HG0.out)
   go_wp2_with (refine wpList_store_tok rfl rfl _ _ rfl w.heap.size rfl _ (tkR (.slice none 0 0) tk0) HG.out rfl rfl (tkR_one (t := tk0) (ownR_nil w 0)) rfl ?_)
   refine bodyPost_ret (results_tok2 rfl _ _ w.heap.size (tkR (.slice none 0 0) tk0) rfl (setRow_heap _ _ _ _ _ _ HG.out) rfl) rfl ?_
   exact rp_ok HS.out ⟨_, rfl, ownR_setRow (D := (tk0 : Tk).set) (ownR_nil _ _) HG.out, hx9.setRow HG.out hB hrl, (hkw.then hk9).setRow (Nat.le_refl _) _⟩
 | true =>
   rw [if_pos h3] at hs
   have H3 := Lib.hid h3
   clear h3
   cases h4 : posixB nm with
   | false =>
     rw [if_neg (by simp [h4])] at hs
     have HS := Lib.hid hs
     have H4 := Lib.hid h4
     clear hs h4
     go_enter Tryz.func119, Tryz.ntmps119
     go_wp2_with fail
     generalize hWW : w.alloc ob00 = W at *
     have HSZ := Lib.hid hsz
     have HG0 := Lib.hid hg0
     have hkw := Kept.of_below (L := C.L) hbw
     have hk0 := Kept.refl W.heap.size C.L W
     clear hWW hsz hg0 hbw
     refine Calls.mono (take_y hx0 ⟨#[91, 58]⟩ [91, 58] 2 rfl rfl (by decide) H1.out) ?_
     rintro e1 w1 ⟨rfl, hx1, hkn⟩
     have hk1 := hk0.then hkn
     clear hkn
     go_wp2_with fail
     refine Calls.mono (take_y hx1 ⟨#[94]⟩ [94] 1 rfl rfl (by decide) H2.out) ?_
     rintro e2 w2 ⟨rfl, hx2, hkn⟩
     have hk2 := hk1.then hkn
     clear hkn
     go_wp2_with fail
     refine Calls.mono (run_let hx2) ?_
     intro e3 w3 hr
     rw [HQ.out, HNM.out] at hr
     obtain ⟨rfl, hx3, hkn⟩ := hr
     have hk3 := hk2.then hkn
     clear hkn
     go_wp2_with fail
     refine Calls.mono (take_y hx3 ⟨#[58, 93]⟩ [58, 93] 2 rfl rfl (by decide) H3.out) ?_
     rintro e4 w4 ⟨rfl, hx4, hkn⟩
     have hk4 := hk3.then hkn
     clear hkn
     go_wp2_with fail
     refine (HPO.out _).mono ?_
     rintro e5 w5 ⟨v5, rfl, ho, hb5⟩
     rw [H4.out]
     have hx5 := hx4.below hb5
     have hk5 := hk4.then (Kept.of_below (L := C.L) hb5)
     have HRS := Lib.hid (rs_own ho (wf_canon (prw.posixP_canon nm).2))
     clear ho
     go_wp2_with fail
     refine Calls.mono (fail_any hx5 22) ?_
     rintro e6 w6 ⟨rfl, hkn⟩
     exact ⟨rfl, rp_err HS.out ⟨rfl, ((hkw.then hk5).mono hB).trans hkn⟩⟩
   | true =>
     rw [if_pos h4] at hs
     have HS := Lib.hid hs
     have H4 := Lib.hid h4
     have HLN := Lib.hid (clen (prw.posixP_canon nm))
     clear hs h4
     go_enter Tryz.func119, Tryz.ntmps119
     go_wp2_with fail
     generalize hWW : w.alloc ob00 = W at *
     have HSZ := Lib.hid hsz
     have HG0 := Lib.hid hg0
     have hkw := Kept.of_below (L := C.L) hbw
     have hk0 := Kept.refl W.heap.size C.L W
     clear hWW hsz hg0 hbw
     refine Calls.mono (take_y hx0 ⟨#[91, 58]⟩ [91, 58] 2 rfl rfl (by decide) H1.out) ?_
     rintro e1 w1 ⟨rfl, hx1, hkn⟩
     have hk1 := hk0.then hkn
     clear hkn
     go_wp2_with fail
     refine Calls.mono (take_y hx1 ⟨#[94]⟩ [94] 1 rfl rfl (by decide) H2.out) ?_
     rintro e2 w2 ⟨rfl, hx2, hkn⟩
     have hk2 := hk1.then hkn
     clear hkn
     go_wp2_with fail
     refine Calls.mono (run_let hx2) ?_
     intro e3 w3 hr
     rw [HQ.out, HNM.out] at hr
     obtain ⟨rfl, hx3, hkn⟩ := hr
     have hk3 := hk2.then hkn
     clear hkn
     go_wp2_with fail
     refine Calls.mono (take_y hx3 ⟨#[58, 93]⟩ [58, 93] 2 rfl rfl (by decide) H3.out) ?_
     rintro e4 w4 ⟨rfl, hx4, hkn⟩
     have hk4 := hk3.then hkn
     clear hkn
     go_wp2_with fail
     refine (HPO.out _).mono ?_
     rintro e5 w5 ⟨v5, rfl, ho, hb5⟩
     rw [H4.out]
     have hx5 := hx4.below hb5
     have hk5 := hk4.then (Kept.of_below (L := C.L) hb5)
     have HRS := Lib.hid (rs_own ho (wf_canon (prw.posixP_canon nm).2))
     clear ho
     go_wp2_with fail
     refine Calls.mono (set_any hx5 v5 (posixP nm) true HRS.out HLN.out) ?_
     intro e6 w6 hr
     obtain ⟨v6, rfl, ho, hx6, hkn⟩ := hr
     replace ho := ownR_base ho (hkw.then hk5).size
     obtain ⟨x6, y6, rfl⟩ := ownR_len ho
     have HO6 := Lib.hid ho
     have hk6 := hk5.then hkn
     clear hkn ho
     have HG := Lib.hid ((hk6.block w.heap.size (by rw [HSZ.out]; omega) (by omega)).trans HG0.out)
     go_wp2_with (refine wpList_store_tok rfl rfl _ _ rfl w.heap.size rfl _ (tkR (.slice x6 (normR C.p.most (posixP nm)).length y6) ({ kind := 2, set := normR C.p.most (posixP nm), neg := true } : Tk)) HG.out rfl rfl (tkR_one (t := ({ kind := 2, set := normR C.p.most (posixP nm), neg := true } : Tk)) (HO6.out)) rfl ?_)
     refine bodyPost_ret (results_tok2 rfl _ _ w.heap.size (tkR (.slice x6 (normR C.p.most (posixP nm)).length y6) ({ kind := 2, set := normR C.p.most (posixP nm), neg := true } : Tk)) rfl (setRow_heap _ _ _ _ _ _ HG.out) rfl) rfl ?_
     exact rp_ok HS.out ⟨_, rfl, ownR_setRow (D := (({ kind := 2, set := normR C.p.most (posixP nm), neg := true } : Tk) : Tk).set) (HO6.out) HG.out, hx6.setRow HG.out hB hrl, (hkw.then hk6).setRow (Nat.le_refl _) _⟩
theorem posix_any {C : Cf} {w : World} {f : Nat} {T : Rw} (h : LX C w f f T) : Calls Tryz.prog 119 #[.pointer (some ⟨C.L, 0, none⟩)] w (RP C w (C.p.posix f) (MbOk C w f f T)) := by
 cases h1 : C.p.has [91, 58] f with
 | false => exact posix_0 h h1
 | true =>
   cases h2 : C.p.has [94] (f + 2) with
   | false => exact posix_1 h h1 h2
   | true => exact posix_2 h h1 h2
end Go.Proofs.YtkcmjcgjfjfimaaGreatDoor.tkw
end
