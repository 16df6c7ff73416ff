/- Texts that TokensQuoteLaw leans on, merged: what the functions of the program answer. -/
import Derived.Test.YtkcmjcgjfjfimaaGreatDoorBQu13
section
namespace Go.Proofs.YtkcmjcgjfjfimaaGreatDoor.tkw
open Go Go.RowKit Go.Maps utfp utfw ucdp setp setw prp tkp
structure Poke (g : Nat) (w w' : World) : Prop where
 os : w'.os = w.os
 tape : w'.tape = w.tape
 output : w'.output = w.output
 size : w.heap.size ≤ w'.heap.size
 other : ∀ k, k ≠ g → w'.heap[k]? = w.heap[k]?
theorem poke_cell (w : World) (g o : Nat) (v : Value) : Poke g w (w.setCell ⟨g, o, none⟩ v) := ⟨rfl, rfl, rfl, by simp [World.setCell], fun k hk => Below.heap_setCell w ⟨g, o, none⟩ v k hk⟩
theorem Poke.trans {g : Nat} {a b c : World} (h : Poke g a b) (k : Poke g b c) : Poke g a c := ⟨k.os.trans h.os, k.tape.trans h.tape, k.output.trans h.output, Nat.le_trans h.size k.size, fun i hi => (k.other i hi).trans (h.other i hi)⟩
theorem LX.poke {C : Cf} {w w' : World} {a f : Nat} {T : Rw} (h : LX C w a f T) {g : Nat} {old : Array Value} (hg : w.heap[g]? = some (.cells old 30 (0, 0))) (hb : C.base ≤ g) (hT : T.v.ownBlock ≠ some g) (hp : Poke g w w') : LX C w' a f T := by
 obtain ⟨h1, l, h2, h3, h4⟩ := h.lx
 obtain ⟨n1, i1⟩ := h.e1
 obtain ⟨n2, i2⟩ := h.e2
 obtain ⟨n3, i3⟩ := h.e3
 have hlb := h.ok.lb
 have b1 := h.ok.b1.1
 have b2 := h.ok.b2.1
 have b3 := h.ok.b3.1
 have hL := h.ok.hL
 have hR : ∀ {v : Value} {D : List Rg}, OwnR w C.base v D → OwnR w' C.base v D := by
   intro v D h
   refine ⟨ownsRow_heap h.1 fun k hk => hp.other k ?_, h.2⟩
   rintro rfl
   obtain ⟨_, ⟨rfl, _⟩ | ⟨g1, c1, cu1, rfl, _, k1, _⟩⟩ := h.1
   · cases hk
   · simp only [Value.ownBlock, Option.some.injEq] at hk
     subst hk
     rw [hg] at k1
     simp only [Option.some.injEq, Obj.cells.injEq] at k1
     exact absurd k1.2.1 (by decide)
 exact ⟨h.ok, h.old.trans ⟨hp.os, hp.tape, hp.output, hp.size, fun k hk => hp.other k (by omega)⟩, ⟨(hp.other C.L (by omega)).trans h1, l, h2, fun p hp' => hR (h3 p hp'), ownsRow_heap h4 fun k hk => hp.other k (fun e => hT (by rw [← e]; exact hk))⟩, ⟨n1, mapI_block i1 (hp.other _ (by omega))⟩, ⟨n2, mapI_block i2 (hp.other _ (by omega))⟩, ⟨n3, mapI_block i3 (hp.other _ (by omega))⟩, Nat.le_trans h.hb hp.size, h.an, h.fn, h.tl⟩
theorem Kept.poke {L B g : Nat} {a w w' : World} (h : Kept B L a w) (hp : Poke g w w') (hg : B ≤ g) : Kept B L a w' := h.trans ⟨hp.os, hp.tape, hp.output, hp.size, fun k hk _ => hp.other k (by omega)⟩
theorem sign_m (p : Pt) (a : Nat) : 0 ≤ (p.sign a).1 ∧ (p.sign a).1 ≤ 2 := by
 unfold Pt.sign
 repeat' split
 all_goals simp
theorem signed_m {p : Pt} {f a : Nat} {n m : Int} {b : Nat} (h : p.signed f a = .ok (some (n, m, b))) : 0 ≤ m ∧ m ≤ 2 := by
 have h1 := sign_m p a
 unfold Pt.signed at h
 split at h
 · exact absurd h (by simp)
 · split at h
   · exact absurd h (by simp)
   · simp only [Except.ok.injEq, Option.some.injEq, Prod.mk.injEq] at h
     omega
set_option maxRecDepth 100000 in
set_option maxHeartbeats 8000000 in
theorem refer_0 {C : Cf} {w : World} {a f : Nat} {T : Rw} (h : LX C w a f T) {q : Nat} (hq : C.p.quotes a = (12, [62], q)) : Calls Tryz.prog 66 #[.pointer (some ⟨C.L, 0, none⟩)] w (RP C w (tkp.one f (C.p.refer f a)) (PtOk C w T)) := by
 have hq2 : (C.p.quotes a).2.2 = q := by rw [hq]
 have hge := quotes_ge (p := C.p) (a := a)
 rw [hq2] at hge
 have hs : C.p.refer f a = (match C.p.signed f q with
   | .error e => .error e
   | .ok (some (n, m, b)) => if C.p.has [62] b = false then .error (21, (f : Int))
     else if n = 0 ∧ ((12 : Int) ≠ 12 ∨ m ≠ 0) then .error (25, (f : Int))
     else .ok ({ kind := 12, n := n, m := m }, b + 1)
   | .ok none => if (C.p.name q).2 = false ∨ ([62] : List UInt8) = [] ∨ C.p.has [62] (C.p.name q).1 = false then .error (21, (f : Int))
     else .ok ({ kind := 12, m := 3, name := C.p.sub q (C.p.name q).1 }, (C.p.name q).1 + 1)) := by
   unfold Pt.refer
   rw [hq]
   rfl
 have HQ := Lib.hid hq
 have hrl := fun (g : Nat) (hg : w.heap.size ≤ g) => h.row_lt hg
 clear hq hq2
 have hk0 := Kept.refl w.heap.size C.L w
 have hB := h.hb
 cases hsg : C.p.signed f q with
 | error x =>
   rw [hsg] at hs
   have HS := Lib.hid (show tkp.one f (C.p.refer f a) = .error x by rw [hs]; rfl)
   have HSG := Lib.hid hsg
   clear hs hsg
   go_enter Tryz.func66, Tryz.ntmps66
   go_wp2_with fail
   refine Calls.mono (quotes_any h) ?_
   intro e1 w1 hr
   rw [HQ.out] at hr
   obtain ⟨rfl, hx1, hkn⟩ := hr
   have hk1 := hk0.then hkn
   have hbA := below_al w1 (.cells (tkR (.slice none 0 0) { kind := 12 }) 30)
   have hx2 := hx1.below hbA
   have hk2 := hk1.then (Kept.of_below (L := C.L) hbA)
   clear hkn hbA
   unfold tkR
   go_wp2_with fail
   refine Calls.mono (signed_any hx2) ?_
   intro e3 w3 hr
   rw [HSG.out] at hr
   obtain ⟨rfl, hkn⟩ := hr
   exact ⟨rfl, rp_err HS.out ⟨rfl, (hk2.mono hB).trans hkn⟩⟩
 | ok o =>
   cases o with
   | none =>
     rw [hsg] at hs
     simp only at hs
     obtain ⟨⟨e, ok⟩, hn⟩ : ∃ d, C.p.name q = d := ⟨_, rfl⟩
     rw [hn] at hs
     simp only at hs
     have HN := Lib.hid hn
     have HSG := Lib.hid hsg
     have HNE := Lib.hid (fun (hh : q ≤ C.p.n) => name_ge (p := C.p) hh)
     rw [hn] at HNE
     clear hn hsg
     cases ok with
     | false =>
       have HS := Lib.hid (show tkp.one f (C.p.refer f a) = .error (C.p.er 21 f) by rw [hs, if_pos (Or.inl rfl)]; rfl)
       clear hs
       go_enter Tryz.func66, Tryz.ntmps66
       go_wp2_with fail
       refine Calls.mono (quotes_any h) ?_
       intro e1 w1 hr
       rw [HQ.out] at hr
       obtain ⟨rfl, hx1, hkn⟩ := hr
       have hk1 := hk0.then hkn
       have hbA := below_al w1 (.cells (tkR (.slice none 0 0) { kind := 12 }) 30)
       have hx2 := hx1.below hbA
       have hk2 := hk1.then (Kept.of_below (L := C.L) hbA)
       clear hkn hbA
       unfold tkR
       go_wp2_with fail
       refine Calls.mono (signed_any hx2) ?_
       intro e3 w3 hr
       rw [HSG.out] at hr
       obtain ⟨rfl, hx3, hkn⟩ := hr
       have hk3 := hk2.then hkn
       have HG3 := Lib.hid ((hkn.block w1.heap.size (by rw [World.size_alloc]; omega) (by have := hx1.cells.lt; omega)).trans (heap_alloc_new w1 _))
       have hg1 : w.heap.size ≤ w1.heap.size := hk1.size
       have c6 : w3.cell? ⟨w1.heap.size, 6, none⟩ = some (.int .i64 0) := by simp [World.cell?, HG3.out, tkR]
       have c7 : w3.cell? ⟨w1.heap.size, 7, none⟩ = some (.int .i64 0) := by simp [World.cell?, HG3.out, tkR]
       have fz6 : w3.frozen? ⟨w1.heap.size, 6, none⟩ = false := by simp [World.frozen?, HG3.out]
       have fz7 : w3.frozen? ⟨w1.heap.size, 7, none⟩ = false := by simp [World.frozen?, HG3.out]
       clear hkn hx2 hk2
       go_wp2_with fail
       have hpk : Poke w1.heap.size w3 (((w3.setCell ⟨w1.heap.size, 6, none⟩ (.int .i64 0)).setCell ⟨w1.heap.size, 7, none⟩ (.int .i64 0)).setCell ⟨w1.heap.size, 7, none⟩ (.int .i64 3)) := ((poke_cell w3 w1.heap.size 6 (.int .i64 0)).trans (poke_cell (w3.setCell ⟨w1.heap.size, 6, none⟩ (.int .i64 0)) w1.heap.size 7 (.int .i64 0))).trans (poke_cell ((w3.setCell ⟨w1.heap.size, 6, none⟩ (.int .i64 0)).setCell ⟨w1.heap.size, 7, none⟩ (.int .i64 0)) w1.heap.size 7 (.int .i64 3))
       have HG4 : Hid ((((w3.setCell ⟨w1.heap.size, 6, none⟩ (.int .i64 0)).setCell ⟨w1.heap.size, 7, none⟩ (.int .i64 0)).setCell ⟨w1.heap.size, 7, none⟩ (.int .i64 3)).heap[w1.heap.size]? = some (.cells (tkR (.slice none 0 0) ({ kind := 12, m := 3 } : Tk)) 30 (0, 0))) := Lib.hid (heap_set (o := 7) (v := .int .i64 3) (heap_set (o := 7) (v := .int .i64 0) (heap_set (o := 6) (v := .int .i64 0) (HG3.out))))
       have hx4 := hx3.poke HG3.out (Nat.le_trans hB hg1) (hrl _ hg1) hpk
       have hk4 := hk3.poke hpk hg1
       clear hpk c6 c7 fz6 fz7
       generalize (((w3.setCell ⟨w1.heap.size, 6, none⟩ (.int .i64 0)).setCell ⟨w1.heap.size, 7, none⟩ (.int .i64 0)).setCell ⟨w1.heap.size, 7, none⟩ (.int .i64 3)) = w4 at *
       have hg2 : w1.heap.size < w4.heap.size := by
         rcases Nat.lt_or_ge w1.heap.size w4.heap.size with hh | hh
         · exact hh
         · have := HG4.out
           rw [Array.getElem?_eq_none hh] at this
           cases this
       refine Calls.mono (name_any hx4) ?_
       intro e5 w5 hr
       rw [HN.out] at hr
       obtain ⟨rfl, hx5, hkn⟩ := hr
       have hk5 := hk4.then hkn
       have HG5 := Lib.hid ((hkn.block w1.heap.size hg2 (by have := hx1.cells.lt; omega)).trans HG4.out)
       have nge := HNE.out hx4.an
       have c6 : w5.cell? ⟨w1.heap.size, 9, none⟩ = some (.string ⟨#[]⟩) := by simp [World.cell?, HG5.out, tkR]
       have fz9 : w5.frozen? ⟨w1.heap.size, 9, none⟩ = false := by simp [World.frozen?, HG5.out]
       have c7 := hg2
       have fz6 := hg2
       have fz7 := hg2
       clear hkn
       go_wp2_with fail
       have hpk : Poke w1.heap.size w5 (w5.setCell ⟨w1.heap.size, 9, none⟩ (.string (C.p.sub q e))) := poke_cell w5 w1.heap.size 9 (.string (C.p.sub q e))
       have HG6 : Hid ((w5.setCell ⟨w1.heap.size, 9, none⟩ (.string (C.p.sub q e))).heap[w1.heap.size]? = some (.cells (tkR (.slice none 0 0) ({ kind := 12, m := 3, name := C.p.sub q e } : Tk)) 30 (0, 0))) := Lib.hid (heap_set (o := 9) (v := .string (C.p.sub q e)) (HG5.out))
       have hx6 := hx5.poke HG5.out (Nat.le_trans hB hg1) (hrl _ hg1) hpk
       have hk6 := hk5.poke hpk hg1
       clear hpk c6 c7 fz6 fz7 fz9
       generalize (w5.setCell ⟨w1.heap.size, 9, none⟩ (.string (C.p.sub q e))) = w6 at *
       have tl6 := hx6.tl
       have hg6 : w1.heap.size < w6.heap.size := by
         rcases Nat.lt_or_ge w1.heap.size w6.heap.size with hh | hh
         · exact hh
         · have := HG6.out
           rw [Array.getElem?_eq_none hh] at this
           cases this
       refine Calls.mono (fail_any hx6 21) ?_
       rintro e9 w9 ⟨rfl, hkn⟩
       exact ⟨rfl, rp_err HS.out ⟨rfl, (hk6.mono hB).trans hkn⟩⟩
     | true =>
       cases h3 : C.p.has [62] e with
       | false =>
         have HS := Lib.hid (show tkp.one f (C.p.refer f a) = .error (C.p.er 21 f) by rw [hs, if_pos (Or.inr (Or.inr h3))]; rfl)
         clear hs
         have H3 := Lib.hid h3
         clear h3
         go_enter Tryz.func66, Tryz.ntmps66
         go_wp2_with fail
         refine Calls.mono (quotes_any h) ?_
         intro e1 w1 hr
         rw [HQ.out] at hr
         obtain ⟨rfl, hx1, hkn⟩ := hr
         have hk1 := hk0.then hkn
         have hbA := below_al w1 (.cells (tkR (.slice none 0 0) { kind := 12 }) 30)
         have hx2 := hx1.below hbA
         have hk2 := hk1.then (Kept.of_below (L := C.L) hbA)
         clear hkn hbA
         unfold tkR
         go_wp2_with fail
         refine Calls.mono (signed_any hx2) ?_
         intro e3 w3 hr
         rw [HSG.out] at hr
         obtain ⟨rfl, hx3, hkn⟩ := hr
         have hk3 := hk2.then hkn
         have HG3 := Lib.hid ((hkn.block w1.heap.size (by rw [World.size_alloc]; omega) (by have := hx1.cells.lt; omega)).trans (heap_alloc_new w1 _))
         have hg1 : w.heap.size ≤ w1.heap.size := hk1.size
         have c6 : w3.cell? ⟨w1.heap.size, 6, none⟩ = some (.int .i64 0) := by simp [World.cell?, HG3.out, tkR]
         have c7 : w3.cell? ⟨w1.heap.size, 7, none⟩ = some (.int .i64 0) := by simp [World.cell?, HG3.out, tkR]
         have fz6 : w3.frozen? ⟨w1.heap.size, 6, none⟩ = false := by simp [World.frozen?, HG3.out]
         have fz7 : w3.frozen? ⟨w1.heap.size, 7, none⟩ = false := by simp [World.frozen?, HG3.out]
         clear hkn hx2 hk2
         go_wp2_with fail
         have hpk : Poke w1.heap.size w3 (((w3.setCell ⟨w1.heap.size, 6, none⟩ (.int .i64 0)).setCell ⟨w1.heap.size, 7, none⟩ (.int .i64 0)).setCell ⟨w1.heap.size, 7, none⟩ (.int .i64 3)) := ((poke_cell w3 w1.heap.size 6 (.int .i64 0)).trans (poke_cell (w3.setCell ⟨w1.heap.size, 6, none⟩ (.int .i64 0)) w1.heap.size 7 (.int .i64 0))).trans (poke_cell ((w3.setCell ⟨w1.heap.size, 6, none⟩ (.int .i64 0)).setCell ⟨w1.heap.size, 7, none⟩ (.int .i64 0)) w1.heap.size 7 (.int .i64 3))
         have HG4 : Hid ((((w3.setCell ⟨w1.heap.size, 6, none⟩ (.int .i64 0)).setCell ⟨w1.heap.size, 7, none⟩ (.int .i64 0)).setCell ⟨w1.heap.size, 7, none⟩ (.int .i64 3)).heap[w1.heap.size]? = some (.cells (tkR (.slice none 0 0) ({ kind := 12, m := 3 } : Tk)) 30 (0, 0))) := Lib.hid (heap_set (o := 7) (v := .int .i64 3) (heap_set (o := 7) (v := .int .i64 0) (heap_set (o := 6) (v := .int .i64 0) (HG3.out))))
         have hx4 := hx3.poke HG3.out (Nat.le_trans hB hg1) (hrl _ hg1) hpk
         have hk4 := hk3.poke hpk hg1
         clear hpk c6 c7 fz6 fz7
         generalize (((w3.setCell ⟨w1.heap.size, 6, none⟩ (.int .i64 0)).setCell ⟨w1.heap.size, 7, none⟩ (.int .i64 0)).setCell ⟨w1.heap.size, 7, none⟩ (.int .i64 3)) = w4 at *
         have hg2 : w1.heap.size < w4.heap.size := by
           rcases Nat.lt_or_ge w1.heap.size w4.heap.size with hh | hh
           · exact hh
           · have := HG4.out
             rw [Array.getElem?_eq_none hh] at this
             cases this
         refine Calls.mono (name_any hx4) ?_
         intro e5 w5 hr
         rw [HN.out] at hr
         obtain ⟨rfl, hx5, hkn⟩ := hr
         have hk5 := hk4.then hkn
         have HG5 := Lib.hid ((hkn.block w1.heap.size hg2 (by have := hx1.cells.lt; omega)).trans HG4.out)
         have nge := HNE.out hx4.an
         have c6 : w5.cell? ⟨w1.heap.size, 9, none⟩ = some (.string ⟨#[]⟩) := by simp [World.cell?, HG5.out, tkR]
         have fz9 : w5.frozen? ⟨w1.heap.size, 9, none⟩ = false := by simp [World.frozen?, HG5.out]
         have c7 := hg2
         have fz6 := hg2
         have fz7 := hg2
         clear hkn
         go_wp2_with fail
         have hpk : Poke w1.heap.size w5 (w5.setCell ⟨w1.heap.size, 9, none⟩ (.string (C.p.sub q e))) := poke_cell w5 w1.heap.size 9 (.string (C.p.sub q e))
         have HG6 : Hid ((w5.setCell ⟨w1.heap.size, 9, none⟩ (.string (C.p.sub q e))).heap[w1.heap.size]? = some (.cells (tkR (.slice none 0 0) ({ kind := 12, m := 3, name := C.p.sub q e } : Tk)) 30 (0, 0))) := Lib.hid (heap_set (o := 9) (v := .string (C.p.sub q e)) (HG5.out))
         have hx6 := hx5.poke HG5.out (Nat.le_trans hB hg1) (hrl _ hg1) hpk
         have hk6 := hk5.poke hpk hg1
         clear hpk c6 c7 fz6 fz7 fz9
         generalize (w5.setCell ⟨w1.heap.size, 9, none⟩ (.string (C.p.sub q e))) = w6 at *
         have tl6 := hx6.tl
         have hg6 : w1.heap.size < w6.heap.size := by
           rcases Nat.lt_or_ge w1.heap.size w6.heap.size with hh | hh
           · exact hh
           · have := HG6.out
             rw [Array.getElem?_eq_none hh] at this
             cases this
         refine Calls.mono (take_n hx6 ⟨#[62]⟩ [62] rfl (by decide) H3.out) ?_
         rintro e7 w7 ⟨rfl, hx7, hkn⟩
         have hk7 := hk6.then hkn
         clear hkn
         go_wp2_with fail
         refine Calls.mono (fail_any hx7 21) ?_
         rintro e9 w9 ⟨rfl, hkn⟩
         exact ⟨rfl, rp_err HS.out ⟨rfl, (hk7.mono hB).trans hkn⟩⟩
       | true =>
         have HS := Lib.hid (show tkp.one f (C.p.refer f a) = .ok ([lay ({ kind := 12, m := 3, name := C.p.sub q e } : Tk) f (e + 1)], e + 1) by rw [hs, if_neg (by simp [h3])]; rfl)
         have H3 := Lib.hid h3
         clear hs h3
         go_enter Tryz.func66, Tryz.ntmps66
         go_wp2_with fail
         refine Calls.mono (quotes_any h) ?_
         intro e1 w1 hr
         rw [HQ.out] at hr
         obtain ⟨rfl, hx1, hkn⟩ := hr
         have hk1 := hk0.then hkn
         have hbA := below_al w1 (.cells (tkR (.slice none 0 0) { kind := 12 }) 30)
         have hx2 := hx1.below hbA
         have hk2 := hk1.then (Kept.of_below (L := C.L) hbA)
         clear hkn hbA
         unfold tkR
         go_wp2_with fail
         refine Calls.mono (signed_any hx2) ?_
         intro e3 w3 hr
         rw [HSG.out] at hr
         obtain ⟨rfl, hx3, hkn⟩ := hr
         have hk3 := hk2.then hkn
         have HG3 := Lib.hid ((hkn.block w1.heap.size (by rw [World.size_alloc]; omega) (by have := hx1.cells.lt; omega)).trans (heap_alloc_new w1 _))
         have hg1 : w.heap.size ≤ w1.heap.size := hk1.size
         have c6 : w3.cell? ⟨w1.heap.size, 6, none⟩ = some (.int .i64 0) := by simp [World.cell?, HG3.out, tkR]
         have c7 : w3.cell? ⟨w1.heap.size, 7, none⟩ = some (.int .i64 0) := by simp [World.cell?, HG3.out, tkR]
         have fz6 : w3.frozen? ⟨w1.heap.size, 6, none⟩ = false := by simp [World.frozen?, HG3.out]
         have fz7 : w3.frozen? ⟨w1.heap.size, 7, none⟩ = false := by simp [World.frozen?, HG3.out]
         clear hkn hx2 hk2
         go_wp2_with fail
         have hpk : Poke w1.heap.size w3 (((w3.setCell ⟨w1.heap.size, 6, none⟩ (.int .i64 0)).setCell ⟨w1.heap.size, 7, none⟩ (.int .i64 0)).setCell ⟨w1.heap.size, 7, none⟩ (.int .i64 3)) := ((poke_cell w3 w1.heap.size 6 (.int .i64 0)).trans (poke_cell (w3.setCell ⟨w1.heap.size, 6, none⟩ (.int .i64 0)) w1.heap.size 7 (.int .i64 0))).trans (poke_cell ((w3.setCell ⟨w1.heap.size, 6, none⟩ (.int .i64 0)).setCell ⟨w1.heap.size, 7, none⟩ (.int .i64 0)) w1.heap.size 7 (.int .i64 3))
         have HG4 : Hid ((((w3.setCell ⟨w1.heap.size, 6, none⟩ (.int .i64 0)).setCell ⟨w1.heap.size, 7, none⟩ (.int .i64 0)).setCell ⟨w1.heap.size, 7, none⟩ (.int .i64 3)).heap[w1.heap.size]? = some (.cells (tkR (.slice none 0 0) ({ kind := 12, m := 3 } : Tk)) 30 (0, 0))) := Lib.hid (heap_set (o := 7) (v := .int .i64 3) (heap_set (o := 7) (v := .int .i64 0) (heap_set (o := 6) (v := .int .i64 0) (HG3.out))))
         have hx4 := hx3.poke HG3.out (Nat.le_trans hB hg1) (hrl _ hg1) hpk
         have hk4 := hk3.poke hpk hg1
         clear hpk c6 c7 fz6 fz7
         generalize (((w3.setCell ⟨w1.heap.size, 6, none⟩ (.int .i64 0)).setCell ⟨w1.heap.size, 7, none⟩ (.int .i64 0)).setCell ⟨w1.heap.size, 7, none⟩ (.int .i64 3)) = w4 at *
         have hg2 : w1.heap.size < w4.heap.size := by
           rcases Nat.lt_or_ge w1.heap.size w4.heap.size with hh | hh
           · exact hh
           · have := HG4.out
             rw [Array.getElem?_eq_none hh] at this
             cases this
         refine Calls.mono (name_any hx4) ?_
         intro e5 w5 hr
         rw [HN.out] at hr
         obtain ⟨rfl, hx5, hkn⟩ := hr
         have hk5 := hk4.then hkn
         have HG5 := Lib.hid ((hkn.block w1.heap.size hg2 (by have := hx1.cells.lt; omega)).trans HG4.out)
         have nge := HNE.out hx4.an
         have c6 : w5.cell? ⟨w1.heap.size, 9, none⟩ = some (.string ⟨#[]⟩) := by simp [World.cell?, HG5.out, tkR]
         have fz9 : w5.frozen? ⟨w1.heap.size, 9, none⟩ = false := by simp [World.frozen?, HG5.out]
         have c7 := hg2
         have fz6 := hg2
         have fz7 := hg2
         clear hkn
         go_wp2_with fail
         have hpk : Poke w1.heap.size w5 (w5.setCell ⟨w1.heap.size, 9, none⟩ (.string (C.p.sub q e))) := poke_cell w5 w1.heap.size 9 (.string (C.p.sub q e))
         have HG6 : Hid ((w5.setCell ⟨w1.heap.size, 9, none⟩ (.string (C.p.sub q e))).heap[w1.heap.size]? = some (.cells (tkR (.slice none 0 0) ({ kind := 12, m := 3, name := C.p.sub q e } : Tk)) 30 (0, 0))) := Lib.hid (heap_set (o := 9) (v := .string (C.p.sub q e)) (HG5.out))
         have hx6 := hx5.poke HG5.out (Nat.le_trans hB hg1) (hrl _ hg1) hpk
         have hk6 := hk5.poke hpk hg1
         clear hpk c6 c7 fz6 fz7 fz9
         generalize (w5.setCell ⟨w1.heap.size, 9, none⟩ (.string (C.p.sub q e))) = w6 at *
         have tl6 := hx6.tl
         have hg6 : w1.heap.size < w6.heap.size := by
           rcases Nat.lt_or_ge w1.heap.size w6.heap.size with hh | hh
           · exact hh
           · have := HG6.out
             rw [Array.getElem?_eq_none hh] at this
             cases this
         refine Calls.mono (take_y hx6 ⟨#[62]⟩ [62] 1 rfl rfl (by decide) H3.out) ?_
         rintro e7 w7 ⟨rfl, hx7, hkn⟩
         have hk7 := hk6.then hkn
         have HG7 := Lib.hid ((hkn.block w1.heap.size hg6 (by have := hx1.cells.lt; omega)).trans HG6.out)
         have k0 : w7.cell? ⟨w1.heap.size, 0, none⟩ = some (.int .i64 12) := by simp [World.cell?, HG7.out, tkR]
         have k6 : w7.cell? ⟨w1.heap.size, 6, none⟩ = some (.int .i64 0) := by simp [World.cell?, HG7.out, tkR]
         have k7 : w7.cell? ⟨w1.heap.size, 7, none⟩ = some (.int .i64 3) := by simp [World.cell?, HG7.out, tkR]
         clear hkn
         go_wp2_with (refine wpList_load_tok rfl _ rfl w1.heap.size rfl (tkR (.slice none 0 0) ({ kind := 12, m := 3, name := C.p.sub q e } : Tk)) HG7.out rfl ?_)
         refine Calls.mono (put_any hx7 (.slice none 0 0) ({ kind := 12, m := 3, name := C.p.sub q e } : Tk) (ownR_nil _ _) (by omega)) ?_
         intro e8 w8 hr
         have HP := Lib.hid (ptOk_put hr (hk7.mono hB))
         obtain ⟨rfl, _, _⟩ := hr
         go_wp2_with fail
         go_end0
         exact rp_ok HS.out HP.out
   | some r =>
     obtain ⟨n, m, b⟩ := r
     rw [hsg] at hs
     simp only at hs
     obtain ⟨m0, m2⟩ := signed_m hsg
     have HGT := Lib.hid (fun (hh : q ≤ C.p.n) => signed_gt hh hsg)
     have HSG := Lib.hid hsg
     clear hsg
     cases h3 : C.p.has [62] b with
     | false =>
       have HS := Lib.hid (show tkp.one f (C.p.refer f a) = .error (C.p.er 21 f) by rw [hs, if_pos h3]; rfl)
       have H3 := Lib.hid h3
       clear hs h3
       go_enter Tryz.func66, Tryz.ntmps66
       go_wp2_with fail
       refine Calls.mono (quotes_any h) ?_
       intro e1 w1 hr
       rw [HQ.out] at hr
       obtain ⟨rfl, hx1, hkn⟩ := hr
       have hk1 := hk0.then hkn
       have hbA := below_al w1 (.cells (tkR (.slice none 0 0) { kind := 12 }) 30)
       have hx2 := hx1.below hbA
       have hk2 := hk1.then (Kept.of_below (L := C.L) hbA)
       clear hkn hbA
       unfold tkR
       go_wp2_with fail
       have hqn := hx2.an
       have tq2 := hx2.tl
       refine Calls.mono (signed_any hx2) ?_
       intro e3 w3 hr
       rw [HSG.out] at hr
       obtain ⟨rfl, hx3, hkn⟩ := hr
       have hk3 := hk2.then hkn
       have HG3 := Lib.hid ((hkn.block w1.heap.size (by rw [World.size_alloc]; omega) (by have := hx1.cells.lt; omega)).trans (heap_alloc_new w1 _))
       have hg1 : w.heap.size ≤ w1.heap.size := hk1.size
       have c6 : w3.cell? ⟨w1.heap.size, 6, none⟩ = some (.int .i64 0) := by simp [World.cell?, HG3.out, tkR]
       have c7 : w3.cell? ⟨w1.heap.size, 7, none⟩ = some (.int .i64 0) := by simp [World.cell?, HG3.out, tkR]
       have fz6 : w3.frozen? ⟨w1.heap.size, 6, none⟩ = false := by simp [World.frozen?, HG3.out]
       have fz7 : w3.frozen? ⟨w1.heap.size, 7, none⟩ = false := by simp [World.frozen?, HG3.out]
       clear hkn hx2 hk2
       obtain ⟨s1, s2, s3, s4⟩ := HGT.out hqn
       go_wp2_with fail
       have hpk : Poke w1.heap.size w3 ((w3.setCell ⟨w1.heap.size, 6, none⟩ (.int .i64 n)).setCell ⟨w1.heap.size, 7, none⟩ (.int .i64 m)) := (poke_cell w3 w1.heap.size 6 (.int .i64 n)).trans (poke_cell (w3.setCell ⟨w1.heap.size, 6, none⟩ (.int .i64 n)) w1.heap.size 7 (.int .i64 m))
       have HG4 : Hid (((w3.setCell ⟨w1.heap.size, 6, none⟩ (.int .i64 n)).setCell ⟨w1.heap.size, 7, none⟩ (.int .i64 m)).heap[w1.heap.size]? = some (.cells (tkR (.slice none 0 0) ({ kind := 12, n := n, m := m } : Tk)) 30 (0, 0))) := Lib.hid (heap_set (o := 7) (v := .int .i64 m) (heap_set (o := 6) (v := .int .i64 n) (HG3.out)))
       have hx4 := hx3.poke HG3.out (Nat.le_trans hB hg1) (hrl _ hg1) hpk
       have hk4 := hk3.poke hpk hg1
       clear hpk c6 c7 fz6 fz7
       generalize ((w3.setCell ⟨w1.heap.size, 6, none⟩ (.int .i64 n)).setCell ⟨w1.heap.size, 7, none⟩ (.int .i64 m)) = w4 at *
       have hg2 : w1.heap.size < w4.heap.size := by
         rcases Nat.lt_or_ge w1.heap.size w4.heap.size with hh | hh
         · exact hh
         · have := HG4.out
           rw [Array.getElem?_eq_none hh] at this
           cases this
       have tq := hx3.tl
       refine Calls.mono (take_n hx4 ⟨#[62]⟩ [62] rfl (by decide) H3.out) ?_
       rintro e5 w5 ⟨rfl, hx5, hkn⟩
       have hk5 := hk4.then hkn
       clear hkn
       go_wp2_with fail
       refine Calls.mono (fail_any hx5 21) ?_
       rintro e9 w9 ⟨rfl, hkn⟩
       exact ⟨rfl, rp_err HS.out ⟨rfl, (hk5.mono hB).trans hkn⟩⟩
     | true =>
       have H3 := Lib.hid h3
       rw [if_neg (by simp [h3])] at hs
       clear h3
       by_cases hn0 : n = 0
       · subst hn0
         by_cases hm0 : m = 0
         · subst hm0
           have HS := Lib.hid (show tkp.one f (C.p.refer f a) = .ok ([lay ({ kind := 12, n := 0, m := 0 } : Tk) f (b + 1)], b + 1) by rw [hs, if_neg (by simp; try omega)]; rfl)
           clear hs
           go_enter Tryz.func66, Tryz.ntmps66
           go_wp2_with fail
           refine Calls.mono (quotes_any h) ?_
           intro e1 w1 hr
           rw [HQ.out] at hr
           obtain ⟨rfl, hx1, hkn⟩ := hr
           have hk1 := hk0.then hkn
           have hbA := below_al w1 (.cells (tkR (.slice none 0 0) { kind := 12 }) 30)
           have hx2 := hx1.below hbA
           have hk2 := hk1.then (Kept.of_below (L := C.L) hbA)
           clear hkn hbA
           unfold tkR
           go_wp2_with fail
           have hqn := hx2.an
           have tq2 := hx2.tl
           refine Calls.mono (signed_any hx2) ?_
           intro e3 w3 hr
           rw [HSG.out] at hr
           obtain ⟨rfl, hx3, hkn⟩ := hr
           have hk3 := hk2.then hkn
           have HG3 := Lib.hid ((hkn.block w1.heap.size (by rw [World.size_alloc]; omega) (by have := hx1.cells.lt; omega)).trans (heap_alloc_new w1 _))
           have hg1 : w.heap.size ≤ w1.heap.size := hk1.size
           have c6 : w3.cell? ⟨w1.heap.size, 6, none⟩ = some (.int .i64 0) := by simp [World.cell?, HG3.out, tkR]
           have c7 : w3.cell? ⟨w1.heap.size, 7, none⟩ = some (.int .i64 0) := by simp [World.cell?, HG3.out, tkR]
           have fz6 : w3.frozen? ⟨w1.heap.size, 6, none⟩ = false := by simp [World.frozen?, HG3.out]
           have fz7 : w3.frozen? ⟨w1.heap.size, 7, none⟩ = false := by simp [World.frozen?, HG3.out]
           clear hkn hx2 hk2
           obtain ⟨s1, s2, s3, s4⟩ := HGT.out hqn
           go_wp2_with fail
           have hpk : Poke w1.heap.size w3 ((w3.setCell ⟨w1.heap.size, 6, none⟩ (.int .i64 0)).setCell ⟨w1.heap.size, 7, none⟩ (.int .i64 0)) := (poke_cell w3 w1.heap.size 6 (.int .i64 0)).trans (poke_cell (w3.setCell ⟨w1.heap.size, 6, none⟩ (.int .i64 0)) w1.heap.size 7 (.int .i64 0))
           have HG4 : Hid (((w3.setCell ⟨w1.heap.size, 6, none⟩ (.int .i64 0)).setCell ⟨w1.heap.size, 7, none⟩ (.int .i64 0)).heap[w1.heap.size]? = some (.cells (tkR (.slice none 0 0) ({ kind := 12, n := 0, m := 0 } : Tk)) 30 (0, 0))) := Lib.hid (heap_set (o := 7) (v := .int .i64 0) (heap_set (o := 6) (v := .int .i64 0) (HG3.out)))
           have hx4 := hx3.poke HG3.out (Nat.le_trans hB hg1) (hrl _ hg1) hpk
           have hk4 := hk3.poke hpk hg1
           clear hpk c6 c7 fz6 fz7
           generalize ((w3.setCell ⟨w1.heap.size, 6, none⟩ (.int .i64 0)).setCell ⟨w1.heap.size, 7, none⟩ (.int .i64 0)) = w4 at *
           have hg2 : w1.heap.size < w4.heap.size := by
             rcases Nat.lt_or_ge w1.heap.size w4.heap.size with hh | hh
             · exact hh
             · have := HG4.out
               rw [Array.getElem?_eq_none hh] at this
               cases this
           have tq := hx3.tl
           refine Calls.mono (take_y hx4 ⟨#[62]⟩ [62] 1 rfl rfl (by decide) H3.out) ?_
           rintro e5 w5 ⟨rfl, hx5, hkn⟩
           have hk5 := hk4.then hkn
           have HG5 := Lib.hid ((hkn.block w1.heap.size hg2 (by have := hx1.cells.lt; omega)).trans HG4.out)
           have k0 : w5.cell? ⟨w1.heap.size, 0, none⟩ = some (.int .i64 12) := by simp [World.cell?, HG5.out, tkR]
           have k6 : w5.cell? ⟨w1.heap.size, 6, none⟩ = some (.int .i64 0) := by simp [World.cell?, HG5.out, tkR]
           have k7 : w5.cell? ⟨w1.heap.size, 7, none⟩ = some (.int .i64 0) := by simp [World.cell?, HG5.out, tkR]
           clear hkn
           go_wp2_with (refine wpList_load_tok rfl _ rfl w1.heap.size rfl (tkR (.slice none 0 0) ({ kind := 12, n := 0, m := 0 } : Tk)) HG5.out rfl ?_)
           refine Calls.mono (put_any hx5 (.slice none 0 0) ({ kind := 12, n := 0, m := 0 } : Tk) (ownR_nil _ _) (by omega)) ?_
           intro e8 w8 hr
           have HP := Lib.hid (ptOk_put hr (hk5.mono hB))
           obtain ⟨rfl, _, _⟩ := hr
           go_wp2_with fail
           go_end0
           exact rp_ok HS.out HP.out
         · have HS := Lib.hid (show tkp.one f (C.p.refer f a) = .error (C.p.er 25 f) by rw [hs, if_pos ⟨rfl, Or.inr hm0⟩]; rfl)
           clear hs
           have hb3 : (m != 3) = true := by simp; omega
           have hb0 : (m == 0) = false := by simpa using hm0
           go_enter Tryz.func66, Tryz.ntmps66
           go_wp2_with fail
           refine Calls.mono (quotes_any h) ?_
           intro e1 w1 hr
           rw [HQ.out] at hr
           obtain ⟨rfl, hx1, hkn⟩ := hr
           have hk1 := hk0.then hkn
           have hbA := below_al w1 (.cells (tkR (.slice none 0 0) { kind := 12 }) 30)
           have hx2 := hx1.below hbA
           have hk2 := hk1.then (Kept.of_below (L := C.L) hbA)
           clear hkn hbA
           unfold tkR
           go_wp2_with fail
           have hqn := hx2.an
           have tq2 := hx2.tl
           refine Calls.mono (signed_any hx2) ?_
           intro e3 w3 hr
           rw [HSG.out] at hr
           obtain ⟨rfl, hx3, hkn⟩ := hr
           have hk3 := hk2.then hkn
           have HG3 := Lib.hid ((hkn.block w1.heap.size (by rw [World.size_alloc]; omega) (by have := hx1.cells.lt; omega)).trans (heap_alloc_new w1 _))
           have hg1 : w.heap.size ≤ w1.heap.size := hk1.size
           have c6 : w3.cell? ⟨w1.heap.size, 6, none⟩ = some (.int .i64 0) := by simp [World.cell?, HG3.out, tkR]
           have c7 : w3.cell? ⟨w1.heap.size, 7, none⟩ = some (.int .i64 0) := by simp [World.cell?, HG3.out, tkR]
           have fz6 : w3.frozen? ⟨w1.heap.size, 6, none⟩ = false := by simp [World.frozen?, HG3.out]
           have fz7 : w3.frozen? ⟨w1.heap.size, 7, none⟩ = false := by simp [World.frozen?, HG3.out]
           clear hkn hx2 hk2
           obtain ⟨s1, s2, s3, s4⟩ := HGT.out hqn
           go_wp2_with fail
           have hpk : Poke w1.heap.size w3 ((w3.setCell ⟨w1.heap.size, 6, none⟩ (.int .i64 0)).setCell ⟨w1.heap.size, 7, none⟩ (.int .i64 m)) := (poke_cell w3 w1.heap.size 6 (.int .i64 0)).trans (poke_cell (w3.setCell ⟨w1.heap.size, 6, none⟩ (.int .i64 0)) w1.heap.size 7 (.int .i64 m))
           have HG4 : Hid (((w3.setCell ⟨w1.heap.size, 6, none⟩ (.int .i64 0)).setCell ⟨w1.heap.size, 7, none⟩ (.int .i64 m)).heap[w1.heap.size]? = some (.cells (tkR (.slice none 0 0) ({ kind := 12, n := 0, m := m } : Tk)) 30 (0, 0))) := Lib.hid (heap_set (o := 7) (v := .int .i64 m) (heap_set (o := 6) (v := .int .i64 0) (HG3.out)))
           have hx4 := hx3.poke HG3.out (Nat.le_trans hB hg1) (hrl _ hg1) hpk
           have hk4 := hk3.poke hpk hg1
           clear hpk c6 c7 fz6 fz7
           generalize ((w3.setCell ⟨w1.heap.size, 6, none⟩ (.int .i64 0)).setCell ⟨w1.heap.size, 7, none⟩ (.int .i64 m)) = w4 at *
           have hg2 : w1.heap.size < w4.heap.size := by
             rcases Nat.lt_or_ge w1.heap.size w4.heap.size with hh | hh
             · exact hh
             · have := HG4.out
               rw [Array.getElem?_eq_none hh] at this
               cases this
           have tq := hx3.tl
           refine Calls.mono (take_y hx4 ⟨#[62]⟩ [62] 1 rfl rfl (by decide) H3.out) ?_
           rintro e5 w5 ⟨rfl, hx5, hkn⟩
           have hk5 := hk4.then hkn
           have HG5 := Lib.hid ((hkn.block w1.heap.size hg2 (by have := hx1.cells.lt; omega)).trans HG4.out)
           have k0 : w5.cell? ⟨w1.heap.size, 0, none⟩ = some (.int .i64 12) := by simp [World.cell?, HG5.out, tkR]
           have k6 : w5.cell? ⟨w1.heap.size, 6, none⟩ = some (.int .i64 0) := by simp [World.cell?, HG5.out, tkR]
           have k7 : w5.cell? ⟨w1.heap.size, 7, none⟩ = some (.int .i64 m) := by simp [World.cell?, HG5.out, tkR]
           clear hkn
           go_wp2_with fail
           refine Calls.mono (fail_any hx5 25) ?_
           rintro e9 w9 ⟨rfl, hkn⟩
           exact ⟨rfl, rp_err HS.out ⟨rfl, (hk5.mono hB).trans hkn⟩⟩
       · by_cases hm0 : m = 0
         · subst hm0
           have HS := Lib.hid (show tkp.one f (C.p.refer f a) = .ok ([lay ({ kind := 12, n := n, m := 0 } : Tk) f (b + 1)], b + 1) by rw [hs, if_neg (by simp; try omega)]; rfl)
           clear hs
           go_enter Tryz.func66, Tryz.ntmps66
           go_wp2_with fail
           refine Calls.mono (quotes_any h) ?_
           intro e1 w1 hr
           rw [HQ.out] at hr
           obtain ⟨rfl, hx1, hkn⟩ := hr
           have hk1 := hk0.then hkn
           have hbA := below_al w1 (.cells (tkR (.slice none 0 0) { kind := 12 }) 30)
           have hx2 := hx1.below hbA
           have hk2 := hk1.then (Kept.of_below (L := C.L) hbA)
           clear hkn hbA
           unfold tkR
           go_wp2_with fail
           have hqn := hx2.an
           have tq2 := hx2.tl
           refine Calls.mono (signed_any hx2) ?_
           intro e3 w3 hr
           rw [HSG.out] at hr
           obtain ⟨rfl, hx3, hkn⟩ := hr
           have hk3 := hk2.then hkn
           have HG3 := Lib.hid ((hkn.block w1.heap.size (by rw [World.size_alloc]; omega) (by have := hx1.cells.lt; omega)).trans (heap_alloc_new w1 _))
           have hg1 : w.heap.size ≤ w1.heap.size := hk1.size
           have c6 : w3.cell? ⟨w1.heap.size, 6, none⟩ = some (.int .i64 0) := by simp [World.cell?, HG3.out, tkR]
           have c7 : w3.cell? ⟨w1.heap.size, 7, none⟩ = some (.int .i64 0) := by simp [World.cell?, HG3.out, tkR]
           have fz6 : w3.frozen? ⟨w1.heap.size, 6, none⟩ = false := by simp [World.frozen?, HG3.out]
           have fz7 : w3.frozen? ⟨w1.heap.size, 7, none⟩ = false := by simp [World.frozen?, HG3.out]
           clear hkn hx2 hk2
           obtain ⟨s1, s2, s3, s4⟩ := HGT.out hqn
           go_wp2_with fail
           have hpk : Poke w1.heap.size w3 ((w3.setCell ⟨w1.heap.size, 6, none⟩ (.int .i64 n)).setCell ⟨w1.heap.size, 7, none⟩ (.int .i64 0)) := (poke_cell w3 w1.heap.size 6 (.int .i64 n)).trans (poke_cell (w3.setCell ⟨w1.heap.size, 6, none⟩ (.int .i64 n)) w1.heap.size 7 (.int .i64 0))
           have HG4 : Hid (((w3.setCell ⟨w1.heap.size, 6, none⟩ (.int .i64 n)).setCell ⟨w1.heap.size, 7, none⟩ (.int .i64 0)).heap[w1.heap.size]? = some (.cells (tkR (.slice none 0 0) ({ kind := 12, n := n, m := 0 } : Tk)) 30 (0, 0))) := Lib.hid (heap_set (o := 7) (v := .int .i64 0) (heap_set (o := 6) (v := .int .i64 n) (HG3.out)))
           have hx4 := hx3.poke HG3.out (Nat.le_trans hB hg1) (hrl _ hg1) hpk
           have hk4 := hk3.poke hpk hg1
           clear hpk c6 c7 fz6 fz7
           generalize ((w3.setCell ⟨w1.heap.size, 6, none⟩ (.int .i64 n)).setCell ⟨w1.heap.size, 7, none⟩ (.int .i64 0)) = w4 at *
           have hg2 : w1.heap.size < w4.heap.size := by
             rcases Nat.lt_or_ge w1.heap.size w4.heap.size with hh | hh
             · exact hh
             · have := HG4.out
               rw [Array.getElem?_eq_none hh] at this
               cases this
           have tq := hx3.tl
           refine Calls.mono (take_y hx4 ⟨#[62]⟩ [62] 1 rfl rfl (by decide) H3.out) ?_
           rintro e5 w5 ⟨rfl, hx5, hkn⟩
           have hk5 := hk4.then hkn
           have HG5 := Lib.hid ((hkn.block w1.heap.size hg2 (by have := hx1.cells.lt; omega)).trans HG4.out)
           have k0 : w5.cell? ⟨w1.heap.size, 0, none⟩ = some (.int .i64 12) := by simp [World.cell?, HG5.out, tkR]
           have k6 : w5.cell? ⟨w1.heap.size, 6, none⟩ = some (.int .i64 n) := by simp [World.cell?, HG5.out, tkR]
           have k7 : w5.cell? ⟨w1.heap.size, 7, none⟩ = some (.int .i64 0) := by simp [World.cell?, HG5.out, tkR]
           clear hkn
           go_wp2_with (refine wpList_load_tok rfl _ rfl w1.heap.size rfl (tkR (.slice none 0 0) ({ kind := 12, n := n, m := 0 } : Tk)) HG5.out rfl ?_)
           refine Calls.mono (put_any hx5 (.slice none 0 0) ({ kind := 12, n := n, m := 0 } : Tk) (ownR_nil _ _) (by omega)) ?_
           intro e8 w8 hr
           have HP := Lib.hid (ptOk_put hr (hk5.mono hB))
           obtain ⟨rfl, _, _⟩ := hr
           go_wp2_with fail
           go_end0
           exact rp_ok HS.out HP.out
         · have HS := Lib.hid (show tkp.one f (C.p.refer f a) = .ok ([lay ({ kind := 12, n := n, m := m } : Tk) f (b + 1)], b + 1) by rw [hs, if_neg (by simp; try omega)]; rfl)
           clear hs
           go_enter Tryz.func66, Tryz.ntmps66
           go_wp2_with fail
           refine Calls.mono (quotes_any h) ?_
           intro e1 w1 hr
           rw [HQ.out] at hr
           obtain ⟨rfl, hx1, hkn⟩ := hr
           have hk1 := hk0.then hkn
           have hbA := below_al w1 (.cells (tkR (.slice none 0 0) { kind := 12 }) 30)
           have hx2 := hx1.below hbA
           have hk2 := hk1.then (Kept.of_below (L := C.L) hbA)
           clear hkn hbA
           unfold tkR
           go_wp2_with fail
           have hqn := hx2.an
           have tq2 := hx2.tl
           refine Calls.mono (signed_any hx2) ?_
           intro e3 w3 hr
           rw [HSG.out] at hr
           obtain ⟨rfl, hx3, hkn⟩ := hr
           have hk3 := hk2.then hkn
           have HG3 := Lib.hid ((hkn.block w1.heap.size (by rw [World.size_alloc]; omega) (by have := hx1.cells.lt; omega)).trans (heap_alloc_new w1 _))
           have hg1 : w.heap.size ≤ w1.heap.size := hk1.size
           have c6 : w3.cell? ⟨w1.heap.size, 6, none⟩ = some (.int .i64 0) := by simp [World.cell?, HG3.out, tkR]
           have c7 : w3.cell? ⟨w1.heap.size, 7, none⟩ = some (.int .i64 0) := by simp [World.cell?, HG3.out, tkR]
           have fz6 : w3.frozen? ⟨w1.heap.size, 6, none⟩ = false := by simp [World.frozen?, HG3.out]
           have fz7 : w3.frozen? ⟨w1.heap.size, 7, none⟩ = false := by simp [World.frozen?, HG3.out]
           clear hkn hx2 hk2
           obtain ⟨s1, s2, s3, s4⟩ := HGT.out hqn
           go_wp2_with fail
           have hpk : Poke w1.heap.size w3 ((w3.setCell ⟨w1.heap.size, 6, none⟩ (.int .i64 n)).setCell ⟨w1.heap.size, 7, none⟩ (.int .i64 m)) := (poke_cell w3 w1.heap.size 6 (.int .i64 n)).trans (poke_cell (w3.setCell ⟨w1.heap.size, 6, none⟩ (.int .i64 n)) w1.heap.size 7 (.int .i64 m))
           have HG4 : Hid (((w3.setCell ⟨w1.heap.size, 6, none⟩ (.int .i64 n)).setCell ⟨w1.heap.size, 7, none⟩ (.int .i64 m)).heap[w1.heap.size]? = some (.cells (tkR (.slice none 0 0) ({ kind := 12, n := n, m := m } : Tk)) 30 (0, 0))) := Lib.hid (heap_set (o := 7) (v := .int .i64 m) (heap_set (o := 6) (v := .int .i64 n) (HG3.out)))
           have hx4 := hx3.poke HG3.out (Nat.le_trans hB hg1) (hrl _ hg1) hpk
           have hk4 := hk3.poke hpk hg1
           clear hpk c6 c7 fz6 fz7
           generalize ((w3.setCell ⟨w1.heap.size, 6, none⟩ (.int .i64 n)).setCell ⟨w1.heap.size, 7, none⟩ (.int .i64 m)) = w4 at *
           have hg2 : w1.heap.size < w4.heap.size := by
             rcases Nat.lt_or_ge w1.heap.size w4.heap.size with hh | hh
             · exact hh
             · have := HG4.out
               rw [Array.getElem?_eq_none hh] at this
               cases this
           have tq := hx3.tl
           refine Calls.mono (take_y hx4 ⟨#[62]⟩ [62] 1 rfl rfl (by decide) H3.out) ?_
           rintro e5 w5 ⟨rfl, hx5, hkn⟩
           have hk5 := hk4.then hkn
           have HG5 := Lib.hid ((hkn.block w1.heap.size hg2 (by have := hx1.cells.lt; omega)).trans HG4.out)
           have k0 : w5.cell? ⟨w1.heap.size, 0, none⟩ = some (.int .i64 12) := by simp [World.cell?, HG5.out, tkR]
           have k6 : w5.cell? ⟨w1.heap.size, 6, none⟩ = some (.int .i64 n) := by simp [World.cell?, HG5.out, tkR]
           have k7 : w5.cell? ⟨w1.heap.size, 7, none⟩ = some (.int .i64 m) := by simp [World.cell?, HG5.out, tkR]
           clear hkn
           go_wp2_with (refine wpList_load_tok rfl _ rfl w1.heap.size rfl (tkR (.slice none 0 0) ({ kind := 12, n := n, m := m } : Tk)) HG5.out rfl ?_)
           refine Calls.mono (put_any hx5 (.slice none 0 0) ({ kind := 12, n := n, m := m } : Tk) (ownR_nil _ _) (by omega)) ?_
           intro e8 w8 hr
           have HP := Lib.hid (ptOk_put hr (hk5.mono hB))
           obtain ⟨rfl, _, _⟩ := hr
           go_wp2_with fail
           go_end0
           exact rp_ok HS.out HP.out
set_option maxRecDepth 100000 in
set_option maxHeartbeats 8000000 in
theorem refer_1 {C : Cf} {w : World} {a f : Nat} {T : Rw} (h : LX C w a f T) {q : Nat} (hq : C.p.quotes a = (12, [39], q)) : Calls Tryz.prog 66 #[.pointer (some ⟨C.L, 0, none⟩)] w (RP C w (tkp.one f (C.p.refer f a)) (PtOk C w T)) := by
 have hq2 : (C.p.quotes a).2.2 = q := by rw [hq]
 have hge := quotes_ge (p := C.p) (a := a)
 rw [hq2] at hge
 have hs : C.p.refer f a = (match C.p.signed f q with
   | .error e => .error e
   | .ok (some (n, m, b)) => if C.p.has [39] b = false then .error (21, (f : Int))
     else if n = 0 ∧ ((12 : Int) ≠ 12 ∨ m ≠ 0) then .error (25, (f : Int))
     else .ok ({ kind := 12, n := n, m := m }, b + 1)
   | .ok none => if (C.p.name q).2 = false ∨ ([39] : List UInt8) = [] ∨ C.p.has [39] (C.p.name q).1 = false then .error (21, (f : Int))
     else .ok ({ kind := 12, m := 3, name := C.p.sub q (C.p.name q).1 }, (C.p.name q).1 + 1)) := by
   unfold Pt.refer
   rw [hq]
   rfl
 have HQ := Lib.hid hq
 have hrl := fun (g : Nat) (hg : w.heap.size ≤ g) => h.row_lt hg
 clear hq hq2
 have hk0 := Kept.refl w.heap.size C.L w
 have hB := h.hb
 cases hsg : C.p.signed f q with
 | error x =>
   rw [hsg] at hs
   have HS := Lib.hid (show tkp.one f (C.p.refer f a) = .error x by rw [hs]; rfl)
   have HSG := Lib.hid hsg
   clear hs hsg
   go_enter Tryz.func66, Tryz.ntmps66
   go_wp2_with fail
   refine Calls.mono (quotes_any h) ?_
   intro e1 w1 hr
   rw [HQ.out] at hr
   obtain ⟨rfl, hx1, hkn⟩ := hr
   have hk1 := hk0.then hkn
   have hbA := below_al w1 (.cells (tkR (.slice none 0 0) { kind := 12 }) 30)
   have hx2 := hx1.below hbA
   have hk2 := hk1.then (Kept.of_below (L := C.L) hbA)
   clear hkn hbA
   unfold tkR
   go_wp2_with fail
   refine Calls.mono (signed_any hx2) ?_
   intro e3 w3 hr
   rw [HSG.out] at hr
   obtain ⟨rfl, hkn⟩ := hr
   exact ⟨rfl, rp_err HS.out ⟨rfl, (hk2.mono hB).trans hkn⟩⟩
 | ok o =>
   cases o with
   | none =>
     rw [hsg] at hs
     simp only at hs
     obtain ⟨⟨e, ok⟩, hn⟩ : ∃ d, C.p.name q = d := ⟨_, rfl⟩
     rw [hn] at hs
     simp only at hs
     have HN := Lib.hid hn
     have HSG := Lib.hid hsg
     have HNE := Lib.hid (fun (hh : q ≤ C.p.n) => name_ge (p := C.p) hh)
     rw [hn] at HNE
     clear hn hsg
     cases ok with
     | false =>
       have HS := Lib.hid (show tkp.one f (C.p.refer f a) = .error (C.p.er 21 f) by rw [hs, if_pos (Or.inl rfl)]; rfl)
       clear hs
       go_enter Tryz.func66, Tryz.ntmps66
       go_wp2_with fail
       refine Calls.mono (quotes_any h) ?_
       intro e1 w1 hr
       rw [HQ.out] at hr
       obtain ⟨rfl, hx1, hkn⟩ := hr
       have hk1 := hk0.then hkn
       have hbA := below_al w1 (.cells (tkR (.slice none 0 0) { kind := 12 }) 30)
       have hx2 := hx1.below hbA
       have hk2 := hk1.then (Kept.of_below (L := C.L) hbA)
       clear hkn hbA
       unfold tkR
       go_wp2_with fail
       refine Calls.mono (signed_any hx2) ?_
       intro e3 w3 hr
       rw [HSG.out] at hr
       obtain ⟨rfl, hx3, hkn⟩ := hr
       have hk3 := hk2.then hkn
       have HG3 := Lib.hid ((hkn.block w1.heap.size (by rw [World.size_alloc]; omega) (by have := hx1.cells.lt; omega)).trans (heap_alloc_new w1 _))
       have hg1 : w.heap.size ≤ w1.heap.size := hk1.size
       have c6 : w3.cell? ⟨w1.heap.size, 6, none⟩ = some (.int .i64 0) := by simp [World.cell?, HG3.out, tkR]
       have c7 : w3.cell? ⟨w1.heap.size, 7, none⟩ = some (.int .i64 0) := by simp [World.cell?, HG3.out, tkR]
       have fz6 : w3.frozen? ⟨w1.heap.size, 6, none⟩ = false := by simp [World.frozen?, HG3.out]
       have fz7 : w3.frozen? ⟨w1.heap.size, 7, none⟩ = false := by simp [World.frozen?, HG3.out]
       clear hkn hx2 hk2
       go_wp2_with fail
       have hpk : Poke w1.heap.size w3 (((w3.setCell ⟨w1.heap.size, 6, none⟩ (.int .i64 0)).setCell ⟨w1.heap.size, 7, none⟩ (.int .i64 0)).setCell ⟨w1.heap.size, 7, none⟩ (.int .i64 3)) := ((poke_cell w3 w1.heap.size 6 (.int .i64 0)).trans (poke_cell (w3.setCell ⟨w1.heap.size, 6, none⟩ (.int .i64 0)) w1.heap.size 7 (.int .i64 0))).trans (poke_cell ((w3.setCell ⟨w1.heap.size, 6, none⟩ (.int .i64 0)).setCell ⟨w1.heap.size, 7, none⟩ (.int .i64 0)) w1.heap.size 7 (.int .i64 3))
       have HG4 : Hid ((((w3.setCell ⟨w1.heap.size, 6, none⟩ (.int .i64 0)).setCell ⟨w1.heap.size, 7, none⟩ (.int .i64 0)).setCell ⟨w1.heap.size, 7, none⟩ (.int .i64 3)).heap[w1.heap.size]? = some (.cells (tkR (.slice none 0 0) ({ kind := 12, m := 3 } : Tk)) 30 (0, 0))) := Lib.hid (heap_set (o := 7) (v := .int .i64 3) (heap_set (o := 7) (v := .int .i64 0) (heap_set (o := 6) (v := .int .i64 0) (HG3.out))))
       have hx4 := hx3.poke HG3.out (Nat.le_trans hB hg1) (hrl _ hg1) hpk
       have hk4 := hk3.poke hpk hg1
       clear hpk c6 c7 fz6 fz7
       generalize (((w3.setCell ⟨w1.heap.size, 6, none⟩ (.int .i64 0)).setCell ⟨w1.heap.size, 7, none⟩ (.int .i64 0)).setCell ⟨w1.heap.size, 7, none⟩ (.int .i64 3)) = w4 at *
       have hg2 : w1.heap.size < w4.heap.size := by
         rcases Nat.lt_or_ge w1.heap.size w4.heap.size with hh | hh
         · exact hh
         · have := HG4.out
           rw [Array.getElem?_eq_none hh] at this
           cases this
       refine Calls.mono (name_any hx4) ?_
       intro e5 w5 hr
       rw [HN.out] at hr
       obtain ⟨rfl, hx5, hkn⟩ := hr
       have hk5 := hk4.then hkn
       have HG5 := Lib.hid ((hkn.block w1.heap.size hg2 (by have := hx1.cells.lt; omega)).trans HG4.out)
       have nge := HNE.out hx4.an
       have c6 : w5.cell? ⟨w1.heap.size, 9, none⟩ = some (.string ⟨#[]⟩) := by simp [World.cell?, HG5.out, tkR]
       have fz9 : w5.frozen? ⟨w1.heap.size, 9, none⟩ = false := by simp [World.frozen?, HG5.out]
       have c7 := hg2
       have fz6 := hg2
       have fz7 := hg2
       clear hkn
       go_wp2_with fail
       have hpk : Poke w1.heap.size w5 (w5.setCell ⟨w1.heap.size, 9, none⟩ (.string (C.p.sub q e))) := poke_cell w5 w1.heap.size 9 (.string (C.p.sub q e))
       have HG6 : Hid ((w5.setCell ⟨w1.heap.size, 9, none⟩ (.string (C.p.sub q e))).heap[w1.heap.size]? = some (.cells (tkR (.slice none 0 0) ({ kind := 12, m := 3, name := C.p.sub q e } : Tk)) 30 (0, 0))) := Lib.hid (heap_set (o := 9) (v := .string (C.p.sub q e)) (HG5.out))
       have hx6 := hx5.poke HG5.out (Nat.le_trans hB hg1) (hrl _ hg1) hpk
       have hk6 := hk5.poke hpk hg1
       clear hpk c6 c7 fz6 fz7 fz9
       generalize (w5.setCell ⟨w1.heap.size, 9, none⟩ (.string (C.p.sub q e))) = w6 at *
       have tl6 := hx6.tl
       have hg6 : w1.heap.size < w6.heap.size := by
         rcases Nat.lt_or_ge w1.heap.size w6.heap.size with hh | hh
         · exact hh
         · have := HG6.out
           rw [Array.getElem?_eq_none hh] at this
           cases this
       refine Calls.mono (fail_any hx6 21) ?_
       rintro e9 w9 ⟨rfl, hkn⟩
       exact ⟨rfl, rp_err HS.out ⟨rfl, (hk6.mono hB).trans hkn⟩⟩
     | true =>
       cases h3 : C.p.has [39] e with
       | false =>
         have HS := Lib.hid (show tkp.one f (C.p.refer f a) = .error (C.p.er 21 f) by rw [hs, if_pos (Or.inr (Or.inr h3))]; rfl)
         clear hs
         have H3 := Lib.hid h3
         clear h3
         go_enter Tryz.func66, Tryz.ntmps66
         go_wp2_with fail
         refine Calls.mono (quotes_any h) ?_
         intro e1 w1 hr
         rw [HQ.out] at hr
         obtain ⟨rfl, hx1, hkn⟩ := hr
         have hk1 := hk0.then hkn
         have hbA := below_al w1 (.cells (tkR (.slice none 0 0) { kind := 12 }) 30)
         have hx2 := hx1.below hbA
         have hk2 := hk1.then (Kept.of_below (L := C.L) hbA)
         clear hkn hbA
         unfold tkR
         go_wp2_with fail
         refine Calls.mono (signed_any hx2) ?_
         intro e3 w3 hr
         rw [HSG.out] at hr
         obtain ⟨rfl, hx3, hkn⟩ := hr
         have hk3 := hk2.then hkn
         have HG3 := Lib.hid ((hkn.block w1.heap.size (by rw [World.size_alloc]; omega) (by have := hx1.cells.lt; omega)).trans (heap_alloc_new w1 _))
         have hg1 : w.heap.size ≤ w1.heap.size := hk1.size
         have c6 : w3.cell? ⟨w1.heap.size, 6, none⟩ = some (.int .i64 0) := by simp [World.cell?, HG3.out, tkR]
         have c7 : w3.cell? ⟨w1.heap.size, 7, none⟩ = some (.int .i64 0) := by simp [World.cell?, HG3.out, tkR]
         have fz6 : w3.frozen? ⟨w1.heap.size, 6, none⟩ = false := by simp [World.frozen?, HG3.out]
         have fz7 : w3.frozen? ⟨w1.heap.size, 7, none⟩ = false := by simp [World.frozen?, HG3.out]
         clear hkn hx2 hk2
         go_wp2_with fail
         have hpk : Poke w1.heap.size w3 (((w3.setCell ⟨w1.heap.size, 6, none⟩ (.int .i64 0)).setCell ⟨w1.heap.size, 7, none⟩ (.int .i64 0)).setCell ⟨w1.heap.size, 7, none⟩ (.int .i64 3)) := ((poke_cell w3 w1.heap.size 6 (.int .i64 0)).trans (poke_cell (w3.setCell ⟨w1.heap.size, 6, none⟩ (.int .i64 0)) w1.heap.size 7 (.int .i64 0))).trans (poke_cell ((w3.setCell ⟨w1.heap.size, 6, none⟩ (.int .i64 0)).setCell ⟨w1.heap.size, 7, none⟩ (.int .i64 0)) w1.heap.size 7 (.int .i64 3))
         have HG4 : Hid ((((w3.setCell ⟨w1.heap.size, 6, none⟩ (.int .i64 0)).setCell ⟨w1.heap.size, 7, none⟩ (.int .i64 0)).setCell ⟨w1.heap.size, 7, none⟩ (.int .i64 3)).heap[w1.heap.size]? = some (.cells (tkR (.slice none 0 0) ({ kind := 12, m := 3 } : Tk)) 30 (0, 0))) := Lib.hid (heap_set (o := 7) (v := .int .i64 3) (heap_set (o := 7) (v := .int .i64 0) (heap_set (o := 6) (v := .int .i64 0) (HG3.out))))
         have hx4 := hx3.poke HG3.out (Nat.le_trans hB hg1) (hrl _ hg1) hpk
         have hk4 := hk3.poke hpk hg1
         clear hpk c6 c7 fz6 fz7
         generalize (((w3.setCell ⟨w1.heap.size, 6, none⟩ (.int .i64 0)).setCell ⟨w1.heap.size, 7, none⟩ (.int .i64 0)).setCell ⟨w1.heap.size, 7, none⟩ (.int .i64 3)) = w4 at *
         have hg2 : w1.heap.size < w4.heap.size := by
           rcases Nat.lt_or_ge w1.heap.size w4.heap.size with hh | hh
           · exact hh
           · have := HG4.out
             rw [Array.getElem?_eq_none hh] at this
             cases this
         refine Calls.mono (name_any hx4) ?_
         intro e5 w5 hr
         rw [HN.out] at hr
         obtain ⟨rfl, hx5, hkn⟩ := hr
         have hk5 := hk4.then hkn
         have HG5 := Lib.hid ((hkn.block w1.heap.size hg2 (by have := hx1.cells.lt; omega)).trans HG4.out)
         have nge := HNE.out hx4.an
         have c6 : w5.cell? ⟨w1.heap.size, 9, none⟩ = some (.string ⟨#[]⟩) := by simp [World.cell?, HG5.out, tkR]
         have fz9 : w5.frozen? ⟨w1.heap.size, 9, none⟩ = false := by simp [World.frozen?, HG5.out]
         have c7 := hg2
         have fz6 := hg2
         have fz7 := hg2
         clear hkn
         go_wp2_with fail
         have hpk : Poke w1.heap.size w5 (w5.setCell ⟨w1.heap.size, 9, none⟩ (.string (C.p.sub q e))) := poke_cell w5 w1.heap.size 9 (.string (C.p.sub q e))
         have HG6 : Hid ((w5.setCell ⟨w1.heap.size, 9, none⟩ (.string (C.p.sub q e))).heap[w1.heap.size]? = some (.cells (tkR (.slice none 0 0) ({ kind := 12, m := 3, name := C.p.sub q e } : Tk)) 30 (0, 0))) := Lib.hid (heap_set (o := 9) (v := .string (C.p.sub q e)) (HG5.out))
         have hx6 := hx5.poke HG5.out (Nat.le_trans hB hg1) (hrl _ hg1) hpk
         have hk6 := hk5.poke hpk hg1
         clear hpk c6 c7 fz6 fz7 fz9
         generalize (w5.setCell ⟨w1.heap.size, 9, none⟩ (.string (C.p.sub q e))) = w6 at *
         have tl6 := hx6.tl
         have hg6 : w1.heap.size < w6.heap.size := by
           rcases Nat.lt_or_ge w1.heap.size w6.heap.size with hh | hh
           · exact hh
           · have := HG6.out
             rw [Array.getElem?_eq_none hh] at this
             cases this
         refine Calls.mono (take_n hx6 ⟨#[39]⟩ [39] rfl (by decide) H3.out) ?_
         rintro e7 w7 ⟨rfl, hx7, hkn⟩
         have hk7 := hk6.then hkn
         clear hkn
         go_wp2_with fail
         refine Calls.mono (fail_any hx7 21) ?_
         rintro e9 w9 ⟨rfl, hkn⟩
         exact ⟨rfl, rp_err HS.out ⟨rfl, (hk7.mono hB).trans hkn⟩⟩
       | true =>
         have HS := Lib.hid (show tkp.one f (C.p.refer f a) = .ok ([lay ({ kind := 12, m := 3, name := C.p.sub q e } : Tk) f (e + 1)], e + 1) by rw [hs, if_neg (by simp [h3])]; rfl)
         have H3 := Lib.hid h3
         clear hs h3
         go_enter Tryz.func66, Tryz.ntmps66
         go_wp2_with fail
         refine Calls.mono (quotes_any h) ?_
         intro e1 w1 hr
         rw [HQ.out] at hr
         obtain ⟨rfl, hx1, hkn⟩ := hr
         have hk1 := hk0.then hkn
         have hbA := below_al w1 (.cells (tkR (.slice none 0 0) { kind := 12 }) 30)
         have hx2 := hx1.below hbA
         have hk2 := hk1.then (Kept.of_below (L := C.L) hbA)
         clear hkn hbA
         unfold tkR
         go_wp2_with fail
         refine Calls.mono (signed_any hx2) ?_
         intro e3 w3 hr
         rw [HSG.out] at hr
         obtain ⟨rfl, hx3, hkn⟩ := hr
         have hk3 := hk2.then hkn
         have HG3 := Lib.hid ((hkn.block w1.heap.size (by rw [World.size_alloc]; omega) (by have := hx1.cells.lt; omega)).trans (heap_alloc_new w1 _))
         have hg1 : w.heap.size ≤ w1.heap.size := hk1.size
         have c6 : w3.cell? ⟨w1.heap.size, 6, none⟩ = some (.int .i64 0) := by simp [World.cell?, HG3.out, tkR]
         have c7 : w3.cell? ⟨w1.heap.size, 7, none⟩ = some (.int .i64 0) := by simp [World.cell?, HG3.out, tkR]
         have fz6 : w3.frozen? ⟨w1.heap.size, 6, none⟩ = false := by simp [World.frozen?, HG3.out]
         have fz7 : w3.frozen? ⟨w1.heap.size, 7, none⟩ = false := by simp [World.frozen?, HG3.out]
         clear hkn hx2 hk2
         go_wp2_with fail
         have hpk : Poke w1.heap.size w3 (((w3.setCell ⟨w1.heap.size, 6, none⟩ (.int .i64 0)).setCell ⟨w1.heap.size, 7, none⟩ (.int .i64 0)).setCell ⟨w1.heap.size, 7, none⟩ (.int .i64 3)) := ((poke_cell w3 w1.heap.size 6 (.int .i64 0)).trans (poke_cell (w3.setCell ⟨w1.heap.size, 6, none⟩ (.int .i64 0)) w1.heap.size 7 (.int .i64 0))).trans (poke_cell ((w3.setCell ⟨w1.heap.size, 6, none⟩ (.int .i64 0)).setCell ⟨w1.heap.size, 7, none⟩ (.int .i64 0)) w1.heap.size 7 (.int .i64 3))
         have HG4 : Hid ((((w3.setCell ⟨w1.heap.size, 6, none⟩ (.int .i64 0)).setCell ⟨w1.heap.size, 7, none⟩ (.int .i64 0)).setCell ⟨w1.heap.size, 7, none⟩ (.int .i64 3)).heap[w1.heap.size]? = some (.cells (tkR (.slice none 0 0) ({ kind := 12, m := 3 } : Tk)) 30 (0, 0))) := Lib.hid (heap_set (o := 7) (v := .int .i64 3) (heap_set (o := 7) (v := .int .i64 0) (heap_set (o := 6) (v := .int .i64 0) (HG3.out))))
         have hx4 := hx3.poke HG3.out (Nat.le_trans hB hg1) (hrl _ hg1) hpk
         have hk4 := hk3.poke hpk hg1
         clear hpk c6 c7 fz6 fz7
         generalize (((w3.setCell ⟨w1.heap.size, 6, none⟩ (.int .i64 0)).setCell ⟨w1.heap.size, 7, none⟩ (.int .i64 0)).setCell ⟨w1.heap.size, 7, none⟩ (.int .i64 3)) = w4 at *
         have hg2 : w1.heap.size < w4.heap.size := by
           rcases Nat.lt_or_ge w1.heap.size w4.heap.size with hh | hh
           · exact hh
           · have := HG4.out
             rw [Array.getElem?_eq_none hh] at this
             cases this
         refine Calls.mono (name_any hx4) ?_
         intro e5 w5 hr
         rw [HN.out] at hr
         obtain ⟨rfl, hx5, hkn⟩ := hr
         have hk5 := hk4.then hkn
         have HG5 := Lib.hid ((hkn.block w1.heap.size hg2 (by have := hx1.cells.lt; omega)).trans HG4.out)
         have nge := HNE.out hx4.an
         have c6 : w5.cell? ⟨w1.heap.size, 9, none⟩ = some (.string ⟨#[]⟩) := by simp [World.cell?, HG5.out, tkR]
         have fz9 : w5.frozen? ⟨w1.heap.size, 9, none⟩ = false := by simp [World.frozen?, HG5.out]
         have c7 := hg2
         have fz6 := hg2
         have fz7 := hg2
         clear hkn
         go_wp2_with fail
         have hpk : Poke w1.heap.size w5 (w5.setCell ⟨w1.heap.size, 9, none⟩ (.string (C.p.sub q e))) := poke_cell w5 w1.heap.size 9 (.string (C.p.sub q e))
         have HG6 : Hid ((w5.setCell ⟨w1.heap.size, 9, none⟩ (.string (C.p.sub q e))).heap[w1.heap.size]? = some (.cells (tkR (.slice none 0 0) ({ kind := 12, m := 3, name := C.p.sub q e } : Tk)) 30 (0, 0))) := Lib.hid (heap_set (o := 9) (v := .string (C.p.sub q e)) (HG5.out))
         have hx6 := hx5.poke HG5.out (Nat.le_trans hB hg1) (hrl _ hg1) hpk
         have hk6 := hk5.poke hpk hg1
         clear hpk c6 c7 fz6 fz7 fz9
         generalize (w5.setCell ⟨w1.heap.size, 9, none⟩ (.string (C.p.sub q e))) = w6 at *
         have tl6 := hx6.tl
         have hg6 : w1.heap.size < w6.heap.size := by
           rcases Nat.lt_or_ge w1.heap.size w6.heap.size with hh | hh
           · exact hh
           · have := HG6.out
             rw [Array.getElem?_eq_none hh] at this
             cases this
         refine Calls.mono (take_y hx6 ⟨#[39]⟩ [39] 1 rfl rfl (by decide) H3.out) ?_
         rintro e7 w7 ⟨rfl, hx7, hkn⟩
         have hk7 := hk6.then hkn
         have HG7 := Lib.hid ((hkn.block w1.heap.size hg6 (by have := hx1.cells.lt; omega)).trans HG6.out)
         have k0 : w7.cell? ⟨w1.heap.size, 0, none⟩ = some (.int .i64 12) := by simp [World.cell?, HG7.out, tkR]
         have k6 : w7.cell? ⟨w1.heap.size, 6, none⟩ = some (.int .i64 0) := by simp [World.cell?, HG7.out, tkR]
         have k7 : w7.cell? ⟨w1.heap.size, 7, none⟩ = some (.int .i64 3) := by simp [World.cell?, HG7.out, tkR]
         clear hkn
         go_wp2_with (refine wpList_load_tok rfl _ rfl w1.heap.size rfl (tkR (.slice none 0 0) ({ kind := 12, m := 3, name := C.p.sub q e } : Tk)) HG7.out rfl ?_)
         refine Calls.mono (put_any hx7 (.slice none 0 0) ({ kind := 12, m := 3, name := C.p.sub q e } : Tk) (ownR_nil _ _) (by omega)) ?_
         intro e8 w8 hr
         have HP := Lib.hid (ptOk_put hr (hk7.mono hB))
         obtain ⟨rfl, _, _⟩ := hr
         go_wp2_with fail
         go_end0
         exact rp_ok HS.out HP.out
   | some r =>
     obtain ⟨n, m, b⟩ := r
     rw [hsg] at hs
     simp only at hs
     obtain ⟨m0, m2⟩ := signed_m hsg
     have HGT := Lib.hid (fun (hh : q ≤ C.p.n) => signed_gt hh hsg)
     have HSG := Lib.hid hsg
     clear hsg
     cases h3 : C.p.has [39] b with
     | false =>
       have HS := Lib.hid (show tkp.one f (C.p.refer f a) = .error (C.p.er 21 f) by rw [hs, if_pos h3]; rfl)
       have H3 := Lib.hid h3
       clear hs h3
       go_enter Tryz.func66, Tryz.ntmps66
       go_wp2_with fail
       refine Calls.mono (quotes_any h) ?_
       intro e1 w1 hr
       rw [HQ.out] at hr
       obtain ⟨rfl, hx1, hkn⟩ := hr
       have hk1 := hk0.then hkn
       have hbA := below_al w1 (.cells (tkR (.slice none 0 0) { kind := 12 }) 30)
       have hx2 := hx1.below hbA
       have hk2 := hk1.then (Kept.of_below (L := C.L) hbA)
       clear hkn hbA
       unfold tkR
       go_wp2_with fail
       have hqn := hx2.an
       have tq2 := hx2.tl
       refine Calls.mono (signed_any hx2) ?_
       intro e3 w3 hr
       rw [HSG.out] at hr
       obtain ⟨rfl, hx3, hkn⟩ := hr
       have hk3 := hk2.then hkn
       have HG3 := Lib.hid ((hkn.block w1.heap.size (by rw [World.size_alloc]; omega) (by have := hx1.cells.lt; omega)).trans (heap_alloc_new w1 _))
       have hg1 : w.heap.size ≤ w1.heap.size := hk1.size
       have c6 : w3.cell? ⟨w1.heap.size, 6, none⟩ = some (.int .i64 0) := by simp [World.cell?, HG3.out, tkR]
       have c7 : w3.cell? ⟨w1.heap.size, 7, none⟩ = some (.int .i64 0) := by simp [World.cell?, HG3.out, tkR]
       have fz6 : w3.frozen? ⟨w1.heap.size, 6, none⟩ = false := by simp [World.frozen?, HG3.out]
       have fz7 : w3.frozen? ⟨w1.heap.size, 7, none⟩ = false := by simp [World.frozen?, HG3.out]
       clear hkn hx2 hk2
       obtain ⟨s1, s2, s3, s4⟩ := HGT.out hqn
       go_wp2_with fail
       have hpk : Poke w1.heap.size w3 ((w3.setCell ⟨w1.heap.size, 6, none⟩ (.int .i64 n)).setCell ⟨w1.heap.size, 7, none⟩ (.int .i64 m)) := (poke_cell w3 w1.heap.size 6 (.int .i64 n)).trans (poke_cell (w3.setCell ⟨w1.heap.size, 6, none⟩ (.int .i64 n)) w1.heap.size 7 (.int .i64 m))
       have HG4 : Hid (((w3.setCell ⟨w1.heap.size, 6, none⟩ (.int .i64 n)).setCell ⟨w1.heap.size, 7, none⟩ (.int .i64 m)).heap[w1.heap.size]? = some (.cells (tkR (.slice none 0 0) ({ kind := 12, n := n, m := m } : Tk)) 30 (0, 0))) := Lib.hid (heap_set (o := 7) (v := .int .i64 m) (heap_set (o := 6) (v := .int .i64 n) (HG3.out)))
       have hx4 := hx3.poke HG3.out (Nat.le_trans hB hg1) (hrl _ hg1) hpk
       have hk4 := hk3.poke hpk hg1
       clear hpk c6 c7 fz6 fz7
       generalize ((w3.setCell ⟨w1.heap.size, 6, none⟩ (.int .i64 n)).setCell ⟨w1.heap.size, 7, none⟩ (.int .i64 m)) = w4 at *
       have hg2 : w1.heap.size < w4.heap.size := by
         rcases Nat.lt_or_ge w1.heap.size w4.heap.size with hh | hh
         · exact hh
         · have := HG4.out
           rw [Array.getElem?_eq_none hh] at this
           cases this
       have tq := hx3.tl
       refine Calls.mono (take_n hx4 ⟨#[39]⟩ [39] rfl (by decide) H3.out) ?_
       rintro e5 w5 ⟨rfl, hx5, hkn⟩
       have hk5 := hk4.then hkn
       clear hkn
       go_wp2_with fail
       refine Calls.mono (fail_any hx5 21) ?_
       rintro e9 w9 ⟨rfl, hkn⟩
       exact ⟨rfl, rp_err HS.out ⟨rfl, (hk5.mono hB).trans hkn⟩⟩
     | true =>
       have H3 := Lib.hid h3
       rw [if_neg (by simp [h3])] at hs
       clear h3
       by_cases hn0 : n = 0
       · subst hn0
         by_cases hm0 : m = 0
         · subst hm0
           have HS := Lib.hid (show tkp.one f (C.p.refer f a) = .ok ([lay ({ kind := 12, n := 0, m := 0 } : Tk) f (b + 1)], b + 1) by rw [hs, if_neg (by simp; try omega)]; rfl)
           clear hs
           go_enter Tryz.func66, Tryz.ntmps66
           go_wp2_with fail
           refine Calls.mono (quotes_any h) ?_
           intro e1 w1 hr
           rw [HQ.out] at hr
           obtain ⟨rfl, hx1, hkn⟩ := hr
           have hk1 := hk0.then hkn
           have hbA := below_al w1 (.cells (tkR (.slice none 0 0) { kind := 12 }) 30)
           have hx2 := hx1.below hbA
           have hk2 := hk1.then (Kept.of_below (L := C.L) hbA)
           clear hkn hbA
           unfold tkR
           go_wp2_with fail
           have hqn := hx2.an
           have tq2 := hx2.tl
           refine Calls.mono (signed_any hx2) ?_
           intro e3 w3 hr
           rw [HSG.out] at hr
           obtain ⟨rfl, hx3, hkn⟩ := hr
           have hk3 := hk2.then hkn
           have HG3 := Lib.hid ((hkn.block w1.heap.size (by rw [World.size_alloc]; omega) (by have := hx1.cells.lt; omega)).trans (heap_alloc_new w1 _))
           have hg1 : w.heap.size ≤ w1.heap.size := hk1.size
           have c6 : w3.cell? ⟨w1.heap.size, 6, none⟩ = some (.int .i64 0) := by simp [World.cell?, HG3.out, tkR]
           have c7 : w3.cell? ⟨w1.heap.size, 7, none⟩ = some (.int .i64 0) := by simp [World.cell?, HG3.out, tkR]
           have fz6 : w3.frozen? ⟨w1.heap.size, 6, none⟩ = false := by simp [World.frozen?, HG3.out]
           have fz7 : w3.frozen? ⟨w1.heap.size, 7, none⟩ = false := by simp [World.frozen?, HG3.out]
           clear hkn hx2 hk2
           obtain ⟨s1, s2, s3, s4⟩ := HGT.out hqn
           go_wp2_with fail
           have hpk : Poke w1.heap.size w3 ((w3.setCell ⟨w1.heap.size, 6, none⟩ (.int .i64 0)).setCell ⟨w1.heap.size, 7, none⟩ (.int .i64 0)) := (poke_cell w3 w1.heap.size 6 (.int .i64 0)).trans (poke_cell (w3.setCell ⟨w1.heap.size, 6, none⟩ (.int .i64 0)) w1.heap.size 7 (.int .i64 0))
           have HG4 : Hid (((w3.setCell ⟨w1.heap.size, 6, none⟩ (.int .i64 0)).setCell ⟨w1.heap.size, 7, none⟩ (.int .i64 0)).heap[w1.heap.size]? = some (.cells (tkR (.slice none 0 0) ({ kind := 12, n := 0, m := 0 } : Tk)) 30 (0, 0))) := Lib.hid (heap_set (o := 7) (v := .int .i64 0) (heap_set (o := 6) (v := .int .i64 0) (HG3.out)))
           have hx4 := hx3.poke HG3.out (Nat.le_trans hB hg1) (hrl _ hg1) hpk
           have hk4 := hk3.poke hpk hg1
           clear hpk c6 c7 fz6 fz7
           generalize ((w3.setCell ⟨w1.heap.size, 6, none⟩ (.int .i64 0)).setCell ⟨w1.heap.size, 7, none⟩ (.int .i64 0)) = w4 at *
           have hg2 : w1.heap.size < w4.heap.size := by
             rcases Nat.lt_or_ge w1.heap.size w4.heap.size with hh | hh
             · exact hh
             · have := HG4.out
               rw [Array.getElem?_eq_none hh] at this
               cases this
           have tq := hx3.tl
           refine Calls.mono (take_y hx4 ⟨#[39]⟩ [39] 1 rfl rfl (by decide) H3.out) ?_
           rintro e5 w5 ⟨rfl, hx5, hkn⟩
           have hk5 := hk4.then hkn
           have HG5 := Lib.hid ((hkn.block w1.heap.size hg2 (by have := hx1.cells.lt; omega)).trans HG4.out)
           have k0 : w5.cell? ⟨w1.heap.size, 0, none⟩ = some (.int .i64 12) := by simp [World.cell?, HG5.out, tkR]
           have k6 : w5.cell? ⟨w1.heap.size, 6, none⟩ = some (.int .i64 0) := by simp [World.cell?, HG5.out, tkR]
           have k7 : w5.cell? ⟨w1.heap.size, 7, none⟩ = some (.int .i64 0) := by simp [World.cell?, HG5.out, tkR]
           clear hkn
           go_wp2_with (refine wpList_load_tok rfl _ rfl w1.heap.size rfl (tkR (.slice none 0 0) ({ kind := 12, n := 0, m := 0 } : Tk)) HG5.out rfl ?_)
           refine Calls.mono (put_any hx5 (.slice none 0 0) ({ kind := 12, n := 0, m := 0 } : Tk) (ownR_nil _ _) (by omega)) ?_
           intro e8 w8 hr
           have HP := Lib.hid (ptOk_put hr (hk5.mono hB))
           obtain ⟨rfl, _, _⟩ := hr
           go_wp2_with fail
           go_end0
           exact rp_ok HS.out HP.out
         · have HS := Lib.hid (show tkp.one f (C.p.refer f a) = .error (C.p.er 25 f) by rw [hs, if_pos ⟨rfl, Or.inr hm0⟩]; rfl)
           clear hs
           have hb3 : (m != 3) = true := by simp; omega
           have hb0 : (m == 0) = false := by simpa using hm0
           go_enter Tryz.func66, Tryz.ntmps66
           go_wp2_with fail
           refine Calls.mono (quotes_any h) ?_
           intro e1 w1 hr
           rw [HQ.out] at hr
           obtain ⟨rfl, hx1, hkn⟩ := hr
           have hk1 := hk0.then hkn
           have hbA := below_al w1 (.cells (tkR (.slice none 0 0) { kind := 12 }) 30)
           have hx2 := hx1.below hbA
           have hk2 := hk1.then (Kept.of_below (L := C.L) hbA)
           clear hkn hbA
           unfold tkR
           go_wp2_with fail
           have hqn := hx2.an
           have tq2 := hx2.tl
           refine Calls.mono (signed_any hx2) ?_
           intro e3 w3 hr
           rw [HSG.out] at hr
           obtain ⟨rfl, hx3, hkn⟩ := hr
           have hk3 := hk2.then hkn
           have HG3 := Lib.hid ((hkn.block w1.heap.size (by rw [World.size_alloc]; omega) (by have := hx1.cells.lt; omega)).trans (heap_alloc_new w1 _))
           have hg1 : w.heap.size ≤ w1.heap.size := hk1.size
           have c6 : w3.cell? ⟨w1.heap.size, 6, none⟩ = some (.int .i64 0) := by simp [World.cell?, HG3.out, tkR]
           have c7 : w3.cell? ⟨w1.heap.size, 7, none⟩ = some (.int .i64 0) := by simp [World.cell?, HG3.out, tkR]
           have fz6 : w3.frozen? ⟨w1.heap.size, 6, none⟩ = false := by simp [World.frozen?, HG3.out]
           have fz7 : w3.frozen? ⟨w1.heap.size, 7, none⟩ = false := by simp [World.frozen?, HG3.out]
           clear hkn hx2 hk2
           obtain ⟨s1, s2, s3, s4⟩ := HGT.out hqn
           go_wp2_with fail
           have hpk : Poke w1.heap.size w3 ((w3.setCell ⟨w1.heap.size, 6, none⟩ (.int .i64 0)).setCell ⟨w1.heap.size, 7, none⟩ (.int .i64 m)) := (poke_cell w3 w1.heap.size 6 (.int .i64 0)).trans (poke_cell (w3.setCell ⟨w1.heap.size, 6, none⟩ (.int .i64 0)) w1.heap.size 7 (.int .i64 m))
           have HG4 : Hid (((w3.setCell ⟨w1.heap.size, 6, none⟩ (.int .i64 0)).setCell ⟨w1.heap.size, 7, none⟩ (.int .i64 m)).heap[w1.heap.size]? = some (.cells (tkR (.slice none 0 0) ({ kind := 12, n := 0, m := m } : Tk)) 30 (0, 0))) := Lib.hid (heap_set (o := 7) (v := .int .i64 m) (heap_set (o := 6) (v := .int .i64 0) (HG3.out)))
           have hx4 := hx3.poke HG3.out (Nat.le_trans hB hg1) (hrl _ hg1) hpk
           have hk4 := hk3.poke hpk hg1
           clear hpk c6 c7 fz6 fz7
           generalize ((w3.setCell ⟨w1.heap.size, 6, none⟩ (.int .i64 0)).setCell ⟨w1.heap.size, 7, none⟩ (.int .i64 m)) = w4 at *
           have hg2 : w1.heap.size < w4.heap.size := by
             rcases Nat.lt_or_ge w1.heap.size w4.heap.size with hh | hh
             · exact hh
             · have := HG4.out
               rw [Array.getElem?_eq_none hh] at this
               cases this
           have tq := hx3.tl
           refine Calls.mono (take_y hx4 ⟨#[39]⟩ [39] 1 rfl rfl (by decide) H3.out) ?_
           rintro e5 w5 ⟨rfl, hx5, hkn⟩
           have hk5 := hk4.then hkn
           have HG5 := Lib.hid ((hkn.block w1.heap.size hg2 (by have := hx1.cells.lt; omega)).trans HG4.out)
           have k0 : w5.cell? ⟨w1.heap.size, 0, none⟩ = some (.int .i64 12) := by simp [World.cell?, HG5.out, tkR]
           have k6 : w5.cell? ⟨w1.heap.size, 6, none⟩ = some (.int .i64 0) := by simp [World.cell?, HG5.out, tkR]
           have k7 : w5.cell? ⟨w1.heap.size, 7, none⟩ = some (.int .i64 m) := by simp [World.cell?, HG5.out, tkR]
           clear hkn
           go_wp2_with fail
           refine Calls.mono (fail_any hx5 25) ?_
           rintro e9 w9 ⟨rfl, hkn⟩
           exact ⟨rfl, rp_err HS.out ⟨rfl, (hk5.mono hB).trans hkn⟩⟩
       · by_cases hm0 : m = 0
         · subst hm0
           have HS := Lib.hid (show tkp.one f (C.p.refer f a) = .ok ([lay ({ kind := 12, n := n, m := 0 } : Tk) f (b + 1)], b + 1) by rw [hs, if_neg (by simp; try omega)]; rfl)
           clear hs
           go_enter Tryz.func66, Tryz.ntmps66
           go_wp2_with fail
           refine Calls.mono (quotes_any h) ?_
           intro e1 w1 hr
           rw [HQ.out] at hr
           obtain ⟨rfl, hx1, hkn⟩ := hr
           have hk1 := hk0.then hkn
           have hbA := below_al w1 (.cells (tkR (.slice none 0 0) { kind := 12 }) 30)
           have hx2 := hx1.below hbA
           have hk2 := hk1.then (Kept.of_below (L := C.L) hbA)
           clear hkn hbA
           unfold tkR
           go_wp2_with fail
           have hqn := hx2.an
           have tq2 := hx2.tl
           refine Calls.mono (signed_any hx2) ?_
           intro e3 w3 hr
           rw [HSG.out] at hr
           obtain ⟨rfl, hx3, hkn⟩ := hr
           have hk3 := hk2.then hkn
           have HG3 := Lib.hid ((hkn.block w1.heap.size (by rw [World.size_alloc]; omega) (by have := hx1.cells.lt; omega)).trans (heap_alloc_new w1 _))
           have hg1 : w.heap.size ≤ w1.heap.size := hk1.size
           have c6 : w3.cell? ⟨w1.heap.size, 6, none⟩ = some (.int .i64 0) := by simp [World.cell?, HG3.out, tkR]
           have c7 : w3.cell? ⟨w1.heap.size, 7, none⟩ = some (.int .i64 0) := by simp [World.cell?, HG3.out, tkR]
           have fz6 : w3.frozen? ⟨w1.heap.size, 6, none⟩ = false := by simp [World.frozen?, HG3.out]
           have fz7 : w3.frozen? ⟨w1.heap.size, 7, none⟩ = false := by simp [World.frozen?, HG3.out]
           clear hkn hx2 hk2
           obtain ⟨s1, s2, s3, s4⟩ := HGT.out hqn
           go_wp2_with fail
           have hpk : Poke w1.heap.size w3 ((w3.setCell ⟨w1.heap.size, 6, none⟩ (.int .i64 n)).setCell ⟨w1.heap.size, 7, none⟩ (.int .i64 0)) := (poke_cell w3 w1.heap.size 6 (.int .i64 n)).trans (poke_cell (w3.setCell ⟨w1.heap.size, 6, none⟩ (.int .i64 n)) w1.heap.size 7 (.int .i64 0))
           have HG4 : Hid (((w3.setCell ⟨w1.heap.size, 6, none⟩ (.int .i64 n)).setCell ⟨w1.heap.size, 7, none⟩ (.int .i64 0)).heap[w1.heap.size]? = some (.cells (tkR (.slice none 0 0) ({ kind := 12, n := n, m := 0 } : Tk)) 30 (0, 0))) := Lib.hid (heap_set (o := 7) (v := .int .i64 0) (heap_set (o := 6) (v := .int .i64 n) (HG3.out)))
           have hx4 := hx3.poke HG3.out (Nat.le_trans hB hg1) (hrl _ hg1) hpk
           have hk4 := hk3.poke hpk hg1
           clear hpk c6 c7 fz6 fz7
           generalize ((w3.setCell ⟨w1.heap.size, 6, none⟩ (.int .i64 n)).setCell ⟨w1.heap.size, 7, none⟩ (.int .i64 0)) = w4 at *
           have hg2 : w1.heap.size < w4.heap.size := by
             rcases Nat.lt_or_ge w1.heap.size w4.heap.size with hh | hh
             · exact hh
             · have := HG4.out
               rw [Array.getElem?_eq_none hh] at this
               cases this
           have tq := hx3.tl
           refine Calls.mono (take_y hx4 ⟨#[39]⟩ [39] 1 rfl rfl (by decide) H3.out) ?_
           rintro e5 w5 ⟨rfl, hx5, hkn⟩
           have hk5 := hk4.then hkn
           have HG5 := Lib.hid ((hkn.block w1.heap.size hg2 (by have := hx1.cells.lt; omega)).trans HG4.out)
           have k0 : w5.cell? ⟨w1.heap.size, 0, none⟩ = some (.int .i64 12) := by simp [World.cell?, HG5.out, tkR]
           have k6 : w5.cell? ⟨w1.heap.size, 6, none⟩ = some (.int .i64 n) := by simp [World.cell?, HG5.out, tkR]
           have k7 : w5.cell? ⟨w1.heap.size, 7, none⟩ = some (.int .i64 0) := by simp [World.cell?, HG5.out, tkR]
           clear hkn
           go_wp2_with (refine wpList_load_tok rfl _ rfl w1.heap.size rfl (tkR (.slice none 0 0) ({ kind := 12, n := n, m := 0 } : Tk)) HG5.out rfl ?_)
           refine Calls.mono (put_any hx5 (.slice none 0 0) ({ kind := 12, n := n, m := 0 } : Tk) (ownR_nil _ _) (by omega)) ?_
           intro e8 w8 hr
           have HP := Lib.hid (ptOk_put hr (hk5.mono hB))
           obtain ⟨rfl, _, _⟩ := hr
           go_wp2_with fail
           go_end0
           exact rp_ok HS.out HP.out
         · have HS := Lib.hid (show tkp.one f (C.p.refer f a) = .ok ([lay ({ kind := 12, n := n, m := m } : Tk) f (b + 1)], b + 1) by rw [hs, if_neg (by simp; try omega)]; rfl)
           clear hs
           go_enter Tryz.func66, Tryz.ntmps66
           go_wp2_with fail
           refine Calls.mono (quotes_any h) ?_
           intro e1 w1 hr
           rw [HQ.out] at hr
           obtain ⟨rfl, hx1, hkn⟩ := hr
           have hk1 := hk0.then hkn
           have hbA := below_al w1 (.cells (tkR (.slice none 0 0) { kind := 12 }) 30)
           have hx2 := hx1.below hbA
           have hk2 := hk1.then (Kept.of_below (L := C.L) hbA)
           clear hkn hbA
           unfold tkR
           go_wp2_with fail
           have hqn := hx2.an
           have tq2 := hx2.tl
           refine Calls.mono (signed_any hx2) ?_
           intro e3 w3 hr
           rw [HSG.out] at hr
           obtain ⟨rfl, hx3, hkn⟩ := hr
           have hk3 := hk2.then hkn
           have HG3 := Lib.hid ((hkn.block w1.heap.size (by rw [World.size_alloc]; omega) (by have := hx1.cells.lt; omega)).trans (heap_alloc_new w1 _))
           have hg1 : w.heap.size ≤ w1.heap.size := hk1.size
           have c6 : w3.cell? ⟨w1.heap.size, 6, none⟩ = some (.int .i64 0) := by simp [World.cell?, HG3.out, tkR]
           have c7 : w3.cell? ⟨w1.heap.size, 7, none⟩ = some (.int .i64 0) := by simp [World.cell?, HG3.out, tkR]
           have fz6 : w3.frozen? ⟨w1.heap.size, 6, none⟩ = false := by simp [World.frozen?, HG3.out]
           have fz7 : w3.frozen? ⟨w1.heap.size, 7, none⟩ = false := by simp [World.frozen?, HG3.out]
           clear hkn hx2 hk2
           obtain ⟨s1, s2, s3, s4⟩ := HGT.out hqn
           go_wp2_with fail
           have hpk : Poke w1.heap.size w3 ((w3.setCell ⟨w1.heap.size, 6, none⟩ (.int .i64 n)).setCell ⟨w1.heap.size, 7, none⟩ (.int .i64 m)) := (poke_cell w3 w1.heap.size 6 (.int .i64 n)).trans (poke_cell (w3.setCell ⟨w1.heap.size, 6, none⟩ (.int .i64 n)) w1.heap.size 7 (.int .i64 m))
           have HG4 : Hid (((w3.setCell ⟨w1.heap.size, 6, none⟩ (.int .i64 n)).setCell ⟨w1.heap.size, 7, none⟩ (.int .i64 m)).heap[w1.heap.size]? = some (.cells (tkR (.slice none 0 0) ({ kind := 12, n := n, m := m } : Tk)) 30 (0, 0))) := Lib.hid (heap_set (o := 7) (v := .int .i64 m) (heap_set (o := 6) (v := .int .i64 n) (HG3.out)))
           have hx4 := hx3.poke HG3.out (Nat.le_trans hB hg1) (hrl _ hg1) hpk
           have hk4 := hk3.poke hpk hg1
           clear hpk c6 c7 fz6 fz7
           generalize ((w3.setCell ⟨w1.heap.size, 6, none⟩ (.int .i64 n)).setCell ⟨w1.heap.size, 7, none⟩ (.int .i64 m)) = w4 at *
           have hg2 : w1.heap.size < w4.heap.size := by
             rcases Nat.lt_or_ge w1.heap.size w4.heap.size with hh | hh
             · exact hh
             · have := HG4.out
               rw [Array.getElem?_eq_none hh] at this
               cases this
           have tq := hx3.tl
           refine Calls.mono (take_y hx4 ⟨#[39]⟩ [39] 1 rfl rfl (by decide) H3.out) ?_
           rintro e5 w5 ⟨rfl, hx5, hkn⟩
           have hk5 := hk4.then hkn
           have HG5 := Lib.hid ((hkn.block w1.heap.size hg2 (by have := hx1.cells.lt; omega)).trans HG4.out)
           have k0 : w5.cell? ⟨w1.heap.size, 0, none⟩ = some (.int .i64 12) := by simp [World.cell?, HG5.out, tkR]
           have k6 : w5.cell? ⟨w1.heap.size, 6, none⟩ = some (.int .i64 n) := by simp [World.cell?, HG5.out, tkR]
           have k7 : w5.cell? ⟨w1.heap.size, 7, none⟩ = some (.int .i64 m) := by simp [World.cell?, HG5.out, tkR]
           clear hkn
           go_wp2_with (refine wpList_load_tok rfl _ rfl w1.heap.size rfl (tkR (.slice none 0 0) ({ kind := 12, n := n, m := m } : Tk)) HG5.out rfl ?_)
           refine Calls.mono (put_any hx5 (.slice none 0 0) ({ kind := 12, n := n, m := m } : Tk) (ownR_nil _ _) (by omega)) ?_
           intro e8 w8 hr
           have HP := Lib.hid (ptOk_put hr (hk5.mono hB))
           obtain ⟨rfl, _, _⟩ := hr
           go_wp2_with fail
           go_end0
           exact rp_ok HS.out HP.out
set_option maxRecDepth 100000 in
set_option maxHeartbeats 8000000 in
theorem refer_2 {C : Cf} {w : World} {a f : Nat} {T : Rw} (h : LX C w a f T) {q : Nat} (hq : C.p.quotes a = (11, [125], q)) : Calls Tryz.prog 66 #[.pointer (some ⟨C.L, 0, none⟩)] w (RP C w (tkp.one f (C.p.refer f a)) (PtOk C w T)) := by
 have hq2 : (C.p.quotes a).2.2 = q := by rw [hq]
 have hge := quotes_ge (p := C.p) (a := a)
 rw [hq2] at hge
 have hs : C.p.refer f a = (match C.p.signed f q with
   | .error e => .error e
   | .ok (some (n, m, b)) => if C.p.has [125] b = false then .error (21, (f : Int))
     else if n = 0 ∧ ((11 : Int) ≠ 12 ∨ m ≠ 0) then .error (25, (f : Int))
     else .ok ({ kind := 11, n := n, m := m }, b + 1)
   | .ok none => if (C.p.name q).2 = false ∨ ([125] : List UInt8) = [] ∨ C.p.has [125] (C.p.name q).1 = false then .error (21, (f : Int))
     else .ok ({ kind := 11, m := 3, name := C.p.sub q (C.p.name q).1 }, (C.p.name q).1 + 1)) := by
   unfold Pt.refer
   rw [hq]
   rfl
 have HQ := Lib.hid hq
 have hrl := fun (g : Nat) (hg : w.heap.size ≤ g) => h.row_lt hg
 clear hq hq2
 have hk0 := Kept.refl w.heap.size C.L w
 have hB := h.hb
 cases hsg : C.p.signed f q with
 | error x =>
   rw [hsg] at hs
   have HS := Lib.hid (show tkp.one f (C.p.refer f a) = .error x by rw [hs]; rfl)
   have HSG := Lib.hid hsg
   clear hs hsg
   go_enter Tryz.func66, Tryz.ntmps66
   go_wp2_with fail
   refine Calls.mono (quotes_any h) ?_
   intro e1 w1 hr
   rw [HQ.out] at hr
   obtain ⟨rfl, hx1, hkn⟩ := hr
   have hk1 := hk0.then hkn
   have hbA := below_al w1 (.cells (tkR (.slice none 0 0) { kind := 11 }) 30)
   have hx2 := hx1.below hbA
   have hk2 := hk1.then (Kept.of_below (L := C.L) hbA)
   clear hkn hbA
   unfold tkR
   go_wp2_with fail
   refine Calls.mono (signed_any hx2) ?_
   intro e3 w3 hr
   rw [HSG.out] at hr
   obtain ⟨rfl, hkn⟩ := hr
   exact ⟨rfl, rp_err HS.out ⟨rfl, (hk2.mono hB).trans hkn⟩⟩
 | ok o =>
   cases o with
   | none =>
     rw [hsg] at hs
     simp only at hs
     obtain ⟨⟨e, ok⟩, hn⟩ : ∃ d, C.p.name q = d := ⟨_, rfl⟩
     rw [hn] at hs
     simp only at hs
     have HN := Lib.hid hn
     have HSG := Lib.hid hsg
     have HNE := Lib.hid (fun (hh : q ≤ C.p.n) => name_ge (p := C.p) hh)
     rw [hn] at HNE
     clear hn hsg
     cases ok with
     | false =>
       have HS := Lib.hid (show tkp.one f (C.p.refer f a) = .error (C.p.er 21 f) by rw [hs, if_pos (Or.inl rfl)]; rfl)
       clear hs
       go_enter Tryz.func66, Tryz.ntmps66
       go_wp2_with fail
       refine Calls.mono (quotes_any h) ?_
       intro e1 w1 hr
       rw [HQ.out] at hr
       obtain ⟨rfl, hx1, hkn⟩ := hr
       have hk1 := hk0.then hkn
       have hbA := below_al w1 (.cells (tkR (.slice none 0 0) { kind := 11 }) 30)
       have hx2 := hx1.below hbA
       have hk2 := hk1.then (Kept.of_below (L := C.L) hbA)
       clear hkn hbA
       unfold tkR
       go_wp2_with fail
       refine Calls.mono (signed_any hx2) ?_
       intro e3 w3 hr
       rw [HSG.out] at hr
       obtain ⟨rfl, hx3, hkn⟩ := hr
       have hk3 := hk2.then hkn
       have HG3 := Lib.hid ((hkn.block w1.heap.size (by rw [World.size_alloc]; omega) (by have := hx1.cells.lt; omega)).trans (heap_alloc_new w1 _))
       have hg1 : w.heap.size ≤ w1.heap.size := hk1.size
       have c6 : w3.cell? ⟨w1.heap.size, 6, none⟩ = some (.int .i64 0) := by simp [World.cell?, HG3.out, tkR]
       have c7 : w3.cell? ⟨w1.heap.size, 7, none⟩ = some (.int .i64 0) := by simp [World.cell?, HG3.out, tkR]
       have fz6 : w3.frozen? ⟨w1.heap.size, 6, none⟩ = false := by simp [World.frozen?, HG3.out]
       have fz7 : w3.frozen? ⟨w1.heap.size, 7, none⟩ = false := by simp [World.frozen?, HG3.out]
       clear hkn hx2 hk2
       go_wp2_with fail
       have hpk : Poke w1.heap.size w3 (((w3.setCell ⟨w1.heap.size, 6, none⟩ (.int .i64 0)).setCell ⟨w1.heap.size, 7, none⟩ (.int .i64 0)).setCell ⟨w1.heap.size, 7, none⟩ (.int .i64 3)) := ((poke_cell w3 w1.heap.size 6 (.int .i64 0)).trans (poke_cell (w3.setCell ⟨w1.heap.size, 6, none⟩ (.int .i64 0)) w1.heap.size 7 (.int .i64 0))).trans (poke_cell ((w3.setCell ⟨w1.heap.size, 6, none⟩ (.int .i64 0)).setCell ⟨w1.heap.size, 7, none⟩ (.int .i64 0)) w1.heap.size 7 (.int .i64 3))
       have HG4 : Hid ((((w3.setCell ⟨w1.heap.size, 6, none⟩ (.int .i64 0)).setCell ⟨w1.heap.size, 7, none⟩ (.int .i64 0)).setCell ⟨w1.heap.size, 7, none⟩ (.int .i64 3)).heap[w1.heap.size]? = some (.cells (tkR (.slice none 0 0) ({ kind := 11, m := 3 } : Tk)) 30 (0, 0))) := Lib.hid (heap_set (o := 7) (v := .int .i64 3) (heap_set (o := 7) (v := .int .i64 0) (heap_set (o := 6) (v := .int .i64 0) (HG3.out))))
       have hx4 := hx3.poke HG3.out (Nat.le_trans hB hg1) (hrl _ hg1) hpk
       have hk4 := hk3.poke hpk hg1
       clear hpk c6 c7 fz6 fz7
       generalize (((w3.setCell ⟨w1.heap.size, 6, none⟩ (.int .i64 0)).setCell ⟨w1.heap.size, 7, none⟩ (.int .i64 0)).setCell ⟨w1.heap.size, 7, none⟩ (.int .i64 3)) = w4 at *
       have hg2 : w1.heap.size < w4.heap.size := by
         rcases Nat.lt_or_ge w1.heap.size w4.heap.size with hh | hh
         · exact hh
         · have := HG4.out
           rw [Array.getElem?_eq_none hh] at this
           cases this
       refine Calls.mono (name_any hx4) ?_
       intro e5 w5 hr
       rw [HN.out] at hr
       obtain ⟨rfl, hx5, hkn⟩ := hr
       have hk5 := hk4.then hkn
       have HG5 := Lib.hid ((hkn.block w1.heap.size hg2 (by have := hx1.cells.lt; omega)).trans HG4.out)
       have nge := HNE.out hx4.an
       have c6 : w5.cell? ⟨w1.heap.size, 9, none⟩ = some (.string ⟨#[]⟩) := by simp [World.cell?, HG5.out, tkR]
       have fz9 : w5.frozen? ⟨w1.heap.size, 9, none⟩ = false := by simp [World.frozen?, HG5.out]
       have c7 := hg2
       have fz6 := hg2
       have fz7 := hg2
       clear hkn
       go_wp2_with fail
       have hpk : Poke w1.heap.size w5 (w5.setCell ⟨w1.heap.size, 9, none⟩ (.string (C.p.sub q e))) := poke_cell w5 w1.heap.size 9 (.string (C.p.sub q e))
       have HG6 : Hid ((w5.setCell ⟨w1.heap.size, 9, none⟩ (.string (C.p.sub q e))).heap[w1.heap.size]? = some (.cells (tkR (.slice none 0 0) ({ kind := 11, m := 3, name := C.p.sub q e } : Tk)) 30 (0, 0))) := Lib.hid (heap_set (o := 9) (v := .string (C.p.sub q e)) (HG5.out))
       have hx6 := hx5.poke HG5.out (Nat.le_trans hB hg1) (hrl _ hg1) hpk
       have hk6 := hk5.poke hpk hg1
       clear hpk c6 c7 fz6 fz7 fz9
       generalize (w5.setCell ⟨w1.heap.size, 9, none⟩ (.string (C.p.sub q e))) = w6 at *
       have tl6 := hx6.tl
       have hg6 : w1.heap.size < w6.heap.size := by
         rcases Nat.lt_or_ge w1.heap.size w6.heap.size with hh | hh
         · exact hh
         · have := HG6.out
           rw [Array.getElem?_eq_none hh] at this
           cases this
       refine Calls.mono (fail_any hx6 21) ?_
       rintro e9 w9 ⟨rfl, hkn⟩
       exact ⟨rfl, rp_err HS.out ⟨rfl, (hk6.mono hB).trans hkn⟩⟩
     | true =>
       cases h3 : C.p.has [125] e with
       | false =>
         have HS := Lib.hid (show tkp.one f (C.p.refer f a) = .error (C.p.er 21 f) by rw [hs, if_pos (Or.inr (Or.inr h3))]; rfl)
         clear hs
         have H3 := Lib.hid h3
         clear h3
         go_enter Tryz.func66, Tryz.ntmps66
         go_wp2_with fail
         refine Calls.mono (quotes_any h) ?_
         intro e1 w1 hr
         rw [HQ.out] at hr
         obtain ⟨rfl, hx1, hkn⟩ := hr
         have hk1 := hk0.then hkn
         have hbA := below_al w1 (.cells (tkR (.slice none 0 0) { kind := 11 }) 30)
         have hx2 := hx1.below hbA
         have hk2 := hk1.then (Kept.of_below (L := C.L) hbA)
         clear hkn hbA
         unfold tkR
         go_wp2_with fail
         refine Calls.mono (signed_any hx2) ?_
         intro e3 w3 hr
         rw [HSG.out] at hr
         obtain ⟨rfl, hx3, hkn⟩ := hr
         have hk3 := hk2.then hkn
         have HG3 := Lib.hid ((hkn.block w1.heap.size (by rw [World.size_alloc]; omega) (by have := hx1.cells.lt; omega)).trans (heap_alloc_new w1 _))
         have hg1 : w.heap.size ≤ w1.heap.size := hk1.size
         have c6 : w3.cell? ⟨w1.heap.size, 6, none⟩ = some (.int .i64 0) := by simp [World.cell?, HG3.out, tkR]
         have c7 : w3.cell? ⟨w1.heap.size, 7, none⟩ = some (.int .i64 0) := by simp [World.cell?, HG3.out, tkR]
         have fz6 : w3.frozen? ⟨w1.heap.size, 6, none⟩ = false := by simp [World.frozen?, HG3.out]
         have fz7 : w3.frozen? ⟨w1.heap.size, 7, none⟩ = false := by simp [World.frozen?, HG3.out]
         clear hkn hx2 hk2
         go_wp2_with fail
         have hpk : Poke w1.heap.size w3 (((w3.setCell ⟨w1.heap.size, 6, none⟩ (.int .i64 0)).setCell ⟨w1.heap.size, 7, none⟩ (.int .i64 0)).setCell ⟨w1.heap.size, 7, none⟩ (.int .i64 3)) := ((poke_cell w3 w1.heap.size 6 (.int .i64 0)).trans (poke_cell (w3.setCell ⟨w1.heap.size, 6, none⟩ (.int .i64 0)) w1.heap.size 7 (.int .i64 0))).trans (poke_cell ((w3.setCell ⟨w1.heap.size, 6, none⟩ (.int .i64 0)).setCell ⟨w1.heap.size, 7, none⟩ (.int .i64 0)) w1.heap.size 7 (.int .i64 3))
         have HG4 : Hid ((((w3.setCell ⟨w1.heap.size, 6, none⟩ (.int .i64 0)).setCell ⟨w1.heap.size, 7, none⟩ (.int .i64 0)).setCell ⟨w1.heap.size, 7, none⟩ (.int .i64 3)).heap[w1.heap.size]? = some (.cells (tkR (.slice none 0 0) ({ kind := 11, m := 3 } : Tk)) 30 (0, 0))) := Lib.hid (heap_set (o := 7) (v := .int .i64 3) (heap_set (o := 7) (v := .int .i64 0) (heap_set (o := 6) (v := .int .i64 0) (HG3.out))))
         have hx4 := hx3.poke HG3.out (Nat.le_trans hB hg1) (hrl _ hg1) hpk
         have hk4 := hk3.poke hpk hg1
         clear hpk c6 c7 fz6 fz7
         generalize (((w3.setCell ⟨w1.heap.size, 6, none⟩ (.int .i64 0)).setCell ⟨w1.heap.size, 7, none⟩ (.int .i64 0)).setCell ⟨w1.heap.size, 7, none⟩ (.int .i64 3)) = w4 at *
         have hg2 : w1.heap.size < w4.heap.size := by
           rcases Nat.lt_or_ge w1.heap.size w4.heap.size with hh | hh
           · exact hh
           · have := HG4.out
             rw [Array.getElem?_eq_none hh] at this
             cases this
         refine Calls.mono (name_any hx4) ?_
         intro e5 w5 hr
         rw [HN.out] at hr
         obtain ⟨rfl, hx5, hkn⟩ := hr
         have hk5 := hk4.then hkn
         have HG5 := Lib.hid ((hkn.block w1.heap.size hg2 (by have := hx1.cells.lt; omega)).trans HG4.out)
         have nge := HNE.out hx4.an
         have c6 : w5.cell? ⟨w1.heap.size, 9, none⟩ = some (.string ⟨#[]⟩) := by simp [World.cell?, HG5.out, tkR]
         have fz9 : w5.frozen? ⟨w1.heap.size, 9, none⟩ = false := by simp [World.frozen?, HG5.out]
         have c7 := hg2
         have fz6 := hg2
         have fz7 := hg2
         clear hkn
         go_wp2_with fail
         have hpk : Poke w1.heap.size w5 (w5.setCell ⟨w1.heap.size, 9, none⟩ (.string (C.p.sub q e))) := poke_cell w5 w1.heap.size 9 (.string (C.p.sub q e))
         have HG6 : Hid ((w5.setCell ⟨w1.heap.size, 9, none⟩ (.string (C.p.sub q e))).heap[w1.heap.size]? = some (.cells (tkR (.slice none 0 0) ({ kind := 11, m := 3, name := C.p.sub q e } : Tk)) 30 (0, 0))) := Lib.hid (heap_set (o := 9) (v := .string (C.p.sub q e)) (HG5.out))
         have hx6 := hx5.poke HG5.out (Nat.le_trans hB hg1) (hrl _ hg1) hpk
         have hk6 := hk5.poke hpk hg1
         clear hpk c6 c7 fz6 fz7 fz9
         generalize (w5.setCell ⟨w1.heap.size, 9, none⟩ (.string (C.p.sub q e))) = w6 at *
         have tl6 := hx6.tl
         have hg6 : w1.heap.size < w6.heap.size := by
           rcases Nat.lt_or_ge w1.heap.size w6.heap.size with hh | hh
           · exact hh
           · have := HG6.out
             rw [Array.getElem?_eq_none hh] at this
             cases this
         refine Calls.mono (take_n hx6 ⟨#[125]⟩ [125] rfl (by decide) H3.out) ?_
         rintro e7 w7 ⟨rfl, hx7, hkn⟩
         have hk7 := hk6.then hkn
         clear hkn
         go_wp2_with fail
         refine Calls.mono (fail_any hx7 21) ?_
         rintro e9 w9 ⟨rfl, hkn⟩
         exact ⟨rfl, rp_err HS.out ⟨rfl, (hk7.mono hB).trans hkn⟩⟩
       | true =>
         have HS := Lib.hid (show tkp.one f (C.p.refer f a) = .ok ([lay ({ kind := 11, m := 3, name := C.p.sub q e } : Tk) f (e + 1)], e + 1) by rw [hs, if_neg (by simp [h3])]; rfl)
         have H3 := Lib.hid h3
         clear hs h3
         go_enter Tryz.func66, Tryz.ntmps66
         go_wp2_with fail
         refine Calls.mono (quotes_any h) ?_
         intro e1 w1 hr
         rw [HQ.out] at hr
         obtain ⟨rfl, hx1, hkn⟩ := hr
         have hk1 := hk0.then hkn
         have hbA := below_al w1 (.cells (tkR (.slice none 0 0) { kind := 11 }) 30)
         have hx2 := hx1.below hbA
         have hk2 := hk1.then (Kept.of_below (L := C.L) hbA)
         clear hkn hbA
         unfold tkR
         go_wp2_with fail
         refine Calls.mono (signed_any hx2) ?_
         intro e3 w3 hr
         rw [HSG.out] at hr
         obtain ⟨rfl, hx3, hkn⟩ := hr
         have hk3 := hk2.then hkn
         have HG3 := Lib.hid ((hkn.block w1.heap.size (by rw [World.size_alloc]; omega) (by have := hx1.cells.lt; omega)).trans (heap_alloc_new w1 _))
         have hg1 : w.heap.size ≤ w1.heap.size := hk1.size
         have c6 : w3.cell? ⟨w1.heap.size, 6, none⟩ = some (.int .i64 0) := by simp [World.cell?, HG3.out, tkR]
         have c7 : w3.cell? ⟨w1.heap.size, 7, none⟩ = some (.int .i64 0) := by simp [World.cell?, HG3.out, tkR]
         have fz6 : w3.frozen? ⟨w1.heap.size, 6, none⟩ = false := by simp [World.frozen?, HG3.out]
         have fz7 : w3.frozen? ⟨w1.heap.size, 7, none⟩ = false := by simp [World.frozen?, HG3.out]
         clear hkn hx2 hk2
         go_wp2_with fail
         have hpk : Poke w1.heap.size w3 (((w3.setCell ⟨w1.heap.size, 6, none⟩ (.int .i64 0)).setCell ⟨w1.heap.size, 7, none⟩ (.int .i64 0)).setCell ⟨w1.heap.size, 7, none⟩ (.int .i64 3)) := ((poke_cell w3 w1.heap.size 6 (.int .i64 0)).trans (poke_cell (w3.setCell ⟨w1.heap.size, 6, none⟩ (.int .i64 0)) w1.heap.size 7 (.int .i64 0))).trans (poke_cell ((w3.setCell ⟨w1.heap.size, 6, none⟩ (.int .i64 0)).setCell ⟨w1.heap.size, 7, none⟩ (.int .i64 0)) w1.heap.size 7 (.int .i64 3))
         have HG4 : Hid ((((w3.setCell ⟨w1.heap.size, 6, none⟩ (.int .i64 0)).setCell ⟨w1.heap.size, 7, none⟩ (.int .i64 0)).setCell ⟨w1.heap.size, 7, none⟩ (.int .i64 3)).heap[w1.heap.size]? = some (.cells (tkR (.slice none 0 0) ({ kind := 11, m := 3 } : Tk)) 30 (0, 0))) := Lib.hid (heap_set (o := 7) (v := .int .i64 3) (heap_set (o := 7) (v := .int .i64 0) (heap_set (o := 6) (v := .int .i64 0) (HG3.out))))
         have hx4 := hx3.poke HG3.out (Nat.le_trans hB hg1) (hrl _ hg1) hpk
         have hk4 := hk3.poke hpk hg1
         clear hpk c6 c7 fz6 fz7
         generalize (((w3.setCell ⟨w1.heap.size, 6, none⟩ (.int .i64 0)).setCell ⟨w1.heap.size, 7, none⟩ (.int .i64 0)).setCell ⟨w1.heap.size, 7, none⟩ (.int .i64 3)) = w4 at *
         have hg2 : w1.heap.size < w4.heap.size := by
           rcases Nat.lt_or_ge w1.heap.size w4.heap.size with hh | hh
           · exact hh
           · have := HG4.out
             rw [Array.getElem?_eq_none hh] at this
             cases this
         refine Calls.mono (name_any hx4) ?_
         intro e5 w5 hr
         rw [HN.out] at hr
         obtain ⟨rfl, hx5, hkn⟩ := hr
         have hk5 := hk4.then hkn
         have HG5 := Lib.hid ((hkn.block w1.heap.size hg2 (by have := hx1.cells.lt; omega)).trans HG4.out)
         have nge := HNE.out hx4.an
         have c6 : w5.cell? ⟨w1.heap.size, 9, none⟩ = some (.string ⟨#[]⟩) := by simp [World.cell?, HG5.out, tkR]
         have fz9 : w5.frozen? ⟨w1.heap.size, 9, none⟩ = false := by simp [World.frozen?, HG5.out]
         have c7 := hg2
         have fz6 := hg2
         have fz7 := hg2
         clear hkn
         go_wp2_with fail
         have hpk : Poke w1.heap.size w5 (w5.setCell ⟨w1.heap.size, 9, none⟩ (.string (C.p.sub q e))) := poke_cell w5 w1.heap.size 9 (.string (C.p.sub q e))
         have HG6 : Hid ((w5.setCell ⟨w1.heap.size, 9, none⟩ (.string (C.p.sub q e))).heap[w1.heap.size]? = some (.cells (tkR (.slice none 0 0) ({ kind := 11, m := 3, name := C.p.sub q e } : Tk)) 30 (0, 0))) := Lib.hid (heap_set (o := 9) (v := .string (C.p.sub q e)) (HG5.out))
         have hx6 := hx5.poke HG5.out (Nat.le_trans hB hg1) (hrl _ hg1) hpk
         have hk6 := hk5.poke hpk hg1
         clear hpk c6 c7 fz6 fz7 fz9
         generalize (w5.setCell ⟨w1.heap.size, 9, none⟩ (.string (C.p.sub q e))) = w6 at *
         have tl6 := hx6.tl
         have hg6 : w1.heap.size < w6.heap.size := by
           rcases Nat.lt_or_ge w1.heap.size w6.heap.size with hh | hh
           · exact hh
           · have := HG6.out
             rw [Array.getElem?_eq_none hh] at this
             cases this
         refine Calls.mono (take_y hx6 ⟨#[125]⟩ [125] 1 rfl rfl (by decide) H3.out) ?_
         rintro e7 w7 ⟨rfl, hx7, hkn⟩
         have hk7 := hk6.then hkn
         have HG7 := Lib.hid ((hkn.block w1.heap.size hg6 (by have := hx1.cells.lt; omega)).trans HG6.out)
         have k0 : w7.cell? ⟨w1.heap.size, 0, none⟩ = some (.int .i64 11) := by simp [World.cell?, HG7.out, tkR]
         have k6 : w7.cell? ⟨w1.heap.size, 6, none⟩ = some (.int .i64 0) := by simp [World.cell?, HG7.out, tkR]
         have k7 : w7.cell? ⟨w1.heap.size, 7, none⟩ = some (.int .i64 3) := by simp [World.cell?, HG7.out, tkR]
         clear hkn
         go_wp2_with (refine wpList_load_tok rfl _ rfl w1.heap.size rfl (tkR (.slice none 0 0) ({ kind := 11, m := 3, name := C.p.sub q e } : Tk)) HG7.out rfl ?_)
         refine Calls.mono (put_any hx7 (.slice none 0 0) ({ kind := 11, m := 3, name := C.p.sub q e } : Tk) (ownR_nil _ _) (by omega)) ?_
         intro e8 w8 hr
         have HP := Lib.hid (ptOk_put hr (hk7.mono hB))
         obtain ⟨rfl, _, _⟩ := hr
         go_wp2_with fail
         go_end0
         exact rp_ok HS.out HP.out
   | some r =>
     obtain ⟨n, m, b⟩ := r
     rw [hsg] at hs
     simp only at hs
     obtain ⟨m0, m2⟩ := signed_m hsg
     have HGT := Lib.hid (fun (hh : q ≤ C.p.n) => signed_gt hh hsg)
     have HSG := Lib.hid hsg
     clear hsg
     cases h3 : C.p.has [125] b with
     | false =>
       have HS := Lib.hid (show tkp.one f (C.p.refer f a) = .error (C.p.er 21 f) by rw [hs, if_pos h3]; rfl)
       have H3 := Lib.hid h3
       clear hs h3
       go_enter Tryz.func66, Tryz.ntmps66
       go_wp2_with fail
       refine Calls.mono (quotes_any h) ?_
       intro e1 w1 hr
       rw [HQ.out] at hr
       obtain ⟨rfl, hx1, hkn⟩ := hr
       have hk1 := hk0.then hkn
       have hbA := below_al w1 (.cells (tkR (.slice none 0 0) { kind := 11 }) 30)
       have hx2 := hx1.below hbA
       have hk2 := hk1.then (Kept.of_below (L := C.L) hbA)
       clear hkn hbA
       unfold tkR
       go_wp2_with fail
       have hqn := hx2.an
       have tq2 := hx2.tl
       refine Calls.mono (signed_any hx2) ?_
       intro e3 w3 hr
       rw [HSG.out] at hr
       obtain ⟨rfl, hx3, hkn⟩ := hr
       have hk3 := hk2.then hkn
       have HG3 := Lib.hid ((hkn.block w1.heap.size (by rw [World.size_alloc]; omega) (by have := hx1.cells.lt; omega)).trans (heap_alloc_new w1 _))
       have hg1 : w.heap.size ≤ w1.heap.size := hk1.size
       have c6 : w3.cell? ⟨w1.heap.size, 6, none⟩ = some (.int .i64 0) := by simp [World.cell?, HG3.out, tkR]
       have c7 : w3.cell? ⟨w1.heap.size, 7, none⟩ = some (.int .i64 0) := by simp [World.cell?, HG3.out, tkR]
       have fz6 : w3.frozen? ⟨w1.heap.size, 6, none⟩ = false := by simp [World.frozen?, HG3.out]
       have fz7 : w3.frozen? ⟨w1.heap.size, 7, none⟩ = false := by simp [World.frozen?, HG3.out]
       clear hkn hx2 hk2
       obtain ⟨s1, s2, s3, s4⟩ := HGT.out hqn
       go_wp2_with fail
       have hpk : Poke w1.heap.size w3 ((w3.setCell ⟨w1.heap.size, 6, none⟩ (.int .i64 n)).setCell ⟨w1.heap.size, 7, none⟩ (.int .i64 m)) := (poke_cell w3 w1.heap.size 6 (.int .i64 n)).trans (poke_cell (w3.setCell ⟨w1.heap.size, 6, none⟩ (.int .i64 n)) w1.heap.size 7 (.int .i64 m))
       have HG4 : Hid (((w3.setCell ⟨w1.heap.size, 6, none⟩ (.int .i64 n)).setCell ⟨w1.heap.size, 7, none⟩ (.int .i64 m)).heap[w1.heap.size]? = some (.cells (tkR (.slice none 0 0) ({ kind := 11, n := n, m := m } : Tk)) 30 (0, 0))) := Lib.hid (heap_set (o := 7) (v := .int .i64 m) (heap_set (o := 6) (v := .int .i64 n) (HG3.out)))
       have hx4 := hx3.poke HG3.out (Nat.le_trans hB hg1) (hrl _ hg1) hpk
       have hk4 := hk3.poke hpk hg1
       clear hpk c6 c7 fz6 fz7
       generalize ((w3.setCell ⟨w1.heap.size, 6, none⟩ (.int .i64 n)).setCell ⟨w1.heap.size, 7, none⟩ (.int .i64 m)) = w4 at *
       have hg2 : w1.heap.size < w4.heap.size := by
         rcases Nat.lt_or_ge w1.heap.size w4.heap.size with hh | hh
         · exact hh
         · have := HG4.out
           rw [Array.getElem?_eq_none hh] at this
           cases this
       have tq := hx3.tl
       refine Calls.mono (take_n hx4 ⟨#[125]⟩ [125] rfl (by decide) H3.out) ?_
       rintro e5 w5 ⟨rfl, hx5, hkn⟩
       have hk5 := hk4.then hkn
       clear hkn
       go_wp2_with fail
       refine Calls.mono (fail_any hx5 21) ?_
       rintro e9 w9 ⟨rfl, hkn⟩
       exact ⟨rfl, rp_err HS.out ⟨rfl, (hk5.mono hB).trans hkn⟩⟩
     | true =>
       have H3 := Lib.hid h3
       rw [if_neg (by simp [h3])] at hs
       clear h3
       by_cases hn0 : n = 0
       · subst hn0
         have HS := Lib.hid (show tkp.one f (C.p.refer f a) = .error (C.p.er 25 f) by rw [hs, if_pos ⟨rfl, Or.inl (by decide)⟩]; rfl)
         clear hs
         have hb3 : (m != 3) = true := by simp; omega
         go_enter Tryz.func66, Tryz.ntmps66
         go_wp2_with fail
         refine Calls.mono (quotes_any h) ?_
         intro e1 w1 hr
         rw [HQ.out] at hr
         obtain ⟨rfl, hx1, hkn⟩ := hr
         have hk1 := hk0.then hkn
         have hbA := below_al w1 (.cells (tkR (.slice none 0 0) { kind := 11 }) 30)
         have hx2 := hx1.below hbA
         have hk2 := hk1.then (Kept.of_below (L := C.L) hbA)
         clear hkn hbA
         unfold tkR
         go_wp2_with fail
         have hqn := hx2.an
         have tq2 := hx2.tl
         refine Calls.mono (signed_any hx2) ?_
         intro e3 w3 hr
         rw [HSG.out] at hr
         obtain ⟨rfl, hx3, hkn⟩ := hr
         have hk3 := hk2.then hkn
         have HG3 := Lib.hid ((hkn.block w1.heap.size (by rw [World.size_alloc]; omega) (by have := hx1.cells.lt; omega)).trans (heap_alloc_new w1 _))
         have hg1 : w.heap.size ≤ w1.heap.size := hk1.size
         have c6 : w3.cell? ⟨w1.heap.size, 6, none⟩ = some (.int .i64 0) := by simp [World.cell?, HG3.out, tkR]
         have c7 : w3.cell? ⟨w1.heap.size, 7, none⟩ = some (.int .i64 0) := by simp [World.cell?, HG3.out, tkR]
         have fz6 : w3.frozen? ⟨w1.heap.size, 6, none⟩ = false := by simp [World.frozen?, HG3.out]
         have fz7 : w3.frozen? ⟨w1.heap.size, 7, none⟩ = false := by simp [World.frozen?, HG3.out]
         clear hkn hx2 hk2
         obtain ⟨s1, s2, s3, s4⟩ := HGT.out hqn
         go_wp2_with fail
         have hpk : Poke w1.heap.size w3 ((w3.setCell ⟨w1.heap.size, 6, none⟩ (.int .i64 0)).setCell ⟨w1.heap.size, 7, none⟩ (.int .i64 m)) := (poke_cell w3 w1.heap.size 6 (.int .i64 0)).trans (poke_cell (w3.setCell ⟨w1.heap.size, 6, none⟩ (.int .i64 0)) w1.heap.size 7 (.int .i64 m))
         have HG4 : Hid (((w3.setCell ⟨w1.heap.size, 6, none⟩ (.int .i64 0)).setCell ⟨w1.heap.size, 7, none⟩ (.int .i64 m)).heap[w1.heap.size]? = some (.cells (tkR (.slice none 0 0) ({ kind := 11, n := 0, m := m } : Tk)) 30 (0, 0))) := Lib.hid (heap_set (o := 7) (v := .int .i64 m) (heap_set (o := 6) (v := .int .i64 0) (HG3.out)))
         have hx4 := hx3.poke HG3.out (Nat.le_trans hB hg1) (hrl _ hg1) hpk
         have hk4 := hk3.poke hpk hg1
         clear hpk c6 c7 fz6 fz7
         generalize ((w3.setCell ⟨w1.heap.size, 6, none⟩ (.int .i64 0)).setCell ⟨w1.heap.size, 7, none⟩ (.int .i64 m)) = w4 at *
         have hg2 : w1.heap.size < w4.heap.size := by
           rcases Nat.lt_or_ge w1.heap.size w4.heap.size with hh | hh
           · exact hh
           · have := HG4.out
             rw [Array.getElem?_eq_none hh] at this
             cases this
         have tq := hx3.tl
         refine Calls.mono (take_y hx4 ⟨#[125]⟩ [125] 1 rfl rfl (by decide) H3.out) ?_
         rintro e5 w5 ⟨rfl, hx5, hkn⟩
         have hk5 := hk4.then hkn
         have HG5 := Lib.hid ((hkn.block w1.heap.size hg2 (by have := hx1.cells.lt; omega)).trans HG4.out)
         have k0 : w5.cell? ⟨w1.heap.size, 0, none⟩ = some (.int .i64 11) := by simp [World.cell?, HG5.out, tkR]
         have k6 : w5.cell? ⟨w1.heap.size, 6, none⟩ = some (.int .i64 0) := by simp [World.cell?, HG5.out, tkR]
         have k7 : w5.cell? ⟨w1.heap.size, 7, none⟩ = some (.int .i64 m) := by simp [World.cell?, HG5.out, tkR]
         clear hkn
         go_wp2_with fail
         refine Calls.mono (fail_any hx5 25) ?_
         rintro e9 w9 ⟨rfl, hkn⟩
         exact ⟨rfl, rp_err HS.out ⟨rfl, (hk5.mono hB).trans hkn⟩⟩
       · have HS := Lib.hid (show tkp.one f (C.p.refer f a) = .ok ([lay ({ kind := 11, n := n, m := m } : Tk) f (b + 1)], b + 1) by rw [hs, if_neg (by simp; try omega)]; rfl)
         clear hs
         go_enter Tryz.func66, Tryz.ntmps66
         go_wp2_with fail
         refine Calls.mono (quotes_any h) ?_
         intro e1 w1 hr
         rw [HQ.out] at hr
         obtain ⟨rfl, hx1, hkn⟩ := hr
         have hk1 := hk0.then hkn
         have hbA := below_al w1 (.cells (tkR (.slice none 0 0) { kind := 11 }) 30)
         have hx2 := hx1.below hbA
         have hk2 := hk1.then (Kept.of_below (L := C.L) hbA)
         clear hkn hbA
         unfold tkR
         go_wp2_with fail
         have hqn := hx2.an
         have tq2 := hx2.tl
         refine Calls.mono (signed_any hx2) ?_
         intro e3 w3 hr
         rw [HSG.out] at hr
         obtain ⟨rfl, hx3, hkn⟩ := hr
         have hk3 := hk2.then hkn
         have HG3 := Lib.hid ((hkn.block w1.heap.size (by rw [World.size_alloc]; omega) (by have := hx1.cells.lt; omega)).trans (heap_alloc_new w1 _))
         have hg1 : w.heap.size ≤ w1.heap.size := hk1.size
         have c6 : w3.cell? ⟨w1.heap.size, 6, none⟩ = some (.int .i64 0) := by simp [World.cell?, HG3.out, tkR]
         have c7 : w3.cell? ⟨w1.heap.size, 7, none⟩ = some (.int .i64 0) := by simp [World.cell?, HG3.out, tkR]
         have fz6 : w3.frozen? ⟨w1.heap.size, 6, none⟩ = false := by simp [World.frozen?, HG3.out]
         have fz7 : w3.frozen? ⟨w1.heap.size, 7, none⟩ = false := by simp [World.frozen?, HG3.out]
         clear hkn hx2 hk2
         obtain ⟨s1, s2, s3, s4⟩ := HGT.out hqn
         go_wp2_with fail
         have hpk : Poke w1.heap.size w3 ((w3.setCell ⟨w1.heap.size, 6, none⟩ (.int .i64 n)).setCell ⟨w1.heap.size, 7, none⟩ (.int .i64 m)) := (poke_cell w3 w1.heap.size 6 (.int .i64 n)).trans (poke_cell (w3.setCell ⟨w1.heap.size, 6, none⟩ (.int .i64 n)) w1.heap.size 7 (.int .i64 m))
         have HG4 : Hid (((w3.setCell ⟨w1.heap.size, 6, none⟩ (.int .i64 n)).setCell ⟨w1.heap.size, 7, none⟩ (.int .i64 m)).heap[w1.heap.size]? = some (.cells (tkR (.slice none 0 0) ({ kind := 11, n := n, m := m } : Tk)) 30 (0, 0))) := Lib.hid (heap_set (o := 7) (v := .int .i64 m) (heap_set (o := 6) (v := .int .i64 n) (HG3.out)))
         have hx4 := hx3.poke HG3.out (Nat.le_trans hB hg1) (hrl _ hg1) hpk
         have hk4 := hk3.poke hpk hg1
         clear hpk c6 c7 fz6 fz7
         generalize ((w3.setCell ⟨w1.heap.size, 6, none⟩ (.int .i64 n)).setCell ⟨w1.heap.size, 7, none⟩ (.int .i64 m)) = w4 at *
         have hg2 : w1.heap.size < w4.heap.size := by
           rcases Nat.lt_or_ge w1.heap.size w4.heap.size with hh | hh
           · exact hh
           · have := HG4.out
             rw [Array.getElem?_eq_none hh] at this
             cases this
         have tq := hx3.tl
         refine Calls.mono (take_y hx4 ⟨#[125]⟩ [125] 1 rfl rfl (by decide) H3.out) ?_
         rintro e5 w5 ⟨rfl, hx5, hkn⟩
         have hk5 := hk4.then hkn
         have HG5 := Lib.hid ((hkn.block w1.heap.size hg2 (by have := hx1.cells.lt; omega)).trans HG4.out)
         have k0 : w5.cell? ⟨w1.heap.size, 0, none⟩ = some (.int .i64 11) := by simp [World.cell?, HG5.out, tkR]
         have k6 : w5.cell? ⟨w1.heap.size, 6, none⟩ = some (.int .i64 n) := by simp [World.cell?, HG5.out, tkR]
         have k7 : w5.cell? ⟨w1.heap.size, 7, none⟩ = some (.int .i64 m) := by simp [World.cell?, HG5.out, tkR]
         clear hkn
         go_wp2_with (refine wpList_load_tok rfl _ rfl w1.heap.size rfl (tkR (.slice none 0 0) ({ kind := 11, n := n, m := m } : Tk)) HG5.out rfl ?_)
         refine Calls.mono (put_any hx5 (.slice none 0 0) ({ kind := 11, n := n, m := m } : Tk) (ownR_nil _ _) (by omega)) ?_
         intro e8 w8 hr
         have HP := Lib.hid (ptOk_put hr (hk5.mono hB))
         obtain ⟨rfl, _, _⟩ := hr
         go_wp2_with fail
         go_end0
         exact rp_ok HS.out HP.out
set_option maxRecDepth 100000 in
set_option maxHeartbeats 8000000 in
theorem refer_3 {C : Cf} {w : World} {a f : Nat} {T : Rw} (h : LX C w a f T) {q : Nat} (hq : C.p.quotes a = (11, [], q)) : Calls Tryz.prog 66 #[.pointer (some ⟨C.L, 0, none⟩)] w (RP C w (tkp.one f (C.p.refer f a)) (PtOk C w T)) := by
 have hq2 : (C.p.quotes a).2.2 = q := by rw [hq]
 have hge := quotes_ge (p := C.p) (a := a)
 rw [hq2] at hge
 have hs : C.p.refer f a = (match C.p.signed f q with
   | .error e => .error e
   | .ok (some (n, m, b)) => if C.p.has [] b = false then .error (21, (f : Int))
     else if n = 0 ∧ ((11 : Int) ≠ 12 ∨ m ≠ 0) then .error (25, (f : Int))
     else .ok ({ kind := 11, n := n, m := m }, b + 0)
   | .ok none => if (C.p.name q).2 = false ∨ ([] : List UInt8) = [] ∨ C.p.has [] (C.p.name q).1 = false then .error (21, (f : Int))
     else .ok ({ kind := 11, m := 3, name := C.p.sub q (C.p.name q).1 }, (C.p.name q).1 + 0)) := by
   unfold Pt.refer
   rw [hq]
   rfl
 have HQ := Lib.hid hq
 have hrl := fun (g : Nat) (hg : w.heap.size ≤ g) => h.row_lt hg
 clear hq hq2
 have hk0 := Kept.refl w.heap.size C.L w
 have hB := h.hb
 cases hsg : C.p.signed f q with
 | error x =>
   rw [hsg] at hs
   have HS := Lib.hid (show tkp.one f (C.p.refer f a) = .error x by rw [hs]; rfl)
   have HSG := Lib.hid hsg
   clear hs hsg
   go_enter Tryz.func66, Tryz.ntmps66
   go_wp2_with fail
   refine Calls.mono (quotes_any h) ?_
   intro e1 w1 hr
   rw [HQ.out] at hr
   obtain ⟨rfl, hx1, hkn⟩ := hr
   have hk1 := hk0.then hkn
   have hbA := below_al w1 (.cells (tkR (.slice none 0 0) { kind := 11 }) 30)
   have hx2 := hx1.below hbA
   have hk2 := hk1.then (Kept.of_below (L := C.L) hbA)
   clear hkn hbA
   unfold tkR
   go_wp2_with fail
   refine Calls.mono (signed_any hx2) ?_
   intro e3 w3 hr
   rw [HSG.out] at hr
   obtain ⟨rfl, hkn⟩ := hr
   exact ⟨rfl, rp_err HS.out ⟨rfl, (hk2.mono hB).trans hkn⟩⟩
 | ok o =>
   cases o with
   | none =>
     rw [hsg] at hs
     simp only at hs
     obtain ⟨⟨e, ok⟩, hn⟩ : ∃ d, C.p.name q = d := ⟨_, rfl⟩
     rw [hn] at hs
     simp only at hs
     have HN := Lib.hid hn
     have HSG := Lib.hid hsg
     have HNE := Lib.hid (fun (hh : q ≤ C.p.n) => name_ge (p := C.p) hh)
     rw [hn] at HNE
     clear hn hsg
     cases ok with
     | false =>
       have HS := Lib.hid (show tkp.one f (C.p.refer f a) = .error (C.p.er 21 f) by rw [hs, if_pos (Or.inl rfl)]; rfl)
       clear hs
       go_enter Tryz.func66, Tryz.ntmps66
       go_wp2_with fail
       refine Calls.mono (quotes_any h) ?_
       intro e1 w1 hr
       rw [HQ.out] at hr
       obtain ⟨rfl, hx1, hkn⟩ := hr
       have hk1 := hk0.then hkn
       have hbA := below_al w1 (.cells (tkR (.slice none 0 0) { kind := 11 }) 30)
       have hx2 := hx1.below hbA
       have hk2 := hk1.then (Kept.of_below (L := C.L) hbA)
       clear hkn hbA
       unfold tkR
       go_wp2_with fail
       refine Calls.mono (signed_any hx2) ?_
       intro e3 w3 hr
       rw [HSG.out] at hr
       obtain ⟨rfl, hx3, hkn⟩ := hr
       have hk3 := hk2.then hkn
       have HG3 := Lib.hid ((hkn.block w1.heap.size (by rw [World.size_alloc]; omega) (by have := hx1.cells.lt; omega)).trans (heap_alloc_new w1 _))
       have hg1 : w.heap.size ≤ w1.heap.size := hk1.size
       have c6 : w3.cell? ⟨w1.heap.size, 6, none⟩ = some (.int .i64 0) := by simp [World.cell?, HG3.out, tkR]
       have c7 : w3.cell? ⟨w1.heap.size, 7, none⟩ = some (.int .i64 0) := by simp [World.cell?, HG3.out, tkR]
       have fz6 : w3.frozen? ⟨w1.heap.size, 6, none⟩ = false := by simp [World.frozen?, HG3.out]
       have fz7 : w3.frozen? ⟨w1.heap.size, 7, none⟩ = false := by simp [World.frozen?, HG3.out]
       clear hkn hx2 hk2
       go_wp2_with fail
       have hpk : Poke w1.heap.size w3 (((w3.setCell ⟨w1.heap.size, 6, none⟩ (.int .i64 0)).setCell ⟨w1.heap.size, 7, none⟩ (.int .i64 0)).setCell ⟨w1.heap.size, 7, none⟩ (.int .i64 3)) := ((poke_cell w3 w1.heap.size 6 (.int .i64 0)).trans (poke_cell (w3.setCell ⟨w1.heap.size, 6, none⟩ (.int .i64 0)) w1.heap.size 7 (.int .i64 0))).trans (poke_cell ((w3.setCell ⟨w1.heap.size, 6, none⟩ (.int .i64 0)).setCell ⟨w1.heap.size, 7, none⟩ (.int .i64 0)) w1.heap.size 7 (.int .i64 3))
       have HG4 : Hid ((((w3.setCell ⟨w1.heap.size, 6, none⟩ (.int .i64 0)).setCell ⟨w1.heap.size, 7, none⟩ (.int .i64 0)).setCell ⟨w1.heap.size, 7, none⟩ (.int .i64 3)).heap[w1.heap.size]? = some (.cells (tkR (.slice none 0 0) ({ kind := 11, m := 3 } : Tk)) 30 (0, 0))) := Lib.hid (heap_set (o := 7) (v := .int .i64 3) (heap_set (o := 7) (v := .int .i64 0) (heap_set (o := 6) (v := .int .i64 0) (HG3.out))))
       have hx4 := hx3.poke HG3.out (Nat.le_trans hB hg1) (hrl _ hg1) hpk
       have hk4 := hk3.poke hpk hg1
       clear hpk c6 c7 fz6 fz7
       generalize (((w3.setCell ⟨w1.heap.size, 6, none⟩ (.int .i64 0)).setCell ⟨w1.heap.size, 7, none⟩ (.int .i64 0)).setCell ⟨w1.heap.size, 7, none⟩ (.int .i64 3)) = w4 at *
       have hg2 : w1.heap.size < w4.heap.size := by
         rcases Nat.lt_or_ge w1.heap.size w4.heap.size with hh | hh
         · exact hh
         · have := HG4.out
           rw [Array.getElem?_eq_none hh] at this
           cases this
       refine Calls.mono (name_any hx4) ?_
       intro e5 w5 hr
       rw [HN.out] at hr
       obtain ⟨rfl, hx5, hkn⟩ := hr
       have hk5 := hk4.then hkn
       have HG5 := Lib.hid ((hkn.block w1.heap.size hg2 (by have := hx1.cells.lt; omega)).trans HG4.out)
       have nge := HNE.out hx4.an
       have c6 : w5.cell? ⟨w1.heap.size, 9, none⟩ = some (.string ⟨#[]⟩) := by simp [World.cell?, HG5.out, tkR]
       have fz9 : w5.frozen? ⟨w1.heap.size, 9, none⟩ = false := by simp [World.frozen?, HG5.out]
       have c7 := hg2
       have fz6 := hg2
       have fz7 := hg2
       clear hkn
       go_wp2_with fail
       have hpk : Poke w1.heap.size w5 (w5.setCell ⟨w1.heap.size, 9, none⟩ (.string (C.p.sub q e))) := poke_cell w5 w1.heap.size 9 (.string (C.p.sub q e))
       have HG6 : Hid ((w5.setCell ⟨w1.heap.size, 9, none⟩ (.string (C.p.sub q e))).heap[w1.heap.size]? = some (.cells (tkR (.slice none 0 0) ({ kind := 11, m := 3, name := C.p.sub q e } : Tk)) 30 (0, 0))) := Lib.hid (heap_set (o := 9) (v := .string (C.p.sub q e)) (HG5.out))
       have hx6 := hx5.poke HG5.out (Nat.le_trans hB hg1) (hrl _ hg1) hpk
       have hk6 := hk5.poke hpk hg1
       clear hpk c6 c7 fz6 fz7 fz9
       generalize (w5.setCell ⟨w1.heap.size, 9, none⟩ (.string (C.p.sub q e))) = w6 at *
       have tl6 := hx6.tl
       have hg6 : w1.heap.size < w6.heap.size := by
         rcases Nat.lt_or_ge w1.heap.size w6.heap.size with hh | hh
         · exact hh
         · have := HG6.out
           rw [Array.getElem?_eq_none hh] at this
           cases this
       refine Calls.mono (fail_any hx6 21) ?_
       rintro e9 w9 ⟨rfl, hkn⟩
       exact ⟨rfl, rp_err HS.out ⟨rfl, (hk6.mono hB).trans hkn⟩⟩
     | true =>
       have HS := Lib.hid (show tkp.one f (C.p.refer f a) = .error (C.p.er 21 f) by rw [hs, if_pos (Or.inr (Or.inl trivial))]; rfl)
       clear hs
       go_enter Tryz.func66, Tryz.ntmps66
       go_wp2_with fail
       refine Calls.mono (quotes_any h) ?_
       intro e1 w1 hr
       rw [HQ.out] at hr
       obtain ⟨rfl, hx1, hkn⟩ := hr
       have hk1 := hk0.then hkn
       have hbA := below_al w1 (.cells (tkR (.slice none 0 0) { kind := 11 }) 30)
       have hx2 := hx1.below hbA
       have hk2 := hk1.then (Kept.of_below (L := C.L) hbA)
       clear hkn hbA
       unfold tkR
       go_wp2_with fail
       refine Calls.mono (signed_any hx2) ?_
       intro e3 w3 hr
       rw [HSG.out] at hr
       obtain ⟨rfl, hx3, hkn⟩ := hr
       have hk3 := hk2.then hkn
       have HG3 := Lib.hid ((hkn.block w1.heap.size (by rw [World.size_alloc]; omega) (by have := hx1.cells.lt; omega)).trans (heap_alloc_new w1 _))
       have hg1 : w.heap.size ≤ w1.heap.size := hk1.size
       have c6 : w3.cell? ⟨w1.heap.size, 6, none⟩ = some (.int .i64 0) := by simp [World.cell?, HG3.out, tkR]
       have c7 : w3.cell? ⟨w1.heap.size, 7, none⟩ = some (.int .i64 0) := by simp [World.cell?, HG3.out, tkR]
       have fz6 : w3.frozen? ⟨w1.heap.size, 6, none⟩ = false := by simp [World.frozen?, HG3.out]
       have fz7 : w3.frozen? ⟨w1.heap.size, 7, none⟩ = false := by simp [World.frozen?, HG3.out]
       clear hkn hx2 hk2
       go_wp2_with fail
       have hpk : Poke w1.heap.size w3 (((w3.setCell ⟨w1.heap.size, 6, none⟩ (.int .i64 0)).setCell ⟨w1.heap.size, 7, none⟩ (.int .i64 0)).setCell ⟨w1.heap.size, 7, none⟩ (.int .i64 3)) := ((poke_cell w3 w1.heap.size 6 (.int .i64 0)).trans (poke_cell (w3.setCell ⟨w1.heap.size, 6, none⟩ (.int .i64 0)) w1.heap.size 7 (.int .i64 0))).trans (poke_cell ((w3.setCell ⟨w1.heap.size, 6, none⟩ (.int .i64 0)).setCell ⟨w1.heap.size, 7, none⟩ (.int .i64 0)) w1.heap.size 7 (.int .i64 3))
       have HG4 : Hid ((((w3.setCell ⟨w1.heap.size, 6, none⟩ (.int .i64 0)).setCell ⟨w1.heap.size, 7, none⟩ (.int .i64 0)).setCell ⟨w1.heap.size, 7, none⟩ (.int .i64 3)).heap[w1.heap.size]? = some (.cells (tkR (.slice none 0 0) ({ kind := 11, m := 3 } : Tk)) 30 (0, 0))) := Lib.hid (heap_set (o := 7) (v := .int .i64 3) (heap_set (o := 7) (v := .int .i64 0) (heap_set (o := 6) (v := .int .i64 0) (HG3.out))))
       have hx4 := hx3.poke HG3.out (Nat.le_trans hB hg1) (hrl _ hg1) hpk
       have hk4 := hk3.poke hpk hg1
       clear hpk c6 c7 fz6 fz7
       generalize (((w3.setCell ⟨w1.heap.size, 6, none⟩ (.int .i64 0)).setCell ⟨w1.heap.size, 7, none⟩ (.int .i64 0)).setCell ⟨w1.heap.size, 7, none⟩ (.int .i64 3)) = w4 at *
       have hg2 : w1.heap.size < w4.heap.size := by
         rcases Nat.lt_or_ge w1.heap.size w4.heap.size with hh | hh
         · exact hh
         · have := HG4.out
           rw [Array.getElem?_eq_none hh] at this
           cases this
       refine Calls.mono (name_any hx4) ?_
       intro e5 w5 hr
       rw [HN.out] at hr
       obtain ⟨rfl, hx5, hkn⟩ := hr
       have hk5 := hk4.then hkn
       have HG5 := Lib.hid ((hkn.block w1.heap.size hg2 (by have := hx1.cells.lt; omega)).trans HG4.out)
       have nge := HNE.out hx4.an
       have c6 : w5.cell? ⟨w1.heap.size, 9, none⟩ = some (.string ⟨#[]⟩) := by simp [World.cell?, HG5.out, tkR]
       have fz9 : w5.frozen? ⟨w1.heap.size, 9, none⟩ = false := by simp [World.frozen?, HG5.out]
       have c7 := hg2
       have fz6 := hg2
       have fz7 := hg2
       clear hkn
       go_wp2_with fail
       have hpk : Poke w1.heap.size w5 (w5.setCell ⟨w1.heap.size, 9, none⟩ (.string (C.p.sub q e))) := poke_cell w5 w1.heap.size 9 (.string (C.p.sub q e))
       have HG6 : Hid ((w5.setCell ⟨w1.heap.size, 9, none⟩ (.string (C.p.sub q e))).heap[w1.heap.size]? = some (.cells (tkR (.slice none 0 0) ({ kind := 11, m := 3, name := C.p.sub q e } : Tk)) 30 (0, 0))) := Lib.hid (heap_set (o := 9) (v := .string (C.p.sub q e)) (HG5.out))
       have hx6 := hx5.poke HG5.out (Nat.le_trans hB hg1) (hrl _ hg1) hpk
       have hk6 := hk5.poke hpk hg1
       clear hpk c6 c7 fz6 fz7 fz9
       generalize (w5.setCell ⟨w1.heap.size, 9, none⟩ (.string (C.p.sub q e))) = w6 at *
       have tl6 := hx6.tl
       have hg6 : w1.heap.size < w6.heap.size := by
         rcases Nat.lt_or_ge w1.heap.size w6.heap.size with hh | hh
         · exact hh
         · have := HG6.out
           rw [Array.getElem?_eq_none hh] at this
           cases this
       refine Calls.mono (fail_any hx6 21) ?_
       rintro e9 w9 ⟨rfl, hkn⟩
       exact ⟨rfl, rp_err HS.out ⟨rfl, (hk6.mono hB).trans hkn⟩⟩
   | some r =>
     obtain ⟨n, m, b⟩ := r
     rw [hsg] at hs
     simp only at hs
     obtain ⟨m0, m2⟩ := signed_m hsg
     have HGT := Lib.hid (fun (hh : q ≤ C.p.n) => signed_gt hh hsg)
     have HSG := Lib.hid hsg
     clear hsg
     have h3 : C.p.has [] b = true := rfl
     have H3 := Lib.hid h3
     rw [if_neg (by simp [h3])] at hs
     clear h3
     by_cases hn0 : n = 0
     · subst hn0
       have HS := Lib.hid (show tkp.one f (C.p.refer f a) = .error (C.p.er 25 f) by rw [hs, if_pos ⟨rfl, Or.inl (by decide)⟩]; rfl)
       clear hs
       have hb3 : (m != 3) = true := by simp; omega
       go_enter Tryz.func66, Tryz.ntmps66
       go_wp2_with fail
       refine Calls.mono (quotes_any h) ?_
       intro e1 w1 hr
       rw [HQ.out] at hr
       obtain ⟨rfl, hx1, hkn⟩ := hr
       have hk1 := hk0.then hkn
       have hbA := below_al w1 (.cells (tkR (.slice none 0 0) { kind := 11 }) 30)
       have hx2 := hx1.below hbA
       have hk2 := hk1.then (Kept.of_below (L := C.L) hbA)
       clear hkn hbA
       unfold tkR
       go_wp2_with fail
       have hqn := hx2.an
       have tq2 := hx2.tl
       refine Calls.mono (signed_any hx2) ?_
       intro e3 w3 hr
       rw [HSG.out] at hr
       obtain ⟨rfl, hx3, hkn⟩ := hr
       have hk3 := hk2.then hkn
       have HG3 := Lib.hid ((hkn.block w1.heap.size (by rw [World.size_alloc]; omega) (by have := hx1.cells.lt; omega)).trans (heap_alloc_new w1 _))
       have hg1 : w.heap.size ≤ w1.heap.size := hk1.size
       have c6 : w3.cell? ⟨w1.heap.size, 6, none⟩ = some (.int .i64 0) := by simp [World.cell?, HG3.out, tkR]
       have c7 : w3.cell? ⟨w1.heap.size, 7, none⟩ = some (.int .i64 0) := by simp [World.cell?, HG3.out, tkR]
       have fz6 : w3.frozen? ⟨w1.heap.size, 6, none⟩ = false := by simp [World.frozen?, HG3.out]
       have fz7 : w3.frozen? ⟨w1.heap.size, 7, none⟩ = false := by simp [World.frozen?, HG3.out]
       clear hkn hx2 hk2
       obtain ⟨s1, s2, s3, s4⟩ := HGT.out hqn
       go_wp2_with fail
       have hpk : Poke w1.heap.size w3 ((w3.setCell ⟨w1.heap.size, 6, none⟩ (.int .i64 0)).setCell ⟨w1.heap.size, 7, none⟩ (.int .i64 m)) := (poke_cell w3 w1.heap.size 6 (.int .i64 0)).trans (poke_cell (w3.setCell ⟨w1.heap.size, 6, none⟩ (.int .i64 0)) w1.heap.size 7 (.int .i64 m))
       have HG4 : Hid (((w3.setCell ⟨w1.heap.size, 6, none⟩ (.int .i64 0)).setCell ⟨w1.heap.size, 7, none⟩ (.int .i64 m)).heap[w1.heap.size]? = some (.cells (tkR (.slice none 0 0) ({ kind := 11, n := 0, m := m } : Tk)) 30 (0, 0))) := Lib.hid (heap_set (o := 7) (v := .int .i64 m) (heap_set (o := 6) (v := .int .i64 0) (HG3.out)))
       have hx4 := hx3.poke HG3.out (Nat.le_trans hB hg1) (hrl _ hg1) hpk
       have hk4 := hk3.poke hpk hg1
       clear hpk c6 c7 fz6 fz7
       generalize ((w3.setCell ⟨w1.heap.size, 6, none⟩ (.int .i64 0)).setCell ⟨w1.heap.size, 7, none⟩ (.int .i64 m)) = w4 at *
       have hg2 : w1.heap.size < w4.heap.size := by
         rcases Nat.lt_or_ge w1.heap.size w4.heap.size with hh | hh
         · exact hh
         · have := HG4.out
           rw [Array.getElem?_eq_none hh] at this
           cases this
       have tq := hx3.tl
       refine Calls.mono (take_y hx4 ⟨#[]⟩ [] 0 rfl rfl (by decide) H3.out) ?_
       rintro e5 w5 ⟨rfl, hx5, hkn⟩
       have hk5 := hk4.then hkn
       have HG5 := Lib.hid ((hkn.block w1.heap.size hg2 (by have := hx1.cells.lt; omega)).trans HG4.out)
       have k0 : w5.cell? ⟨w1.heap.size, 0, none⟩ = some (.int .i64 11) := by simp [World.cell?, HG5.out, tkR]
       have k6 : w5.cell? ⟨w1.heap.size, 6, none⟩ = some (.int .i64 0) := by simp [World.cell?, HG5.out, tkR]
       have k7 : w5.cell? ⟨w1.heap.size, 7, none⟩ = some (.int .i64 m) := by simp [World.cell?, HG5.out, tkR]
       clear hkn
       go_wp2_with fail
       refine Calls.mono (fail_any hx5 25) ?_
       rintro e9 w9 ⟨rfl, hkn⟩
       exact ⟨rfl, rp_err HS.out ⟨rfl, (hk5.mono hB).trans hkn⟩⟩
     · have HS := Lib.hid (show tkp.one f (C.p.refer f a) = .ok ([lay ({ kind := 11, n := n, m := m } : Tk) f (b + 0)], b + 0) by rw [hs, if_neg (by simp; try omega)]; rfl)
       clear hs
       go_enter Tryz.func66, Tryz.ntmps66
       go_wp2_with fail
       refine Calls.mono (quotes_any h) ?_
       intro e1 w1 hr
       rw [HQ.out] at hr
       obtain ⟨rfl, hx1, hkn⟩ := hr
       have hk1 := hk0.then hkn
       have hbA := below_al w1 (.cells (tkR (.slice none 0 0) { kind := 11 }) 30)
       have hx2 := hx1.below hbA
       have hk2 := hk1.then (Kept.of_below (L := C.L) hbA)
       clear hkn hbA
       unfold tkR
       go_wp2_with fail
       have hqn := hx2.an
       have tq2 := hx2.tl
       refine Calls.mono (signed_any hx2) ?_
       intro e3 w3 hr
       rw [HSG.out] at hr
       obtain ⟨rfl, hx3, hkn⟩ := hr
       have hk3 := hk2.then hkn
       have HG3 := Lib.hid ((hkn.block w1.heap.size (by rw [World.size_alloc]; omega) (by have := hx1.cells.lt; omega)).trans (heap_alloc_new w1 _))
       have hg1 : w.heap.size ≤ w1.heap.size := hk1.size
       have c6 : w3.cell? ⟨w1.heap.size, 6, none⟩ = some (.int .i64 0) := by simp [World.cell?, HG3.out, tkR]
       have c7 : w3.cell? ⟨w1.heap.size, 7, none⟩ = some (.int .i64 0) := by simp [World.cell?, HG3.out, tkR]
       have fz6 : w3.frozen? ⟨w1.heap.size, 6, none⟩ = false := by simp [World.frozen?, HG3.out]
       have fz7 : w3.frozen? ⟨w1.heap.size, 7, none⟩ = false := by simp [World.frozen?, HG3.out]
       clear hkn hx2 hk2
       obtain ⟨s1, s2, s3, s4⟩ := HGT.out hqn
       go_wp2_with fail
       have hpk : Poke w1.heap.size w3 ((w3.setCell ⟨w1.heap.size, 6, none⟩ (.int .i64 n)).setCell ⟨w1.heap.size, 7, none⟩ (.int .i64 m)) := (poke_cell w3 w1.heap.size 6 (.int .i64 n)).trans (poke_cell (w3.setCell ⟨w1.heap.size, 6, none⟩ (.int .i64 n)) w1.heap.size 7 (.int .i64 m))
       have HG4 : Hid (((w3.setCell ⟨w1.heap.size, 6, none⟩ (.int .i64 n)).setCell ⟨w1.heap.size, 7, none⟩ (.int .i64 m)).heap[w1.heap.size]? = some (.cells (tkR (.slice none 0 0) ({ kind := 11, n := n, m := m } : Tk)) 30 (0, 0))) := Lib.hid (heap_set (o := 7) (v := .int .i64 m) (heap_set (o := 6) (v := .int .i64 n) (HG3.out)))
       have hx4 := hx3.poke HG3.out (Nat.le_trans hB hg1) (hrl _ hg1) hpk
       have hk4 := hk3.poke hpk hg1
       clear hpk c6 c7 fz6 fz7
       generalize ((w3.setCell ⟨w1.heap.size, 6, none⟩ (.int .i64 n)).setCell ⟨w1.heap.size, 7, none⟩ (.int .i64 m)) = w4 at *
       have hg2 : w1.heap.size < w4.heap.size := by
         rcases Nat.lt_or_ge w1.heap.size w4.heap.size with hh | hh
         · exact hh
         · have := HG4.out
           rw [Array.getElem?_eq_none hh] at this
           cases this
       have tq := hx3.tl
       refine Calls.mono (take_y hx4 ⟨#[]⟩ [] 0 rfl rfl (by decide) H3.out) ?_
       rintro e5 w5 ⟨rfl, hx5, hkn⟩
       have hk5 := hk4.then hkn
       have HG5 := Lib.hid ((hkn.block w1.heap.size hg2 (by have := hx1.cells.lt; omega)).trans HG4.out)
       have k0 : w5.cell? ⟨w1.heap.size, 0, none⟩ = some (.int .i64 11) := by simp [World.cell?, HG5.out, tkR]
       have k6 : w5.cell? ⟨w1.heap.size, 6, none⟩ = some (.int .i64 n) := by simp [World.cell?, HG5.out, tkR]
       have k7 : w5.cell? ⟨w1.heap.size, 7, none⟩ = some (.int .i64 m) := by simp [World.cell?, HG5.out, tkR]
       clear hkn
       go_wp2_with (refine wpList_load_tok rfl _ rfl w1.heap.size rfl (tkR (.slice none 0 0) ({ kind := 11, n := n, m := m } : Tk)) HG5.out rfl ?_)
       refine Calls.mono (put_any hx5 (.slice none 0 0) ({ kind := 11, n := n, m := m } : Tk) (ownR_nil _ _) (by omega)) ?_
       intro e8 w8 hr
       have HP := Lib.hid (ptOk_put hr (hk5.mono hB))
       obtain ⟨rfl, _, _⟩ := hr
       go_wp2_with fail
       go_end0
       exact rp_ok HS.out HP.out
theorem refer_any {C : Cf} {w : World} {a f : Nat} {T : Rw} (h : LX C w a f T) : Calls Tryz.prog 66 #[.pointer (some ⟨C.L, 0, none⟩)] w (RP C w (tkp.one f (C.p.refer f a)) (PtOk C w T)) := by
 rcases quotes_cases C.p a with ⟨q, hq⟩ | ⟨q, hq⟩ | ⟨q, hq⟩ | ⟨q, hq⟩
 · exact refer_0 h hq
 · exact refer_1 h hq
 · exact refer_2 h hq
 · exact refer_3 h hq
end Go.Proofs.YtkcmjcgjfjfimaaGreatDoor.tkw
end
