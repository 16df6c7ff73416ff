/- Texts that TreeCountsLaw leans on, merged: what the functions of the program answer. -/
import Derived.BigQuiet
import Derived.Deep.Cut
import Derived.Lib.QuietBelow
import Derived.Shelf.Abstract
import Derived.WalkMore
import Derived.Test.YtpjaahojoabgjaaBTr02
section
namespace Go.Proofs.Ytpjaahojoabgjaa.trw
open Go.Sort Go Go.RowKit trp
theorem start_world (w : World) (A B C D : Obj) : Below w.heap.size w ((((w.alloc A).alloc B).alloc C).alloc D) ∧ ((((w.alloc A).alloc B).alloc C).alloc D).heap[w.heap.size + 1]? = some B ∧ ((((w.alloc A).alloc B).alloc C).alloc D).heap[w.heap.size + 1 + 1]? = some C ∧ ((((w.alloc A).alloc B).alloc C).alloc D).heap[w.heap.size + 1 + 1 + 1]? = some D := by
 refine ⟨(((below_alloc w A).alloc (by simp) _).alloc (by simp; omega) _).alloc (by simp; omega) _, ?_, ?_, ?_⟩
 · rw [heap_alloc_old _ _ (by simp), heap_alloc_old _ _ (by simp)]
   have := heap_alloc_new (w.alloc A) B
   simpa using this
 · rw [heap_alloc_old _ _ (by simp)]
   have := heap_alloc_new ((w.alloc A).alloc B) C
   simpa using this
 · have := heap_alloc_new (((w.alloc A).alloc B).alloc C) D
   simpa using this
theorem rel_start {S : Type} {w0 w : World} {L : Lk S} {s0 : S} {x : Lab} {k : F} (hL : LookOk w0 L) (hn : NdAt w0 (x, k)) (hi : L.Inv 0 s0 w) (hw : Below w0.heap.size w0 w) {w4 : World} {t : TypeId}
   (h : Below w.heap.size w w4 ∧ w4.heap[w.heap.size + 1]? = some (.cells (ndC x).toArray t) ∧ w4.heap[w.heap.size + 1 + 1]? = some (.cells #[.slice (some ⟨w.heap.size + 1, 0, none⟩) 1 1] 23) ∧ w4.heap[w.heap.size + 1 + 1 + 1]? = some (.cells #[.int .i64 (0 : Nat)] 3)) :
   Rel w0 L s0 w (w.heap.size + 1) 0 [⟨.slice (some ⟨w.heap.size + 1, 0, none⟩) 1 1, .cons x k .nil, 0⟩] s0 (.slice (some ⟨w.heap.size + 1 + 1, 0, none⟩) 1 1) (.slice (some ⟨w.heap.size + 1 + 1 + 1, 0, none⟩) 1 1) w4 := by
 obtain ⟨hb, h1, h2, h3⟩ := h
 have low := fun k => hL.low 0 s0 w k hi
 refine ⟨fun i hi' => absurd hi' (Nat.not_lt_zero _), ⟨fun X hX => ?_, ⟨rfl, Or.inr ⟨_, 1, _, rfl, by omega, h2, Nat.le_refl _, by decide, rfl, rfl⟩⟩, ⟨rfl, Or.inr ⟨_, 1, _, rfl, by omega, h3, Nat.le_refl _, by decide, rfl, rfl⟩⟩⟩,
   hL.stable 0 s0 w w4 hi (fun k hk => hb.block k (low k hk).2) hb.size, hw.trans (hb.mono hw.size), ⟨hb.os, hb.tape, hb.output, hb.size, fun k hk _ => hb.block k hk, fun _ _ h => h⟩, ?_, ?_, fun ho => by have := (low _ ho).2; omega, ⟨by omega, ?_⟩, hw.size⟩
 · simp only [List.mem_cons, List.not_mem_nil, or_false] at hX
   subst hX
   refine ⟨⟨w.heap.size + 1, 0, 1, rfl, Nat.le_refl _, by omega, Or.inr rfl, fun i y k' r hd => ?_⟩, by show 0 < 1; omega⟩
   cases i with
   | succ i => cases i <;> cases hd
   | zero =>
     cases hd
     refine ⟨fun j v hj => ?_, hn⟩
     rw [cell_of_row _ _ _ _ _ _ h1]
     simpa using hj
 · intro b hb'
   simp only [Value.ownBlock, Option.some.injEq] at hb'
   exact ⟨fun ho => by have := (low _ ho).2; omega, by omega⟩
 · intro b hb'
   simp only [Value.ownBlock, Option.some.injEq] at hb'
   exact ⟨fun ho => by have := (low _ ho).2; omega, by omega⟩
 · exact (Array.getElem?_eq_some_iff.1 h1).1
theorem exec_load_nd {o : Oper} {ρ : Operand → Value} {x : Operand} (ho : o.op = .load 25 x) {b off : Nat} (hx : ρ x = .pointer (some ⟨b, off, none⟩)) {w : World} {l : Lab} (hc : ∀ j v, (ndC l)[j]? = some v → w.cell? ⟨b, off + j, none⟩ = some v) :
   (execOp ρ o).run Try.prog w = .ok (.value (ndV l)) w := by
 unfold execOp
 simp only [ho, hx, Instr.loadAt, Instr.sureAddr, Sem.run_bind, Sem.run_pure, Result.andThen_ok, run_load_nd w b off l hc]
theorem sizeNd (w : World) : (sizeOf 25).run Try.prog w = .ok 12 w := by kernel_rfl
theorem run_store_nd (w : World) (g : Nat) (old cs : Array Value) (hg : w.heap[g]? = some (.cells old 25 (0, 0))) (hs : old.size = 12) (hc : cs.size = 12) (h1 : ∀ u ∈ cs.toList, u.oneCell' = true) :
   (storeVar 25 ⟨g, 0, none⟩ (.agg cs)).run Try.prog w = .ok () (w.setRow g cs) := by
 have h := run_storeCells_at (P := Try.prog) g 0 25 cs.toList 0 old w hg (by simp; omega) h1
 have e : (old.toList.take (0 + 0) ++ cs.toList ++ old.toList.drop (0 + 0 + cs.toList.length)).toArray = cs := by
   have h2 : old.toList.drop (0 + 0 + cs.toList.length) = [] := List.drop_eq_nil_of_le (by simp; omega)
   rw [h2]
   simp
 rw [e] at h
 unfold storeVar
 simp [Sem.run_bind, Value.cells, hc, Result.andThen, h]
theorem held_store_nd {o : Oper} {a : Act} {W : World} {K : Act → World → Prop} {Q : Exit → Act → World → Prop} {ys : Nat → Option Bool} (hgd : o.guard = none) (hd : o.dst = none) (x y : Operand) (ho : o.op = .store 25 x y) {w : World} {old : Array Value}
   (hW : W = w.alloc (.cells old 25)) (hs : old.size = 12) (hx : a.eval x = .pointer (some ⟨w.heap.size, 0, none⟩)) (l : Lab) (h1 : ∀ u ∈ ndC l, u.oneCell' = true) (hy : a.eval y = ndV l)
   (h : ∀ W2, Below w.heap.size w W2 → W2.heap[w.heap.size]? = some (.cells (ndC l).toArray 25) → K a W2) :
   if Region.wanted o ys = true then Oper.wp Try.prog o a W K Q else K (a.put o.dst undef) W := by
 subst hW
 rw [if_pos (by unfold Region.wanted; rw [hgd])]
 have hn := heap_alloc_new w (.cells old 25)
 have hr := run_store_nd (w.alloc (.cells old 25)) w.heap.size old (ndC l).toArray hn hs rfl (by simpa using h1)
 have hy' : a.eval y = .agg (ndC l).toArray := hy
 unfold Oper.wp execOp
 simp only [ho, hx, hy', Instr.storeAt, Instr.sureAddr, Sem.run_bind, Sem.run_pure, Result.andThen_ok, hr]
 have hb := below_alloc w (.cells old 25)
 have := h ((w.alloc (.cells old 25)).setRow w.heap.size (ndC l).toArray) ⟨rfl, rfl, rfl, by simp [World.setRow], fun k hk => (setRow_other _ _ _ _ (by omega)).trans (hb.block k hk)⟩ (setRow_heap _ _ _ _ _ _ hn)
 simpa [Oper.upon, hd, Act.put] using this
theorem infoNs : (Try.prog.info? 23).map (fun i => (i.zero, i.size, i.bytes)) = some (some (.slice none 0 0), 1, 24) := by kernel_rfl
theorem infoInt : (Try.prog.info? 3).map (fun i => (i.zero, i.size, i.bytes)) = some (some (.int .i64 0), 1, 8) := by kernel_rfl
theorem path_at {w : World} {base g cap : Nat} {X : Fr} {lo : List Fr} (h : w.ownsRow base 3 1 (.slice (some ⟨g, 0, none⟩) (lo.length + 1) cap) (X :: lo).length (((X :: lo).map fun x => Value.int .i64 x.i).reverse)) (hc : lo.length + 1 ≤ cap) (hm : cap ≤ 9223372036854775807) :
   NsAt w (.slice (if cap = 1 then some ⟨g, 0, none⟩ else some ⟨g, 1, none⟩) lo.length (cap - 1)) (ways (X :: lo)).tail := by
 have hl : (ways (X :: lo)).tail.length = lo.length := by simp [ways]
 refine ⟨g, if cap = 1 then 0 else 1, cap - 1, by rw [hl]; split <;> rfl, by omega, by omega, fun i n hi => ?_⟩
 have hi2 : i < lo.length := by
   rw [← hl]
   exact (List.getElem?_eq_some_iff.1 hi).1
 rw [if_neg (by omega), World.ownsRow.cellAt h (1 + i) (by show 1 + i < (lo.length + 1) * 1; omega)]
 rw [List.getElem?_tail, Nat.add_comm] at hi
 have e : ((X :: lo).map fun x => Value.int .i64 x.i).reverse = (ways (X :: lo)).map fun n : Nat => Value.int .i64 n := by simp [ways, List.map_reverse]
 rw [e, List.getElem?_map, hi]
 rfl
theorem look_bel {S : Type} {w0 w wr w' : World} {L : Lk S} {s0 s s' : S} {N1 j : Nat} {fs : List Fr} {rv av : Value} (hL : LookOk w0 L) (h : Rel w0 L s0 w N1 j fs s rv av wr) (hc : Chg L.Own s s' wr w') : Below w0.heap.size w0 w' := by
 have hs := h.bel.size
 refine h.bel.trans ⟨hc.os, hc.tape, hc.output, hc.size, fun k hk => hc.block k (by omega) (fun ho => ?_)⟩
 have := (hL.low j s wr k h.inv ho).1
 omega
theorem at_kept {w w' : World} {b1 b2 : Nat} {v1 v2 : Value} {n1 n2 : Nat} {x1 x2 : List Value} (h1 : w.ownsRow b1 23 1 v1 n1 x1) (h2 : w.ownsRow b2 3 1 v2 n2 x2) (hg : w.grownBy w' v1.ownBlock) : w'.ownsRow b2 3 1 v2 n2 x2 :=
 ownsRow_heap h2 fun k hk => hg.block k (World.ownsRow.lt h2 k hk).2 (fun e => ob_apart h1 h2 (by decide) k e.symm hk)
theorem at_top {P : List (Nd × List Nat)} {j : Nat} {X : Fr} {lo : List Fr} {y : Lab} {k r : F} (h : P.drop j = remTop (X :: lo)) (hd : X.f.drop X.i = .cons y k r) : P[j]? = some ((y, k), ways (X :: lo)) ∧ P.drop (j + 1) = pre (ways (X :: lo)) 0 k ++ remLow (X :: lo) := by
 rw [remTop_cons hd] at h
 refine ⟨?_, ?_⟩
 · have : (P.drop j)[0]? = some ((y, k), ways (X :: lo)) := by rw [h]; rfl
   rw [List.getElem?_drop] at this
   exact this
 · rw [← List.drop_drop, h]
   rfl
theorem at_lt {α : Type} {P : List α} {j : Nat} {q : α} (h : P[j]? = some q) : j < P.length := (List.getElem?_eq_some_iff.1 h).1
theorem stop_max {S : Type} {L : Lk S} {q : Nd × List Nat} (yes : ∀ i, i < 4001 → L.ans i = true) (h : L.P[4001]? = some q) : Stopped L 4001 :=
 ⟨by omega, by omega, Nat.le_of_lt (at_lt h), fun i hi => yes i (by omega), Or.inr (Or.inl rfl)⟩
theorem stop_no {S : Type} {L : Lk S} {j : Nat} {q : Nd × List Nat} (yes : ∀ i, i < j → L.ans i = true) (h : L.P[j]? = some q) (hj : j < 4001) (ha : L.ans j = false) : Stopped L (j + 1) :=
 ⟨by omega, by omega, at_lt h, fun i hi => yes i (by omega), Or.inl ha⟩
theorem stop_end {S : Type} {L : Lk S} {j : Nat} {q : Nd × List Nat} (yes : ∀ i, i < j + 1 → L.ans i = true) (h : L.P[j]? = some q) (hj : j < 4001) (he : L.P.drop (j + 1) = []) : Stopped L (j + 1) := by
 have := at_lt h
 have h2 : L.P.length ≤ j + 1 := List.drop_eq_nil_iff.1 he
 exact ⟨by omega, by omega, by omega, fun i hi => yes i (by omega), Or.inr (Or.inr (by omega))⟩
set_option maxRecDepth 100000 in
set_option maxHeartbeats 4000000 in
theorem walk_any {S : Type} (w0 : World) (L : Lk S) (hL : LookOk w0 L) (x : Lab) (k : F) (w : World) (s0 : S) (hw : Below w0.heap.size w0 w) (hn : NdAt w0 (x, k)) (hP : L.P = preT (x, k)) (hi : L.Inv 0 s0 w) :
   Calls Try.prog 27 #[ndV x, .func (.func L.g) #[] L.lb] w (WalkPost w0 L s0 w) := by
 have eg := hL.eg
 have HLk := Lib.hid hL
 have HS := Lib.hid (fun w4 h => rel_start (w4 := w4) (t := 25) hL hn hi hw h)
 have HP := Lib.hid (show L.P = remTop [⟨.slice (some ⟨w.heap.size + 1, 0, none⟩) 1 1, .cons x k .nil, 0⟩] by rw [hP]; simp [preT, remTop, remLow, ways, F.drop])
 obtain ⟨sa, sc, hsv, _⟩ := hn.2.1
 obtain ⟨ka, kc, hkv, _⟩ := hn.2.2
 clear hL hn hi hw hP
 obtain ⟨xk, xa, xc, xs, xset, xneg, xn, xm, xmode, xname, xon, xoff, xkv⟩ := x
 simp only at hsv hkv
 subst hsv hkv
 go_enter Try.func27, Try.ntmps27
 unfold ndV
 go_wp2_with fail
 go_step3
 go_wp2_with fail
 go_step3
 go_wp2_with fail
 generalize hg : (((w.alloc _).alloc _).alloc _).alloc _ = w4
 have hst := HS.out w4 (by rw [← hg]; exact start_world w _ _ _ _)
 clear hg
 generalize w.heap.size + 1 = N1 at *
 generalize Value.slice (some ⟨N1 + 1, 0, none⟩) 1 1 = rv0 at *
 generalize Value.slice (some ⟨N1 + 1 + 1, 0, none⟩) 1 1 = av0 at *
 have HST := Lib.hid hst
 clear hst HS
 go_loopw [4, 5, 12] (fun rv av cv wr => ∃ (j : Nat) (fs : List Fr) (s : S), cv = .int .i64 j ∧ j ≤ 4001 ∧ fs ≠ [] ∧ fs.length ≤ j + 1 ∧ Hid (L.P.drop j = remTop fs) ∧ Hid (Rel w0 L s0 w N1 j fs s rv av wr)) (fun _ _ cv _ => 4001 - (intOf cv).toNat)
 case atStart => exact ⟨0, _, s0, rfl, by omega, by simp, by simp, HP, HST⟩
 case round =>
   obtain ⟨j, fs, s, rfl, hj, hne, hfl, HR, HL⟩ := hrel
   obtain ⟨X, lo, rfl⟩ : ∃ X lo, fs = X :: lo := by
     cases fs with
     | nil => exact absurd rfl hne
     | cons X lo => exact ⟨X, lo, rfl⟩
   clear hne
   obtain ⟨y, k', r, hdr⟩ := drop_lt (HL.out.op.row X (by simp)).2
   obtain ⟨hq, hrest⟩ := at_top HR.out hdr
   by_cases hend : j = 4001
   · subst hend
     have HQ := Lib.hid (stop_max HL.out.yes hq)
     go_wp2_with fail
     go_end0
     exact ⟨rfl, 4001, s, HQ.out, HL.out.inv, HL.out.chg, HL.out.bel⟩
   have hlt : j < 4001 := by omega
   have HQ := Lib.hid hq
   have HT := Lib.hid hrest
   have HD := Lib.hid hdr
   clear hq hrest HR
   obtain ⟨g, cap, rfl, hg0, hg1, hc0, hc1⟩ := own_form (n := lo.length) HL.out.op.rows
   obtain ⟨g2, cap2, rfl, hg20, hg21, hc20, hc21⟩ := own_form (n := lo.length) HL.out.op.at_
   have e1 : wr.cell? ⟨g, lo.length, none⟩ = some X.kv := by
     rw [World.ownsRow.cellAt HL.out.op.rows lo.length (by simp)]
     simp
   have e2 : wr.cell? ⟨g2, lo.length, none⟩ = some (.int .i64 X.i) := by
     rw [World.ownsRow.cellAt HL.out.op.at_ lo.length (by simp)]
     simp
   obtain ⟨b, o, cap3, hkv, hl3, hl4, _, hcs⟩ := (HL.out.op.row X (by simp)).1
   have hXi := (HL.out.op.row X (by simp)).2
   rw [hkv] at e1
   have hnd : NdAt w0 (y, k') := (hcs _ _ _ _ hdr).2
   have HC := Lib.hid ((hcs _ _ _ _ hdr).1)
   have HN := Lib.hid hnd
   have E1 := Lib.hid e1
   have E2 := Lib.hid e2
   have HG := Lib.hid (And.intro hg0 (And.intro hg1 (And.intro hg20 hg21)))
   clear hcs hdr hkv hnd e1 e2 hg0 hg1 hg20 hg21
   obtain ⟨i, hi⟩ : ∃ i, X.i = i := ⟨_, rfl⟩
   obtain ⟨m, hm⟩ : ∃ m, X.f.len = m := ⟨_, rfl⟩
   rw [hi] at hXi E2 HC
   rw [hm] at hXi E1 hl3
   have hnI : ((lo.length + 1 : Nat) : Int) - 1 = lo.length := by omega
   go_wp2_with fail
   refine wp_region_held_drew (S := fun w' => Below wr.heap.size wr w') (by kernel_rfl) (below_drew wr) (fun hHeld => ?_)
   have l1 : (lo.length : Int) < (lo.length : Int) + 1 := by omega
   have l2 : (i : Int) < (m : Int) := by omega
   have a1 := add_plain g 0 lo.length
   have a2 := add_plain g2 0 lo.length
   rw [Nat.zero_add] at a1 a2
   have a3 := add_row b o i 12
   refine wpAnyH_take (i := 0) (v := ?_) rfl (by kernel_rfl) (by kernel_rfl) (by kernel_rfl) (fun _ _ _ h => h) (Or.inl ⟨by rfl, ?_⟩) (by assumption) ?_
   rotate_left
   · intro w' hSw
     have e1 := below_cell hSw E1.out
     have e2 := below_cell hSw E2.out
     go_simp
     try rfl
   simp only [Act.put, List.setIfInBounds_toArray, List.set_cons_zero, List.set_cons_succ, List.getElem_toArray, List.getElem_cons_zero]
   refine wpAnyH_take (i := 1) (v := ?_) rfl (by kernel_rfl) (by kernel_rfl) (by kernel_rfl) (fun _ _ _ h => h) (Or.inl ⟨by rfl, ?_⟩) (by assumption) ?_
   rotate_left
   · intro w' hSw
     have e1 := below_cell hSw E1.out
     have e2 := below_cell hSw E2.out
     go_simp
     try rfl
   simp only [Act.put, List.setIfInBounds_toArray, List.set_cons_zero, List.set_cons_succ, List.getElem_toArray, List.getElem_cons_succ, List.getElem_cons_zero]
   refine wpAnyH_take (i := 2) (v := ?_) rfl (by kernel_rfl) (by kernel_rfl) (by kernel_rfl) (fun _ _ _ h => h) (Or.inl ⟨by rfl, ?_⟩) (by assumption) ?_
   rotate_left
   · intro w' hSw
     have e1 := below_cell hSw E1.out
     have e2 := below_cell hSw E2.out
     go_simp
     try rfl
   simp only [Act.put, List.setIfInBounds_toArray, List.set_cons_zero, List.set_cons_succ, List.getElem_toArray, List.getElem_cons_succ, List.getElem_cons_zero]
   refine wpAnyH_take (i := 3) (v := ?_) rfl (by kernel_rfl) (by kernel_rfl) (by kernel_rfl) (fun _ _ _ h => h) (Or.inl ⟨by rfl, ?_⟩) (by assumption) ?_
   rotate_left
   · intro w' hSw
     have e1 := below_cell hSw E1.out
     have e2 := below_cell hSw E2.out
     go_simp
     try rfl
   simp only [Act.put, List.setIfInBounds_toArray, List.set_cons_zero, List.set_cons_succ, List.getElem_toArray, List.getElem_cons_succ, List.getElem_cons_zero]
   refine wpAnyH_take (i := 4) (v := ?_) rfl (by kernel_rfl) (by kernel_rfl) (by kernel_rfl) (fun _ _ _ h => h) (Or.inl ⟨by rfl, ?_⟩) (by assumption) ?_
   rotate_left
   · intro w' hSw
     have e1 := below_cell hSw E1.out
     have e2 := below_cell hSw E2.out
     go_simp
     try rfl
   simp only [Act.put, List.setIfInBounds_toArray, List.set_cons_zero, List.set_cons_succ, List.getElem_toArray, List.getElem_cons_succ, List.getElem_cons_zero]
   refine wpAnyH_take (i := 5) (v := ?_) rfl (by kernel_rfl) (by kernel_rfl) (by kernel_rfl) (fun _ _ _ h => h) (Or.inl ⟨by rfl, ?_⟩) (by assumption) ?_
   rotate_left
   · intro w' hSw
     have e1 := below_cell hSw E1.out
     have e2 := below_cell hSw E2.out
     go_simp
     try rfl
   simp only [Act.put, List.setIfInBounds_toArray, List.set_cons_zero, List.set_cons_succ, List.getElem_toArray, List.getElem_cons_succ, List.getElem_cons_zero]
   refine wpAnyH_take (i := 6) (v := ?_) rfl (by kernel_rfl) (by kernel_rfl) (by kernel_rfl) (fun _ _ _ h => h) (Or.inl ⟨by rfl, ?_⟩) (by assumption) ?_
   rotate_left
   · intro w' hSw
     have e1 := below_cell hSw E1.out
     have e2 := below_cell hSw E2.out
     go_simp
     try rfl
   simp only [Act.put, List.setIfInBounds_toArray, List.set_cons_zero, List.set_cons_succ, List.getElem_toArray, List.getElem_cons_succ, List.getElem_cons_zero]
   refine wpAnyH_take (i := 7) (v := ?_) rfl (by kernel_rfl) (by kernel_rfl) (by kernel_rfl) (fun _ _ _ h => h) (Or.inl ⟨by rfl, ?_⟩) (by assumption) ?_
   rotate_left
   · intro w' hSw
     have e1 := below_cell hSw E1.out
     have e2 := below_cell hSw E2.out
     go_simp
     try rfl
   simp only [Act.put, List.setIfInBounds_toArray, List.set_cons_zero, List.set_cons_succ, List.getElem_toArray, List.getElem_cons_succ, List.getElem_cons_zero]
   refine wpAnyH_take (i := 8) (v := ?_) rfl (by kernel_rfl) (by kernel_rfl) (by kernel_rfl) (fun _ _ _ h => h) (Or.inl ⟨by rfl, ?_⟩) (by assumption) ?_
   rotate_left
   · intro w' hSw
     have e1 := below_cell hSw E1.out
     have e2 := below_cell hSw E2.out
     go_simp
     try rfl
   simp only [Act.put, List.setIfInBounds_toArray, List.set_cons_zero, List.set_cons_succ, List.getElem_toArray, List.getElem_cons_succ, List.getElem_cons_zero]
   refine wpAnyH_take (i := 9) (v := ?_) rfl (by kernel_rfl) (by kernel_rfl) (by kernel_rfl) (fun _ _ _ h => h) (Or.inl ⟨by rfl, ?_⟩) (by assumption) ?_
   rotate_left
   · intro w' hSw
     refine exec_load_nd (x := .tmp 25) (b := b) (off := o + i * 12) (l := y) ?_ ?_ (fun j v hj => below_cell hSw (HC.out j v hj)) <;> rfl
   simp only [Act.put, List.setIfInBounds_toArray, List.set_cons_zero, List.set_cons_succ, List.getElem_toArray, List.getElem_cons_succ, List.getElem_cons_zero]
   refine wpAnyH_ready (rs := [10]) (by kernel_rfl) (by simp) ?_
   refine AllReadyH.cons rfl (fun K hK => ?_) AllReadyH.nil
   go_simp
   refine hK.out _ _ (below_alloc wr _).drew (fun hHeld => ?_)
   clear hK K
   try simp only [Act.put, List.setIfInBounds_toArray, List.set_cons_zero, List.set_cons_succ, List.getElem_toArray, List.getElem_cons_succ, List.getElem_cons_zero]
   refine wpAnyH_ready (rs := [11]) (by kernel_rfl) (by simp) ?_
   refine AllReadyH.cons rfl (fun K hK => ?_) AllReadyH.nil
   refine held_store_nd (w := wr.drew) rfl rfl _ _ rfl rfl rfl rfl y (node_one HN.out) rfl ?_
   intro W2 hb2 hB2
   have hbw : Below wr.heap.size wr W2 := (below_drew wr).trans hb2
   refine hK.out _ _ hbw (fun hHeld => ?_)
   clear hK K
   try simp only [Act.put, List.setIfInBounds_toArray, List.set_cons_zero, List.set_cons_succ, List.getElem_toArray, List.getElem_cons_succ, List.getElem_cons_zero]
   refine wpAnyH_done (by kernel_rfl) ?_ _
   have hB2' : W2.heap[wr.heap.size]? = some (.cells (ndC y).toArray 25) := hB2
   have HL2 := Lib.hid (rel_below HLk.out HL.out hbw)
   have HBn := Lib.hid (show ∀ s', L.Own s s' → s' ≠ wr.heap.size from fun k hk => by
     have := (HLk.out.low j s wr k HL.out.inv hk).2
     omega)
   have HB2 := Lib.hid hB2'
   have HG2 := Lib.hid (show w.heap.size ≤ wr.heap.size by have := HG.out; omega)
   clear hB2 hB2' hbw hb2 hHeld HC E1 E2 HL HG a1 a2 a3
   generalize wr.heap.size = B at *
   go_wp2_with fail
   refine wp_region_held_drew (S := fun w' => w'.heap[B]? = some (.cells (ndC y).toArray 25)) (by kernel_rfl) HB2.out (fun hHeld => ?_)
   have c1 : (1 : Int) ≤ (lo.length : Int) + 1 := by omega
   refine wpAnyH_take (i := 0) (v := ?_) rfl (by kernel_rfl) (by kernel_rfl) (by kernel_rfl) (fun _ _ _ h => h) (Or.inl ⟨by rfl, ?_⟩) (by assumption) ?_
   rotate_left
   · intro w' hSw
     go_simp
     try rfl
   simp only [Act.put, List.setIfInBounds_toArray, List.set_cons_zero, List.set_cons_succ, List.getElem_toArray, List.getElem_cons_zero]
   refine wpAnyH_take (i := 1) (v := ?_) rfl (by kernel_rfl) (by kernel_rfl) (by kernel_rfl) (fun _ _ _ h => h) (Or.inl ⟨by rfl, ?_⟩) (by assumption) ?_
   rotate_left
   · intro w' hSw
     refine exec_load_nd (x := .tmp 7) (b := B) (off := 0) (l := y) ?_ ?_ (fun j v hj => by rw [cell_of_row _ _ _ _ _ _ hSw, Nat.zero_add]; simpa using hj) <;> rfl
   simp only [Act.put, List.setIfInBounds_toArray, List.set_cons_zero, List.set_cons_succ, List.getElem_toArray, List.getElem_cons_succ, List.getElem_cons_zero]
   refine wpAnyH_take (i := 2) (v := ?_) rfl (by kernel_rfl) (by kernel_rfl) (by kernel_rfl) (fun _ _ _ h => h) (Or.inl ⟨by rfl, ?_⟩) (by assumption) ?_
   rotate_left
   · intro w' hSw
     go_simp
     try rfl
   simp only [Act.put, List.setIfInBounds_toArray, List.set_cons_zero, List.set_cons_succ, List.getElem_toArray, List.getElem_cons_succ, List.getElem_cons_zero]
   refine wpAnyH_take (i := 3) (v := ?_) rfl (by kernel_rfl) (by kernel_rfl) (by kernel_rfl) (fun _ _ _ h => h) (Or.inl ⟨by rfl, ?_⟩) (by assumption) ?_
   rotate_left
   · intro w' hSw
     go_simp
     try rfl
   simp only [Act.put, List.setIfInBounds_toArray, List.set_cons_zero, List.set_cons_succ, List.getElem_toArray, List.getElem_cons_succ, List.getElem_cons_zero]
   have hb3 := below_drew W2
   have HL3 := Lib.hid (rel_below HLk.out HL2.out hb3)
   have hpp := path_at HL3.out.op.at_ hc20 hc21
   generalize (if cap2 = 1 then (some ⟨g2, 0, none⟩ : Option Addr) else some ⟨g2, 1, none⟩) = pa at hpp ⊢
   have HCall := Lib.hid (HLk.out.call j _ s W2.drew _ HQ.out hlt HL3.out.yes HL3.out.inv HL3.out.bel (below_nd HL3.out.bel HN.out) hpp)
   clear hb3 hpp
   refine wpAnyH_ready (rs := [4]) (by kernel_rfl) (by simp) ?_
   refine AllReadyH.cons rfl (fun K hK => ?_) AllReadyH.nil
   go_simp
   refine HCall.out.mono ?_
   rintro e w3 ⟨rfl, s', hi3, hc3⟩
   have hB3 : w3.heap[B]? = some (.cells (ndC y).toArray 25) := (hc3.block B (Array.getElem?_eq_some_iff.1 hHeld).1 (fun ho => HBn.out _ ho rfl)).trans hHeld
   refine hK.out _ _ hB3 (fun hHeld => ?_)
   clear hK K
   try simp only [Act.put, List.setIfInBounds_toArray, List.set_cons_zero, List.set_cons_succ, List.getElem_toArray, List.getElem_cons_succ, List.getElem_cons_zero]
   refine wpAnyH_take (i := 5) (v := ?_) rfl (by kernel_rfl) (by kernel_rfl) (by kernel_rfl) (fun _ _ _ h => h) (Or.inl ⟨by rfl, ?_⟩) (by assumption) ?_
   rotate_left
   · intro w' hSw
     go_simp
     try rfl
   simp only [Act.put, List.setIfInBounds_toArray, List.set_cons_zero, List.set_cons_succ, List.getElem_toArray, List.getElem_cons_succ, List.getElem_cons_zero]
   refine wpAnyH_done (by kernel_rfl) ?_ _
   cases hans : L.ans j with
   | false =>
     have HQ2 := Lib.hid (stop_no HL3.out.yes HQ.out hlt hans)
     have HE := Lib.hid (And.intro hi3 (And.intro (chg_trans HL3.out.chg hc3) (look_bel HLk.out HL3.out hc3)))
     clear hi3 hc3
     go_wp2_with fail
     go_end0
     exact ⟨rfl, j + 1, s', HQ2.out, HE.out⟩
   | true =>
     have HL4 := Lib.hid (rel_call HLk.out HL3.out hi3 hc3 hans)
     clear hi3 hc3 HL3 HL2 HCall HBn HB2 HG2
     obtain ⟨ya, yc, hykv⟩ := kids_len HN.out.2.2
     have hcell : ∀ v, (ndC y)[11]? = some v → w3.cell? ⟨B, 11, none⟩ = some v := fun v hv => by
       rw [cell_of_row _ _ _ _ _ _ hB3]
       simpa using hv
     have k11 := hcell _ rfl
     simp only at hykv
     rw [hykv] at k11
     clear hcell hB3 hHeld
     by_cases hk0 : k'.len = 0
     · have hT : L.P.drop (j + 1) = remLow (X :: lo) := by
         rw [HT.out]
         have : k' = .nil := by have := drop_end (f := k') (i := 0) (by omega); rwa [drop_zero] at this
         rw [this]
         rfl
       have HT2 := Lib.hid hT
       clear hT HT
       rw [hk0] at k11
       go_wp2_with fail
       have hfl0 := hfl
       clear HD hfl
       go_loopw [4, 5, 6] (fun rv av lv wz => ∃ (X : Fr) (lo : List Fr), lv = .int .i64 lo.length ∧ lo.length ≤ j ∧ Hid (L.P.drop (j + 1) = remLow (X :: lo)) ∧ Hid (Rel w0 L s0 w N1 (j + 1) (X :: lo) s' rv av wz)) (fun _ _ lv _ => (intOf lv).toNat)
       case atStart => exact ⟨X, lo, rfl, by simp only [List.length_cons] at hfl0; omega, HT2, HL4⟩
       case round =>
         clear HT2 HL4
         obtain ⟨X, lo, rfl, hll, HT, HL⟩ := hrel
         obtain ⟨g, cap, rfl, _, _, hc0, hc1⟩ := own_form (n := lo.length) HL.out.op.rows
         obtain ⟨g2, cap2, rfl, _, _, hc20, hc21⟩ := own_form (n := lo.length) HL.out.op.at_
         have e1 : wr.cell? ⟨g, lo.length, none⟩ = some X.kv := by
           rw [World.ownsRow.cellAt HL.out.op.rows lo.length (by simp)]
           simp
         have e2 : wr.cell? ⟨g2, lo.length, none⟩ = some (.int .i64 X.i) := by
           rw [World.ownsRow.cellAt HL.out.op.at_ lo.length (by simp)]
           simp
         obtain ⟨b, o, cap3, hkv, hl3, hl4, _, _⟩ := (HL.out.op.row X (by simp)).1
         have hXi := (HL.out.op.row X (by simp)).2
         rw [hkv] at e1
         have k1 := cell_regrown e1
         have k2 := cell_regrown e2
         have l1 : (lo.length : Int) < (lo.length : Int) + 1 := by omega
         have l0 : (0 : Int) ≤ (lo.length : Int) := by omega
         have a1 := add_plain g 0 lo.length
         have a2 := add_plain g2 0 lo.length
         rw [Nat.zero_add] at a1 a2
         obtain ⟨m, hm⟩ : ∃ m, X.f.len = m := ⟨_, rfl⟩
         obtain ⟨i, hi⟩ : ∃ i, X.i = i := ⟨_, rfl⟩
         rw [hi] at hXi k2
         rw [hm] at hXi k1 hl3
         clear hkv e1 e2
         by_cases hE : i + 1 = m
         · have hq : (((i : Int) + 1) == (m : Int)) = true := by simp; omega
           go_wp2_with fail
           refine wp_region_quiet_below (by kernel_rfl) (by kernel_rfl) ?_
           repeat (go_big_quiet_step (fail))
           refine wpQuiet_nil ?_
           intro _ hw'
           obtain ⟨⟨dq, osq⟩, hw''⟩ := hw'
           subst hw''
           have HLq := Lib.hid (rel_below HLk.out HL.out (below_regrown wr dq osq))
           clear HL k1 k2
           generalize grow (redrawn wr dq) osq = wq at *
           cases lo with
           | nil =>
             have HE := Lib.hid (show L.P.drop (j + 1) = [] by rw [HT.out, remLow_end (by omega)]; rfl)
             have HQ2 := Lib.hid (stop_end HLq.out.yes HQ.out hlt HE.out)
             go_wp2_with fail
             go_end0
             exact ⟨rfl, j + 1, s', HQ2.out, HLq.out.inv, HLq.out.chg, HLq.out.bel⟩
           | cons Y lo =>
             have HT' := Lib.hid (show L.P.drop (j + 1) = remLow (Y :: lo) by rw [HT.out, remLow_end (by omega)])
             have hz : (((Y :: lo).length : Int) == 0) = false := by simp; omega
             have hl' : (Y :: lo).length = lo.length + 1 := rfl
             simp only [hl'] at *
             have HLc := Lib.hid (rel_cut HLk.out HLq.out)
             clear HT HLq
             have l5 : ((lo.length + 1 : Nat) : Int) ≤ (cap : Int) := by omega
             have l6 : ((lo.length + 1 : Nat) : Int) ≤ (cap2 : Int) := by omega
             go_wp2_with fail
             refine wp_region_quiet_below (by kernel_rfl) (by kernel_rfl) ?_
             repeat (go_big_quiet_step (fail))
             refine wpQuiet_nil ?_
             intro _ hw'
             obtain ⟨⟨dq, osq⟩, hw''⟩ := hw'
             subst hw''
             have HLd := Lib.hid (rel_below HLk.out HLc.out (below_regrown wq dq osq))
             clear HLc
             go_wp2_with fail
             go_roundw
             case rel => exact ⟨Y, lo, by go_num, by omega, HT', HLd⟩
             case measure => simp [intOf]
         · have hq : (((i : Int) + 1) == (m : Int)) = false := by simp; omega
           go_wp2_with fail
           refine wp_region_quiet_below (by kernel_rfl) (by kernel_rfl) ?_
           repeat (go_big_quiet_step (fail))
           refine wpQuiet_nil ?_
           intro _ hw'
           obtain ⟨⟨dq, osq⟩, hw''⟩ := hw'
           subst hw''
           have HLq := Lib.hid (rel_below HLk.out HL.out (below_regrown wr dq osq))
           have f1 := k2 dq osq
           have f2 := World.ownsRow.frozenAt HLq.out.op.at_ lo.length
           clear HL k1 k2
           generalize grow (redrawn wr dq) osq = wq at *
           have HLn := rel_next HLk.out HLq.out (by omega)
           rw [show ((X.i + 1 : Nat) : Int) = (i : Int) + 1 by omega] at HLn
           have HLn := Lib.hid HLn
           have HTn := Lib.hid (show L.P.drop (j + 1) = remTop ({ X with i := X.i + 1 } :: lo) by rw [HT.out, remLow_next])
           clear HT HLq
           go_wp2_with fail
           go_roundw
           case rel => exact ⟨j + 1, _, s', by go_num, by omega, by simp, by simp only [List.length_cons]; omega, HTn, HLn⟩
           case measure => simp [intOf]; omega
     · have hkp : (0 : Int) < (k'.len : Int) := by omega
       have HT2 := Lib.hid (show L.P.drop (j + 1) = remTop (⟨y.kv, k', 0⟩ :: X :: lo) by rw [HT.out, remTop_push])
       have HR4 := Lib.hid HL4.out.op.rows
       have HA4 := Lib.hid (fun w' hg => at_kept (w' := w') HL4.out.op.rows HL4.out.op.at_ hg)
       have hw3 := Lib.hid HL4.out.chg.size
       have hll : lo.length ≤ 4001 := by
         simp only [List.length_cons] at hfl
         omega
       clear HT
       go_wp2_with (at_builtin; first
         | (refine wpList_append_1 rfl _ _ 44 23 (.slice none 0 0) 24 Try.underlying44 infoNs rfl (by decide) rfl w.heap.size _ _ _ rfl HR4.out _ rfl _ rfl rfl (by omega) hw3.out ?_; intro v1 w4' o1 g1 a1; have HO1 := Lib.hid o1; have HG1 := Lib.hid g1; have HA1 := Lib.hid a1; have HA5 := Lib.hid (HA4.out _ g1); have hw4 := Lib.hid (Nat.le_trans hw3.out g1.size); clear o1 g1 a1)
         | (refine wpList_append_1 rfl _ _ 31 3 (.int .i64 0) 8 Try.underlying31 infoInt rfl (by decide) rfl w.heap.size _ _ _ rfl HA5.out _ rfl _ rfl rfl (by omega) hw4.out ?_; intro v2 w5 o2 g2' a2; have HO2 := Lib.hid o2; have HG2 := Lib.hid g2'; have HA2 := Lib.hid a2; clear o2 g2' a2))
       have HL5 := Lib.hid (rel_push HLk.out HL4.out HD.out (by omega) (by rw [hykv]; exact HO1.out) HG1.out HA1.out HO2.out HG2.out HA2.out)
       go_roundw
       case rel => exact ⟨j + 1, _, s', by go_num, by omega, by simp, by simp only [List.length_cons] at hfl ⊢; omega, HT2, HL5⟩
       case measure => simp [intOf]; omega
end Go.Proofs.Ytpjaahojoabgjaa.trw
end
section
namespace Go.Proofs.Ytpjaahojoabgjaa.trw
open Go Go.RowKit trp
theorem heap_set {w : World} {L o : Nat} {C : Array Value} {T : TypeId} {fz : Nat × Nat} {v : Value} (h : w.heap[L]? = some (.cells C T fz)) : (w.setCell ⟨L, o, none⟩ v).heap[L]? = some (.cells (C.setIfInBounds o v) T fz) := by
 simp [World.setCell, Array.getElem?_modify, h]
def One (w : World) (B : Nat) (v : Value) (t : TypeId) : Prop := w.heap[B]? = some (.cells #[v] t (0, 0))
theorem One.cell {w : World} {B : Nat} {v : Value} {t : TypeId} (h : One w B v t) : w.cell? ⟨B, 0, none⟩ = some v := by simp [World.cell?, show w.heap[B]? = _ from h]
theorem One.frz {w : World} {B : Nat} {v : Value} {t : TypeId} (h : One w B v t) : w.frozen? ⟨B, 0, none⟩ = false := by simp [World.frozen?, show w.heap[B]? = _ from h]
theorem One.lt {w : World} {B : Nat} {v : Value} {t : TypeId} (h : One w B v t) : B < w.heap.size := (Array.getElem?_eq_some_iff.1 h).1
theorem One.below {w w' : World} {B : Nat} {v : Value} {t : TypeId} (h : One w B v t) (hb : Below w.heap.size w w') : One w' B v t := (hb.block B h.lt).trans h
theorem One.set {w : World} {B : Nat} {v : Value} {t : TypeId} (h : One w B v t) (u : Value) : One (w.setCell ⟨B, 0, none⟩ u) B u t := by
 unfold One
 rw [heap_set h]
 rfl
theorem One.other {w : World} {B C : Nat} {v : Value} {t : TypeId} (h : One w B v t) (u : Value) (hne : B ≠ C) : One (w.setCell ⟨C, 0, none⟩ u) B v t := (Below.heap_setCell w ⟨C, 0, none⟩ u B hne).trans h
theorem chg_set {S : Type} {Own : S → Nat → Prop} {s s' : S} {w w1 : World} (hb : Below w.heap.size w w1) {B : Nat} (hB : Own s B) (ho : ∀ k, k < w.heap.size → Own s' k → Own s k) (v : Value) : Chg Own s s' w (w1.setCell ⟨B, 0, none⟩ v) :=
 ⟨hb.os, hb.tape, hb.output, by rw [World.size_setCell]; exact hb.size, fun k hk hn => (Below.heap_setCell w1 ⟨B, 0, none⟩ v k (fun e => hn (e ▸ hB))).trans (hb.block k hk), ho⟩
def SetPost (r : Bool) (B : Nat) (v : Value) (w : World) (e : Ending) (w' : World) : Prop := e = .returned (.bool r) ∧ ∃ w1, Below w.heap.size w w1 ∧ w' = w1.setCell ⟨B, 0, none⟩ v
def ansP (P : List (Nd × List Nat)) (f : Nd × List Nat → Bool) (i : Nat) : Bool := ((P[i]?).map f).getD true
theorem ansP_at {P : List (Nd × List Nat)} {f : Nd × List Nat → Bool} {i : Nat} {q : Nd × List Nat} (h : P[i]? = some q) : ansP P f i = f q := by unfold ansP; rw [h]; rfl
def lastP (P : List (Nd × List Nat)) (f : Nd × List Nat → Bool) : Nat → Bool
 | 0 => true
 | i + 1 => ansP P f i
set_option maxHeartbeats 1000000 in
theorem check1_any {y : Lab} {k : F} {w : World} (pv : Value) {B : Nat} {b0 : Bool} (hn : NdAt w (y, k)) (hB : One w B (.bool b0) 4) :
   Calls Try.prog 36 #[ndV y, pv, .pointer (some ⟨B, 0, none⟩)] w (SetPost (mayP (y, k)) B (.bool (mayP (y, k))) w) := by
 have HF := Lib.hid (fun w1 (hb : Below w.heap.size w w1) => fits_any y k w1 (below_nd hb hn))
 obtain ⟨sa, sc, hsv, _⟩ := hn.2.1
 obtain ⟨ka, kc, hkv, _⟩ := hn.2.2
 have HB := Lib.hid hB
 obtain ⟨r, hr⟩ : ∃ r, mayP (y, k) = r := ⟨_, rfl⟩
 rw [hr] at HF ⊢
 clear hn hB hr
 obtain ⟨xk, xa, xc, xs, xset, xneg, xn, xm, xmode, xname, xon, xoff, xkv⟩ := y
 simp only at hsv hkv
 subst hsv hkv
 unfold ndV at *
 go_enter Try.func36, Try.ntmps36
 go_wp2_with fail
 refine (HF.out _ (below_alloc w _)).mono ?_
 rintro e w1 ⟨rfl, hb1⟩
 have hw1 := below_box hb1
 have hB1 := HB.out.below hw1
 have c1 := hB1.cell
 have c2 := hB1.frz
 go_wp2_with fail
 go_ret
 exact ⟨rfl, w1, hw1, rfl⟩
set_option maxHeartbeats 1000000 in
theorem depth1_any {y : Lab} {w : World} {a : Option Addr} {n cap : Nat} {B d : Nat} (hB : One w B (.int .i64 d) 3) (hn : n ≤ 5000) (hd : d ≤ 5000) (sa : Option Addr) (sl sc : Nat) (ka : Option Addr) (kl kc : Nat) (hsv : y.sv = .slice sa sl sc) (hkv : y.kv = .slice ka kl kc) :
   Calls Try.prog 28 #[ndV y, .slice a n cap, .pointer (some ⟨B, 0, none⟩)] w (SetPost (decide (max d (n + 1) ≤ 300)) B (.int .i64 (max d (n + 1) : Nat)) w) := by
 have HB := Lib.hid hB
 have hw := Lib.hid (below_alloc w (.cells (ndC y).toArray 25))
 have HBa := Lib.hid (hB.below (below_alloc w (.cells (ndC y).toArray 25)))
 clear hB
 obtain ⟨xk, xa, xc, xs, xset, xneg, xn, xm, xmode, xname, xon, xoff, xkv⟩ := y
 simp only at hsv hkv
 subst hsv hkv
 unfold ndV
 unfold ndC at *
 rcases Nat.lt_or_ge d (n + 1) with hm | hm
 · have e : max d (n + 1) = n + 1 := by omega
   have hI : ¬ ((n : Int) + 1 ≤ (d : Int)) := by omega
   rw [e]
   have e2 : ((n + 1 : Nat) : Int) = (n : Int) + 1 := by omega
   have e3 : decide (n + 1 ≤ 300) = decide ((n : Int) + 1 ≤ 300) := decide_eq_decide.2 (by omega)
   rw [e2, e3]
   clear e e2 e3
   go_enter Try.func28, Try.ntmps28
   have c1 := HBa.out.cell
   have c2 := HBa.out.frz
   go_wp2_with fail
   go_ret
   exact ⟨rfl, _, hw.out, rfl⟩
 · have e : max d (n + 1) = d := by omega
   have hI : (n : Int) + 1 ≤ (d : Int) := by omega
   rw [e]
   have e3 : decide (d ≤ 300) = decide ((d : Int) ≤ 300) := decide_eq_decide.2 (by omega)
   rw [e3]
   clear e e3
   go_enter Try.func28, Try.ntmps28
   have c1 := HBa.out.cell
   have c2 := HBa.out.frz
   go_wp2_with fail
   go_ret
   exact ⟨rfl, _, hw.out, rfl⟩
set_option maxHeartbeats 400000 in
theorem size1_any (y : Lab) (k : F) (w : World) (_hn : NdAt w (y, k)) : Calls Try.prog 25 #[ndV y] w (BoolB true w) := by
 clear _hn
 unfold ndV
 go_enter Try.func25, Try.ntmps25
 go_wp2_with fail
 go_ret
 exact ⟨rfl, below_alloc w _⟩
set_option maxHeartbeats 400000 in
theorem caps1_any (y : Lab) (k : F) (w : World) (_hn : NdAt w (y, k)) : Calls Try.prog 35 #[ndV y] w (BoolB (isCap (y, k)) w) := by
 clear _hn
 obtain ⟨r, hr⟩ : ∃ r, y.kind = r := ⟨_, rfl⟩
 have HR := Lib.hid (show isCap (y, k) = (r == 14) by unfold isCap; rw [hr]; exact (Bool.eq_iff_iff.2 (by simp)))
 unfold ndV
 rw [hr]
 clear hr
 go_enter Try.func35, Try.ntmps35
 go_wp2_with fail
 go_ret
 exact ⟨by rw [HR.out]; rfl, below_alloc w _⟩
def AddPost (r : Bool) (B c : Nat) (w : World) (e : Ending) (w' : World) : Prop := e = .returned (.bool true) ∧ ∃ w1, Below w.heap.size w w1 ∧ (r = true ∧ w' = w1.setCell ⟨B, 0, none⟩ (.int .i64 (c + 1 : Nat)) ∨ r = false ∧ w' = w1)
set_option maxHeartbeats 1000000 in
theorem count1_any {y : Lab} {k : F} {w : World} (pv : Value) {Bi Bn c g : Nat} {r : Bool} (eg : ∀ args w, (callFunc g args).run Try.prog w = .ok (.enter g args) w) (his : ∀ w1, Below w.heap.size w w1 → Calls Try.prog g #[ndV y] w1 (BoolB r w1))
   (hn : NdAt w (y, k)) (hBi : One w Bi (.func (.func g) #[] #[]) 28) (hBn : One w Bn (.int .i64 c) 3) (hc : c ≤ 5000) :
   Calls Try.prog 38 #[ndV y, pv, .pointer (some ⟨Bi, 0, none⟩), .pointer (some ⟨Bn, 0, none⟩)] w (AddPost r Bn c w) := by
 have HF := Lib.hid his
 obtain ⟨sa, sc, hsv, _⟩ := hn.2.1
 obtain ⟨ka, kc, hkv, _⟩ := hn.2.2
 have HBi := Lib.hid hBi
 have HBn := Lib.hid hBn
 have HBa := Lib.hid (hBi.below (below_alloc w (.cells (ndC y).toArray 25)))
 clear hn hBi hBn his
 obtain ⟨xk, xa, xc, xs, xset, xneg, xn, xm, xmode, xname, xon, xoff, xkv⟩ := y
 simp only at hsv hkv
 subst hsv hkv
 unfold ndV at *
 unfold ndC at *
 go_enter Try.func38, Try.ntmps38
 have c0 := HBa.out.cell
 go_wp2_with fail
 refine (HF.out _ (below_alloc w _)).mono ?_
 rintro e w1 ⟨rfl, hb1⟩
 have hw1 := below_box hb1
 have hB1 := HBn.out.below hw1
 have c1 := hB1.cell
 have c2 := hB1.frz
 cases r with
 | true =>
   go_wp2_with fail
   go_ret
   exact ⟨rfl, w1, hw1, Or.inl ⟨rfl, by rw [show ((c + 1 : Nat) : Int) = (c : Int) + 1 by omega]⟩⟩
 | false =>
   go_wp2_with fail
   go_ret
   exact ⟨rfl, w1, hw1, Or.inr ⟨rfl, rfl⟩⟩
end Go.Proofs.Ytpjaahojoabgjaa.trw
end
section
namespace Go.Proofs.Ytpjaahojoabgjaa.trp
open Go
theorem findT_pre (kd : Int) (t : Nd) : findT kd t = ((preT t).find? fun q => decide (q.1.1.kind = kd)).map fun q => q.2.tail := (find_preT kd t).symm
end Go.Proofs.Ytpjaahojoabgjaa.trp
end
section
namespace Go.Proofs.Ytpjaahojoabgjaa.trp
open Go
theorem pre_bound : ∀ (f : F) (pp : List Nat) (i n : Nat) (q : Nd × List Nat), (pre pp i f)[n]? = some q → q.2.length ≤ pp.length + n + 1 ∧ q.2 ≠ []
 | .nil, _, _, n, q, h => by simp [pre] at h
 | .cons x k r, pp, i, 0, q, h => by
   simp only [pre, List.getElem?_cons_zero, Option.some.injEq] at h
   subst h
   simp
 | .cons x k r, pp, i, n + 1, q, h => by
   simp only [pre, List.getElem?_cons_succ, List.getElem?_append] at h
   split at h
   · have := pre_bound k (pp ++ [i]) 0 n q h
     simp only [List.length_append, List.length_cons, List.length_nil] at this
     exact ⟨by omega, this.2⟩
   · have := pre_bound r pp (i + 1) _ q h
     exact ⟨by omega, this.2⟩
theorem preT_bound {t : Nd} {n : Nat} {q : Nd × List Nat} (h : (preT t)[n]? = some q) : q.2.length ≤ n + 1 ∧ q.2 ≠ [] := by
 have := pre_bound _ _ _ _ _ h
 simpa using this
def mx (P : List (Nd × List Nat)) (j : Nat) : Nat := (P.take j).foldl (fun d q => max d q.2.length) 0
theorem mx_succ {P : List (Nd × List Nat)} {j : Nat} {q : Nd × List Nat} (h : P[j]? = some q) : mx P (j + 1) = max (mx P j) q.2.length := by
 unfold mx
 rw [List.take_add_one, h, Option.toList_some, List.foldl_append]
 rfl
theorem mx_le {t : Nd} : ∀ {j : Nat}, mx (preT t) j ≤ j + 1
 | 0 => by simp [mx]
 | j + 1 => by
   cases h : (preT t)[j]? with
   | none =>
     have hl : (preT t).length ≤ j := by simpa using h
     have e : mx (preT t) (j + 1) = mx (preT t) j := by unfold mx; rw [List.take_of_length_le (by omega), List.take_of_length_le hl]
     have := mx_le (t := t) (j := j)
     omega
   | some q =>
     have := mx_le (t := t) (j := j)
     have := (preT_bound h).1
     rw [mx_succ h]
     omega
theorem mx_dep {P : List (Nd × List Nat)} {m : Nat} (hm : m ≤ P.length) (yes : ∀ i, i + 1 < m → mx P (i + 1) ≤ 300) (hs : ¬ mx P m ≤ 300 ∨ m = P.length) : ∀ n j, j + n + 1 = m → dep (P.drop j) (mx P j) = mx P m := by
 intro n
 induction n with
 | zero =>
   intro j hj
   have hlt : j < P.length := by omega
   have hq : P[j]? = some P[j] := List.getElem?_eq_getElem hlt
   rw [List.drop_eq_getElem_cons hlt, dep, ← mx_succ hq, show j + 1 = m by omega]
   rcases hs with hs | hs
   · rw [if_neg hs]
   · split
     · rw [List.drop_eq_nil_of_le (by omega)]
       rfl
     · rfl
 | succ n ih =>
   intro j hj
   have hlt : j < P.length := by omega
   have hq : P[j]? = some P[j] := List.getElem?_eq_getElem hlt
   rw [List.drop_eq_getElem_cons hlt, dep, ← mx_succ hq, if_pos (yes j (by omega))]
   exact ih (j + 1) (by omega)
theorem count_succ {P : List (Nd × List Nat)} {f : Nd × List Nat → Bool} {j : Nat} {q : Nd × List Nat} (h : P[j]? = some q) : (P.take (j + 1)).countP f = (P.take j).countP f + (if f q = true then 1 else 0) := by
 rw [List.take_add_one, h, Option.toList_some, List.countP_append]
 simp [List.countP_cons]
theorem count_le {P : List (Nd × List Nat)} {f : Nd × List Nat → Bool} {j : Nat} : (P.take j).countP f ≤ j := by
 have := List.countP_le_length (p := f) (l := P.take j)
 simp only [List.length_take] at this
 omega
theorem all_at {P : List (Nd × List Nat)} {f : Nd × List Nat → Bool} (h : ∀ (i : Nat) (q : Nd × List Nat), P[i]? = some q → f q = true) : P.all f = true := by
 rw [List.all_eq_true]
 intro q hq
 obtain ⟨i, hi⟩ := List.mem_iff_getElem?.1 hq
 exact h i q hi
end Go.Proofs.Ytpjaahojoabgjaa.trp
end
section
namespace Go.Proofs.Ytpjaahojoabgjaa.trw
open Go Go.RowKit trp
def LkCheck (P : List (Nd × List Nat)) (B : Nat) : Lk Unit where
 P := P
 g := 36
 lb := #[.pointer (some ⟨B, 0, none⟩)]
 ans := ansP P fun q => mayP q.1
 Inv := fun i _ w => One w B (.bool (lastP P (fun q => mayP q.1) i)) 4
 Own := fun _ k => k = B
theorem lkCheck_ok {w0 : World} {P : List (Nd × List Nat)} {B : Nat} (hB : w0.heap.size ≤ B) : LookOk w0 (LkCheck P B) where
 eg := enters_of Try.func36 (by kernel_rfl) rfl
 low := fun i s w k hi hk => by
   have hk : k = B := hk
   have hi : One w B _ _ := hi
   rw [hk]
   exact ⟨hB, hi.lt⟩
 stable := fun i s w w' hi hs _ => (hs B rfl).trans hi
 call := fun i q s w pv hq hlt _ hi hb hn hp => by
   have hq : P[i]? = some q := hq
   refine (check1_any pv hn hi).mono ?_
   rintro e w' ⟨rfl, w1, hb1, rfl⟩
   refine ⟨by rw [show (LkCheck P B).ans i = mayP q.1 from ansP_at hq], (), ?_, chg_set (Own := (LkCheck P B).Own) hb1 rfl (fun _ _ h => h) _⟩
   show One _ B (.bool (ansP P (fun q => mayP q.1) i)) _
   rw [ansP_at hq]
   exact (One.below hi hb1).set _
def LkCount (P : List (Nd × List Nat)) (f : Nd → Bool) (g Bi Bn : Nat) : Lk Unit where
 P := P
 g := 38
 lb := #[.pointer (some ⟨Bi, 0, none⟩), .pointer (some ⟨Bn, 0, none⟩)]
 ans := fun _ => true
 Inv := fun i _ w => One w Bi (.func (.func g) #[] #[]) 28 ∧ One w Bn (.int .i64 ((P.take i).countP fun q => f q.1 : Nat)) 3
 Own := fun _ k => k = Bi ∨ k = Bn
theorem lkCount_ok {w0 : World} {P : List (Nd × List Nat)} {f : Nd → Bool} {g Bi Bn : Nat} (hi0 : w0.heap.size ≤ Bi) (hn0 : w0.heap.size ≤ Bn) (hne : Bi ≠ Bn) (eg : ∀ args w, (callFunc g args).run Try.prog w = .ok (.enter g args) w)
   (his : ∀ (y : Lab) (k : F) w1, NdAt w1 (y, k) → Calls Try.prog g #[ndV y] w1 (BoolB (f (y, k)) w1)) : LookOk w0 (LkCount P f g Bi Bn) where
 eg := enters_of Try.func38 (by kernel_rfl) rfl
 low := fun i s w k hi hk => by
   rcases hk with rfl | rfl
   · exact ⟨hi0, One.lt hi.1⟩
   · exact ⟨hn0, One.lt hi.2⟩
 stable := fun i s w w' hi hs _ => ⟨(hs Bi (Or.inl rfl)).trans hi.1, (hs Bn (Or.inr rfl)).trans hi.2⟩
 call := fun i q s w pv hq hlt _ hi hb hn hp => by
   have hq : P[i]? = some q := hq
   refine (count1_any pv eg (fun w1 hb1 => his q.1.1 q.1.2 w1 (below_nd hb1 hn)) hn hi.1 hi.2 (Nat.le_trans count_le (by omega))).mono ?_
   rintro e w' ⟨rfl, w1, hb1, ⟨hr, rfl⟩ | ⟨hr, rfl⟩⟩
   · refine ⟨rfl, (), ⟨(One.below hi.1 hb1).other _ hne, ?_⟩, chg_set (Own := (LkCount P f g Bi Bn).Own) hb1 (Or.inr rfl) (fun _ _ h => h) _⟩
     have hr' : f q.1 = true := hr
     rw [count_succ hq, if_pos hr']
     exact (One.below hi.2 hb1).set _
   · refine ⟨rfl, (), ⟨One.below hi.1 hb1, ?_⟩, ⟨hb1.os, hb1.tape, hb1.output, hb1.size, fun k hk _ => hb1.block k hk, fun _ _ h => h⟩⟩
     have hr' : ¬ f q.1 = true := by rw [show f q.1 = false from hr]; simp
     rw [count_succ hq, if_neg hr', Nat.add_zero]
     exact One.below hi.2 hb1
def LkDepth (P : List (Nd × List Nat)) (B : Nat) : Lk Unit where
 P := P
 g := 28
 lb := #[.pointer (some ⟨B, 0, none⟩)]
 ans := fun i => decide (mx P (i + 1) ≤ 300)
 Inv := fun i _ w => One w B (.int .i64 (mx P i : Nat)) 3
 Own := fun _ k => k = B
theorem lkDepth_ok {w0 : World} {t : Nd} {B : Nat} (hB : w0.heap.size ≤ B) : LookOk w0 (LkDepth (preT t) B) where
 eg := enters_of Try.func28 (by kernel_rfl) rfl
 low := fun i s w k hi hk => by
   have hk : k = B := hk
   have hi : One w B _ _ := hi
   rw [hk]
   exact ⟨hB, hi.lt⟩
 stable := fun i s w w' hi hs _ => (hs B rfl).trans hi
 call := fun i q s w pv hq hlt _ hi hb hn hp => by
   have hq : (preT t)[i]? = some q := hq
   obtain ⟨pb, po, cap, rfl, _, _, _⟩ := hp
   obtain ⟨h1, h2⟩ := preT_bound hq
   have hl : q.2.tail.length + 1 = q.2.length := by
     cases h : q.2 with
     | nil => exact absurd h h2
     | cons a l => simp
   have hm := mx_le (t := t) (j := i)
   obtain ⟨sa, sc, hsv, _⟩ := hn.2.1
   obtain ⟨ka, kc, hkv, _⟩ := hn.2.2
   refine (depth1_any hi (by omega) (by omega) _ _ _ _ _ _ hsv hkv).mono ?_
   rintro e w' ⟨rfl, w1, hb1, rfl⟩
   rw [hl]
   refine ⟨by rw [show (LkDepth (preT t) B).ans i = decide (mx (preT t) (i + 1) ≤ 300) from rfl, mx_succ hq], (), ?_, chg_set (Own := (LkDepth (preT t) B).Own) hb1 rfl (fun _ _ h => h) _⟩
   show One _ B (.int .i64 (mx (preT t) (i + 1) : Nat)) _
   rw [mx_succ hq]
   exact (One.below hi hb1).set _
theorem alloc_at2 (w : World) (A C : Obj) (v : Value) (t : TypeId) : One (((w.alloc A).alloc (.cells #[v] t)).alloc C) (w.heap.size + 1) v t := by
 unfold One
 rw [heap_alloc_old _ _ (by simp)]
 have := heap_alloc_new (w.alloc A) (.cells #[v] t)
 simpa using this
theorem alloc_at3 (w : World) (A B : Obj) (v : Value) (t : TypeId) : One (((w.alloc A).alloc B).alloc (.cells #[v] t)) (w.heap.size + 1 + 1) v t := by
 unfold One
 have := heap_alloc_new ((w.alloc A).alloc B) (.cells #[v] t)
 simpa using this
theorem stopped_true {S : Type} {L : Lk S} {m : Nat} (h : Stopped L m) (ht : ∀ i, L.ans i = true) : L.P.take m = L.P.take 4001 := by
 obtain ⟨h1, h2, h3, _, h4 | rfl | rfl⟩ := h
 · rw [ht] at h4
   cases h4
 · rfl
 · rw [List.take_of_length_le (Nat.le_refl _), List.take_of_length_le (by omega)]
set_option maxRecDepth 100000 in
set_option maxHeartbeats 1000000 in
theorem pcount_any (x : Lab) (k : F) (w : World) (hn : NdAt w (x, k)) (g : Nat) (f : Nd → Bool) (eg : ∀ args w, (callFunc g args).run Try.prog w = .ok (.enter g args) w)
   (his : ∀ (y : Lab) (k : F) w1, NdAt w1 (y, k) → Calls Try.prog g #[ndV y] w1 (BoolB (f (y, k)) w1)) :
   Calls Try.prog 24 #[ndV x, .func (.func g) #[] #[]] w (IntB (((preT (x, k)).take 4001).countP fun q => f q.1 : Nat) w) := by
 have HW := Lib.hid (fun (B : Nat) (w3 : World) (hB : B = w.heap.size) (hb : Below w.heap.size w w3) (h1 : One w3 (B + 1) (.func (.func g) #[] #[]) 28) (h2 : One w3 (B + 1 + 1) (.int .i64 (0 : Nat)) 3) =>
   walk_any w (LkCount (preT (x, k)) f g (B + 1) (B + 1 + 1)) (lkCount_ok (by omega) (by omega) (by omega) eg his) x k w3 () hb hn rfl ⟨h1, h2⟩)
 obtain ⟨sa, sc, hsv, _⟩ := hn.2.1
 obtain ⟨ka, kc, hkv, _⟩ := hn.2.2
 obtain ⟨R, hR⟩ : ∃ R, (((preT (x, k)).take 4001).countP fun q => f q.1) = R := ⟨_, rfl⟩
 have HR := Lib.hid (fun m (h : Stopped (LkCount (preT (x, k)) f g (w.heap.size + 1) (w.heap.size + 1 + 1)) m) => show ((preT (x, k)).take m).countP (fun q => f q.1) = R by
   rw [← hR]
   have e := stopped_true h (fun _ => rfl)
   rw [show (preT (x, k)).take m = (preT (x, k)).take 4001 from e])
 rw [hR]
 clear hn his hR
 obtain ⟨xk, xa, xc, xs, xset, xneg, xn, xm, xmode, xname, xon, xoff, xkv⟩ := x
 simp only at hsv hkv
 subst hsv hkv
 unfold ndV at *
 go_enter Try.func24, Try.ntmps24
 go_wp2_with fail
 refine (HW.out _ _ rfl (((below_alloc w _).alloc (by simp) _).alloc (by simp; omega) _) (alloc_at2 _ _ _ _ _) (alloc_at3 _ _ _ _ _)).mono ?_
 rintro e w4 ⟨rfl, m, s', hst, hinv, hchg, hbel⟩
 have hin := hinv.2
 rw [HR.out m hst] at hin
 have c1 := hin.cell
 clear hst hinv hchg
 go_wp2_with fail
 go_ret
 exact ⟨rfl, hbel⟩
end Go.Proofs.Ytpjaahojoabgjaa.trw
end
