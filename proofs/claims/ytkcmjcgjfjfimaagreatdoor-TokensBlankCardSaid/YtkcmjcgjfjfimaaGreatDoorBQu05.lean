/- Texts that TokensQuoteLaw leans on, merged: what the functions of the program answer. -/
import Derived.BigRegion
import Derived.Laws.CopyRow
import Derived.Laws.Rows
import Derived.RegionTactic
import Derived.Test.YtkcmjcgjfjfimaaGreatDoorBQu04
section
namespace Go.Proofs.YtkcmjcgjfjfimaaGreatDoor.tkw
open Go Go.RowKit Go.Maps utfp utfw ucdp setp setw prp tkp
theorem below_al (w : World) (o : Obj) : Below w.heap.size w (w.alloc o) := (Below.refl _ _).alloc (Nat.le_refl _) o
def tkA (v : Value) (t : Tk) : Array Value := #[.int .i64 t.kind, .int .i64 t.at_, .int .i64 t.to, .int .i64 t.c, v, .bool t.neg, .int .i64 t.n, .int .i64 t.m, .int .i64 t.mode, .string t.name, .int .i64 t.on, .int .i64 t.off]
def RetB (C : Cf) (w : World) (v : Value) (b f : Nat) (T : List Tk) (e : Ending) (w' : World) : Prop := e = .returned v ∧ (∃ tv, LX C w' b f ⟨T, tv⟩) ∧ Kept C.base C.L w w'
theorem infoTok : (Tryz.prog.info? 30).map (fun i => (i.zero, i.size, i.bytes)) = some (some (.agg #[.int .i64 0, .int .i64 0, .int .i64 0, .int .i64 0, .slice none 0 0, .bool false, .int .i64 0, .int .i64 0, .int .i64 0, .string ⟨#[]⟩, .int .i64 0, .int .i64 0]), 12, 120) := by kernel_rfl
theorem own_apart {w : World} {b1 b2 : Nat} {e1 e2 : TypeId} {s1 s2 : Nat} {v1 v2 : Value} {n1 n2 : Nat} {xs1 xs2 : List Value} (h1 : w.ownsRow b1 e1 s1 v1 n1 xs1) (h2 : w.ownsRow b2 e2 s2 v2 n2 xs2) (he : e1 ≠ e2) : v1.ownBlock = none ∨ v1.ownBlock ≠ v2.ownBlock := by
 obtain ⟨_, ⟨rfl, _⟩ | ⟨g1, c1, cu1, rfl, _, k1, _⟩⟩ := h1
 · exact Or.inl rfl
 · obtain ⟨_, ⟨rfl, _⟩ | ⟨g2, c2, cu2, rfl, _, k2, _⟩⟩ := h2
   · exact Or.inr (by simp [Value.ownBlock])
   · refine Or.inr fun e => he ?_
     simp only [Value.ownBlock, Option.some.injEq] at e
     subst e
     rw [k1] at k2
     simp only [Option.some.injEq, Obj.cells.injEq] at k2
     exact k2.2.1
theorem tkA_cells (v : Value) (t : Tk) : (tkA v t).toList = tkCells v t := rfl
set_option maxRecDepth 100000 in
theorem held_append_t {o : Oper} {a : Act} {w W : World} {K : Act → World → Prop} {Q : Exit → Act → World → Prop} {ys : Nat → Option Bool} (hgd : o.guard = none) (s x : Operand)
   (ho : o.op = .call { callee := .builtin .append, args := #[s, x], argTypes := #[24, 24] }) (base : Nat) (tv : Value) (T : List Tk) (hs : a.eval s = tv) (hown : TokRow w base tv T)
   (v : Value) (t : Tk) (hv : OwnR w base v t.set) (B : Nat) (hW : W = w.alloc (.cells (tkA v t) 30)) (hx : a.eval x = .slice (some ⟨B, 0, none⟩) 1 1) (hB : B = w.heap.size) (hlen : T.length ≤ 100000) (hbase : base ≤ w.heap.size)
   (h : ∀ v' w', TokRow w' base v' (T ++ [t]) → Below base w w' → (∀ k, k < w.heap.size → tv.ownBlock ≠ some k → w'.heap[k]? = w.heap[k]?) → K (a.put o.dst v') w') :
   if Region.wanted o ys = true then Oper.wp Tryz.prog o a W K Q else K (a.put o.dst undef) W := by
 subst hW
 rw [if_pos (by unfold Region.wanted; rw [hgd])]
 subst hB
 obtain ⟨l, hl1, hl2, hl3⟩ := hown
 have hll : l.length = T.length := by rw [← hl1, List.length_map]
 obtain ⟨i0, hi, hz0, hz1, hz2⟩ := info_parts infoTok
 refine wp_append_own _ s x _ ho base 30 i0 _ 12 120 Tryz.underlying24 hi hz0 hz1 hz2 rfl (by decide) tv _ _ hs (World.ownsRow.alloc hl3 _) ⟨w.heap.size, 0, none⟩ 1 1 (tkCells v t) hx rfl ?_ ?_ (by unfold maxLen; omega) (by omega) (by rw [World.size_alloc]; omega) ?_
 · intro j u hj
   have hplain : (⟨w.heap.size, 0, none⟩ : Addr).add j = ⟨w.heap.size, j, none⟩ := by unfold Addr.add; split <;> simp_all
   rw [hplain, World.cell?_alloc_new, ← Array.getElem?_toList, tkA_cells]
   exact hj
 · intro u hu
   obtain ⟨x, y, rfl⟩ : ∃ x y, v = .slice x t.set.length y := ownR_len hv
   simp only [tkCells, List.mem_cons, List.not_mem_nil, or_false] at hu
   rcases hu with rfl | rfl | rfl | rfl | rfl | rfl | rfl | rfl | rfl | rfl | rfl | rfl <;> rfl
 · intro v' w' hown' hgr _
   have hlt := World.ownsRow.lt hl3
   have hbw : Below base w w' := ((Below.refl base w).alloc hbase _).grown hgr (by rw [World.size_alloc]; omega) (fun k hk => (hlt k hk).1)
   refine h v' w' ⟨l ++ [(t, v)], by simp [hl1], fun p hp => ?_, ?_⟩ hbw (fun k hk hne => (hgr.block k (by rw [World.size_alloc]; omega) (fun e => hne e.symm)).trans (Below.heap_alloc _ _ _ hk))
   · have hr : OwnR w base p.2 p.1.set := by
       rcases List.mem_append.1 hp with hp | hp
       · exact hl2 p hp
       · obtain rfl := List.mem_singleton.1 hp
         exact hv
     exact ⟨World.ownsRow.kept (World.ownsRow.alloc hr.1 _) hgr (own_apart hr.1 hl3 (by decide)), hr.2⟩
   · have e : ((l ++ [(t, v)]).flatMap fun p => tkCells p.2 p.1) = (l.flatMap fun p => tkCells p.2 p.1) ++ tkCells v t := by simp
     rw [e]
     simpa using hown'
theorem mapI_block {w w' : World} {b n : Nat} {l : List (Int × Int)} (h : MapI w b n l) (hb : w'.heap[b]? = w.heap[b]?) : MapI w' b n l := by
 obtain ⟨es, clock, hh, r⟩ := h
 exact ⟨es, clock, hb.trans hh, r⟩
theorem lx_put {C : Cf} {w wa : World} {a f : Nat} {T : Rw} {T' : List Tk} {tv v' : Value} (h : LX C w a f T) (hb : Below C.base w wa) (hta : TokRow wa C.base v' T') (hcl : wa.heap[C.L]? = some (.cells (lxC C a f tv) 56 (0, 0))) (hT : T'.length ≤ a) :
   LX C (wa.setCell ⟨C.L, 9, none⟩ v') a f ⟨T', v'⟩ ∧ Kept C.base C.L w (wa.setCell ⟨C.L, 9, none⟩ v') := by
 have hk : Kept C.base C.L w (wa.setCell ⟨C.L, 9, none⟩ v') := (Kept.of_below hb).setCell 9 _
 have hlb := h.ok.lb
 have hL := h.ok.hL
 obtain ⟨n1, i1⟩ := h.e1
 obtain ⟨n2, i2⟩ := h.e2
 obtain ⟨n3, i3⟩ := h.e3
 exact ⟨⟨h.ok, h.old.trans ((hb.mono (by omega)).setCell (p := ⟨C.L, 9, none⟩) hL _), ⟨by rw [heap_set hcl]; rfl, tokRow_kept hta ((Kept.refl _ _ _).setCell 9 _) hlb⟩,
   ⟨n1, mapI_block i1 (hk.block _ h.ok.b1.1 h.ok.b1.2)⟩, ⟨n2, mapI_block i2 (hk.block _ h.ok.b2.1 h.ok.b2.2)⟩, ⟨n3, mapI_block i3 (hk.block _ h.ok.b3.1 h.ok.b3.2)⟩, Nat.le_trans h.hb hk.size, h.an, h.fn, hT⟩, hk⟩
set_option maxRecDepth 100000 in
set_option maxHeartbeats 8000000 in
theorem put_any {C : Cf} {w : World} {a f : Nat} {T : Rw} (h : LX C w a f T) (v : Value) (t : Tk) (hv : OwnR w C.base v t.set) (hT : T.length + 1 ≤ a) :
   Calls Tryz.prog 39 #[.pointer (some ⟨C.L, 0, none⟩), tkV v t] w (RetB C w (.tuple #[]) a f (T.l ++ [lay t f a])) := by
 unfold tkV
 have hx1 := h.below (below_al w (.cells #[.int .i64 t.kind, .int .i64 0, .int .i64 0, .int .i64 t.c, v, .bool t.neg, .int .i64 t.n, .int .i64 t.m, .int .i64 t.mode, .string t.name, .int .i64 t.on, .int .i64 t.off] 30))
 have hlt := h.cells.lt
 have hbs := h.hb
 have hn := h.ok.n
 have an := h.an
 go_enter Tryz.func39, Tryz.ntmps39
 go_upto_region 1 with (fail)
 generalize hW : w.alloc (.cells _ _) = W at *
 have b1 : W.cell? ⟨w.heap.size, 1, none⟩ = some (.int .i64 0) := by rw [← hW, World.cell?_alloc_new]; rfl
 have b2 : W.cell? ⟨w.heap.size, 2, none⟩ = some (.int .i64 0) := by rw [← hW, World.cell?_alloc_new]; rfl
 have fb : ∀ i, W.frozen? ⟨w.heap.size, i, none⟩ = false := fun i => by rw [← hW, World.frozen?_alloc_new]
 have d1 := hx1.cells.c1
 have d2 := hx1.cells.c2
 have fb1 := fb 1
 have fb2 := fb 2
 have HW := Lib.hid hW
 have HB0 : Hid (W.heap[w.heap.size]? = some (.cells #[.int .i64 t.kind, .int .i64 0, .int .i64 0, .int .i64 t.c, v, .bool t.neg, .int .i64 t.n, .int .i64 t.m, .int .i64 t.mode, .string t.name, .int .i64 t.on, .int .i64 t.off] 30 (0, 0))) := Lib.hid (by rw [← hW]; show (w.heap.push _)[w.heap.size]? = _; simp)
 have HBW := Lib.hid (show Below w.heap.size w W by rw [← hW]; exact below_al _ _)
 clear hW fb
 generalize hTB : w.heap.size = TB at *
 have HTB := Lib.hid hTB
 clear hTB
 go_region
 have HB1 : Hid ((((W.setCell ⟨TB, 1, none⟩ (.int .i64 f)).setCell ⟨TB, 2, none⟩ (.int .i64 a)).drew).heap[TB]? = some (.cells (tkA v (lay t f a)) 30 (0, 0))) := Lib.hid (heap_set (o := 2) (v := .int .i64 a) (heap_set (o := 1) (v := .int .i64 f) HB0.out))
 have hbw2 : Below TB w ((W.setCell ⟨TB, 1, none⟩ (.int .i64 f)).setCell ⟨TB, 2, none⟩ (.int .i64 a)).drew := ((HBW.out.setCell (p := ⟨TB, 1, none⟩) (Nat.le_refl _) _).setCell (p := ⟨TB, 2, none⟩) (Nat.le_refl _) _).drew
 generalize ((W.setCell ⟨TB, 1, none⟩ (.int .i64 f)).setCell ⟨TB, 2, none⟩ (.int .i64 a)).drew = W2 at *
 have hv2 : OwnR W2 C.base v (lay t f a).set := ownR_kept hv (Kept.of_below (by rw [HTB.out]; exact hbw2)) h.ok.lb
 obtain ⟨hh, htk⟩ := h.lx
 generalize htv : T.v = tv at *
 have HTV := Lib.hid htv
 clear htv
 have hown : tv.ownBlock ≠ some TB := by
   obtain ⟨l, _, _, h3⟩ := htk
   intro e
   have := (World.ownsRow.lt h3 TB e).2
   rw [HTB.out] at this
   omega
 have htk2 : TokRow W2 C.base tv T.l := tokRow_kept htk (Kept.of_below (by rw [HTB.out]; exact hbw2)) h.ok.lb
 have hh2 : W2.heap[C.L]? = some (.cells (lxC C a f tv) 56 (0, 0)) := (hbw2.block C.L hlt).trans hh
 have hTB2 : TB < W2.heap.size := by
   rcases Nat.lt_or_ge TB W2.heap.size with h | h
   · exact h
   · have := HB1.out; rw [Array.getElem?_eq_none h] at this; cases this
 have hb2 : C.base ≤ W2.heap.size := by omega
 have tl := h.tl
 have HOWN := Lib.hid hown
 have E0 := Lib.hid (show W2.cell? ⟨TB, 0, none⟩ = some ((tkCells v (lay t f a)).getD 0 undef) by simp [World.cell?, HB1.out, tkA, tkCells])
 have E1 := Lib.hid (show W2.cell? ⟨TB, 1, none⟩ = some ((tkCells v (lay t f a)).getD 1 undef) by simp [World.cell?, HB1.out, tkA, tkCells])
 have E2 := Lib.hid (show W2.cell? ⟨TB, 2, none⟩ = some ((tkCells v (lay t f a)).getD 2 undef) by simp [World.cell?, HB1.out, tkA, tkCells])
 have E3 := Lib.hid (show W2.cell? ⟨TB, 3, none⟩ = some ((tkCells v (lay t f a)).getD 3 undef) by simp [World.cell?, HB1.out, tkA, tkCells])
 have E4 := Lib.hid (show W2.cell? ⟨TB, 4, none⟩ = some ((tkCells v (lay t f a)).getD 4 undef) by simp [World.cell?, HB1.out, tkA, tkCells])
 have E5 := Lib.hid (show W2.cell? ⟨TB, 5, none⟩ = some ((tkCells v (lay t f a)).getD 5 undef) by simp [World.cell?, HB1.out, tkA, tkCells])
 have E6 := Lib.hid (show W2.cell? ⟨TB, 6, none⟩ = some ((tkCells v (lay t f a)).getD 6 undef) by simp [World.cell?, HB1.out, tkA, tkCells])
 have E7 := Lib.hid (show W2.cell? ⟨TB, 7, none⟩ = some ((tkCells v (lay t f a)).getD 7 undef) by simp [World.cell?, HB1.out, tkA, tkCells])
 have E8 := Lib.hid (show W2.cell? ⟨TB, 8, none⟩ = some ((tkCells v (lay t f a)).getD 8 undef) by simp [World.cell?, HB1.out, tkA, tkCells])
 have E9 := Lib.hid (show W2.cell? ⟨TB, 9, none⟩ = some ((tkCells v (lay t f a)).getD 9 undef) by simp [World.cell?, HB1.out, tkA, tkCells])
 have E10 := Lib.hid (show W2.cell? ⟨TB, 10, none⟩ = some ((tkCells v (lay t f a)).getD 10 undef) by simp [World.cell?, HB1.out, tkA, tkCells])
 have E11 := Lib.hid (show W2.cell? ⟨TB, 11, none⟩ = some ((tkCells v (lay t f a)).getD 11 undef) by simp [World.cell?, HB1.out, tkA, tkCells])
 have HV2 := Lib.hid hv2
 have HTK := Lib.hid htk2
 have HBW2 := Lib.hid hbw2
 have HH := Lib.hid h
 have HL := Lib.hid hh2
 have C9 := Lib.hid (show W2.cell? ⟨C.L, 9, none⟩ = some tv by simp [World.cell?, hh2, lxC])
 have lb := h.ok.lb
 clear hx1 b1 b2 fb1 fb2 d1 d2 HB0 HBW HW W hbw2 hv2 hh htk h hv hown htk2 hh2
 go_wp2_with fail
 refine wp_region_held_drew (S := fun w' => Kept C.base C.L W2 w' ∧ w'.heap[TB]? = W2.heap[TB]?) (by kernel_rfl) ⟨(Kept.refl _ _ _).drew, rfl⟩ (fun hHeld => ?_)
 refine wpAnyH_take (i := 0) (v := ?_) rfl (by kernel_rfl) (by kernel_rfl) (by kernel_rfl) (fun _ _ _ h => h) (Or.inl ⟨by rfl, ?_⟩) (by assumption) ?_
 rotate_left
 · intro w' hSw
   go_simp
   try rfl
 simp only [Act.put, List.setIfInBounds_toArray, List.set_cons_zero, List.set_cons_succ, List.getElem_toArray, List.getElem_cons_zero]
 refine wpAnyH_take (i := 1) (v := ?_) rfl (by kernel_rfl) (by kernel_rfl) (by kernel_rfl) (fun _ _ _ h => h) (Or.inl ⟨by rfl, ?_⟩) (by assumption) ?_
 rotate_left
 · intro w' hSw
   go_simp
   try rfl
 simp only [Act.put, List.setIfInBounds_toArray, List.set_cons_zero, List.set_cons_succ, List.getElem_toArray, List.getElem_cons_succ, List.getElem_cons_zero]
 refine wpAnyH_take (i := 2) (v := ?_) rfl (by kernel_rfl) (by kernel_rfl) (by kernel_rfl) (fun _ _ _ h => h) (Or.inl ⟨by rfl, ?_⟩) (by assumption) ?_
 rotate_left
 · intro w' hSw
   go_simp
   try rfl
 simp only [Act.put, List.setIfInBounds_toArray, List.set_cons_zero, List.set_cons_succ, List.getElem_toArray, List.getElem_cons_succ, List.getElem_cons_zero]
 refine wpAnyH_take (i := 3) (v := ?_) rfl (by kernel_rfl) (by kernel_rfl) (by kernel_rfl) (fun _ _ _ h => h) (Or.inl ⟨by rfl, ?_⟩) (by assumption) ?_
 rotate_left
 · intro w' hSw
   go_simp
   try rfl
 simp only [Act.put, List.setIfInBounds_toArray, List.set_cons_zero, List.set_cons_succ, List.getElem_toArray, List.getElem_cons_succ, List.getElem_cons_zero]
 refine wpAnyH_take (i := 5) (v := ?_) rfl (by kernel_rfl) (by kernel_rfl) (by kernel_rfl) (fun _ _ _ h => h) (Or.inl ⟨by rfl, ?_⟩) (by assumption) ?_
 rotate_left
 · intro w' hSw
   have k0 := (World.cell?_of_block (a := ⟨TB, 0, none⟩) hSw.2).trans E0.out
   have k1 := (World.cell?_of_block (a := ⟨TB, 1, none⟩) hSw.2).trans E1.out
   have k2 := (World.cell?_of_block (a := ⟨TB, 2, none⟩) hSw.2).trans E2.out
   have k3 := (World.cell?_of_block (a := ⟨TB, 3, none⟩) hSw.2).trans E3.out
   have k4 := (World.cell?_of_block (a := ⟨TB, 4, none⟩) hSw.2).trans E4.out
   have k5 := (World.cell?_of_block (a := ⟨TB, 5, none⟩) hSw.2).trans E5.out
   have k6 := (World.cell?_of_block (a := ⟨TB, 6, none⟩) hSw.2).trans E6.out
   have k7 := (World.cell?_of_block (a := ⟨TB, 7, none⟩) hSw.2).trans E7.out
   have k8 := (World.cell?_of_block (a := ⟨TB, 8, none⟩) hSw.2).trans E8.out
   have k9 := (World.cell?_of_block (a := ⟨TB, 9, none⟩) hSw.2).trans E9.out
   have k10 := (World.cell?_of_block (a := ⟨TB, 10, none⟩) hSw.2).trans E10.out
   have k11 := (World.cell?_of_block (a := ⟨TB, 11, none⟩) hSw.2).trans E11.out
   simp only [tkCells, List.getD_cons_zero, List.getD_cons_succ] at k0 k1 k2 k3 k4 k5 k6 k7 k8 k9 k10 k11
   go_simp
   try rfl
 simp only [Act.put, List.setIfInBounds_toArray, List.set_cons_zero, List.set_cons_succ, List.getElem_toArray, List.getElem_cons_succ, List.getElem_cons_zero]
 refine wpAnyH_ready (rs := [4, 6]) (by kernel_rfl) (by simp) ?_
 refine AllReadyH.cons rfl (fun K hK => ?_) (AllReadyH.cons rfl (fun K hK => ?_) AllReadyH.nil)
 · have k9 : W2.drew.cell? ⟨C.L, 9, none⟩ = some tv := C9.out
   go_simp
   clear k9
   refine hK.out _ _ ⟨(Kept.refl _ _ _).drew, rfl⟩ (fun hHeld => ?_)
   clear hK K
   try simp only [Act.put, List.setIfInBounds_toArray, List.set_cons_zero, List.set_cons_succ, List.getElem_toArray, List.getElem_cons_succ, List.getElem_cons_zero]
   refine wpAnyH_ready (rs := [6]) (by kernel_rfl) (by simp) ?_
   refine AllReadyH.cons rfl (fun K hK => ?_) AllReadyH.nil
   go_simp
   refine hK.out _ _ ⟨(Kept.refl _ _ _).drew.alloc hb2 _, Below.heap_alloc W2.drew _ TB hTB2⟩ (fun hHeld => ?_)
   clear hK K
   try simp only [Act.put, List.setIfInBounds_toArray, List.set_cons_zero, List.set_cons_succ, List.getElem_toArray, List.getElem_cons_succ, List.getElem_cons_zero]
   refine wpAnyH_ready (rs := [7]) (by kernel_rfl) (by simp) ?_
   refine AllReadyH.cons rfl (fun K hK => ?_) AllReadyH.nil
   refine held_append_t (w := W2.drew) rfl _ _ rfl C.base _ T.l rfl HTK.out v (lay t f a) HV2.out _ rfl rfl rfl (by have : T.l.length = T.length := rfl; omega) hb2 ?_
   intro va wa hta hba hbl
   have hk2 : Kept C.base C.L W2 wa := ⟨hba.os, hba.tape, hba.output, hba.size, fun k hk _ => hba.block k hk⟩
   have hcl : wa.heap[C.L]? = some (.cells (lxC C a f tv) 56 (0, 0)) := (hba.block C.L lb).trans HL.out
   have HTA := Lib.hid hta
   have HBA := Lib.hid hba
   have HCL := Lib.hid hcl
   refine hK.out _ _ ⟨hk2, hbl TB hTB2 HOWN.out⟩ (fun hHeld => ?_)
   clear hK K hta hba hbl hk2 hcl
   try simp only [Act.put, List.setIfInBounds_toArray, List.set_cons_zero, List.set_cons_succ, List.getElem_toArray, List.getElem_cons_succ, List.getElem_cons_zero]
   refine wpAnyH_take (i := 8) (v := ?_) rfl (by kernel_rfl) (by kernel_rfl) (by kernel_rfl) (fun _ _ _ h => h) (Or.inl ⟨by rfl, ?_⟩) (by assumption) ?_
   rotate_left
   · intro w' hSw
     go_simp
     try rfl
   simp only [Act.put, List.setIfInBounds_toArray, List.set_cons_zero, List.set_cons_succ, List.getElem_toArray, List.getElem_cons_succ, List.getElem_cons_zero]
   refine wpAnyH_take (i := 9) (v := ?_) rfl (by kernel_rfl) (by kernel_rfl) (by kernel_rfl) (fun _ _ _ h => h) (Or.inl ⟨by rfl, ?_⟩) (by assumption) ?_
   rotate_left
   · intro w' hSw
     go_simp
     try rfl
   simp only [Act.put, List.setIfInBounds_toArray, List.set_cons_zero, List.set_cons_succ, List.getElem_toArray, List.getElem_cons_succ, List.getElem_cons_zero]
   have g9 : wa.cell? ⟨C.L, 9, none⟩ = some tv := by simp [World.cell?, HCL.out, lxC]
   have gf : wa.frozen? ⟨C.L, 9, none⟩ = false := by simp [World.frozen?, HCL.out]
   obtain ⟨xa, ya, hva⟩ : ∃ x y, va = .slice x (T.l.length + 1) y := by
     obtain ⟨l, h1, _, h3⟩ := HTA.out
     have hl : l.length = T.l.length + 1 := by rw [← List.length_map (f := (·.1)), h1]; simp
     rw [← hl]
     obtain ⟨_, ⟨rfl, hn⟩ | ⟨g, cap, cur, rfl, _⟩⟩ := h3
     · exact ⟨_, _, by rw [hn]⟩
     · exact ⟨_, _, rfl⟩
   subst hva
   refine wpAnyH_ready (rs := [10]) (by kernel_rfl) (by simp) ?_
   refine AllReadyH.cons rfl (fun K hK => ?_) AllReadyH.nil
   go_simp
   refine hK.out _ _ ⟨hHeld.1.setCell 9 _, (Below.heap_setCell wa ⟨C.L, 9, none⟩ _ TB (by show TB ≠ C.L; omega)).trans hHeld.2⟩ (fun hHeld2 => ?_)
   clear hK K
   try simp only [Act.put, List.setIfInBounds_toArray, List.set_cons_zero, List.set_cons_succ, List.getElem_toArray, List.getElem_cons_succ, List.getElem_cons_zero]
   refine wpAnyH_done (by kernel_rfl) ?_ _
   go_wp2_with fail
   go_end0
   have hfin := lx_put HH.out (((HBW2.out.mono hbs).drew).trans HBA.out) HTA.out HCL.out (by have : T.l.length = T.length := rfl; simp; omega)
   exact ⟨rfl, ⟨_, hfin.1⟩, hfin.2⟩
 · go_simp
   refine hK.out _ _ ⟨(Kept.refl _ _ _).drew.alloc hb2 _, Below.heap_alloc W2.drew _ TB hTB2⟩ (fun hHeld => ?_)
   clear hK K
   try simp only [Act.put, List.setIfInBounds_toArray, List.set_cons_zero, List.set_cons_succ, List.getElem_toArray, List.getElem_cons_succ, List.getElem_cons_zero]
   refine wpAnyH_ready (rs := [4]) (by kernel_rfl) (by simp) ?_
   refine AllReadyH.cons rfl (fun K hK => ?_) AllReadyH.nil
   have k9 : ((W2.alloc (.cells (tkA v (lay t f a)) 30)).drew).cell? ⟨C.L, 9, none⟩ = some tv := (World.cell?_alloc_lt (w := W2) (o := .cells (tkA v (lay t f a)) 30) (a := ⟨C.L, 9, none⟩) (by show C.L < W2.heap.size; omega)).trans C9.out
   unfold tkA at k9
   go_simp
   clear k9
   refine hK.out _ _ hHeld (fun hHeld => ?_)
   clear hK K
   try simp only [Act.put, List.setIfInBounds_toArray, List.set_cons_zero, List.set_cons_succ, List.getElem_toArray, List.getElem_cons_succ, List.getElem_cons_zero]
   refine wpAnyH_ready (rs := [7]) (by kernel_rfl) (by simp) ?_
   refine AllReadyH.cons rfl (fun K hK => ?_) AllReadyH.nil
   refine held_append_t (w := W2.drew) rfl _ _ rfl C.base _ T.l rfl HTK.out v (lay t f a) HV2.out _ rfl rfl rfl (by have : T.l.length = T.length := rfl; omega) hb2 ?_
   intro va wa hta hba hbl
   have hk2 : Kept C.base C.L W2 wa := ⟨hba.os, hba.tape, hba.output, hba.size, fun k hk _ => hba.block k hk⟩
   have hcl : wa.heap[C.L]? = some (.cells (lxC C a f tv) 56 (0, 0)) := (hba.block C.L lb).trans HL.out
   have HTA := Lib.hid hta
   have HBA := Lib.hid hba
   have HCL := Lib.hid hcl
   refine hK.out _ _ ⟨hk2, hbl TB hTB2 HOWN.out⟩ (fun hHeld => ?_)
   clear hK K hta hba hbl hk2 hcl
   try simp only [Act.put, List.setIfInBounds_toArray, List.set_cons_zero, List.set_cons_succ, List.getElem_toArray, List.getElem_cons_succ, List.getElem_cons_zero]
   refine wpAnyH_take (i := 8) (v := ?_) rfl (by kernel_rfl) (by kernel_rfl) (by kernel_rfl) (fun _ _ _ h => h) (Or.inl ⟨by rfl, ?_⟩) (by assumption) ?_
   rotate_left
   · intro w' hSw
     go_simp
     try rfl
   simp only [Act.put, List.setIfInBounds_toArray, List.set_cons_zero, List.set_cons_succ, List.getElem_toArray, List.getElem_cons_succ, List.getElem_cons_zero]
   refine wpAnyH_take (i := 9) (v := ?_) rfl (by kernel_rfl) (by kernel_rfl) (by kernel_rfl) (fun _ _ _ h => h) (Or.inl ⟨by rfl, ?_⟩) (by assumption) ?_
   rotate_left
   · intro w' hSw
     go_simp
     try rfl
   simp only [Act.put, List.setIfInBounds_toArray, List.set_cons_zero, List.set_cons_succ, List.getElem_toArray, List.getElem_cons_succ, List.getElem_cons_zero]
   have g9 : wa.cell? ⟨C.L, 9, none⟩ = some tv := by simp [World.cell?, HCL.out, lxC]
   have gf : wa.frozen? ⟨C.L, 9, none⟩ = false := by simp [World.frozen?, HCL.out]
   obtain ⟨xa, ya, hva⟩ : ∃ x y, va = .slice x (T.l.length + 1) y := by
     obtain ⟨l, h1, _, h3⟩ := HTA.out
     have hl : l.length = T.l.length + 1 := by rw [← List.length_map (f := (·.1)), h1]; simp
     rw [← hl]
     obtain ⟨_, ⟨rfl, hn⟩ | ⟨g, cap, cur, rfl, _⟩⟩ := h3
     · exact ⟨_, _, by rw [hn]⟩
     · exact ⟨_, _, rfl⟩
   subst hva
   refine wpAnyH_ready (rs := [10]) (by kernel_rfl) (by simp) ?_
   refine AllReadyH.cons rfl (fun K hK => ?_) AllReadyH.nil
   go_simp
   refine hK.out _ _ ⟨hHeld.1.setCell 9 _, (Below.heap_setCell wa ⟨C.L, 9, none⟩ _ TB (by show TB ≠ C.L; omega)).trans hHeld.2⟩ (fun hHeld2 => ?_)
   clear hK K
   try simp only [Act.put, List.setIfInBounds_toArray, List.set_cons_zero, List.set_cons_succ, List.getElem_toArray, List.getElem_cons_succ, List.getElem_cons_zero]
   refine wpAnyH_done (by kernel_rfl) ?_ _
   go_wp2_with fail
   go_end0
   have hfin := lx_put HH.out (((HBW2.out.mono hbs).drew).trans HBA.out) HTA.out HCL.out (by have : T.l.length = T.length := rfl; simp; omega)
   exact ⟨rfl, ⟨_, hfin.1⟩, hfin.2⟩
end Go.Proofs.YtkcmjcgjfjfimaaGreatDoor.tkw
end
section
namespace Go.Proofs.YtkcmjcgjfjfimaaGreatDoor.tkw
open Go Go.RowKit Go.Maps utfp utfw ucdp setp setw prp tkp
set_option maxHeartbeats 2000000 in
theorem braces_no {C : Cf} {w : World} {f : Nat} {T : Rw} (h : LX C w f f T) (h1 : C.p.has [123] f = false) : Calls Tryz.prog 60 #[.pointer (some ⟨C.L, 0, none⟩)] w (RP C w (C.p.braces f) (SgOk C w f f T)) := by
 have hs : C.p.braces f = .ok none := by unfold Pt.braces; rw [if_neg (by simp [h1])]
 have HS := Lib.hid hs
 have H1 := Lib.hid h1
 clear hs h1
 have fn := h.fn
 have tl := h.tl
 have hk0 := Kept.refl w.heap.size C.L w
 have hB := h.hb
 go_enter Tryz.func60, Tryz.ntmps60
 go_wp2_with fail
 refine Calls.mono (take_n h ⟨#[123]⟩ [123] rfl (by decide) H1.out) ?_
 rintro e1 w1 ⟨rfl, hx1, hkn⟩
 have hk1 := hk0.then hkn
 clear hkn
 have d1 := hx1.cells.c1
 have d2 := hx1.cells.c2
 have fz := hx1.cells.fz 1
 go_wp2_with fail
 go_ret3
 exact rp_ok HS.out ⟨rfl, hx1.at_ fn tl, hk1.setCell 1 _⟩
set_option maxHeartbeats 4000000 in
theorem braces_yes {C : Cf} {w : World} {f : Nat} {T : Rw} (h : LX C w f f T) (h1 : C.p.has [123] f = true) : Calls Tryz.prog 60 #[.pointer (some ⟨C.L, 0, none⟩)] w (RP C w (C.p.braces f) (SgOk C w f f T)) := by
 have h123 := has_le h.an h1
 simp only [List.length_cons, List.length_nil] at h123
 have fn := h.fn
 have tl := h.tl
 have hbs : C.p.braces f = match C.p.bounds (f + 1) with
     | none => .ok none
     | some (n, m, b) => if C.p.has [125] b = true then
         (if 255 < n ∨ 255 < m then .error (25, f) else if 0 ≤ m ∧ m < n then .error (23, f) else .ok (some (n, m, b + 1)))
       else .ok none := by unfold Pt.braces; rw [if_pos h1]; rfl
 have hk0 := Kept.refl w.heap.size C.L w
 have hB := h.hb
 have H1 := Lib.hid h1
 clear h1
 cases hbd : C.p.bounds (f + 1) with
 | none =>
   rw [hbd] at hbs
   have HS := Lib.hid hbs
   have HBD := Lib.hid hbd
   clear hbs hbd
   go_enter Tryz.func60, Tryz.ntmps60
   go_wp2_with fail
   refine Calls.mono (take_y h ⟨#[123]⟩ [123] 1 rfl rfl (by decide) H1.out) ?_
   rintro e1 w1 ⟨rfl, hx1, hkn⟩
   have hk1 := hk0.then hkn
   clear hkn
   go_wp2_with fail
   refine Calls.mono (bounds_any hx1) ?_
   intro e2 w2 hr
   rw [HBD.out] at hr
   obtain ⟨rfl, hx2, hkn⟩ := hr
   have hk2 := hk1.then hkn
   clear hkn
   have d1 := hx2.cells.c1
   have d2 := hx2.cells.c2
   have fz := hx2.cells.fz 1
   go_wp2_with fail
   go_ret3
   exact rp_ok HS.out ⟨rfl, hx2.at_ fn tl, hk2.setCell 1 _⟩
 | some r =>
   obtain ⟨n, m, b⟩ := r
   have bb := bounds_bd (p := C.p) (a := f + 1) (by omega) hbd
   obtain ⟨q1, q2, q3, q4, q5, q6⟩ := bb
   rw [hbd] at hbs
   simp only at hbs
   have HBD := Lib.hid hbd
   clear hbd
   cases h125 : C.p.has [125] b with
   | false =>
     rw [if_neg (by simp [h125])] at hbs
     have HS := Lib.hid hbs
     have H2 := Lib.hid h125
     clear hbs h125
     go_enter Tryz.func60, Tryz.ntmps60
     go_wp2_with fail
     refine Calls.mono (take_y h ⟨#[123]⟩ [123] 1 rfl rfl (by decide) H1.out) ?_
     rintro e1 w1 ⟨rfl, hx1, hkn⟩
     have hk1 := hk0.then hkn
     clear hkn
     go_wp2_with fail
     refine Calls.mono (bounds_any hx1) ?_
     intro e2 w2 hr
     rw [HBD.out] at hr
     obtain ⟨rfl, hx2, hkn⟩ := hr
     have hk2 := hk1.then hkn
     clear hkn
     go_wp2_with fail
     refine Calls.mono (take_n hx2 ⟨#[125]⟩ [125] rfl (by decide) H2.out) ?_
     rintro e3 w3 ⟨rfl, hx3, hkn⟩
     have hk3 := hk2.then hkn
     clear hkn
     have d1 := hx3.cells.c1
     have d2 := hx3.cells.c2
     have fz := hx3.cells.fz 1
     go_wp2_with fail
     go_ret3
     exact rp_ok HS.out ⟨rfl, hx3.at_ fn tl, hk3.setCell 1 _⟩
   | true =>
     rw [if_pos h125] at hbs
     have H2 := Lib.hid h125
     clear h125
     by_cases hg : 255 < n ∨ 255 < m
     · rw [if_pos hg] at hbs
       have HS := Lib.hid (show C.p.braces f = .error (C.p.er 25 f) from hbs)
       clear hbs
       by_cases hn : 255 < n
       · clear hg
         go_enter Tryz.func60, Tryz.ntmps60
         go_wp2_with fail
         refine Calls.mono (take_y h ⟨#[123]⟩ [123] 1 rfl rfl (by decide) H1.out) ?_
         rintro e1 w1 ⟨rfl, hx1, hkn⟩
         have hk1 := hk0.then hkn
         clear hkn
         go_wp2_with fail
         refine Calls.mono (bounds_any hx1) ?_
         intro e2 w2 hr
         rw [HBD.out] at hr
         obtain ⟨rfl, hx2, hkn⟩ := hr
         have hk2 := hk1.then hkn
         clear hkn
         go_wp2_with fail
         refine Calls.mono (take_y hx2 ⟨#[125]⟩ [125] 1 rfl rfl (by decide) H2.out) ?_
         rintro e3 w3 ⟨rfl, hx3, hkn⟩
         have hk3 := hk2.then hkn
         clear hkn
         go_wp2_with fail
         refine Calls.mono (fail_any hx3 25) ?_
         rintro e4 w4 ⟨rfl, hkn⟩
         exact ⟨rfl, rp_err HS.out ⟨rfl, (hk3.mono hB).trans hkn⟩⟩
       · have hm : 255 < m := by omega
         clear hg
         go_enter Tryz.func60, Tryz.ntmps60
         go_wp2_with fail
         refine Calls.mono (take_y h ⟨#[123]⟩ [123] 1 rfl rfl (by decide) H1.out) ?_
         rintro e1 w1 ⟨rfl, hx1, hkn⟩
         have hk1 := hk0.then hkn
         clear hkn
         go_wp2_with fail
         refine Calls.mono (bounds_any hx1) ?_
         intro e2 w2 hr
         rw [HBD.out] at hr
         obtain ⟨rfl, hx2, hkn⟩ := hr
         have hk2 := hk1.then hkn
         clear hkn
         go_wp2_with fail
         refine Calls.mono (take_y hx2 ⟨#[125]⟩ [125] 1 rfl rfl (by decide) H2.out) ?_
         rintro e3 w3 ⟨rfl, hx3, hkn⟩
         have hk3 := hk2.then hkn
         clear hkn
         go_wp2_with fail
         refine Calls.mono (fail_any hx3 25) ?_
         rintro e4 w4 ⟨rfl, hkn⟩
         exact ⟨rfl, rp_err HS.out ⟨rfl, (hk3.mono hB).trans hkn⟩⟩
     · rw [if_neg hg] at hbs
       have hn : ¬ 255 < n := by omega
       have hm : ¬ 255 < m := by omega
       clear hg
       by_cases hr : 0 ≤ m ∧ m < n
       · rw [if_pos hr] at hbs
         have HS := Lib.hid (show C.p.braces f = .error (C.p.er 23 f) from hbs)
         obtain ⟨r1, r2⟩ := hr
         clear hbs
         go_enter Tryz.func60, Tryz.ntmps60
         go_wp2_with fail
         refine Calls.mono (take_y h ⟨#[123]⟩ [123] 1 rfl rfl (by decide) H1.out) ?_
         rintro e1 w1 ⟨rfl, hx1, hkn⟩
         have hk1 := hk0.then hkn
         clear hkn
         go_wp2_with fail
         refine Calls.mono (bounds_any hx1) ?_
         intro e2 w2 hr
         rw [HBD.out] at hr
         obtain ⟨rfl, hx2, hkn⟩ := hr
         have hk2 := hk1.then hkn
         clear hkn
         go_wp2_with fail
         refine Calls.mono (take_y hx2 ⟨#[125]⟩ [125] 1 rfl rfl (by decide) H2.out) ?_
         rintro e3 w3 ⟨rfl, hx3, hkn⟩
         have hk3 := hk2.then hkn
         clear hkn
         go_wp2_with fail
         refine Calls.mono (fail_any hx3 23) ?_
         rintro e4 w4 ⟨rfl, hkn⟩
         exact ⟨rfl, rp_err HS.out ⟨rfl, (hk3.mono hB).trans hkn⟩⟩
       · rw [if_neg hr] at hbs
         have HS := Lib.hid hbs
         clear hbs
         by_cases r1 : 0 ≤ m
         · have r2 : ¬ m < n := by omega
           clear hr
           go_enter Tryz.func60, Tryz.ntmps60
           go_wp2_with fail
           refine Calls.mono (take_y h ⟨#[123]⟩ [123] 1 rfl rfl (by decide) H1.out) ?_
           rintro e1 w1 ⟨rfl, hx1, hkn⟩
           have hk1 := hk0.then hkn
           clear hkn
           go_wp2_with fail
           refine Calls.mono (bounds_any hx1) ?_
           intro e2 w2 hr
           rw [HBD.out] at hr
           obtain ⟨rfl, hx2, hkn⟩ := hr
           have hk2 := hk1.then hkn
           clear hkn
           go_wp2_with fail
           refine Calls.mono (take_y hx2 ⟨#[125]⟩ [125] 1 rfl rfl (by decide) H2.out) ?_
           rintro e3 w3 ⟨rfl, hx3, hkn⟩
           have hk3 := hk2.then hkn
           clear hkn
           go_wp2_with fail
           go_ret3
           exact rp_ok HS.out ⟨rfl, hx3, hk3⟩
         · have r1' : decide (0 ≤ m) = false := by simp; omega
           clear hr
           go_enter Tryz.func60, Tryz.ntmps60
           go_wp2_with fail
           refine Calls.mono (take_y h ⟨#[123]⟩ [123] 1 rfl rfl (by decide) H1.out) ?_
           rintro e1 w1 ⟨rfl, hx1, hkn⟩
           have hk1 := hk0.then hkn
           clear hkn
           go_wp2_with fail
           refine Calls.mono (bounds_any hx1) ?_
           intro e2 w2 hr
           rw [HBD.out] at hr
           obtain ⟨rfl, hx2, hkn⟩ := hr
           have hk2 := hk1.then hkn
           clear hkn
           go_wp2_with fail
           refine Calls.mono (take_y hx2 ⟨#[125]⟩ [125] 1 rfl rfl (by decide) H2.out) ?_
           rintro e3 w3 ⟨rfl, hx3, hkn⟩
           have hk3 := hk2.then hkn
           clear hkn
           go_wp2_with fail
           go_ret3
           exact rp_ok HS.out ⟨rfl, hx3, hk3⟩
theorem braces_any {C : Cf} {w : World} {f : Nat} {T : Rw} (h : LX C w f f T) : Calls Tryz.prog 60 #[.pointer (some ⟨C.L, 0, none⟩)] w (RP C w (C.p.braces f) (SgOk C w f f T)) := by
 cases h1 : C.p.has [123] f with
 | false => exact braces_no h h1
 | true => exact braces_yes h h1
end Go.Proofs.YtkcmjcgjfjfimaaGreatDoor.tkw
end
section
namespace Go.Proofs.YtkcmjcgjfjfimaaGreatDoor.tkw
open Go Go.RowKit Go.Maps utfp utfw ucdp setp setw prp tkp
theorem mode_bd {p : Pt} {a : Nat} (ha : a ≤ p.n) : a ≤ (p.mode a).2 ∧ (p.mode a).2 ≤ p.n := by
 unfold Pt.mode
 split
 · rename_i h
   have := has_le ha h
   simp only [List.length_cons, List.length_nil] at this ⊢
   omega
 · split
   · rename_i h
     have := has_le ha h
     simp only [List.length_cons, List.length_nil] at this ⊢
     omega
   · simp only
     omega
theorem braces_bd {p : Pt} {f : Nat} {n m : Int} {b : Nat} (hf : f ≤ p.n) (h : p.braces f = .ok (some (n, m, b))) : f < b ∧ b ≤ p.n := by
 unfold Pt.braces at h
 split at h
 · rename_i h1
   have h2 := has_le hf h1
   simp only [List.length_cons, List.length_nil] at h2
   cases hb : p.bounds (f + 1) with
   | none => rw [hb] at h; cases h
   | some r =>
     obtain ⟨n', m', b'⟩ := r
     have bd := bounds_bd (p := p) (a := f + 1) (by omega) hb
     rw [hb] at h
     simp only at h
     split at h
     · rename_i h3
       have h4 := has_le bd.2.2.2.2.2 h3
       simp only [List.length_cons, List.length_nil] at h4
       split at h
       · cases h
       · split at h
         · cases h
         · have e := Except.ok.inj h
           simp only [Option.some.injEq, Prod.mk.injEq] at e
           omega
     · cases h
 · cases h
def QOk (C : Cf) (w : World) (a f : Nat) (T : Rw) : Option (Tk × Nat) → Ending → World → Prop
 | none => Ret C w (.bool false) a f T
 | some (t, b) => RetB C w (.bool true) b f (T.l ++ [lay t f b])
set_option maxHeartbeats 2000000 in
theorem quant_0 {C : Cf} {w : World} {f : Nat} {T : Rw} (h : LX C w f f T) (h1 : C.p.has [42] f = true) : Calls Tryz.prog 34 #[.pointer (some ⟨C.L, 0, none⟩)] w (RP C w (C.p.quant f) (QOk C w f f T)) := by
 have hs : C.p.quant f = .ok (some ({ kind := 9, n := 0, m := -1, mode := (C.p.mode (f + 1)).1 }, (C.p.mode (f + 1)).2)) := by unfold Pt.quant; rw [if_pos h1]
 have HS := Lib.hid hs
 have hl := has_le h.an h1
 simp only [List.length_cons, List.length_nil] at hl
 have mb := mode_bd (p := C.p) (a := f + 1) hl
 obtain ⟨mb1, mb2⟩ := mb
 have tl := h.tl
 clear hs hl
 have hk0 := Kept.refl w.heap.size C.L w
 have hB := h.hb
 have H1 := Lib.hid h1
 clear h1
 go_enter Tryz.func34, Tryz.ntmps34
 go_wp2_with fail
 refine Calls.mono (take_y h ⟨#[42]⟩ [42] 1 rfl rfl (by decide) H1.out) ?_
 rintro e1 w1 ⟨rfl, hx1, hkn⟩
 have hk1 := hk0.then hkn
 clear hkn
 go_wp2_with fail
 refine Calls.mono (mode_any hx1) ?_
 rintro e2 w2 ⟨rfl, hx2, hkn⟩
 have hk2 := hk1.then hkn
 clear hkn
 go_wp2_with fail
 refine Calls.mono (put_any hx2 (.slice none 0 0) { kind := 9, n := 0, m := -1, mode := (C.p.mode (f + 1)).1 } (ownR_nil _ _) (by omega)) ?_
 rintro e3 w3 ⟨rfl, hx3, hkn⟩
 have hkp := (hk2.mono hB).trans hkn
 clear hkn
 go_wp2_with fail
 go_ret
 exact rp_ok HS.out ⟨rfl, hx3, hkp⟩
set_option maxHeartbeats 2000000 in
theorem quant_1 {C : Cf} {w : World} {f : Nat} {T : Rw} (h : LX C w f f T) (h1 : C.p.has [42] f = false) (h2 : C.p.has [43] f = true) : Calls Tryz.prog 34 #[.pointer (some ⟨C.L, 0, none⟩)] w (RP C w (C.p.quant f) (QOk C w f f T)) := by
 have hs : C.p.quant f = .ok (some ({ kind := 9, n := 1, m := -1, mode := (C.p.mode (f + 1)).1 }, (C.p.mode (f + 1)).2)) := by unfold Pt.quant; rw [if_neg (by simp [h1])]; rw [if_pos h2]
 have HS := Lib.hid hs
 have hl := has_le h.an h2
 simp only [List.length_cons, List.length_nil] at hl
 have mb := mode_bd (p := C.p) (a := f + 1) hl
 obtain ⟨mb1, mb2⟩ := mb
 have tl := h.tl
 clear hs hl
 have hk0 := Kept.refl w.heap.size C.L w
 have hB := h.hb
 have H1 := Lib.hid h1
 clear h1
 have H2 := Lib.hid h2
 clear h2
 go_enter Tryz.func34, Tryz.ntmps34
 go_wp2_with fail
 refine Calls.mono (take_n h ⟨#[42]⟩ [42] rfl (by decide) H1.out) ?_
 rintro e1 w1 ⟨rfl, hx1, hkn⟩
 have hk1 := hk0.then hkn
 clear hkn
 go_wp2_with fail
 refine Calls.mono (take_y hx1 ⟨#[43]⟩ [43] 1 rfl rfl (by decide) H2.out) ?_
 rintro e2 w2 ⟨rfl, hx2, hkn⟩
 have hk2 := hk1.then hkn
 clear hkn
 go_wp2_with fail
 refine Calls.mono (mode_any hx2) ?_
 rintro e3 w3 ⟨rfl, hx3, hkn⟩
 have hk3 := hk2.then hkn
 clear hkn
 go_wp2_with fail
 refine Calls.mono (put_any hx3 (.slice none 0 0) { kind := 9, n := 1, m := -1, mode := (C.p.mode (f + 1)).1 } (ownR_nil _ _) (by omega)) ?_
 rintro e4 w4 ⟨rfl, hx4, hkn⟩
 have hkp := (hk3.mono hB).trans hkn
 clear hkn
 go_wp2_with fail
 go_ret
 exact rp_ok HS.out ⟨rfl, hx4, hkp⟩
set_option maxHeartbeats 2000000 in
theorem quant_2 {C : Cf} {w : World} {f : Nat} {T : Rw} (h : LX C w f f T) (h1 : C.p.has [42] f = false) (h2 : C.p.has [43] f = false) (h3 : C.p.has [63] f = true) : Calls Tryz.prog 34 #[.pointer (some ⟨C.L, 0, none⟩)] w (RP C w (C.p.quant f) (QOk C w f f T)) := by
 have hs : C.p.quant f = .ok (some ({ kind := 9, n := 0, m := 1, mode := (C.p.mode (f + 1)).1 }, (C.p.mode (f + 1)).2)) := by unfold Pt.quant; rw [if_neg (by simp [h1])]; rw [if_neg (by simp [h2])]; rw [if_pos h3]
 have HS := Lib.hid hs
 have hl := has_le h.an h3
 simp only [List.length_cons, List.length_nil] at hl
 have mb := mode_bd (p := C.p) (a := f + 1) hl
 obtain ⟨mb1, mb2⟩ := mb
 have tl := h.tl
 clear hs hl
 have hk0 := Kept.refl w.heap.size C.L w
 have hB := h.hb
 have H1 := Lib.hid h1
 clear h1
 have H2 := Lib.hid h2
 clear h2
 have H3 := Lib.hid h3
 clear h3
 go_enter Tryz.func34, Tryz.ntmps34
 go_wp2_with fail
 refine Calls.mono (take_n h ⟨#[42]⟩ [42] rfl (by decide) H1.out) ?_
 rintro e1 w1 ⟨rfl, hx1, hkn⟩
 have hk1 := hk0.then hkn
 clear hkn
 go_wp2_with fail
 refine Calls.mono (take_n hx1 ⟨#[43]⟩ [43] rfl (by decide) H2.out) ?_
 rintro e2 w2 ⟨rfl, hx2, hkn⟩
 have hk2 := hk1.then hkn
 clear hkn
 go_wp2_with fail
 refine Calls.mono (take_y hx2 ⟨#[63]⟩ [63] 1 rfl rfl (by decide) H3.out) ?_
 rintro e3 w3 ⟨rfl, hx3, hkn⟩
 have hk3 := hk2.then hkn
 clear hkn
 go_wp2_with fail
 refine Calls.mono (mode_any hx3) ?_
 rintro e4 w4 ⟨rfl, hx4, hkn⟩
 have hk4 := hk3.then hkn
 clear hkn
 go_wp2_with fail
 refine Calls.mono (put_any hx4 (.slice none 0 0) { kind := 9, n := 0, m := 1, mode := (C.p.mode (f + 1)).1 } (ownR_nil _ _) (by omega)) ?_
 rintro e5 w5 ⟨rfl, hx5, hkn⟩
 have hkp := (hk4.mono hB).trans hkn
 clear hkn
 go_wp2_with fail
 go_ret
 exact rp_ok HS.out ⟨rfl, hx5, hkp⟩
set_option maxHeartbeats 4000000 in
theorem quant_3 {C : Cf} {w : World} {f : Nat} {T : Rw} (h : LX C w f f T) (h1 : C.p.has [42] f = false) (h2 : C.p.has [43] f = false) (h3 : C.p.has [63] f = false) : Calls Tryz.prog 34 #[.pointer (some ⟨C.L, 0, none⟩)] w (RP C w (C.p.quant f) (QOk C w f f T)) := by
 have hq : C.p.quant f = match C.p.braces f with
     | .error e => .error e
     | .ok none => .ok none
     | .ok (some (n, m, b)) => .ok (some ({ kind := 9, n := n, m := m, mode := (C.p.mode b).1 }, (C.p.mode b).2)) := by unfold Pt.quant; rw [if_neg (by simp [h1]), if_neg (by simp [h2]), if_neg (by simp [h3])]; rfl
 have tl := h.tl
 have fn := h.fn
 have hk0 := Kept.refl w.heap.size C.L w
 have hB := h.hb
 have H1 := Lib.hid h1
 clear h1
 have H2 := Lib.hid h2
 clear h2
 have H3 := Lib.hid h3
 clear h3
 cases hb : C.p.braces f with
 | error x =>
   rw [hb] at hq
   have HS := Lib.hid hq
   have HBR := Lib.hid hb
   clear hq hb
   go_enter Tryz.func34, Tryz.ntmps34
   go_wp2_with fail
   refine Calls.mono (take_n h ⟨#[42]⟩ [42] rfl (by decide) H1.out) ?_
   rintro e1 w1 ⟨rfl, hx1, hkn⟩
   have hk1 := hk0.then hkn
   clear hkn
   go_wp2_with fail
   refine Calls.mono (take_n hx1 ⟨#[43]⟩ [43] rfl (by decide) H2.out) ?_
   rintro e2 w2 ⟨rfl, hx2, hkn⟩
   have hk2 := hk1.then hkn
   clear hkn
   go_wp2_with fail
   refine Calls.mono (take_n hx2 ⟨#[63]⟩ [63] rfl (by decide) H3.out) ?_
   rintro e3 w3 ⟨rfl, hx3, hkn⟩
   have hk3 := hk2.then hkn
   clear hkn
   go_wp2_with fail
   refine Calls.mono (braces_any hx3) ?_
   intro e4 w4 hr
   rw [HBR.out] at hr
   obtain ⟨rfl, hkn⟩ := hr
   exact ⟨rfl, rp_err HS.out ⟨rfl, (hk3.mono hB).trans hkn⟩⟩
 | ok r =>
   cases r with
   | none =>
     rw [hb] at hq
     have HS := Lib.hid hq
     have HBR := Lib.hid hb
     clear hq hb
     go_enter Tryz.func34, Tryz.ntmps34
     go_wp2_with fail
     refine Calls.mono (take_n h ⟨#[42]⟩ [42] rfl (by decide) H1.out) ?_
     rintro e1 w1 ⟨rfl, hx1, hkn⟩
     have hk1 := hk0.then hkn
     clear hkn
     go_wp2_with fail
     refine Calls.mono (take_n hx1 ⟨#[43]⟩ [43] rfl (by decide) H2.out) ?_
     rintro e2 w2 ⟨rfl, hx2, hkn⟩
     have hk2 := hk1.then hkn
     clear hkn
     go_wp2_with fail
     refine Calls.mono (take_n hx2 ⟨#[63]⟩ [63] rfl (by decide) H3.out) ?_
     rintro e3 w3 ⟨rfl, hx3, hkn⟩
     have hk3 := hk2.then hkn
     clear hkn
     go_wp2_with fail
     refine Calls.mono (braces_any hx3) ?_
     intro e4 w4 hr
     rw [HBR.out] at hr
     obtain ⟨rfl, hx4, hkn⟩ := hr
     have hk4 := hk3.then hkn
     clear hkn
     go_wp2_with fail
     go_ret
     exact rp_ok HS.out ⟨rfl, hx4, hk4⟩
   | some r =>
     obtain ⟨n, m, b⟩ := r
     have bb := braces_bd fn hb
     obtain ⟨bb1, bb2⟩ := bb
     have mb := mode_bd (p := C.p) (a := b) bb2
     obtain ⟨mb1, mb2⟩ := mb
     rw [hb] at hq
     have HS := Lib.hid hq
     have HBR := Lib.hid hb
     clear hq hb
     go_enter Tryz.func34, Tryz.ntmps34
     go_wp2_with fail
     refine Calls.mono (take_n h ⟨#[42]⟩ [42] rfl (by decide) H1.out) ?_
     rintro e1 w1 ⟨rfl, hx1, hkn⟩
     have hk1 := hk0.then hkn
     clear hkn
     go_wp2_with fail
     refine Calls.mono (take_n hx1 ⟨#[43]⟩ [43] rfl (by decide) H2.out) ?_
     rintro e2 w2 ⟨rfl, hx2, hkn⟩
     have hk2 := hk1.then hkn
     clear hkn
     go_wp2_with fail
     refine Calls.mono (take_n hx2 ⟨#[63]⟩ [63] rfl (by decide) H3.out) ?_
     rintro e3 w3 ⟨rfl, hx3, hkn⟩
     have hk3 := hk2.then hkn
     clear hkn
     go_wp2_with fail
     refine Calls.mono (braces_any hx3) ?_
     intro e4 w4 hr
     rw [HBR.out] at hr
     obtain ⟨rfl, hx4, hkn⟩ := hr
     have hk4 := hk3.then hkn
     clear hkn
     go_wp2_with fail
     refine Calls.mono (mode_any hx4) ?_
     rintro e5 w5 ⟨rfl, hx5, hkn⟩
     have hk5 := hk4.then hkn
     clear hkn
     go_wp2_with fail
     refine Calls.mono (put_any hx5 (.slice none 0 0) { kind := 9, n := n, m := m, mode := (C.p.mode b).1 } (ownR_nil _ _) (by omega)) ?_
     rintro e6 w6 ⟨rfl, hx6, hkn⟩
     have hkp := (hk5.mono hB).trans hkn
     clear hkn
     go_wp2_with fail
     go_ret
     exact rp_ok HS.out ⟨rfl, hx6, hkp⟩
theorem quant_any {C : Cf} {w : World} {f : Nat} {T : Rw} (h : LX C w f f T) : Calls Tryz.prog 34 #[.pointer (some ⟨C.L, 0, none⟩)] w (RP C w (C.p.quant f) (QOk C w f f T)) := by
 cases h1 : C.p.has [42] f with
 | true => exact quant_0 h h1
 | false =>
   cases h2 : C.p.has [43] f with
   | true => exact quant_1 h h1 h2
   | false =>
     cases h3 : C.p.has [63] f with
     | true => exact quant_2 h h1 h2 h3
     | false => exact quant_3 h h1 h2 h3
set_option maxHeartbeats 2000000 in
theorem broken_any {C : Cf} {w : World} {a f : Nat} {T : Rw} (h : LX C w a f T) : Calls Tryz.prog 104 #[.pointer (some ⟨C.L, 0, none⟩)] w (Pan C w (C.p.broken f a)) := by
 have hk0 := Kept.refl w.heap.size C.L w
 have hB := h.hb
 have hE := ended_any h
 by_cases he : a = C.p.n
 · have HS := Lib.hid (show C.p.broken f a = C.p.er 20 f by unfold Pt.broken; rw [if_pos he]; rfl)
   rw [decide_eq_true he] at hE
   have HE := Lib.hid hE
   clear hE he
   go_enter Tryz.func104, Tryz.ntmps104
   go_wp2_with fail
   refine Calls.mono HE.out ?_
   rintro e1 w1 ⟨rfl, q, rfl⟩
   have hx1 := h.drewN q
   have hk1 := hk0.drewN q
   go_wp2_with fail
   refine Calls.mono (fail_any hx1 20) ?_
   rintro e2 w2 ⟨rfl, hkn⟩
   rw [HS.out]
   exact ⟨rfl, rfl, (hk1.mono hB).trans hkn⟩
 · have HS := Lib.hid (show C.p.broken f a = C.p.er 26 f by unfold Pt.broken; rw [if_neg he]; rfl)
   rw [decide_eq_false he] at hE
   have HE := Lib.hid hE
   clear hE he
   go_enter Tryz.func104, Tryz.ntmps104
   go_wp2_with fail
   refine Calls.mono HE.out ?_
   rintro e1 w1 ⟨rfl, q, rfl⟩
   have hx1 := h.drewN q
   have hk1 := hk0.drewN q
   go_wp2_with fail
   refine Calls.mono (fail_any hx1 26) ?_
   rintro e2 w2 ⟨rfl, hkn⟩
   rw [HS.out]
   exact ⟨rfl, rfl, (hk1.mono hB).trans hkn⟩
def AtOk (C : Cf) (w : World) (f : Nat) (T : Rw) (b : Nat) : Ending → World → Prop := Ret C w (.tuple #[]) b f T
set_option maxHeartbeats 2000000 in
theorem close_any {C : Cf} {w : World} {a f : Nat} {T : Rw} (h : LX C w a f T) : Calls Tryz.prog 103 #[.pointer (some ⟨C.L, 0, none⟩)] w (RP C w (C.p.close f a) (AtOk C w f T)) := by
 have hk0 := Kept.refl w.heap.size C.L w
 have hB := h.hb
 cases h1 : C.p.has [41] a with
 | true =>
   have HS := Lib.hid (show C.p.close f a = .ok (a + 1) by unfold Pt.close; rw [if_pos h1])
   have H1 := Lib.hid h1
   clear h1
   go_enter Tryz.func103, Tryz.ntmps103
   go_wp2_with fail
   refine Calls.mono (take_y h ⟨#[41]⟩ [41] 1 rfl rfl (by decide) H1.out) ?_
   rintro e1 w1 ⟨rfl, hx1, hkn⟩
   have hk1 := hk0.then hkn
   clear hkn
   go_wp2_with fail
   go_end0
   exact rp_ok HS.out ⟨rfl, hx1, hk1⟩
 | false =>
   have HS := Lib.hid (show C.p.close f a = .error (C.p.broken f a) by unfold Pt.close; rw [if_neg (by simp [h1])])
   have H1 := Lib.hid h1
   clear h1
   go_enter Tryz.func103, Tryz.ntmps103
   go_wp2_with fail
   refine Calls.mono (take_n h ⟨#[41]⟩ [41] rfl (by decide) H1.out) ?_
   rintro e1 w1 ⟨rfl, hx1, hkn⟩
   have hk1 := hk0.then hkn
   clear hkn
   go_wp2_with fail
   refine Calls.mono (broken_any hx1) ?_
   rintro e2 w2 ⟨rfl, hkn⟩
   exact ⟨rfl, rp_err HS.out ⟨rfl, (hk1.mono hB).trans hkn⟩⟩
set_option maxHeartbeats 2000000 in
theorem dash_any {C : Cf} {w : World} {a f : Nat} {T : Rw} (h : LX C w a f T) : Calls Tryz.prog 94 #[.pointer (some ⟨C.L, 0, none⟩)] w (Ret C w (.bool (C.p.dash a)) (if C.p.dash a = true then a + 1 else a) f T) := by
 have hk0 := Kept.refl w.heap.size C.L w
 have hB := h.hb
 cases h1 : C.p.has [45, 93] a with
 | true =>
   rw [show C.p.dash a = false by unfold Pt.dash; rw [h1]; rfl, if_neg (by simp)]
   have H1 := Lib.hid h1
   clear h1
   go_enter Tryz.func94, Tryz.ntmps94
   go_wp2_with fail
   refine Calls.mono (has_any h ⟨#[45, 93]⟩ (by decide)) ?_
   intro e1 w1 hr
   rw [show (⟨#[45, 93]⟩ : ByteArray).data.toList = [45, 93] from rfl, H1.out] at hr
   obtain ⟨rfl, hb1⟩ := hr
   have hx1 := h.below hb1
   have hk1 := Kept.of_below (L := C.L) hb1
   clear hb1
   go_wp2_with fail
   go_ret
   exact ⟨rfl, hx1, hk1⟩
 | false =>
   cases h2 : C.p.has [45] a with
   | true =>
     rw [show C.p.dash a = true by unfold Pt.dash; rw [h1, h2]; rfl, if_pos rfl]
     have H1 := Lib.hid h1
     have H2 := Lib.hid h2
     clear h1 h2
     go_enter Tryz.func94, Tryz.ntmps94
     go_wp2_with fail
     refine Calls.mono (has_any h ⟨#[45, 93]⟩ (by decide)) ?_
     intro e1 w1 hr
     rw [show (⟨#[45, 93]⟩ : ByteArray).data.toList = [45, 93] from rfl, H1.out] at hr
     obtain ⟨rfl, hb1⟩ := hr
     have hx1 := h.below hb1
     have hk1 := Kept.of_below (L := C.L) hb1
     clear hb1
     go_wp2_with fail
     refine Calls.mono (take_y hx1 ⟨#[45]⟩ [45] 1 rfl rfl (by decide) H2.out) ?_
     rintro e2 w2 ⟨rfl, hx2, hkn⟩
     have hk2 := hk1.then hkn
     clear hkn
     go_wp2_with fail
     go_ret
     exact ⟨rfl, hx2, hk2⟩
   | false =>
     rw [show C.p.dash a = false by unfold Pt.dash; rw [h1, h2]; rfl, if_neg (by simp)]
     have H1 := Lib.hid h1
     have H2 := Lib.hid h2
     clear h1 h2
     go_enter Tryz.func94, Tryz.ntmps94
     go_wp2_with fail
     refine Calls.mono (has_any h ⟨#[45, 93]⟩ (by decide)) ?_
     intro e1 w1 hr
     rw [show (⟨#[45, 93]⟩ : ByteArray).data.toList = [45, 93] from rfl, H1.out] at hr
     obtain ⟨rfl, hb1⟩ := hr
     have hx1 := h.below hb1
     have hk1 := Kept.of_below (L := C.L) hb1
     clear hb1
     go_wp2_with fail
     refine Calls.mono (take_n hx1 ⟨#[45]⟩ [45] rfl (by decide) H2.out) ?_
     rintro e2 w2 ⟨rfl, hx2, hkn⟩
     have hk2 := hk1.then hkn
     clear hkn
     go_wp2_with fail
     go_ret
     exact ⟨rfl, hx2, hk2⟩
def IgOk (C : Cf) (w : World) (a f : Nat) (T : Rw) : Option Nat → Ending → World → Prop
 | none => Ret C w (.bool false) a f T
 | some b => Ret C w (.bool true) b f T
set_option maxHeartbeats 2000000 in
theorem ignores_any {C : Cf} {w : World} {a f : Nat} {T : Rw} (h : LX C w a f T) (c : Int) : Calls Tryz.prog 40 #[.pointer (some ⟨C.L, 0, none⟩), .int .i64 c] w (IgOk C w a f T (C.p.ign c a)) := by
 have hk0 := Kept.refl w.heap.size C.L w
 have hB := h.hb
 have c5 := h.cells.c5
 cases hx : C.p.x with
 | false =>
   have HS := Lib.hid (show C.p.ign c a = none by unfold Pt.ign; rw [if_pos hx])
   rw [hx] at c5
   clear hx
   go_enter Tryz.func40, Tryz.ntmps40
   go_wp2_with fail
   go_ret
   rw [HS.out]
   exact ⟨rfl, h, hk0⟩
 | true =>
   rw [hx] at c5
   by_cases h35 : c = 35
   · subst h35
     have hs : C.p.ign 35 a = some (match C.p.until 10 a with | none => C.p.n | some i => i + 1) := by unfold Pt.ign; rw [if_neg (by simp [hx]), if_pos rfl]; rfl
     have an := h.an
     have tl := h.tl
     clear hx
     cases hu : C.p.until 10 a with
     | none =>
       rw [hu] at hs
       have HS := Lib.hid (show C.p.ign 35 a = some C.p.n from hs)
       have HU := Lib.hid hu
       clear hs hu
       go_enter Tryz.func40, Tryz.ntmps40
       go_wp2_with fail
       refine Calls.mono (until_any h 10) ?_
       intro e1 w1 hr
       rw [show ((10 : UInt8).toNat : Int) = 10 from rfl, HU.out] at hr
       obtain ⟨rfl, hx1, hkn⟩ := hr
       have hk1 := hk0.then hkn
       clear hkn
       have d1 := hx1.cells.c1
       have d0 := hx1.cells.c0
       have fz := hx1.cells.fz 1
       obtain ⟨x, y, hv⟩ := len_sl hx1.sl
       rw [hv] at d0
       have HVV := Lib.hid hv
       clear hv
       go_wp2_with fail
       go_ret
       rw [HS.out]
       exact ⟨rfl, hx1.at_ (Nat.le_refl _) (by omega), hk1.setCell 1 _⟩
     | some i =>
       rw [hu] at hs
       have HS := Lib.hid (show C.p.ign 35 a = some (i + 1) from hs)
       have HU := Lib.hid hu
       clear hs hu
       go_enter Tryz.func40, Tryz.ntmps40
       go_wp2_with fail
       refine Calls.mono (until_any h 10) ?_
       intro e1 w1 hr
       rw [show ((10 : UInt8).toNat : Int) = 10 from rfl, HU.out] at hr
       obtain ⟨rfl, hx1, hkn⟩ := hr
       have hk1 := hk0.then hkn
       clear hkn
       go_wp2_with fail
       go_ret
       rw [HS.out]
       exact ⟨rfl, hx1, hk1⟩
   · have hs : C.p.ign c a = if 9 ≤ c ∧ c ≤ 13 ∨ c = 32 then some a else none := by unfold Pt.ign; rw [if_neg (by simp [hx]), if_neg h35]
     have hc35 : (c == 35) = false := by simpa using h35
     clear hx h35
     have hcs : (9 ≤ c ∧ c ≤ 13) ∨ c = 32 ∨ (c < 9) ∨ (13 < c ∧ c ≠ 32) := by omega
     rcases hcs with ⟨k1, k2⟩ | k | k | ⟨k, k2⟩
     · rw [if_pos (Or.inl ⟨k1, k2⟩)] at hs
       have HS := Lib.hid hs
       clear hs
       go_enter Tryz.func40, Tryz.ntmps40
       go_wp2_with fail
       go_ret
       rw [HS.out]
       exact ⟨rfl, h, hk0⟩
     · subst k
       rw [if_pos (Or.inr rfl)] at hs
       have HS := Lib.hid hs
       clear hs hc35
       go_enter Tryz.func40, Tryz.ntmps40
       go_wp2_with fail
       go_ret
       rw [HS.out]
       exact ⟨rfl, h, hk0⟩
     · rw [if_neg (by omega)] at hs
       have HS := Lib.hid hs
       have k2 : ¬ 9 ≤ c := by omega
       have k3 : (c == 32) = false := by rw [beq_eq_false_iff_ne]; omega
       clear hs
       go_enter Tryz.func40, Tryz.ntmps40
       go_wp2_with fail
       go_ret
       rw [HS.out]
       exact ⟨rfl, h, hk0⟩
     · rw [if_neg (by omega)] at hs
       have HS := Lib.hid hs
       have k4 : 9 ≤ c := by omega
       have k5 : decide (c ≤ 13) = false := by simp; omega
       have k3 : (c == 32) = false := by simpa using k2
       clear hs k2
       go_enter Tryz.func40, Tryz.ntmps40
       go_wp2_with fail
       go_ret
       rw [HS.out]
       exact ⟨rfl, h, hk0⟩
end Go.Proofs.YtkcmjcgjfjfimaaGreatDoor.tkw
end
section
namespace Go.Proofs.YtkcmjcgjfjfimaaGreatDoor.tkw
open Go Go.RowKit Go.Maps utfp utfw ucdp setp setw prp tkp
def tkR (v : Value) (t : Tk) : Array Value := #[.int .i64 t.kind, .int .i64 0, .int .i64 0, .int .i64 t.c, v, .bool t.neg, .int .i64 t.n, .int .i64 t.m, .int .i64 t.mode, .string t.name, .int .i64 t.on, .int .i64 t.off]
theorem tkR_one {w : World} {base : Nat} {v : Value} {t : Tk} (h : OwnR w base v t.set) : ∀ u ∈ (tkR v t).toList, u.oneCell' = true := by
 intro u hu
 obtain ⟨x, y, rfl⟩ : ∃ x y, v = .slice x t.set.length y := ownR_len h
 simp only [tkR, List.mem_cons, List.not_mem_nil, or_false] at hu
 rcases hu with rfl | rfl | rfl | rfl | rfl | rfl | rfl | rfl | rfl | rfl | rfl | rfl <;> rfl
theorem tokInfo : (Tryz.prog.info? 30).map (·.size) = some 12 := by kernel_rfl
theorem sizeT (w : World) : (sizeOf 30).run Tryz.prog w = .ok 12 w := by kernel_rfl
theorem run_store_tok (w : World) (g : Nat) (old cs : Array Value) (hg : w.heap[g]? = some (.cells old 30 (0, 0))) (hs : old.size = 12) (hc : cs.size = 12) (h1 : ∀ u ∈ cs.toList, u.oneCell' = true) :
   (storeVar 30 ⟨g, 0, none⟩ (.agg cs)).run Tryz.prog w = .ok () (w.setRow g cs) := by
 have h := run_storeCells_at (P := Tryz.prog) g 0 30 cs.toList 0 old w hg (by simp; omega) h1
 have e : (old.toList.take (0 + 0) ++ cs.toList ++ old.toList.drop (0 + 0 + cs.toList.length)).toArray = cs := by
   have h2 : old.toList.drop (0 + 0 + cs.toList.length) = [] := List.drop_eq_nil_of_le (by simp; omega)
   rw [h2]
   simp
 rw [e] at h
 unfold storeVar
 simp [Sem.run_bind, sizeT, Value.cells, hc, Result.andThen, h]
theorem wpList_store_tok {ops : Array Oper} {rest : List Oper} {o : Oper} {a : Act} {w : World} {Q : Exit → Act → World → Prop} (hgd : o.guard = none) (hd : o.dst = none) (x y : Operand) (ho : o.op = .store 30 x y)
   (g : Nat) (hx : a.eval x = .pointer (some ⟨g, 0, none⟩)) (old cs : Array Value) (hg : w.heap[g]? = some (.cells old 30 (0, 0))) (hs : old.size = 12) (hc : cs.size = 12) (h1 : ∀ u ∈ cs.toList, u.oneCell' = true) (hy : a.eval y = .agg cs)
   (h : wpList Tryz.prog ops Q rest a (w.setRow g cs)) : wpList Tryz.prog ops Q (o :: rest) a w :=
 wpList_plain hgd fun K hK => by
   unfold Oper.wp execOp
   simp only [ho, hx, hy, Instr.storeAt, Instr.sureAddr, Sem.run_bind, Sem.run_pure, Result.andThen_ok, run_store_tok w g old cs hg hs hc h1]
   have := hK _ _ h
   simpa [Oper.upon, hd, Act.put] using this
theorem wpList_load_tok {ops : Array Oper} {rest : List Oper} {o : Oper} {a : Act} {w : World} {Q : Exit → Act → World → Prop} (hgd : o.guard = none) (x : Operand) (ho : o.op = .load 30 x)
   (g : Nat) (hx : a.eval x = .pointer (some ⟨g, 0, none⟩)) (cs : Array Value) (hg : w.heap[g]? = some (.cells cs 30 (0, 0))) (hc : cs.size = 12)
   (h : wpList Tryz.prog ops Q rest (a.put o.dst (.agg cs)) w) : wpList Tryz.prog ops Q (o :: rest) a w := by
 exact wpList_load_row hgd 30 x ho g hx 30 cs (0, 0) _ hg Tryz.underlying30 rfl (by rw [tokInfo, hc]) h
theorem results_tok {fn : Func} {p : Tmp} (h : fn.results = #[.cell p 30]) (tmps : Array Value) (w : World) (g : Nat) (cs : Array Value) (hp : tmps.getD p undef = .pointer (some ⟨g, 0, none⟩)) (hg : w.heap[g]? = some (.cells cs 30 (0, 0))) (hc : cs.size = 12) :
   (results fn tmps).run Tryz.prog w = .ok (.agg cs) w := by
 exact results_cell_row h tmps w g 30 cs (0, 0) _ hp hg Tryz.underlying30 rfl (by rw [tokInfo, hc])
theorem results_tok2 {fn : Func} {p q : Tmp} (h : fn.results = #[.cell p 30, .tmp q]) (tmps : Array Value) (w : World) (g : Nat) (cs : Array Value) (hp : tmps.getD p undef = .pointer (some ⟨g, 0, none⟩)) (hg : w.heap[g]? = some (.cells cs 30 (0, 0))) (hc : cs.size = 12) :
   (results fn tmps).run Tryz.prog w = .ok (.tuple #[.agg cs, tmps.getD q undef]) w := by
 have hp' : tmps[p]?.getD undef = .pointer (some ⟨g, 0, none⟩) := by simpa using hp
 simp [results, h, hp', asAddr, run_loadVar_row w g 30 30 cs (0, 0) _ hg Tryz.underlying30 rfl (by rw [tokInfo, hc])]
theorem setRow_other (w : World) (g k : Nat) (cs : Array Value) (h : k ≠ g) : (w.setRow g cs).heap[k]? = w.heap[k]? := by
 simp only [World.setRow, Array.getElem?_modify]
 rw [if_neg (by omega)]
theorem setRow_size (w : World) (g : Nat) (cs : Array Value) : (w.setRow g cs).heap.size = w.heap.size := by simp [World.setRow]
theorem Kept.setRow {B L : Nat} {a w : World} (h : Kept B L a w) {g : Nat} (hg : B ≤ g) (cs : Array Value) : Kept B L a (w.setRow g cs) :=
 h.trans ⟨rfl, rfl, rfl, by rw [setRow_size]; exact Nat.le_refl _, fun k hk _ => setRow_other w g k cs (by omega)⟩
theorem ownsRow_heap {w w' : World} {base : Nat} {e : TypeId} {size : Nat} {v : Value} {n : Nat} {xs : List Value} (h : w.ownsRow base e size v n xs) (hb : ∀ k, v.ownBlock = some k → w'.heap[k]? = w.heap[k]?) : w'.ownsRow base e size v n xs := by
 obtain ⟨h1, h2 | ⟨g, cap, cur, hv, hg, hh, r⟩⟩ := h
 · exact ⟨h1, Or.inl h2⟩
 · exact ⟨h1, Or.inr ⟨g, cap, cur, hv, hg, (hb g (by rw [hv]; rfl)).trans hh, r⟩⟩
theorem ownR_setRow {w : World} {base g : Nat} {v : Value} {D : List Rg} {old cs : Array Value} (h : OwnR w base v D) (hg : w.heap[g]? = some (.cells old 30 (0, 0))) : OwnR (w.setRow g cs) base v D := by
 refine ⟨ownsRow_heap h.1 fun k hk => setRow_other w g k cs ?_, h.2⟩
 rintro rfl
 obtain ⟨_, ⟨rfl, _⟩ | ⟨g1, c1, cu1, rfl, _, k1, _⟩⟩ := h.1
 · cases hk
 · simp only [Value.ownBlock, Option.some.injEq] at hk
   subst hk
   rw [hg] at k1
   simp only [Option.some.injEq, Obj.cells.injEq] at k1
   exact absurd k1.2.1 (by decide)
theorem LX.row_lt {C : Cf} {w : World} {a f : Nat} {T : Rw} (h : LX C w a f T) {g : Nat} (hg : w.heap.size ≤ g) : T.v.ownBlock ≠ some g := by
 obtain ⟨_, l, _, _, h3⟩ := h.lx
 intro e
 have := (World.ownsRow.lt h3 g e).2
 omega
theorem LX.setRow {C : Cf} {w : World} {a f : Nat} {T : Rw} (h : LX C w a f T) {g : Nat} {old cs : Array Value} (hg : w.heap[g]? = some (.cells old 30 (0, 0))) (hb : C.base ≤ g) (hT : T.v.ownBlock ≠ some g) : LX C (w.setRow g cs) a f T := by
 obtain ⟨h1, l, h2, h3, h4⟩ := h.lx
 obtain ⟨n1, i1⟩ := h.e1
 obtain ⟨n2, i2⟩ := h.e2
 obtain ⟨n3, i3⟩ := h.e3
 have hlb := h.ok.lb
 have b1 := h.ok.b1.1
 have b2 := h.ok.b2.1
 have b3 := h.ok.b3.1
 have hL := h.ok.hL
 refine ⟨h.ok, h.old.trans ⟨rfl, rfl, rfl, by rw [setRow_size]; exact Nat.le_refl _, fun k hk => setRow_other w g k cs (by omega)⟩, ⟨(setRow_other w g C.L cs (by omega)).trans h1, l, h2, fun p hp => ownR_setRow (h3 p hp) hg, ownsRow_heap h4 fun k hk => setRow_other w g k cs (fun e => hT (by rw [← e]; exact hk))⟩, ⟨n1, mapI_block i1 (setRow_other w g _ cs (by omega))⟩, ⟨n2, mapI_block i2 (setRow_other w g _ cs (by omega))⟩, ⟨n3, mapI_block i3 (setRow_other w g _ cs (by omega))⟩, by rw [setRow_size]; exact h.hb, h.an, h.fn, h.tl⟩
def RetT (C : Cf) (w : World) (t : Tk) (b f : Nat) (T : Rw) (e : Ending) (w' : World) : Prop := ∃ v, e = .returned (.agg (tkR v t)) ∧ OwnR w' w.heap.size v t.set ∧ LX C w' b f T ∧ Kept w.heap.size C.L w w'
def RetTB (C : Cf) (w : World) (t : Tk) (r : Bool) (b f : Nat) (T : Rw) (e : Ending) (w' : World) : Prop := ∃ v, e = .returned (.tuple #[.agg (tkR v t), .bool r]) ∧ OwnR w' w.heap.size v t.set ∧ LX C w' b f T ∧ Kept w.heap.size C.L w w'
def tk0 : Tk := { kind := 0 }
end Go.Proofs.YtkcmjcgjfjfimaaGreatDoor.tkw
end
