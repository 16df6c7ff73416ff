/- Texts that TreeCountsLaw leans on, merged: what the functions of the program answer. -/
import Derived.Deep.Cut
import Derived.Test.YtpjaahojoabgjaaBTr05
section
namespace Go.Proofs.Ytpjaahojoabgjaa.trw
open Go.Sort Go Go.RowKit trp
theorem flat_at {α : Type} (f : α → List Value) (h : ∀ a, (f a).length = 12) : ∀ (l : List α) (i j : Nat), j < 12 → (l.flatMap f)[i * 12 + j]? = (l[i]?).bind fun a => (f a)[j]?
 | [], i, j, _ => by simp
 | a :: l, 0, j, hj => by
   rw [List.flatMap_cons, List.getElem?_append_left (by rw [h]; omega)]
   simp
 | a :: l, i + 1, j, hj => by
   rw [List.flatMap_cons, List.getElem?_append_right (by rw [h]; omega), h, show (i + 1) * 12 + j - 12 = i * 12 + j by omega, flat_at f h l i j hj]
   simp
theorem pre_nd {w : World} : ∀ (f : F) (pp : List Nat) (i b o : Nat), FAt w b o f → ∀ q ∈ pre pp i f, NdAt w q.1
 | .nil, _, _, _, _, _, q, hq => by simp [pre] at hq
 | .cons x k r, pp, i, b, o, h, q, hq => by
   simp only [pre, List.mem_cons, List.mem_append] at hq
   rcases hq with rfl | hq | hq
   · exact fAt_head h
   · obtain ⟨a, cap, _, _, _, h0 | ⟨b', o', _, hk⟩⟩ := h.2.2.1
     · cases k with
       | nil => simp [pre] at hq
       | cons _ _ _ => simp [F.len] at h0
     · exact pre_nd k _ _ b' o' hk q hq
   · exact pre_nd r _ _ b (o + 12) h.2.2.2 q hq
theorem preT_nd {w : World} {t : Nd} (h : NdAt w t) : ∀ q ∈ preT t, NdAt w q.1 := by
 intro q hq
 unfold preT at hq
 simp only [pre, List.append_nil, List.mem_cons] at hq
 rcases hq with rfl | hq
 · exact h
 · obtain ⟨a, cap, _, _, _, h0 | ⟨b', o', _, hk⟩⟩ := h.2.2
   · cases ht : t.2 with
     | nil => rw [ht] at hq; simp [pre] at hq
     | cons _ _ _ => rw [ht] at h0; simp [F.len] at h0
   · exact pre_nd t.2 _ _ b' o' hk q hq
def RowN (w : World) (v : Value) (P : List (Nd × List Nat)) : Prop :=
 ∃ a cap, v = .slice a P.length cap ∧ P.length ≤ cap ∧ cap ≤ 9223372036854775807 ∧ (P = [] ∨ ∃ g o, a = some ⟨g, o, none⟩ ∧ ∀ (i : Nat) q, P[i]? = some q → (∀ j v, (ndC q.1.1)[j]? = some v → w.cell? ⟨g, o + i * 12 + j, none⟩ = some v) ∧ NdAt w q.1)
theorem rowN_below {w w' : World} {v : Value} {P : List (Nd × List Nat)} (h : RowN w v P) (hb : Below w.heap.size w w') : RowN w' v P := by
 obtain ⟨a, cap, h1, h2, h3, h4 | ⟨g, o, h4, h5⟩⟩ := h
 · exact ⟨a, cap, h1, h2, h3, Or.inl h4⟩
 · exact ⟨a, cap, h1, h2, h3, Or.inr ⟨g, o, h4, fun i q hi => ⟨fun j v hj => below_cell hb ((h5 i q hi).1 j v hj), below_nd hb (h5 i q hi).2⟩⟩⟩
theorem rowN_of {w : World} {base : Nat} {v : Value} {P : List (Nd × List Nat)} (h : w.ownsRow base 25 12 v P.length (P.flatMap fun q => ndC q.1.1)) (hn : ∀ q ∈ P, NdAt w q.1) : RowN w v P := by
 rcases h.2 with ⟨rfl, h0⟩ | ⟨g, cap, _, rfl, _, _, hc, hm, _, _⟩
 · exact ⟨none, 0, by rw [h0], by omega, by omega, Or.inl (List.length_eq_zero_iff.1 h0)⟩
 · refine ⟨_, cap, rfl, hc, by unfold maxLen at hm; omega, Or.inr ⟨g, 0, rfl, fun i q hi => ⟨fun j v hj => ?_, hn q (List.mem_of_getElem? hi)⟩⟩⟩
   have hlt := (List.getElem?_eq_some_iff.1 hi).1
   have hj2 : j < 12 := (List.getElem?_eq_some_iff.1 hj).1
   rw [Nat.zero_add, World.ownsRow.cellAt h (i * 12 + j) (by omega), flat_at _ (fun _ => rfl) P i j hj2, hi]
   exact hj
def LkNodes (P : List (Nd × List Nat)) (base B : Nat) : Lk Value where
 P := P
 g := 39
 lb := #[.pointer (some ⟨B, 0, none⟩)]
 ans := fun _ => true
 Inv := fun i s w => One w B s 23 ∧ w.ownsRow base 25 12 s i ((P.take i).flatMap fun q => ndC q.1.1)
 Own := fun s k => k = B ∨ s.ownBlock = some k
theorem lkNodes_ok {w0 : World} {P : List (Nd × List Nat)} {B : Nat} (hB : w0.heap.size ≤ B) : LookOk w0 (LkNodes P w0.heap.size B) where
 eg := enters_of Try.func39 (by kernel_rfl) rfl
 low := fun i s w k hi ho => by
   rcases ho with rfl | ho
   · exact ⟨hB, One.lt hi.1⟩
   · exact World.ownsRow.lt hi.2 k ho
 stable := fun i s w w' hi hs _ => ⟨(hs B (Or.inl rfl)).trans hi.1, ownsRow_heap hi.2 fun k hk => hs k (Or.inr hk)⟩
 call := fun i q s w pv hq hlt _ hi hb hn hp => by
   have hq : P[i]? = some q := hq
   refine (nodes1_any pv hn hi.1 hi.2 hb.size (by omega)).mono ?_
   rintro e w' ⟨rfl, s', o1, o2, os, tp, ot, sz, blk, ha⟩
   refine ⟨rfl, s', ⟨o1, ?_⟩, ⟨os, tp, ot, sz, fun k hk hno => blk k hk (fun e => hno (Or.inl e)) (fun e => hno (Or.inr e)), fun k hk ho => ?_⟩⟩
   · rw [List.take_add_one, hq, Option.toList_some, List.flatMap_append]
     simpa using o2
   · rcases ho with h | h
     · exact Or.inl h
     · rcases ha with e | ⟨g, e, hg⟩
       · exact Or.inr (e ▸ h)
       · rw [e] at h
         have := Option.some.inj h
         omega
set_option maxRecDepth 100000 in
set_option maxHeartbeats 1000000 in
theorem pnodes_any (x : Lab) (k : F) (w : World) (hn : NdAt w (x, k)) (hs : k.size + 1 ≤ 4000) : Calls Try.prog 31 #[ndV x] w fun e w' => ∃ v, e = .returned v ∧ RowN w' v (preT (x, k)) ∧ Below w.heap.size w w' := by
 have HW := Lib.hid (fun (B : Nat) (w3 : World) (hB : B = w.heap.size) (hb : Below w.heap.size w w3) (h1 : One w3 (B + 1) (.slice none 0 0) 23) =>
   walk_any w (LkNodes (preT (x, k)) w.heap.size (B + 1)) (lkNodes_ok (by omega)) x k w3 (.slice none 0 0) hb hn rfl ⟨h1, World.ownsRow_nil _ _ _ _⟩)
 have hl := preT_length (x, k)
 simp only at hl
 have HR := Lib.hid (fun B m (h : Stopped (LkNodes (preT (x, k)) w.heap.size B) m) => show (preT (x, k)).take m = preT (x, k) ∧ m = (preT (x, k)).length by
   have e := stopped_true h (fun _ => rfl)
   have e : (preT (x, k)).take m = (preT (x, k)).take 4001 := e
   rw [List.take_of_length_le (i := 4001) (by omega)] at e
   have hm : m ≤ (preT (x, k)).length := h.2.2.1
   have := congrArg List.length e
   rw [List.length_take] at this
   exact ⟨e, by omega⟩)
 have HN := Lib.hid (fun w1 (hb : Below w.heap.size w w1) => preT_nd (below_nd hb hn))
 obtain ⟨sa, sc, hsv, _⟩ := hn.2.1
 obtain ⟨ka, kc, hkv, _⟩ := hn.2.2
 clear hn hl
 obtain ⟨P, hP⟩ : ∃ P, preT (x, k) = P := ⟨_, rfl⟩
 rw [hP] at HR HN HW ⊢
 clear hP
 obtain ⟨xk, xa, xc, xs, xset, xneg, xn, xm, xmode, xname, xon, xoff, xkv⟩ := x
 simp only at hsv hkv
 subst hsv hkv
 unfold ndV at *
 go_enter Try.func31, Try.ntmps31
 go_wp2_with fail
 refine (HW.out _ _ rfl ((below_alloc w _).alloc (by simp) _) (alloc_at1 _ _ _ _)).mono ?_
 rintro e w4 ⟨rfl, m, s', hst, ⟨hone, hown⟩, hchg, hbel⟩
 obtain ⟨r1, r2⟩ := HR.out _ m hst
 have hown : w4.ownsRow w.heap.size 25 12 s' m ((P.take m).flatMap fun q => ndC q.1.1) := hown
 rw [r1, r2] at hown
 have HP := Lib.hid (rowN_of hown (HN.out w4 hbel))
 have c1 := hone.cell
 clear hst hone hown hchg r1 r2
 go_wp2_with fail
 go_ret
 exact ⟨s', rfl, HP.out, hbel⟩
theorem all2_drop {l m : List (Nd × List Nat)} {i : Nat} {a b : Nd × List Nat} (ha : l[i]? = some a) (hb : m[i]? = some b) : all2 (l.drop i) (m.drop i) = (alikeP a.1 b.1 && all2 (l.drop (i + 1)) (m.drop (i + 1))) := by
 obtain ⟨h1, rfl⟩ := List.getElem?_eq_some_iff.1 ha
 obtain ⟨h2, rfl⟩ := List.getElem?_eq_some_iff.1 hb
 rw [List.drop_eq_getElem_cons h1, List.drop_eq_getElem_cons h2, all2]
set_option maxRecDepth 100000 in
set_option maxHeartbeats 4000000 in
theorem eqn_any (v1 v2 : Value) (l m : List (Nd × List Nat)) (w : World) (h1 : RowN w v1 l) (h2 : RowN w v2 m) : Calls Try.prog 30 #[v1, v2, .func (.func 32) #[] #[]] w (BoolB (all2 l m) w) := by
 have eg : ∀ args w, (callFunc 32 args).run Try.prog w = .ok (.enter 32 args) w := enters_of Try.func32 (by kernel_rfl) rfl
 obtain ⟨a1, c1, rfl, p1, p2, p3⟩ := h1
 obtain ⟨a2, c2, rfl, q1, q2, q3⟩ := h2
 have P3 := Lib.hid p3
 have Q3 := Lib.hid q3
 clear p3 q3
 obtain ⟨R, hR⟩ : ∃ R, all2 l m = R := ⟨_, rfl⟩
 rw [hR]
 by_cases hl : l.length = m.length
 · have HR := Lib.hid hR
   clear hR
   rw [← hl] at q1 ⊢
   have HLn := Lib.hid hl
   clear hl
   go_enter Try.func30, Try.ntmps30
   go_wp2_with fail
   go_loopw [7, 15] (fun _ iv wr => ∃ i : Nat, iv = .int .i64 i ∧ i ≤ l.length ∧ Hid (all2 (l.drop i) (m.drop i) = R) ∧ Below w.heap.size w wr) (fun _ iv _ => l.length - (intOf iv).toNat)
   case atStart => exact ⟨0, rfl, Nat.zero_le _, HR, Below.refl _ _⟩
   case round =>
     obtain ⟨i, rfl, hi, HA, hb⟩ := hrel
     by_cases hend : i = l.length
     · have HRes := Lib.hid (show true = R by rw [← HA.out, List.drop_eq_nil_of_le (by omega), List.drop_eq_nil_of_le (by have := HLn.out; omega)]; rfl)
       subst hend
       go_wp2_with fail
       go_ret
       exact ⟨by rw [← HRes.out]; rfl, hb⟩
     · have hlt : i < l.length := by omega
       have hl := HLn.out
       rcases P3.out with h0 | ⟨b1, o1, rfl, k1⟩
       · rw [h0] at hlt
         simp at hlt
       rcases Q3.out with h0 | ⟨b2, o2, rfl, k2⟩
       · rw [h0] at hl
         simp at hl
         rw [hl] at hlt
         simp at hlt
       have hx1 := List.getElem?_eq_getElem hlt
       have hx2 := List.getElem?_eq_getElem (show i < m.length by omega)
       obtain ⟨x1, y1⟩ : ∃ x, l[i]'hlt = x := ⟨_, rfl⟩
       obtain ⟨x2, y2⟩ : ∃ x, m[i]'(by omega) = x := ⟨_, rfl⟩
       rw [y1] at hx1
       rw [y2] at hx2
       obtain ⟨e1, n1⟩ := k1 i x1 hx1
       obtain ⟨e2, n2⟩ := k2 i x2 hx2
       have hstep := all2_drop hx1 hx2
       rw [HA.out] at hstep
       have HC := Lib.hid (fun w1 (hb1 : Below wr.heap.size wr w1) => alike_any x1.1 x2.1 w1 (below_nd hb1 (below_nd hb n1)) (below_nd hb1 (below_nd hb n2)))
       obtain ⟨q, hqq⟩ : ∃ q, alikeP x1.1 x2.1 = q := ⟨_, rfl⟩
       rw [hqq] at hstep HC
       have HN := Lib.hid hstep.symm
       have E1 := Lib.hid (fun j v hj => below_cell hb (e1 j v hj))
       have E2 := Lib.hid (fun j v hj => below_cell hb (e2 j v hj))
       have a1 := add_row b1 o1 i 12
       have a2 := add_row b2 o2 i 12
       clear hl hx1 hx2 y1 y2 e1 e2 n1 n2 hstep hqq k1 k2 HA
       have i1 : (i : Int) < (l.length : Int) := by omega
       go_wp2_with fail
       refine wp_region_held_drew (S := fun w' => Below wr.heap.size wr w') (by kernel_rfl) (below_drew wr) (fun hHeld => ?_)
       refine wpAnyH_take (i := 0) (v := ?_) rfl (by kernel_rfl) (by kernel_rfl) (by kernel_rfl) (fun _ _ _ h => h) (Or.inl ⟨by rfl, ?_⟩) (by assumption) ?_
       rotate_left
       · intro w' hSw
         go_simp
         try rfl
       simp only [Act.put, List.setIfInBounds_toArray, List.set_cons_zero, List.set_cons_succ, List.getElem_toArray, List.getElem_cons_zero]
       refine wpAnyH_take (i := 1) (v := ?_) rfl (by kernel_rfl) (by kernel_rfl) (by kernel_rfl) (fun _ _ _ h => h) (Or.inl ⟨by rfl, ?_⟩) (by assumption) ?_
       rotate_left
       · intro w' hSw
         go_simp
         try rfl
       simp only [Act.put, List.setIfInBounds_toArray, List.set_cons_zero, List.set_cons_succ, List.getElem_toArray, List.getElem_cons_succ, List.getElem_cons_zero]
       refine wpAnyH_take (i := 2) (v := ?_) rfl (by kernel_rfl) (by kernel_rfl) (by kernel_rfl) (fun _ _ _ h => h) (Or.inl ⟨by rfl, ?_⟩) (by assumption) ?_
       rotate_left
       · intro w' hSw
         go_simp
         try rfl
       simp only [Act.put, List.setIfInBounds_toArray, List.set_cons_zero, List.set_cons_succ, List.getElem_toArray, List.getElem_cons_succ, List.getElem_cons_zero]
       refine wpAnyH_take (i := 3) (v := ?_) rfl (by kernel_rfl) (by kernel_rfl) (by kernel_rfl) (fun _ _ _ h => h) (Or.inl ⟨by rfl, ?_⟩) (by assumption) ?_
       rotate_left
       · intro w' hSw
         go_simp
         try rfl
       simp only [Act.put, List.setIfInBounds_toArray, List.set_cons_zero, List.set_cons_succ, List.getElem_toArray, List.getElem_cons_succ, List.getElem_cons_zero]
       refine wpAnyH_take (i := 4) (v := ?_) rfl (by kernel_rfl) (by kernel_rfl) (by kernel_rfl) (fun _ _ _ h => h) (Or.inl ⟨by rfl, ?_⟩) (by assumption) ?_
       rotate_left
       · intro w' hSw
         refine exec_load_nd (x := .tmp 21) (b := b1) (off := o1 + i * 12) (l := x1.1.1) ?_ ?_ (fun j v hj => below_cell hSw (E1.out j v hj)) <;> rfl
       simp only [Act.put, List.setIfInBounds_toArray, List.set_cons_zero, List.set_cons_succ, List.getElem_toArray, List.getElem_cons_succ, List.getElem_cons_zero]
       refine wpAnyH_take (i := 5) (v := ?_) rfl (by kernel_rfl) (by kernel_rfl) (by kernel_rfl) (fun _ _ _ h => h) (Or.inl ⟨by rfl, ?_⟩) (by assumption) ?_
       rotate_left
       · intro w' hSw
         go_simp
         try rfl
       simp only [Act.put, List.setIfInBounds_toArray, List.set_cons_zero, List.set_cons_succ, List.getElem_toArray, List.getElem_cons_succ, List.getElem_cons_zero]
       refine wpAnyH_take (i := 6) (v := ?_) rfl (by kernel_rfl) (by kernel_rfl) (by kernel_rfl) (fun _ _ _ h => h) (Or.inl ⟨by rfl, ?_⟩) (by assumption) ?_
       rotate_left
       · intro w' hSw
         go_simp
         try rfl
       simp only [Act.put, List.setIfInBounds_toArray, List.set_cons_zero, List.set_cons_succ, List.getElem_toArray, List.getElem_cons_succ, List.getElem_cons_zero]
       refine wpAnyH_take (i := 7) (v := ?_) rfl (by kernel_rfl) (by kernel_rfl) (by kernel_rfl) (fun _ _ _ h => h) (Or.inl ⟨by rfl, ?_⟩) (by assumption) ?_
       rotate_left
       · intro w' hSw
         go_simp
         try rfl
       simp only [Act.put, List.setIfInBounds_toArray, List.set_cons_zero, List.set_cons_succ, List.getElem_toArray, List.getElem_cons_succ, List.getElem_cons_zero]
       refine wpAnyH_take (i := 8) (v := ?_) rfl (by kernel_rfl) (by kernel_rfl) (by kernel_rfl) (fun _ _ _ h => h) (Or.inl ⟨by rfl, ?_⟩) (by assumption) ?_
       rotate_left
       · intro w' hSw
         refine exec_load_nd (x := .tmp 25) (b := b2) (off := o2 + i * 12) (l := x2.1.1) ?_ ?_ (fun j v hj => below_cell hSw (E2.out j v hj)) <;> rfl
       simp only [Act.put, List.setIfInBounds_toArray, List.set_cons_zero, List.set_cons_succ, List.getElem_toArray, List.getElem_cons_succ, List.getElem_cons_zero]
       refine wpAnyH_ready (rs := [9]) (by kernel_rfl) (by simp) ?_
       refine AllReadyH.cons rfl (fun K hK => ?_) AllReadyH.nil
       go_simp
       refine (HC.out _ hHeld).mono ?_
       rintro e w4 ⟨rfl, hb5⟩
       have hb4 : Below wr.heap.size wr w4 := hHeld.trans (hb5.mono hHeld.size)
       refine hK.out _ _ hb4 (fun hHeld => ?_)
       clear hK K
       try simp only [Act.put, List.setIfInBounds_toArray, List.set_cons_zero, List.set_cons_succ, List.getElem_toArray, List.getElem_cons_succ, List.getElem_cons_zero]
       refine wpAnyH_take (i := 10) (v := ?_) rfl (by kernel_rfl) (by kernel_rfl) (by kernel_rfl) (fun _ _ _ h => h) (Or.inl ⟨by rfl, ?_⟩) (by assumption) ?_
       rotate_left
       · intro w' hSw
         go_simp
         try rfl
       simp only [Act.put, List.setIfInBounds_toArray, List.set_cons_zero, List.set_cons_succ, List.getElem_toArray, List.getElem_cons_succ, List.getElem_cons_zero]
       refine wpAnyH_done (by kernel_rfl) ?_ _
       cases hq : q with
       | false =>
         rw [hq] at HN
         go_wp2_with fail
         go_ret
         exact ⟨by rw [← HN.out]; rfl, hb.trans (hb4.mono hb.size)⟩
       | true =>
         rw [hq] at HN
         have HN2 := Lib.hid (show all2 (l.drop (i + 1)) (m.drop (i + 1)) = R by rw [← HN.out]; rfl)
         go_wp2_with fail
         go_roundw
         case rel => exact ⟨i + 1, by go_num, by omega, HN2, hb.trans (hb4.mono hb.size)⟩
         case measure => simp [intOf]; omega
 · have hlI : ((l.length : Int) == (m.length : Int)) = false := by simp; omega
   have hR2 := Lib.hid (show R = false by rw [← hR]; cases h : all2 l m with | false => rfl | true => exact absurd (all2_len h) hl)
   clear hR
   go_enter Try.func30, Try.ntmps30
   go_wp2_with fail
   go_ret
   exact ⟨by rw [hR2.out]; rfl, Below.refl _ _⟩
set_option maxRecDepth 100000 in
set_option maxHeartbeats 2000000 in
theorem psame_any (a b : Nd) (w : World) (ha : NdAt w a) (hb : NdAt w b) (sa : a.2.size + 1 ≤ 4000) (sb : b.2.size + 1 ≤ 4000) : Calls Try.prog 15 #[ndV a.1, ndV b.1] w (BoolB (sameT a b) w) := by
 have HA := Lib.hid (fun w1 (h : Below w.heap.size w w1) => pnodes_any a.1 a.2 w1 (below_nd h ha) sa)
 have HB := Lib.hid (fun w1 (h : Below w.heap.size w w1) => pnodes_any b.1 b.2 w1 (below_nd h hb) sb)
 have eg1 : ∀ args w, (callFunc 31 args).run Try.prog w = .ok (.enter 31 args) w := enters_of Try.func31 (by kernel_rfl) rfl
 have eg2 : ∀ args w, (callFunc 30 args).run Try.prog w = .ok (.enter 30 args) w := enters_of Try.func30 (by kernel_rfl) rfl
 rw [← all2_preT]
 have hb1 := (below_alloc w (.cells (ndC a.1).toArray 25)).alloc (by simp) (.cells (ndC b.1).toArray 25)
 have hr0 : ((w.alloc (.cells (ndC a.1).toArray 25)).alloc (.cells (ndC b.1).toArray 25)).heap[w.heap.size]? = some (.cells (ndC a.1).toArray 25) := by rw [heap_alloc_old _ _ (by simp)]; exact heap_alloc_new _ _
 have hr1 : ((w.alloc (.cells (ndC a.1).toArray 25)).alloc (.cells (ndC b.1).toArray 25)).heap[w.heap.size + 1]? = some (.cells (ndC b.1).toArray 25) := by have := heap_alloc_new (w.alloc (.cells (ndC a.1).toArray 25)) (.cells (ndC b.1).toArray 25); simpa using this
 have HH := Lib.hid (And.intro hb1 (And.intro hr0 hr1))
 clear ha hb sa sb hb1 hr0 hr1
 go_enter Try.func15, Try.ntmps15
 go_upto_region 1 with (first | refine wpList_box_nd rfl _ rfl a.1 rfl ?_ | refine wpList_box_nd rfl _ rfl b.1 rfl ?_)
 generalize hg : (w.alloc _).alloc _ = w1
 have hh := HH.out
 rw [hg] at hh
 obtain ⟨hb1, hr0, hr1⟩ := hh
 have HR0 := Lib.hid hr0
 have HR1 := Lib.hid hr1
 have HB1 := Lib.hid hb1
 have hz0 : w.heap.size < w1.heap.size := (Array.getElem?_eq_some_iff.1 hr0).1
 have hz1 : w.heap.size + 1 < w1.heap.size := (Array.getElem?_eq_some_iff.1 hr1).1
 clear hg HH hr0 hr1 hb1
 go_wp2_with fail
 refine wp_region_held_drew (S := fun w' => Below w1.heap.size w1 w') (by kernel_rfl) (below_drew w1) (fun hHeld => ?_)
 refine wpAnyH_take (i := 0) (v := ?_) rfl (by kernel_rfl) (by kernel_rfl) (by kernel_rfl) (fun _ _ _ h => h) (Or.inl ⟨by rfl, ?_⟩) (by assumption) ?_
 rotate_left
 · intro w' hSw
   refine exec_load_nd (x := .tmp 2) (b := w.heap.size) (off := 0) (l := a.1) ?_ ?_ (fun j v hj => by rw [Nat.zero_add]; exact cells12 ((hSw.block _ hz0).trans HR0.out) j v hj) <;> rfl
 simp only [Act.put, List.setIfInBounds_toArray, List.set_cons_zero, List.set_cons_succ, List.getElem_toArray, List.getElem_cons_succ, List.getElem_cons_zero]
 refine wpAnyH_take (i := 2) (v := ?_) rfl (by kernel_rfl) (by kernel_rfl) (by kernel_rfl) (fun _ _ _ h => h) (Or.inl ⟨by rfl, ?_⟩) (by assumption) ?_
 rotate_left
 · intro w' hSw
   refine exec_load_nd (x := .tmp 3) (b := w.heap.size + 1) (off := 0) (l := b.1) ?_ ?_ (fun j v hj => by rw [Nat.zero_add]; exact cells12 ((hSw.block _ hz1).trans HR1.out) j v hj) <;> rfl
 simp only [Act.put, List.setIfInBounds_toArray, List.set_cons_zero, List.set_cons_succ, List.getElem_toArray, List.getElem_cons_succ, List.getElem_cons_zero]
 refine wpAnyH_ready (rs := [1]) (by kernel_rfl) (by simp) ?_
 refine AllReadyH.cons rfl (fun K hK => ?_) AllReadyH.nil
 go_simp
 refine (HA.out _ (HB1.out.trans (hHeld.mono HB1.out.size))).mono ?_
 rintro e w2 ⟨v1, rfl, n1, hb2⟩
 have hb2 : Below w1.heap.size w1 w2 := hHeld.trans (hb2.mono hHeld.size)
 have N1 := Lib.hid n1
 refine hK.out _ _ hb2 (fun hHeld => ?_)
 clear hK K n1
 try simp only [Act.put, List.setIfInBounds_toArray, List.set_cons_zero, List.set_cons_succ, List.getElem_toArray, List.getElem_cons_succ, List.getElem_cons_zero]
 refine wpAnyH_ready (rs := [3]) (by kernel_rfl) (by simp) ?_
 refine AllReadyH.cons rfl (fun K hK => ?_) AllReadyH.nil
 go_simp
 refine (HB.out _ (HB1.out.trans (hb2.mono HB1.out.size))).mono ?_
 rintro e w3 ⟨v2, rfl, n2, hb3⟩
 have N1b := Lib.hid (rowN_below N1.out hb3)
 have N2 := Lib.hid n2
 have hb3 : Below w1.heap.size w1 w3 := hb2.trans (hb3.mono hb2.size)
 refine hK.out _ _ hb3 (fun hHeld => ?_)
 clear hK K n2
 try simp only [Act.put, List.setIfInBounds_toArray, List.set_cons_zero, List.set_cons_succ, List.getElem_toArray, List.getElem_cons_succ, List.getElem_cons_zero]
 refine wpAnyH_ready (rs := [4]) (by kernel_rfl) (by simp) ?_
 refine AllReadyH.cons rfl (fun K hK => ?_) AllReadyH.nil
 go_simp
 refine (eqn_any v1 v2 _ _ w3 N1b.out N2.out).mono ?_
 rintro e w4 ⟨rfl, hb4⟩
 have hb4 : Below w1.heap.size w1 w4 := hb3.trans (hb4.mono hb3.size)
 refine hK.out _ _ hb4 (fun hHeld => ?_)
 clear hK K
 try simp only [Act.put, List.setIfInBounds_toArray, List.set_cons_zero, List.set_cons_succ, List.getElem_toArray, List.getElem_cons_succ, List.getElem_cons_zero]
 refine wpAnyH_take (i := 5) (v := ?_) rfl (by kernel_rfl) (by kernel_rfl) (by kernel_rfl) (fun _ _ _ h => h) (Or.inl ⟨by rfl, ?_⟩) (by assumption) ?_
 rotate_left
 · intro w' hSw
   go_simp
   try rfl
 simp only [Act.put, List.setIfInBounds_toArray, List.set_cons_zero, List.set_cons_succ, List.getElem_toArray, List.getElem_cons_succ, List.getElem_cons_zero]
 refine wpAnyH_done (by kernel_rfl) ?_ _
 go_wp2_with fail
 go_ret
 exact ⟨rfl, HB1.out.trans (hb4.mono HB1.out.size)⟩
end Go.Proofs.Ytpjaahojoabgjaa.trw
end
section
namespace Go.Proofs.Ytpjaahojoabgjaa.trw
open Go Go.RowKit trp
theorem kids_lit1 {W : World} {B : Nat} {x : Lab} {k : F} (h : W.heap[B]? = some (.cells (ndC x).toArray 25)) (hn : NdAt W (x, k)) : KidsAt W (.slice (some ⟨B, 0, none⟩) 1 1) (.cons x k .nil) :=
 ⟨_, 1, rfl, Nat.le_refl _, by omega, Or.inr ⟨B, 0, rfl, ⟨fun j v hj => by rw [Nat.zero_add]; exact cells12 h j v hj, ⟨hn.1, hn.2.1⟩, hn.2.2, trivial⟩⟩⟩
theorem kids_lit2 {W : World} {B : Nat} {x y : Lab} {k k2 : F} (h : W.heap[B]? = some (.cells (ndC x ++ ndC y).toArray 25)) (hn : NdAt W (x, k)) (hm : NdAt W (y, k2)) : KidsAt W (.slice (some ⟨B, 0, none⟩) 2 2) (.cons x k (.cons y k2 .nil)) := by
 refine ⟨_, 2, rfl, Nat.le_refl _, by omega, Or.inr ⟨B, 0, rfl, ⟨fun j v hj => ?_, ⟨hn.1, hn.2.1⟩, hn.2.2, ⟨fun j v hj => ?_, ⟨hm.1, hm.2.1⟩, hm.2.2, trivial⟩⟩⟩⟩
 · rw [cell_of_row _ _ _ _ _ _ h, Nat.zero_add]
   have hlt : j < (ndC x).length := (List.getElem?_eq_some_iff.1 hj).1
   simp only [List.getElem?_toArray]
   rw [List.getElem?_append_left hlt]
   exact hj
 · rw [cell_of_row _ _ _ _ _ _ h]
   simp only [List.getElem?_toArray]
   rw [List.getElem?_append_right (by show 12 ≤ _; omega), show 0 + 12 + j - (ndC x).length = j by show 0 + 12 + j - 12 = j; omega]
   exact hj
theorem rg_nil (W : World) : RgAt W (.slice none 0 0) [] := ⟨none, 0, rfl, Nat.le_refl _, by omega, Or.inl rfl⟩
theorem kids_nil (W : World) : KidsAt W (.slice none 0 0) .nil := ⟨none, 0, rfl, Nat.le_refl _, by omega, Or.inl rfl⟩
def mk (kind c n m : Int) (kv : Value) : Lab := ⟨kind, 0, c, .slice none 0 0, [], false, n, m, 0, ⟨#[]⟩, 0, 0, kv⟩
theorem nd_mk {W : World} {kind c n m : Int} {kv : Value} {k : F} (h : KidsAt W kv k) (hk : I64 kind := by unfold I64; omega) (hc : I64 c := by unfold I64; omega) (hn : I64 n := by unfold I64; omega) (hm : I64 m := by unfold I64; omega) : NdAt W (mk kind c n m kv, k) :=
 ⟨⟨hk, by unfold I64 mk; simp, hc, hn, hm, by unfold I64 mk; simp, by unfold I64 mk; simp, by unfold I64 mk; simp⟩, rg_nil W, h⟩
def lA : Lab := mk 1 97 0 0 (.slice none 0 0)
def lC (b : Nat) : Lab := mk 14 0 0 0 (.slice (some ⟨b, 0, none⟩) 1 1)
def lR (b : Nat) : Lab := mk 20 0 1 (-1) (.slice (some ⟨b, 0, none⟩) 1 1)
def lS (b : Nat) : Lab := mk 12 0 0 0 (.slice (some ⟨b, 0, none⟩) 2 2)
def lT (b : Nat) : Lab := mk 13 0 0 0 (.slice (some ⟨b, 0, none⟩) 1 1)
def fA : F := .cons lA .nil .nil
def fC (b : Nat) : F := .cons (lC b) fA .nil
def fS (b c : Nat) : F := .cons lA .nil (.cons (lR c) (fC b) .nil)
theorem awk_find (b c d : Nat) : findT 14 (lS d, fS b c) = some [1, 0] := by rfl
theorem awk_check (b c d : Nat) : checkP (lS d, fS b c) = true := by rfl
theorem awk_alt (b : Nat) : checkP (lT b, fA) = false := by rfl
theorem awk_same (b c d e : Nat) : sameT (lS d, fS b c) (lR e, fC b) = false := by rfl
theorem awk_world (w : World) (A0 A1 A2 A3 A4 A5 A6 : Obj) : Below w.heap.size w (((((((w.alloc A0).alloc A1).alloc A2).alloc A3).alloc A4).alloc A5).alloc A6) ∧ (((((((w.alloc A0).alloc A1).alloc A2).alloc A3).alloc A4).alloc A5).alloc A6).heap[w.heap.size]? = some A0 ∧ (((((((w.alloc A0).alloc A1).alloc A2).alloc A3).alloc A4).alloc A5).alloc A6).heap[w.heap.size + 1]? = some A1 ∧ (((((((w.alloc A0).alloc A1).alloc A2).alloc A3).alloc A4).alloc A5).alloc A6).heap[w.heap.size + 1 + 1]? = some A2 ∧ (((((((w.alloc A0).alloc A1).alloc A2).alloc A3).alloc A4).alloc A5).alloc A6).heap[w.heap.size + 1 + 1 + 1]? = some A3 ∧ (((((((w.alloc A0).alloc A1).alloc A2).alloc A3).alloc A4).alloc A5).alloc A6).heap[w.heap.size + 1 + 1 + 1 + 1]? = some A4 ∧ (((((((w.alloc A0).alloc A1).alloc A2).alloc A3).alloc A4).alloc A5).alloc A6).heap[w.heap.size + 1 + 1 + 1 + 1 + 1]? = some A5 ∧ (((((((w.alloc A0).alloc A1).alloc A2).alloc A3).alloc A4).alloc A5).alloc A6).heap[w.heap.size + 1 + 1 + 1 + 1 + 1 + 1]? = some A6 := by
 refine ⟨((((((below_alloc w A0).alloc (by simp) _).alloc (by simp <;> omega) _).alloc (by simp <;> omega) _).alloc (by simp <;> omega) _).alloc (by simp <;> omega) _).alloc (by simp <;> omega) _, ?_, ?_, ?_, ?_, ?_, ?_, ?_⟩
 · rw [heap_alloc_old _ _ (by simp <;> omega), heap_alloc_old _ _ (by simp <;> omega), heap_alloc_old _ _ (by simp <;> omega), heap_alloc_old _ _ (by simp <;> omega), heap_alloc_old _ _ (by simp <;> omega), heap_alloc_old _ _ (by simp <;> omega)]
   have := heap_alloc_new w A0
   simpa using this
 · rw [heap_alloc_old _ _ (by simp <;> omega), heap_alloc_old _ _ (by simp <;> omega), heap_alloc_old _ _ (by simp <;> omega), heap_alloc_old _ _ (by simp <;> omega), heap_alloc_old _ _ (by simp <;> omega)]
   have := heap_alloc_new (w.alloc A0) A1
   simpa using this
 · rw [heap_alloc_old _ _ (by simp <;> omega), heap_alloc_old _ _ (by simp <;> omega), heap_alloc_old _ _ (by simp <;> omega), heap_alloc_old _ _ (by simp <;> omega)]
   have := heap_alloc_new ((w.alloc A0).alloc A1) A2
   simpa using this
 · rw [heap_alloc_old _ _ (by simp <;> omega), heap_alloc_old _ _ (by simp <;> omega), heap_alloc_old _ _ (by simp <;> omega)]
   have := heap_alloc_new (((w.alloc A0).alloc A1).alloc A2) A3
   simpa using this
 · rw [heap_alloc_old _ _ (by simp <;> omega), heap_alloc_old _ _ (by simp <;> omega)]
   have := heap_alloc_new ((((w.alloc A0).alloc A1).alloc A2).alloc A3) A4
   simpa using this
 · rw [heap_alloc_old _ _ (by simp <;> omega)]
   have := heap_alloc_new (((((w.alloc A0).alloc A1).alloc A2).alloc A3).alloc A4) A5
   simpa using this
 · have := heap_alloc_new ((((((w.alloc A0).alloc A1).alloc A2).alloc A3).alloc A4).alloc A5) A6
   simpa using this
set_option maxRecDepth 100000 in
set_option maxHeartbeats 8000000 in
theorem awake_any (w : World) : Calls Try.prog 9 #[] w (BoolB true w) := by
 go_enter Try.func9, Try.ntmps9
 go_upto_region 5 with (fail)
 generalize hg : ((((((w.alloc _).alloc _).alloc _).alloc _).alloc _).alloc _).alloc _ = W
 have hall := awk_world w (.cells (ndC lA).toArray 25) (.cells (ndC lA).toArray 25) (.cells (ndC (lC (w.heap.size + 1))).toArray 25) (.cells (ndC (lC (w.heap.size + 1))).toArray 25) (.cells (ndC (lR (w.heap.size + 1 + 1 + 1))).toArray 25) (.cells (ndC lA ++ ndC (lR (w.heap.size + 1 + 1 + 1))).toArray 25) (.cells (ndC (lS (w.heap.size + 1 + 1 + 1 + 1 + 1))).toArray 25)
 rw [show ((((((w.alloc (.cells (ndC lA).toArray 25)).alloc (.cells (ndC lA).toArray 25)).alloc (.cells (ndC (lC (w.heap.size + 1))).toArray 25)).alloc (.cells (ndC (lC (w.heap.size + 1))).toArray 25)).alloc (.cells (ndC (lR (w.heap.size + 1 + 1 + 1))).toArray 25)).alloc (.cells (ndC lA ++ ndC (lR (w.heap.size + 1 + 1 + 1))).toArray 25)).alloc (.cells (ndC (lS (w.heap.size + 1 + 1 + 1 + 1 + 1))).toArray 25) = W from hg] at hall
 obtain ⟨hb0, r0, r1, r2, r3, r4, r5, r6⟩ := hall
 have hA : NdAt W (lA, .nil) := nd_mk (kids_nil W)
 have hC : NdAt W (lC (w.heap.size + 1), fA) := nd_mk (kids_lit1 (x := lA) r1 hA)
 have hR : NdAt W (lR (w.heap.size + 1 + 1 + 1), fC (w.heap.size + 1)) := nd_mk (kids_lit1 (x := lC (w.heap.size + 1)) r3 hC)
 have hS : NdAt W (lS (w.heap.size + 1 + 1 + 1 + 1 + 1), fS (w.heap.size + 1) (w.heap.size + 1 + 1 + 1)) := nd_mk (kids_lit2 (x := lA) (y := lR (w.heap.size + 1 + 1 + 1)) r5 hA hR)
 have z5 : (fS (w.heap.size + 1) (w.heap.size + 1 + 1 + 1)).size + 1 ≤ 4000 := by show 5 ≤ 4000; omega
 have z3 : (fC (w.heap.size + 1)).size + 1 ≤ 4000 := by show 3 ≤ 4000; omega
 have HFind : Hid (∀ w1, Below W.heap.size W w1 → Calls Try.prog 18 #[.agg #[.int .i64 12, .int .i64 0, .int .i64 0, .slice none 0 0, .bool false, .int .i64 0, .int .i64 0, .int .i64 0, .string ⟨#[]⟩, .int .i64 0, .int .i64 0, .slice (some ⟨w.heap.size + 1 + 1 + 1 + 1 + 1, 0, none⟩) 2 2], .int .i64 14] w1 fun e w' => ∃ pb po pc, e = .returned (.tuple #[.slice (some ⟨pb, po, none⟩) 2 pc, .bool true]) ∧ 2 ≤ pc ∧ pc ≤ 9223372036854775807 ∧ w'.cell? ⟨pb, po, none⟩ = some (.int .i64 1) ∧ Below w1.heap.size w1 w') := Lib.hid (fun w1 hb => by
   refine (pfind_any (lS (w.heap.size + 1 + 1 + 1 + 1 + 1)) (fS (w.heap.size + 1) (w.heap.size + 1 + 1 + 1)) 14 w1 (below_nd hb hS) z5).mono ?_
   rintro e w' ⟨v, rfl, hp, hb'⟩
   rw [awk_find] at hp ⊢
   obtain ⟨pa, pc, rfl, h1, h2, h0 | ⟨pb, po, rfl, hc⟩⟩ := hp
   · cases h0
   · exact ⟨pb, po, pc, rfl, h1, h2, hc 0 1 rfl, hb'⟩)
 have HCheck : Hid (∀ w1, Below W.heap.size W w1 → Calls Try.prog 23 #[.agg #[.int .i64 12, .int .i64 0, .int .i64 0, .slice none 0 0, .bool false, .int .i64 0, .int .i64 0, .int .i64 0, .string ⟨#[]⟩, .int .i64 0, .int .i64 0, .slice (some ⟨w.heap.size + 1 + 1 + 1 + 1 + 1, 0, none⟩) 2 2]] w1 (BoolB true w1)) := Lib.hid (fun w1 hb => by have := pcheck_any (lS (w.heap.size + 1 + 1 + 1 + 1 + 1)) (fS (w.heap.size + 1) (w.heap.size + 1 + 1 + 1)) w1 (below_nd hb hS); rw [awk_check] at this; exact this)
 have HSize : Hid (∀ w1, Below W.heap.size W w1 → Calls Try.prog 10 #[.agg #[.int .i64 12, .int .i64 0, .int .i64 0, .slice none 0 0, .bool false, .int .i64 0, .int .i64 0, .int .i64 0, .string ⟨#[]⟩, .int .i64 0, .int .i64 0, .slice (some ⟨w.heap.size + 1 + 1 + 1 + 1 + 1, 0, none⟩) 2 2]] w1 (IntB 5 w1)) := Lib.hid (fun w1 hb => psize_any (lS (w.heap.size + 1 + 1 + 1 + 1 + 1)) (fS (w.heap.size + 1) (w.heap.size + 1 + 1 + 1)) w1 (below_nd hb hS))
 have HDepth : Hid (∀ w1, Below W.heap.size W w1 → Calls Try.prog 13 #[.agg #[.int .i64 12, .int .i64 0, .int .i64 0, .slice none 0 0, .bool false, .int .i64 0, .int .i64 0, .int .i64 0, .string ⟨#[]⟩, .int .i64 0, .int .i64 0, .slice (some ⟨w.heap.size + 1 + 1 + 1 + 1 + 1, 0, none⟩) 2 2]] w1 (IntB 4 w1)) := Lib.hid (fun w1 hb => pdepth_any (lS (w.heap.size + 1 + 1 + 1 + 1 + 1)) (fS (w.heap.size + 1) (w.heap.size + 1 + 1 + 1)) w1 (below_nd hb hS) z5)
 have HCaps : Hid (∀ w1, Below W.heap.size W w1 → Calls Try.prog 20 #[.agg #[.int .i64 12, .int .i64 0, .int .i64 0, .slice none 0 0, .bool false, .int .i64 0, .int .i64 0, .int .i64 0, .string ⟨#[]⟩, .int .i64 0, .int .i64 0, .slice (some ⟨w.heap.size + 1 + 1 + 1 + 1 + 1, 0, none⟩) 2 2]] w1 (IntB 1 w1)) := Lib.hid (fun w1 hb => pcaps_any (lS (w.heap.size + 1 + 1 + 1 + 1 + 1)) (fS (w.heap.size + 1) (w.heap.size + 1 + 1 + 1)) w1 (below_nd hb hS) z5)
 have HSame : Hid (∀ w1, Below W.heap.size W w1 → Calls Try.prog 15 #[.agg #[.int .i64 12, .int .i64 0, .int .i64 0, .slice none 0 0, .bool false, .int .i64 0, .int .i64 0, .int .i64 0, .string ⟨#[]⟩, .int .i64 0, .int .i64 0, .slice (some ⟨w.heap.size + 1 + 1 + 1 + 1 + 1, 0, none⟩) 2 2], .agg #[.int .i64 12, .int .i64 0, .int .i64 0, .slice none 0 0, .bool false, .int .i64 0, .int .i64 0, .int .i64 0, .string ⟨#[]⟩, .int .i64 0, .int .i64 0, .slice (some ⟨w.heap.size + 1 + 1 + 1 + 1 + 1, 0, none⟩) 2 2]] w1 (BoolB true w1)) := Lib.hid (fun w1 hb => by have := psame_any (lS (w.heap.size + 1 + 1 + 1 + 1 + 1), fS (w.heap.size + 1) (w.heap.size + 1 + 1 + 1)) (lS (w.heap.size + 1 + 1 + 1 + 1 + 1), fS (w.heap.size + 1) (w.heap.size + 1 + 1 + 1)) w1 (below_nd hb hS) (below_nd hb hS) z5 z5; rw [sameT_refl] at this; exact this)
 have HSamR : Hid (∀ w1, Below W.heap.size W w1 → Calls Try.prog 15 #[.agg #[.int .i64 12, .int .i64 0, .int .i64 0, .slice none 0 0, .bool false, .int .i64 0, .int .i64 0, .int .i64 0, .string ⟨#[]⟩, .int .i64 0, .int .i64 0, .slice (some ⟨w.heap.size + 1 + 1 + 1 + 1 + 1, 0, none⟩) 2 2], .agg #[.int .i64 20, .int .i64 0, .int .i64 0, .slice none 0 0, .bool false, .int .i64 1, .int .i64 (-1), .int .i64 0, .string ⟨#[]⟩, .int .i64 0, .int .i64 0, .slice (some ⟨w.heap.size + 1 + 1 + 1, 0, none⟩) 1 1]] w1 (BoolB false w1)) := Lib.hid (fun w1 hb => by have := psame_any (lS (w.heap.size + 1 + 1 + 1 + 1 + 1), fS (w.heap.size + 1) (w.heap.size + 1 + 1 + 1)) (lR (w.heap.size + 1 + 1 + 1), fC (w.heap.size + 1)) w1 (below_nd hb hS) (below_nd hb hR) z5 z3; rw [awk_same] at this; exact this)
 have HAlt : Hid (∀ w1, Below W.heap.size W w1 → Calls Try.prog 23 #[.agg #[.int .i64 13, .int .i64 0, .int .i64 0, .slice none 0 0, .bool false, .int .i64 0, .int .i64 0, .int .i64 0, .string ⟨#[]⟩, .int .i64 0, .int .i64 0, .slice (some ⟨w1.heap.size, 0, none⟩) 1 1]] (w1.alloc (.cells (ndC lA).toArray 25)) (BoolB false (w1.alloc (.cells (ndC lA).toArray 25)))) := Lib.hid (fun w1 hb => by
   have := pcheck_any (lT w1.heap.size) fA (w1.alloc (.cells (ndC lA).toArray 25)) (nd_mk (kids_lit1 (x := lA) (heap_alloc_new _ _) (nd_mk (kids_nil _))))
   rw [awk_alt] at this
   exact this)
 have HB0 := Lib.hid hb0
 have R0 := Lib.hid (fun w1 (hb : Below W.heap.size W w1) => cells12 ((hb.block _ (Array.getElem?_eq_some_iff.1 r0).1).trans r0))
 have R4 := Lib.hid (fun w1 (hb : Below W.heap.size W w1) => cells12 ((hb.block _ (Array.getElem?_eq_some_iff.1 r4).1).trans r4))
 have R6 := Lib.hid (fun w1 (hb : Below W.heap.size W w1) => cells12 ((hb.block _ (Array.getElem?_eq_some_iff.1 r6).1).trans r6))
 have HR0 := Lib.hid (Below.refl W.heap.size W)
 clear hg hb0 r0 r1 r2 r3 r4 r5 r6 hA hC hR hS z5 z3
 have f0 : W.cell? ⟨w.heap.size + 1 + 1 + 1 + 1 + 1 + 1, 0, none⟩ = some (.int .i64 12) := R6.out W HR0.out 0 _ rfl
 have f1 : W.cell? ⟨w.heap.size + 1 + 1 + 1 + 1 + 1 + 1, 1, none⟩ = some (.int .i64 0) := R6.out W HR0.out 1 _ rfl
 have f2 : W.cell? ⟨w.heap.size + 1 + 1 + 1 + 1 + 1 + 1, 2, none⟩ = some (.int .i64 0) := R6.out W HR0.out 2 _ rfl
 have f3 : W.cell? ⟨w.heap.size + 1 + 1 + 1 + 1 + 1 + 1, 3, none⟩ = some (.slice none 0 0) := R6.out W HR0.out 3 _ rfl
 have f4 : W.cell? ⟨w.heap.size + 1 + 1 + 1 + 1 + 1 + 1, 4, none⟩ = some (.bool false) := R6.out W HR0.out 4 _ rfl
 have f5 : W.cell? ⟨w.heap.size + 1 + 1 + 1 + 1 + 1 + 1, 5, none⟩ = some (.int .i64 0) := R6.out W HR0.out 5 _ rfl
 have f6 : W.cell? ⟨w.heap.size + 1 + 1 + 1 + 1 + 1 + 1, 6, none⟩ = some (.int .i64 0) := R6.out W HR0.out 6 _ rfl
 have f7 : W.cell? ⟨w.heap.size + 1 + 1 + 1 + 1 + 1 + 1, 7, none⟩ = some (.int .i64 0) := R6.out W HR0.out 7 _ rfl
 have f8 : W.cell? ⟨w.heap.size + 1 + 1 + 1 + 1 + 1 + 1, 8, none⟩ = some (.string ⟨#[]⟩) := R6.out W HR0.out 8 _ rfl
 have f9 : W.cell? ⟨w.heap.size + 1 + 1 + 1 + 1 + 1 + 1, 9, none⟩ = some (.int .i64 0) := R6.out W HR0.out 9 _ rfl
 have f10 : W.cell? ⟨w.heap.size + 1 + 1 + 1 + 1 + 1 + 1, 10, none⟩ = some (.int .i64 0) := R6.out W HR0.out 10 _ rfl
 have f11 : W.cell? ⟨w.heap.size + 1 + 1 + 1 + 1 + 1 + 1, 11, none⟩ = some (.slice (some ⟨w.heap.size + 1 + 1 + 1 + 1 + 1, 0, none⟩) 2 2) := R6.out W HR0.out 11 _ rfl
 go_wp2_with fail
 refine (HFind.out W HR0.out).mono ?_
 rintro e w1 ⟨pb, po, pc, rfl, hpc1, hpc2, hp, hb1⟩
 have HP := Lib.hid hp
 have H1 := Lib.hid hb1
 clear hp hb1
 clear f0 f1 f2 f3 f4 f5 f6 f7 f8 f9 f10 f11
 have f0 : w1.cell? ⟨w.heap.size + 1 + 1 + 1 + 1 + 1 + 1, 0, none⟩ = some (.int .i64 12) := R6.out w1 H1.out 0 _ rfl
 have f1 : w1.cell? ⟨w.heap.size + 1 + 1 + 1 + 1 + 1 + 1, 1, none⟩ = some (.int .i64 0) := R6.out w1 H1.out 1 _ rfl
 have f2 : w1.cell? ⟨w.heap.size + 1 + 1 + 1 + 1 + 1 + 1, 2, none⟩ = some (.int .i64 0) := R6.out w1 H1.out 2 _ rfl
 have f3 : w1.cell? ⟨w.heap.size + 1 + 1 + 1 + 1 + 1 + 1, 3, none⟩ = some (.slice none 0 0) := R6.out w1 H1.out 3 _ rfl
 have f4 : w1.cell? ⟨w.heap.size + 1 + 1 + 1 + 1 + 1 + 1, 4, none⟩ = some (.bool false) := R6.out w1 H1.out 4 _ rfl
 have f5 : w1.cell? ⟨w.heap.size + 1 + 1 + 1 + 1 + 1 + 1, 5, none⟩ = some (.int .i64 0) := R6.out w1 H1.out 5 _ rfl
 have f6 : w1.cell? ⟨w.heap.size + 1 + 1 + 1 + 1 + 1 + 1, 6, none⟩ = some (.int .i64 0) := R6.out w1 H1.out 6 _ rfl
 have f7 : w1.cell? ⟨w.heap.size + 1 + 1 + 1 + 1 + 1 + 1, 7, none⟩ = some (.int .i64 0) := R6.out w1 H1.out 7 _ rfl
 have f8 : w1.cell? ⟨w.heap.size + 1 + 1 + 1 + 1 + 1 + 1, 8, none⟩ = some (.string ⟨#[]⟩) := R6.out w1 H1.out 8 _ rfl
 have f9 : w1.cell? ⟨w.heap.size + 1 + 1 + 1 + 1 + 1 + 1, 9, none⟩ = some (.int .i64 0) := R6.out w1 H1.out 9 _ rfl
 have f10 : w1.cell? ⟨w.heap.size + 1 + 1 + 1 + 1 + 1 + 1, 10, none⟩ = some (.int .i64 0) := R6.out w1 H1.out 10 _ rfl
 have f11 : w1.cell? ⟨w.heap.size + 1 + 1 + 1 + 1 + 1 + 1, 11, none⟩ = some (.slice (some ⟨w.heap.size + 1 + 1 + 1 + 1 + 1, 0, none⟩) 2 2) := R6.out w1 H1.out 11 _ rfl
 go_wp2_with fail
 refine (HCheck.out w1 H1.out).mono ?_
 rintro e w2 ⟨rfl, hb⟩
 have H2 := Lib.hid (H1.out.trans (hb.mono H1.out.size))
 have P2 := Lib.hid (below_cell hb HP.out)
 clear hb
 clear f0 f1 f2 f3 f4 f5 f6 f7 f8 f9 f10 f11
 have g0 : w2.cell? ⟨w.heap.size, 0, none⟩ = some (.int .i64 1) := R0.out w2 H2.out 0 _ rfl
 have g1 : w2.cell? ⟨w.heap.size, 1, none⟩ = some (.int .i64 0) := R0.out w2 H2.out 1 _ rfl
 have g2 : w2.cell? ⟨w.heap.size, 2, none⟩ = some (.int .i64 97) := R0.out w2 H2.out 2 _ rfl
 have g3 : w2.cell? ⟨w.heap.size, 3, none⟩ = some (.slice none 0 0) := R0.out w2 H2.out 3 _ rfl
 have g4 : w2.cell? ⟨w.heap.size, 4, none⟩ = some (.bool false) := R0.out w2 H2.out 4 _ rfl
 have g5 : w2.cell? ⟨w.heap.size, 5, none⟩ = some (.int .i64 0) := R0.out w2 H2.out 5 _ rfl
 have g6 : w2.cell? ⟨w.heap.size, 6, none⟩ = some (.int .i64 0) := R0.out w2 H2.out 6 _ rfl
 have g7 : w2.cell? ⟨w.heap.size, 7, none⟩ = some (.int .i64 0) := R0.out w2 H2.out 7 _ rfl
 have g8 : w2.cell? ⟨w.heap.size, 8, none⟩ = some (.string ⟨#[]⟩) := R0.out w2 H2.out 8 _ rfl
 have g9 : w2.cell? ⟨w.heap.size, 9, none⟩ = some (.int .i64 0) := R0.out w2 H2.out 9 _ rfl
 have g10 : w2.cell? ⟨w.heap.size, 10, none⟩ = some (.int .i64 0) := R0.out w2 H2.out 10 _ rfl
 have g11 : w2.cell? ⟨w.heap.size, 11, none⟩ = some (.slice none 0 0) := R0.out w2 H2.out 11 _ rfl
 go_wp2_with fail
 refine (HAlt.out w2 H2.out).mono ?_
 rintro e w3 ⟨rfl, hb⟩
 have hb : Below w2.heap.size w2 w3 := below_box hb
 have H3 := Lib.hid (H2.out.trans (hb.mono H2.out.size))
 have P3 := Lib.hid (below_cell hb P2.out)
 clear hb
 clear g0 g1 g2 g3 g4 g5 g6 g7 g8 g9 g10 g11
 have f0 : w3.cell? ⟨w.heap.size + 1 + 1 + 1 + 1 + 1 + 1, 0, none⟩ = some (.int .i64 12) := R6.out w3 H3.out 0 _ rfl
 have f1 : w3.cell? ⟨w.heap.size + 1 + 1 + 1 + 1 + 1 + 1, 1, none⟩ = some (.int .i64 0) := R6.out w3 H3.out 1 _ rfl
 have f2 : w3.cell? ⟨w.heap.size + 1 + 1 + 1 + 1 + 1 + 1, 2, none⟩ = some (.int .i64 0) := R6.out w3 H3.out 2 _ rfl
 have f3 : w3.cell? ⟨w.heap.size + 1 + 1 + 1 + 1 + 1 + 1, 3, none⟩ = some (.slice none 0 0) := R6.out w3 H3.out 3 _ rfl
 have f4 : w3.cell? ⟨w.heap.size + 1 + 1 + 1 + 1 + 1 + 1, 4, none⟩ = some (.bool false) := R6.out w3 H3.out 4 _ rfl
 have f5 : w3.cell? ⟨w.heap.size + 1 + 1 + 1 + 1 + 1 + 1, 5, none⟩ = some (.int .i64 0) := R6.out w3 H3.out 5 _ rfl
 have f6 : w3.cell? ⟨w.heap.size + 1 + 1 + 1 + 1 + 1 + 1, 6, none⟩ = some (.int .i64 0) := R6.out w3 H3.out 6 _ rfl
 have f7 : w3.cell? ⟨w.heap.size + 1 + 1 + 1 + 1 + 1 + 1, 7, none⟩ = some (.int .i64 0) := R6.out w3 H3.out 7 _ rfl
 have f8 : w3.cell? ⟨w.heap.size + 1 + 1 + 1 + 1 + 1 + 1, 8, none⟩ = some (.string ⟨#[]⟩) := R6.out w3 H3.out 8 _ rfl
 have f9 : w3.cell? ⟨w.heap.size + 1 + 1 + 1 + 1 + 1 + 1, 9, none⟩ = some (.int .i64 0) := R6.out w3 H3.out 9 _ rfl
 have f10 : w3.cell? ⟨w.heap.size + 1 + 1 + 1 + 1 + 1 + 1, 10, none⟩ = some (.int .i64 0) := R6.out w3 H3.out 10 _ rfl
 have f11 : w3.cell? ⟨w.heap.size + 1 + 1 + 1 + 1 + 1 + 1, 11, none⟩ = some (.slice (some ⟨w.heap.size + 1 + 1 + 1 + 1 + 1, 0, none⟩) 2 2) := R6.out w3 H3.out 11 _ rfl
 go_wp2_with fail
 refine (HSize.out w3 H3.out).mono ?_
 rintro e w4 ⟨rfl, hb⟩
 have H4 := Lib.hid (H3.out.trans (hb.mono H3.out.size))
 have P4 := Lib.hid (below_cell hb P3.out)
 clear hb
 clear f0 f1 f2 f3 f4 f5 f6 f7 f8 f9 f10 f11
 have f0 : w4.cell? ⟨w.heap.size + 1 + 1 + 1 + 1 + 1 + 1, 0, none⟩ = some (.int .i64 12) := R6.out w4 H4.out 0 _ rfl
 have f1 : w4.cell? ⟨w.heap.size + 1 + 1 + 1 + 1 + 1 + 1, 1, none⟩ = some (.int .i64 0) := R6.out w4 H4.out 1 _ rfl
 have f2 : w4.cell? ⟨w.heap.size + 1 + 1 + 1 + 1 + 1 + 1, 2, none⟩ = some (.int .i64 0) := R6.out w4 H4.out 2 _ rfl
 have f3 : w4.cell? ⟨w.heap.size + 1 + 1 + 1 + 1 + 1 + 1, 3, none⟩ = some (.slice none 0 0) := R6.out w4 H4.out 3 _ rfl
 have f4 : w4.cell? ⟨w.heap.size + 1 + 1 + 1 + 1 + 1 + 1, 4, none⟩ = some (.bool false) := R6.out w4 H4.out 4 _ rfl
 have f5 : w4.cell? ⟨w.heap.size + 1 + 1 + 1 + 1 + 1 + 1, 5, none⟩ = some (.int .i64 0) := R6.out w4 H4.out 5 _ rfl
 have f6 : w4.cell? ⟨w.heap.size + 1 + 1 + 1 + 1 + 1 + 1, 6, none⟩ = some (.int .i64 0) := R6.out w4 H4.out 6 _ rfl
 have f7 : w4.cell? ⟨w.heap.size + 1 + 1 + 1 + 1 + 1 + 1, 7, none⟩ = some (.int .i64 0) := R6.out w4 H4.out 7 _ rfl
 have f8 : w4.cell? ⟨w.heap.size + 1 + 1 + 1 + 1 + 1 + 1, 8, none⟩ = some (.string ⟨#[]⟩) := R6.out w4 H4.out 8 _ rfl
 have f9 : w4.cell? ⟨w.heap.size + 1 + 1 + 1 + 1 + 1 + 1, 9, none⟩ = some (.int .i64 0) := R6.out w4 H4.out 9 _ rfl
 have f10 : w4.cell? ⟨w.heap.size + 1 + 1 + 1 + 1 + 1 + 1, 10, none⟩ = some (.int .i64 0) := R6.out w4 H4.out 10 _ rfl
 have f11 : w4.cell? ⟨w.heap.size + 1 + 1 + 1 + 1 + 1 + 1, 11, none⟩ = some (.slice (some ⟨w.heap.size + 1 + 1 + 1 + 1 + 1, 0, none⟩) 2 2) := R6.out w4 H4.out 11 _ rfl
 go_wp2_with fail
 refine (HDepth.out w4 H4.out).mono ?_
 rintro e w5 ⟨rfl, hb⟩
 have H5 := Lib.hid (H4.out.trans (hb.mono H4.out.size))
 have P5 := Lib.hid (below_cell hb P4.out)
 clear hb
 clear f0 f1 f2 f3 f4 f5 f6 f7 f8 f9 f10 f11
 have f0 : w5.cell? ⟨w.heap.size + 1 + 1 + 1 + 1 + 1 + 1, 0, none⟩ = some (.int .i64 12) := R6.out w5 H5.out 0 _ rfl
 have f1 : w5.cell? ⟨w.heap.size + 1 + 1 + 1 + 1 + 1 + 1, 1, none⟩ = some (.int .i64 0) := R6.out w5 H5.out 1 _ rfl
 have f2 : w5.cell? ⟨w.heap.size + 1 + 1 + 1 + 1 + 1 + 1, 2, none⟩ = some (.int .i64 0) := R6.out w5 H5.out 2 _ rfl
 have f3 : w5.cell? ⟨w.heap.size + 1 + 1 + 1 + 1 + 1 + 1, 3, none⟩ = some (.slice none 0 0) := R6.out w5 H5.out 3 _ rfl
 have f4 : w5.cell? ⟨w.heap.size + 1 + 1 + 1 + 1 + 1 + 1, 4, none⟩ = some (.bool false) := R6.out w5 H5.out 4 _ rfl
 have f5 : w5.cell? ⟨w.heap.size + 1 + 1 + 1 + 1 + 1 + 1, 5, none⟩ = some (.int .i64 0) := R6.out w5 H5.out 5 _ rfl
 have f6 : w5.cell? ⟨w.heap.size + 1 + 1 + 1 + 1 + 1 + 1, 6, none⟩ = some (.int .i64 0) := R6.out w5 H5.out 6 _ rfl
 have f7 : w5.cell? ⟨w.heap.size + 1 + 1 + 1 + 1 + 1 + 1, 7, none⟩ = some (.int .i64 0) := R6.out w5 H5.out 7 _ rfl
 have f8 : w5.cell? ⟨w.heap.size + 1 + 1 + 1 + 1 + 1 + 1, 8, none⟩ = some (.string ⟨#[]⟩) := R6.out w5 H5.out 8 _ rfl
 have f9 : w5.cell? ⟨w.heap.size + 1 + 1 + 1 + 1 + 1 + 1, 9, none⟩ = some (.int .i64 0) := R6.out w5 H5.out 9 _ rfl
 have f10 : w5.cell? ⟨w.heap.size + 1 + 1 + 1 + 1 + 1 + 1, 10, none⟩ = some (.int .i64 0) := R6.out w5 H5.out 10 _ rfl
 have f11 : w5.cell? ⟨w.heap.size + 1 + 1 + 1 + 1 + 1 + 1, 11, none⟩ = some (.slice (some ⟨w.heap.size + 1 + 1 + 1 + 1 + 1, 0, none⟩) 2 2) := R6.out w5 H5.out 11 _ rfl
 go_wp2_with fail
 refine (HCaps.out w5 H5.out).mono ?_
 rintro e w6 ⟨rfl, hb⟩
 have H6 := Lib.hid (H5.out.trans (hb.mono H5.out.size))
 have P6 := Lib.hid (below_cell hb P5.out)
 clear hb
 clear f0 f1 f2 f3 f4 f5 f6 f7 f8 f9 f10 f11
 have f0 : w6.cell? ⟨w.heap.size + 1 + 1 + 1 + 1 + 1 + 1, 0, none⟩ = some (.int .i64 12) := R6.out w6 H6.out 0 _ rfl
 have f1 : w6.cell? ⟨w.heap.size + 1 + 1 + 1 + 1 + 1 + 1, 1, none⟩ = some (.int .i64 0) := R6.out w6 H6.out 1 _ rfl
 have f2 : w6.cell? ⟨w.heap.size + 1 + 1 + 1 + 1 + 1 + 1, 2, none⟩ = some (.int .i64 0) := R6.out w6 H6.out 2 _ rfl
 have f3 : w6.cell? ⟨w.heap.size + 1 + 1 + 1 + 1 + 1 + 1, 3, none⟩ = some (.slice none 0 0) := R6.out w6 H6.out 3 _ rfl
 have f4 : w6.cell? ⟨w.heap.size + 1 + 1 + 1 + 1 + 1 + 1, 4, none⟩ = some (.bool false) := R6.out w6 H6.out 4 _ rfl
 have f5 : w6.cell? ⟨w.heap.size + 1 + 1 + 1 + 1 + 1 + 1, 5, none⟩ = some (.int .i64 0) := R6.out w6 H6.out 5 _ rfl
 have f6 : w6.cell? ⟨w.heap.size + 1 + 1 + 1 + 1 + 1 + 1, 6, none⟩ = some (.int .i64 0) := R6.out w6 H6.out 6 _ rfl
 have f7 : w6.cell? ⟨w.heap.size + 1 + 1 + 1 + 1 + 1 + 1, 7, none⟩ = some (.int .i64 0) := R6.out w6 H6.out 7 _ rfl
 have f8 : w6.cell? ⟨w.heap.size + 1 + 1 + 1 + 1 + 1 + 1, 8, none⟩ = some (.string ⟨#[]⟩) := R6.out w6 H6.out 8 _ rfl
 have f9 : w6.cell? ⟨w.heap.size + 1 + 1 + 1 + 1 + 1 + 1, 9, none⟩ = some (.int .i64 0) := R6.out w6 H6.out 9 _ rfl
 have f10 : w6.cell? ⟨w.heap.size + 1 + 1 + 1 + 1 + 1 + 1, 10, none⟩ = some (.int .i64 0) := R6.out w6 H6.out 10 _ rfl
 have f11 : w6.cell? ⟨w.heap.size + 1 + 1 + 1 + 1 + 1 + 1, 11, none⟩ = some (.slice (some ⟨w.heap.size + 1 + 1 + 1 + 1 + 1, 0, none⟩) 2 2) := R6.out w6 H6.out 11 _ rfl
 have hp6 := P6.out
 go_wp2_with fail
 refine (HSame.out w6 H6.out).mono ?_
 rintro e w7 ⟨rfl, hb⟩
 have H7 := Lib.hid (H6.out.trans (hb.mono H6.out.size))
 clear hb hp6
 clear f0 f1 f2 f3 f4 f5 f6 f7 f8 f9 f10 f11
 have f0 : w7.cell? ⟨w.heap.size + 1 + 1 + 1 + 1 + 1 + 1, 0, none⟩ = some (.int .i64 12) := R6.out w7 H7.out 0 _ rfl
 have f1 : w7.cell? ⟨w.heap.size + 1 + 1 + 1 + 1 + 1 + 1, 1, none⟩ = some (.int .i64 0) := R6.out w7 H7.out 1 _ rfl
 have f2 : w7.cell? ⟨w.heap.size + 1 + 1 + 1 + 1 + 1 + 1, 2, none⟩ = some (.int .i64 0) := R6.out w7 H7.out 2 _ rfl
 have f3 : w7.cell? ⟨w.heap.size + 1 + 1 + 1 + 1 + 1 + 1, 3, none⟩ = some (.slice none 0 0) := R6.out w7 H7.out 3 _ rfl
 have f4 : w7.cell? ⟨w.heap.size + 1 + 1 + 1 + 1 + 1 + 1, 4, none⟩ = some (.bool false) := R6.out w7 H7.out 4 _ rfl
 have f5 : w7.cell? ⟨w.heap.size + 1 + 1 + 1 + 1 + 1 + 1, 5, none⟩ = some (.int .i64 0) := R6.out w7 H7.out 5 _ rfl
 have f6 : w7.cell? ⟨w.heap.size + 1 + 1 + 1 + 1 + 1 + 1, 6, none⟩ = some (.int .i64 0) := R6.out w7 H7.out 6 _ rfl
 have f7 : w7.cell? ⟨w.heap.size + 1 + 1 + 1 + 1 + 1 + 1, 7, none⟩ = some (.int .i64 0) := R6.out w7 H7.out 7 _ rfl
 have f8 : w7.cell? ⟨w.heap.size + 1 + 1 + 1 + 1 + 1 + 1, 8, none⟩ = some (.string ⟨#[]⟩) := R6.out w7 H7.out 8 _ rfl
 have f9 : w7.cell? ⟨w.heap.size + 1 + 1 + 1 + 1 + 1 + 1, 9, none⟩ = some (.int .i64 0) := R6.out w7 H7.out 9 _ rfl
 have f10 : w7.cell? ⟨w.heap.size + 1 + 1 + 1 + 1 + 1 + 1, 10, none⟩ = some (.int .i64 0) := R6.out w7 H7.out 10 _ rfl
 have f11 : w7.cell? ⟨w.heap.size + 1 + 1 + 1 + 1 + 1 + 1, 11, none⟩ = some (.slice (some ⟨w.heap.size + 1 + 1 + 1 + 1 + 1, 0, none⟩) 2 2) := R6.out w7 H7.out 11 _ rfl
 have g0 : w7.cell? ⟨w.heap.size + 1 + 1 + 1 + 1, 0, none⟩ = some (.int .i64 20) := R4.out w7 H7.out 0 _ rfl
 have g1 : w7.cell? ⟨w.heap.size + 1 + 1 + 1 + 1, 1, none⟩ = some (.int .i64 0) := R4.out w7 H7.out 1 _ rfl
 have g2 : w7.cell? ⟨w.heap.size + 1 + 1 + 1 + 1, 2, none⟩ = some (.int .i64 0) := R4.out w7 H7.out 2 _ rfl
 have g3 : w7.cell? ⟨w.heap.size + 1 + 1 + 1 + 1, 3, none⟩ = some (.slice none 0 0) := R4.out w7 H7.out 3 _ rfl
 have g4 : w7.cell? ⟨w.heap.size + 1 + 1 + 1 + 1, 4, none⟩ = some (.bool false) := R4.out w7 H7.out 4 _ rfl
 have g5 : w7.cell? ⟨w.heap.size + 1 + 1 + 1 + 1, 5, none⟩ = some (.int .i64 1) := R4.out w7 H7.out 5 _ rfl
 have g6 : w7.cell? ⟨w.heap.size + 1 + 1 + 1 + 1, 6, none⟩ = some (.int .i64 (-1)) := R4.out w7 H7.out 6 _ rfl
 have g7 : w7.cell? ⟨w.heap.size + 1 + 1 + 1 + 1, 7, none⟩ = some (.int .i64 0) := R4.out w7 H7.out 7 _ rfl
 have g8 : w7.cell? ⟨w.heap.size + 1 + 1 + 1 + 1, 8, none⟩ = some (.string ⟨#[]⟩) := R4.out w7 H7.out 8 _ rfl
 have g9 : w7.cell? ⟨w.heap.size + 1 + 1 + 1 + 1, 9, none⟩ = some (.int .i64 0) := R4.out w7 H7.out 9 _ rfl
 have g10 : w7.cell? ⟨w.heap.size + 1 + 1 + 1 + 1, 10, none⟩ = some (.int .i64 0) := R4.out w7 H7.out 10 _ rfl
 have g11 : w7.cell? ⟨w.heap.size + 1 + 1 + 1 + 1, 11, none⟩ = some (.slice (some ⟨w.heap.size + 1 + 1 + 1, 0, none⟩) 1 1) := R4.out w7 H7.out 11 _ rfl
 go_wp2_with fail
 refine (HSamR.out w7 H7.out).mono ?_
 rintro e w8 ⟨rfl, hb⟩
 have H8 := Lib.hid (H7.out.trans (hb.mono H7.out.size))
 clear hb
 go_wp2_with fail
 go_ret
 exact ⟨rfl, HB0.out.trans (H8.out.mono HB0.out.size)⟩
end Go.Proofs.Ytpjaahojoabgjaa.trw
end
section
namespace Go.Proofs.Ytpjaahojoabgjaa.trw
open Go Go.RowKit trp
set_option maxHeartbeats 400000 in
theorem rdepth_any (x : Lab) (k : F) (w : World) (hd : NdAt w (x, k)) : Calls Try.prog 14 #[ndV x] w (IntB (min 301 (k.deep + 1) : Nat) w) := by
 have HC := Lib.hid (fun w1 (hb : Below w.heap.size w w1) => deep_any (k.size + 1) x k 301 w1 (Nat.lt_succ_self _) (below_nd hb hd) (by omega) (by omega))
 clear hd
 unfold ndV at *
 go_enter Try.func14, Try.ntmps14
 go_wp2_with fail
 refine (HC.out _ (below_alloc w _)).mono ?_
 rintro e w2 ⟨rfl, hb2⟩
 go_wp2_with fail
 go_ret
 exact ⟨rfl, below_box hb2⟩
end Go.Proofs.Ytpjaahojoabgjaa.trw
end
