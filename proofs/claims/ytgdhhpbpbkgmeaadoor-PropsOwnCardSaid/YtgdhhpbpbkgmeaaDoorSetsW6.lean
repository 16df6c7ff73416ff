/- The contracts of the library's Concat at package sets' ranges, and of Union. -/
import Derived.Test.YtgdhhpbpbkgmeaaDoorSetsW5
import Derived.Shelf.Spec.SlicesGrow
import Derived.Laws.AppendOwnNone
namespace Go.Proofs.YtgdhhpbpbkgmeaaDoor.setw
open Go Go.RowKit Go.Shelf Go.Proofs.YtgdhhpbpbkgmeaaDoor.bulk Go.Proofs.YtgdhhpbpbkgmeaaDoor.ucdp Go.Proofs.YtgdhhpbpbkgmeaaDoor.ucdw Go.Proofs.YtgdhhpbpbkgmeaaDoor.setp Go.Proofs.YtgdhhpbpbkgmeaaDoor.flt Go.Proofs.YtgdhhpbpbkgmeaaDoor.setl

/-- ranges that the call itself has laid -/
def OwnY (w : World) (base : Nat) (v : Value) (D : List Rg) : Prop := w.ownsRow base 57 1 v D.length (zcs D)
/-- room, and nothing in it -/
def GrowPost (w : World) (e : Ending) (w' : World) : Prop := ∃ v, e = .returned v ∧ OwnY w' w.heap.size v [] ∧ Below w.heap.size w w'
theorem grow_new (n : Nat) (w : World) (h0 : 0 < n) (hn : n ≤ 10000000) : Calls Tryd.prog 70 #[.slice none 0 0, .int .i64 n] w (GrowPost w) := by
  obtain ⟨i0, hi, hz0, hz1, hz2⟩ := info_parts infoSpan
  refine (Any8.slices_Grow_grow (P := Tryd.prog) (ρ := growZ_ren) growZ i0 (.complex .f64 0 0) hi hz0 (by rw [hz1]; decide) none 0 0 n [] w (Nat.le_refl _) (by omega) (by rw [hz2]; omega) (by omega) (by simp) (fun _ => rfl) (fun a ha => by cases ha)).mono ?_
  rintro e w' ⟨rfl, rfl⟩
  refine ⟨_, rfl, ?_, (below_drew w).alloc (Nat.le_refl _) _⟩
  have hG1 := grownCap_ge w (0 + n) 0 57
  have hG2 := grownCap_le_maxLen w (0 + n) 0 57 (by unfold maxLen; omega)
  change World.ownsRow _ w.heap.size 57 1 (.slice (some ⟨w.heap.size, 0, none⟩) 0 (grownCap w (0 + n) 0 57)) 0 []
  exact World.ownsRow_made w.drew _ _ (Nat.le_refl _) hG2 (by
    simp only [Array.size_append, size_zeroCells, List.size_toArray, List.length_nil]
    show 0 + (0 + n - 0) * 1 + (grownCap w (0 + n) 0 57 - (0 + n)) * 1 = _
    omega)
theorem wpList_append_zs {ops : Array Oper} {rest : List Oper} {o : Oper} {a : Act} {w : World} {Q : Exit → Act → World → Prop} (hgd : o.guard = none) (s x : Operand)
    (ho : o.op = .call { callee := .builtin .append, args := #[s, x], argTypes := #[25, 25] }) (base : Nat) (v : Value) (D : List Rg) (hs : a.eval s = v) (hown : OwnY w base v D)
    (vx : Value) (S : List Rg) (b : Nat) (hx : a.eval x = vx) (hz : ZsAt b w vx S) (hlen : D.length + S.length ≤ 100000000) (hbase : base ≤ w.heap.size)
    (h : ∀ v' w', OwnY w' base v' (D ++ S) → (S = [] → v' = v) → (∀ B w1, Below B w1 w → B ≤ base → Below B w1 w') → wpList Tryd.prog ops Q rest (a.put o.dst v') w') :
    wpList Tryd.prog ops Q (o :: rest) a w := by
  obtain ⟨i0, hi, hz0, hz1, hz2⟩ := info_parts infoSpan
  rcases hz with ⟨hS, rfl⟩ | ⟨hS, g, cap, rfl, _, hc1, hc2, hc⟩
  · subst hS
    refine wpList_append_own_none hgd s x _ ho base 57 i0 1 Tryd.underlying25 hi v _ _ hs hown hx ?_
    refine h v w ?_ (fun _ => rfl) (fun B w0 hb _ => hb)
    simpa using hown
  · refine wpList_append_own w hgd s x _ ho base 57 i0 (.complex .f64 0 0) 1 16 Tryd.underlying25 hi hz0 hz1 hz2 rfl (by decide) v _ _ hs hown ⟨g, 0, none⟩ S.length cap (zcs S) hx (by simp [zcs]) ?_ ?_ (by unfold maxLen; omega) (by omega) hbase ?_
    · intro j u hj
      have hjm : j < S.length := by
        rcases Nat.lt_or_ge j S.length with h | h
        · exact h
        · rw [List.getElem?_eq_none (by simpa [zcs] using h)] at hj; cases hj
      have hplain : (⟨g, 0, none⟩ : Addr).add j = ⟨g, j, none⟩ := by unfold Addr.add; split <;> simp_all
      rw [hplain, hc j hjm]
      simp [zcs, hjm] at hj
      rw [← hj]
    · intro u hu
      simp only [zcs, List.mem_map] at hu
      obtain ⟨y, _, rfl⟩ := hu
      rfl
    · intro v' w' hown' hgr _
      refine h v' w' ?_ (fun h => absurd h hS) (fun B w0 hb hB => hb.grown hgr (by omega) (fun k hk => ?_))
      · have e : zcs (D ++ S) = zcs D ++ zcs S := by simp [zcs]
        unfold OwnY
        rw [e]
        simpa using hown'
      · have := (World.ownsRow.lt hown) k hk
        omega

/-- ranges one behind the other, in new memory -/
theorem concat_any (v1 v2 : Value) (S T : List Rg) (b1 b2 B : Nat) (w : World) (h1 : ZsAt b1 w v1 S) (h2 : ZsAt b2 w v2 T) (hl1 : S.length ≤ 1114112) (hl2 : T.length ≤ 1114112) (hc1 : w.cell? ⟨B, 0, none⟩ = some v1) (hc2 : w.cell? ⟨B, 1, none⟩ = some v2) :
    Calls Tryd.prog 45 #[.slice (some ⟨B, 0, none⟩) 2 2] w (OwnB w.heap.size (S ++ T) w) := by
  obtain ⟨p1, q1, rfl⟩ := zsAt_len h1
  obtain ⟨p2, q2, rfl⟩ := zsAt_len h2
  have HZ1 := Lib.hid h1
  have HZ2 := Lib.hid h2
  by_cases h0 : 0 < S.length + T.length
  · have hg : Calls Tryd.prog 70 #[.slice none 0 0, .int .i64 ((S.length : Int) + (T.length : Int))] w (GrowPost w) := by
      rw [← Int.natCast_add]
      exact grow_new _ w h0 (by omega)
    have HG := Lib.hid hg
    clear h1 h2 hg
    go_enter Tryd.func45, Tryd.ntmps45
    go_wp2_with fail
    refine wp_loop_rounds 3 ?_
    rw [rounds_succ]
    go_wp2_with fail
    rw [rounds_succ]
    go_wp2_with fail
    rw [rounds_succ]
    go_wp2_with fail
    refine HG.out.mono ?_
    rintro e w1 ⟨v1, rfl, ho1, hb1⟩
    have d1 := below_cell hb1 hc1
    have d2 := below_cell hb1 hc2
    have HO1 := Lib.hid ho1
    have HB1 := Lib.hid hb1
    have HY1 := Lib.hid (zsAt_below HZ1.out hb1)
    have HY2 := Lib.hid (zsAt_below HZ2.out hb1)
    clear ho1 hb1
    go_wp2_with fail
    refine wp_loop_rounds 3 ?_
    rw [rounds_succ]
    go_wp2_with (at_builtin; refine wpList_append_zs rfl _ _ rfl w.heap.size _ [] rfl HO1.out _ S b1 rfl HY1.out (by simp; omega) HB1.out.size ?_; intro v2 w2 ho2 hn2 hb2; have HO2 := Lib.hid ho2; have HB2 := Lib.hid (hb2 _ _ HB1.out (Nat.le_refl _)); clear ho2 hb2 hn2)
    have d3 := below_cell HB2.out hc2
    have HY3 := Lib.hid (zsAt_below HZ2.out HB2.out)
    rw [rounds_succ]
    go_wp2_with (at_builtin; refine wpList_append_zs rfl _ _ rfl w.heap.size _ ([] ++ S) rfl HO2.out _ T b2 rfl HY3.out (by simp; omega) HB2.out.size ?_; intro v3 w3 ho3 hn3 hb3; have HO3 := Lib.hid ho3; have HB3 := Lib.hid (hb3 _ _ HB2.out (Nat.le_refl _)); clear ho3 hb3 hn3)
    rw [rounds_succ]
    go_wp2_with fail
    go_ret
    refine ⟨_, rfl, ⟨HO3.out, fun h => ?_⟩, HB3.out⟩
    have := congrArg List.length h
    simp only [List.length_append, List.length_nil] at this
    omega
  · obtain rfl : S = [] := List.eq_nil_of_length_eq_zero (by omega)
    obtain rfl : T = [] := List.eq_nil_of_length_eq_zero (by omega)
    obtain ⟨i0, hi, hz0, hz1, hz2⟩ := info_parts infoSpan
    rcases h1 with ⟨_, e1⟩ | ⟨h, _⟩
    · rcases h2 with ⟨_, e2⟩ | ⟨h, _⟩
      · cases e1
        cases e2
        have HG := Lib.hid (Any8.slices_Grow_room (P := Tryd.prog) (ρ := growZ_ren) growZ none 0 0 0 w (Nat.le_refl _) (by omega) (by omega) (Nat.le_refl _))
        clear HZ1 HZ2
        go_enter Tryd.func45, Tryd.ntmps45
        go_wp2_with fail
        refine wp_loop_rounds 3 ?_
        rw [rounds_succ]
        go_wp2_with fail
        rw [rounds_succ]
        go_wp2_with fail
        rw [rounds_succ]
        go_wp2_with fail
        refine HG.out.mono ?_
        rintro e w1 ⟨rfl, rfl⟩
        go_wp2_with fail
        refine wp_loop_rounds 3 ?_
        rw [rounds_succ]
        go_wp2_with (at_builtin; refine wpList_append_own_none rfl _ _ _ rfl 0 57 i0 1 Tryd.underlying25 hi _ 0 [] rfl (World.ownsRow_nil _ _ _ _) rfl ?_)
        rw [rounds_succ]
        go_wp2_with (at_builtin; refine wpList_append_own_none rfl _ _ _ rfl 0 57 i0 1 Tryd.underlying25 hi _ 0 [] rfl (World.ownsRow_nil _ _ _ _) rfl ?_)
        rw [rounds_succ]
        go_wp2_with fail
        go_ret
        exact ⟨_, rfl, ownZ_nil _ _, Below.refl _ _⟩
      · exact absurd rfl h
    · exact absurd rfl h

theorem pair_new (w : World) (v1 v2 : Value) (T : TypeId) : (w.alloc (.cells #[v1, v2] T)).cell? ⟨w.heap.size, 0, none⟩ = some v1 ∧ (w.alloc (.cells #[v1, v2] T)).cell? ⟨w.heap.size, 1, none⟩ = some v2 := by
  constructor <;> rw [World.cell?_alloc_new] <;> rfl
set_option maxRecDepth 100000 in
set_option maxHeartbeats 2000000 in
theorem union_any (v1 v2 : Value) (S T : List Rg) (b1 b2 : Nat) (w : World) (hS : Canon S) (hT : Canon T) (h1 : ZsAt b1 w v1 S) (h2 : ZsAt b2 w v2 T) :
    Calls Tryd.prog 22 #[.agg #[v1], .agg #[v2]] w (SetB (fun c => Has S c ∨ Has T c) w) := by
  obtain ⟨p1, q1, rfl⟩ := zsAt_len h1
  obtain ⟨p2, q2, rfl⟩ := zsAt_len h2
  have hl1 := canon_len hS
  have hl2 := canon_len hT
  have HV1 := Lib.hid h1
  have HV2 := Lib.hid h2
  have HS := Lib.hid hS
  have HT := Lib.hid hT
  clear h1 h2 hS hT
  go_enter Tryd.func22, Tryd.ntmps22
  go_wp2_with fail
  have H3 := Lib.hid (three_new w (.slice p1 S.length q1) (.slice p2 T.length q2) (.slice none 0 0) 27 27 27)
  have hp := pair_new (((w.alloc (.cells #[.slice p1 S.length q1] 27)).alloc (.cells #[.slice p2 T.length q2] 27)).alloc (.cells #[.slice none 0 0] 27)) (.slice p1 S.length q1) (.slice p2 T.length q2) 25
  rw [World.size_alloc, World.size_alloc, World.size_alloc] at hp
  generalize ((w.alloc _).alloc _).alloc _ = w3 at *
  have hb4 := below_trans H3.out.hb (below_alloc w3 (.cells #[.slice p1 S.length q1, .slice p2 T.length q2] 25))
  refine (concat_any (.slice p1 S.length q1) (.slice p2 T.length q2) S T b1 b2 (w.heap.size + 3) _ (zsAt_below HV1.out hb4) (zsAt_below HV2.out hb4) hl1 hl2 hp.1 hp.2).mono ?_
  have hl4 : w3.heap.size ≤ (w3.alloc (.cells #[.slice p1 S.length q1, .slice p2 T.length q2] 25)).heap.size := (below_alloc _ _).size
  have HBw := Lib.hid (below_alloc w3 (.cells #[.slice p1 S.length q1, .slice p2 T.length q2] 25))
  generalize w3.alloc _ = w4 at *
  rintro e w5 ⟨v5, rfl, ho5, hb5⟩
  have HJ := Lib.hid (joined_any v5 (S ++ T) w4.heap.size w5 ho5 (inR_append HS.out.2 HT.out.2) (by simp; omega) hb5.size)
  have HB5 := Lib.hid hb5
  clear ho5 hb5 hp hb4
  go_wp2_with fail
  refine HJ.out.mono ?_
  rintro e w6 ⟨v6, U, rfl, hU, hh, hz, hb6⟩
  obtain ⟨k4, g4⟩ := keeps (w1 := w3) (HBw.out.trans ((HB5.out.trans hb6).mono hl4)) H3.out.lt H3.out.c3 H3.out.f3
  have HZ := Lib.hid hz
  have HU := Lib.hid hU
  have HH := Lib.hid hh
  have HB6 := Lib.hid hb6
  obtain ⟨a2, cap2, rfl⟩ := zsAt_len hz
  clear hz hU hh hb6
  go_wp2_with fail
  refine bodyPost_ret (v := .agg #[.slice a2 U.length cap2]) (by simp [results, Tryd.results22, go_sem, k4]) rfl ?_
  have hlt := H3.out.lt
  have hs5 := HB5.out.size
  refine ⟨_, U, rfl, HU.out, fun c => by rw [HH.out, has_append], zsAt_mono (zsAt_set (base := w3.heap.size) (zsAt_mono HZ.out (by omega)) hlt _) (by omega), ?_⟩
  exact (H3.out.hb.trans ((HBw.out.trans ((HB5.out.trans HB6.out).mono hl4)).mono (by omega))).setCell (by show w.heap.size ≤ w.heap.size + 2; omega) _
end Go.Proofs.YtgdhhpbpbkgmeaaDoor.setw
