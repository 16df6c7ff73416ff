/- The contracts of the library's Clone at package sets' ranges, and of Caseless. -/
import Derived.Test.YtgdhhpbpbkgmeaaDoorSetsW6
import Derived.Test.YtgdhhpbpbkgmeaaDoorSetsP2
import Derived.Test.YtgdhhpbpbkgmeaaDoorUcdW7
import Derived.Shelf.SlicesE.Clone
namespace Go.Proofs.YtgdhhpbpbkgmeaaDoor.setw
open Go Go.RowKit Go.Shelf Go.Proofs.YtgdhhpbpbkgmeaaDoor.bulk Go.Proofs.YtgdhhpbpbkgmeaaDoor.ucdp Go.Proofs.YtgdhhpbpbkgmeaaDoor.ucdw Go.Proofs.YtgdhhpbpbkgmeaaDoor.setp Go.Proofs.YtgdhhpbpbkgmeaaDoor.flt Go.Proofs.YtgdhhpbpbkgmeaaDoor.setl

theorem clone_any (v : Value) (S : List Rg) (b : Nat) (w : World) (h : ZsAt b w v S) (hl : S.length ≤ 1114112) : Calls Tryd.prog 47 #[v] w (OwnB w.heap.size S w) := by
  rcases h with ⟨hS, rfl⟩ | ⟨hS, g, cap, rfl, _, hc1, hc2, hc⟩
  · subst hS
    refine (AnyE.slices_Clone_nil (P := Tryd.prog) (ρ := cloneZ_ren) cloneZ 0 0 w).mono ?_
    rintro e w' ⟨rfl, rfl⟩
    exact ⟨_, rfl, ownZ_nil _ _, Below.refl _ _⟩
  · obtain ⟨i0, hi, hz0, hz1, hz2⟩ := info_parts infoSpan
    refine (AnyE.slices_Clone (P := Tryd.prog) (ρ := cloneZ_ren) cloneZ i0 (.complex .f64 0 0) 1 16 hi hz0 hz1 hz2 rfl (by decide) Tryd.sizeOf57 g 0 S.length cap (zcs S) w (by simp [zcs]) (by unfold maxLen; omega) (by omega) ?_ ?_).mono ?_
    · intro j u hj
      have hjm : j < S.length := by
        rcases Nat.lt_or_ge j S.length with h | h
        · exact h
        · rw [List.getElem?_eq_none (by simpa [zcs] using h)] at hj; cases hj
      rw [Nat.zero_add, hc j hjm]
      simp [zcs, hjm] at hj
      rw [← hj]
    · intro u hu
      simp only [zcs, List.mem_map] at hu
      obtain ⟨y, _, rfl⟩ := hu
      rfl
    · rintro e w' ⟨v', rfl, ho, _, hb⟩
      exact ⟨v', rfl, ⟨ho, fun h => absurd h hS⟩, hb⟩

/-- as 'add': and what it may write is one block -/
def AddB (base : Nat) (v : Value) (D : List Rg) (w : World) (e : Ending) (w' : World) : Prop := ∃ v', e = .returned v' ∧ OwnZ w' base v' D ∧ Below base w w' ∧ w.grownBy w' v.ownBlock
theorem grown_refl (w : World) (r : Option Nat) : w.grownBy w r := ⟨rfl, rfl, rfl, Nat.le_refl _, fun _ _ _ => rfl⟩
theorem wpList_append_zg {ops : Array Oper} {rest : List Oper} {o : Oper} {a : Act} {w : World} {Q : Exit → Act → World → Prop} (hgd : o.guard = none) (s x : Operand)
    (ho : o.op = .call { callee := .builtin .append, args := #[s, x], argTypes := #[25, 25] }) (base : Nat) (v : Value) (D : List Rg) (hs : a.eval s = v) (hown : OwnZ w base v D)
    (q1 q2 : Int) (B : Nat) (hx : a.eval x = .slice (some ⟨B, 0, none⟩) 1 1) (hB : B = w.heap.size) (hlen : D.length ≤ 100000000) (hbase : base ≤ w.heap.size)
    (h : ∀ v' w', OwnZ w' base v' (D ++ [(q1, q2)]) → (∀ B w1, Below B w1 w → B ≤ base → Below B w1 w') → w.grownBy w' v.ownBlock → wpList Tryd.prog ops Q rest (a.put o.dst v') w') :
    wpList Tryd.prog ops Q (o :: rest) a (w.alloc (.cells #[.complex .f64 (fw q1) (fw q2)] 57)) := by
  subst hB
  obtain ⟨i0, hi, hz0, hz1, hz2⟩ := info_parts infoSpan
  refine wpList_append_own _ hgd s x _ ho base 57 i0 (.complex .f64 0 0) 1 16 Tryd.underlying25 hi hz0 hz1 hz2 rfl (by decide) v _ _ hs (World.ownsRow.alloc hown.1 _) ⟨w.heap.size, 0, none⟩ 1 1 [.complex .f64 (fw q1) (fw q2)] hx rfl ?_ ?_ (by unfold maxLen; omega) (by omega) (by rw [World.size_alloc]; omega) ?_
  · intro j u hj
    have hj0 : j = 0 := by
      cases j with
      | zero => rfl
      | succ j => simp at hj
    subst hj0
    simp only [List.getElem?_cons_zero, Option.some.injEq] at hj
    subst hj
    have hplain : (⟨w.heap.size, 0, none⟩ : Addr).add 0 = ⟨w.heap.size, 0, none⟩ := by unfold Addr.add; split <;> simp_all
    rw [hplain, World.cell?_alloc_new]
    rfl
  · intro u hu
    simp only [List.mem_cons, List.not_mem_nil, or_false] at hu
    subst hu
    rfl
  · intro v' w' hown' hgr _
    refine h v' w' ?_ (fun B w1 hb hB => (hb.alloc (by have := hb.size; omega) _).grown hgr (by rw [World.size_alloc]; omega) (fun k hk => ?_)) ?_
    · have e : zcs (D ++ [(q1, q2)]) = zcs D ++ [.complex .f64 (fw q1) (fw q2)] := by simp [zcs, zc]
      unfold OwnZ
      rw [e]
      exact ⟨by simpa using hown', fun h => absurd h (by simp)⟩
    · have := (World.ownsRow.lt hown.1) k hk
      omega
    · refine ⟨hgr.os, hgr.tape, hgr.output, Nat.le_trans (by rw [World.size_alloc]; omega) hgr.size, fun k hk hne => ?_⟩
      rw [hgr.block k (by rw [World.size_alloc]; omega) hne]
      exact Below.heap_alloc w _ k hk
set_option maxHeartbeats 1000000 in
theorem add_one (v : Value) (D : List Rg) (a : Int) (base : Nat) (w : World) (hown : OwnZ w base v D) (h0 : 0 ≤ a) (h1 : a ≤ 1114111) (hlen : D.length ≤ 100000000) (hbase : base ≤ w.heap.size) :
    Calls Tryd.prog 38 #[v, .int .i64 a, .int .i64 a] w (AddB base v (addP D a a) w) := by
  have HO := Lib.hid hown
  clear hown
  have HE := Lib.hid (show D ++ [(a, a)] = addP D a a by unfold addP; rw [if_neg (by omega)])
  have hS := Lib.hid (fun w => span_any a a w h0 (by omega) (by omega) h1)
  have HL := Lib.hid hlen
  clear hlen
  go_enter Tryd.func38, Tryd.ntmps38
  go_wp2_with fail
  refine (hS.out _).mono ?_
  rintro e w' ⟨rfl, rfl⟩
  go_wp2_with (at_builtin; refine wpList_append_zg rfl _ _ rfl base v D rfl HO.out a a _ rfl rfl HL.out hbase ?_; intro va wa hoa hba hga; have HOa := Lib.hid hoa; have hwa := hba _ _ (Below.refl base w) (Nat.le_refl _); have HG := Lib.hid hga; clear hoa hba hga)
  go_ret
  exact ⟨_, rfl, by rw [← HE.out]; exact HOa.out, hwa, HG.out⟩

/-- numbers in memory stay, whatever a row of ranges has done -/
theorem intsAt_grown {b base : Nat} {w w' : World} {v vL : Value} {D : List Rg} {l : List Int} (h : IntsAt b w vL l) (ho : OwnZ w base v D) (hg : w.grownBy w' v.ownBlock) : IntsAt b w' vL l := by
  rcases h with h | ⟨hl, g, cap, e, h0, h1, h2, h3, hc⟩
  · exact Or.inl h
  · have hne : some g ≠ v.ownBlock := by
      intro heq
      have hD : D ≠ [] := by
        intro hD
        rw [ho.2 hD] at heq
        cases heq
      obtain ⟨g2, cap2, hv, _, _, _, _, hc2⟩ := ownZ_slice ho hD
      rw [hv] at heq
      have e2 : g = g2 := by injection heq
      subst e2
      have a1 := hc 0 (List.length_pos_iff.2 hl)
      have a2 := hc2 0 (List.length_pos_iff.2 hD)
      rw [a1] at a2
      cases a2
    refine Or.inr ⟨hl, g, cap, e, h0, Nat.lt_of_lt_of_le h1 hg.size, h2, h3, fun i hi => ?_⟩
    rw [← hc i hi]
    exact World.cell?_of_block (hg.block g h1 hne)
theorem intsAt_len {b : Nat} {w : World} {v : Value} {l : List Int} (h : IntsAt b w v l) : ∃ a cap, v = .slice a l.length cap := by
  rcases h with ⟨h, hv⟩ | ⟨_, g, cap, hv, _⟩
  · subst h; exact ⟨_, _, hv⟩
  · exact ⟨_, _, hv⟩

/-- how far the outer loop has come -/
def KRel (S : List Rg) (u : Bool) (w1 : World) (v i : Value) (wr : World) : Prop :=
  ∃ (k : Nat) (D : List Rg), k ≤ S.length ∧ i = .int .i64 k ∧ OwnZ wr w1.heap.size v D ∧ Below w1.heap.size w1 wr ∧ KInv S u (fun d => Has (S.take k) d ∧ d ≤ 8490) [] D ∧ (∀ r ∈ S.drop k, (D.length : Int) ≤ S.length + 3 * min r.1 8491) ∧ (D.length : Int) ≤ S.length + 25473
/-- .. and the loop over one range -/
def XRel (S : List Rg) (u : Bool) (k : Nat) (x0 y : Int) (w1 : World) (v c : Value) (wr : World) : Prop :=
  ∃ (x : Int) (D : List Rg), c = .int .i64 x ∧ x0 ≤ x ∧ (x ≤ x0 ∨ x ≤ min y 8490 + 1) ∧ OwnZ wr w1.heap.size v D ∧ Below w1.heap.size w1 wr ∧ KInv S u (Done S k x0 x) [] D ∧ (D.length : Int) ≤ S.length + 3 * min x 8491
/-- .. and the loop over the other cases of one number -/
def ORel (S : List Rg) (u : Bool) (k : Nat) (x0 x : Int) (l : List Int) (vL : Value) (w1 : World) (v i : Value) (wr : World) : Prop :=
  ∃ (j : Nat) (D : List Rg), j ≤ l.length ∧ i = .int .i64 j ∧ OwnZ wr w1.heap.size v D ∧ Below w1.heap.size w1 wr ∧ IntsAt 0 wr vL l ∧ KInv S u (Done S k x0 x) (l.take j) D ∧ (D.length : Int) ≤ S.length + 3 * x + j

set_option maxRecDepth 100000 in
set_option maxHeartbeats 4000000 in
theorem caseless_any (v : Value) (S : List Rg) (base : Nat) (u : Bool) (w : World) (hS : Canon S) (hv : ZsAt base w v S) (hT : Tab3 w) :
    Calls Tryd.prog 26 #[.agg #[v], .bool u] w (SetB (fun c => Has S c ∨ ∃ d, Has S d ∧ c ∈ othersP d u) w) := by
  obtain ⟨a, cap, rfl⟩ := zsAt_len hv
  have hl := canon_len hS
  have HV := Lib.hid hv
  have HS := Lib.hid hS
  have HT := Lib.hid hT
  clear hv hS hT
  go_enter Tryd.func26, Tryd.ntmps26
  go_wp2_with fail
  obtain ⟨c4, f4, hlt4, hb4⟩ := two_new w (.slice a S.length cap) (.slice none 0 0) 27 27
  have c2 : ((w.alloc (.cells #[.slice a S.length cap] 27)).alloc (.cells #[.slice none 0 0] 27)).cell? ⟨w.heap.size, 0, none⟩ = some (.slice a S.length cap) := below_cell (below_alloc _ _) (cell_new w _ _).1
  generalize (w.alloc _).alloc _ = w1 at *
  have C4 := Lib.hid c4
  have C2 := Lib.hid c2
  have F4 := Lib.hid f4
  have HB4 := Lib.hid hb4
  refine (clone_any _ S base w1 (zsAt_below HV.out hb4) hl).mono ?_
  rintro e w2 ⟨v2, rfl, ho2, hb2⟩
  have d2 := below_cell hb2 c2
  have HO2 := Lib.hid ho2
  have HB2 := Lib.hid hb2
  clear c4 c2 f4 hb4 ho2 hb2
  go_wp2_with fail
  go_loopw [5, 17] (fun v i wr => KRel S u w1 v i wr) (fun _ i _ => S.length - (intOf i).toNat)
  case atStart => exact ⟨0, S, Nat.zero_le _, rfl, HO2.out, HB2.out, kinv_zero S u HS.out, fun r hr => by have := HS.out.2 r (by simpa using hr); omega, by omega⟩
  case round =>
    obtain ⟨k, D, hk, rfl, ho, hb, hA, hD1, hD2⟩ := hrel
    have HA := Lib.hid hA
    have HB := Lib.hid hb
    have HO := Lib.hid ho
    have HD1 := Lib.hid hD1
    have HZ := Lib.hid (zsAt_below HV.out (below_trans HB4.out hb))
    clear hA ho hb hD1
    by_cases hlt : k < S.length
    · rcases HZ.out with ⟨h0, _⟩ | ⟨_, b, cap', hv, hb0, hc1, hc2, hc⟩
      · subst h0; simp at hlt
      cases hv
      have hcell := hc k hlt
      have hr := HS.out.2 _ (List.getElem_mem hlt)
      have hDk := HD1.out _ (mem_drop hlt)
      have HKB := Lib.hid (kinv_begin (x0 := S[k].1) HA.out)
      have HKD := Lib.hid (fun x D => kinv_done (u := u) hlt (x := x) (D := D))
      have HN := Lib.hid (fun r hr => canon_behind HS.out hlt (r := r) hr)
      obtain ⟨x0, y, hxy⟩ : ∃ x y, S[k] = (x, y) := ⟨_, _, rfl⟩
      rw [hxy] at hcell hr HKB HKD HN hDk
      simp only [zc] at hcell
      simp only at hr HKB HKD HN hDk
      obtain ⟨hx0, hxy1, hy1⟩ := hr
      have HX := Lib.hid (fun w => first_in (b := y) w (cl_id hx0 (by omega)))
      have HY := Lib.hid (fun w => last_in (a := x0) w (cl_id (by omega) hy1))
      clear hc hxy
      go_wp2_with fail
      refine (HX.out _).mono ?_
      rintro e w' ⟨rfl, rfl⟩
      go_wp2_with fail
      obtain ⟨wo, rfl⟩ : ∃ wo : World, wo = wr := ⟨_, rfl⟩
      go_loopw [5, 8] (fun v c wr => XRel S u k x0 y w1 v c wr) (fun _ c _ => (8491 - intOf c).toNat)
      case atStart => exact ⟨x0, D, rfl, by omega, Or.inl (by omega), HO.out, HB.out, HKB.out, by omega⟩
      case round =>
        obtain ⟨x, E, rfl, hx1, hx2, ho, hb, hA, hE1⟩ := hrel
        have HOx := Lib.hid ho
        have HBx := Lib.hid hb
        have HAx := Lib.hid hA
        clear ho hb hA
        by_cases hle : x ≤ min y 8490
        · have hTx := below_tab (below_trans HB4.out HBx.out) HT.out
          have HF := Lib.hid (others_any x u wr (by omega) (by omega) hTx)
          clear hTx
          go_wp2_with fail
          refine (HY.out _).mono ?_
          rintro e w' ⟨rfl, rfl⟩
          go_wp2_with fail
          refine HF.out.mono ?_
          rintro e w5 ⟨vL, rfl, hL, hb5⟩
          obtain ⟨aL, cL, rfl⟩ := intsAt_len hL
          have HL := Lib.hid (intsAt_mono (Nat.zero_le _) hL)
          have HB5 := Lib.hid (HBx.out.trans (hb5.mono HBx.out.size))
          have HO5 := Lib.hid (ownZ_below HOx.out hb5)
          have HM := Lib.hid (fun z => others_mem (c := x) (x := z) (u := u))
          have HKN := Lib.hid (fun E => kinv_next (S := S) (u := u) (k := k) (x0 := x0) (x := x) (D := E) (by omega))
          have hL2 := others_len x u
          clear hL hb5 HF
          generalize othersP x u = l at *
          go_wp2_with fail
          obtain ⟨wi, rfl⟩ : ∃ wi : World, wi = w5 := ⟨_, rfl⟩
          go_loopw [5, 34] (fun v i wr => ORel S u k x0 x l (.slice aL l.length cL) w1 v i wr) (fun _ i _ => l.length - (intOf i).toNat)
          case atStart => exact ⟨0, E, Nat.zero_le _, rfl, HO5.out, HB5.out, HL.out, HAx.out, by omega⟩
          case round =>
            obtain ⟨j, G, hj, rfl, ho, hb, hi, hA, hE2⟩ := hrel
            have HOi := Lib.hid ho
            have HBi := Lib.hid hb
            have HIi := Lib.hid hi
            have HAi := Lib.hid hA
            clear ho hb hi hA
            by_cases hjl : j < l.length
            · rcases HIi.out with ⟨h0, _⟩ | ⟨_, gL, capL, hvL, _, _, hL3, hL4, hLc⟩
              · subst h0; simp at hjl
              cases hvL
              have hcl := hLc j hjl
              have hz := HM.out _ (List.getElem_mem hjl)
              have HAj := Lib.hid (kinv_add hjl HM.out HAi.out)
              have hget : l.getD j 0 = l[j] := by simp [List.getD, hjl]
              rw [hget] at hcl
              obtain ⟨z, hzz⟩ : ∃ z, l[j] = z := ⟨_, rfl⟩
              rw [hzz] at hcl hz HAj
              have hGl := addP_len G z z
              obtain ⟨hz0, hz1⟩ := hz
              clear hLc hget hzz
              go_wp2_with fail
              refine (add_one _ G z w1.heap.size _ HOi.out hz0 (by omega) (by omega) HBi.out.size).mono ?_
              rintro e w7 ⟨v7, rfl, ho7, hb7, hg7⟩
              have HO7 := Lib.hid ho7
              have HB7 := Lib.hid (HBi.out.trans hb7)
              have HI7 := Lib.hid (intsAt_grown HIi.out HOi.out hg7)
              clear ho7 hb7 hg7
              go_wp2_with fail
              go_roundw
              case rel => exact ⟨j + 1, addP G z z, by omega, by go_num, HO7.out, HB7.out, HI7.out, HAj.out, by omega⟩
              case measure => simp [intOf]; omega
            · obtain rfl : j = l.length := by omega
              have hAe := HAi.out
              rw [List.take_length] at hAe
              have HAe := Lib.hid (HKN.out G hAe)
              clear hAe
              go_wp2_with fail
              go_roundw
              case rel => exact ⟨x + 1, G, rfl, by omega, Or.inr (by omega), HOi.out, HBi.out, HAe.out, by omega⟩
              case measure => simp [intOf]; omega
        · go_wp2_with fail
          refine (HY.out _).mono ?_
          rintro e w' ⟨rfl, rfl⟩
          go_wp2_with fail
          go_roundw
          case rel => exact ⟨k + 1, E, by omega, by go_num, HOx.out, HBx.out, HKD.out x E hx1 hx2 hle HAx.out, fun r hr => by have := HN.out r hr; omega, by omega⟩
          case measure => simp [intOf]; omega
    · obtain rfl : k = S.length := by omega
      have HJ := Lib.hid (joined_any _ D w1.heap.size wr HO.out HA.out.1 (by omega) HB.out.size)
      have HE := Lib.hid (kinv_end HA.out)
      go_wp2_with fail
      refine HJ.out.mono ?_
      rintro e w6 ⟨v6, U, rfl, hU, hh, hz, hb6⟩
      obtain ⟨k4, g4⟩ := keeps (HB.out.trans hb6) hlt4 C4.out F4.out
      have HZ6 := Lib.hid (zsAt_mono hz HB.out.size)
      have HU := Lib.hid hU
      have HH := Lib.hid hh
      have HB6 := Lib.hid (HB.out.trans hb6)
      obtain ⟨a2, cap2, rfl⟩ := zsAt_len hz
      clear hz hU hh hb6
      go_wp2_with fail
      refine bodyPost_ret (v := .agg #[.slice a2 U.length cap2]) (by simp [results, Tryd.results26, go_sem, k4]) rfl ?_
      refine ⟨_, U, rfl, HU.out, fun c => by rw [HH.out, HE.out], zsAt_mono (zsAt_set HZ6.out hlt4 _) (by omega), ?_⟩
      exact (HB4.out.trans (HB6.out.mono (by omega))).setCell (by show w.heap.size ≤ w.heap.size + 1; omega) _
end Go.Proofs.YtgdhhpbpbkgmeaaDoor.setw
