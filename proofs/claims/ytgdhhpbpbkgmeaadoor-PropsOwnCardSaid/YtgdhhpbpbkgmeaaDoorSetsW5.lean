/- The contracts of package sets' Not and Meet. -/
import Derived.Test.YtgdhhpbpbkgmeaaDoorSetsW4
namespace Go.Proofs.YtgdhhpbpbkgmeaaDoor.setw
open Go Go.RowKit Go.Shelf Go.Proofs.YtgdhhpbpbkgmeaaDoor.bulk Go.Proofs.YtgdhhpbpbkgmeaaDoor.ucdp Go.Proofs.YtgdhhpbpbkgmeaaDoor.ucdw Go.Proofs.YtgdhhpbpbkgmeaaDoor.setp Go.Proofs.YtgdhhpbpbkgmeaaDoor.flt Go.Proofs.YtgdhhpbpbkgmeaaDoor.setl

theorem two_new (w : World) (v1 v2 : Value) (T1 T2 : TypeId) : ((w.alloc (.cells #[v1] T1)).alloc (.cells #[v2] T2)).cell? ⟨w.heap.size + 1, 0, none⟩ = some v2 ∧ ((w.alloc (.cells #[v1] T1)).alloc (.cells #[v2] T2)).frozen? ⟨w.heap.size + 1, 0, none⟩ = false ∧ w.heap.size + 1 < ((w.alloc (.cells #[v1] T1)).alloc (.cells #[v2] T2)).heap.size ∧ Below w.heap.size w ((w.alloc (.cells #[v1] T1)).alloc (.cells #[v2] T2)) := by
  have h := cell_new (w.alloc (.cells #[v1] T1)) v2 T2
  rw [World.size_alloc] at h
  exact ⟨h.1, h.2.1, h.2.2.1, below_trans (below_alloc _ _) (below_alloc _ _)⟩
/-- how far 'Not' has come -/
def NtRel (S : List Rg) (m : Int) (w1 : World) (v f i : Value) (wr : World) : Prop :=
  ∃ (k : Nat) (fr : Int) (D : List Rg), k ≤ S.length ∧ i = .int .i64 k ∧ f = .int .i64 fr ∧ OwnZ wr w1.heap.size v D ∧ Below w1.heap.size w1 wr ∧ NInv S m k fr D

set_option maxRecDepth 100000 in
set_option maxHeartbeats 2000000 in
theorem not_any (v : Value) (S : List Rg) (base : Nat) (most : Int) (w : World) (hS : Canon S) (hv : ZsAt base w v S) (h1 : -9223372036854775808 ≤ most) (h2 : most ≤ 9223372036854775807) :
    Calls Tryd.prog 24 #[.agg #[v], .int .i64 most] w (SetB (fun c => 0 ≤ c ∧ c ≤ min most 1114111 ∧ ¬ Has S c) w) := by
  obtain ⟨a, cap, rfl⟩ := zsAt_len hv
  have hl := canon_len hS
  have HV := Lib.hid hv
  have HS := Lib.hid hS
  obtain ⟨m, hm⟩ : ∃ m, min most 1114111 = m := ⟨_, rfl⟩
  have hm1 : m ≤ 1114111 := by omega
  have hm2 : -9223372036854775808 ≤ m := by omega
  clear hv hS
  go_enter Tryd.func24, Tryd.ntmps24
  go_wp2_with fail
  obtain ⟨c4, f4, hlt4, hb4⟩ := two_new w (.slice a S.length cap) (.slice none 0 0) 27 27
  generalize (w.alloc _).alloc _ = w1 at *
  have C4 := Lib.hid c4
  have F4 := Lib.hid f4
  have HM := Lib.hid hm
  have HB4 := Lib.hid hb4
  clear c4 f4 hm hb4
  go_loopw [5, 6, 14] (fun v f i wr => NtRel S m w1 v f i wr) (fun _ _ i _ => S.length - (intOf i).toNat)
  case atStart => exact ⟨0, 0, [], Nat.zero_le _, rfl, rfl, ownZ_nil _ _, Below.refl _ _, ninv_start HS.out _⟩
  case round =>
    obtain ⟨k, fr, D, hk, rfl, rfl, ho, hb, hA⟩ := hrel
    have HA := Lib.hid hA
    have HB := Lib.hid hb
    have HO := Lib.hid ho
    have HZ := Lib.hid (zsAt_below HV.out (below_trans HB4.out hb))
    have hf0 := hA.2.2.2.2.2.1
    have hf1 := hA.2.2.2.2.2.2.1
    have hDl := hA.2.2.2.2.2.2.2
    clear hA ho hb
    by_cases hlt : k < S.length
    · rcases HZ.out with ⟨h0, _⟩ | ⟨_, b, cap', hv, hb0, hc1, hc2, hc⟩
      · subst h0; simp at hlt
      cases hv
      have hcell := hc k hlt
      have hr := HS.out.2 _ (List.getElem_mem hlt)
      have HA2 := Lib.hid (ninv_step HS.out hm1 hlt HA.out)
      obtain ⟨x, y, hxy⟩ : ∃ x y, S[k] = (x, y) := ⟨_, _, rfl⟩
      rw [hxy] at hcell hr HA2
      simp only [zc] at hcell
      simp only at hr HA2
      obtain ⟨hx0, hxy1, hy1⟩ := hr
      have HX := Lib.hid (fun w => first_in (b := y) w (cl_id hx0 (by omega)))
      have HY := Lib.hid (fun w => last_in (a := x) w (cl_id (by omega) hy1))
      clear hc hxy
      go_wp2_with fail
      refine (HX.out _).mono ?_
      rintro e w' ⟨rfl, rfl⟩
      go_wp2_with fail
      refine (add_any _ D fr (min (x - 1) m) w1.heap.size _ HO.out hf0 (by omega) (by omega) HB.out.size (by omega) (by omega)).mono ?_
      rintro e w2 ⟨va, rfl, ho2, hb2⟩
      have HO2 := Lib.hid ho2
      have HB2 := Lib.hid (HB.out.trans hb2)
      clear ho2 hb2
      go_wp2_with fail
      refine (HY.out _).mono ?_
      rintro e w' ⟨rfl, rfl⟩
      go_wp2_with fail
      go_roundw
      case rel => exact ⟨k + 1, y + 1, _, by omega, by go_num, rfl, HO2.out, HB2.out, HA2.out⟩
      case measure => simp [intOf]; omega
    · obtain rfl : k = S.length := by omega
      have HE := Lib.hid (ninv_end hm1 HA.out)
      go_wp2_with fail
      refine (add_any _ D fr m w1.heap.size _ HO.out hf0 (by omega) (by omega) HB.out.size (by omega) (by omega)).mono ?_
      rintro e w2 ⟨va, rfl, ho2, hb2⟩
      obtain ⟨k4, g4⟩ := keeps (HB.out.trans hb2) hlt4 C4.out F4.out
      have HZ2 := Lib.hid (zsAt_own ho2)
      have HB2 := Lib.hid (HB.out.trans hb2)
      obtain ⟨a2, cap2, rfl⟩ := ownZ_len ho2
      clear ho2 hb2
      go_wp2_with fail
      refine bodyPost_ret (v := .agg #[.slice a2 (addP D fr m).length cap2]) (by simp [results, Tryd.results24, go_sem, k4]) rfl ?_
      refine ⟨_, addP D fr m, rfl, HE.out.1, fun c => ?_, zsAt_mono (zsAt_set HZ2.out hlt4 _) (by omega), ?_⟩
      · rw [HE.out.2, HM.out]
      · exact (HB4.out.trans (HB2.out.mono (by omega))).setCell (Nat.le_succ _) _

/-- three new blocks of one cell each -/
structure Three (w w1 : World) (v1 v2 v3 : Value) : Prop where
  c1 : w1.cell? ⟨w.heap.size, 0, none⟩ = some v1
  c2 : w1.cell? ⟨w.heap.size + 1, 0, none⟩ = some v2
  c3 : w1.cell? ⟨w.heap.size + 2, 0, none⟩ = some v3
  f3 : w1.frozen? ⟨w.heap.size + 2, 0, none⟩ = false
  lt : w.heap.size + 2 < w1.heap.size
  hb : Below w.heap.size w w1
theorem three_new (w : World) (v1 v2 v3 : Value) (T1 T2 T3 : TypeId) : Three w (((w.alloc (.cells #[v1] T1)).alloc (.cells #[v2] T2)).alloc (.cells #[v3] T3)) v1 v2 v3 := by
  have h := cell_new ((w.alloc (.cells #[v1] T1)).alloc (.cells #[v2] T2)) v3 T3
  have h2 := two_new w v1 v2 T1 T2
  have h1 := cell_new w v1 T1
  rw [World.size_alloc, World.size_alloc] at h
  refine ⟨?_, ?_, h.1, h.2.1, h.2.2.1, below_trans h2.2.2.2 (below_alloc _ _)⟩
  · exact below_cell (below_trans (below_alloc _ _) (below_alloc _ _)) h1.1
  · exact below_cell (below_alloc _ _) h2.1
/-- how far 'Meet' has come -/
def MtRel (S T : List Rg) (w1 : World) (v i j : Value) (wr : World) : Prop :=
  ∃ (n k : Nat) (D : List Rg), n ≤ S.length ∧ k ≤ T.length ∧ i = .int .i64 n ∧ j = .int .i64 k ∧ OwnZ wr w1.heap.size v D ∧ Below w1.heap.size w1 wr ∧ MInv S T n k D

set_option maxRecDepth 100000 in
set_option maxHeartbeats 4000000 in
theorem meet_any (v1 v2 : Value) (S T : List Rg) (b1 b2 : Nat) (w : World) (hS : Canon S) (hT : Canon T) (h1 : ZsAt b1 w v1 S) (h2 : ZsAt b2 w v2 T) :
    Calls Tryd.prog 23 #[.agg #[v1], .agg #[v2]] w (SetB (fun c => Has S c ∧ Has T c) w) := by
  obtain ⟨p1, q1, rfl⟩ := zsAt_len h1
  obtain ⟨p2, q2, rfl⟩ := zsAt_len h2
  have hl1 := canon_len hS
  have hl2 := canon_len hT
  have HV1 := Lib.hid h1
  have HV2 := Lib.hid h2
  have HS := Lib.hid hS
  have HT := Lib.hid hT
  clear h1 h2 hS hT
  go_enter Tryd.func23, Tryd.ntmps23
  go_wp2_with fail
  have H3 := Lib.hid (three_new w (.slice p1 S.length q1) (.slice p2 T.length q2) (.slice none 0 0) 27 27 27)
  generalize ((w.alloc _).alloc _).alloc _ = w1 at *
  go_loopw [5, 6, 7] (fun v i j wr => MtRel S T w1 v i j wr) (fun _ i j _ => (S.length - (intOf i).toNat) + (T.length - (intOf j).toNat))
  case atStart => exact ⟨0, 0, [], Nat.zero_le _, Nat.zero_le _, rfl, rfl, ownZ_nil _ _, Below.refl _ _, minv_start _ _⟩
  case round =>
    obtain ⟨n, k, D, hn, hk, rfl, rfl, ho, hb, hA⟩ := hrel
    have HA := Lib.hid hA
    have HB := Lib.hid hb
    have HO := Lib.hid ho
    have hlt3 := H3.out.lt
    have k1 := (hb.cell (p := ⟨w.heap.size, 0, none⟩) (by show w.heap.size < w1.heap.size; omega)).trans H3.out.c1
    have k2 := (hb.cell (p := ⟨w.heap.size + 1, 0, none⟩) (by show w.heap.size + 1 < w1.heap.size; omega)).trans H3.out.c2
    have HZ1 := Lib.hid (zsAt_below HV1.out (below_trans H3.out.hb hb))
    have HZ2 := Lib.hid (zsAt_below HV2.out (below_trans H3.out.hb hb))
    have hDl := hA.2.2.2
    clear hA ho hb
    by_cases hlt : n < S.length
    · by_cases hlk : k < T.length
      · rcases HZ1.out with ⟨h0, _⟩ | ⟨_, g1, cap1, hv, _, hc1, hc2, hc⟩
        · subst h0; simp at hlt
        cases hv
        rcases HZ2.out with ⟨h0, _⟩ | ⟨_, g2, cap2, hv, _, hc3, hc4, hd⟩
        · subst h0; simp at hlk
        cases hv
        have hcell := hc n hlt
        have hdell := hd k hlk
        have hr := HS.out.2 _ (List.getElem_mem hlt)
        have ht := HT.out.2 _ (List.getElem_mem hlk)
        have HL := Lib.hid (minv_left HS.out HT.out hlt hlk HA.out)
        have HR := Lib.hid (minv_right HS.out HT.out hlt hlk HA.out)
        obtain ⟨x, y, hxy⟩ : ∃ x y, S[n] = (x, y) := ⟨_, _, rfl⟩
        obtain ⟨u, z, huz⟩ : ∃ u z, T[k] = (u, z) := ⟨_, _, rfl⟩
        rw [hxy] at hcell hr HL HR
        rw [huz] at hdell ht HL HR
        simp only [zc] at hcell hdell
        simp only at hr ht HL HR
        obtain ⟨hx0, hxy1, hy1⟩ := hr
        obtain ⟨hu0, huz1, hz1⟩ := ht
        have HX := Lib.hid (fun w => first_in (b := y) w (cl_id hx0 (by omega)))
        have HY := Lib.hid (fun w => last_in (a := x) w (cl_id (by omega) hy1))
        have HU := Lib.hid (fun w => first_in (b := z) w (cl_id hu0 (by omega)))
        have HW := Lib.hid (fun w => last_in (a := u) w (cl_id (by omega) hz1))
        have hni : (n : Int) < (S.length : Int) := by omega
        have hki : (k : Int) < (T.length : Int) := by omega
        clear hc hd hxy huz
        go_wp2_with fail
        go_quiet (fail)
        rename_i nq
        have HO1 := Lib.hid (ownZ_draws HO.out nq)
        have HB1 := Lib.hid (below_draws HB.out nq)
        generalize wr.drewN nq = wq at *
        go_wp2_with fail
        refine (HX.out _).mono ?_
        rintro e w' ⟨rfl, rfl⟩
        go_wp2_with fail
        refine (HU.out _).mono ?_
        rintro e w' ⟨rfl, rfl⟩
        go_wp2_with fail
        refine (HY.out _).mono ?_
        rintro e w' ⟨rfl, rfl⟩
        go_wp2_with fail
        refine (HW.out _).mono ?_
        rintro e w' ⟨rfl, rfl⟩
        go_wp2_with fail
        refine (add_any _ D (max x u) (min y z) w1.heap.size _ HO1.out (by omega) (by omega) (by omega) HB1.out.size (by omega) (by omega)).mono ?_
        rintro e w2 ⟨va, rfl, ho2, hb2⟩
        have HO2 := Lib.hid ho2
        have HB2 := Lib.hid (HB1.out.trans hb2)
        clear ho2 hb2
        by_cases hyz : y < z
        · go_wp2_with fail
          refine (HY.out _).mono ?_
          rintro e w' ⟨rfl, rfl⟩
          go_wp2_with fail
          refine (HW.out _).mono ?_
          rintro e w' ⟨rfl, rfl⟩
          go_wp2_with fail
          go_roundw
          case rel => exact ⟨n + 1, k, _, by omega, by omega, by go_num, rfl, HO2.out, HB2.out, HL.out hyz⟩
          case measure => simp [intOf]; omega
        · go_wp2_with fail
          refine (HY.out _).mono ?_
          rintro e w' ⟨rfl, rfl⟩
          go_wp2_with fail
          refine (HW.out _).mono ?_
          rintro e w' ⟨rfl, rfl⟩
          go_wp2_with fail
          go_roundw
          case rel => exact ⟨n, k + 1, _, by omega, by omega, rfl, by go_num, HO2.out, HB2.out, HR.out hyz⟩
          case measure => simp [intOf]; omega
      · obtain rfl : k = T.length := by omega
        obtain ⟨k4, g4⟩ := keeps HB.out hlt3 H3.out.c3 H3.out.f3
        have HE := Lib.hid (minv_end HA.out (Or.inr (Nat.le_refl _)))
        obtain ⟨a2, cap2, rfl⟩ := ownZ_len HO.out
        go_wp2_with fail
        refine bodyPost_ret (v := .agg #[.slice a2 D.length cap2]) (by simp [results, Tryd.results23, go_sem, k4]) rfl ?_
        exact ⟨_, D, rfl, HE.out.1, HE.out.2, zsAt_mono (zsAt_set (zsAt_own HO.out) hlt3 _) (by omega), (H3.out.hb.trans (HB.out.mono (by omega))).setCell (by show w.heap.size ≤ w.heap.size + 2; omega) _⟩
    · obtain rfl : n = S.length := by omega
      obtain ⟨k4, g4⟩ := keeps HB.out hlt3 H3.out.c3 H3.out.f3
      have HE := Lib.hid (minv_end HA.out (Or.inl (Nat.le_refl _)))
      obtain ⟨a2, cap2, rfl⟩ := ownZ_len HO.out
      go_wp2_with fail
      refine bodyPost_ret (v := .agg #[.slice a2 D.length cap2]) (by simp [results, Tryd.results23, go_sem, k4]) rfl ?_
      exact ⟨_, D, rfl, HE.out.1, HE.out.2, zsAt_mono (zsAt_set (zsAt_own HO.out) hlt3 _) (by omega), (H3.out.hb.trans (HB.out.mono (by omega))).setCell (by show w.heap.size ≤ w.heap.size + 2; omega) _⟩
end Go.Proofs.YtgdhhpbpbkgmeaaDoor.setw
