/- The contracts of package sets' New, Ranges, Count, Has, Same. -/
import Derived.Test.YtgdhhpbpbkgmeaaDoorSetsW2
import Derived.Outline
import Derived.Test.YtgdhhpbpbkgmeaaDoorSetsRs
namespace Go.Proofs.YtgdhhpbpbkgmeaaDoor.setw
open Go Go.RowKit Go.Shelf Go.Proofs.YtgdhhpbpbkgmeaaDoor.bulk Go.Proofs.YtgdhhpbpbkgmeaaDoor.ucdp Go.Proofs.YtgdhhpbpbkgmeaaDoor.ucdw Go.Proofs.YtgdhhpbpbkgmeaaDoor.setp Go.Proofs.YtgdhhpbpbkgmeaaDoor.flt Go.Proofs.YtgdhhpbpbkgmeaaDoor.setl

/-- a set, of the numbers of which p holds, in a world in which nothing of what was there has turned -/
def SetB (p : Int → Prop) (w : World) (e : Ending) (w' : World) : Prop := ∃ v S, e = .returned (.agg #[v]) ∧ Canon S ∧ (∀ c, Has S c ↔ p c) ∧ ZsAt w.heap.size w' v S ∧ Below w.heap.size w w'

/-- how far 'New' has come -/
def NRel (l : List Rg) (m : Int) (w1 : World) (v i : Value) (wr : World) : Prop :=
  ∃ (k : Nat) (D : List Rg), k ≤ l.length ∧ i = .int .i64 k ∧ OwnZ wr w1.heap.size v D ∧ Below w1.heap.size w1 wr ∧ AInv l m k D
theorem cell_new (w : World) (v : Value) (T : TypeId) : (w.alloc (.cells #[v] T)).cell? ⟨w.heap.size, 0, none⟩ = some v ∧ (w.alloc (.cells #[v] T)).frozen? ⟨w.heap.size, 0, none⟩ = false ∧ w.heap.size < (w.alloc (.cells #[v] T)).heap.size ∧ Below w.heap.size w (w.alloc (.cells #[v] T)) := by
  refine ⟨?_, ?_, by simp, below_alloc _ _⟩
  · rw [World.cell?_alloc_new]; rfl
  · exact World.frozen?_alloc_new _ _ _ _
/-- the first of the call's own blocks, in a later world -/
theorem keeps {w1 wr : World} {b : Nat} {v : Value} (hb : Below w1.heap.size w1 wr) (hlt : b < w1.heap.size) (hc : w1.cell? ⟨b, 0, none⟩ = some v) (hf : w1.frozen? ⟨b, 0, none⟩ = false) : wr.cell? ⟨b, 0, none⟩ = some v ∧ wr.frozen? ⟨b, 0, none⟩ = false :=
  ⟨(hb.cell (p := ⟨b, 0, none⟩) hlt).trans hc, (hb.frozen (p := ⟨b, 0, none⟩) hlt).trans hf⟩

set_option maxRecDepth 100000 in
set_option maxHeartbeats 2000000 in
theorem new_any (v : Value) (l : List Rg) (most : Int) (w : World) (hv : RsAt w v l) (hl : l.length ≤ 1000000) (h1 : -9223372036854775808 ≤ most) (h2 : most ≤ 9223372036854775807) :
    Calls Tryd.prog 13 #[v, .int .i64 most] w (SetB (fun c => Has l c ∧ 0 ≤ c ∧ c ≤ min most 1114111) w) := by
  obtain ⟨a, cap, rfl⟩ := rsAt_len hv
  have HV := Lib.hid hv
  have HL := Lib.hid hl
  obtain ⟨m, hm⟩ : ∃ m, min most 1114111 = m := ⟨_, rfl⟩
  have hm1 : m ≤ 1114111 := by omega
  have hm2 : -9223372036854775808 ≤ m := by omega
  clear hv
  go_enter Tryd.func13, Tryd.ntmps13
  go_wp2_with fail
  obtain ⟨c4, f4, hlt4, hb4⟩ := cell_new w (.slice none 0 0) 27
  generalize w.alloc _ = w1 at *
  have C4 := Lib.hid c4
  have F4 := Lib.hid f4
  have HM := Lib.hid hm
  clear c4 f4 hm
  go_loopw [5, 12] (fun v i wr => NRel l m w1 v i wr) (fun _ i _ => l.length - (intOf i).toNat)
  case atStart => exact ⟨0, [], Nat.zero_le _, rfl, ownZ_nil _ _, Below.refl _ _, ainv_start _ _⟩
  case round =>
    obtain ⟨k, D, hk, rfl, ho, hb, hA⟩ := hrel
    have HA := Lib.hid hA
    have HB := Lib.hid hb
    have HO := Lib.hid ho
    have HV1 := Lib.hid (rsAt_below HV.out (below_trans hb4 hb))
    clear hA ho hb
    by_cases hlt : k < l.length
    · obtain ⟨hwf, ⟨h0, _⟩ | ⟨_, b, off, cap', hv, hc1, hc2, hc⟩⟩ := HV1.out
      · subst h0; simp at hlt
      cases hv
      obtain ⟨hx, hy⟩ := hc k hlt
      obtain ⟨x, y, hxy⟩ : ∃ x y, l[k] = (x, y) := ⟨_, _, rfl⟩
      have hw := hwf _ (List.getElem_mem hlt)
      rw [hxy] at hx hy hw
      simp only at hx hy hw
      obtain ⟨⟨hx1, hx2⟩, hy1, hy2⟩ := hw
      have HXY := Lib.hid hxy
      clear hc hxy hwf
      go_wp2_with fail
      have hDl := HA.out.2.2
      refine (add_any _ D (max x 0) (min y m) w1.heap.size _ (ownZ_below HO.out (below_alloc _ _)) (by omega) (by omega) (by omega) (Nat.le_trans HB.out.size (below_alloc _ _).size) (by omega) (by omega)).mono ?_
      rintro e w2 ⟨va, rfl, ho2, hb2⟩
      have HO2 := Lib.hid ho2
      have HB2 := Lib.hid (HB.out.trans (((below_alloc _ _).mono HB.out.size).trans hb2))
      have HA2 := Lib.hid (ainv_step hm1 hlt HA.out)
      clear ho2 hb2
      go_wp2_with fail
      go_roundw
      case rel => exact ⟨k + 1, addP D (max x 0) (min y m), by omega, by go_num, HO2.out, HB2.out, by have := HA2.out; rwa [HXY.out] at this⟩
      case measure => simp [intOf]; omega
    · obtain rfl : k = l.length := by omega
      have hA := HA.out
      have HJ := Lib.hid (joined_any _ D w1.heap.size wr HO.out hA.1 (by have := hA.2.2; omega) HB.out.size)
      clear hA
      go_wp2_with fail
      refine HJ.out.mono ?_
      rintro e w2 ⟨va, S, rfl, hS, hh, hz, hb2⟩
      obtain ⟨k4, g4⟩ := keeps (HB.out.trans hb2) hlt4 C4.out F4.out
      obtain ⟨a2, cap2, rfl⟩ := zsAt_len hz
      have HS := Lib.hid hS
      have HH := Lib.hid hh
      have HZ := Lib.hid hz
      have HB2 := Lib.hid (HB.out.trans hb2)
      clear hS hh hz hb2
      go_wp2_with fail
      refine bodyPost_ret (v := .agg #[.slice a2 S.length cap2]) (by simp [results, Tryd.results13, go_sem, k4]) rfl ?_
      refine ⟨_, S, rfl, HS.out, fun c => ?_, zsAt_mono (zsAt_set (zsAt_mono HZ.out HB.out.size) hlt4 _) (Nat.le_of_lt hlt4), ?_⟩
      · rw [HH.out, HA.out.2.1, List.take_length, HM.out]
      · exact (hb4.trans (HB2.out.mono (Nat.le_of_lt hlt4))).setCell (Nat.le_refl _) _

/-- how far 'Ranges' has come -/
def RRel (S : List Rg) (w : World) (v i : Value) (wr : World) : Prop :=
  ∃ k : Nat, k ≤ S.length ∧ i = .int .i64 k ∧ OwnR wr w.heap.size v (S.take k) ∧ Below w.heap.size w wr
/-- the set's ranges, in new memory -/
def RsB (S : List Rg) (w : World) (e : Ending) (w' : World) : Prop := ∃ v, e = .returned v ∧ OwnR w' w.heap.size v S ∧ Below w.heap.size w w'
theorem rsB_of {S S' : List Rg} {w w' : World} {v : Value} (he : S' = S) (ho : OwnR w' w.heap.size v S') (hb : Below w.heap.size w w') : RsB S w (.returned v) w' := by
  subst he
  exact ⟨v, rfl, ho, hb⟩

set_option maxRecDepth 100000 in
set_option maxHeartbeats 2000000 in
theorem ranges_any (v : Value) (S : List Rg) (base : Nat) (w : World) (hS : Canon S) (hv : ZsAt base w v S) :
    Calls Tryd.prog 16 #[.agg #[v]] w (RsB S w) := by
  obtain ⟨a, cap, rfl⟩ := zsAt_len hv
  have hl := canon_len hS
  have HV := Lib.hid hv
  have HS := Lib.hid hS
  clear hv hS
  go_enter Tryd.func16, Tryd.ntmps16
  go_wp2_with fail
  go_loopw [3, 9] (fun v i wr => RRel S w v i wr) (fun _ i _ => S.length - (intOf i).toNat)
  case atStart => exact ⟨0, Nat.zero_le _, rfl, ownR_nil _ _, below_alloc _ _⟩
  case round =>
    obtain ⟨k, hk, rfl, ho, hb⟩ := hrel
    have HB := Lib.hid hb
    have HO := Lib.hid ho
    have HZ := Lib.hid (zsAt_below HV.out hb)
    clear ho hb
    by_cases hlt : k < S.length
    · rcases HZ.out with ⟨h0, _⟩ | ⟨_, b, cap', hv, hb0, hc1, hc2, hc⟩
      · subst h0; simp at hlt
      cases hv
      have hcell := hc k hlt
      obtain ⟨x, y, hxy⟩ : ∃ x y, S[k] = (x, y) := ⟨_, _, rfl⟩
      have hr := HS.out.2 _ (List.getElem_mem hlt)
      have HT := Lib.hid (take_snoc hlt)
      rw [hxy] at hcell hr HT
      simp only [zc] at hcell
      simp only at hr
      obtain ⟨hx0, hxy1, hy1⟩ := hr
      have HX := Lib.hid (fun w => first_in (b := y) w (cl_id hx0 (by omega)))
      have HY := Lib.hid (fun w => last_in (a := x) w (cl_id (by omega) hy1))
      have hkl : (S.take k).length ≤ 100000000 := by rw [List.length_take]; omega
      have HKL := Lib.hid hkl
      clear hc hxy hkl
      go_wp2_with fail
      refine (HX.out _).mono ?_
      rintro e w' ⟨rfl, rfl⟩
      go_wp2_with fail
      refine (HY.out _).mono ?_
      rintro e w' ⟨rfl, rfl⟩
      go_wp2_with (at_builtin; refine wpList_append_r rfl _ _ rfl w.heap.size _ (S.take k) rfl HO.out x y _ rfl rfl HKL.out HB.out.size ?_; intro va wa hoa hba; have HOa := Lib.hid hoa; have HBa := Lib.hid (hba _ _ HB.out (Nat.le_refl _)); clear hoa hba)
      go_roundw
      case rel => exact ⟨k + 1, by omega, by go_num, by rw [HT.out]; exact HOa.out, HBa.out⟩
      case measure => simp [intOf]; omega
    · obtain rfl : k = S.length := by omega
      go_wp2_with fail
      go_ret
      exact rsB_of List.take_length HO.out HB.out
end Go.Proofs.YtgdhhpbpbkgmeaaDoor.setw
