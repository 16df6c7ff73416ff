/- The walk of the law SetsCases. -/
import Derived.Test.YtgdhhpbpbkgmeaaDoorSetsJ6
import Derived.Test.YtgdhhpbpbkgmeaaDoorSetsA
import Derived.Test.YtgdhhpbpbkgmeaaDoorSetsX
namespace Go.Proofs.YtgdhhpbpbkgmeaaDoor.setw
open Go Go.RowKit Go.Shelf Go.Proofs.YtgdhhpbpbkgmeaaDoor.bulk Go.Proofs.YtgdhhpbpbkgmeaaDoor.ucdp Go.Proofs.YtgdhhpbpbkgmeaaDoor.ucdw Go.Proofs.YtgdhhpbpbkgmeaaDoor.setp Go.Proofs.YtgdhhpbpbkgmeaaDoor.flt Go.Proofs.YtgdhhpbpbkgmeaaDoor.setl

theorem canon_len3_from : ∀ {S : List Rg} {lo : Int}, Canon S → (∀ r ∈ S, lo ≤ r.1) → lo ≤ 1114113 → lo + 2 * S.length ≤ 1114113
  | [], lo, _, _, h => by simpa using h
  | r :: S, lo, h, hl, _ => by
    have hr := h.2 r (List.mem_cons_self ..)
    have h1 := hl r (List.mem_cons_self ..)
    have := canon_len3_from (lo := r.2 + 2) (canon_tail h) (fun x hx => by have := (List.pairwise_cons.1 h.1).1 x hx; omega) (by omega)
    simp only [List.length_cons]
    omega
/-- a set has no more than so many ranges: there is a gap between each two -/
theorem canon_len3 {S : List Rg} (h : Canon S) : S.length ≤ 590000 := by
  have := canon_len3_from (lo := 0) h (fun r hr => (h.2 r hr).1) (by omega)
  omega
set_option maxRecDepth 100000 in
set_option maxHeartbeats 8000000 in
theorem cases_law (v1 : Value) (l : List Rg) (u : Bool) (w : World) (hv1 : RsAt w v1 l) (hT : Tab3 w) :
    Calls Tryd.prog 5 #[v1, .bool u] w (BoolB true w) := by
  have H0 := Lib.hid (awake_any w hT)
  have HV1 := Lib.hid hv1
  have HT3 := Lib.hid hT
  obtain ⟨a1, q1, rfl⟩ := rsAt_len hv1
  clear hv1 hT
  by_cases hbig : (50 : Int) < l.length
  · go_enter Tryd.func5, Tryd.ntmps5
    go_wp2_with fail
    refine H0.out.mono ?_
    rintro e w1 ⟨rfl, hb1⟩
    go_wp2_with fail
    go_ret
    exact ⟨rfl, hb1⟩
  have HL1 := Lib.hid (show l.length ≤ 100000 by omega)
  go_enter Tryd.func5, Tryd.ntmps5
  go_wp2_with fail
  refine H0.out.mono ?_
  rintro e w1 ⟨rfl, hb1⟩
  have HB1 := Lib.hid hb1
  clear hb1
  go_wp2_with fail
  refine (new_any _ l 1114111 w1 (rsAt_below HV1.out HB1.out) (by have := HL1.out; omega) (by decide) (by decide)).mono ?_
  rintro e w2 ⟨v3, S, rfl, hS, hh, hz, hb2⟩
  obtain ⟨gs, cs, rfl⟩ := zsAt_len hz
  have HST := Lib.hid (st_push (st_nil HB1.out) hb2 hz 27)
  have HS := Lib.hid hS
  have HSh := Lib.hid hh
  clear hS hh hz hb2
  go_upto_region 7 with (fail)
  generalize hbs : w2.heap.size = bs at *
  generalize w2.alloc _ = w3 at *
  clear hbs
  have d0 := st_cell (b := bs) (v := .slice gs S.length cs) (S := S) HST.out (by simp)
  go_wp2_with fail
  refine (caseless_any (.slice gs S.length cs) S 0 u w3 HS.out (st_z (b := bs) HST.out (by simp)) (below_tab HST.out.1 HT3.out)).mono ?_
  rintro e w4 ⟨v4, C, rfl, hC, hh, hz, hb4⟩
  obtain ⟨gc, cc, rfl⟩ := zsAt_len hz
  have HST4 := Lib.hid (st_push HST.out hb4 hz 27)
  have HC := Lib.hid hC
  have HCh := Lib.hid hh
  clear hC hh hz hb4 d0 HST
  go_upto_region 8 with (fail)
  generalize hbc : w4.heap.size = bc at *
  generalize w4.alloc _ = w5 at *
  clear hbc
  have d0 := st_cell (b := bc) (v := .slice gc C.length cc) (S := C) HST4.out (by simp)
  go_wp2_with fail
  refine (ranges_any (.slice gc C.length cc) C 0 w5 HC.out (st_z (b := bc) HST4.out (by simp))).mono ?_
  rintro e w6 ⟨v6, rfl, ho6, hb6⟩
  have HR6 := Lib.hid (rs_own ho6 (wf_canon HC.out.2))
  have HST6 := Lib.hid (st_on HST4.out hb6)
  clear ho6 hb6 d0 HST4
  go_wp2_with fail
  refine (rnew_any _ l 1114111 w6 (rsAt_below HV1.out HST6.out.1) HL1.out (by decide) (by decide)).mono ?_
  rintro e w7 ⟨v7, S', rfl, hS', hh', ho7, hb7⟩
  obtain rfl : S' = S := canon_ext hS' HS.out fun c => (hh' c).trans (HSh.out c).symm
  have HR7 := Lib.hid (rs_own ho7 (wf_canon hS'.2))
  have HR67 := Lib.hid (rsAt_below HR6.out hb7)
  have HST7 := Lib.hid (st_on HST6.out hb7)
  clear hS' hh' ho7 hb7 HST6 HR6
  go_wp2_with fail
  refine (rcase_any v7 S' u w7 HR7.out HS.out.2 (canon_len3 HS.out)).mono ?_
  rintro e w8 ⟨v8, C', rfl, hC', hh', ho8, hb8⟩
  obtain rfl : C' = C := canon_ext hC' HC.out fun c => (hh' c).trans (HCh.out c).symm
  have HSa := Lib.hid (rsame_any v6 v8 C' C' w8 (rsAt_below HR67.out hb8) (rs_own ho8 (wf_canon hC'.2)) (by have := canon_len hC'; omega) (by have := canon_len hC'; omega))
  rw [decide_eq_true rfl] at HSa
  have HST8 := Lib.hid (st_on HST7.out hb8)
  clear hC' hh' ho8 hb8 HST7 HR67 HR7
  go_wp2_with fail
  refine HSa.out.mono ?_
  rintro e w9 ⟨rfl, q, rfl⟩
  go_wp2_with fail
  go_ret
  exact ⟨rfl, below_drewN HST8.out.1 q⟩
end Go.Proofs.YtgdhhpbpbkgmeaaDoor.setw
