/- The contract of the document's Escape; the walks of the laws PropsPosix and PropsEscapes. -/
import Derived.Test.YtgdhhpbpbkgmeaaDoorPropsR1
import Derived.Test.YtgdhhpbpbkgmeaaDoorPropsA
namespace Go.Proofs.YtgdhhpbpbkgmeaaDoor.prw
open Go Go.RowKit Go.Proofs.YtgdhhpbpbkgmeaaDoor.bulk Go.Proofs.YtgdhhpbpbkgmeaaDoor.ucdp Go.Proofs.YtgdhhpbpbkgmeaaDoor.ucdw Go.Proofs.YtgdhhpbpbkgmeaaDoor.setp Go.Proofs.YtgdhhpbpbkgmeaaDoor.setw Go.Proofs.YtgdhhpbpbkgmeaaDoor.prp

theorem rpos_digit (w : World) : Calls Tryd.prog 30 #[.string ⟨#[100, 105, 103, 105, 116]⟩] w (RD2 [(48, 57)] true w) := by
  have h := rposix_any ⟨#[100, 105, 103, 105, 116]⟩ w
  rw [show posixP ⟨#[100, 105, 103, 105, 116]⟩ = [(48, 57)] by decide +kernel, show posixB ⟨#[100, 105, 103, 105, 116]⟩ = true by decide +kernel] at h
  exact h
theorem rpos_space (w : World) : Calls Tryd.prog 30 #[.string ⟨#[115, 112, 97, 99, 101]⟩] w (RD2 [(9, 13), (32, 32)] true w) := by
  have h := rposix_any ⟨#[115, 112, 97, 99, 101]⟩ w
  rw [show posixP ⟨#[115, 112, 97, 99, 101]⟩ = [(9, 13), (32, 32)] by decide +kernel, show posixB ⟨#[115, 112, 97, 99, 101]⟩ = true by decide +kernel] at h
  exact h
theorem rpos_word (w : World) : Calls Tryd.prog 30 #[.string ⟨#[119, 111, 114, 100]⟩] w (RD2 [(48, 57), (65, 90), (95, 95), (97, 122)] true w) := by
  have h := rposix_any ⟨#[119, 111, 114, 100]⟩ w
  rw [show posixP ⟨#[119, 111, 114, 100]⟩ = [(48, 57), (65, 90), (95, 95), (97, 122)] by decide +kernel, show posixB ⟨#[119, 111, 114, 100]⟩ = true by decide +kernel] at h
  exact h
theorem rd2_nil (w : World) : RD2 [] false w (.returned (.tuple #[.slice none 0 0, .bool false])) w := ⟨_, rfl, ⟨fun r hr => (by cases hr), Or.inl ⟨rfl, none, 0, rfl, by omega⟩⟩, Below.refl _ _⟩
set_option maxRecDepth 100000 in
set_option maxHeartbeats 4000000 in
theorem resc_any (c : Int) (w : World) : Calls Tryd.prog 32 #[.int .i64 c] w (RD2 (escP c) (escB c) w) := by
  by_cases h1 : c = 100
  · subst h1
    have HP := Lib.hid (rpos_digit w)
    go_enter Tryd.func32, Tryd.ntmps32
    go_wp2_with fail
    refine HP.out.mono ?_
    rintro e w1 ⟨v, rfl, ho, hb⟩
    have HO := Lib.hid ho
    clear ho
    go_wp2_with fail
    go_ret2
    exact ⟨v, rfl, HO.out, hb⟩
  by_cases h2 : c = 115
  · subst h2
    have HP := Lib.hid (rpos_space w)
    go_enter Tryd.func32, Tryd.ntmps32
    go_wp2_with fail
    refine HP.out.mono ?_
    rintro e w1 ⟨v, rfl, ho, hb⟩
    have HO := Lib.hid ho
    clear ho
    go_wp2_with fail
    go_ret2
    exact ⟨v, rfl, HO.out, hb⟩
  by_cases h3 : c = 119
  · subst h3
    have HP := Lib.hid (rpos_word w)
    go_enter Tryd.func32, Tryd.ntmps32
    go_wp2_with fail
    refine HP.out.mono ?_
    rintro e w1 ⟨v, rfl, ho, hb⟩
    have HO := Lib.hid ho
    clear ho
    go_wp2_with fail
    go_ret2
    exact ⟨v, rfl, HO.out, hb⟩
  by_cases h4 : c = 104
  · subst h4
    go_enter Tryd.func32, Tryd.ntmps32
    go_wp2_with fail
    go_ret2
    exact ⟨_, rfl, rs_lit (R := [(9, 9), (32, 32), (160, 160), (8192, 8202)]) rfl rfl rfl (by simp) (by simp) (wf_of (by decide +kernel)), below_alloc _ _⟩
  by_cases h5 : c = 118
  · subst h5
    go_enter Tryd.func32, Tryd.ntmps32
    go_wp2_with fail
    go_ret2
    exact ⟨_, rfl, rs_lit (R := [(10, 13), (133, 133), (8232, 8233)]) rfl rfl rfl (by simp) (by simp) (wf_of (by decide +kernel)), below_alloc _ _⟩
  have HP := Lib.hid (show [] = escP c by unfold escP; rw [if_neg h1, if_neg h2, if_neg h3, if_neg h4, if_neg h5])
  have HQ := Lib.hid (show false = escB c by unfold escB; simp [h1, h2, h3, h4, h5])
  go_enter Tryd.func32, Tryd.ntmps32
  go_wp2_with fail
  go_ret2
  exact rd2_of HP.out HQ.out (rd2_nil _)

set_option maxRecDepth 100000 in
set_option maxHeartbeats 4000000 in
theorem posix_law (n : ByteArray) (w : World) (hn : n.size ≤ maxLen) (hT : TabS w) : Calls Tryd.prog 6 #[.string n] w (BolB true w) := by
  have HA := Lib.hid (awake_any w hT)
  have HP := Lib.hid (fun u => pos_any n u hn)
  have HR := Lib.hid (fun u => rposix_any n u)
  have hC := posixP_canon n
  have HW := Lib.hid (wf_canon hC.2)
  have hl : (posixP n).length ≤ 100000000 := by have := canon_len hC; omega
  have HL := Lib.hid hl
  clear hn hT hC hl
  generalize posixP n = R at *
  generalize posixB n = p at *
  go_enter Tryd.func6, Tryd.ntmps6
  go_wp2_with fail
  refine HA.out.mono ?_
  rintro e w1 ⟨rfl, hb1⟩
  have HB1 := Lib.hid hb1
  clear hb1
  go_wp2_with fail
  refine (HP.out _).mono ?_
  rintro e w2 ⟨v, rfl, ho, hb2⟩
  have HO := Lib.hid (rs_own ho HW.out)
  have HB2 := Lib.hid (below_trans HB1.out hb2)
  clear ho hb2
  go_wp2_with fail
  refine (HR.out _).mono ?_
  rintro e w3 ⟨v2, rfl, hr, hb3⟩
  have HS := Lib.hid (rsame_any v v2 R R w3 (rsAt_below HO.out hb3) hr HL.out HL.out)
  rw [decide_eq_true rfl] at HS
  have HB3 := Lib.hid (below_trans HB2.out hb3)
  clear hr hb3
  cases p <;>
  · go_wp2_with fail
    refine HS.out.mono ?_
    rintro e w4 ⟨rfl, q, rfl⟩
    go_wp2_with fail
    go_ret
    exact ⟨rfl, below_dn HB3.out _⟩
set_option maxRecDepth 100000 in
set_option maxHeartbeats 4000000 in
theorem escapes_law (c : Int) (w : World) (hT : TabS w) : Calls Tryd.prog 7 #[.int .i64 c] w (BolB true w) := by
  have HA := Lib.hid (awake_any w hT)
  have HP := Lib.hid (fun u => esc_any c u)
  have HR := Lib.hid (fun u => resc_any c u)
  have hC := escP_canon c
  have HW := Lib.hid (wf_canon hC.2)
  have hl : (escP c).length ≤ 100000000 := by have := canon_len hC; omega
  have HL := Lib.hid hl
  clear hT hC hl
  generalize escP c = R at *
  generalize escB c = p at *
  go_enter Tryd.func7, Tryd.ntmps7
  go_wp2_with fail
  refine HA.out.mono ?_
  rintro e w1 ⟨rfl, hb1⟩
  have HB1 := Lib.hid hb1
  clear hb1
  go_wp2_with fail
  refine (HP.out _).mono ?_
  rintro e w2 ⟨v, rfl, ho, hb2⟩
  have HO := Lib.hid (rs_own ho HW.out)
  have HB2 := Lib.hid (below_trans HB1.out hb2)
  clear ho hb2
  go_wp2_with fail
  refine (HR.out _).mono ?_
  rintro e w3 ⟨v2, rfl, hr, hb3⟩
  have HS := Lib.hid (rsame_any v v2 R R w3 (rsAt_below HO.out hb3) hr HL.out HL.out)
  rw [decide_eq_true rfl] at HS
  have HB3 := Lib.hid (below_trans HB2.out hb3)
  clear hr hb3
  cases p <;>
  · go_wp2_with fail
    refine HS.out.mono ?_
    rintro e w4 ⟨rfl, q, rfl⟩
    go_wp2_with fail
    go_ret
    exact ⟨rfl, below_dn HB3.out _⟩
end Go.Proofs.YtgdhhpbpbkgmeaaDoor.prw
