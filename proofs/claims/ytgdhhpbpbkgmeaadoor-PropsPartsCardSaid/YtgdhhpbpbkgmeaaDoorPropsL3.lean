/- The contracts of the law PropsParts' own posix and property. (Written by gen/parts4.py.) -/
import Derived.Test.YtgdhhpbpbkgmeaaDoorPropsA
namespace Go.Proofs.YtgdhhpbpbkgmeaaDoor.prw
open Go Go.RowKit Go.Proofs.YtgdhhpbpbkgmeaaDoor.bulk Go.Proofs.YtgdhhpbpbkgmeaaDoor.ucdp Go.Proofs.YtgdhhpbpbkgmeaaDoor.ucdw Go.Proofs.YtgdhhpbpbkgmeaaDoor.setp Go.Proofs.YtgdhhpbpbkgmeaaDoor.setw Go.Proofs.YtgdhhpbpbkgmeaaDoor.prp

def posQ (n : ByteArray) (c : Int) : Bool := posixB n && hasB (posixP n) c
def proQ (n : ByteArray) (c : Int) : Bool := isP n && (decide (0 ≤ c) && decide (c ≤ 1114111) && propP n c)
theorem lpos_any (n : ByteArray) (c : Int) (w : World) (hn : n.size ≤ maxLen) : Calls Tryd.prog 36 #[.string n, .int .i64 c] w (BolB (posQ n c) w) := by
  have HP := Lib.hid (pos_any n w hn)
  have hC := posixP_canon n
  have HW := Lib.hid (wf_canon hC.2)
  have HL := Lib.hid (show (posixP n).length ≤ 100000000 by have := canon_len hC; omega)
  have HQ := Lib.hid (show posQ n c = (posixB n && hasB (posixP n) c) from rfl)
  clear hn hC
  generalize posixP n = R at *
  cases hp : posixB n
  · rw [hp] at HP HQ
    go_enter Tryd.func36, Tryd.ntmps36
    go_wp2_with fail
    refine HP.out.mono ?_
    rintro e w1 ⟨v, rfl, ho, hb⟩
    have HB := Lib.hid hb
    clear ho hb
    go_wp2_with fail
    go_ret
    rw [HQ.out]
    exact ⟨rfl, HB.out⟩
  · rw [hp] at HP HQ
    go_enter Tryd.func36, Tryd.ntmps36
    go_wp2_with fail
    refine HP.out.mono ?_
    rintro e w1 ⟨v, rfl, ho, hb⟩
    have HR := Lib.hid (rin_any v R c w1 (rs_own ho HW.out) HL.out)
    have HB := Lib.hid hb
    clear ho hb
    go_wp2_with fail
    refine HR.out.mono ?_
    rintro e w2 ⟨rfl, rfl⟩
    go_wp2_with fail
    go_ret
    rw [HQ.out]
    exact ⟨rfl, HB.out⟩
theorem lpro_any (n : ByteArray) (c : Int) (w : World) (hn : n.size ≤ maxLen) (hT : TabS w) : Calls Tryd.prog 37 #[.string n, .int .i64 c] w (BolB (proQ n c) w) := by
  have HP := Lib.hid (property_any n w hn hT)
  have HQ := Lib.hid (show proQ n c = (isP n && (decide (0 ≤ c) && decide (c ≤ 1114111) && propP n c)) from rfl)
  clear hn hT
  go_enter Tryd.func37, Tryd.ntmps37
  go_wp2_with fail
  refine HP.out.mono ?_
  rintro e w1 ⟨v, S, rfl, hS, hh, ho, hb⟩
  have HR := Lib.hid (rin_any v S c w1 (rs_own ho (wf_canon hS.2)) (by have := canon_len hS; omega))
  have HH := Lib.hid (show hasB S c = (decide (0 ≤ c) && decide (c ≤ 1114111) && propP n c) by
    rw [Bool.eq_iff_iff, hasB_iff, hh]
    simp [and_assoc])
  rw [HH.out] at HR
  have HB := Lib.hid hb
  clear hS hh ho hb
  cases hp : isP n
  · rw [hp] at HQ
    go_wp2_with fail
    go_ret
    rw [HQ.out]
    exact ⟨rfl, HB.out⟩
  · rw [hp] at HQ
    go_wp2_with fail
    refine HR.out.mono ?_
    rintro e w2 ⟨rfl, rfl⟩
    go_wp2_with fail
    go_ret
    rw [HQ.out]
    exact ⟨rfl, HB.out⟩
theorem region_lit4 {P : Program} {id : Nat} {b : Bool} {Q : Exit → Act → World → Prop} {a : Act} {w : World} {l l' : List Oper} (h : l = l') (K : (Code.region id l'.toArray b).wp P Q a w) : (Code.region id l.toArray b).wp P Q a w := h ▸ K
theorem posQ_t {n : ByteArray} {c : Int} {R : List Rg} (h1 : posixB n = true) (h2 : posixP n = R) (h : Has R c) : posQ n c = true := by
  unfold posQ
  rw [h1, h2, hasB_iff.2 h]
  rfl
theorem posQ_f {n : ByteArray} {c : Int} {R : List Rg} (h2 : posixP n = R) (h : ¬ Has R c) : posQ n c = false := by
  unfold posQ
  rw [h2, Bool.eq_false_iff.2 fun e => h (hasB_iff.1 e), Bool.and_false]
theorem proQ_wl {n : ByteArray} {c : Int} {L : List Rg} (h1 : isP n = true) (h2 : wl (fun c => propP n c) 93 = L) : proQ n c = true ↔ Has L c ∧ 0 ≤ c ∧ c ≤ 1114111 := by
  have h := wl_all (hp n) c
  have h3 : (fun c => hp n (cls c).1 (cls c).2.1) = fun c => propP n c := rfl
  rw [h3, h2] at h
  rw [h]
  unfold proQ
  rw [h1]
  simp [propP, and_assoc]
theorem pq_alpha : posixB ⟨#[97, 108, 112, 104, 97]⟩ = true ∧ posixP ⟨#[97, 108, 112, 104, 97]⟩ = [(65, 90), (97, 122)] := by decide +kernel
theorem pq_digit : posixB ⟨#[100, 105, 103, 105, 116]⟩ = true ∧ posixP ⟨#[100, 105, 103, 105, 116]⟩ = [(48, 57)] := by decide +kernel
theorem pq_alnum : posixB ⟨#[97, 108, 110, 117, 109]⟩ = true ∧ posixP ⟨#[97, 108, 110, 117, 109]⟩ = [(48, 57), (65, 90), (97, 122)] := by decide +kernel
theorem pq_upper : posixB ⟨#[117, 112, 112, 101, 114]⟩ = true ∧ posixP ⟨#[117, 112, 112, 101, 114]⟩ = [(65, 90)] := by decide +kernel
theorem pq_lower : posixB ⟨#[108, 111, 119, 101, 114]⟩ = true ∧ posixP ⟨#[108, 111, 119, 101, 114]⟩ = [(97, 122)] := by decide +kernel
theorem pq_graph : posixB ⟨#[103, 114, 97, 112, 104]⟩ = true ∧ posixP ⟨#[103, 114, 97, 112, 104]⟩ = [(33, 126)] := by decide +kernel
theorem pq_punct : posixB ⟨#[112, 117, 110, 99, 116]⟩ = true ∧ posixP ⟨#[112, 117, 110, 99, 116]⟩ = [(33, 47), (58, 64), (91, 96), (123, 126)] := by decide +kernel
theorem pq_print : posixB ⟨#[112, 114, 105, 110, 116]⟩ = true ∧ posixP ⟨#[112, 114, 105, 110, 116]⟩ = [(32, 126)] := by decide +kernel
theorem pq_ascii : posixB ⟨#[97, 115, 99, 105, 105]⟩ = true ∧ posixP ⟨#[97, 115, 99, 105, 105]⟩ = [(0, 127)] := by decide +kernel
theorem pq_cntrl : posixB ⟨#[99, 110, 116, 114, 108]⟩ = true ∧ posixP ⟨#[99, 110, 116, 114, 108]⟩ = [(0, 31), (127, 127)] := by decide +kernel
theorem pq_word : posixB ⟨#[119, 111, 114, 100]⟩ = true ∧ posixP ⟨#[119, 111, 114, 100]⟩ = [(48, 57), (65, 90), (95, 95), (97, 122)] := by decide +kernel
theorem wl_Lu : isP ⟨#[76, 117]⟩ = true ∧ wl (fun c => propP ⟨#[76, 117]⟩ c) 93 = [(65, 90), (192, 214), (216, 222), (913, 929), (931, 939), (1040, 1071), (8490, 8490)] := by decide +kernel
theorem wl_Ll : isP ⟨#[76, 108]⟩ = true ∧ wl (fun c => propP ⟨#[76, 108]⟩ c) 93 = [(97, 122), (181, 181), (223, 246), (248, 255), (383, 383), (945, 971), (1072, 1103)] := by decide +kernel
theorem isP_LL : isP ⟨#[76, 38]⟩ = true ∧ isP ⟨#[76]⟩ = true ∧ kind ⟨#[76, 38]⟩ = 3 ∧ kind ⟨#[76]⟩ = 2 ∧ kind ⟨#[76, 117]⟩ = 2 ∧ kind ⟨#[76, 108]⟩ = 2 := by decide +kernel
theorem cased_all : ((List.range 24).all fun k => cased (catB k) == (pre (catB k) ⟨#[76, 117]⟩ || pre (catB k) ⟨#[76, 108]⟩) && (!(cased (catB k)) || pre (catB k) ⟨#[76]⟩)) = true := by decide +kernel
theorem ll_rel (c : Int) : proQ ⟨#[76, 38]⟩ c = (proQ ⟨#[76, 117]⟩ c || proQ ⟨#[76, 108]⟩ c) ∧ (proQ ⟨#[76, 38]⟩ c = true → proQ ⟨#[76]⟩ c = true) := by
  obtain ⟨i1, i2, k1, k2, k3, k4⟩ := isP_LL
  unfold proQ
  rw [i1, i2, wl_Lu.1, wl_Ll.1]
  by_cases h0 : 0 ≤ c
  · by_cases h1 : c ≤ 1114111
    · have hb := (show (cls c).1 < 24 from by
        have all : (rows.all fun r => decide (r.2.2.1 < 24)) = true := by decide +kernel
        rcases cls_row c with ⟨e, _⟩ | ⟨_, _, e | ⟨r, hr, _, _, e⟩⟩
        · rw [e]; decide
        · rw [e]; decide
        · rw [e]; exact of_decide_eq_true (List.all_eq_true.1 all r hr))
      have := List.all_eq_true.1 cased_all (cls c).1 (by simpa using hb)
      simp only [propP, hp, k1, k2, k3, k4, decide_eq_true h0, decide_eq_true h1, Bool.true_and]
      simp only [Bool.and_eq_true, beq_iff_eq, Bool.or_eq_true, Bool.not_eq_true'] at this
      obtain ⟨t1, t2⟩ := this
      refine ⟨by simpa using t1, fun h => ?_⟩
      have h3 : cased (catB (cls c).1) = true := by simpa using h
      rcases t2 with t2 | t2
      · rw [h3] at t2; cases t2
      · simpa using t2
    · simp [h1]
  · simp [h0]
end Go.Proofs.YtgdhhpbpbkgmeaaDoor.prw
