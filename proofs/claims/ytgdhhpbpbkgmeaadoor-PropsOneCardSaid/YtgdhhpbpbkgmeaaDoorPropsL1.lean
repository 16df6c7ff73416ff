/- The walk of the law PropsOne: each code point is in just one category, one script, one of the seven letters. (Written by gen/one.py.) -/
import Derived.Test.YtgdhhpbpbkgmeaaDoorPropsA
namespace Go.Proofs.YtgdhhpbpbkgmeaaDoor.prw
open Go Go.RowKit Go.Proofs.YtgdhhpbpbkgmeaaDoor.bulk Go.Proofs.YtgdhhpbpbkgmeaaDoor.ucdp Go.Proofs.YtgdhhpbpbkgmeaaDoor.ucdw Go.Proofs.YtgdhhpbpbkgmeaaDoor.setp Go.Proofs.YtgdhhpbpbkgmeaaDoor.setw Go.Proofs.YtgdhhpbpbkgmeaaDoor.prp

def cats : List ByteArray := [⟨#[67, 99]⟩, ⟨#[90, 115]⟩, ⟨#[80, 111]⟩, ⟨#[83, 99]⟩, ⟨#[80, 115]⟩, ⟨#[80, 101]⟩, ⟨#[83, 109]⟩, ⟨#[80, 100]⟩, ⟨#[78, 100]⟩, ⟨#[76, 117]⟩, ⟨#[83, 107]⟩, ⟨#[80, 99]⟩, ⟨#[76, 108]⟩, ⟨#[83, 111]⟩, ⟨#[76, 111]⟩, ⟨#[80, 105]⟩, ⟨#[67, 102]⟩, ⟨#[78, 111]⟩, ⟨#[80, 102]⟩, ⟨#[77, 110]⟩, ⟨#[90, 108]⟩, ⟨#[90, 112]⟩, ⟨#[67, 110]⟩]
def scrs : List ByteArray := [⟨#[67, 111, 109, 109, 111, 110]⟩, ⟨#[76, 97, 116, 105, 110]⟩, ⟨#[73, 110, 104, 101, 114, 105, 116, 101, 100]⟩, ⟨#[71, 114, 101, 101, 107]⟩, ⟨#[67, 121, 114, 105, 108, 108, 105, 99]⟩, ⟨#[72, 101, 98, 114, 101, 119]⟩, ⟨#[65, 114, 97, 98, 105, 99]⟩, ⟨#[72, 105, 114, 97, 103, 97, 110, 97]⟩, ⟨#[72, 97, 110]⟩, ⟨#[85, 110, 107, 110, 111, 119, 110]⟩]
def lets : List ByteArray := [⟨#[76]⟩, ⟨#[77]⟩, ⟨#[78]⟩, ⟨#[80]⟩, ⟨#[83]⟩, ⟨#[90]⟩, ⟨#[67]⟩]
/-- of how many properties is a code point? -/
def cnt (c : Int) : List ByteArray → Int
  | [] => 0
  | n :: l => (if propP n c = true then 1 else 0) + cnt c l
theorem cnt_snoc (c : Int) (n : ByteArray) : ∀ l, cnt c (l ++ [n]) = cnt c l + if propP n c = true then 1 else 0
  | [] => by simp [cnt]
  | x :: l => by simp only [List.cons_append, cnt, cnt_snoc c n l]; omega
theorem cnt_bd (c : Int) : ∀ l, 0 ≤ cnt c l ∧ cnt c l ≤ l.length
  | [] => by simp [cnt]
  | x :: l => by
    have := cnt_bd c l
    simp only [cnt, List.length_cons]
    split <;> omega
/-- .. where all are of one kind -/
def cntG (g : ByteArray → Bool) : List ByteArray → Int
  | [] => 0
  | n :: l => (if g n = true then 1 else 0) + cntG g l
theorem cnt_g {c : Int} {g : ByteArray → Bool} : ∀ {l : List ByteArray}, (∀ n ∈ l, propP n c = g n) → cnt c l = cntG g l
  | [], _ => rfl
  | n :: l, h => by
    simp only [cnt, cntG, h n (List.mem_cons_self ..), cnt_g fun x hx => h x (List.mem_cons_of_mem _ hx)]
theorem cats_2 : (cats.all fun n => decide (kind n = 2)) = true := by decide +kernel
theorem scrs_4 : (scrs.all fun n => decide (kind n = 4)) = true := by decide +kernel
theorem lets_2 : (lets.all fun n => decide (kind n = 2)) = true := by decide +kernel
theorem cls_in {c : Int} (h0 : 0 ≤ c) (h1 : c ≤ 1114111) : (1 ≤ (cls c).1 ∧ (cls c).1 ≤ 23) ∧ 1 ≤ (cls c).2.1 ∧ (cls c).2.1 ≤ 10 := by
  have all : (rows.all fun r => (decide (1 ≤ r.2.2.1) && decide (r.2.2.1 ≤ 23)) && (decide (1 ≤ r.2.2.2.1) && decide (r.2.2.2.1 ≤ 10))) = true := by decide +kernel
  rcases cls_row c with ⟨_, h⟩ | ⟨_, _, h | ⟨r, hr, _, _, h⟩⟩
  · omega
  · rw [h]; decide
  · have := List.all_eq_true.1 all r hr
    simp only [Bool.and_eq_true, decide_eq_true_eq] at this
    rw [h]
    exact this
theorem one_cat : ((List.range 24).all fun k => k == 0 || cntG (fun n => pre (catB k) n) cats == 1) = true := by decide +kernel
theorem one_let : ((List.range 24).all fun k => k == 0 || cntG (fun n => pre (catB k) n) lets == 1) = true := by decide +kernel
theorem one_scr : ((List.range 11).all fun s => s == 0 || cntG (fun n => decide (scrB s = n)) scrs == 1) = true := by decide +kernel
theorem cnt_cats {c : Int} (h0 : 0 ≤ c) (h1 : c ≤ 1114111) : cnt c cats = 1 := by
  have hb := cls_in h0 h1
  rw [cnt_g (g := fun n => pre (catB (cls c).1) n) fun n hn => by
    have := List.all_eq_true.1 cats_2 n hn
    simp only [decide_eq_true_eq] at this
    unfold propP hp
    rw [this]
    rfl]
  have := List.all_eq_true.1 one_cat (cls c).1 (by simp; omega)
  simp only [Bool.or_eq_true, beq_iff_eq] at this
  omega
theorem cnt_lets {c : Int} (h0 : 0 ≤ c) (h1 : c ≤ 1114111) : cnt c lets = 1 := by
  have hb := cls_in h0 h1
  rw [cnt_g (g := fun n => pre (catB (cls c).1) n) fun n hn => by
    have := List.all_eq_true.1 lets_2 n hn
    simp only [decide_eq_true_eq] at this
    unfold propP hp
    rw [this]
    rfl]
  have := List.all_eq_true.1 one_let (cls c).1 (by simp; omega)
  simp only [Bool.or_eq_true, beq_iff_eq] at this
  omega
theorem cnt_scrs {c : Int} (h0 : 0 ≤ c) (h1 : c ≤ 1114111) : cnt c scrs = 1 := by
  have hb := cls_in h0 h1
  rw [cnt_g (g := fun n => decide (scrB (cls c).2.1 = n)) fun n hn => by
    have := List.all_eq_true.1 scrs_4 n hn
    simp only [decide_eq_true_eq] at this
    unfold propP hp
    rw [this]
    rfl]
  have := List.all_eq_true.1 one_scr (cls c).2.1 (by simp; omega)
  simp only [Bool.or_eq_true, beq_iff_eq] at this
  omega

/-- how far 'in' has come -/
def InRel (N : List ByteArray) (c : Int) (w : World) (v i : Value) (wr : World) : Prop := ∃ k : Nat, k ≤ N.length ∧ i = .int .i64 k ∧ v = .int .i64 (cnt c (N.take k)) ∧ Below w.heap.size w wr
def NumB (r : Int) (w : World) (e : Ending) (w' : World) : Prop := e = .returned (.int .i64 r) ∧ Below w.heap.size w w'
theorem numB_of {r s : Int} {w w' : World} (h : s = r) (hb : Below w.heap.size w w') : NumB r w (.returned (.int .i64 s)) w' := by
  subst h
  exact ⟨rfl, hb⟩
set_option maxRecDepth 100000 in
set_option maxHeartbeats 4000000 in
theorem in_any (N : List ByteArray) (g m cap : Nat) (c : Int) (w : World) (hm : N.length = m) (hN : ∀ n ∈ N, isP n = true) (hs : ∀ n ∈ N, n.size ≤ maxLen) (hc : ∀ i (hi : i < N.length), w.cell? ⟨g, i, none⟩ = some (.string N[i])) (hl : N.length ≤ 1000) (h0 : 0 ≤ c) (h1 : c ≤ 1114111) (hT : TabS w) :
    Calls Tryd.prog 35 #[.slice (some ⟨g, 0, none⟩) m cap, .int .i64 c] w (NumB (cnt c N) w) := by
  subst hm
  have HN := Lib.hid hN
  have HS := Lib.hid hs
  have HC := Lib.hid hc
  have HT := Lib.hid hT
  clear hN hs hc hT
  go_enter Tryd.func35, Tryd.ntmps35
  go_wp2_with fail
  go_loopw [5, 6] (fun v i wr => InRel N c w v i wr) (fun _ i _ => N.length - (intOf i).toNat)
  case atStart => exact ⟨0, Nat.zero_le _, rfl, rfl, Below.refl _ _⟩
  case round =>
    obtain ⟨k, hk, rfl, rfl, hb⟩ := hrel
    have HB := Lib.hid hb
    clear hb
    by_cases hlt : k < N.length
    · have hcell := below_cell HB.out (HC.out k hlt)
      have HP := Lib.hid (property_any N[k] wr (HS.out _ (List.getElem_mem hlt)) (tabS_below HB.out HT.out))
      have HI := Lib.hid (HN.out _ (List.getElem_mem hlt))
      have hcs := cnt_snoc c N[k] (N.take k)
      rw [← List.take_succ_eq_append_getElem hlt] at hcs
      have HCS := Lib.hid hcs
      have hbd := cnt_bd c (N.take k)
      rw [List.length_take] at hbd
      have hki : (k : Int) < (N.length : Int) := by omega
      clear hcs
      generalize N[k] = n at *
      generalize cnt c (N.take k) = t at *
      have hwt : IntKind.i64.wrap (t + 1) = t + 1 := IntWalk.i64_in _ (by omega)
      go_wp2_with fail
      refine HP.out.mono ?_
      rintro e w1 ⟨v, R, rfl, hS, hh, ho, hb1⟩
      rw [HI.out]
      have HB1 := Lib.hid (below_trans HB.out hb1)
      have HR := Lib.hid (rin_any v R c w1 (rs_own ho (wf_canon hS.2)) (by have := canon_len hS; omega))
      have hp : hasB R c = propP n c := by
        rw [Bool.eq_iff_iff, hasB_iff, hh]
        exact ⟨fun a => a.2.2, fun a => ⟨h0, h1, a⟩⟩
      rw [hp] at HR
      clear hS hh ho hb1 hp
      cases hv : propP n c with
      | true =>
        rw [hv] at HR HCS
        go_wp2_with fail
        refine HR.out.mono ?_
        rintro e w2 ⟨rfl, rfl⟩
        go_wp2_with fail
        go_roundw
        case rel => exact ⟨k + 1, by omega, by go_num, by rw [HCS.out]; simp, HB1.out⟩
        case measure => simp [intOf]; omega
      | false =>
        rw [hv] at HR HCS
        go_wp2_with fail
        refine HR.out.mono ?_
        rintro e w2 ⟨rfl, rfl⟩
        go_wp2_with fail
        go_roundw
        case rel => exact ⟨k + 1, by omega, by go_num, by rw [HCS.out]; simp, HB1.out⟩
        case measure => simp [intOf]; omega
    · obtain rfl : k = N.length := by omega
      go_wp2_with fail
      go_ret
      exact numB_of (by rw [List.take_length]) HB.out

/-- texts of a literal, as cells -/
theorem strs_lit {N : List ByteArray} {w : World} {cs : Array Value} {T : TypeId} (h : cs.toList = N.map Value.string) (i : Nat) (hi : i < N.length) : (w.alloc (.cells cs T)).cell? ⟨w.heap.size, i, none⟩ = some (.string N[i]) := by
  rw [World.cell?_alloc_new]
  have : cs.toList[i]? = some (.string N[i]) := by rw [h]; simp [hi]
  simpa using this
theorem isP_of {N : List ByteArray} (h : (N.all fun n => isP n && decide (n.size ≤ 1000)) = true) : (∀ n ∈ N, isP n = true) ∧ ∀ n ∈ N, n.size ≤ maxLen := by
  constructor
  · intro n hn
    have := List.all_eq_true.1 h n hn
    simp only [Bool.and_eq_true, decide_eq_true_eq] at this
    exact this.1
  · intro n hn
    have := List.all_eq_true.1 h n hn
    simp only [Bool.and_eq_true, decide_eq_true_eq] at this
    unfold maxLen
    omega
set_option maxRecDepth 100000 in
set_option maxHeartbeats 8000000 in
theorem one_law (c : Int) (w : World) (h1 : -9223372036854775808 ≤ c) (h2 : c ≤ 9223372036854775807) (hT : TabS w) : Calls Tryd.prog 9 #[.int .i64 c] w (BolB true w) := by
  have HA := Lib.hid (awake_any w hT)
  have HT := Lib.hid hT
  clear hT
  by_cases h3 : c < 0
  · go_enter Tryd.func9, Tryd.ntmps9
    go_wp2_with fail
    refine HA.out.mono ?_
    rintro e w1 ⟨rfl, hb1⟩
    go_wp2_with fail
    go_ret
    exact ⟨rfl, hb1⟩
  by_cases h4 : 1114111 < c
  · go_enter Tryd.func9, Tryd.ntmps9
    go_wp2_with fail
    refine HA.out.mono ?_
    rintro e w1 ⟨rfl, hb1⟩
    go_wp2_with fail
    go_ret
    exact ⟨rfl, hb1⟩
  have hC := isP_of (N := cats) (by decide +kernel)
  have hS := isP_of (N := scrs) (by decide +kernel)
  have hL := isP_of (N := lets) (by decide +kernel)
  have HC := Lib.hid (fun g (u : World) (hc : ∀ i (hi : i < cats.length), u.cell? ⟨g, i, none⟩ = some (.string cats[i])) (hT : TabS u) => in_any cats g 23 23 c u rfl hC.1 hC.2 hc (by decide) (by omega) (by omega) hT)
  have HS := Lib.hid (fun g (u : World) (hc : ∀ i (hi : i < scrs.length), u.cell? ⟨g, i, none⟩ = some (.string scrs[i])) (hT : TabS u) => in_any scrs g 10 10 c u rfl hS.1 hS.2 hc (by decide) (by omega) (by omega) hT)
  have HLt := Lib.hid (fun g (u : World) (hc : ∀ i (hi : i < lets.length), u.cell? ⟨g, i, none⟩ = some (.string lets[i])) (hT : TabS u) => in_any lets g 7 7 c u rfl hL.1 hL.2 hc (by decide) (by omega) (by omega) hT)
  rw [cnt_cats (by omega) (by omega)] at HC
  rw [cnt_scrs (by omega) (by omega)] at HS
  rw [cnt_lets (by omega) (by omega)] at HLt
  have h3b : decide (c < 0) = false := decide_eq_false h3
  have h4b : decide (1114111 < c) = false := decide_eq_false h4
  clear hC hS hL
  go_enter Tryd.func9, Tryd.ntmps9
  go_wp2_with fail
  refine HA.out.mono ?_
  rintro e w1 ⟨rfl, hb1⟩
  have HB1 := Lib.hid hb1
  clear hb1
  go_upto_region 7 with (fail)
  obtain ⟨hca, hba⟩ : (∀ i (hi : i < cats.length), (w1.alloc (.cells #[.string ⟨#[67, 99]⟩, .string ⟨#[90, 115]⟩, .string ⟨#[80, 111]⟩, .string ⟨#[83, 99]⟩, .string ⟨#[80, 115]⟩, .string ⟨#[80, 101]⟩, .string ⟨#[83, 109]⟩, .string ⟨#[80, 100]⟩, .string ⟨#[78, 100]⟩, .string ⟨#[76, 117]⟩, .string ⟨#[83, 107]⟩, .string ⟨#[80, 99]⟩, .string ⟨#[76, 108]⟩, .string ⟨#[83, 111]⟩, .string ⟨#[76, 111]⟩, .string ⟨#[80, 105]⟩, .string ⟨#[67, 102]⟩, .string ⟨#[78, 111]⟩, .string ⟨#[80, 102]⟩, .string ⟨#[77, 110]⟩, .string ⟨#[90, 108]⟩, .string ⟨#[90, 112]⟩, .string ⟨#[67, 110]⟩] 9)).cell? ⟨w1.heap.size, i, none⟩ = some (.string cats[i])) ∧ Below w1.heap.size w1 (w1.alloc (.cells #[.string ⟨#[67, 99]⟩, .string ⟨#[90, 115]⟩, .string ⟨#[80, 111]⟩, .string ⟨#[83, 99]⟩, .string ⟨#[80, 115]⟩, .string ⟨#[80, 101]⟩, .string ⟨#[83, 109]⟩, .string ⟨#[80, 100]⟩, .string ⟨#[78, 100]⟩, .string ⟨#[76, 117]⟩, .string ⟨#[83, 107]⟩, .string ⟨#[80, 99]⟩, .string ⟨#[76, 108]⟩, .string ⟨#[83, 111]⟩, .string ⟨#[76, 111]⟩, .string ⟨#[80, 105]⟩, .string ⟨#[67, 102]⟩, .string ⟨#[78, 111]⟩, .string ⟨#[80, 102]⟩, .string ⟨#[77, 110]⟩, .string ⟨#[90, 108]⟩, .string ⟨#[90, 112]⟩, .string ⟨#[67, 110]⟩] 9)) := ⟨strs_lit rfl, below_alloc _ _⟩
  generalize w1.alloc _ = w2 at *
  have HCA := Lib.hid hca
  have HB2 := Lib.hid (below_trans HB1.out hba)
  clear hca hba
  go_upto_region 8 with (fail)
  obtain ⟨hca, hba⟩ : (∀ i (hi : i < scrs.length), (w2.alloc (.cells #[.string ⟨#[67, 111, 109, 109, 111, 110]⟩, .string ⟨#[76, 97, 116, 105, 110]⟩, .string ⟨#[73, 110, 104, 101, 114, 105, 116, 101, 100]⟩, .string ⟨#[71, 114, 101, 101, 107]⟩, .string ⟨#[67, 121, 114, 105, 108, 108, 105, 99]⟩, .string ⟨#[72, 101, 98, 114, 101, 119]⟩, .string ⟨#[65, 114, 97, 98, 105, 99]⟩, .string ⟨#[72, 105, 114, 97, 103, 97, 110, 97]⟩, .string ⟨#[72, 97, 110]⟩, .string ⟨#[85, 110, 107, 110, 111, 119, 110]⟩] 9)).cell? ⟨w2.heap.size, i, none⟩ = some (.string scrs[i])) ∧ Below w2.heap.size w2 (w2.alloc (.cells #[.string ⟨#[67, 111, 109, 109, 111, 110]⟩, .string ⟨#[76, 97, 116, 105, 110]⟩, .string ⟨#[73, 110, 104, 101, 114, 105, 116, 101, 100]⟩, .string ⟨#[71, 114, 101, 101, 107]⟩, .string ⟨#[67, 121, 114, 105, 108, 108, 105, 99]⟩, .string ⟨#[72, 101, 98, 114, 101, 119]⟩, .string ⟨#[65, 114, 97, 98, 105, 99]⟩, .string ⟨#[72, 105, 114, 97, 103, 97, 110, 97]⟩, .string ⟨#[72, 97, 110]⟩, .string ⟨#[85, 110, 107, 110, 111, 119, 110]⟩] 9)) := ⟨strs_lit rfl, below_alloc _ _⟩
  generalize w2.alloc _ = w3 at *
  have HCB := Lib.hid hca
  have HC3 := Lib.hid (fun i hi => below_cell hba (HCA.out i hi))
  have HB3 := Lib.hid (below_trans HB2.out hba)
  clear hca hba
  go_upto_region 9 with (fail)
  obtain ⟨hca, hba⟩ : (∀ i (hi : i < lets.length), (w3.alloc (.cells #[.string ⟨#[76]⟩, .string ⟨#[77]⟩, .string ⟨#[78]⟩, .string ⟨#[80]⟩, .string ⟨#[83]⟩, .string ⟨#[90]⟩, .string ⟨#[67]⟩] 9)).cell? ⟨w3.heap.size, i, none⟩ = some (.string lets[i])) ∧ Below w3.heap.size w3 (w3.alloc (.cells #[.string ⟨#[76]⟩, .string ⟨#[77]⟩, .string ⟨#[78]⟩, .string ⟨#[80]⟩, .string ⟨#[83]⟩, .string ⟨#[90]⟩, .string ⟨#[67]⟩] 9)) := ⟨strs_lit rfl, below_alloc _ _⟩
  generalize w3.alloc _ = w4 at *
  have HCC := Lib.hid hca
  have HC4 := Lib.hid (fun i hi => below_cell hba (HC3.out i hi))
  have HS4 := Lib.hid (fun i hi => below_cell hba (HCB.out i hi))
  have HB4 := Lib.hid (below_trans HB3.out hba)
  clear hca hba
  go_wp2_with fail
  refine (HC.out _ w4 HC4.out (tabS_below HB4.out HT.out)).mono ?_
  rintro e w5 ⟨rfl, hb5⟩
  have HS5 := Lib.hid (fun i hi => below_cell hb5 (HS4.out i hi))
  have HL5 := Lib.hid (fun i hi => below_cell hb5 (HCC.out i hi))
  have HB5 := Lib.hid (below_trans HB4.out hb5)
  clear hb5
  go_wp2_with fail
  refine (HS.out _ w5 HS5.out (tabS_below HB5.out HT.out)).mono ?_
  rintro e w6 ⟨rfl, hb6⟩
  have HL6 := Lib.hid (fun i hi => below_cell hb6 (HL5.out i hi))
  have HB6 := Lib.hid (below_trans HB5.out hb6)
  clear hb6
  go_wp2_with fail
  refine (HLt.out _ w6 HL6.out (tabS_below HB6.out HT.out)).mono ?_
  rintro e w7 ⟨rfl, hb7⟩
  have HB7 := Lib.hid (below_trans HB6.out hb7)
  clear hb7
  go_wp2_with fail
  go_ret
  exact ⟨rfl, HB7.out⟩
end Go.Proofs.YtgdhhpbpbkgmeaaDoor.prw
