/- Ways of the law PropsParts. (Written by gen/parts4.py.) -/
import Derived.Test.YtgdhhpbpbkgmeaaDoorPropsL3
namespace Go.Proofs.YtgdhhpbpbkgmeaaDoor.prw
open Go Go.RowKit Go.Proofs.YtgdhhpbpbkgmeaaDoor.bulk Go.Proofs.YtgdhhpbpbkgmeaaDoor.ucdp Go.Proofs.YtgdhhpbpbkgmeaaDoor.ucdw Go.Proofs.YtgdhhpbpbkgmeaaDoor.setp Go.Proofs.YtgdhhpbpbkgmeaaDoor.setw Go.Proofs.YtgdhhpbpbkgmeaaDoor.prp

set_option maxRecDepth 100000 in
set_option maxHeartbeats 8000000 in
theorem parts_x1 (c : Int) (w : World) (hT : TabS w) (e32 : (c == 32) = false) (e95 : (c == 95) = false) (h_alpha : posQ ⟨#[97, 108, 112, 104, 97]⟩ c = false) (h_digit : posQ ⟨#[100, 105, 103, 105, 116]⟩ c = false) (h_alnum : posQ ⟨#[97, 108, 110, 117, 109]⟩ c = false) (h_upper : posQ ⟨#[117, 112, 112, 101, 114]⟩ c = false) (h_lower : posQ ⟨#[108, 111, 119, 101, 114]⟩ c = false) (h_graph : posQ ⟨#[103, 114, 97, 112, 104]⟩ c = false) (h_punct : posQ ⟨#[112, 117, 110, 99, 116]⟩ c = false) (h_print : posQ ⟨#[112, 114, 105, 110, 116]⟩ c = false) (h_ascii : posQ ⟨#[97, 115, 99, 105, 105]⟩ c = false) (h_cntrl : posQ ⟨#[99, 110, 116, 114, 108]⟩ c = false) (h_word : posQ ⟨#[119, 111, 114, 100]⟩ c = false) (h_LL : proQ ⟨#[76, 38]⟩ c = true) (h_Lu : proQ ⟨#[76, 117]⟩ c = true) (h_Lx : proQ ⟨#[76]⟩ c = true) : Calls Tryd.prog 11 #[.int .i64 c] w (BolB true w) := by
  have HA := Lib.hid (awake_any w hT)
  have C_alpha := Lib.hid (fun u => lpos_any ⟨#[97, 108, 112, 104, 97]⟩ c u (by unfold maxLen; decide))
  rw [h_alpha] at C_alpha
  have C_digit := Lib.hid (fun u => lpos_any ⟨#[100, 105, 103, 105, 116]⟩ c u (by unfold maxLen; decide))
  rw [h_digit] at C_digit
  have C_alnum := Lib.hid (fun u => lpos_any ⟨#[97, 108, 110, 117, 109]⟩ c u (by unfold maxLen; decide))
  rw [h_alnum] at C_alnum
  have C_upper := Lib.hid (fun u => lpos_any ⟨#[117, 112, 112, 101, 114]⟩ c u (by unfold maxLen; decide))
  rw [h_upper] at C_upper
  have C_lower := Lib.hid (fun u => lpos_any ⟨#[108, 111, 119, 101, 114]⟩ c u (by unfold maxLen; decide))
  rw [h_lower] at C_lower
  have C_graph := Lib.hid (fun u => lpos_any ⟨#[103, 114, 97, 112, 104]⟩ c u (by unfold maxLen; decide))
  rw [h_graph] at C_graph
  have C_punct := Lib.hid (fun u => lpos_any ⟨#[112, 117, 110, 99, 116]⟩ c u (by unfold maxLen; decide))
  rw [h_punct] at C_punct
  have C_print := Lib.hid (fun u => lpos_any ⟨#[112, 114, 105, 110, 116]⟩ c u (by unfold maxLen; decide))
  rw [h_print] at C_print
  have C_ascii := Lib.hid (fun u => lpos_any ⟨#[97, 115, 99, 105, 105]⟩ c u (by unfold maxLen; decide))
  rw [h_ascii] at C_ascii
  have C_cntrl := Lib.hid (fun u => lpos_any ⟨#[99, 110, 116, 114, 108]⟩ c u (by unfold maxLen; decide))
  rw [h_cntrl] at C_cntrl
  have C_word := Lib.hid (fun u => lpos_any ⟨#[119, 111, 114, 100]⟩ c u (by unfold maxLen; decide))
  rw [h_word] at C_word
  have C_LL := Lib.hid (fun u (hb : Below w.heap.size w u) => lpro_any ⟨#[76, 38]⟩ c u (by unfold maxLen; decide) (tabS_below hb hT))
  rw [h_LL] at C_LL
  have C_Lu := Lib.hid (fun u (hb : Below w.heap.size w u) => lpro_any ⟨#[76, 117]⟩ c u (by unfold maxLen; decide) (tabS_below hb hT))
  rw [h_Lu] at C_Lu
  have C_Lx := Lib.hid (fun u (hb : Below w.heap.size w u) => lpro_any ⟨#[76]⟩ c u (by unfold maxLen; decide) (tabS_below hb hT))
  rw [h_Lx] at C_Lx
  clear h_alpha h_digit h_alnum h_upper h_lower h_graph h_punct h_print h_ascii h_cntrl h_word h_LL h_Lu h_Lx hT
  have n32 : ¬ c = 32 := by simpa using e32
  have n95 : ¬ c = 95 := by simpa using e95
  go_enter Tryd.func11, Tryd.ntmps11
  go_wp2_with fail
  refine HA.out.mono ?_
  rintro e w0 ⟨rfl, hb⟩
  have HB0 := Lib.hid hb
  clear hb
  go_upto_region 4 with (fail)
  refine region_lit4 (by simp only [List.append]; rfl) ?_
  go_wp2_with fail
  refine (C_alnum.out _).mono ?_
  rintro e w1 ⟨rfl, hb⟩
  have HB1 := Lib.hid (below_trans HB0.out hb)
  clear hb HB0
  go_wp2_with fail
  refine (C_alpha.out _).mono ?_
  rintro e w2 ⟨rfl, hb⟩
  have HB2 := Lib.hid (below_trans HB1.out hb)
  clear hb HB1
  go_wp2_with fail
  refine (C_digit.out _).mono ?_
  rintro e w3 ⟨rfl, hb⟩
  have HB3 := Lib.hid (below_trans HB2.out hb)
  clear hb HB2
  go_wp2_with fail
  refine (C_alpha.out _).mono ?_
  rintro e w4 ⟨rfl, hb⟩
  have HB4 := Lib.hid (below_trans HB3.out hb)
  clear hb HB3
  go_wp2_with fail
  refine (C_upper.out _).mono ?_
  rintro e w5 ⟨rfl, hb⟩
  have HB5 := Lib.hid (below_trans HB4.out hb)
  clear hb HB4
  go_wp2_with fail
  refine (C_lower.out _).mono ?_
  rintro e w6 ⟨rfl, hb⟩
  have HB6 := Lib.hid (below_trans HB5.out hb)
  clear hb HB5
  go_wp2_with fail
  refine (C_graph.out _).mono ?_
  rintro e w7 ⟨rfl, hb⟩
  have HB7 := Lib.hid (below_trans HB6.out hb)
  clear hb HB6
  go_wp2_with fail
  refine (C_alnum.out _).mono ?_
  rintro e w8 ⟨rfl, hb⟩
  have HB8 := Lib.hid (below_trans HB7.out hb)
  clear hb HB7
  go_wp2_with fail
  refine (C_punct.out _).mono ?_
  rintro e w9 ⟨rfl, hb⟩
  have HB9 := Lib.hid (below_trans HB8.out hb)
  clear hb HB8
  go_wp2_with fail
  refine (C_print.out _).mono ?_
  rintro e w10 ⟨rfl, hb⟩
  have HB10 := Lib.hid (below_trans HB9.out hb)
  clear hb HB9
  go_wp2_with fail
  refine (C_graph.out _).mono ?_
  rintro e w11 ⟨rfl, hb⟩
  have HB11 := Lib.hid (below_trans HB10.out hb)
  clear hb HB10
  go_wp2_with fail
  refine (C_ascii.out _).mono ?_
  rintro e w12 ⟨rfl, hb⟩
  have HB12 := Lib.hid (below_trans HB11.out hb)
  clear hb HB11
  go_wp2_with fail
  refine (C_print.out _).mono ?_
  rintro e w13 ⟨rfl, hb⟩
  have HB13 := Lib.hid (below_trans HB12.out hb)
  clear hb HB12
  go_wp2_with fail
  refine (C_cntrl.out _).mono ?_
  rintro e w14 ⟨rfl, hb⟩
  have HB14 := Lib.hid (below_trans HB13.out hb)
  clear hb HB13
  go_wp2_with fail
  refine (C_word.out _).mono ?_
  rintro e w15 ⟨rfl, hb⟩
  have HB15 := Lib.hid (below_trans HB14.out hb)
  clear hb HB14
  go_wp2_with fail
  refine (C_alnum.out _).mono ?_
  rintro e w16 ⟨rfl, hb⟩
  have HB16 := Lib.hid (below_trans HB15.out hb)
  clear hb HB15
  go_wp2_with fail
  refine (C_LL.out _ HB16.out).mono ?_
  rintro e w17 ⟨rfl, hb⟩
  have HB17 := Lib.hid (below_trans HB16.out hb)
  clear hb HB16
  go_wp2_with fail
  refine (C_Lu.out _ HB17.out).mono ?_
  rintro e w18 ⟨rfl, hb⟩
  have HB18 := Lib.hid (below_trans HB17.out hb)
  clear hb HB17
  go_wp2_with fail
  refine (C_LL.out _ HB18.out).mono ?_
  rintro e w19 ⟨rfl, hb⟩
  have HB19 := Lib.hid (below_trans HB18.out hb)
  clear hb HB18
  go_wp2_with fail
  refine (C_Lx.out _ HB19.out).mono ?_
  rintro e w20 ⟨rfl, hb⟩
  have HB20 := Lib.hid (below_trans HB19.out hb)
  clear hb HB19
  go_wp2_with fail
  go_ret
  exact ⟨rfl, HB20.out⟩

set_option maxRecDepth 100000 in
set_option maxHeartbeats 8000000 in
theorem parts_x2 (c : Int) (w : World) (hT : TabS w) (e32 : (c == 32) = false) (e95 : (c == 95) = false) (h_alpha : posQ ⟨#[97, 108, 112, 104, 97]⟩ c = false) (h_digit : posQ ⟨#[100, 105, 103, 105, 116]⟩ c = false) (h_alnum : posQ ⟨#[97, 108, 110, 117, 109]⟩ c = false) (h_upper : posQ ⟨#[117, 112, 112, 101, 114]⟩ c = false) (h_lower : posQ ⟨#[108, 111, 119, 101, 114]⟩ c = false) (h_graph : posQ ⟨#[103, 114, 97, 112, 104]⟩ c = false) (h_punct : posQ ⟨#[112, 117, 110, 99, 116]⟩ c = false) (h_print : posQ ⟨#[112, 114, 105, 110, 116]⟩ c = false) (h_ascii : posQ ⟨#[97, 115, 99, 105, 105]⟩ c = false) (h_cntrl : posQ ⟨#[99, 110, 116, 114, 108]⟩ c = false) (h_word : posQ ⟨#[119, 111, 114, 100]⟩ c = false) (h_LL : proQ ⟨#[76, 38]⟩ c = true) (h_Lu : proQ ⟨#[76, 117]⟩ c = false) (h_Ll : proQ ⟨#[76, 108]⟩ c = true) (h_Lx : proQ ⟨#[76]⟩ c = true) : Calls Tryd.prog 11 #[.int .i64 c] w (BolB true w) := by
  have HA := Lib.hid (awake_any w hT)
  have C_alpha := Lib.hid (fun u => lpos_any ⟨#[97, 108, 112, 104, 97]⟩ c u (by unfold maxLen; decide))
  rw [h_alpha] at C_alpha
  have C_digit := Lib.hid (fun u => lpos_any ⟨#[100, 105, 103, 105, 116]⟩ c u (by unfold maxLen; decide))
  rw [h_digit] at C_digit
  have C_alnum := Lib.hid (fun u => lpos_any ⟨#[97, 108, 110, 117, 109]⟩ c u (by unfold maxLen; decide))
  rw [h_alnum] at C_alnum
  have C_upper := Lib.hid (fun u => lpos_any ⟨#[117, 112, 112, 101, 114]⟩ c u (by unfold maxLen; decide))
  rw [h_upper] at C_upper
  have C_lower := Lib.hid (fun u => lpos_any ⟨#[108, 111, 119, 101, 114]⟩ c u (by unfold maxLen; decide))
  rw [h_lower] at C_lower
  have C_graph := Lib.hid (fun u => lpos_any ⟨#[103, 114, 97, 112, 104]⟩ c u (by unfold maxLen; decide))
  rw [h_graph] at C_graph
  have C_punct := Lib.hid (fun u => lpos_any ⟨#[112, 117, 110, 99, 116]⟩ c u (by unfold maxLen; decide))
  rw [h_punct] at C_punct
  have C_print := Lib.hid (fun u => lpos_any ⟨#[112, 114, 105, 110, 116]⟩ c u (by unfold maxLen; decide))
  rw [h_print] at C_print
  have C_ascii := Lib.hid (fun u => lpos_any ⟨#[97, 115, 99, 105, 105]⟩ c u (by unfold maxLen; decide))
  rw [h_ascii] at C_ascii
  have C_cntrl := Lib.hid (fun u => lpos_any ⟨#[99, 110, 116, 114, 108]⟩ c u (by unfold maxLen; decide))
  rw [h_cntrl] at C_cntrl
  have C_word := Lib.hid (fun u => lpos_any ⟨#[119, 111, 114, 100]⟩ c u (by unfold maxLen; decide))
  rw [h_word] at C_word
  have C_LL := Lib.hid (fun u (hb : Below w.heap.size w u) => lpro_any ⟨#[76, 38]⟩ c u (by unfold maxLen; decide) (tabS_below hb hT))
  rw [h_LL] at C_LL
  have C_Lu := Lib.hid (fun u (hb : Below w.heap.size w u) => lpro_any ⟨#[76, 117]⟩ c u (by unfold maxLen; decide) (tabS_below hb hT))
  rw [h_Lu] at C_Lu
  have C_Ll := Lib.hid (fun u (hb : Below w.heap.size w u) => lpro_any ⟨#[76, 108]⟩ c u (by unfold maxLen; decide) (tabS_below hb hT))
  rw [h_Ll] at C_Ll
  have C_Lx := Lib.hid (fun u (hb : Below w.heap.size w u) => lpro_any ⟨#[76]⟩ c u (by unfold maxLen; decide) (tabS_below hb hT))
  rw [h_Lx] at C_Lx
  clear h_alpha h_digit h_alnum h_upper h_lower h_graph h_punct h_print h_ascii h_cntrl h_word h_LL h_Lu h_Ll h_Lx hT
  have n32 : ¬ c = 32 := by simpa using e32
  have n95 : ¬ c = 95 := by simpa using e95
  go_enter Tryd.func11, Tryd.ntmps11
  go_wp2_with fail
  refine HA.out.mono ?_
  rintro e w0 ⟨rfl, hb⟩
  have HB0 := Lib.hid hb
  clear hb
  go_upto_region 4 with (fail)
  refine region_lit4 (by simp only [List.append]; rfl) ?_
  go_wp2_with fail
  refine (C_alnum.out _).mono ?_
  rintro e w1 ⟨rfl, hb⟩
  have HB1 := Lib.hid (below_trans HB0.out hb)
  clear hb HB0
  go_wp2_with fail
  refine (C_alpha.out _).mono ?_
  rintro e w2 ⟨rfl, hb⟩
  have HB2 := Lib.hid (below_trans HB1.out hb)
  clear hb HB1
  go_wp2_with fail
  refine (C_digit.out _).mono ?_
  rintro e w3 ⟨rfl, hb⟩
  have HB3 := Lib.hid (below_trans HB2.out hb)
  clear hb HB2
  go_wp2_with fail
  refine (C_alpha.out _).mono ?_
  rintro e w4 ⟨rfl, hb⟩
  have HB4 := Lib.hid (below_trans HB3.out hb)
  clear hb HB3
  go_wp2_with fail
  refine (C_upper.out _).mono ?_
  rintro e w5 ⟨rfl, hb⟩
  have HB5 := Lib.hid (below_trans HB4.out hb)
  clear hb HB4
  go_wp2_with fail
  refine (C_lower.out _).mono ?_
  rintro e w6 ⟨rfl, hb⟩
  have HB6 := Lib.hid (below_trans HB5.out hb)
  clear hb HB5
  go_wp2_with fail
  refine (C_graph.out _).mono ?_
  rintro e w7 ⟨rfl, hb⟩
  have HB7 := Lib.hid (below_trans HB6.out hb)
  clear hb HB6
  go_wp2_with fail
  refine (C_alnum.out _).mono ?_
  rintro e w8 ⟨rfl, hb⟩
  have HB8 := Lib.hid (below_trans HB7.out hb)
  clear hb HB7
  go_wp2_with fail
  refine (C_punct.out _).mono ?_
  rintro e w9 ⟨rfl, hb⟩
  have HB9 := Lib.hid (below_trans HB8.out hb)
  clear hb HB8
  go_wp2_with fail
  refine (C_print.out _).mono ?_
  rintro e w10 ⟨rfl, hb⟩
  have HB10 := Lib.hid (below_trans HB9.out hb)
  clear hb HB9
  go_wp2_with fail
  refine (C_graph.out _).mono ?_
  rintro e w11 ⟨rfl, hb⟩
  have HB11 := Lib.hid (below_trans HB10.out hb)
  clear hb HB10
  go_wp2_with fail
  refine (C_ascii.out _).mono ?_
  rintro e w12 ⟨rfl, hb⟩
  have HB12 := Lib.hid (below_trans HB11.out hb)
  clear hb HB11
  go_wp2_with fail
  refine (C_print.out _).mono ?_
  rintro e w13 ⟨rfl, hb⟩
  have HB13 := Lib.hid (below_trans HB12.out hb)
  clear hb HB12
  go_wp2_with fail
  refine (C_cntrl.out _).mono ?_
  rintro e w14 ⟨rfl, hb⟩
  have HB14 := Lib.hid (below_trans HB13.out hb)
  clear hb HB13
  go_wp2_with fail
  refine (C_word.out _).mono ?_
  rintro e w15 ⟨rfl, hb⟩
  have HB15 := Lib.hid (below_trans HB14.out hb)
  clear hb HB14
  go_wp2_with fail
  refine (C_alnum.out _).mono ?_
  rintro e w16 ⟨rfl, hb⟩
  have HB16 := Lib.hid (below_trans HB15.out hb)
  clear hb HB15
  go_wp2_with fail
  refine (C_LL.out _ HB16.out).mono ?_
  rintro e w17 ⟨rfl, hb⟩
  have HB17 := Lib.hid (below_trans HB16.out hb)
  clear hb HB16
  go_wp2_with fail
  refine (C_Lu.out _ HB17.out).mono ?_
  rintro e w18 ⟨rfl, hb⟩
  have HB18 := Lib.hid (below_trans HB17.out hb)
  clear hb HB17
  go_wp2_with fail
  refine (C_Ll.out _ HB18.out).mono ?_
  rintro e w19 ⟨rfl, hb⟩
  have HB19 := Lib.hid (below_trans HB18.out hb)
  clear hb HB18
  go_wp2_with fail
  refine (C_LL.out _ HB19.out).mono ?_
  rintro e w20 ⟨rfl, hb⟩
  have HB20 := Lib.hid (below_trans HB19.out hb)
  clear hb HB19
  go_wp2_with fail
  refine (C_Lx.out _ HB20.out).mono ?_
  rintro e w21 ⟨rfl, hb⟩
  have HB21 := Lib.hid (below_trans HB20.out hb)
  clear hb HB20
  go_wp2_with fail
  go_ret
  exact ⟨rfl, HB21.out⟩

set_option maxRecDepth 100000 in
set_option maxHeartbeats 8000000 in
theorem parts_x3 (c : Int) (w : World) (hT : TabS w) (e32 : (c == 32) = false) (e95 : (c == 95) = false) (h_alpha : posQ ⟨#[97, 108, 112, 104, 97]⟩ c = false) (h_digit : posQ ⟨#[100, 105, 103, 105, 116]⟩ c = false) (h_alnum : posQ ⟨#[97, 108, 110, 117, 109]⟩ c = false) (h_upper : posQ ⟨#[117, 112, 112, 101, 114]⟩ c = false) (h_lower : posQ ⟨#[108, 111, 119, 101, 114]⟩ c = false) (h_graph : posQ ⟨#[103, 114, 97, 112, 104]⟩ c = false) (h_punct : posQ ⟨#[112, 117, 110, 99, 116]⟩ c = false) (h_print : posQ ⟨#[112, 114, 105, 110, 116]⟩ c = false) (h_ascii : posQ ⟨#[97, 115, 99, 105, 105]⟩ c = false) (h_cntrl : posQ ⟨#[99, 110, 116, 114, 108]⟩ c = false) (h_word : posQ ⟨#[119, 111, 114, 100]⟩ c = false) (h_LL : proQ ⟨#[76, 38]⟩ c = false) (h_Lu : proQ ⟨#[76, 117]⟩ c = false) (h_Ll : proQ ⟨#[76, 108]⟩ c = false) : Calls Tryd.prog 11 #[.int .i64 c] w (BolB true w) := by
  have HA := Lib.hid (awake_any w hT)
  have C_alpha := Lib.hid (fun u => lpos_any ⟨#[97, 108, 112, 104, 97]⟩ c u (by unfold maxLen; decide))
  rw [h_alpha] at C_alpha
  have C_digit := Lib.hid (fun u => lpos_any ⟨#[100, 105, 103, 105, 116]⟩ c u (by unfold maxLen; decide))
  rw [h_digit] at C_digit
  have C_alnum := Lib.hid (fun u => lpos_any ⟨#[97, 108, 110, 117, 109]⟩ c u (by unfold maxLen; decide))
  rw [h_alnum] at C_alnum
  have C_upper := Lib.hid (fun u => lpos_any ⟨#[117, 112, 112, 101, 114]⟩ c u (by unfold maxLen; decide))
  rw [h_upper] at C_upper
  have C_lower := Lib.hid (fun u => lpos_any ⟨#[108, 111, 119, 101, 114]⟩ c u (by unfold maxLen; decide))
  rw [h_lower] at C_lower
  have C_graph := Lib.hid (fun u => lpos_any ⟨#[103, 114, 97, 112, 104]⟩ c u (by unfold maxLen; decide))
  rw [h_graph] at C_graph
  have C_punct := Lib.hid (fun u => lpos_any ⟨#[112, 117, 110, 99, 116]⟩ c u (by unfold maxLen; decide))
  rw [h_punct] at C_punct
  have C_print := Lib.hid (fun u => lpos_any ⟨#[112, 114, 105, 110, 116]⟩ c u (by unfold maxLen; decide))
  rw [h_print] at C_print
  have C_ascii := Lib.hid (fun u => lpos_any ⟨#[97, 115, 99, 105, 105]⟩ c u (by unfold maxLen; decide))
  rw [h_ascii] at C_ascii
  have C_cntrl := Lib.hid (fun u => lpos_any ⟨#[99, 110, 116, 114, 108]⟩ c u (by unfold maxLen; decide))
  rw [h_cntrl] at C_cntrl
  have C_word := Lib.hid (fun u => lpos_any ⟨#[119, 111, 114, 100]⟩ c u (by unfold maxLen; decide))
  rw [h_word] at C_word
  have C_LL := Lib.hid (fun u (hb : Below w.heap.size w u) => lpro_any ⟨#[76, 38]⟩ c u (by unfold maxLen; decide) (tabS_below hb hT))
  rw [h_LL] at C_LL
  have C_Lu := Lib.hid (fun u (hb : Below w.heap.size w u) => lpro_any ⟨#[76, 117]⟩ c u (by unfold maxLen; decide) (tabS_below hb hT))
  rw [h_Lu] at C_Lu
  have C_Ll := Lib.hid (fun u (hb : Below w.heap.size w u) => lpro_any ⟨#[76, 108]⟩ c u (by unfold maxLen; decide) (tabS_below hb hT))
  rw [h_Ll] at C_Ll
  clear h_alpha h_digit h_alnum h_upper h_lower h_graph h_punct h_print h_ascii h_cntrl h_word h_LL h_Lu h_Ll hT
  have n32 : ¬ c = 32 := by simpa using e32
  have n95 : ¬ c = 95 := by simpa using e95
  go_enter Tryd.func11, Tryd.ntmps11
  go_wp2_with fail
  refine HA.out.mono ?_
  rintro e w0 ⟨rfl, hb⟩
  have HB0 := Lib.hid hb
  clear hb
  go_upto_region 4 with (fail)
  refine region_lit4 (by simp only [List.append]; rfl) ?_
  go_wp2_with fail
  refine (C_alnum.out _).mono ?_
  rintro e w1 ⟨rfl, hb⟩
  have HB1 := Lib.hid (below_trans HB0.out hb)
  clear hb HB0
  go_wp2_with fail
  refine (C_alpha.out _).mono ?_
  rintro e w2 ⟨rfl, hb⟩
  have HB2 := Lib.hid (below_trans HB1.out hb)
  clear hb HB1
  go_wp2_with fail
  refine (C_digit.out _).mono ?_
  rintro e w3 ⟨rfl, hb⟩
  have HB3 := Lib.hid (below_trans HB2.out hb)
  clear hb HB2
  go_wp2_with fail
  refine (C_alpha.out _).mono ?_
  rintro e w4 ⟨rfl, hb⟩
  have HB4 := Lib.hid (below_trans HB3.out hb)
  clear hb HB3
  go_wp2_with fail
  refine (C_upper.out _).mono ?_
  rintro e w5 ⟨rfl, hb⟩
  have HB5 := Lib.hid (below_trans HB4.out hb)
  clear hb HB4
  go_wp2_with fail
  refine (C_lower.out _).mono ?_
  rintro e w6 ⟨rfl, hb⟩
  have HB6 := Lib.hid (below_trans HB5.out hb)
  clear hb HB5
  go_wp2_with fail
  refine (C_graph.out _).mono ?_
  rintro e w7 ⟨rfl, hb⟩
  have HB7 := Lib.hid (below_trans HB6.out hb)
  clear hb HB6
  go_wp2_with fail
  refine (C_alnum.out _).mono ?_
  rintro e w8 ⟨rfl, hb⟩
  have HB8 := Lib.hid (below_trans HB7.out hb)
  clear hb HB7
  go_wp2_with fail
  refine (C_punct.out _).mono ?_
  rintro e w9 ⟨rfl, hb⟩
  have HB9 := Lib.hid (below_trans HB8.out hb)
  clear hb HB8
  go_wp2_with fail
  refine (C_print.out _).mono ?_
  rintro e w10 ⟨rfl, hb⟩
  have HB10 := Lib.hid (below_trans HB9.out hb)
  clear hb HB9
  go_wp2_with fail
  refine (C_graph.out _).mono ?_
  rintro e w11 ⟨rfl, hb⟩
  have HB11 := Lib.hid (below_trans HB10.out hb)
  clear hb HB10
  go_wp2_with fail
  refine (C_ascii.out _).mono ?_
  rintro e w12 ⟨rfl, hb⟩
  have HB12 := Lib.hid (below_trans HB11.out hb)
  clear hb HB11
  go_wp2_with fail
  refine (C_print.out _).mono ?_
  rintro e w13 ⟨rfl, hb⟩
  have HB13 := Lib.hid (below_trans HB12.out hb)
  clear hb HB12
  go_wp2_with fail
  refine (C_cntrl.out _).mono ?_
  rintro e w14 ⟨rfl, hb⟩
  have HB14 := Lib.hid (below_trans HB13.out hb)
  clear hb HB13
  go_wp2_with fail
  refine (C_word.out _).mono ?_
  rintro e w15 ⟨rfl, hb⟩
  have HB15 := Lib.hid (below_trans HB14.out hb)
  clear hb HB14
  go_wp2_with fail
  refine (C_alnum.out _).mono ?_
  rintro e w16 ⟨rfl, hb⟩
  have HB16 := Lib.hid (below_trans HB15.out hb)
  clear hb HB15
  go_wp2_with fail
  refine (C_LL.out _ HB16.out).mono ?_
  rintro e w17 ⟨rfl, hb⟩
  have HB17 := Lib.hid (below_trans HB16.out hb)
  clear hb HB16
  go_wp2_with fail
  refine (C_Lu.out _ HB17.out).mono ?_
  rintro e w18 ⟨rfl, hb⟩
  have HB18 := Lib.hid (below_trans HB17.out hb)
  clear hb HB17
  go_wp2_with fail
  refine (C_Ll.out _ HB18.out).mono ?_
  rintro e w19 ⟨rfl, hb⟩
  have HB19 := Lib.hid (below_trans HB18.out hb)
  clear hb HB18
  go_wp2_with fail
  refine (C_LL.out _ HB19.out).mono ?_
  rintro e w20 ⟨rfl, hb⟩
  have HB20 := Lib.hid (below_trans HB19.out hb)
  clear hb HB19
  go_wp2_with fail
  go_ret
  exact ⟨rfl, HB20.out⟩
end Go.Proofs.YtgdhhpbpbkgmeaaDoor.prw
