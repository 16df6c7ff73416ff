/- The walk of the law UcdAscii. -/
import Derived.Test.YtnmppacgjjkpcaaDoorUcdR5
namespace Go.Proofs.YtnmppacgjjkpcaaDoor.ucdw
open Go Go.RowKit Go.Proofs.YtnmppacgjjkpcaaDoor.bulk Go.Proofs.YtnmppacgjjkpcaaDoor.ucdp

theorem boolB_of {r : Bool} {w w' : World} (h : r = true) (hb : Below w.heap.size w w') : BoolB true w (.returned (.bool r)) w' := by
  subst h; exact ⟨rfl, hb⟩
theorem xor_great {c : Int} (h1 : 65 ≤ c) (h2 : c ≤ 90) : bits BinOp.xor IntKind.i64 c 32 = c + 32 := by
  have all : ∀ i : Fin 26, bits BinOp.xor IntKind.i64 (65 + (i.val : Int)) 32 = 65 + (i.val : Int) + 32 := by decide +kernel
  have := all ⟨(c - 65).toNat, by omega⟩
  rwa [show (65 : Int) + ((c - 65).toNat : Nat) = c by omega] at this
theorem xor_small {c : Int} (h1 : 97 ≤ c) (h2 : c ≤ 122) : bits BinOp.xor IntKind.i64 c 32 = c - 32 := by
  have all : ∀ i : Fin 26, bits BinOp.xor IntKind.i64 (97 + (i.val : Int)) 32 = 97 + (i.val : Int) - 32 := by decide +kernel
  have := all ⟨(c - 97).toNat, by omega⟩
  rwa [show (97 : Int) + ((c - 97).toNat : Nat) = c by omega] at this
/-- the numbers of a range have one category and script -/
theorem cls_range {a : Int} {n : Nat} {k : Nat × Nat × Int} (all : ∀ i : Fin n, cls (a + (i.val : Int)) = k) {c : Int} (h1 : a ≤ c) (h2 : c < a + n) : cls c = k := by
  have := all ⟨(c - a).toNat, by omega⟩
  rwa [show a + ((c - a).toNat : Nat) = c by omega] at this
/-- the category is none of five; the script is Common -/
def Punct (c : Int) : Prop := ((catB (cls c).1).toList == [76, 117]) = false ∧ ((catB (cls c).1).toList == [76, 108]) = false ∧ ((catB (cls c).1).toList == [78, 100]) = false ∧ ((catB (cls c).1).toList == [67, 99]) = false ∧ ((catB (cls c).1).toList == [90, 115]) = false ∧ (cls c).2.1 = 1
instance (c : Int) : Decidable (Punct c) := by unfold Punct; infer_instance
theorem range_all {a : Int} {n : Nat} {P : Int → Prop} (all : ∀ i : Fin n, P (a + (i.val : Int))) {c : Int} (h1 : a ≤ c) (h2 : c < a + n) : P c := by
  have := all ⟨(c - a).toNat, by omega⟩
  rwa [show a + ((c - a).toNat : Nat) = c by omega] at this
set_option maxRecDepth 100000 in
set_option maxHeartbeats 4000000 in
theorem ascii_great (c : Int) (w : World) (h1 : 65 ≤ c) (h2 : c ≤ 90) (hT : Tab3 w) : Calls Tryd.prog 7 #[.int .i64 c] w (BoolB true w) := by
  have H0 := Lib.hid (awake_any w hT)
  have HO := Lib.hid (fun w1 (hb : Below w.heap.size w w1) => (others_f_low h1 h2 ▸ others_any c false w1 (by omega) (by omega) (below_tab hb hT) : Calls _ _ _ w1 (IntsB [c + 32] w1)))
  have hk := cls_range (a := 65) (n := 26) (k := (10, 2, 32)) (by decide +kernel) (c := c) h1 (by omega)
  have HC := Lib.hid (fun w1 => strB_of (show catB (cls c).1 = ⟨#[76, 117]⟩ by rw [hk]; rfl) (category_any c w1 (by omega) (by omega)))
  have HS := Lib.hid (fun w1 => strB_of (show scrB (cls c).2.1 = ⟨#[76, 97, 116, 105, 110]⟩ by rw [hk]; rfl) (script_any c w1 (by omega) (by omega)))
  have HX := Lib.hid (xor_great h1 h2)
  clear hk
  clear hT
  go_enter Tryd.func7, Tryd.ntmps7
  go_wp2_with fail
  refine H0.out.mono ?_
  rintro e w1 ⟨rfl, hw1⟩
  go_wp2_with fail
  refine (HC.out _).mono ?_
  rintro e w2 ⟨rfl, hb2⟩
  have hw2 := below_trans hw1 hb2
  go_wp2_with fail
  refine (HO.out _ hw2).mono ?_
  rintro e w3 ⟨v, rfl, hv, hb3⟩
  obtain ⟨g, cap, rfl, k1, k2, c0⟩ := ints_one hv
  have hw3 := below_trans hw2 hb3
  clear hv
  go_wp2_with fail
  refine (HS.out _).mono ?_
  rintro e w4 ⟨rfl, hb4⟩
  have d0 := below_cell hb4 c0
  have hw4 := below_trans hw3 hb4
  clear hb2 hb3 hb4 c0
  go_wp2_with fail
  go_ret
  refine boolB_of ?_ hw4
  have hx := HX.out
  simp [hx]
  try omega
set_option maxRecDepth 100000 in
set_option maxHeartbeats 4000000 in
theorem ascii_small (c : Int) (w : World) (h1 : 97 ≤ c) (h2 : c ≤ 122) (hT : Tab3 w) : Calls Tryd.prog 7 #[.int .i64 c] w (BoolB true w) := by
  have H0 := Lib.hid (awake_any w hT)
  have HO := Lib.hid (fun w1 (hb : Below w.heap.size w w1) => (others_f_high h1 h2 ▸ others_any c false w1 (by omega) (by omega) (below_tab hb hT) : Calls _ _ _ w1 (IntsB [c - 32] w1)))
  have hk := cls_range (a := 97) (n := 26) (k := (13, 2, -32)) (by decide +kernel) (c := c) h1 (by omega)
  have HC := Lib.hid (fun w1 => strB_of (show catB (cls c).1 = ⟨#[76, 108]⟩ by rw [hk]; rfl) (category_any c w1 (by omega) (by omega)))
  have HS := Lib.hid (fun w1 => strB_of (show scrB (cls c).2.1 = ⟨#[76, 97, 116, 105, 110]⟩ by rw [hk]; rfl) (script_any c w1 (by omega) (by omega)))
  have HX := Lib.hid (xor_small h1 h2)
  clear hk
  clear hT
  go_enter Tryd.func7, Tryd.ntmps7
  go_wp2_with fail
  refine H0.out.mono ?_
  rintro e w1 ⟨rfl, hw1⟩
  go_wp2_with fail
  refine (HC.out _).mono ?_
  rintro e w2 ⟨rfl, hb2⟩
  have hw2 := below_trans hw1 hb2
  go_wp2_with fail
  refine (HO.out _ hw2).mono ?_
  rintro e w3 ⟨v, rfl, hv, hb3⟩
  obtain ⟨g, cap, rfl, k1, k2, c0⟩ := ints_one hv
  have hw3 := below_trans hw2 hb3
  clear hv
  go_wp2_with fail
  refine (HS.out _).mono ?_
  rintro e w4 ⟨rfl, hb4⟩
  have d0 := below_cell hb4 c0
  have hw4 := below_trans hw3 hb4
  clear hb2 hb3 hb4 c0
  go_wp2_with fail
  go_ret
  refine boolB_of ?_ hw4
  have hx := HX.out
  simp [hx]
  try omega
set_option maxRecDepth 100000 in
set_option maxHeartbeats 4000000 in
theorem ascii_ctrl (c : Int) (w : World) (h1 : 0 ≤ c) (h2 : c ≤ 31) (hT : Tab3 w) : Calls Tryd.prog 7 #[.int .i64 c] w (BoolB true w) := by
  have H0 := Lib.hid (awake_any w hT)
  have HO := Lib.hid (fun w1 (hb : Below w.heap.size w w1) => (others_f_none (c := c) (by omega) (by omega) ▸ others_any c false w1 (by omega) (by omega) (below_tab hb hT) : Calls _ _ _ w1 (IntsB [] w1)))
  have hk := cls_range (a := 0) (n := 32) (k := (1, 1, 0)) (by decide +kernel) (c := c) h1 (by omega)
  have HC := Lib.hid (fun w1 => strB_of (show catB (cls c).1 = ⟨#[67, 99]⟩ by rw [hk]; rfl) (category_any c w1 (by omega) (by omega)))
  have HS := Lib.hid (fun w1 => strB_of (show scrB (cls c).2.1 = ⟨#[67, 111, 109, 109, 111, 110]⟩ by rw [hk]; rfl) (script_any c w1 (by omega) (by omega)))
  clear hk
  clear hT
  go_enter Tryd.func7, Tryd.ntmps7
  go_wp2_with fail
  refine H0.out.mono ?_
  rintro e w1 ⟨rfl, hw1⟩
  go_wp2_with fail
  refine (HC.out _).mono ?_
  rintro e w2 ⟨rfl, hb2⟩
  have hw2 := below_trans hw1 hb2
  go_wp2_with fail
  refine (HO.out _ hw2).mono ?_
  rintro e w3 ⟨v, rfl, hv, hb3⟩
  obtain rfl := ints_none hv
  have hw3 := below_trans hw2 hb3
  clear hv
  go_wp2_with fail
  refine (HS.out _).mono ?_
  rintro e w4 ⟨rfl, hb4⟩
  have hw4 := below_trans hw3 hb4
  clear hb2 hb3 hb4
  go_wp2_with fail
  go_ret
  refine boolB_of ?_ hw4
  simp
  try omega
set_option maxRecDepth 100000 in
set_option maxHeartbeats 4000000 in
theorem ascii_blank (c : Int) (w : World) (h1 : 32 ≤ c) (h2 : c ≤ 32) (hT : Tab3 w) : Calls Tryd.prog 7 #[.int .i64 c] w (BoolB true w) := by
  obtain rfl : c = 32 := by omega
  have H0 := Lib.hid (awake_any w hT)
  have HO := Lib.hid (fun w1 (hb : Below w.heap.size w w1) => (others_f_none (c := 32) (by omega) (by omega) ▸ others_any 32 false w1 (by omega) (by omega) (below_tab hb hT) : Calls _ _ _ w1 (IntsB [] w1)))
  have hk := cls_range (a := 32) (n := 1) (k := (2, 1, 0)) (by decide +kernel) (c := 32) (by omega) (by omega)
  have HC := Lib.hid (fun w1 => strB_of (show catB (cls 32).1 = ⟨#[90, 115]⟩ by rw [hk]; rfl) (category_any 32 w1 (by omega) (by omega)))
  have HS := Lib.hid (fun w1 => strB_of (show scrB (cls 32).2.1 = ⟨#[67, 111, 109, 109, 111, 110]⟩ by rw [hk]; rfl) (script_any 32 w1 (by omega) (by omega)))
  clear hk
  clear hT
  go_enter Tryd.func7, Tryd.ntmps7
  go_wp2_with fail
  refine H0.out.mono ?_
  rintro e w1 ⟨rfl, hw1⟩
  go_wp2_with fail
  refine (HC.out _).mono ?_
  rintro e w2 ⟨rfl, hb2⟩
  have hw2 := below_trans hw1 hb2
  go_wp2_with fail
  refine (HO.out _ hw2).mono ?_
  rintro e w3 ⟨v, rfl, hv, hb3⟩
  obtain rfl := ints_none hv
  have hw3 := below_trans hw2 hb3
  clear hv
  go_wp2_with fail
  refine (HS.out _).mono ?_
  rintro e w4 ⟨rfl, hb4⟩
  have hw4 := below_trans hw3 hb4
  clear hb2 hb3 hb4
  go_wp2_with fail
  go_ret
  refine boolB_of ?_ hw4
  simp
  try omega
set_option maxRecDepth 100000 in
set_option maxHeartbeats 4000000 in
theorem ascii_digit (c : Int) (w : World) (h1 : 48 ≤ c) (h2 : c ≤ 57) (hT : Tab3 w) : Calls Tryd.prog 7 #[.int .i64 c] w (BoolB true w) := by
  have H0 := Lib.hid (awake_any w hT)
  have HO := Lib.hid (fun w1 (hb : Below w.heap.size w w1) => (others_f_none (c := c) (by omega) (by omega) ▸ others_any c false w1 (by omega) (by omega) (below_tab hb hT) : Calls _ _ _ w1 (IntsB [] w1)))
  have hk := cls_range (a := 48) (n := 10) (k := (9, 1, 0)) (by decide +kernel) (c := c) h1 (by omega)
  have HC := Lib.hid (fun w1 => strB_of (show catB (cls c).1 = ⟨#[78, 100]⟩ by rw [hk]; rfl) (category_any c w1 (by omega) (by omega)))
  have HS := Lib.hid (fun w1 => strB_of (show scrB (cls c).2.1 = ⟨#[67, 111, 109, 109, 111, 110]⟩ by rw [hk]; rfl) (script_any c w1 (by omega) (by omega)))
  clear hk
  clear hT
  go_enter Tryd.func7, Tryd.ntmps7
  go_wp2_with fail
  refine H0.out.mono ?_
  rintro e w1 ⟨rfl, hw1⟩
  go_wp2_with fail
  refine (HC.out _).mono ?_
  rintro e w2 ⟨rfl, hb2⟩
  have hw2 := below_trans hw1 hb2
  go_wp2_with fail
  refine (HO.out _ hw2).mono ?_
  rintro e w3 ⟨v, rfl, hv, hb3⟩
  obtain rfl := ints_none hv
  have hw3 := below_trans hw2 hb3
  clear hv
  go_wp2_with fail
  refine (HS.out _).mono ?_
  rintro e w4 ⟨rfl, hb4⟩
  have hw4 := below_trans hw3 hb4
  clear hb2 hb3 hb4
  go_wp2_with fail
  go_ret
  refine boolB_of ?_ hw4
  simp
  try omega
set_option maxRecDepth 100000 in
set_option maxHeartbeats 4000000 in
theorem ascii_del (c : Int) (w : World) (h1 : 127 ≤ c) (h2 : c ≤ 127) (hT : Tab3 w) : Calls Tryd.prog 7 #[.int .i64 c] w (BoolB true w) := by
  have H0 := Lib.hid (awake_any w hT)
  have HO := Lib.hid (fun w1 (hb : Below w.heap.size w w1) => (others_f_none (c := c) (by omega) (by omega) ▸ others_any c false w1 (by omega) (by omega) (below_tab hb hT) : Calls _ _ _ w1 (IntsB [] w1)))
  have hk := cls_range (a := 127) (n := 1) (k := (1, 1, 0)) (by decide +kernel) (c := c) h1 (by omega)
  have HC := Lib.hid (fun w1 => strB_of (show catB (cls c).1 = ⟨#[67, 99]⟩ by rw [hk]; rfl) (category_any c w1 (by omega) (by omega)))
  have HS := Lib.hid (fun w1 => strB_of (show scrB (cls c).2.1 = ⟨#[67, 111, 109, 109, 111, 110]⟩ by rw [hk]; rfl) (script_any c w1 (by omega) (by omega)))
  clear hk
  clear hT
  go_enter Tryd.func7, Tryd.ntmps7
  go_wp2_with fail
  refine H0.out.mono ?_
  rintro e w1 ⟨rfl, hw1⟩
  go_wp2_with fail
  refine (HC.out _).mono ?_
  rintro e w2 ⟨rfl, hb2⟩
  have hw2 := below_trans hw1 hb2
  go_wp2_with fail
  refine (HO.out _ hw2).mono ?_
  rintro e w3 ⟨v, rfl, hv, hb3⟩
  obtain rfl := ints_none hv
  have hw3 := below_trans hw2 hb3
  clear hv
  go_wp2_with fail
  refine (HS.out _).mono ?_
  rintro e w4 ⟨rfl, hb4⟩
  have hw4 := below_trans hw3 hb4
  clear hb2 hb3 hb4
  go_wp2_with fail
  go_ret
  refine boolB_of ?_ hw4
  simp
  try omega
set_option maxRecDepth 100000 in
set_option maxHeartbeats 4000000 in
theorem ascii_p0 (c : Int) (w : World) (h1 : 33 ≤ c) (h2 : c ≤ 47) (hT : Tab3 w) : Calls Tryd.prog 7 #[.int .i64 c] w (BoolB true w) := by
  have H0 := Lib.hid (awake_any w hT)
  have HO := Lib.hid (fun w1 (hb : Below w.heap.size w w1) => (others_f_none (c := c) (by omega) (by omega) ▸ others_any c false w1 (by omega) (by omega) (below_tab hb hT) : Calls _ _ _ w1 (IntsB [] w1)))
  obtain ⟨p1, p2, p3, p4, p5, p6⟩ := range_all (a := 33) (n := 15) (P := Punct) (by decide +kernel) (c := c) h1 (by omega)
  have HC := Lib.hid (fun w1 => category_any c w1 (by omega) (by omega))
  have HS := Lib.hid (fun w1 => strB_of (show scrB (cls c).2.1 = ⟨#[67, 111, 109, 109, 111, 110]⟩ by rw [p6]; rfl) (script_any c w1 (by omega) (by omega)))
  generalize catB (cls c).1 = cs at *
  clear p6
  clear hT
  go_enter Tryd.func7, Tryd.ntmps7
  go_wp2_with fail
  refine H0.out.mono ?_
  rintro e w1 ⟨rfl, hw1⟩
  go_wp2_with fail
  refine (HC.out _).mono ?_
  rintro e w2 ⟨rfl, hb2⟩
  have hw2 := below_trans hw1 hb2
  go_wp2_with fail
  refine (HO.out _ hw2).mono ?_
  rintro e w3 ⟨v, rfl, hv, hb3⟩
  obtain rfl := ints_none hv
  have hw3 := below_trans hw2 hb3
  clear hv
  go_wp2_with fail
  refine (HS.out _).mono ?_
  rintro e w4 ⟨rfl, hb4⟩
  have hw4 := below_trans hw3 hb4
  clear hb2 hb3 hb4
  go_wp2_with fail
  go_ret
  refine boolB_of ?_ hw4
  simp
  try omega
set_option maxRecDepth 100000 in
set_option maxHeartbeats 4000000 in
theorem ascii_p1 (c : Int) (w : World) (h1 : 58 ≤ c) (h2 : c ≤ 64) (hT : Tab3 w) : Calls Tryd.prog 7 #[.int .i64 c] w (BoolB true w) := by
  have H0 := Lib.hid (awake_any w hT)
  have HO := Lib.hid (fun w1 (hb : Below w.heap.size w w1) => (others_f_none (c := c) (by omega) (by omega) ▸ others_any c false w1 (by omega) (by omega) (below_tab hb hT) : Calls _ _ _ w1 (IntsB [] w1)))
  obtain ⟨p1, p2, p3, p4, p5, p6⟩ := range_all (a := 58) (n := 7) (P := Punct) (by decide +kernel) (c := c) h1 (by omega)
  have HC := Lib.hid (fun w1 => category_any c w1 (by omega) (by omega))
  have HS := Lib.hid (fun w1 => strB_of (show scrB (cls c).2.1 = ⟨#[67, 111, 109, 109, 111, 110]⟩ by rw [p6]; rfl) (script_any c w1 (by omega) (by omega)))
  generalize catB (cls c).1 = cs at *
  clear p6
  clear hT
  go_enter Tryd.func7, Tryd.ntmps7
  go_wp2_with fail
  refine H0.out.mono ?_
  rintro e w1 ⟨rfl, hw1⟩
  go_wp2_with fail
  refine (HC.out _).mono ?_
  rintro e w2 ⟨rfl, hb2⟩
  have hw2 := below_trans hw1 hb2
  go_wp2_with fail
  refine (HO.out _ hw2).mono ?_
  rintro e w3 ⟨v, rfl, hv, hb3⟩
  obtain rfl := ints_none hv
  have hw3 := below_trans hw2 hb3
  clear hv
  go_wp2_with fail
  refine (HS.out _).mono ?_
  rintro e w4 ⟨rfl, hb4⟩
  have hw4 := below_trans hw3 hb4
  clear hb2 hb3 hb4
  go_wp2_with fail
  go_ret
  refine boolB_of ?_ hw4
  simp
  try omega
set_option maxRecDepth 100000 in
set_option maxHeartbeats 4000000 in
theorem ascii_p2 (c : Int) (w : World) (h1 : 91 ≤ c) (h2 : c ≤ 96) (hT : Tab3 w) : Calls Tryd.prog 7 #[.int .i64 c] w (BoolB true w) := by
  have H0 := Lib.hid (awake_any w hT)
  have HO := Lib.hid (fun w1 (hb : Below w.heap.size w w1) => (others_f_none (c := c) (by omega) (by omega) ▸ others_any c false w1 (by omega) (by omega) (below_tab hb hT) : Calls _ _ _ w1 (IntsB [] w1)))
  obtain ⟨p1, p2, p3, p4, p5, p6⟩ := range_all (a := 91) (n := 6) (P := Punct) (by decide +kernel) (c := c) h1 (by omega)
  have HC := Lib.hid (fun w1 => category_any c w1 (by omega) (by omega))
  have HS := Lib.hid (fun w1 => strB_of (show scrB (cls c).2.1 = ⟨#[67, 111, 109, 109, 111, 110]⟩ by rw [p6]; rfl) (script_any c w1 (by omega) (by omega)))
  generalize catB (cls c).1 = cs at *
  clear p6
  clear hT
  go_enter Tryd.func7, Tryd.ntmps7
  go_wp2_with fail
  refine H0.out.mono ?_
  rintro e w1 ⟨rfl, hw1⟩
  go_wp2_with fail
  refine (HC.out _).mono ?_
  rintro e w2 ⟨rfl, hb2⟩
  have hw2 := below_trans hw1 hb2
  go_wp2_with fail
  refine (HO.out _ hw2).mono ?_
  rintro e w3 ⟨v, rfl, hv, hb3⟩
  obtain rfl := ints_none hv
  have hw3 := below_trans hw2 hb3
  clear hv
  go_wp2_with fail
  refine (HS.out _).mono ?_
  rintro e w4 ⟨rfl, hb4⟩
  have hw4 := below_trans hw3 hb4
  clear hb2 hb3 hb4
  go_wp2_with fail
  go_ret
  refine boolB_of ?_ hw4
  simp
  try omega
set_option maxRecDepth 100000 in
set_option maxHeartbeats 4000000 in
theorem ascii_p3 (c : Int) (w : World) (h1 : 123 ≤ c) (h2 : c ≤ 126) (hT : Tab3 w) : Calls Tryd.prog 7 #[.int .i64 c] w (BoolB true w) := by
  have H0 := Lib.hid (awake_any w hT)
  have HO := Lib.hid (fun w1 (hb : Below w.heap.size w w1) => (others_f_none (c := c) (by omega) (by omega) ▸ others_any c false w1 (by omega) (by omega) (below_tab hb hT) : Calls _ _ _ w1 (IntsB [] w1)))
  obtain ⟨p1, p2, p3, p4, p5, p6⟩ := range_all (a := 123) (n := 4) (P := Punct) (by decide +kernel) (c := c) h1 (by omega)
  have HC := Lib.hid (fun w1 => category_any c w1 (by omega) (by omega))
  have HS := Lib.hid (fun w1 => strB_of (show scrB (cls c).2.1 = ⟨#[67, 111, 109, 109, 111, 110]⟩ by rw [p6]; rfl) (script_any c w1 (by omega) (by omega)))
  generalize catB (cls c).1 = cs at *
  clear p6
  clear hT
  go_enter Tryd.func7, Tryd.ntmps7
  go_wp2_with fail
  refine H0.out.mono ?_
  rintro e w1 ⟨rfl, hw1⟩
  go_wp2_with fail
  refine (HC.out _).mono ?_
  rintro e w2 ⟨rfl, hb2⟩
  have hw2 := below_trans hw1 hb2
  go_wp2_with fail
  refine (HO.out _ hw2).mono ?_
  rintro e w3 ⟨v, rfl, hv, hb3⟩
  obtain rfl := ints_none hv
  have hw3 := below_trans hw2 hb3
  clear hv
  go_wp2_with fail
  refine (HS.out _).mono ?_
  rintro e w4 ⟨rfl, hb4⟩
  have hw4 := below_trans hw3 hb4
  clear hb2 hb3 hb4
  go_wp2_with fail
  go_ret
  refine boolB_of ?_ hw4
  simp
  try omega

set_option maxHeartbeats 1000000 in
theorem ascii_out (c : Int) (w : World) (h : c < 0 ∨ 127 < c) (hT : Tab3 w) : Calls Tryd.prog 7 #[.int .i64 c] w (BoolB true w) := by
  have H0 := Lib.hid (awake_any w hT)
  clear hT
  rcases h with h | h
  all_goals
    go_enter Tryd.func7, Tryd.ntmps7
    go_wp2_with fail
    refine H0.out.mono ?_
    rintro e w1 ⟨rfl, hw1⟩
    go_wp2_with fail
    go_ret
    exact ⟨rfl, hw1⟩
theorem ascii_law (c : Int) (w : World) (hT : Tab3 w) : Calls Tryd.prog 7 #[.int .i64 c] w (BoolB true w) := by
  have h : (c < 0 ∨ 127 < c) ∨ (0 ≤ c ∧ c ≤ 31) ∨ (32 ≤ c ∧ c ≤ 32) ∨ (33 ≤ c ∧ c ≤ 47) ∨ (48 ≤ c ∧ c ≤ 57) ∨ (58 ≤ c ∧ c ≤ 64) ∨ (65 ≤ c ∧ c ≤ 90) ∨ (91 ≤ c ∧ c ≤ 96) ∨ (97 ≤ c ∧ c ≤ 122) ∨ (123 ≤ c ∧ c ≤ 126) ∨ (127 ≤ c ∧ c ≤ 127) := by omega
  rcases h with h | ⟨a, b⟩ | ⟨a, b⟩ | ⟨a, b⟩ | ⟨a, b⟩ | ⟨a, b⟩ | ⟨a, b⟩ | ⟨a, b⟩ | ⟨a, b⟩ | ⟨a, b⟩ | ⟨a, b⟩
  · exact ascii_out c w h hT
  · exact ascii_ctrl c w a b hT
  · exact ascii_blank c w a b hT
  · exact ascii_p0 c w a b hT
  · exact ascii_digit c w a b hT
  · exact ascii_p1 c w a b hT
  · exact ascii_great c w a b hT
  · exact ascii_p2 c w a b hT
  · exact ascii_small c w a b hT
  · exact ascii_p3 c w a b hT
  · exact ascii_del c w a b hT
end Go.Proofs.YtnmppacgjjkpcaaDoor.ucdw
