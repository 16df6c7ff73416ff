/- The walks of the laws UcdSays and UcdRows. -/
import Derived.Test.YtnmppacgjjkpcaaDoorUcdR5
namespace Go.Proofs.YtnmppacgjjkpcaaDoor.ucdw
open Go Go.RowKit Go.Proofs.YtnmppacgjjkpcaaDoor.bulk Go.Proofs.YtnmppacgjjkpcaaDoor.ucdp

/-- all that the law says of one number: the five calls and the comparison, as the statement has them -/
structure Four (c : Int) (u : Bool) (w : World) : Prop where
  cat : ∀ w1, Below w.heap.size w w1 → Calls Tryd.prog 10 #[.int .i64 c] w1 (StrB (catB (cls c).1) w1)
  rcat : ∀ w1, Calls Tryd.prog 11 #[.int .i64 c] w1 (StrB (catB (cls c).1) w1)
  scr : ∀ w1, Below w.heap.size w w1 → Calls Tryd.prog 12 #[.int .i64 c] w1 (StrB (scrB (cls c).2.1) w1)
  rscr : ∀ w1, Calls Tryd.prog 13 #[.int .i64 c] w1 (StrB (scrB (cls c).2.1) w1)
  oth : ∀ w1, Below w.heap.size w w1 → Calls Tryd.prog 15 #[.int .i64 c, .bool u] w1 (IntsB (othersP c u) w1)
  roth : ∀ w1, Calls Tryd.prog 16 #[.int .i64 c, .bool u] w1 (IntsB (othersP c u) w1)
  same : ∀ (w1 w2 w3 : World) (v1 v2 : Value), Below w2.heap.size w2 w3 → IntsAt w1.heap.size w2 v1 (othersP c u) → IntsAt w2.heap.size w3 v2 (othersP c u) → Calls Tryd.prog 14 #[v1, v2] w3 (BoolB true w3)
theorem ite_len {p : Prop} [Decidable p] {a b : List Int} (ha : a.length ≤ 2) (hb : b.length ≤ 2) : (if p then a else b).length ≤ 2 := by
  by_cases h : p
  · rw [if_pos h]; exact ha
  · rw [if_neg h]; exact hb
theorem others_len (c : Int) (u : Bool) : (othersP c u).length ≤ 2 := by
  unfold othersP
  repeat' (first | exact Nat.le_of_ble_eq_true rfl | apply ite_len)
theorem four (c : Int) (u : Bool) (w : World) (h1 : -9223372036854775808 ≤ c) (h2 : c ≤ 9223372036854775807) (hT : Tab3 w) : Four c u w where
  cat := fun w1 _ => category_any c w1 h1 h2
  rcat := fun w1 => rcategory_any c w1
  scr := fun w1 _ => script_any c w1 h1 h2
  rscr := fun w1 => rscript_any c w1
  oth := fun w1 hb => others_any c u w1 h1 h2 (below_tab hb hT)
  roth := fun w1 => rothers_any c u w1
  same := fun w1 w2 w3 v1 v2 hb ha hc => same_any v1 v2 _ _ _ w3 (intsAt_below hb ha) hc (by have := others_len c u; omega)

set_option maxHeartbeats 1000000 in
theorem says_law (c : Int) (u : Bool) (w : World) (h1 : -9223372036854775808 ≤ c) (h2 : c ≤ 9223372036854775807) (hT : Tab3 w) : Calls Tryd.prog 3 #[.int .i64 c, .bool u] w (BoolB true w) := by
  have H0 := Lib.hid (awake_any w hT)
  have HF := Lib.hid (four c u w h1 h2 hT)
  clear hT
  go_enter Tryd.func3, Tryd.ntmps3
  go_wp2_with fail
  refine H0.out.mono ?_
  rintro e w1 ⟨rfl, hw1⟩
  go_wp2_with fail
  refine (HF.out.cat _ hw1).mono ?_
  rintro e w2 ⟨rfl, hb2⟩
  have hw2 := below_trans hw1 hb2
  go_wp2_with fail
  refine (HF.out.rcat _).mono ?_
  rintro e w3 ⟨rfl, hb3⟩
  have hw3 := below_trans hw2 hb3
  go_wp2_with fail
  refine (HF.out.scr _ hw3).mono ?_
  rintro e w4 ⟨rfl, hb4⟩
  have hw4 := below_trans hw3 hb4
  go_wp2_with fail
  refine (HF.out.rscr _).mono ?_
  rintro e w5 ⟨rfl, hb5⟩
  have hw5 := below_trans hw4 hb5
  go_wp2_with fail
  refine (HF.out.oth _ hw5).mono ?_
  rintro e w6 ⟨v1, rfl, ha1, hb6⟩
  have HA1 := Lib.hid ha1
  have hw6 := below_trans hw5 hb6
  clear ha1
  go_wp2_with fail
  refine (HF.out.roth _).mono ?_
  rintro e w7 ⟨v2, rfl, ha2, hb7⟩
  have HA2 := Lib.hid ha2
  have hw7 := below_trans hw6 hb7
  clear ha2
  go_wp2_with fail
  refine (HF.out.same _ _ _ _ _ hb7 HA1.out HA2.out).mono ?_
  rintro e w8 ⟨rfl, hb8⟩
  have hw8 := below_trans hw7 hb8
  go_wp2_with fail
  go_ret
  exact ⟨rfl, hw8⟩

theorem rows_bd (k : Nat) (hk : k < 81) : 0 ≤ (rk k).1 ∧ (rk k).1 ≤ 1114111 ∧ 0 ≤ (rk k).2.1 ∧ (rk k).2.1 ≤ 1114111 := by
  have all : ∀ i : Fin 81, 0 ≤ (rk i.val).1 ∧ (rk i.val).1 ≤ 1114111 ∧ 0 ≤ (rk i.val).2.1 ∧ (rk i.val).2.1 ≤ 1114111 := by decide +kernel
  exact all ⟨k, hk⟩

theorem tmod3 (d : Int) : -2 ≤ d.tmod 3 ∧ d.tmod 3 ≤ 2 := by
  by_cases h : 0 ≤ d
  · rw [Int.tmod_eq_emod_of_nonneg h]; omega
  · rw [show d = -(-d) by omega, Int.neg_tmod, Int.tmod_eq_emod_of_nonneg (by omega)]; omega
theorem tmod81 {i : Int} (h : i < 0) : (i + 1).tmod 81 ≤ 0 ∧ -(i + 1).tmod 81 < 81 := by
  rw [show i + 1 = -(-(i + 1)) by omega, Int.neg_tmod, Int.tmod_eq_emod_of_nonneg (by omega)]; omega

set_option maxRecDepth 100000 in
set_option maxHeartbeats 4000000 in
theorem rows_pos (i d : Int) (u : Bool) (w : World) (i1 : -9223372036854775808 ≤ i) (i2 : i ≤ 9223372036854775807) (hi : 0 ≤ i) (hT : Tab3 w) :
    Calls Tryd.prog 4 #[.int .i64 i, .int .i64 d, .bool u] w (BoolB true w) := by
  have H0 := Lib.hid (awake_any w hT)
  have HT := Lib.hid table_any
  have HF := Lib.hid (fun c h1 h2 => four c u w h1 h2 hT)
  obtain ⟨m1, m2⟩ := tmod3 d
  clear hT
  go_enter Tryd.func4, Tryd.ntmps4
  go_wp2_with fail
  refine H0.out.mono ?_
  rintro e w1 ⟨rfl, hw1⟩
  go_wp2_with fail
  refine (HT.out _).mono ?_
  rintro e w2 ⟨v, rfl, ho, hb2⟩
  obtain ⟨g, cap, rfl, hg, hg2, hcap, hcap2, hcell⟩ := ownR_open ho
  have hw2 := below_trans hw1 hb2
  have r0 := hcell (i % 81).toNat 0 (by omega) (by decide)
  have r1 := hcell (i % 81).toNat 1 (by omega) (by decide)
  have r2 := hcell (i % 81).toNat 2 (by omega) (by decide)
  have r3 := hcell (i % 81).toNat 3 (by omega) (by decide)
  have r4 := hcell (i % 81).toNat 4 (by omega) (by decide)
  have bd := rows_bd (i % 81).toNat (by omega)
  obtain ⟨⟨a, b, x, y, z⟩, hr⟩ : ∃ r, rk (i % 81).toNat = r := ⟨_, rfl⟩
  rw [hr] at r0 r1 r2 r3 r4 bd
  simp only [refC, List.getElem?_cons_zero, List.getElem?_cons_succ, Nat.add_zero] at r0 r1 r2 r3 r4 bd
  obtain ⟨a1, a2, b1, b2⟩ := bd
  have HFa := Lib.hid (HF.out (a + d.tmod 3) (by omega) (by omega))
  have HFb := Lib.hid (HF.out (b + d.tmod 3) (by omega) (by omega))
  have hw := below_trans hw2 (below_alloc w2 (.cells #[.int .i64 a, .int .i64 b, .string (catB x), .string (scrB y), .int .i64 z] 31))
  clear hcell ho hg hb2 hr
  go_wp2_with fail
  refine (HFa.out.cat _ hw).mono ?_
  rintro e w11 ⟨rfl, hb11⟩
  have hw11 := below_trans hw hb11
  go_wp2_with fail
  refine (HFa.out.rcat _).mono ?_
  rintro e w12 ⟨rfl, hb12⟩
  have hw12 := below_trans hw11 hb12
  go_wp2_with fail
  refine (HFa.out.scr _ hw12).mono ?_
  rintro e w13 ⟨rfl, hb13⟩
  have hw13 := below_trans hw12 hb13
  go_wp2_with fail
  refine (HFa.out.rscr _).mono ?_
  rintro e w14 ⟨rfl, hb14⟩
  have hw14 := below_trans hw13 hb14
  go_wp2_with fail
  refine (HFa.out.oth _ hw14).mono ?_
  rintro e w15 ⟨v15, rfl, ha15, hb15⟩
  have HA15 := Lib.hid ha15
  have hw15 := below_trans hw14 hb15
  clear ha15
  go_wp2_with fail
  refine (HFa.out.roth _).mono ?_
  rintro e w16 ⟨v16, rfl, ha16, hb16⟩
  have HA16 := Lib.hid ha16
  have hw16 := below_trans hw15 hb16
  clear ha16
  go_wp2_with fail
  refine (HFa.out.same _ _ _ _ _ hb16 HA15.out HA16.out).mono ?_
  rintro e w17 ⟨rfl, hb17⟩
  have hw17 := below_trans hw16 hb17
  clear hb11 hb12 hb13 hb14 hb15 hb16 hb17
  go_wp2_with fail
  refine (HFb.out.cat _ hw17).mono ?_
  rintro e w21 ⟨rfl, hb21⟩
  have hw21 := below_trans hw17 hb21
  go_wp2_with fail
  refine (HFb.out.rcat _).mono ?_
  rintro e w22 ⟨rfl, hb22⟩
  have hw22 := below_trans hw21 hb22
  go_wp2_with fail
  refine (HFb.out.scr _ hw22).mono ?_
  rintro e w23 ⟨rfl, hb23⟩
  have hw23 := below_trans hw22 hb23
  go_wp2_with fail
  refine (HFb.out.rscr _).mono ?_
  rintro e w24 ⟨rfl, hb24⟩
  have hw24 := below_trans hw23 hb24
  go_wp2_with fail
  refine (HFb.out.oth _ hw24).mono ?_
  rintro e w25 ⟨v25, rfl, ha25, hb25⟩
  have HA25 := Lib.hid ha25
  have hw25 := below_trans hw24 hb25
  clear ha25
  go_wp2_with fail
  refine (HFb.out.roth _).mono ?_
  rintro e w26 ⟨v26, rfl, ha26, hb26⟩
  have HA26 := Lib.hid ha26
  have hw26 := below_trans hw25 hb26
  clear ha26
  go_wp2_with fail
  refine (HFb.out.same _ _ _ _ _ hb26 HA25.out HA26.out).mono ?_
  rintro e w27 ⟨rfl, hb27⟩
  have hw27 := below_trans hw26 hb27
  clear hb21 hb22 hb23 hb24 hb25 hb26 hb27
  go_wp2_with fail
  go_ret
  exact ⟨rfl, hw27⟩

set_option maxRecDepth 100000 in
set_option maxHeartbeats 4000000 in
theorem rows_neg (i d : Int) (u : Bool) (w : World) (i1 : -9223372036854775808 ≤ i) (i2 : i ≤ 9223372036854775807) (hi : i < 0) (hT : Tab3 w) :
    Calls Tryd.prog 4 #[.int .i64 i, .int .i64 d, .bool u] w (BoolB true w) := by
  have H0 := Lib.hid (awake_any w hT)
  have HT := Lib.hid table_any
  have HF := Lib.hid (fun c h1 h2 => four c u w h1 h2 hT)
  obtain ⟨m1, m2⟩ := tmod3 d
  obtain ⟨k1, k2⟩ := tmod81 hi
  clear hT
  go_enter Tryd.func4, Tryd.ntmps4
  go_wp2_with fail
  refine H0.out.mono ?_
  rintro e w1 ⟨rfl, hw1⟩
  go_wp2_with fail
  refine (HT.out _).mono ?_
  rintro e w2 ⟨v, rfl, ho, hb2⟩
  obtain ⟨g, cap, rfl, hg, hg2, hcap, hcap2, hcell⟩ := ownR_open ho
  have hw2 := below_trans hw1 hb2
  have r0 := hcell (-(i + 1).tmod 81).toNat 0 (by omega) (by decide)
  have r1 := hcell (-(i + 1).tmod 81).toNat 1 (by omega) (by decide)
  have r2 := hcell (-(i + 1).tmod 81).toNat 2 (by omega) (by decide)
  have r3 := hcell (-(i + 1).tmod 81).toNat 3 (by omega) (by decide)
  have r4 := hcell (-(i + 1).tmod 81).toNat 4 (by omega) (by decide)
  have bd := rows_bd (-(i + 1).tmod 81).toNat (by omega)
  obtain ⟨⟨a, b, x, y, z⟩, hr⟩ : ∃ r, rk (-(i + 1).tmod 81).toNat = r := ⟨_, rfl⟩
  rw [hr] at r0 r1 r2 r3 r4 bd
  simp only [refC, List.getElem?_cons_zero, List.getElem?_cons_succ, Nat.add_zero] at r0 r1 r2 r3 r4 bd
  obtain ⟨a1, a2, b1, b2⟩ := bd
  have HFa := Lib.hid (HF.out (a + d.tmod 3) (by omega) (by omega))
  have HFb := Lib.hid (HF.out (b + d.tmod 3) (by omega) (by omega))
  have hw := below_trans hw2 (below_alloc w2 (.cells #[.int .i64 a, .int .i64 b, .string (catB x), .string (scrB y), .int .i64 z] 31))
  clear hcell ho hg hb2 hr
  go_wp2_with fail
  refine (HFa.out.cat _ hw).mono ?_
  rintro e w11 ⟨rfl, hb11⟩
  have hw11 := below_trans hw hb11
  go_wp2_with fail
  refine (HFa.out.rcat _).mono ?_
  rintro e w12 ⟨rfl, hb12⟩
  have hw12 := below_trans hw11 hb12
  go_wp2_with fail
  refine (HFa.out.scr _ hw12).mono ?_
  rintro e w13 ⟨rfl, hb13⟩
  have hw13 := below_trans hw12 hb13
  go_wp2_with fail
  refine (HFa.out.rscr _).mono ?_
  rintro e w14 ⟨rfl, hb14⟩
  have hw14 := below_trans hw13 hb14
  go_wp2_with fail
  refine (HFa.out.oth _ hw14).mono ?_
  rintro e w15 ⟨v15, rfl, ha15, hb15⟩
  have HA15 := Lib.hid ha15
  have hw15 := below_trans hw14 hb15
  clear ha15
  go_wp2_with fail
  refine (HFa.out.roth _).mono ?_
  rintro e w16 ⟨v16, rfl, ha16, hb16⟩
  have HA16 := Lib.hid ha16
  have hw16 := below_trans hw15 hb16
  clear ha16
  go_wp2_with fail
  refine (HFa.out.same _ _ _ _ _ hb16 HA15.out HA16.out).mono ?_
  rintro e w17 ⟨rfl, hb17⟩
  have hw17 := below_trans hw16 hb17
  clear hb11 hb12 hb13 hb14 hb15 hb16 hb17
  go_wp2_with fail
  refine (HFb.out.cat _ hw17).mono ?_
  rintro e w21 ⟨rfl, hb21⟩
  have hw21 := below_trans hw17 hb21
  go_wp2_with fail
  refine (HFb.out.rcat _).mono ?_
  rintro e w22 ⟨rfl, hb22⟩
  have hw22 := below_trans hw21 hb22
  go_wp2_with fail
  refine (HFb.out.scr _ hw22).mono ?_
  rintro e w23 ⟨rfl, hb23⟩
  have hw23 := below_trans hw22 hb23
  go_wp2_with fail
  refine (HFb.out.rscr _).mono ?_
  rintro e w24 ⟨rfl, hb24⟩
  have hw24 := below_trans hw23 hb24
  go_wp2_with fail
  refine (HFb.out.oth _ hw24).mono ?_
  rintro e w25 ⟨v25, rfl, ha25, hb25⟩
  have HA25 := Lib.hid ha25
  have hw25 := below_trans hw24 hb25
  clear ha25
  go_wp2_with fail
  refine (HFb.out.roth _).mono ?_
  rintro e w26 ⟨v26, rfl, ha26, hb26⟩
  have HA26 := Lib.hid ha26
  have hw26 := below_trans hw25 hb26
  clear ha26
  go_wp2_with fail
  refine (HFb.out.same _ _ _ _ _ hb26 HA25.out HA26.out).mono ?_
  rintro e w27 ⟨rfl, hb27⟩
  have hw27 := below_trans hw26 hb27
  clear hb21 hb22 hb23 hb24 hb25 hb26 hb27
  go_wp2_with fail
  go_ret
  exact ⟨rfl, hw27⟩

theorem rows_law (i d : Int) (u : Bool) (w : World) (i1 : -9223372036854775808 ≤ i) (i2 : i ≤ 9223372036854775807) (hT : Tab3 w) :
    Calls Tryd.prog 4 #[.int .i64 i, .int .i64 d, .bool u] w (BoolB true w) := by
  by_cases h : 0 ≤ i
  · exact rows_pos i d u w i1 i2 h hT
  · exact rows_neg i d u w i1 i2 (by omega) hT
end Go.Proofs.YtnmppacgjjkpcaaDoor.ucdw
