/- Texts that TokensQuoteLaw leans on, merged: what the functions of the program answer. -/
import Derived.Test.YtkcmjcgjfjfimaaGreatDoorBQu24
section
namespace Go.Proofs.YtkcmjcgjfjfimaaGreatDoor.tkw
open Go.Sort Go Go.RowKit Go.Maps utfp utfw ucdp setp setw prp tkp
theorem strOf_size (n : Nat) (g : Nat → Int) : (strOf n g).size = n := by
 unfold strOf
 show (strOfNums _).data.size = _
 simp [strOfNums]
theorem sg_strOf {n : Nat} {g : Nat → Int} (hg : ∀ i, 0 ≤ g i ∧ g i ≤ 255) {i : Nat} (hi : i < n) : sg (strOf n g) i = g i := by
 have h := hg i
 have e : (strOf n g).data.toList[i]? = some (UInt8.ofNat (g i).toNat) := by
   unfold strOf
   simp [strOfNums, hi]
 unfold sg
 rw [List.getD, e, Option.getD_some]
 have : (UInt8.ofNat (g i).toNat).toNat = (g i).toNat % 256 := by simp
 rw [this]
 omega
theorem sg_left {A B : ByteArray} {i : Nat} (h : i < A.size) : sg (A ++ B) i = sg A i := by
 have h2 : i < A.data.toList.length := by rw [Array.length_toList]; exact h
 unfold sg
 rw [ByteArray.data_append, Array.toList_append, List.getD, List.getD, List.getElem?_append_left h2]
theorem sg_right {A B : ByteArray} {i j : Nat} (h : i = A.size + j) : sg (A ++ B) i = sg B j := by
 subst h
 have h2 : A.data.toList.length = A.size := Array.length_toList
 unfold sg
 rw [ByteArray.data_append, Array.toList_append, List.getD, List.getD, List.getElem?_append_right (by omega), h2, Nat.add_sub_cancel_left]
theorem idx_str {P : ByteArray} {i : Nat} (hi : i < P.size) : ((P[i]'hi).toNat : Int) = sg P i := by
 have h2 : i < P.data.toList.length := by rw [Array.length_toList]; exact hi
 unfold sg
 rw [show P.data.toList.getD i 0 = P.data.toList[i] by rw [List.getD, List.getElem?_eq_getElem h2]; rfl, Array.getElem_toList]
 rfl
theorem sl_opn {w : World} {v : Value} {n : Nat} {g : Nat → Int} (h : Sl w v n g) : ∃ a cap, v = .slice a n cap ∧ (n = 0 ∨ ∃ b off, a = some ⟨b, off, none⟩ ∧ ∀ i, i < n → w.cell? ⟨b, off + i, none⟩ = some (.int .u8 (g i))) := by
 obtain ⟨_, _, ⟨rfl, a, cap, rfl, _⟩ | ⟨b, off, cap, rfl, _, hc⟩⟩ := h
 · exact ⟨a, cap, rfl, Or.inl rfl⟩
 · exact ⟨_, cap, rfl, Or.inr ⟨b, off, rfl, hc⟩⟩
structure QuP (P : ByteArray) (n e : Nat) (g : Nat → Int) : Prop where
 le : P.size ≤ 1000
 two : 2 + n ≤ P.size
 c0 : sg P 0 = 92
 c1 : sg P 1 = 81
 at_ : ∀ i, i < n → sg P (2 + i) = g i
 he : 2 + n = P.size ∨ (sg P (2 + n) = 92 ∧ sg P (2 + n + 1) = 69 ∧ 2 + n + 2 = P.size)
theorem qu_open {n : Nat} {g : Nat → Int} (hg : ∀ i, 0 ≤ g i ∧ g i ≤ 255) (hn : n ≤ 996) : QuP ((⟨#[92, 81]⟩ : ByteArray) ++ strOf n g) n 0 g := by
 have hz : ((⟨#[92, 81]⟩ : ByteArray) ++ strOf n g).size = 2 + n := by rw [ByteArray.size_append, strOf_size]; rfl
 have h2 : (⟨#[92, 81]⟩ : ByteArray).size = 2 := rfl
 exact ⟨by omega, by omega, by rw [sg_left (by omega)]; rfl, by rw [sg_left (by omega)]; rfl, fun i hi => by rw [sg_right (j := i) (by omega), sg_strOf hg hi], Or.inl (by omega)⟩
theorem qu_shut {n : Nat} {g : Nat → Int} (hg : ∀ i, 0 ≤ g i ∧ g i ≤ 255) (hn : n ≤ 996) : QuP (((⟨#[92, 81]⟩ : ByteArray) ++ strOf n g) ++ ⟨#[92, 69]⟩) n 0 g := by
 have q := qu_open hg hn
 have hz : ((⟨#[92, 81]⟩ : ByteArray) ++ strOf n g).size = 2 + n := by rw [ByteArray.size_append, strOf_size]; rfl
 have h2 : (⟨#[92, 69]⟩ : ByteArray).size = 2 := rfl
 generalize (⟨#[92, 81]⟩ : ByteArray) ++ strOf n g = Q at *
 have hz2 : (Q ++ ⟨#[92, 69]⟩).size = 2 + n + 2 := by rw [ByteArray.size_append]; omega
 exact ⟨by omega, by omega, by rw [sg_left (by omega)]; exact q.c0, by rw [sg_left (by omega)]; exact q.c1, fun i hi => by rw [sg_left (by omega)]; exact q.at_ i hi,
   Or.inr ⟨by rw [sg_right (j := 0) (by omega)]; rfl, by rw [sg_right (j := 1) (by omega)]; rfl, by omega⟩⟩
theorem qu_lex {P : ByteArray} {n : Nat} {g : Nat → Int} {O : Int} (h0 : 0 ≤ O) (h1 : O ≤ 65535) (q : QuP P n 0 g) (hno : ∀ j, j + 1 < n → ¬ (g j = 92 ∧ g (j + 1) = 69)) (hl : ∀ j, j + 1 = n → g j ≠ 92) :
   (∃ T, lexP (sg P) P.size O = .ok T ∧ Chain (ptOf (sg P) P.size O) 2 T (2 + n) ∧ Rise 0 T P.size) ∨ (∃ x, lexP (sg P) P.size O = .error (13, x) ∧ 2 ≤ x ∧ x ≤ 1000 ∧ O.toNat.testBit 5 = true) := by
 have hb := lex_bounds (n := P.size) (o := O) (sg_bd P)
 have h2 := q.two
 have h3 := q.le
 rcases lex_quote (sg_bd P) h0 h1 q.le (by omega) q.c0 q.c1 (e := 2 + n) (by omega) q.he (fun i i1 i2 => by
     obtain ⟨j, rfl⟩ : ∃ j, i = 2 + j := ⟨i - 2, by omega⟩
     rw [q.at_ j (by omega)]
     rintro ⟨e1, e2, e3⟩
     by_cases hj : j + 1 < n
     · rw [show 2 + j + 1 = 2 + (j + 1) by omega, q.at_ (j + 1) hj] at e2
       exact hno j hj ⟨e1, e2⟩
     · exact hl j (by omega) e1) with ⟨T, hT, hc⟩ | ⟨x, hx, hx2, hu⟩
 · exact Or.inl ⟨T, hT, hc, hb.2 T hT⟩
 · have := (hb.1 _ hx).2.2.2
   exact Or.inr ⟨x, hx, hx2, by simp only at this; omega, hu⟩
set_option maxRecDepth 100000 in
set_option maxHeartbeats 8000000 in
theorem quote_main (v : Value) (n : Nat) (g : Nat → Int) (x : Int) (op : Bool) (w : World) (x0 : -9223372036854775808 ≤ x) (x1 : x ≤ 9223372036854775807) (hv : Sl w v n g) (hG : Glo w) : Calls Tryz.prog 3 #[v, .int .i64 x, .bool op] w (BoolB true w) := by
 have HA := Lib.hid (awake_any w hG)
 have HGl := Lib.hid (fun w1 (hb : Below w.heap.size w w1) => glo_below hG hb)
 have HSl := Lib.hid (fun w1 (hb : Below w.heap.size w w1) => below_sl hb hv)
 have hg := hv.1
 have HGb := Lib.hid hg
 obtain ⟨a, cap, rfl, hcell⟩ := sl_opn hv
 have HV := Lib.hid hcell
 have hnn : (n : Int) ≤ 140737488355328 := by have := hv.2.1; omega
 obtain ⟨O, hO⟩ : ∃ O, O = (if x < 0 then (-(x + 1)).tmod 65536 else x.tmod 65536) := ⟨_, rfl⟩
 have hO0 : 0 ≤ O ∧ O ≤ 65535 := by
   rw [hO]
   split
   · rw [Int.tmod_eq_emod_of_nonneg (by omega)]; omega
   · rw [Int.tmod_eq_emod_of_nonneg (by omega)]; omega
 obtain ⟨o0, o1⟩ := hO0
 have HO0 := Lib.hid o0
 have HO1 := Lib.hid o1
 have hcs : (x < 0 ∧ (-(x + 1)).tmod 65536 = O) ∨ (0 ≤ x ∧ x.tmod 65536 = O) := by
   by_cases h : x < 0
   · exact Or.inl ⟨h, by rw [hO, if_pos h]⟩
   · exact Or.inr ⟨by omega, by rw [hO, if_neg h]⟩
 clear hv hG hcell hg hO
 by_cases hbig : 996 < n
 · have hbigI : (996 : Int) < (n : Int) := by omega
   rcases hcs with ⟨hx, ho⟩ | ⟨hx, ho⟩
   all_goals
     go_enter Tryz.func3, Tryz.ntmps3
     go_wp2_with fail
     refine HA.out.mono ?_
     rintro e w1 ⟨rfl, hb1⟩
     go_wp2_with fail
     go_ret
     exact ⟨rfl, hb1⟩
 have hbigI : ¬ (996 : Int) < (n : Int) := by omega
 have hsmall : n ≤ 996 := by omega
 rcases hcs with ⟨hx, ho⟩ | ⟨hx, ho⟩
 all_goals
   go_enter Tryz.func3, Tryz.ntmps3
   go_wp2_with fail
   refine HA.out.mono ?_
   rintro e w1 ⟨rfl, hb1⟩
   go_wp2_with fail
   clear hx ho x0 x1
   go_loopw [8] (fun iv wr => ∃ i : Nat, iv = .int .i64 i ∧ i ≤ n ∧ Hid (∀ j, j < i → j + 1 < n → ¬ (g j = 92 ∧ g (j + 1) = 69)) ∧ Below w.heap.size w wr) (fun iv _ => n - (intOf iv).toNat)
   case atStart => exact ⟨0, rfl, Nat.zero_le _, Lib.hid (fun j hj => by omega), hb1⟩
   case round =>
     obtain ⟨i, rfl, hi, HN, hb⟩ := hrel
     by_cases hlt : i + 1 < n
     · rcases HV.out with h0 | ⟨b, off, rfl, hbyte⟩
       · omega
       have d4 : wr.cell? ⟨b, off + i, none⟩ = some (.int .u8 (g i)) := below_cell hb (hbyte i (by omega))
       have d5 : wr.cell? ⟨b, off + (i + 1), none⟩ = some (.int .u8 (g (i + 1))) := below_cell hb (hbyte (i + 1) hlt)
       have hltI : (i : Int) + 1 < (n : Int) := by omega
       have HS := Lib.hid (show ¬ (g i = 92 ∧ g (i + 1) = 69) → ∀ j, j < i + 1 → j + 1 < n → ¬ (g j = 92 ∧ g (j + 1) = 69) from fun h j hj h2 => by
         by_cases e : j = i
         · subst e; exact h
         · exact HN.out j (by omega) h2)
       obtain ⟨y0, y1⟩ := HGb.out i
       obtain ⟨z0, z1⟩ := HGb.out (i + 1)
       clear HN hbyte
       generalize g i = y at d4 y0 y1 HS
       generalize g (i + 1) = z at d5 z0 z1 HS
       by_cases hy : y = 92
       · have b1 : (y == 92) = true := by simp [hy]
         by_cases hz : z = 69
         · have b2 : (z == 69) = true := by simp [hz]
           clear hy hz HS
           go_wp2_with fail
           go_ret
           exact ⟨rfl, hb⟩
         · have b2 : (z == 69) = false := by simp [hz]
           have HS2 := Lib.hid (HS.out (fun h => hz h.2))
           clear hy hz HS
           go_wp2_with fail
           go_roundw
           case rel => exact ⟨i + 1, by go_num, by omega, HS2, hb⟩
           case measure => simp [intOf]; omega
       · have b1 : (y == 92) = false := by simp [hy]
         have HS2 := Lib.hid (HS.out (fun h => hy h.1))
         clear hy HS
         go_wp2_with fail
         go_roundw
         case rel => exact ⟨i + 1, by go_num, by omega, HS2, hb⟩
         case measure => simp [intOf]; omega
     · have hltI : ¬ (i : Int) + 1 < (n : Int) := by omega
       have HN2 := Lib.hid (show ∀ j, j + 1 < n → ¬ (g j = 92 ∧ g (j + 1) = 69) from fun j hj => HN.out j (by omega) hj)
       clear HN
       by_cases hlast : ∃ m, m + 1 = n ∧ g m = 92
       · obtain ⟨m, hm, hgm⟩ := hlast
         rcases HV.out with h0 | ⟨b, off, rfl, hbyte⟩
         · omega
         have d4 : wr.cell? ⟨b, off + m, none⟩ = some (.int .u8 (g m)) := below_cell hb (hbyte m (by omega))
         have hnm : (n : Int) - 1 = (m : Int) := by omega
         have hn0 : (0 : Int) < (n : Int) := by omega
         have hmn : (m : Int) < (n : Int) := by omega
         rw [hgm] at d4
         clear hbyte hgm HN2 hm
         go_wp2_with fail
         go_ret
         exact ⟨rfl, hb⟩
       · have HLa := Lib.hid (show ∀ j, j + 1 = n → g j ≠ 92 from fun j hj h => hlast ⟨j, hj, h⟩)
         clear hlast
         have hcv := conv_sl (HSl.out wr hb)
         have hs : (strOf n g).size = n := strOf_size n g
         have s1 : (strOf n g).size ≤ 1000 := by omega
         have s2 : ByteArray.size ⟨#[92, 81]⟩ ≤ 1000 := by decide
         have s3 : ByteArray.size ⟨#[92, 69]⟩ ≤ 1000 := by decide
         have HQ1 := Lib.hid (qu_open HGb.out hsmall)
         have HQ2 := Lib.hid (qu_shut HGb.out hsmall)
         have s4 : ByteArray.size ((⟨#[92, 81]⟩ : ByteArray) ++ strOf n g) ≤ 1000 := HQ1.out.le
         have s5 : ByteArray.size (((⟨#[92, 81]⟩ : ByteArray) ++ strOf n g) ++ ⟨#[92, 69]⟩) ≤ 1000 := HQ2.out.le
         have hlastB : n = 0 ∨ ∃ m, m + 1 = n := by
           rcases n with _ | m
           · exact Or.inl rfl
           · exact Or.inr ⟨m, rfl⟩
         have HSS := Lib.hid hs
         clear hs
         generalize hS : strOf n g = S at *
         clear hS
         rcases hlastB with hn0 | ⟨m, hm⟩
         all_goals
           first
           | (have hn1 : ¬ (0 : Int) < (n : Int) := (by omega)
              clear hn0)
           | (rcases HV.out with h0 | ⟨b, off, rfl, hbyte⟩
              · omega
              have d4 : wr.cell? ⟨b, off + m, none⟩ = some (.int .u8 (g m)) := below_cell hb (hbyte m (by omega))
              have hnm : (n : Int) - 1 = (m : Int) := (by omega)
              have hn0 : (0 : Int) < (n : Int) := (by omega)
              have hmn : (m : Int) < (n : Int) := (by omega)
              have hb92 : (g m == 92) = false := (by have := HLa.out m hm; simp [this])
              obtain ⟨y0, y1⟩ := HGb.out m
              clear hbyte hm)
           cases op with
           | false =>
             go_upto_region 19 with (fail)
             generalize hP : ((⟨#[92, 81]⟩ : ByteArray) ++ S) ++ ⟨#[92, 69]⟩ = P at *
             have HQ := HQ2
             clear hP HQ1 HQ2
             have hfin := qu_lex HO0.out HO1.out HQ.out HN2.out HLa.out
             obtain ⟨hcv2, hsl2⟩ := conv_bs wr P s5
             have HLx := Lib.hid (lex_any _ P.size (sg P) O _ hsl2 (HGl.out _ (below_trans hb (below_bw wr P))))
             have HBx := Lib.hid (below_trans hb (below_bw wr P))
             have hbit := opt_bit O HO0.out HO1.out 5 (by decide)
             rw [show (((2 ^ 5 : Nat) : Int)) = 32 by decide] at hbit
             clear hsl2 hcv
             rcases hfin with ⟨T, hT, hch, hri⟩ | ⟨y, hy, y2, y3, hu⟩
             · rw [hT] at HLx
               have HCh := Lib.hid hch
               have HRi := Lib.hid hri
               have hbe : (bits .and .i64 O 32 == 0) = !O.toNat.testBit 5 := by
                 rw [← hbit]
                 simp [bne]
               clear hT hch hri hbit
               go_wp2_with fail
               refine HLx.out.mono ?_
               rintro e w2 ⟨hb2, v2, rfl, hr⟩
               obtain ⟨va, vc, rfl, hc1, hc2, hcell⟩ := tok_cells hr
               have HC := Lib.hid hcell
               have HB := Lib.hid (below_trans HBx.out hb2)
               clear hr hcell HLx
               go_wp2_with fail
               go_loopw [13, 14] (fun wv iv wr2 => ∃ (q k : Nat), wv = .int .i64 q ∧ iv = .int .i64 k ∧ k ≤ T.length ∧ Hid (Chain (ptOf (sg P) P.size O) q (T.drop k) (2 + n)) ∧ Hid (∃ a0, Rise a0 (T.drop k) P.size) ∧ Below w2.heap.size w2 wr2) (fun _ iv _ => T.length - (intOf iv).toNat)
               case atStart => exact ⟨2, 0, rfl, rfl, Nat.zero_le _, Lib.hid (by rw [List.drop_zero]; exact HCh.out), Lib.hid ⟨0, by rw [List.drop_zero]; exact HRi.out⟩, Below.refl _ _⟩
               case round =>
                 obtain ⟨q, k, rfl, rfl, hk, HK, HR, hbk⟩ := hrel
                 by_cases hend : k = T.length
                 · subst hend
                   have hq : q = 2 + n := by have := HK.out; rw [List.drop_length] at this; exact this
                   have hqi : ((q : Int) == 2 + (n : Int)) = true := by simp; omega
                   clear hq
                   go_wp2_with fail
                   go_ret
                   exact ⟨rfl, below_trans HB.out hbk⟩
                 · have hlt : k < T.length := by omega
                   rcases HC.out with h0 | ⟨gb, rfl, hcell⟩
                   · subst h0; simp at hlt
                   obtain ⟨t, ht⟩ : ∃ t, T[k]? = some t := ⟨_, List.getElem?_eq_getElem hlt⟩
                   obtain ⟨sx, sy, hj⟩ := hcell k t ht
                   have hdrop : T.drop k = t :: T.drop (k + 1) := by
                     rw [List.drop_eq_getElem_cons hlt]
                     congr 1
                     rw [List.getElem?_eq_getElem hlt] at ht
                     exact Option.some.inj ht
                   have hcc := HK.out
                   obtain ⟨a0, hrr⟩ := HR.out
                   rw [hdrop] at hcc hrr
                   obtain ⟨e1, e2, e3, e4⟩ := hcc
                   obtain ⟨p1, p2, _, p5⟩ := hrr
                   have p6 := p5.le
                   rw [e2] at p2
                   have HN1 := Lib.hid e4
                   have HN3 := Lib.hid (show ∃ a0, Rise a0 (T.drop (k + 1)) P.size from ⟨_, p5⟩)
                   have d0 : wr.cell? ⟨gb, k * 12, none⟩ = some (.int .i64 1) := by rw [← e1]; exact below_cell hbk (hj 0 (by decide))
                   have d1 : wr.cell? ⟨gb, k * 12 + 1, none⟩ = some (.int .i64 q) := by rw [← e2]; exact below_cell hbk (hj 1 (by decide))
                   have d2 : wr.cell? ⟨gb, k * 12 + 2, none⟩ = some (.int .i64 t.to) := below_cell hbk (hj 2 (by decide))
                   have d3 : wr.cell? ⟨gb, k * 12 + 3, none⟩ = some (.int .i64 t.c) := below_cell hbk (hj 3 (by decide))
                   have hqP : q < P.size := by omega
                   have hqI : (q : Int) < (P.size : Int) := by omega
                   have hq0 : (0 : Int) ≤ (q : Int) := by omega
                   have hadd := add_row0 gb k 12
                   have hk0 : (0 : Int) ≤ (k : Int) := by omega
                   have hkL : (k : Int) < (T.length : Int) := by omega
                   have f2 : (((q : Nat) : Int) != (q : Int)) = false := by simp
                   have hgb := fun (i : Nat) (hi : i < P.size) => idx_str (P := P) hi
                   have HE3 := Lib.hid e3
                   obtain ⟨z0, z1⟩ := sg_bd P q
                   clear hcell hj ht hdrop p5 HR HK e1 e2 e3 e4 p1 p2 p6
                   cases hub : O.toNat.testBit 5 with
                   | true =>
                     rw [hub] at hbe
                     have k0 := cell_regrown d0
                     have k1 := cell_regrown d1
                     have k2 := cell_regrown d2
                     have k3 := cell_regrown d3
                     go_wp2_with fail
                     refine wp_region_quiet_below (by kernel_rfl) (by kernel_rfl) ?_
                     repeat (go_big_quiet_step (fail))
                     refine wpQuiet_nil ?_
                     intro _ hw'
                     obtain ⟨⟨dq, osq⟩, hw''⟩ := hw'
                     subst hw''
                     have hbq := below_trans hbk (below_regrown wr dq osq)
                     have c2q := k2 dq osq
                     go_wp2_with fail
                     go_roundw
                     case rel => exact ⟨t.to, k + 1, rfl, by go_num, hlt, HN1, HN3, hbq⟩
                     case measure => simp [intOf]; omega
                   | false =>
                     rw [hub] at hbe
                     have hc : t.c = sg P q := HE3.out hub
                     rw [hc] at d3
                     have f3 : (sg P q != sg P q) = false := by simp
                     have k0 := cell_regrown d0
                     have k1 := cell_regrown d1
                     have k2 := cell_regrown d2
                     have k3 := cell_regrown d3
                     clear hc
                     go_wp2_with fail
                     refine wp_region_quiet_below (by kernel_rfl) (by kernel_rfl) ?_
                     repeat (go_big_quiet_step (fail))
                     refine wpQuiet_nil ?_
                     intro _ hw'
                     obtain ⟨⟨dq, osq⟩, hw''⟩ := hw'
                     subst hw''
                     have hbq := below_trans hbk (below_regrown wr dq osq)
                     have c2q := k2 dq osq
                     go_wp2_with fail
                     go_roundw
                     case rel => exact ⟨t.to, k + 1, rfl, by go_num, hlt, HN1, HN3, hbq⟩
                     case measure => simp [intOf]; omega
             · rw [hy] at HLx
               rw [hu] at hbit
               clear hy hu
               go_wp2_with fail
               refine HLx.out.mono ?_
               rintro e w2 ⟨hb2, rfl⟩
               go_wp2_with fail
               go_ret
               exact ⟨rfl, below_trans HBx.out hb2⟩
           | true =>
             go_upto_region 19 with (fail)
             generalize hP : (⟨#[92, 81]⟩ : ByteArray) ++ S = P at *
             have HQ := HQ1
             clear hP HQ1 HQ2
             have hfin := qu_lex HO0.out HO1.out HQ.out HN2.out HLa.out
             obtain ⟨hcv2, hsl2⟩ := conv_bs wr P s4
             have HLx := Lib.hid (lex_any _ P.size (sg P) O _ hsl2 (HGl.out _ (below_trans hb (below_bw wr P))))
             have HBx := Lib.hid (below_trans hb (below_bw wr P))
             have hbit := opt_bit O HO0.out HO1.out 5 (by decide)
             rw [show (((2 ^ 5 : Nat) : Int)) = 32 by decide] at hbit
             clear hsl2 hcv
             rcases hfin with ⟨T, hT, hch, hri⟩ | ⟨y, hy, y2, y3, hu⟩
             · rw [hT] at HLx
               have HCh := Lib.hid hch
               have HRi := Lib.hid hri
               have hbe : (bits .and .i64 O 32 == 0) = !O.toNat.testBit 5 := by
                 rw [← hbit]
                 simp [bne]
               clear hT hch hri hbit
               go_wp2_with fail
               refine HLx.out.mono ?_
               rintro e w2 ⟨hb2, v2, rfl, hr⟩
               obtain ⟨va, vc, rfl, hc1, hc2, hcell⟩ := tok_cells hr
               have HC := Lib.hid hcell
               have HB := Lib.hid (below_trans HBx.out hb2)
               clear hr hcell HLx
               go_wp2_with fail
               go_loopw [13, 14] (fun wv iv wr2 => ∃ (q k : Nat), wv = .int .i64 q ∧ iv = .int .i64 k ∧ k ≤ T.length ∧ Hid (Chain (ptOf (sg P) P.size O) q (T.drop k) (2 + n)) ∧ Hid (∃ a0, Rise a0 (T.drop k) P.size) ∧ Below w2.heap.size w2 wr2) (fun _ iv _ => T.length - (intOf iv).toNat)
               case atStart => exact ⟨2, 0, rfl, rfl, Nat.zero_le _, Lib.hid (by rw [List.drop_zero]; exact HCh.out), Lib.hid ⟨0, by rw [List.drop_zero]; exact HRi.out⟩, Below.refl _ _⟩
               case round =>
                 obtain ⟨q, k, rfl, rfl, hk, HK, HR, hbk⟩ := hrel
                 by_cases hend : k = T.length
                 · subst hend
                   have hq : q = 2 + n := by have := HK.out; rw [List.drop_length] at this; exact this
                   have hqi : ((q : Int) == 2 + (n : Int)) = true := by simp; omega
                   clear hq
                   go_wp2_with fail
                   go_ret
                   exact ⟨rfl, below_trans HB.out hbk⟩
                 · have hlt : k < T.length := by omega
                   rcases HC.out with h0 | ⟨gb, rfl, hcell⟩
                   · subst h0; simp at hlt
                   obtain ⟨t, ht⟩ : ∃ t, T[k]? = some t := ⟨_, List.getElem?_eq_getElem hlt⟩
                   obtain ⟨sx, sy, hj⟩ := hcell k t ht
                   have hdrop : T.drop k = t :: T.drop (k + 1) := by
                     rw [List.drop_eq_getElem_cons hlt]
                     congr 1
                     rw [List.getElem?_eq_getElem hlt] at ht
                     exact Option.some.inj ht
                   have hcc := HK.out
                   obtain ⟨a0, hrr⟩ := HR.out
                   rw [hdrop] at hcc hrr
                   obtain ⟨e1, e2, e3, e4⟩ := hcc
                   obtain ⟨p1, p2, _, p5⟩ := hrr
                   have p6 := p5.le
                   rw [e2] at p2
                   have HN1 := Lib.hid e4
                   have HN3 := Lib.hid (show ∃ a0, Rise a0 (T.drop (k + 1)) P.size from ⟨_, p5⟩)
                   have d0 : wr.cell? ⟨gb, k * 12, none⟩ = some (.int .i64 1) := by rw [← e1]; exact below_cell hbk (hj 0 (by decide))
                   have d1 : wr.cell? ⟨gb, k * 12 + 1, none⟩ = some (.int .i64 q) := by rw [← e2]; exact below_cell hbk (hj 1 (by decide))
                   have d2 : wr.cell? ⟨gb, k * 12 + 2, none⟩ = some (.int .i64 t.to) := below_cell hbk (hj 2 (by decide))
                   have d3 : wr.cell? ⟨gb, k * 12 + 3, none⟩ = some (.int .i64 t.c) := below_cell hbk (hj 3 (by decide))
                   have hqP : q < P.size := by omega
                   have hqI : (q : Int) < (P.size : Int) := by omega
                   have hq0 : (0 : Int) ≤ (q : Int) := by omega
                   have hadd := add_row0 gb k 12
                   have hk0 : (0 : Int) ≤ (k : Int) := by omega
                   have hkL : (k : Int) < (T.length : Int) := by omega
                   have f2 : (((q : Nat) : Int) != (q : Int)) = false := by simp
                   have hgb := fun (i : Nat) (hi : i < P.size) => idx_str (P := P) hi
                   have HE3 := Lib.hid e3
                   obtain ⟨z0, z1⟩ := sg_bd P q
                   clear hcell hj ht hdrop p5 HR HK e1 e2 e3 e4 p1 p2 p6
                   cases hub : O.toNat.testBit 5 with
                   | true =>
                     rw [hub] at hbe
                     have k0 := cell_regrown d0
                     have k1 := cell_regrown d1
                     have k2 := cell_regrown d2
                     have k3 := cell_regrown d3
                     go_wp2_with fail
                     refine wp_region_quiet_below (by kernel_rfl) (by kernel_rfl) ?_
                     repeat (go_big_quiet_step (fail))
                     refine wpQuiet_nil ?_
                     intro _ hw'
                     obtain ⟨⟨dq, osq⟩, hw''⟩ := hw'
                     subst hw''
                     have hbq := below_trans hbk (below_regrown wr dq osq)
                     have c2q := k2 dq osq
                     go_wp2_with fail
                     go_roundw
                     case rel => exact ⟨t.to, k + 1, rfl, by go_num, hlt, HN1, HN3, hbq⟩
                     case measure => simp [intOf]; omega
                   | false =>
                     rw [hub] at hbe
                     have hc : t.c = sg P q := HE3.out hub
                     rw [hc] at d3
                     have f3 : (sg P q != sg P q) = false := by simp
                     have k0 := cell_regrown d0
                     have k1 := cell_regrown d1
                     have k2 := cell_regrown d2
                     have k3 := cell_regrown d3
                     clear hc
                     go_wp2_with fail
                     refine wp_region_quiet_below (by kernel_rfl) (by kernel_rfl) ?_
                     repeat (go_big_quiet_step (fail))
                     refine wpQuiet_nil ?_
                     intro _ hw'
                     obtain ⟨⟨dq, osq⟩, hw''⟩ := hw'
                     subst hw''
                     have hbq := below_trans hbk (below_regrown wr dq osq)
                     have c2q := k2 dq osq
                     go_wp2_with fail
                     go_roundw
                     case rel => exact ⟨t.to, k + 1, rfl, by go_num, hlt, HN1, HN3, hbq⟩
                     case measure => simp [intOf]; omega
             · rw [hy] at HLx
               rw [hu] at hbit
               clear hy hu
               go_wp2_with fail
               refine HLx.out.mono ?_
               rintro e w2 ⟨hb2, rfl⟩
               go_wp2_with fail
               go_ret
               exact ⟨rfl, below_trans HBx.out hb2⟩
theorem quote_law (v : Value) (n : Nat) (g : Nat → Int) (x : Int) (op : Bool) (w : World) (x0 : -9223372036854775808 ≤ x) (x1 : x ≤ 9223372036854775807) (hv : Sl w v n g) (hG : Glo w) : Calls Tryz.prog 3 #[v, .int .i64 x, .bool op] w (BoolB true w) := quote_main v n g x op w x0 x1 hv hG
end Go.Proofs.YtkcmjcgjfjfimaaGreatDoor.tkw
end
