/- Texts that TokensBoundsLaw leans on, merged: what the functions of the program answer. -/
import Derived.BigQuiet
import Derived.Lib.QuietBelow
import Derived.Test.YtgbnaolgmmnhhaaGreatDoorBBounds02
section
namespace Go.Proofs.YtgbnaolgmmnhhaaGreatDoor.tkw
open Go.Sort Go Go.RowKit Go.Maps utfp utfw ucdp setp setw prp tkp
theorem sl_new1 (w : World) (c : Int) (hc : 0 ≤ c ∧ c ≤ 255) (t : TypeId) : Sl (w.alloc (.cells #[.int .u8 c] t)) (.slice (some ⟨w.heap.size, 0, none⟩) 1 1) 1 (fun _ => c) := by
 refine ⟨fun _ => hc, by omega, Or.inr ⟨w.heap.size, 0, 1, rfl, ⟨by omega, by omega⟩, fun i hi => ?_⟩⟩
 obtain rfl : i = 0 := by omega
 exact (cell_of_row _ _ _ _ _ _ (heap_alloc_new w (.cells #[.int .u8 c] t))).trans rfl
theorem sl_new2 (w : World) (c d : Int) (hc : 0 ≤ c ∧ c ≤ 255) (hd : 0 ≤ d ∧ d ≤ 255) (t : TypeId) : Sl (w.alloc (.cells #[.int .u8 c, .int .u8 d] t)) (.slice (some ⟨w.heap.size, 0, none⟩) 2 2) 2 (at_ [c, d]) := by
 refine ⟨at_bytes (fun x hx => by simp at hx; rcases hx with rfl | rfl <;> assumption), by omega, Or.inr ⟨w.heap.size, 0, 2, rfl, ⟨by omega, by omega⟩, fun i hi => ?_⟩⟩
 have h := heap_alloc_new w (.cells #[.int .u8 c, .int .u8 d] t)
 have hi2 : i = 0 ∨ i = 1 := by omega
 rcases hi2 with rfl | rfl <;> exact (cell_of_row _ _ _ _ _ _ h).trans rfl
theorem own_addr {w : World} {base : Nat} {v : Value} {L : List Int} {m : Nat} (h : Own w base v L) (hm : L.length = m) (h0 : 0 < m) : ∃ g cap, v = .slice (some ⟨g, 0, none⟩) m cap ∧ m ≤ cap ∧ cap ≤ 9223372036854775807 := by
 obtain ⟨_, ⟨_, hn⟩ | ⟨g, cap, cur, hv, _, _, hnc, hcm, _⟩⟩ := h
 · omega
 · unfold maxLen at hcm
   rw [hm] at hv hnc
   exact ⟨g, cap, hv, by omega, by omega⟩
theorem sl_prefix {w : World} {b o k c m : Nat} {g : Nat → Int} (h : Sl w (.slice (some ⟨b, o, none⟩) k c) k g) (hm : m ≤ k) (h0 : 0 < m) : Sl w (.slice (some ⟨b, o, none⟩) m c) m g := by
 obtain ⟨h1, h2, ⟨rfl, _⟩ | ⟨b', off, cap, hv, hcap, hc⟩⟩ := h
 · omega
 · cases hv
   exact ⟨h1, by omega, Or.inr ⟨b, o, c, rfl, ⟨by omega, by omega⟩, fun i hi => hc i (by omega)⟩⟩
theorem rep_bytes (k : Nat) : ∀ x ∈ List.replicate k (40 : Int), 0 ≤ x ∧ x ≤ 255 := fun x hx => by
 rw [List.mem_replicate] at hx
 omega
theorem rep_at {k i : Nat} (h : i < k) : at_ (List.replicate k (40 : Int)) i = 40 := by
 simp [at_, List.getD, h]
theorem ub_bytes {g : Nat → Int} (hg : ∀ i, 0 ≤ g i ∧ g i ≤ 255) (n : Nat) : ∀ x ∈ [97, 255] ++ (List.range n).map g, 0 ≤ x ∧ x ≤ 255 := fun x hx => by
 rcases List.mem_append.1 hx with h | h
 · simp at h
   omega
 · obtain ⟨i, _, rfl⟩ := List.mem_map.1 h
   exact hg i
set_option maxRecDepth 100000 in
set_option maxHeartbeats 4000000 in
theorem bounds_law (x : Int) (v : Value) (n : Nat) (g : Nat → Int) (w : World) (x0 : -9223372036854775808 ≤ x) (x1 : x ≤ 9223372036854775807) (hv : Sl w v n g) (hnil : NilOk v) (hG : Glo w) : Calls Tryz.prog 7 #[.int .i64 x, v] w (BoolB true w) := by
 have HA := Lib.hid (awake_any w hG)
 have HL := Lib.hid (fun (v1 : Value) (n1 : Nat) (g1 : Nat → Int) (o : Int) (w1 : World) (hb : Below w.heap.size w w1) (hs : Sl w1 v1 n1 g1) => lex_any v1 n1 g1 o w1 hs (glo_below hG hb))
 have HGb := Lib.hid hv.1
 have HV := Lib.hid (fun w1 (hb : Below w.heap.size w w1) => below_sl hb hv)
 have HNil := Lib.hid hnil
 obtain ⟨a, cap, rfl⟩ := sl_form hv
 have hnn : (n : Int) ≤ 140737488355328 := by have := hv.2.1; omega
 clear hv hG hnil
 by_cases hbig : 500 < n
 · have hbigI : (500 : Int) < (n : Int) := by omega
   go_enter Tryz.func7, Tryz.ntmps7
   go_wp2_with fail
   refine HA.out.mono ?_
   rintro e w1 ⟨rfl, hb1⟩
   go_wp2_with fail
   go_ret
   exact ⟨rfl, hb1⟩
 have hbigI : ¬ (500 : Int) < (n : Int) := by omega
 by_cases hx : x < 0
 · obtain ⟨y, hy⟩ : ∃ y, -(x + 1) = y := ⟨_, rfl⟩
   have y0 : 0 ≤ y := by omega
   have y1 : y ≤ 9223372036854775807 := by omega
   obtain ⟨r, hr⟩ : ∃ r : Nat, y.tmod 50 = (r : Int) := ⟨(y.tmod 50).toNat, by rw [Int.tmod_eq_emod_of_nonneg y0]; omega⟩
   have hr50 : r < 50 := by
     rw [Int.tmod_eq_emod_of_nonneg y0] at hr
     omega
   go_enter Tryz.func7, Tryz.ntmps7
   go_wp2_with fail
   refine HA.out.mono ?_
   rintro e w1 ⟨rfl, hb1⟩
   go_wp2_with fail
   go_loopw [6, 7] (fun va i wr => ∃ k : Nat, k ≤ 1001 + r ∧ i = .int .i64 k ∧ Hid (Own wr w.heap.size va (List.replicate k 40)) ∧ Below w.heap.size w wr) (fun _ i _ => 1001 + r - (intOf i).toNat)
   case atStart => exact ⟨0, Nat.zero_le _, rfl, Lib.hid (own_nil _ _), hb1⟩
   case round =>
     obtain ⟨k, hk, rfl, HO, hb⟩ := hrel
     by_cases hend : k < 1001 + r
     · have hkI : (k : Int) < 1001 + (r : Int) := by omega
       have Hlen := Lib.hid (show (List.replicate k (40 : Int)).length + 1 ≤ 140737488355328 by simp; omega)
       have Hrep := Lib.hid (show List.replicate k (40 : Int) ++ (List.range 1).map (fun _ => (40 : Int)) = List.replicate (k + 1) 40 from (List.replicate_succ').symm)
       have Hsz := Lib.hid hb.size
       go_wp2_with (at_builtin; refine wpList_append_sl rfl _ _ rfl w.heap.size _ _ rfl (own_below HO.out (below_al _ _)) _ 1 (fun _ => 40) rfl (sl_new1 _ 40 (by decide) _) (Or.inr ⟨_, _, _, rfl⟩) Hlen.out (Nat.le_trans Hsz.out (below_al _ _).size) ?_; rw [Hrep.out]; intro vb wb hob hbb; have HOb := Lib.hid hob; have hwb := hbb _ _ (below_trans hb (below_al _ _)) (Nat.le_refl _); clear hob hbb)
       go_roundw
       case rel => exact ⟨k + 1, by omega, by go_num, HOb, hwb⟩
       case measure => simp [intOf]; omega
     · obtain rfl : k = 1001 + r := by omega
       obtain ⟨gq, cq, hva, hc1, hc2⟩ := own_addr HO.out (m := 1001 + r) (by simp) (by omega)
       have hsl := own_sl HO.out (rep_bytes _) (by simp; omega)
       rw [show (List.replicate (1001 + r) (40 : Int)).length = 1001 + r by simp] at hsl
       subst hva
       have HSl := Lib.hid hsl
       have hcq : (1000 : Int) ≤ (cq : Int) := by omega
       have HX1 := Lib.hid (lex_long (g := at_ (List.replicate (1001 + r) 40)) (n := 1001 + r) (by omega))
       have HX2 := Lib.hid (lex_arg (g := g) (n := n) (o := 65536) (by omega))
       have HX3 := Lib.hid (lex_arg (g := g) (n := n) (o := -1) (by omega))
       have HX4 := Lib.hid (lex_bad (g := at_ ([97, 255] ++ (List.range n).map g)) (n := n + 2) (at_bytes (ub_bytes HGb.out n)) (by omega) (by omega) rfl rfl)
       obtain ⟨T, hT⟩ := lex_opens (g := at_ (List.replicate (1001 + r) 40)) (n := 1000) (at_bytes (rep_bytes _)) (by omega) (fun i hi => rep_at (by omega))
       have HX5 := Lib.hid hT
       clear hsl hT HO
       go_wp2_with fail
       have C1 := HL.out _ (1001 + r) _ 0 _ hb HSl.out
       rw [HX1.out] at C1
       refine C1.mono ?_
       clear C1
       rintro e w2 ⟨hb2, rfl⟩
       have hw2 := below_trans hb hb2
       go_wp2_with fail
       have C2 := HL.out _ n g 65536 _ hw2 (HV.out _ hw2)
       rw [HX2.out] at C2
       refine C2.mono ?_
       clear C2
       rintro e w3 ⟨hb3, rfl⟩
       have hw3 := below_trans hw2 hb3
       go_wp2_with fail
       have C3 := HL.out _ n g (-1) _ hw3 (HV.out _ hw3)
       rw [HX3.out] at C3
       refine C3.mono ?_
       clear C3
       rintro e w4 ⟨hb4, rfl⟩
       have hw4 := below_trans hw3 hb4
       go_upto_region 18 with (at_builtin; refine wpList_append_sl rfl _ _ rfl w4.heap.size _ _ rfl (own_nil _ _) _ 2 (at_ [97, 255]) rfl (sl_new2 _ 97 255 (by decide) (by decide) _) (Or.inr ⟨_, _, _, rfl⟩) (by simp) (below_al w4 _).size ?_; intro vb w5 hob hbb; have HO5 := Lib.hid (show Own w5 w4.heap.size vb [97, 255] from hob); have hw5 := hbb _ _ (below_trans hw4 (below_al _ _)) hw4.size; have hq5 := hbb _ _ (below_al w4 _) (Nat.le_refl _); clear hob hbb)
       have Hlen := Lib.hid (show ([97, 255] : List Int).length + n ≤ 140737488355328 by simp; omega)
       go_upto_region 19 with (at_builtin; refine wpList_append_sl rfl _ _ rfl w4.heap.size _ _ rfl HO5.out _ n g rfl (HV.out _ hw5) HNil.out Hlen.out hq5.size ?_; intro vc w6 hoc hbc; have HO6 := Lib.hid hoc; have hw6 := hbc _ _ hw5 hw4.size; have hq6 := hbc _ _ hq5 (Nat.le_refl _); clear hoc hbc)
       obtain ⟨gu, cu, hvc, hc3, hc4⟩ := own_addr HO6.out (m := n + 2) (by simp) (by omega)
       have hsu := own_sl HO6.out (ub_bytes HGb.out n) (by simp; omega)
       rw [show ([97, 255] ++ (List.range n).map g : List Int).length = n + 2 by simp] at hsu
       subst hvc
       have HSu := Lib.hid hsu
       clear hsu HO6 HO5
       have hnI : ¬ (1000 : Int) < (n : Int) + 2 := by omega
       go_wp2_with fail
       have C4 := HL.out _ (n + 2) _ 32 _ hw6 HSu.out
       rw [HX4.out] at C4
       refine C4.mono ?_
       clear C4
       rintro e w7 ⟨hb7, rfl⟩
       have hw7 := below_trans hw6 hb7
       have HS7 := Lib.hid (sl_prefix (below_sl (below_trans (below_trans hb2 (below_trans hb3 hb4)) (below_trans hq6 hb7)) HSl.out) (m := 1000) (by omega) (by omega))
       go_wp2_with fail
       have C5 := HL.out _ 1000 _ 0 _ hw7 HS7.out
       rw [HX5.out] at C5
       refine C5.mono ?_
       clear C5
       rintro e w8 ⟨hb8, v8, rfl, hr8⟩
       go_wp2_with fail
       go_ret
       exact ⟨rfl, below_trans hw7 hb8⟩
 · have y0 : 0 ≤ x := by omega
   have y1 : x ≤ 9223372036854775807 := by omega
   obtain ⟨r, hr⟩ : ∃ r : Nat, x.tmod 50 = (r : Int) := ⟨(x.tmod 50).toNat, by rw [Int.tmod_eq_emod_of_nonneg y0]; omega⟩
   have hr50 : r < 50 := by
     rw [Int.tmod_eq_emod_of_nonneg y0] at hr
     omega
   go_enter Tryz.func7, Tryz.ntmps7
   go_wp2_with fail
   refine HA.out.mono ?_
   rintro e w1 ⟨rfl, hb1⟩
   go_wp2_with fail
   go_loopw [6, 7] (fun va i wr => ∃ k : Nat, k ≤ 1001 + r ∧ i = .int .i64 k ∧ Hid (Own wr w.heap.size va (List.replicate k 40)) ∧ Below w.heap.size w wr) (fun _ i _ => 1001 + r - (intOf i).toNat)
   case atStart => exact ⟨0, Nat.zero_le _, rfl, Lib.hid (own_nil _ _), hb1⟩
   case round =>
     obtain ⟨k, hk, rfl, HO, hb⟩ := hrel
     by_cases hend : k < 1001 + r
     · have hkI : (k : Int) < 1001 + (r : Int) := by omega
       have Hlen := Lib.hid (show (List.replicate k (40 : Int)).length + 1 ≤ 140737488355328 by simp; omega)
       have Hrep := Lib.hid (show List.replicate k (40 : Int) ++ (List.range 1).map (fun _ => (40 : Int)) = List.replicate (k + 1) 40 from (List.replicate_succ').symm)
       have Hsz := Lib.hid hb.size
       go_wp2_with (at_builtin; refine wpList_append_sl rfl _ _ rfl w.heap.size _ _ rfl (own_below HO.out (below_al _ _)) _ 1 (fun _ => 40) rfl (sl_new1 _ 40 (by decide) _) (Or.inr ⟨_, _, _, rfl⟩) Hlen.out (Nat.le_trans Hsz.out (below_al _ _).size) ?_; rw [Hrep.out]; intro vb wb hob hbb; have HOb := Lib.hid hob; have hwb := hbb _ _ (below_trans hb (below_al _ _)) (Nat.le_refl _); clear hob hbb)
       go_roundw
       case rel => exact ⟨k + 1, by omega, by go_num, HOb, hwb⟩
       case measure => simp [intOf]; omega
     · obtain rfl : k = 1001 + r := by omega
       obtain ⟨gq, cq, hva, hc1, hc2⟩ := own_addr HO.out (m := 1001 + r) (by simp) (by omega)
       have hsl := own_sl HO.out (rep_bytes _) (by simp; omega)
       rw [show (List.replicate (1001 + r) (40 : Int)).length = 1001 + r by simp] at hsl
       subst hva
       have HSl := Lib.hid hsl
       have hcq : (1000 : Int) ≤ (cq : Int) := by omega
       have HX1 := Lib.hid (lex_long (g := at_ (List.replicate (1001 + r) 40)) (n := 1001 + r) (by omega))
       have HX2 := Lib.hid (lex_arg (g := g) (n := n) (o := 65536) (by omega))
       have HX3 := Lib.hid (lex_arg (g := g) (n := n) (o := -1) (by omega))
       have HX4 := Lib.hid (lex_bad (g := at_ ([97, 255] ++ (List.range n).map g)) (n := n + 2) (at_bytes (ub_bytes HGb.out n)) (by omega) (by omega) rfl rfl)
       obtain ⟨T, hT⟩ := lex_opens (g := at_ (List.replicate (1001 + r) 40)) (n := 1000) (at_bytes (rep_bytes _)) (by omega) (fun i hi => rep_at (by omega))
       have HX5 := Lib.hid hT
       clear hsl hT HO
       go_wp2_with fail
       have C1 := HL.out _ (1001 + r) _ 0 _ hb HSl.out
       rw [HX1.out] at C1
       refine C1.mono ?_
       clear C1
       rintro e w2 ⟨hb2, rfl⟩
       have hw2 := below_trans hb hb2
       go_wp2_with fail
       have C2 := HL.out _ n g 65536 _ hw2 (HV.out _ hw2)
       rw [HX2.out] at C2
       refine C2.mono ?_
       clear C2
       rintro e w3 ⟨hb3, rfl⟩
       have hw3 := below_trans hw2 hb3
       go_wp2_with fail
       have C3 := HL.out _ n g (-1) _ hw3 (HV.out _ hw3)
       rw [HX3.out] at C3
       refine C3.mono ?_
       clear C3
       rintro e w4 ⟨hb4, rfl⟩
       have hw4 := below_trans hw3 hb4
       go_upto_region 18 with (at_builtin; refine wpList_append_sl rfl _ _ rfl w4.heap.size _ _ rfl (own_nil _ _) _ 2 (at_ [97, 255]) rfl (sl_new2 _ 97 255 (by decide) (by decide) _) (Or.inr ⟨_, _, _, rfl⟩) (by simp) (below_al w4 _).size ?_; intro vb w5 hob hbb; have HO5 := Lib.hid (show Own w5 w4.heap.size vb [97, 255] from hob); have hw5 := hbb _ _ (below_trans hw4 (below_al _ _)) hw4.size; have hq5 := hbb _ _ (below_al w4 _) (Nat.le_refl _); clear hob hbb)
       have Hlen := Lib.hid (show ([97, 255] : List Int).length + n ≤ 140737488355328 by simp; omega)
       go_upto_region 19 with (at_builtin; refine wpList_append_sl rfl _ _ rfl w4.heap.size _ _ rfl HO5.out _ n g rfl (HV.out _ hw5) HNil.out Hlen.out hq5.size ?_; intro vc w6 hoc hbc; have HO6 := Lib.hid hoc; have hw6 := hbc _ _ hw5 hw4.size; have hq6 := hbc _ _ hq5 (Nat.le_refl _); clear hoc hbc)
       obtain ⟨gu, cu, hvc, hc3, hc4⟩ := own_addr HO6.out (m := n + 2) (by simp) (by omega)
       have hsu := own_sl HO6.out (ub_bytes HGb.out n) (by simp; omega)
       rw [show ([97, 255] ++ (List.range n).map g : List Int).length = n + 2 by simp] at hsu
       subst hvc
       have HSu := Lib.hid hsu
       clear hsu HO6 HO5
       have hnI : ¬ (1000 : Int) < (n : Int) + 2 := by omega
       go_wp2_with fail
       have C4 := HL.out _ (n + 2) _ 32 _ hw6 HSu.out
       rw [HX4.out] at C4
       refine C4.mono ?_
       clear C4
       rintro e w7 ⟨hb7, rfl⟩
       have hw7 := below_trans hw6 hb7
       have HS7 := Lib.hid (sl_prefix (below_sl (below_trans (below_trans hb2 (below_trans hb3 hb4)) (below_trans hq6 hb7)) HSl.out) (m := 1000) (by omega) (by omega))
       go_wp2_with fail
       have C5 := HL.out _ 1000 _ 0 _ hw7 HS7.out
       rw [HX5.out] at C5
       refine C5.mono ?_
       clear C5
       rintro e w8 ⟨hb8, v8, rfl, hr8⟩
       go_wp2_with fail
       go_ret
       exact ⟨rfl, below_trans hw7 hb8⟩
end Go.Proofs.YtgbnaolgmmnhhaaGreatDoor.tkw
end
section
namespace Go.Proofs.YtgbnaolgmmnhhaaGreatDoor.tkr
open Go Go.RowKit Go.ChangeShapes Go.WideShapes Go.ChangeAt utfp utfw prp tkp tkw
set_option maxRecDepth 100000 in
theorem open_bytesX {H : Type} {enc : TypeId × Value → H} {W : World} {base : Nat} {v : Value} {d : DataW H} {ps : List MemPlace} (hval : Value.okWide Tryz.prog W .any base 22 v)
   (h : DataW.Trod enc Tryz.prog W 0 (fun _ => true) true 22 v d ps) (hsz : ∀ elems spare, d = .slice elems spare → (elems.length + spare.length) * Tryz.prog.bytesOf 5 ≤ reachBytes) :
   ∃ n g, Sl W v n g ∧ NilOk v := by
 obtain ⟨n, g, hs⟩ := open_bytes hval h hsz
 refine ⟨n, g, hs, ?_⟩
 obtain ⟨a0, len, cap, rfl⟩ := okWide_slice Tryz.underlying22 hval
 obtain ⟨fuel, hf⟩ := h
 rcases open_ints Tryz.underlying22 Tryz.underlying5 cellsByte hf with ⟨hcs, _⟩ | ⟨a, len', cap', zs, hcs, _, hl, hm, hz, hx, hcell, hwz⟩
 · simp [Value.cells] at hcs
   obtain ⟨rfl, rfl, rfl⟩ := hcs
   exact Or.inl rfl
 · simp [Value.cells] at hcs
   obtain ⟨rfl, rfl, rfl⟩ := hcs
   exact Or.inr ⟨_, _, _, rfl⟩
end Go.Proofs.YtgbnaolgmmnhhaaGreatDoor.tkr
end
