/- Texts that TokensQuoteLaw leans on, merged: what the functions of the program answer. -/
import Derived.Test.YtkcmjcgjfjfimaaGreatDoorBQu08
section
namespace Go.Proofs.YtkcmjcgjfjfimaaGreatDoor.tkw
open Go Go.RowKit Go.Maps utfp utfw ucdp setp setw prp tkp
theorem sg_at {s : ByteArray} {k : Nat} (h : k < s.size) : ((s[k]'h).toNat : Int) = sg s k := by
 unfold sg
 have : s.data.toList[k]? = some (s[k]'h) := by
   rw [Array.getElem?_toList]
   exact Array.getElem?_eq_getElem h
 simp [List.getD, this]
set_option maxRecDepth 100000 in
set_option maxHeartbeats 4000000 in
theorem parseInt_in (s : ByteArray) (w : World) (h0 : 0 < s.size) (h6 : s.size ≤ 6) (hh : ∀ i, i < s.size → isHexd (sg s i) = true) :
   Calls Tryz.prog 160 #[.string s, .int .i64 16, .int .i64 64] w fun e w' => e = .returned (.tuple #[.int .i64 (hv s s.size), .nilIface]) ∧ Below w.heap.size w w' := by
 have em := not_empty h0
 have HU := Lib.hid (parseUint_hex s w h0 h6 hh)
 have hb := hv_bd (s := s) (k := s.size) h6 hh
 have hb1 := hb.1
 have hb2 := hb.2.1
 have hd := hexV_bd (hh 0 h0)
 have h43 : sg s 0 ≠ 43 := by omega
 have h45 : sg s 0 ≠ 45 := by omega
 have hat := sg_at h0
 clear hh hb hd
 go_enter Tryz.func160, Tryz.ntmps160
 go_wp2_with fail
 refine HU.out.mono ?_
 rintro e1 w1 ⟨rfl, hb⟩
 go_wp2_with fail
 go_ret2
 exact ⟨rfl, hb⟩
theorem parseInt_hex (s : ByteArray) (w : World) (h0 : 0 < s.size) (h6 : s.size ≤ 6) (hh : ∀ i, i < s.size → isHexd (sg s i) = true) :
   Calls Tryz.prog 135 #[.string s, .int .i64 16, .int .i64 64] w fun e w' => e = .returned (.tuple #[.int .i64 (hv s s.size), .nilIface]) ∧ Below w.heap.size w w' := by
 have HI := Lib.hid (parseInt_in s w h0 h6 hh)
 clear hh
 go_enter Tryz.func135, Tryz.ntmps135
 go_wp2_with fail
 refine HI.out.mono ?_
 rintro e1 w1 ⟨rfl, hb⟩
 go_wp2_with fail
 go_ret2
 exact ⟨rfl, hb⟩
theorem parseInt_in0 (s : ByteArray) (w : World) (h0 : s.size = 0) :
   Calls Tryz.prog 160 #[.string s, .int .i64 16, .int .i64 64] w fun e w' => e = .returned (.tuple #[.int .i64 0, .iface 178 (.int .i64 2)]) ∧ w = w' := by
 have em := is_empty h0
 clear h0
 go_enter Tryz.func160, Tryz.ntmps160
 go_wp2_with fail
 go_ret2
 exact ⟨rfl, rfl⟩
theorem clone0 (s : ByteArray) (w : World) (h0 : s.size = 0) : Calls Tryz.prog 195 #[.string s] w fun e w' => e = .returned (.string ⟨#[]⟩) ∧ w = w' := by
 have hi : ((s.size : Int) == 0) = true := by rw [h0]; rfl
 clear h0
 go_enter Tryz.func195, Tryz.ntmps195
 go_wp2_with fail
 go_ret
 exact ⟨rfl, rfl⟩
set_option maxRecDepth 100000 in
theorem syntax0 (fn s : ByteArray) (w : World) (h0 : s.size = 0) (he : ∃ t x, w.cell? ⟨8, 0, none⟩ = some (.iface t x)) : Calls Tryz.prog 173 #[.string fn, .string s] w fun e w' => (∃ p, e = .returned (.pointer (some p))) ∧ Below w.heap.size w w' := by
 obtain ⟨tt, x, hx⟩ := he
 have HX := Lib.hid hx
 have HC := Lib.hid (fun u => clone0 s u h0)
 clear h0 hx
 go_enter Tryz.func173, Tryz.ntmps173
 go_wp2_with fail
 refine wp_region_held_drew (S := fun w' => Below w.heap.size w w') (by kernel_rfl) (Below.refl _ _).drew (fun hHeld => ?_)
 refine wpAnyH_take (i := 0) (v := ?_) rfl (by kernel_rfl) (by kernel_rfl) (by kernel_rfl) (fun _ _ _ h => h) (Or.inl ⟨by rfl, ?_⟩) (by assumption) ?_
 rotate_left
 · intro w' hSw
   go_simp
   try rfl
 simp only [Act.put, List.setIfInBounds_toArray, List.set_cons_zero, List.set_cons_succ, List.getElem_toArray, List.getElem_cons_zero]
 refine wpAnyH_take (i := 1) (v := ?_) rfl (by kernel_rfl) (by kernel_rfl) (by kernel_rfl) (fun _ _ _ h => h) (Or.inl ⟨by rfl, ?_⟩) (by assumption) ?_
 rotate_left
 · intro w' hSw
   go_simp
   try rfl
 simp only [Act.put, List.setIfInBounds_toArray, List.set_cons_zero, List.set_cons_succ, List.getElem_toArray, List.getElem_cons_succ, List.getElem_cons_zero]
 refine wpAnyH_take (i := 3) (v := ?_) rfl (by kernel_rfl) (by kernel_rfl) (by kernel_rfl) (fun _ _ _ h => h) (Or.inl ⟨by rfl, ?_⟩) (by assumption) ?_
 rotate_left
 · intro w' hSw
   have k0 := below_cell hSw HX.out
   go_simp
   try rfl
 simp only [Act.put, List.setIfInBounds_toArray, List.set_cons_zero, List.set_cons_succ, List.getElem_toArray, List.getElem_cons_succ, List.getElem_cons_zero]
 refine wpAnyH_ready (rs := [2]) (by kernel_rfl) (by simp) ?_
 refine AllReadyH.cons rfl (fun K hK => ?_) AllReadyH.nil
 go_simp
 refine Calls.mono (HC.out _) ?_
 rintro e w1 ⟨rfl, rfl⟩
 refine hK.out _ _ hHeld (fun hHeld => ?_)
 clear hK K
 try simp only [Act.put, List.setIfInBounds_toArray, List.set_cons_zero, List.set_cons_succ, List.getElem_toArray, List.getElem_cons_succ, List.getElem_cons_zero]
 refine wpAnyH_take (i := 4) (v := ?_) rfl (by kernel_rfl) (by kernel_rfl) (by kernel_rfl) (fun _ _ _ h => h) (Or.inl ⟨by rfl, ?_⟩) (by assumption) ?_
 rotate_left
 · intro w' hSw
   go_simp
   try rfl
 simp only [Act.put, List.setIfInBounds_toArray, List.set_cons_zero, List.set_cons_succ, List.getElem_toArray, List.getElem_cons_succ, List.getElem_cons_zero]
 refine wpAnyH_ready (rs := [5]) (by kernel_rfl) (by simp) ?_
 refine AllReadyH.cons rfl (fun K hK => ?_) AllReadyH.nil
 go_simp
 refine hK.out _ _ (hHeld.alloc (by have := hHeld.size; omega) _) (fun hHeld => ?_)
 clear hK K
 try simp only [Act.put, List.setIfInBounds_toArray, List.set_cons_zero, List.set_cons_succ, List.getElem_toArray, List.getElem_cons_succ, List.getElem_cons_zero]
 refine wpAnyH_take (i := 6) (v := ?_) rfl (by kernel_rfl) (by kernel_rfl) (by kernel_rfl) (fun _ _ _ h => h) (Or.inl ⟨by rfl, ?_⟩) (by assumption) ?_
 rotate_left
 · intro w' hSw
   go_simp
   try rfl
 simp only [Act.put, List.setIfInBounds_toArray, List.set_cons_zero, List.set_cons_succ, List.getElem_toArray, List.getElem_cons_succ, List.getElem_cons_zero]
 refine wpAnyH_done (by kernel_rfl) ?_ _
 go_wp2_with fail
 go_ret
 exact ⟨⟨_, rfl⟩, by assumption⟩
set_option maxRecDepth 100000 in
theorem toError0 (fn s : ByteArray) (w : World) (h0 : s.size = 0) (he : ∃ t x, w.cell? ⟨8, 0, none⟩ = some (.iface t x)) : Calls Tryz.prog 161 #[.string fn, .string s, .int .i64 16, .int .i64 64, .iface 178 (.int .i64 2)] w fun e w' => (∃ p, e = .returned (.iface 182 (.pointer (some p)))) ∧ Below w.heap.size w w' := by
 have HS := Lib.hid (syntax0 fn s w h0 he)
 have heq : ∀ w, (binOp .eql 148 (.iface 178 (.int .i64 2)) (.iface 178 (.int .i64 2))).run Tryz.prog w = .ok (.bool true) w := fun _ => by kernel_rfl
 clear h0 he
 go_enter Tryz.func161, Tryz.ntmps161
 go_wp2_with fail
 refine HS.out.mono ?_
 rintro e1 w1 ⟨⟨p, rfl⟩, hb⟩
 go_wp2_with fail
 go_ret
 exact ⟨⟨_, rfl⟩, hb⟩
theorem parseInt_0 (s : ByteArray) (w : World) (h0 : s.size = 0) (he : ∃ t x, w.cell? ⟨8, 0, none⟩ = some (.iface t x)) :
   Calls Tryz.prog 135 #[.string s, .int .i64 16, .int .i64 64] w fun e w' => (∃ p, e = .returned (.tuple #[.int .i64 0, .iface 182 (.pointer (some p))])) ∧ Below w.heap.size w w' := by
 have HI := Lib.hid (parseInt_in0 s w h0)
 have HE := Lib.hid (fun fn => toError0 fn s w h0 he)
 clear h0 he
 go_enter Tryz.func135, Tryz.ntmps135
 go_wp2_with fail
 refine HI.out.mono ?_
 rintro e1 w1 ⟨rfl, rfl⟩
 go_wp2_with fail
 refine (HE.out _).mono ?_
 rintro e2 w2 ⟨⟨p, rfl⟩, hb⟩
 go_wp2_with fail
 go_ret2
 exact ⟨⟨_, rfl⟩, hb⟩
theorem hexVal_sub {p : Pt} (hg : ∀ i, 0 ≤ p.g i ∧ p.g i ≤ 255) {a b : Nat} : ∀ k, k ≤ b - a → hv (p.sub a b) k = p.hexVal a k
 | 0, _ => rfl
 | k + 1, h => by
   have hk : k < (p.sub a b).size := by rw [sub_size]; omega
   unfold hv Pt.hexVal
   rw [hexVal_sub hg k (by omega), ← sg_at hk, sub_at hg hk]
set_option maxRecDepth 100000 in
set_option maxHeartbeats 1000000 in
theorem hexDigits_any {C : Cf} {w : World} {a f : Nat} {T : Rw} (h : LX C w a f T) (most : Nat) (hm : most ≤ 6) :
   Calls Tryz.prog 111 #[.pointer (some ⟨C.L, 0, none⟩), .int .i64 most] w (Ret C w (.tuple #[.int .i64 (C.p.hexd most a).1, .bool (decide (a < (C.p.hexd most a).2))]) (C.p.hexd most a).2 f T) := by
 have HR := Lib.hid (run_hex h most (by omega))
 have bd := run_bd (p := C.p) (fits := isHexd) (k := most) h.an
 have hg := h.sl.1
 have HD := Lib.hid (fun i (h1 : a ≤ i) (h2 : i < C.p.run isHexd most a) => run_fits (p := C.p) (fits := isHexd) (k := most) h1 h2)
 unfold Pt.hexd
 simp only
 obtain ⟨e, he⟩ : ∃ e, C.p.run isHexd most a = e := ⟨_, rfl⟩
 rw [he] at HR bd HD ⊢
 obtain ⟨b1, b2, b3⟩ := bd
 have hsz := sub_size C.p a e
 have hvs := hexVal_sub (p := C.p) hg (a := a) (b := e) (e - a) (Nat.le_refl _)
 have hfit : ∀ i, i < (C.p.sub a e).size → isHexd (sg (C.p.sub a e) i) = true := fun i hi => by
   rw [← sg_at hi, sub_at hg hi]
   rw [hsz] at hi
   exact HD.out (a + i) (by omega) (by omega)
 have HER := Lib.hid (show ∀ u, LX C u e f T → ∃ t x, u.cell? ⟨8, 0, none⟩ = some (.iface t x) from fun u hu => by
   obtain ⟨t, x, hx⟩ := hu.ok.er
   exact ⟨t, x, below_cell hu.old hx⟩)
 obtain ⟨s, hs⟩ : ∃ s, C.p.sub a e = s := ⟨_, rfl⟩
 rw [hs] at HR hsz hvs hfit
 rw [← hvs, ← hsz]
 clear h he hs hg hvs HD
 by_cases hz : s.size = 0
 · have HP := Lib.hid (fun u (hu : ∃ t x, u.cell? ⟨8, 0, none⟩ = some (.iface t x)) => parseInt_0 s u hz hu)
   have HZ := Lib.hid hz
   have HSZ := Lib.hid hsz
   clear hz hsz hfit
   go_enter Tryz.func111, Tryz.ntmps111
   go_wp2_with fail
   refine HR.out.mono ?_
   rintro e1 w1 ⟨rfl, hx1, hk1⟩
   go_wp2_with fail
   refine (HP.out _ (HER.out _ hx1)).mono ?_
   rintro e2 w2 ⟨⟨p, rfl⟩, hb2⟩
   go_wp2_with fail
   go_quiet (fail)
   rename_i nq
   go_wp2_with fail
   go_ret2
   exact ret_of (by rw [HZ.out, show decide (a < e) = false by have := HSZ.out; have := HZ.out; simp; omega]; rfl) rfl rfl ((hx1.below hb2).drewN _) ((hk1.then (Kept.of_below hb2)).drewN _)
 · have HP := Lib.hid (fun u => parseInt_hex s u (by omega) (by omega) hfit)
   have HSZ := Lib.hid hsz
   clear hfit
   have hlt : a < e := by omega
   clear hsz
   go_enter Tryz.func111, Tryz.ntmps111
   go_wp2_with fail
   refine HR.out.mono ?_
   rintro e1 w1 ⟨rfl, hx1, hk1⟩
   go_wp2_with fail
   refine (HP.out _).mono ?_
   rintro e2 w2 ⟨rfl, hb2⟩
   go_wp2_with fail
   go_quiet (fail)
   rename_i nq
   go_wp2_with fail
   go_ret2
   exact ret_of (by rw [decide_eq_true hlt]; rfl) rfl rfl ((hx1.below hb2).drewN _) ((hk1.then (Kept.of_below hb2)).drewN _)
end Go.Proofs.YtkcmjcgjfjfimaaGreatDoor.tkw
end
section
namespace Go.Proofs.YtkcmjcgjfjfimaaGreatDoor.tkw
open Go Go.RowKit Go.Maps utfp utfw ucdp setp setw prp tkp
theorem hexd_bd {p : Pt} {most a : Nat} (ha : a ≤ p.n) : a ≤ (p.hexd most a).2 ∧ (p.hexd most a).2 ≤ p.n := by
 have bd := run_bd (p := p) (fits := isHexd) (k := most) ha
 exact ⟨bd.1, bd.2.1⟩
def HxOk (C : Cf) (w : World) (f : Nat) (T : Rw) (v : Int × Nat) : Ending → World → Prop := Ret C w (.int .i64 v.1) v.2 f T
set_option maxHeartbeats 2000000 in
theorem hexa_no {C : Cf} {w : World} {a f : Nat} {T : Rw} (h : LX C w a f T) (h1 : C.p.has [123] a = false) : Calls Tryz.prog 86 #[.pointer (some ⟨C.L, 0, none⟩)] w (RP C w (C.p.hexa f a) (HxOk C w f T)) := by
 have hk0 := Kept.refl w.heap.size C.L w
 have hB := h.hb
 have hs : C.p.hexa f a = .ok (C.p.hexd 2 a) := by unfold Pt.hexa; rw [if_neg (by simp [h1])]
 have HS := Lib.hid hs
 have H1 := Lib.hid h1
 clear hs h1
 go_enter Tryz.func86, Tryz.ntmps86
 go_wp2_with fail
 refine Calls.mono (take_n h ⟨#[123]⟩ [123] rfl (by decide) H1.out) ?_
 rintro e1 w1 ⟨rfl, hx1, hkn⟩
 have hk1 := hk0.then hkn
 clear hkn
 go_wp2_with fail
 refine Calls.mono (hexDigits_any hx1 2 (by decide)) ?_
 rintro e2 w2 ⟨rfl, hx2, hkn⟩
 have hk2 := hk1.then hkn
 clear hkn
 go_wp2_with fail
 go_ret
 exact rp_ok HS.out ⟨rfl, hx2, hk2⟩
set_option maxHeartbeats 8000000 in
theorem hexa_yes {C : Cf} {w : World} {a f : Nat} {T : Rw} (h : LX C w a f T) (h1 : C.p.has [123] a = true) : Calls Tryz.prog 86 #[.pointer (some ⟨C.L, 0, none⟩)] w (RP C w (C.p.hexa f a) (HxOk C w f T)) := by
 have hl := has_le h.an h1
 simp only [List.length_cons, List.length_nil] at hl
 have bd := hexd_bd (p := C.p) (most := 6) (a := a + 1) hl
 obtain ⟨⟨v, b⟩, hv⟩ : ∃ d, C.p.hexd 6 (a + 1) = d := ⟨_, rfl⟩
 have hs : C.p.hexa f a = if (C.p.hexd 6 (a + 1)).2 = a + 1 ∨ C.p.has [125] (C.p.hexd 6 (a + 1)).2 = false ∨ C.p.most < (C.p.hexd 6 (a + 1)).1 ∨ (C.p.u = true ∧ 55296 ≤ (C.p.hexd 6 (a + 1)).1 ∧ (C.p.hexd 6 (a + 1)).1 ≤ 57343) then .error (21, (f : Int)) else .ok ((C.p.hexd 6 (a + 1)).1, (C.p.hexd 6 (a + 1)).2 + 1) := by unfold Pt.hexa; rw [if_pos h1]
 rw [hv] at hs bd
 simp only at hs bd
 obtain ⟨bd1, bd2⟩ := bd
 have hk0 := Kept.refl w.heap.size C.L w
 have hB := h.hb
 have H1 := Lib.hid h1
 have HV := Lib.hid hv
 clear h1 hv
 by_cases hz : b = a + 1
 · rw [if_pos (Or.inl hz)] at hs
   have HS := Lib.hid (show C.p.hexa f a = .error (C.p.er 21 f) from hs)
   have HL := Lib.hid (show decide (a + 1 < b) = false by simp; omega)
   clear hs hz
   go_enter Tryz.func86, Tryz.ntmps86
   go_wp2_with fail
   refine Calls.mono (take_y h ⟨#[123]⟩ [123] 1 rfl rfl (by decide) H1.out) ?_
   rintro e1 w1 ⟨rfl, hx1, hkn⟩
   have hk1 := hk0.then hkn
   clear hkn
   go_wp2_with fail
   refine Calls.mono (hexDigits_any hx1 6 (by decide)) ?_
   intro e2 w2 hr
   rw [HV.out] at hr
   obtain ⟨rfl, hx2, hkn⟩ := hr
   have hk2 := hk1.then hkn
   clear hkn
   simp only
   rw [HL.out]
   go_wp2_with fail
   refine Calls.mono (fail_any hx2 21) ?_
   rintro e9 w9 ⟨rfl, hkn⟩
   exact ⟨rfl, rp_err HS.out ⟨rfl, (hk2.mono hB).trans hkn⟩⟩
 · have HL := Lib.hid (show decide (a + 1 < b) = true by simp; omega)
   cases h2 : C.p.has [125] b with
   | false =>
     rw [if_pos (Or.inr (Or.inl h2))] at hs
     have HS := Lib.hid (show C.p.hexa f a = .error (C.p.er 21 f) from hs)
     have H2 := Lib.hid h2
     clear hs hz h2
     go_enter Tryz.func86, Tryz.ntmps86
     go_wp2_with fail
     refine Calls.mono (take_y h ⟨#[123]⟩ [123] 1 rfl rfl (by decide) H1.out) ?_
     rintro e1 w1 ⟨rfl, hx1, hkn⟩
     have hk1 := hk0.then hkn
     clear hkn
     go_wp2_with fail
     refine Calls.mono (hexDigits_any hx1 6 (by decide)) ?_
     intro e2 w2 hr
     rw [HV.out] at hr
     obtain ⟨rfl, hx2, hkn⟩ := hr
     have hk2 := hk1.then hkn
     clear hkn
     simp only
     rw [HL.out]
     go_wp2_with fail
     refine Calls.mono (take_n hx2 ⟨#[125]⟩ [125] rfl (by decide) H2.out) ?_
     rintro e3 w3 ⟨rfl, hx3, hkn⟩
     have hk3 := hk2.then hkn
     clear hkn
     go_wp2_with fail
     refine Calls.mono (fail_any hx3 21) ?_
     rintro e9 w9 ⟨rfl, hkn⟩
     exact ⟨rfl, rp_err HS.out ⟨rfl, (hk3.mono hB).trans hkn⟩⟩
   | true =>
     have H2 := Lib.hid h2
     by_cases h3 : C.p.most < v
     · rw [if_pos (Or.inr (Or.inr (Or.inl h3)))] at hs
       have HS := Lib.hid (show C.p.hexa f a = .error (C.p.er 21 f) from hs)
       clear hs hz h2
       go_enter Tryz.func86, Tryz.ntmps86
       go_wp2_with fail
       refine Calls.mono (take_y h ⟨#[123]⟩ [123] 1 rfl rfl (by decide) H1.out) ?_
       rintro e1 w1 ⟨rfl, hx1, hkn⟩
       have hk1 := hk0.then hkn
       clear hkn
       go_wp2_with fail
       refine Calls.mono (hexDigits_any hx1 6 (by decide)) ?_
       intro e2 w2 hr
       rw [HV.out] at hr
       obtain ⟨rfl, hx2, hkn⟩ := hr
       have hk2 := hk1.then hkn
       clear hkn
       simp only
       rw [HL.out]
       go_wp2_with fail
       refine Calls.mono (take_y hx2 ⟨#[125]⟩ [125] 1 rfl rfl (by decide) H2.out) ?_
       rintro e3 w3 ⟨rfl, hx3, hkn⟩
       have hk3 := hk2.then hkn
       clear hkn
       have d3 := hx3.cells.c3
       have d4 := hx3.cells.c4
       go_wp2_with fail
       refine Calls.mono (fail_any hx3 21) ?_
       rintro e9 w9 ⟨rfl, hkn⟩
       exact ⟨rfl, rp_err HS.out ⟨rfl, (hk3.mono hB).trans hkn⟩⟩
     · have h3' : decide (C.p.most < v) = false := by simpa using h3
       cases hu : C.p.u with
       | false =>
         rw [hu] at hs
         have HUU := Lib.hid hu
         rw [if_neg (by simp [hz, h2]; omega)] at hs
         have HS := Lib.hid hs
         clear hs hz h2 h3 hu
         go_enter Tryz.func86, Tryz.ntmps86
         go_wp2_with fail
         refine Calls.mono (take_y h ⟨#[123]⟩ [123] 1 rfl rfl (by decide) H1.out) ?_
         rintro e1 w1 ⟨rfl, hx1, hkn⟩
         have hk1 := hk0.then hkn
         clear hkn
         go_wp2_with fail
         refine Calls.mono (hexDigits_any hx1 6 (by decide)) ?_
         intro e2 w2 hr
         rw [HV.out] at hr
         obtain ⟨rfl, hx2, hkn⟩ := hr
         have hk2 := hk1.then hkn
         clear hkn
         simp only
         rw [HL.out]
         go_wp2_with fail
         refine Calls.mono (take_y hx2 ⟨#[125]⟩ [125] 1 rfl rfl (by decide) H2.out) ?_
         rintro e3 w3 ⟨rfl, hx3, hkn⟩
         have hk3 := hk2.then hkn
         clear hkn
         have d3 := hx3.cells.c3
         have d4 := hx3.cells.c4
         rw [HUU.out] at d4
         go_wp2_with fail
         go_ret
         exact rp_ok HS.out ⟨rfl, hx3, hk3⟩
       | true =>
         rw [hu] at hs
         have HUU := Lib.hid hu
         by_cases h4 : 55296 ≤ v
         · by_cases h5 : v ≤ 57343
           · rw [if_pos (Or.inr (Or.inr (Or.inr ⟨rfl, h4, h5⟩)))] at hs
             have HS := Lib.hid (show C.p.hexa f a = .error (C.p.er 21 f) from hs)
             clear hs hz h2 h3 hu
             go_enter Tryz.func86, Tryz.ntmps86
             go_wp2_with fail
             refine Calls.mono (take_y h ⟨#[123]⟩ [123] 1 rfl rfl (by decide) H1.out) ?_
             rintro e1 w1 ⟨rfl, hx1, hkn⟩
             have hk1 := hk0.then hkn
             clear hkn
             go_wp2_with fail
             refine Calls.mono (hexDigits_any hx1 6 (by decide)) ?_
             intro e2 w2 hr
             rw [HV.out] at hr
             obtain ⟨rfl, hx2, hkn⟩ := hr
             have hk2 := hk1.then hkn
             clear hkn
             simp only
             rw [HL.out]
             go_wp2_with fail
             refine Calls.mono (take_y hx2 ⟨#[125]⟩ [125] 1 rfl rfl (by decide) H2.out) ?_
             rintro e3 w3 ⟨rfl, hx3, hkn⟩
             have hk3 := hk2.then hkn
             clear hkn
             have d3 := hx3.cells.c3
             have d4 := hx3.cells.c4
             rw [HUU.out] at d4
             go_wp2_with fail
             refine Calls.mono (fail_any hx3 21) ?_
             rintro e9 w9 ⟨rfl, hkn⟩
             exact ⟨rfl, rp_err HS.out ⟨rfl, (hk3.mono hB).trans hkn⟩⟩
           · rw [if_neg (by simp [hz, h2]; omega)] at hs
             have HS := Lib.hid hs
             have h5' : decide (v ≤ 57343) = false := by simpa using h5
             clear hs hz h2 h3 hu h5
             go_enter Tryz.func86, Tryz.ntmps86
             go_wp2_with fail
             refine Calls.mono (take_y h ⟨#[123]⟩ [123] 1 rfl rfl (by decide) H1.out) ?_
             rintro e1 w1 ⟨rfl, hx1, hkn⟩
             have hk1 := hk0.then hkn
             clear hkn
             go_wp2_with fail
             refine Calls.mono (hexDigits_any hx1 6 (by decide)) ?_
             intro e2 w2 hr
             rw [HV.out] at hr
             obtain ⟨rfl, hx2, hkn⟩ := hr
             have hk2 := hk1.then hkn
             clear hkn
             simp only
             rw [HL.out]
             go_wp2_with fail
             refine Calls.mono (take_y hx2 ⟨#[125]⟩ [125] 1 rfl rfl (by decide) H2.out) ?_
             rintro e3 w3 ⟨rfl, hx3, hkn⟩
             have hk3 := hk2.then hkn
             clear hkn
             have d3 := hx3.cells.c3
             have d4 := hx3.cells.c4
             rw [HUU.out] at d4
             go_wp2_with fail
             go_ret
             exact rp_ok HS.out ⟨rfl, hx3, hk3⟩
         · rw [if_neg (by simp [hz, h2]; omega)] at hs
           have HS := Lib.hid hs
           have h4' : decide (55296 ≤ v) = false := by simpa using h4
           clear hs hz h2 h3 hu h4
           go_enter Tryz.func86, Tryz.ntmps86
           go_wp2_with fail
           refine Calls.mono (take_y h ⟨#[123]⟩ [123] 1 rfl rfl (by decide) H1.out) ?_
           rintro e1 w1 ⟨rfl, hx1, hkn⟩
           have hk1 := hk0.then hkn
           clear hkn
           go_wp2_with fail
           refine Calls.mono (hexDigits_any hx1 6 (by decide)) ?_
           intro e2 w2 hr
           rw [HV.out] at hr
           obtain ⟨rfl, hx2, hkn⟩ := hr
           have hk2 := hk1.then hkn
           clear hkn
           simp only
           rw [HL.out]
           go_wp2_with fail
           refine Calls.mono (take_y hx2 ⟨#[125]⟩ [125] 1 rfl rfl (by decide) H2.out) ?_
           rintro e3 w3 ⟨rfl, hx3, hkn⟩
           have hk3 := hk2.then hkn
           clear hkn
           have d3 := hx3.cells.c3
           have d4 := hx3.cells.c4
           rw [HUU.out] at d4
           go_wp2_with fail
           go_ret
           exact rp_ok HS.out ⟨rfl, hx3, hk3⟩
theorem hexa_any {C : Cf} {w : World} {a f : Nat} {T : Rw} (h : LX C w a f T) : Calls Tryz.prog 86 #[.pointer (some ⟨C.L, 0, none⟩)] w (RP C w (C.p.hexa f a) (HxOk C w f T)) := by
 cases h1 : C.p.has [123] a with
 | false => exact hexa_no h h1
 | true => exact hexa_yes h h1
set_option maxHeartbeats 2000000 in
theorem propName_any {C : Cf} {w : World} {a f : Nat} {T : Rw} (h : LX C w a f T) : Calls Tryz.prog 112 #[.pointer (some ⟨C.L, 0, none⟩)] w (Ret C w (.string (C.p.propName a).1) (C.p.propName a).2 f T) := by
 have hk0 := Kept.refl w.heap.size C.L w
 have hB := h.hb
 cases h1 : C.p.has [123] a with
 | true =>
   have H1 := Lib.hid h1
   cases hu : C.p.until 125 (a + 1) with
   | none =>
     have HS := Lib.hid (show C.p.propName a = (⟨#[]⟩, a + 1) by unfold Pt.propName; rw [if_pos h1, hu])
     have HU := Lib.hid hu
     clear h1 hu
     go_enter Tryz.func112, Tryz.ntmps112
     go_wp2_with fail
     refine Calls.mono (take_y h ⟨#[123]⟩ [123] 1 rfl rfl (by decide) H1.out) ?_
     rintro e1 w1 ⟨rfl, hx1, hkn⟩
     have hk1 := hk0.then hkn
     clear hkn
     go_wp2_with fail
     refine Calls.mono (until_any hx1 125) ?_
     intro e2 w2 hr
     rw [show ((125 : UInt8).toNat : Int) = 125 from rfl, HU.out] at hr
     obtain ⟨rfl, hx2, hkn⟩ := hr
     have hk2 := hk1.then hkn
     clear hkn
     go_wp2_with fail
     go_ret
     rw [HS.out]
     exact ⟨rfl, hx2, hk2⟩
   | some i =>
     have HS := Lib.hid (show C.p.propName a = (C.p.sub (a + 1) i, i + 1) by unfold Pt.propName; rw [if_pos h1, hu])
     have HU := Lib.hid hu
     clear h1 hu
     go_enter Tryz.func112, Tryz.ntmps112
     go_wp2_with fail
     refine Calls.mono (take_y h ⟨#[123]⟩ [123] 1 rfl rfl (by decide) H1.out) ?_
     rintro e1 w1 ⟨rfl, hx1, hkn⟩
     have hk1 := hk0.then hkn
     clear hkn
     go_wp2_with fail
     refine Calls.mono (until_any hx1 125) ?_
     intro e2 w2 hr
     rw [show ((125 : UInt8).toNat : Int) = 125 from rfl, HU.out] at hr
     obtain ⟨rfl, hx2, hkn⟩ := hr
     have hk2 := hk1.then hkn
     clear hkn
     go_wp2_with fail
     go_ret
     rw [HS.out]
     exact ⟨rfl, hx2, hk2⟩
 | false =>
   have H1 := Lib.hid h1
   have HS := Lib.hid (show C.p.propName a = (C.p.sub a (C.p.char a).2, (C.p.char a).2) by unfold Pt.propName; rw [if_neg (by simp [h1])])
   have hcp := char_pure h.sl.1 h.an
   obtain ⟨_, q2, q3, _⟩ := hcp
   obtain ⟨b, hb⟩ : ∃ b, (C.p.char a).2 = b := ⟨_, rfl⟩
   rw [hb] at HS q2 q3
   have HBB := Lib.hid hb
   clear h1 hb
   go_enter Tryz.func112, Tryz.ntmps112
   go_wp2_with fail
   refine Calls.mono (take_n h ⟨#[123]⟩ [123] rfl (by decide) H1.out) ?_
   rintro e1 w1 ⟨rfl, hx1, hkn⟩
   have hk1 := hk0.then hkn
   clear hkn
   have d1 := hx1.cells.c1
   go_wp2_with fail
   refine Calls.mono (char_any hx1) ?_
   intro e2 w2 hr
   rw [HBB.out] at hr
   obtain ⟨rfl, hx2, hkn⟩ := hr
   have hk2 := hk1.then hkn
   have d0 := hx2.cells.c0
   have d2 := hx2.cells.c1
   obtain ⟨v', hs, hv⟩ := mid_sl hx2.sl q2 q3
   have hcv := fun n => conv_sl (Drawn.sl (⟨n, rfl⟩ : Drawn w2 (w2.drewN n)) hv)
   clear hv hkn d1
   go_wp2_with fail
   go_quiet (fail)
   go_wp2_with fail
   go_ret
   rw [HS.out]
   exact ⟨rfl, hx2.drewN _, hk2.drewN _⟩
end Go.Proofs.YtkcmjcgjfjfimaaGreatDoor.tkw
end
section
namespace Go.Proofs.YtkcmjcgjfjfimaaGreatDoor.tkw
open Go Go.RowKit Go.Maps utfp utfw ucdp setp setw prp tkp
theorem clen_from : ∀ {S : List Rg} {lo : Int}, Canon S → (∀ r ∈ S, lo ≤ r.1) → lo ≤ 1114113 → lo + 2 * S.length ≤ 1114113
 | [], lo, _, _, h => by simpa using h
 | r :: S, lo, h, hl, _ => by
   have hr := h.2 r (List.mem_cons_self ..)
   have h1 := hl r (List.mem_cons_self ..)
   have := clen_from (lo := r.2 + 2) (canon_tail h) (fun x hx => by have := (List.pairwise_cons.1 h.1).1 x hx; omega) (by omega)
   simp only [List.length_cons]
   push_cast
   omega
theorem clen {S : List Rg} (h : Canon S) : S.length ≤ 1000000 := by
 have := clen_from (lo := 0) h (fun r hr => (h.2 r hr).1) (by omega)
 omega
def cutP (s t : ByteArray) : ByteArray := if pre s t = true then s.extract t.size s.size else s
def CpQ (s t : ByteArray) (w : World) (e : Ending) (w' : World) : Prop := e = .returned (.tuple #[.string (cutP s t), .bool (pre s t)]) ∧ ∃ q, w' = w.drewN q
theorem cpQ_of {s t x : ByteArray} {b : Bool} {w : World} {q : Nat} (h : x = cutP s t) (hb : b = pre s t) : CpQ s t w (.returned (.tuple #[.string x, .bool b])) (w.drewN q) := by
 subst h hb
 exact ⟨rfl, q, rfl⟩
theorem cutLite_any (s t : ByteArray) (w : World) : Calls Tryz.prog 137 #[.string s, .string t] w (CpQ s t w) := by
 have HL := Lib.hid (prw.prefix_lite s t w)
 cases hp : pre s t with
 | false =>
   rw [hp] at HL
   have HP := Lib.hid hp
   clear hp
   go_enter Tryz.func137, Tryz.ntmps137
   go_wp2_with fail
   refine HL.out.mono ?_
   rintro e w1 ⟨rfl, q, rfl⟩
   go_wp2_with fail
   go_ret2
   exact cpQ_of (by unfold cutP; rw [if_neg (by simp [HP.out])]) HP.out.symm
 | true =>
   rw [hp] at HL
   have HP := Lib.hid hp
   have hsz : t.size ≤ s.size := by unfold pre at hp; simp only [Bool.and_eq_true, decide_eq_true_iff] at hp; exact hp.1
   have hszi : (t.size : Int) ≤ (s.size : Int) := by omega
   clear hp
   go_enter Tryz.func137, Tryz.ntmps137
   go_wp2_with fail
   refine HL.out.mono ?_
   rintro e w1 ⟨rfl, q, rfl⟩
   go_wp2_with fail
   go_ret2
   exact cpQ_of (by unfold cutP; rw [if_pos HP.out]) HP.out.symm
theorem cutPre_any (s t : ByteArray) (w : World) : Calls Tryz.prog 113 #[.string s, .string t] w (CpQ s t w) := by
 have HL := Lib.hid (cutLite_any s t w)
 go_enter Tryz.func113, Tryz.ntmps113
 go_wp2_with fail
 refine HL.out.mono ?_
 rintro e w1 ⟨rfl, q, rfl⟩
 go_wp2_with fail
 go_ret2
 exact cpQ_of rfl rfl
theorem unhat_cut (s : ByteArray) : cutP s ⟨#[94]⟩ = unhat s := rfl
theorem propName_size {p : Pt} (hg : ∀ i, 0 ≤ p.g i ∧ p.g i ≤ 255) {a : Nat} (ha : a ≤ p.n) (hn : p.n ≤ 1000) : (p.propName a).1.size ≤ 1000 := by
 unfold Pt.propName
 split
 · split
   · simp [ByteArray.size]
   · rename_i i hi
     have := find_bd hi
     rw [sub_size]
     omega
 · have := (char_pure hg ha).2.2.1
   rw [sub_size]
   omega
theorem unhat_size (s : ByteArray) : (unhat s).size ≤ s.size := by
 unfold unhat
 split
 · rw [ByteArray.size_extract]
   omega
 · omega
theorem norm_prop {m : Int} (hm : m ≤ 1114111) {n : ByteArray} {S : List Rg} (hS : ∀ c, Has S c ↔ 0 ≤ c ∧ c ≤ 1114111 ∧ propP n c = true) : normR m S = normR m (propL n) :=
 prop_norm hm hS (normR_canon hm S) (normR_has hm S)
def TkOk (C : Cf) (w : World) (f : Nat) (T : Rw) (r : Tk × Nat) : Ending → World → Prop := RetT C w r.1 r.2 f T
set_option maxHeartbeats 4000000 in
theorem property_any {C : Cf} {w : World} {a f : Nat} {T : Rw} (h : LX C w a f T) (neg : Bool) : Calls Tryz.prog 87 #[.pointer (some ⟨C.L, 0, none⟩), .bool neg] w (RP C w (C.p.prop f a neg) (TkOk C w f T)) := by
 have hpsz := propName_size h.sl.1 h.an h.ok.n
 have hus := unhat_size (C.p.propName a).1
 have hs : C.p.prop f a neg = if isP (unhat (C.p.propName a).1) = true then .ok ({ kind := 2, set := normR C.p.most (propL (unhat (C.p.propName a).1)), neg := neg != hat (C.p.propName a).1 }, (C.p.propName a).2) else .error (24, (f : Int)) := rfl
 have hcp := unhat_cut (C.p.propName a).1
 have hhat : pre (C.p.propName a).1 ⟨#[94]⟩ = hat (C.p.propName a).1 := rfl
 have hx9 := propName_any h
 have hbw := below_al w ob00
 have hx0 := h.below hbw
 have hg0 := heap_alloc_new w (.cells #[.int .i64 0, .int .i64 0, .int .i64 0, .int .i64 0, .slice none 0 0, .bool false, .int .i64 0, .int .i64 0, .int .i64 0, .string ⟨#[]⟩, .int .i64 0, .int .i64 0] 30)
 have hrl := h.row_lt (g := w.heap.size) (Nat.le_refl _)
 have hB := h.hb
 have hlt := h.cells.lt
 have hsz : (w.alloc ob00).heap.size = w.heap.size + 1 := World.size_alloc ..
 have HCT := Lib.hid (fun (s : ByteArray) (u : World) => cutPre_any s ⟨#[94]⟩ u)
 have htab := fun (u : World) (hu : LX C u (C.p.propName a).2 f T) => (fun i hi => below_cell hu.old (h.ok.tabS i hi) : prw.TabS u)
 have HTAB := Lib.hid htab
 clear htab
 generalize hnm : (C.p.propName a).1 = nm at *
 generalize hto : (C.p.propName a).2 = tb at *
 have HNM := Lib.hid hnm
 have HTO := Lib.hid hto
 have HCP := Lib.hid hcp
 have hm1 := most_le C.p
 clear hnm hto hcp hx9
 cases hh : hat nm with
 | false =>
   cases hi : isP (unhat nm) with
   | false =>
     rw [if_neg (by simp [hi])] at hs
     have HS := Lib.hid hs
     clear hs
     have HPR := Lib.hid (fun (u : World) (hT : prw.TabS u) => prw.property_any (unhat nm) u (show _ ≤ 9223372036854775807 by omega) hT)
     have HHT := Lib.hid hhat
     rw [hh] at HHT
     have hun : unhat nm = nm := by unfold unhat; rw [if_neg (by simp [hh])]
     rw [hun] at HPR hi HCP
     have HIP := Lib.hid hi
     clear hun hhat hh hi hus hpsz
     go_enter Tryz.func87, Tryz.ntmps87
     go_wp2_with fail
     generalize hWW : w.alloc ob00 = W at *
     have HSZ := Lib.hid hsz
     have HG0 := Lib.hid hg0
     have hkw := Kept.of_below (L := C.L) hbw
     have hk0 := Kept.refl W.heap.size C.L W
     clear hWW hsz hg0 hbw
     refine Calls.mono (propName_any hx0) ?_
     rintro e1 w1 hr
     rw [HNM.out, HTO.out] at hr
     obtain ⟨rfl, hx1, hkn⟩ := hr
     have hk1 := hk0.then hkn
     clear hkn
     go_wp2_with fail
     refine (HCT.out nm w1).mono ?_
     rintro e2 w2 hr
     unfold CpQ at hr
     rw [HCP.out, HHT.out] at hr
     obtain ⟨rfl, q2, rfl⟩ := hr
     have hx2 := hx1.drewN q2
     have hk2 := hk1.drewN q2
     go_wp2_with fail
     refine (HPR.out _ (HTAB.out _ hx2)).mono ?_
     rintro e3 w3 ⟨v3, S, rfl, hS, hhS, ho, hb3⟩
     rw [HIP.out]
     have hx3 := hx2.below hb3
     have hk3 := hk2.then (Kept.of_below (L := C.L) hb3)
     clear hS hhS ho
     go_wp2_with fail
     refine Calls.mono (fail_any hx3 24) ?_
     rintro e9 w9 ⟨rfl, hkn⟩
     exact ⟨rfl, rp_err HS.out ⟨rfl, ((hkw.then hk3).mono hB).trans hkn⟩⟩
   | true =>
     rw [if_pos hi, hh] at hs
     rw [show unhat nm = nm by unfold unhat; rw [if_neg (by simp [hh])], show (neg != false) = neg by simp] at hs
     have HS := Lib.hid hs
     clear hs
     have HPR := Lib.hid (fun (u : World) (hT : prw.TabS u) => prw.property_any (unhat nm) u (show _ ≤ 9223372036854775807 by omega) hT)
     have HHT := Lib.hid hhat
     rw [hh] at HHT
     have hun : unhat nm = nm := by unfold unhat; rw [if_neg (by simp [hh])]
     rw [hun] at HPR hi HCP
     have HIP := Lib.hid hi
     clear hun hhat hh hi hus hpsz
     go_enter Tryz.func87, Tryz.ntmps87
     go_wp2_with fail
     generalize hWW : w.alloc ob00 = W at *
     have HSZ := Lib.hid hsz
     have HG0 := Lib.hid hg0
     have hkw := Kept.of_below (L := C.L) hbw
     have hk0 := Kept.refl W.heap.size C.L W
     clear hWW hsz hg0 hbw
     refine Calls.mono (propName_any hx0) ?_
     rintro e1 w1 hr
     rw [HNM.out, HTO.out] at hr
     obtain ⟨rfl, hx1, hkn⟩ := hr
     have hk1 := hk0.then hkn
     clear hkn
     go_wp2_with fail
     refine (HCT.out nm w1).mono ?_
     rintro e2 w2 hr
     unfold CpQ at hr
     rw [HCP.out, HHT.out] at hr
     obtain ⟨rfl, q2, rfl⟩ := hr
     have hx2 := hx1.drewN q2
     have hk2 := hk1.drewN q2
     go_wp2_with fail
     refine (HPR.out _ (HTAB.out _ hx2)).mono ?_
     rintro e3 w3 ⟨v3, S, rfl, hS, hhS, ho, hb3⟩
     rw [HIP.out]
     have hx3 := hx2.below hb3
     have hk3 := hk2.then (Kept.of_below (L := C.L) hb3)
     have HRS := Lib.hid (rs_own ho (wf_canon hS.2))
     have HLN := Lib.hid (clen hS)
     have HEQ := Lib.hid (norm_prop hm1 hhS)
     clear hS hhS ho
     go_wp2_with fail
     refine Calls.mono (set_any hx3 v3 S neg HRS.out HLN.out) ?_
     rw [HEQ.out]
     rintro e4 w4 ⟨v4, rfl, ho, hx4, hkn⟩
     replace ho := ownR_base ho (hkw.then hk3).size
     obtain ⟨x4, y4, rfl⟩ := ownR_len ho
     have HO := Lib.hid ho
     have hk4 := hk3.then hkn
     clear hkn ho
     have HG := Lib.hid ((hk4.block w.heap.size (by rw [HSZ.out]; omega) (by omega)).trans HG0.out)
     go_wp2_with (refine wpList_store_tok rfl rfl _ _ rfl w.heap.size rfl _ (tkR (.slice x4 (normR C.p.most (propL nm)).length y4) ({ kind := 2, set := normR C.p.most (propL nm), neg := neg } : Tk)) HG.out rfl rfl (tkR_one (t := ({ kind := 2, set := normR C.p.most (propL nm), neg := neg } : Tk)) (HO.out)) rfl ?_)
     refine bodyPost_ret (results_tok rfl _ _ w.heap.size (tkR (.slice x4 (normR C.p.most (propL nm)).length y4) ({ kind := 2, set := normR C.p.most (propL nm), neg := neg } : Tk)) rfl (setRow_heap _ _ _ _ _ _ HG.out) rfl) rfl ?_
     exact rp_ok HS.out ⟨_, rfl, ownR_setRow (D := (({ kind := 2, set := normR C.p.most (propL nm), neg := neg } : Tk) : Tk).set) (HO.out) HG.out, hx4.setRow HG.out hB hrl, (hkw.then hk4).setRow (Nat.le_refl _) _⟩
 | true =>
   cases hi : isP (unhat nm) with
   | false =>
     rw [if_neg (by simp [hi])] at hs
     have HS := Lib.hid hs
     clear hs
     have HPR := Lib.hid (fun (u : World) (hT : prw.TabS u) => prw.property_any (unhat nm) u (show _ ≤ 9223372036854775807 by omega) hT)
     have HHT := Lib.hid hhat
     rw [hh] at HHT
     have HIP := Lib.hid hi
     clear hhat hh hi hus hpsz
     go_enter Tryz.func87, Tryz.ntmps87
     go_wp2_with fail
     generalize hWW : w.alloc ob00 = W at *
     have HSZ := Lib.hid hsz
     have HG0 := Lib.hid hg0
     have hkw := Kept.of_below (L := C.L) hbw
     have hk0 := Kept.refl W.heap.size C.L W
     clear hWW hsz hg0 hbw
     refine Calls.mono (propName_any hx0) ?_
     rintro e1 w1 hr
     rw [HNM.out, HTO.out] at hr
     obtain ⟨rfl, hx1, hkn⟩ := hr
     have hk1 := hk0.then hkn
     clear hkn
     go_wp2_with fail
     refine (HCT.out nm w1).mono ?_
     rintro e2 w2 hr
     unfold CpQ at hr
     rw [HCP.out, HHT.out] at hr
     obtain ⟨rfl, q2, rfl⟩ := hr
     have hx2 := hx1.drewN q2
     have hk2 := hk1.drewN q2
     go_wp2_with fail
     refine (HPR.out _ (HTAB.out _ hx2)).mono ?_
     rintro e3 w3 ⟨v3, S, rfl, hS, hhS, ho, hb3⟩
     rw [HIP.out]
     have hx3 := hx2.below hb3
     have hk3 := hk2.then (Kept.of_below (L := C.L) hb3)
     clear hS hhS ho
     go_wp2_with fail
     refine Calls.mono (fail_any hx3 24) ?_
     rintro e9 w9 ⟨rfl, hkn⟩
     exact ⟨rfl, rp_err HS.out ⟨rfl, ((hkw.then hk3).mono hB).trans hkn⟩⟩
   | true =>
     rw [if_pos hi, hh] at hs
     rw [show (neg != true) = !neg by simp] at hs
     have HS := Lib.hid hs
     clear hs
     have HPR := Lib.hid (fun (u : World) (hT : prw.TabS u) => prw.property_any (unhat nm) u (show _ ≤ 9223372036854775807 by omega) hT)
     have HHT := Lib.hid hhat
     rw [hh] at HHT
     have HIP := Lib.hid hi
     clear hhat hh hi hus hpsz
     go_enter Tryz.func87, Tryz.ntmps87
     go_wp2_with fail
     generalize hWW : w.alloc ob00 = W at *
     have HSZ := Lib.hid hsz
     have HG0 := Lib.hid hg0
     have hkw := Kept.of_below (L := C.L) hbw
     have hk0 := Kept.refl W.heap.size C.L W
     clear hWW hsz hg0 hbw
     refine Calls.mono (propName_any hx0) ?_
     rintro e1 w1 hr
     rw [HNM.out, HTO.out] at hr
     obtain ⟨rfl, hx1, hkn⟩ := hr
     have hk1 := hk0.then hkn
     clear hkn
     go_wp2_with fail
     refine (HCT.out nm w1).mono ?_
     rintro e2 w2 hr
     unfold CpQ at hr
     rw [HCP.out, HHT.out] at hr
     obtain ⟨rfl, q2, rfl⟩ := hr
     have hx2 := hx1.drewN q2
     have hk2 := hk1.drewN q2
     go_wp2_with fail
     refine (HPR.out _ (HTAB.out _ hx2)).mono ?_
     rintro e3 w3 ⟨v3, S, rfl, hS, hhS, ho, hb3⟩
     rw [HIP.out]
     have hx3 := hx2.below hb3
     have hk3 := hk2.then (Kept.of_below (L := C.L) hb3)
     have HRS := Lib.hid (rs_own ho (wf_canon hS.2))
     have HLN := Lib.hid (clen hS)
     have HEQ := Lib.hid (norm_prop hm1 hhS)
     clear hS hhS ho
     go_wp2_with fail
     refine Calls.mono (set_any hx3 v3 S (!neg) HRS.out HLN.out) ?_
     rw [HEQ.out]
     rintro e4 w4 ⟨v4, rfl, ho, hx4, hkn⟩
     replace ho := ownR_base ho (hkw.then hk3).size
     obtain ⟨x4, y4, rfl⟩ := ownR_len ho
     have HO := Lib.hid ho
     have hk4 := hk3.then hkn
     clear hkn ho
     have HG := Lib.hid ((hk4.block w.heap.size (by rw [HSZ.out]; omega) (by omega)).trans HG0.out)
     go_wp2_with (refine wpList_store_tok rfl rfl _ _ rfl w.heap.size rfl _ (tkR (.slice x4 (normR C.p.most (propL (unhat nm))).length y4) ({ kind := 2, set := normR C.p.most (propL (unhat nm)), neg := (!neg) } : Tk)) HG.out rfl rfl (tkR_one (t := ({ kind := 2, set := normR C.p.most (propL (unhat nm)), neg := (!neg) } : Tk)) (HO.out)) rfl ?_)
     refine bodyPost_ret (results_tok rfl _ _ w.heap.size (tkR (.slice x4 (normR C.p.most (propL (unhat nm))).length y4) ({ kind := 2, set := normR C.p.most (propL (unhat nm)), neg := (!neg) } : Tk)) rfl (setRow_heap _ _ _ _ _ _ HG.out) rfl) rfl ?_
     exact rp_ok HS.out ⟨_, rfl, ownR_setRow (D := (({ kind := 2, set := normR C.p.most (propL (unhat nm)), neg := (!neg) } : Tk) : Tk).set) (HO.out) HG.out, hx4.setRow HG.out hB hrl, (hkw.then hk4).setRow (Nat.le_refl _) _⟩
end Go.Proofs.YtkcmjcgjfjfimaaGreatDoor.tkw
end
