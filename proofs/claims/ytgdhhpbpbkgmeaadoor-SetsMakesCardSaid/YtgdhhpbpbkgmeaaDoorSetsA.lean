/- The contract of the statements' own look at layer 3, 'awake'. -/
import Derived.Test.YtgdhhpbpbkgmeaaDoorSetsW7
namespace Go.Proofs.YtgdhhpbpbkgmeaaDoor.setw
open Go Go.RowKit Go.Shelf Go.Proofs.YtgdhhpbpbkgmeaaDoor.bulk Go.Proofs.YtgdhhpbpbkgmeaaDoor.ucdp Go.Proofs.YtgdhhpbpbkgmeaaDoor.ucdw Go.Proofs.YtgdhhpbpbkgmeaaDoor.setp Go.Proofs.YtgdhhpbpbkgmeaaDoor.flt Go.Proofs.YtgdhhpbpbkgmeaaDoor.setl

theorem set_is {S T : List Rg} {p : Int → Prop} (hS : Canon S) (h : ∀ c, Has S c ↔ p c) (hT : Canon T) (h2 : ∀ c, Has T c ↔ p c) : S = T := canon_ext hS hT fun c => (h c).trans (h2 c).symm
theorem awk1 {S : List Rg} (hS : Canon S) (h : ∀ c, Has S c ↔ Has [(5, 7), (1, 3), (4, 4)] c ∧ 0 ≤ c ∧ c ≤ min 6 1114111) : S = [(1, 6)] :=
  set_is hS h ⟨List.pairwise_singleton _ _, inR_one (by decide) (by decide) (by decide)⟩ fun c => by
    simp only [has_cons, has_nil, or_false]
    omega
theorem awk2 {S : List Rg} (hS : Canon S) (h : ∀ c, Has S c ↔ Has [(107, 107)] c ∧ 0 ≤ c ∧ c ≤ min 255 1114111) : S = [(107, 107)] :=
  set_is hS h ⟨List.pairwise_singleton _ _, inR_one (by decide) (by decide) (by decide)⟩ fun c => by
    simp only [has_cons, has_nil, or_false]
    omega
theorem awk3 {S : List Rg} (hS : Canon S) (h : ∀ c, Has S c ↔ Has [(107, 107)] c ∨ ∃ d, Has [(107, 107)] d ∧ c ∈ othersP d true) : S = [(75, 75), (107, 107), (8490, 8490)] :=
  set_is hS h ⟨by decide, by
    intro r hr
    simp only [List.mem_cons, List.not_mem_nil, or_false] at hr
    rcases hr with rfl | rfl | rfl <;> decide⟩ fun c => by
    simp only [has_cons, has_nil, or_false]
    constructor
    · rintro (a | a | a)
      · exact Or.inr ⟨107, ⟨by omega, by omega⟩, by rw [show c = 75 by omega]; decide⟩
      · exact Or.inl a
      · exact Or.inr ⟨107, ⟨by omega, by omega⟩, by rw [show c = 8490 by omega]; decide⟩
    · rintro (a | ⟨d, a, b⟩)
      · omega
      · rw [show d = 107 by omega, show othersP 107 true = [75, 8490] from rfl] at b
        simp only [List.mem_cons, List.not_mem_nil, or_false] at b
        omega
theorem rs_lit3 (w : World) (T : TypeId) : RsAt (w.alloc (.cells #[.int .i64 5, .int .i64 7, .int .i64 1, .int .i64 3, .int .i64 4, .int .i64 4] T)) (.slice (some ⟨w.heap.size, 0, none⟩) 3 3) [(5, 7), (1, 3), (4, 4)] := by
  refine ⟨fun r hr => ?_, Or.inr ⟨by simp, w.heap.size, 0, 3, rfl, by simp, by omega, fun i hi => ?_⟩⟩
  · simp only [List.mem_cons, List.not_mem_nil, or_false] at hr
    rcases hr with rfl | rfl | rfl <;> decide
  · have h : i = 0 ∨ i = 1 ∨ i = 2 := by simp at hi; omega
    rcases h with rfl | rfl | rfl <;> constructor <;> rw [World.cell?_alloc_new] <;> rfl
theorem rs_lit1 (w : World) (T : TypeId) (a b : Int) (h : Wf [(a, b)]) : RsAt (w.alloc (.cells #[.int .i64 a, .int .i64 b] T)) (.slice (some ⟨w.heap.size, 0, none⟩) 1 1) [(a, b)] := by
  refine ⟨h, Or.inr ⟨by simp, w.heap.size, 0, 1, rfl, by simp, by omega, fun i hi => ?_⟩⟩
  have h : i = 0 := by simpa using hi
  subst h
  constructor <;> rw [World.cell?_alloc_new] <;> rfl
theorem ownR_one {w : World} {base : Nat} {v : Value} {r : Rg} (h : OwnR w base v [r]) : ∃ g cap, v = .slice (some ⟨g, 0, none⟩) 1 cap ∧ 1 ≤ cap ∧ cap ≤ 9223372036854775807 ∧ w.cell? ⟨g, 0, none⟩ = some (.int .i64 r.1) ∧ w.cell? ⟨g, 1, none⟩ = some (.int .i64 r.2) := by
  have h1 := h.1
  obtain ⟨_, h2⟩ := h.1
  rcases h2 with ⟨_, hn⟩ | ⟨g, cap, cur, hv, hg, hh, hnc, hcm, _⟩
  · cases hn
  · unfold maxLen at hcm
    rw [hv] at h1
    refine ⟨g, cap, hv, hnc, by omega, ?_, ?_⟩
    · rw [h1.cellAt 0 (by simp)]; rfl
    · rw [h1.cellAt 1 (by simp)]; rfl
/-- what is known of the first set and its ranges, from world to world -/
def KK (w : World) (b g : Nat) (sv : Value) (wi : World) : Prop := Below w.heap.size w wi ∧ wi.cell? ⟨b, 0, none⟩ = some sv ∧ ZsAt 0 wi sv [(1, 6)] ∧ wi.cell? ⟨g, 0, none⟩ = some (.int .i64 1) ∧ wi.cell? ⟨g, 1, none⟩ = some (.int .i64 6)
theorem kk_on {w wi wj : World} {b g : Nat} {sv : Value} (h : KK w b g sv wi) (hb : Below wi.heap.size wi wj) : KK w b g sv wj :=
  ⟨below_trans h.1 hb, below_cell hb h.2.1, zsAt_below h.2.2.1 hb, below_cell hb h.2.2.2.1, below_cell hb h.2.2.2.2⟩
/-- what is known of the second set -/
def KX (b : Nat) (kv : Value) (wi : World) : Prop := wi.cell? ⟨b, 0, none⟩ = some kv ∧ ZsAt 0 wi kv [(75, 75), (107, 107), (8490, 8490)]
theorem kx_on {wi wj : World} {b : Nat} {kv : Value} (h : KX b kv wi) (hb : Below wi.heap.size wi wj) : KX b kv wj := ⟨below_cell hb h.1, zsAt_below h.2 hb⟩
theorem canon_k : Canon [(75, 75), (107, 107), (8490, 8490)] := ⟨by decide, by
  intro r hr
  simp only [List.mem_cons, List.not_mem_nil, or_false] at hr
  rcases hr with rfl | rfl | rfl <;> decide⟩
theorem canon_s : Canon [(1, 6)] := ⟨List.pairwise_singleton _ _, inR_one (by decide) (by decide) (by decide)⟩
set_option maxRecDepth 100000 in
set_option maxHeartbeats 4000000 in
theorem awake_any (w : World) (hT : Tab3 w) : Calls Tryd.prog 12 #[] w (BoolB true w) := by
  have HT := Lib.hid hT
  clear hT
  go_enter Tryd.func12, Tryd.ntmps12
  go_wp2_with fail
  refine (new_any _ [(5, 7), (1, 3), (4, 4)] 6 _ (rs_lit3 w _) (by decide) (by decide) (by decide)).mono ?_
  rintro e w1 ⟨v1, S1, rfl, hS1, hh1, hz1, hb1⟩
  obtain rfl := awk1 hS1 hh1
  obtain ⟨g1, cp1, rfl⟩ := zsAt_len hz1
  change ZsAt _ _ (.slice g1 1 cp1) _ at hz1
  have HZ1 := Lib.hid (zsAt_mono hz1 (Nat.zero_le _))
  have HB1 := Lib.hid (below_trans (below_alloc _ _) hb1)
  clear hS1 hh1 hz1 hb1
  go_wp2_with fail
  have cA := cell_new w1 (.slice g1 1 cp1) 27
  refine (ranges_any _ [(1, 6)] 0 _ canon_s (zsAt_below HZ1.out cA.2.2.2)).mono ?_
  rintro e w2 ⟨v2, rfl, hr2, hb2⟩
  obtain ⟨g2, cp2, rfl, hc1, hc2, hd1, hd2⟩ := ownR_one hr2
  have hk2 : KK w w1.heap.size g2 (.slice g1 1 cp1) w2 := ⟨below_trans HB1.out (below_trans cA.2.2.2 hb2), below_cell hb2 cA.1, zsAt_below (zsAt_below HZ1.out cA.2.2.2) hb2, hd1, hd2⟩
  have HK2 := Lib.hid hk2
  clear cA hr2 hb2 hd1 hd2 hk2
  go_wp2_with fail
  refine (new_any _ [(107, 107)] 255 _ (rs_lit1 w2 _ 107 107 (fun r hr => by obtain rfl := List.mem_singleton.1 hr; decide)) (by decide) (by decide) (by decide)).mono ?_
  rintro e w3 ⟨v3, S3, rfl, hS3, hh3, hz3, hb3⟩
  obtain rfl := awk2 hS3 hh3
  obtain ⟨g3, cp3, rfl⟩ := zsAt_len hz3
  change ZsAt _ _ (.slice g3 1 cp3) _ at hz3
  have HK3 := Lib.hid (kk_on HK2.out (below_trans (below_alloc _ _) hb3))
  have HZ3 := Lib.hid (zsAt_mono hz3 (Nat.zero_le _))
  have HS3 := Lib.hid hS3
  clear hS3 hh3 hz3 hb3
  go_wp2_with fail
  obtain ⟨cK, fK, ltK, bK⟩ := cell_new w3 (.slice g3 1 cp3) 27
  have HTk := Lib.hid (below_tab (below_trans HK3.out.1 bK) HT.out)
  have HZk := Lib.hid (zsAt_below HZ3.out bK)
  generalize w3.alloc _ = wk at *
  refine (caseless_any _ _ 0 true wk HS3.out HZk.out HTk.out).mono ?_
  rintro e w4 ⟨v4, S4, rfl, hS4, hh4, hz4, hb4⟩
  obtain rfl := awk3 hS4 hh4
  obtain ⟨g4, cp4, rfl⟩ := zsAt_len hz4
  change ZsAt _ _ (.slice g4 3 cp4) _ at hz4
  obtain ⟨k4, l4⟩ := keeps hb4 ltK cK fK
  have hset : Below w3.heap.size w3 (w4.setCell ⟨w3.heap.size, 0, none⟩ (.slice g4 3 cp4)) := (bK.trans (hb4.mono (by omega))).setCell (Nat.le_refl _) _
  have HK5 := Lib.hid (kk_on HK3.out hset)
  have hx5 : KX w3.heap.size (.slice g4 3 cp4) (w4.setCell ⟨w3.heap.size, 0, none⟩ (.slice g4 3 cp4)) := ⟨World.cell?_setCell_same _ _ _ k4, zsAt_mono (zsAt_set hz4 ltK _) (Nat.zero_le _)⟩
  have HX5 := Lib.hid hx5
  have r1 := HK5.out.2.2.2.1
  have r2 := HK5.out.2.2.2.2
  have r3 := HK5.out.2.1
  clear hS4 hh4 hz4 hb4 cK fK bK hset hx5
  go_wp2_with fail
  clear k4 l4
  generalize w4.setCell _ _ = w5 at *
  refine (has_any _ [(1, 6)] 0 6 w5 canon_s HK5.out.2.2.1).mono ?_
  rintro e w6 ⟨rfl, hb6⟩
  have HK6 := Lib.hid (kk_on HK5.out hb6)
  have HX6 := Lib.hid (kx_on HX5.out hb6)
  have r4 := HK6.out.2.1
  rw [show hasB [(1, 6)] 6 = true from rfl]
  clear r1 r2 r3 hb6
  go_wp2_with fail
  refine (has_any _ [(1, 6)] 0 7 w6 canon_s HK6.out.2.2.1).mono ?_
  rintro e w7 ⟨rfl, hb7⟩
  have HK7 := Lib.hid (kk_on HK6.out hb7)
  have HX7 := Lib.hid (kx_on HX6.out hb7)
  have r5 := HX7.out.1
  rw [show hasB [(1, 6)] 7 = false from rfl]
  clear r4 hb7
  go_wp2_with fail
  refine (count_any _ [(75, 75), (107, 107), (8490, 8490)] 0 w7 canon_k HX7.out.2).mono ?_
  rintro e w8 ⟨rfl, hb8⟩
  have HK8 := Lib.hid (kk_on HK7.out hb8)
  have HX8 := Lib.hid (kx_on HX7.out hb8)
  have r6 := HX8.out.1
  rw [show tot [(75, 75), (107, 107), (8490, 8490)] = 3 from rfl]
  clear r5 hb8
  go_wp2_with fail
  refine (has_any _ [(75, 75), (107, 107), (8490, 8490)] 0 8490 w8 canon_k HX8.out.2).mono ?_
  rintro e w9 ⟨rfl, hb9⟩
  have HB9 := Lib.hid (kk_on HK8.out hb9).1
  rw [show hasB [(75, 75), (107, 107), (8490, 8490)] 8490 = true from rfl]
  clear r6 hb9
  go_wp2_with fail
  go_ret
  exact ⟨rfl, HB9.out⟩
end Go.Proofs.YtgdhhpbpbkgmeaaDoor.setw
