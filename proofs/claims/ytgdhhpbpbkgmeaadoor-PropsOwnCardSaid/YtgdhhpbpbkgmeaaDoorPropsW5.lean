/- The contract of package props' map of the POSIX classes. (Written by gen/props4.py.) -/
import Derived.Test.YtgdhhpbpbkgmeaaDoorPropsW4
namespace Go.Proofs.YtgdhhpbpbkgmeaaDoor.prw
open Go Go.RowKit Go.Proofs.YtgdhhpbpbkgmeaaDoor.bulk Go.Proofs.YtgdhhpbpbkgmeaaDoor.ucdp Go.Proofs.YtgdhhpbpbkgmeaaDoor.ucdw Go.Proofs.YtgdhhpbpbkgmeaaDoor.setp Go.Proofs.YtgdhhpbpbkgmeaaDoor.setw Go.Proofs.YtgdhhpbpbkgmeaaDoor.prp

theorem lit_cells {R : List Rg} {w : World} {cs : Array Value} {T : TypeId} (h : cs.toList = rcs R) (i : Nat) (hi : i < R.length) :
    (w.alloc (.cells cs T)).cell? ⟨w.heap.size, i * 2, none⟩ = some (.int .i64 R[i].1) ∧ (w.alloc (.cells cs T)).cell? ⟨w.heap.size, i * 2 + 1, none⟩ = some (.int .i64 R[i].2) := by
  have hr : ∀ (l : List Rg) (i : Nat) (hi : i < l.length), (rcs l)[i * 2]? = some (.int .i64 l[i].1) ∧ (rcs l)[i * 2 + 1]? = some (.int .i64 l[i].2) := by
    intro l
    induction l with
    | nil => intro i hi; cases hi
    | cons r l ih =>
      intro i hi
      cases i with
      | zero => exact ⟨rfl, rfl⟩
      | succ i =>
        have := ih i (by simpa using hi)
        have e1 : rcs (r :: l) = [.int .i64 r.1, .int .i64 r.2] ++ rcs l := rfl
        rw [e1, show (i + 1) * 2 = i * 2 + 2 by omega]
        constructor
        · rw [List.getElem?_append_right (by simp)]; simpa using this.1
        · rw [List.getElem?_append_right (by simp)]; simpa using this.2
  have h2 := hr R i hi
  rw [← h] at h2
  rw [World.cell?_alloc_new, World.cell?_alloc_new]
  simpa using h2
theorem of_lit (R : List Rg) (n : Nat) (cs : Array Value) (T : TypeId) (w : World) (B : Nat) (hB : B = w.heap.size) (hcs : cs.toList = rcs R) (hn : n = 2 * R.length) (hR : Canon R) (hl : R.length ≤ 1000) :
    Calls Tryd.prog 53 #[.slice (some ⟨B, 0, none⟩) n n] (w.alloc (.cells cs T)) (SetA w.heap.size R (w.alloc (.cells cs T))) := by
  subst hn
  subst hB
  refine (of_any R _ _ _ hR hl (lit_cells hcs)).mono ?_
  rintro e w' ⟨v, rfl, hz, hb⟩
  exact ⟨v, rfl, zsAt_mono hz (by rw [World.size_alloc]; omega), hb⟩
def canonB (R : List Rg) : Bool := (R.all fun r => decide (0 ≤ r.1) && decide (r.1 ≤ r.2) && decide (r.2 ≤ 1114111)) && decide (R.Pairwise (fun a b => a.2 + 1 < b.1))
theorem canon_of {R : List Rg} (h : canonB R = true) : Canon R := by
  unfold canonB at h
  simp only [Bool.and_eq_true, List.all_eq_true, decide_eq_true_eq] at h
  exact ⟨h.2, fun r hr => ⟨(h.1 r hr).1.1, (h.1 r hr).1.2, (h.1 r hr).2⟩⟩
/-- how far the map of the POSIX classes is filled -/
def PRelM (w : World) (k : Nat) (L : List (ByteArray × Value)) (wr : World) : Prop := MapV wr w.heap.size k L ∧ Below w.heap.size w wr ∧ PL wr L (posix.drop (14 - k))
theorem prel_on {w wr w' : World} {k : Nat} {L : List (ByteArray × Value)} (h : PRelM w k L wr) (hb : Below wr.heap.size wr w') : PRelM w k L w' := ⟨mapV_below h.1 hb, below_trans h.2.1 hb, pl_below hb h.2.2⟩
theorem prel_put {w wr w' : World} {k : Nat} {L : List (ByteArray × Value)} {key : ByteArray} {v : Value} {R : List Rg} {base : Nat} (h : PRelM w k L wr) (hz : ZsAt base wr v R) (hm : MapV w' w.heap.size (k + 1) ((key, .agg #[v]) :: L)) (hg : wr.grownBy w' (some w.heap.size))
    (he : posix.drop (14 - (k + 1)) = (key, R) :: posix.drop (14 - k)) : PRelM w (k + 1) ((key, .agg #[v]) :: L) w' := by
  refine ⟨hm, below_map h.2.1 hg (Nat.le_refl _), ?_⟩
  rw [he]
  exact ⟨rfl, ⟨v, rfl, zsAt_mono (zsAt_grown hz h.1 hg) (Nat.zero_le _)⟩, pl_grown h.1 hg h.2.2⟩
/-- the sets of the POSIX classes -/
def PosB (w : World) (e : Ending) (w' : World) : Prop := ∃ b n L, e = .returned (.map (some b)) ∧ MapV w' b n L ∧ Below w.heap.size w w' ∧ PL w' L posix
set_option maxRecDepth 100000 in
set_option maxHeartbeats 8000000 in
theorem posix_any (w : World) : Calls Tryd.prog 51 #[] w (PosB w) := by
  have hmm := @run_makeMap Tryd.prog
  have H0 := Lib.hid (show PRelM w 0 [] (w.alloc (.map #[] 0)) from ⟨mapV_made w, below_alloc _ _, trivial⟩)
  have hc_alpha := Lib.hid (canon_of (R := [(65, 90), (97, 122)]) (by decide +kernel))
  have hc_digit := Lib.hid (canon_of (R := [(48, 57)]) (by decide +kernel))
  have hc_alnum := Lib.hid (canon_of (R := [(48, 57), (65, 90), (97, 122)]) (by decide +kernel))
  have hc_upper := Lib.hid (canon_of (R := [(65, 90)]) (by decide +kernel))
  have hc_lower := Lib.hid (canon_of (R := [(97, 122)]) (by decide +kernel))
  have hc_space := Lib.hid (canon_of (R := [(9, 13), (32, 32)]) (by decide +kernel))
  have hc_blank := Lib.hid (canon_of (R := [(9, 9), (32, 32)]) (by decide +kernel))
  have hc_punct := Lib.hid (canon_of (R := [(33, 47), (58, 64), (91, 96), (123, 126)]) (by decide +kernel))
  have hc_cntrl := Lib.hid (canon_of (R := [(0, 31), (127, 127)]) (by decide +kernel))
  have hc_graph := Lib.hid (canon_of (R := [(33, 126)]) (by decide +kernel))
  have hc_print := Lib.hid (canon_of (R := [(32, 126)]) (by decide +kernel))
  have hc_xdigit := Lib.hid (canon_of (R := [(48, 57), (65, 70), (97, 102)]) (by decide +kernel))
  have hc_word := Lib.hid (canon_of (R := [(48, 57), (65, 90), (95, 95), (97, 122)]) (by decide +kernel))
  have hc_ascii := Lib.hid (canon_of (R := [(0, 127)]) (by decide +kernel))
  go_enter Tryd.func51, Tryd.ntmps51
  go_wp2_with fail
  refine Calls.mono (of_lit [(65, 90), (97, 122)] 4 _ _ (w.alloc (.map #[] 0)) _ (by first | rfl | simp) (by rfl) (by rfl) hc_alpha.out (by decide)) ?_
  rintro e u0 ⟨v0, rfl, hz, hb⟩
  have HQ := Lib.hid (prel_on H0.out ((below_alloc (w.alloc (.map #[] 0)) _).trans (hb.mono (below_alloc (w.alloc (.map #[] 0)) _).size)))
  have HZ := Lib.hid hz
  clear hz hb H0
  go_wp2_with (refine wpList_insert_v rfl rfl 66 27 _ _ _ ⟨#[97, 108, 112, 104, 97]⟩ rfl rfl Tryd.underlying66 w.heap.size 0 [] rfl HQ.out.1 (by decide) (by decide) _ rfl ?_; intro w1 hm hg; have H1 := Lib.hid (prel_put HQ.out HZ.out hm hg rfl); clear hm hg HQ HZ)
  refine Calls.mono (of_lit [(48, 57)] 2 _ _ w1 _ (by first | rfl | simp) (by rfl) (by rfl) hc_digit.out (by decide)) ?_
  rintro e u1 ⟨v1, rfl, hz, hb⟩
  have HQ := Lib.hid (prel_on H1.out ((below_alloc w1 _).trans (hb.mono (below_alloc w1 _).size)))
  have HZ := Lib.hid hz
  clear hz hb H1
  go_wp2_with (refine wpList_insert_v rfl rfl 66 27 _ _ _ ⟨#[100, 105, 103, 105, 116]⟩ rfl rfl Tryd.underlying66 w.heap.size 1 ((⟨#[97, 108, 112, 104, 97]⟩, .agg #[v0]) :: []) rfl HQ.out.1 (by decide) (by decide) _ rfl ?_; intro w2 hm hg; have H2 := Lib.hid (prel_put HQ.out HZ.out hm hg rfl); clear hm hg HQ HZ)
  refine Calls.mono (of_lit [(48, 57), (65, 90), (97, 122)] 6 _ _ w2 _ (by first | rfl | simp) (by rfl) (by rfl) hc_alnum.out (by decide)) ?_
  rintro e u2 ⟨v2, rfl, hz, hb⟩
  have HQ := Lib.hid (prel_on H2.out ((below_alloc w2 _).trans (hb.mono (below_alloc w2 _).size)))
  have HZ := Lib.hid hz
  clear hz hb H2
  go_wp2_with (refine wpList_insert_v rfl rfl 66 27 _ _ _ ⟨#[97, 108, 110, 117, 109]⟩ rfl rfl Tryd.underlying66 w.heap.size 2 ((⟨#[100, 105, 103, 105, 116]⟩, .agg #[v1]) :: ((⟨#[97, 108, 112, 104, 97]⟩, .agg #[v0]) :: [])) rfl HQ.out.1 (by decide) (by decide) _ rfl ?_; intro w3 hm hg; have H3 := Lib.hid (prel_put HQ.out HZ.out hm hg rfl); clear hm hg HQ HZ)
  refine Calls.mono (of_lit [(65, 90)] 2 _ _ w3 _ (by first | rfl | simp) (by rfl) (by rfl) hc_upper.out (by decide)) ?_
  rintro e u3 ⟨v3, rfl, hz, hb⟩
  have HQ := Lib.hid (prel_on H3.out ((below_alloc w3 _).trans (hb.mono (below_alloc w3 _).size)))
  have HZ := Lib.hid hz
  clear hz hb H3
  go_wp2_with (refine wpList_insert_v rfl rfl 66 27 _ _ _ ⟨#[117, 112, 112, 101, 114]⟩ rfl rfl Tryd.underlying66 w.heap.size 3 ((⟨#[97, 108, 110, 117, 109]⟩, .agg #[v2]) :: ((⟨#[100, 105, 103, 105, 116]⟩, .agg #[v1]) :: ((⟨#[97, 108, 112, 104, 97]⟩, .agg #[v0]) :: []))) rfl HQ.out.1 (by decide) (by decide) _ rfl ?_; intro w4 hm hg; have H4 := Lib.hid (prel_put HQ.out HZ.out hm hg rfl); clear hm hg HQ HZ)
  refine Calls.mono (of_lit [(97, 122)] 2 _ _ w4 _ (by first | rfl | simp) (by rfl) (by rfl) hc_lower.out (by decide)) ?_
  rintro e u4 ⟨v4, rfl, hz, hb⟩
  have HQ := Lib.hid (prel_on H4.out ((below_alloc w4 _).trans (hb.mono (below_alloc w4 _).size)))
  have HZ := Lib.hid hz
  clear hz hb H4
  go_wp2_with (refine wpList_insert_v rfl rfl 66 27 _ _ _ ⟨#[108, 111, 119, 101, 114]⟩ rfl rfl Tryd.underlying66 w.heap.size 4 ((⟨#[117, 112, 112, 101, 114]⟩, .agg #[v3]) :: ((⟨#[97, 108, 110, 117, 109]⟩, .agg #[v2]) :: ((⟨#[100, 105, 103, 105, 116]⟩, .agg #[v1]) :: ((⟨#[97, 108, 112, 104, 97]⟩, .agg #[v0]) :: [])))) rfl HQ.out.1 (by decide) (by decide) _ rfl ?_; intro w5 hm hg; have H5 := Lib.hid (prel_put HQ.out HZ.out hm hg rfl); clear hm hg HQ HZ)
  refine Calls.mono (of_lit [(9, 13), (32, 32)] 4 _ _ w5 _ (by first | rfl | simp) (by rfl) (by rfl) hc_space.out (by decide)) ?_
  rintro e u5 ⟨v5, rfl, hz, hb⟩
  have HQ := Lib.hid (prel_on H5.out ((below_alloc w5 _).trans (hb.mono (below_alloc w5 _).size)))
  have HZ := Lib.hid hz
  clear hz hb H5
  go_wp2_with (refine wpList_insert_v rfl rfl 66 27 _ _ _ ⟨#[115, 112, 97, 99, 101]⟩ rfl rfl Tryd.underlying66 w.heap.size 5 ((⟨#[108, 111, 119, 101, 114]⟩, .agg #[v4]) :: ((⟨#[117, 112, 112, 101, 114]⟩, .agg #[v3]) :: ((⟨#[97, 108, 110, 117, 109]⟩, .agg #[v2]) :: ((⟨#[100, 105, 103, 105, 116]⟩, .agg #[v1]) :: ((⟨#[97, 108, 112, 104, 97]⟩, .agg #[v0]) :: []))))) rfl HQ.out.1 (by decide) (by decide) _ rfl ?_; intro w6 hm hg; have H6 := Lib.hid (prel_put HQ.out HZ.out hm hg rfl); clear hm hg HQ HZ)
  refine Calls.mono (of_lit [(9, 9), (32, 32)] 4 _ _ w6 _ (by first | rfl | simp) (by rfl) (by rfl) hc_blank.out (by decide)) ?_
  rintro e u6 ⟨v6, rfl, hz, hb⟩
  have HQ := Lib.hid (prel_on H6.out ((below_alloc w6 _).trans (hb.mono (below_alloc w6 _).size)))
  have HZ := Lib.hid hz
  clear hz hb H6
  go_wp2_with (refine wpList_insert_v rfl rfl 66 27 _ _ _ ⟨#[98, 108, 97, 110, 107]⟩ rfl rfl Tryd.underlying66 w.heap.size 6 ((⟨#[115, 112, 97, 99, 101]⟩, .agg #[v5]) :: ((⟨#[108, 111, 119, 101, 114]⟩, .agg #[v4]) :: ((⟨#[117, 112, 112, 101, 114]⟩, .agg #[v3]) :: ((⟨#[97, 108, 110, 117, 109]⟩, .agg #[v2]) :: ((⟨#[100, 105, 103, 105, 116]⟩, .agg #[v1]) :: ((⟨#[97, 108, 112, 104, 97]⟩, .agg #[v0]) :: [])))))) rfl HQ.out.1 (by decide) (by decide) _ rfl ?_; intro w7 hm hg; have H7 := Lib.hid (prel_put HQ.out HZ.out hm hg rfl); clear hm hg HQ HZ)
  refine Calls.mono (of_lit [(33, 47), (58, 64), (91, 96), (123, 126)] 8 _ _ w7 _ (by first | rfl | simp) (by rfl) (by rfl) hc_punct.out (by decide)) ?_
  rintro e u7 ⟨v7, rfl, hz, hb⟩
  have HQ := Lib.hid (prel_on H7.out ((below_alloc w7 _).trans (hb.mono (below_alloc w7 _).size)))
  have HZ := Lib.hid hz
  clear hz hb H7
  go_wp2_with (refine wpList_insert_v rfl rfl 66 27 _ _ _ ⟨#[112, 117, 110, 99, 116]⟩ rfl rfl Tryd.underlying66 w.heap.size 7 ((⟨#[98, 108, 97, 110, 107]⟩, .agg #[v6]) :: ((⟨#[115, 112, 97, 99, 101]⟩, .agg #[v5]) :: ((⟨#[108, 111, 119, 101, 114]⟩, .agg #[v4]) :: ((⟨#[117, 112, 112, 101, 114]⟩, .agg #[v3]) :: ((⟨#[97, 108, 110, 117, 109]⟩, .agg #[v2]) :: ((⟨#[100, 105, 103, 105, 116]⟩, .agg #[v1]) :: ((⟨#[97, 108, 112, 104, 97]⟩, .agg #[v0]) :: []))))))) rfl HQ.out.1 (by decide) (by decide) _ rfl ?_; intro w8 hm hg; have H8 := Lib.hid (prel_put HQ.out HZ.out hm hg rfl); clear hm hg HQ HZ)
  refine Calls.mono (of_lit [(0, 31), (127, 127)] 4 _ _ w8 _ (by first | rfl | simp) (by rfl) (by rfl) hc_cntrl.out (by decide)) ?_
  rintro e u8 ⟨v8, rfl, hz, hb⟩
  have HQ := Lib.hid (prel_on H8.out ((below_alloc w8 _).trans (hb.mono (below_alloc w8 _).size)))
  have HZ := Lib.hid hz
  clear hz hb H8
  go_wp2_with (refine wpList_insert_v rfl rfl 66 27 _ _ _ ⟨#[99, 110, 116, 114, 108]⟩ rfl rfl Tryd.underlying66 w.heap.size 8 ((⟨#[112, 117, 110, 99, 116]⟩, .agg #[v7]) :: ((⟨#[98, 108, 97, 110, 107]⟩, .agg #[v6]) :: ((⟨#[115, 112, 97, 99, 101]⟩, .agg #[v5]) :: ((⟨#[108, 111, 119, 101, 114]⟩, .agg #[v4]) :: ((⟨#[117, 112, 112, 101, 114]⟩, .agg #[v3]) :: ((⟨#[97, 108, 110, 117, 109]⟩, .agg #[v2]) :: ((⟨#[100, 105, 103, 105, 116]⟩, .agg #[v1]) :: ((⟨#[97, 108, 112, 104, 97]⟩, .agg #[v0]) :: [])))))))) rfl HQ.out.1 (by decide) (by decide) _ rfl ?_; intro w9 hm hg; have H9 := Lib.hid (prel_put HQ.out HZ.out hm hg rfl); clear hm hg HQ HZ)
  refine Calls.mono (of_lit [(33, 126)] 2 _ _ w9 _ (by first | rfl | simp) (by rfl) (by rfl) hc_graph.out (by decide)) ?_
  rintro e u9 ⟨v9, rfl, hz, hb⟩
  have HQ := Lib.hid (prel_on H9.out ((below_alloc w9 _).trans (hb.mono (below_alloc w9 _).size)))
  have HZ := Lib.hid hz
  clear hz hb H9
  go_wp2_with (refine wpList_insert_v rfl rfl 66 27 _ _ _ ⟨#[103, 114, 97, 112, 104]⟩ rfl rfl Tryd.underlying66 w.heap.size 9 ((⟨#[99, 110, 116, 114, 108]⟩, .agg #[v8]) :: ((⟨#[112, 117, 110, 99, 116]⟩, .agg #[v7]) :: ((⟨#[98, 108, 97, 110, 107]⟩, .agg #[v6]) :: ((⟨#[115, 112, 97, 99, 101]⟩, .agg #[v5]) :: ((⟨#[108, 111, 119, 101, 114]⟩, .agg #[v4]) :: ((⟨#[117, 112, 112, 101, 114]⟩, .agg #[v3]) :: ((⟨#[97, 108, 110, 117, 109]⟩, .agg #[v2]) :: ((⟨#[100, 105, 103, 105, 116]⟩, .agg #[v1]) :: ((⟨#[97, 108, 112, 104, 97]⟩, .agg #[v0]) :: []))))))))) rfl HQ.out.1 (by decide) (by decide) _ rfl ?_; intro w10 hm hg; have H10 := Lib.hid (prel_put HQ.out HZ.out hm hg rfl); clear hm hg HQ HZ)
  refine Calls.mono (of_lit [(32, 126)] 2 _ _ w10 _ (by first | rfl | simp) (by rfl) (by rfl) hc_print.out (by decide)) ?_
  rintro e u10 ⟨v10, rfl, hz, hb⟩
  have HQ := Lib.hid (prel_on H10.out ((below_alloc w10 _).trans (hb.mono (below_alloc w10 _).size)))
  have HZ := Lib.hid hz
  clear hz hb H10
  go_wp2_with (refine wpList_insert_v rfl rfl 66 27 _ _ _ ⟨#[112, 114, 105, 110, 116]⟩ rfl rfl Tryd.underlying66 w.heap.size 10 ((⟨#[103, 114, 97, 112, 104]⟩, .agg #[v9]) :: ((⟨#[99, 110, 116, 114, 108]⟩, .agg #[v8]) :: ((⟨#[112, 117, 110, 99, 116]⟩, .agg #[v7]) :: ((⟨#[98, 108, 97, 110, 107]⟩, .agg #[v6]) :: ((⟨#[115, 112, 97, 99, 101]⟩, .agg #[v5]) :: ((⟨#[108, 111, 119, 101, 114]⟩, .agg #[v4]) :: ((⟨#[117, 112, 112, 101, 114]⟩, .agg #[v3]) :: ((⟨#[97, 108, 110, 117, 109]⟩, .agg #[v2]) :: ((⟨#[100, 105, 103, 105, 116]⟩, .agg #[v1]) :: ((⟨#[97, 108, 112, 104, 97]⟩, .agg #[v0]) :: [])))))))))) rfl HQ.out.1 (by decide) (by decide) _ rfl ?_; intro w11 hm hg; have H11 := Lib.hid (prel_put HQ.out HZ.out hm hg rfl); clear hm hg HQ HZ)
  refine Calls.mono (of_lit [(48, 57), (65, 70), (97, 102)] 6 _ _ w11 _ (by first | rfl | simp) (by rfl) (by rfl) hc_xdigit.out (by decide)) ?_
  rintro e u11 ⟨v11, rfl, hz, hb⟩
  have HQ := Lib.hid (prel_on H11.out ((below_alloc w11 _).trans (hb.mono (below_alloc w11 _).size)))
  have HZ := Lib.hid hz
  clear hz hb H11
  go_wp2_with (refine wpList_insert_v rfl rfl 66 27 _ _ _ ⟨#[120, 100, 105, 103, 105, 116]⟩ rfl rfl Tryd.underlying66 w.heap.size 11 ((⟨#[112, 114, 105, 110, 116]⟩, .agg #[v10]) :: ((⟨#[103, 114, 97, 112, 104]⟩, .agg #[v9]) :: ((⟨#[99, 110, 116, 114, 108]⟩, .agg #[v8]) :: ((⟨#[112, 117, 110, 99, 116]⟩, .agg #[v7]) :: ((⟨#[98, 108, 97, 110, 107]⟩, .agg #[v6]) :: ((⟨#[115, 112, 97, 99, 101]⟩, .agg #[v5]) :: ((⟨#[108, 111, 119, 101, 114]⟩, .agg #[v4]) :: ((⟨#[117, 112, 112, 101, 114]⟩, .agg #[v3]) :: ((⟨#[97, 108, 110, 117, 109]⟩, .agg #[v2]) :: ((⟨#[100, 105, 103, 105, 116]⟩, .agg #[v1]) :: ((⟨#[97, 108, 112, 104, 97]⟩, .agg #[v0]) :: []))))))))))) rfl HQ.out.1 (by decide) (by decide) _ rfl ?_; intro w12 hm hg; have H12 := Lib.hid (prel_put HQ.out HZ.out hm hg rfl); clear hm hg HQ HZ)
  refine Calls.mono (of_lit [(48, 57), (65, 90), (95, 95), (97, 122)] 8 _ _ w12 _ (by first | rfl | simp) (by rfl) (by rfl) hc_word.out (by decide)) ?_
  rintro e u12 ⟨v12, rfl, hz, hb⟩
  have HQ := Lib.hid (prel_on H12.out ((below_alloc w12 _).trans (hb.mono (below_alloc w12 _).size)))
  have HZ := Lib.hid hz
  clear hz hb H12
  go_wp2_with (refine wpList_insert_v rfl rfl 66 27 _ _ _ ⟨#[119, 111, 114, 100]⟩ rfl rfl Tryd.underlying66 w.heap.size 12 ((⟨#[120, 100, 105, 103, 105, 116]⟩, .agg #[v11]) :: ((⟨#[112, 114, 105, 110, 116]⟩, .agg #[v10]) :: ((⟨#[103, 114, 97, 112, 104]⟩, .agg #[v9]) :: ((⟨#[99, 110, 116, 114, 108]⟩, .agg #[v8]) :: ((⟨#[112, 117, 110, 99, 116]⟩, .agg #[v7]) :: ((⟨#[98, 108, 97, 110, 107]⟩, .agg #[v6]) :: ((⟨#[115, 112, 97, 99, 101]⟩, .agg #[v5]) :: ((⟨#[108, 111, 119, 101, 114]⟩, .agg #[v4]) :: ((⟨#[117, 112, 112, 101, 114]⟩, .agg #[v3]) :: ((⟨#[97, 108, 110, 117, 109]⟩, .agg #[v2]) :: ((⟨#[100, 105, 103, 105, 116]⟩, .agg #[v1]) :: ((⟨#[97, 108, 112, 104, 97]⟩, .agg #[v0]) :: [])))))))))))) rfl HQ.out.1 (by decide) (by decide) _ rfl ?_; intro w13 hm hg; have H13 := Lib.hid (prel_put HQ.out HZ.out hm hg rfl); clear hm hg HQ HZ)
  refine Calls.mono (of_lit [(0, 127)] 2 _ _ w13 _ (by first | rfl | simp) (by rfl) (by rfl) hc_ascii.out (by decide)) ?_
  rintro e u13 ⟨v13, rfl, hz, hb⟩
  have HQ := Lib.hid (prel_on H13.out ((below_alloc w13 _).trans (hb.mono (below_alloc w13 _).size)))
  have HZ := Lib.hid hz
  clear hz hb H13
  go_wp2_with (refine wpList_insert_v rfl rfl 66 27 _ _ _ ⟨#[97, 115, 99, 105, 105]⟩ rfl rfl Tryd.underlying66 w.heap.size 13 ((⟨#[119, 111, 114, 100]⟩, .agg #[v12]) :: ((⟨#[120, 100, 105, 103, 105, 116]⟩, .agg #[v11]) :: ((⟨#[112, 114, 105, 110, 116]⟩, .agg #[v10]) :: ((⟨#[103, 114, 97, 112, 104]⟩, .agg #[v9]) :: ((⟨#[99, 110, 116, 114, 108]⟩, .agg #[v8]) :: ((⟨#[112, 117, 110, 99, 116]⟩, .agg #[v7]) :: ((⟨#[98, 108, 97, 110, 107]⟩, .agg #[v6]) :: ((⟨#[115, 112, 97, 99, 101]⟩, .agg #[v5]) :: ((⟨#[108, 111, 119, 101, 114]⟩, .agg #[v4]) :: ((⟨#[117, 112, 112, 101, 114]⟩, .agg #[v3]) :: ((⟨#[97, 108, 110, 117, 109]⟩, .agg #[v2]) :: ((⟨#[100, 105, 103, 105, 116]⟩, .agg #[v1]) :: ((⟨#[97, 108, 112, 104, 97]⟩, .agg #[v0]) :: []))))))))))))) rfl HQ.out.1 (by decide) (by decide) _ rfl ?_; intro w14 hm hg; have H14 := Lib.hid (prel_put HQ.out HZ.out hm hg rfl); clear hm hg HQ HZ)
  go_ret
  exact ⟨w.heap.size, 14, _, rfl, H14.out.1, H14.out.2.1, H14.out.2.2⟩
end Go.Proofs.YtgdhhpbpbkgmeaaDoor.prw
