/- Texts that TokensQuoteLaw leans on, merged: what the functions of the program answer. -/
import Derived.Laws.Shifts
import Derived.Test.YtkcmjcgjfjfimaaGreatDoorBQu05
import Derived.Test.YtkcmjcgjfjfimaaGreatDoorBQu07
section
namespace Go.Proofs.YtkcmjcgjfjfimaaGreatDoor.prw
open Go Go.RowKit bulk ucdp ucdw setp setw prp
theorem lit_cells {R : List Rg} {w : World} {cs : Array Value} {T : TypeId} (h : cs.toList = rcs R) (i : Nat) (hi : i < R.length) :
   (w.alloc (.cells cs T)).cell? ⟨w.heap.size, i * 2, none⟩ = some (.int .i64 R[i].1) ∧ (w.alloc (.cells cs T)).cell? ⟨w.heap.size, i * 2 + 1, none⟩ = some (.int .i64 R[i].2) := by
 have hr : ∀ (l : List Rg) (i : Nat) (hi : i < l.length), (rcs l)[i * 2]? = some (.int .i64 l[i].1) ∧ (rcs l)[i * 2 + 1]? = some (.int .i64 l[i].2) := by
   intro l
   induction l with
   | nil => intro i hi; cases hi
   | cons r l ih =>
     intro i hi
     cases i with
     | zero => exact ⟨rfl, rfl⟩
     | succ i =>
       have := ih i (by simpa using hi)
       have e1 : rcs (r :: l) = [.int .i64 r.1, .int .i64 r.2] ++ rcs l := rfl
       rw [e1, show (i + 1) * 2 = i * 2 + 2 by omega]
       constructor
       · rw [List.getElem?_append_right (by simp)]; simpa using this.1
       · rw [List.getElem?_append_right (by simp)]; simpa using this.2
 have h2 := hr R i hi
 rw [← h] at h2
 rw [World.cell?_alloc_new, World.cell?_alloc_new]
 simpa using h2
theorem of_lit (R : List Rg) (n : Nat) (cs : Array Value) (T : TypeId) (w : World) (B : Nat) (hB : B = w.heap.size) (hcs : cs.toList = rcs R) (hn : n = 2 * R.length) (hR : Canon R) (hl : R.length ≤ 1000) :
   Calls Tryz.prog 116 #[.slice (some ⟨B, 0, none⟩) n n] (w.alloc (.cells cs T)) (SetA w.heap.size R (w.alloc (.cells cs T))) := by
 subst hn
 subst hB
 refine (of_any R _ _ _ hR hl (lit_cells hcs)).mono ?_
 rintro e w' ⟨v, rfl, hz, hb⟩
 exact ⟨v, rfl, zsAt_mono hz (by rw [World.size_alloc]; omega), hb⟩
def canonB (R : List Rg) : Bool := (R.all fun r => decide (0 ≤ r.1) && decide (r.1 ≤ r.2) && decide (r.2 ≤ 1114111)) && decide (R.Pairwise (fun a b => a.2 + 1 < b.1))
theorem canon_of {R : List Rg} (h : canonB R = true) : Canon R := by
 unfold canonB at h
 simp only [Bool.and_eq_true, List.all_eq_true, decide_eq_true_eq] at h
 exact ⟨h.2, fun r hr => ⟨(h.1 r hr).1.1, (h.1 r hr).1.2, (h.1 r hr).2⟩⟩
def PRelM (w : World) (k : Nat) (L : List (ByteArray × Value)) (wr : World) : Prop := MapV wr w.heap.size k L ∧ Below w.heap.size w wr ∧ PL wr L (posix.drop (14 - k))
theorem prel_on {w wr w' : World} {k : Nat} {L : List (ByteArray × Value)} (h : PRelM w k L wr) (hb : Below wr.heap.size wr w') : PRelM w k L w' := ⟨mapV_below h.1 hb, below_trans h.2.1 hb, pl_below hb h.2.2⟩
theorem prel_put {w wr w' : World} {k : Nat} {L : List (ByteArray × Value)} {key : ByteArray} {v : Value} {R : List Rg} {base : Nat} (h : PRelM w k L wr) (hz : ZsAt base wr v R) (hm : MapV w' w.heap.size (k + 1) ((key, .agg #[v]) :: L)) (hg : wr.grownBy w' (some w.heap.size))
   (he : posix.drop (14 - (k + 1)) = (key, R) :: posix.drop (14 - k)) : PRelM w (k + 1) ((key, .agg #[v]) :: L) w' := by
 refine ⟨hm, below_map h.2.1 hg (Nat.le_refl _), ?_⟩
 rw [he]
 exact ⟨rfl, ⟨v, rfl, zsAt_mono (zsAt_grown hz h.1 hg) (Nat.zero_le _)⟩, pl_grown h.1 hg h.2.2⟩
def PosB (w : World) (e : Ending) (w' : World) : Prop := ∃ b n L, e = .returned (.map (some b)) ∧ MapV w' b n L ∧ Below w.heap.size w w' ∧ PL w' L posix
set_option maxRecDepth 100000 in
set_option maxHeartbeats 8000000 in
theorem posix_any (w : World) : Calls Tryz.prog 148 #[] w (PosB w) := by
 have hmm := @run_makeMap Tryz.prog
 have H0 := Lib.hid (show PRelM w 0 [] (w.alloc (.map #[] 0)) from ⟨mapV_made w, below_alloc _ _, trivial⟩)
 have hc_alpha := Lib.hid (canon_of (R := [(65, 90), (97, 122)]) (by decide +kernel))
 have hc_digit := Lib.hid (canon_of (R := [(48, 57)]) (by decide +kernel))
 have hc_alnum := Lib.hid (canon_of (R := [(48, 57), (65, 90), (97, 122)]) (by decide +kernel))
 have hc_upper := Lib.hid (canon_of (R := [(65, 90)]) (by decide +kernel))
 have hc_lower := Lib.hid (canon_of (R := [(97, 122)]) (by decide +kernel))
 have hc_space := Lib.hid (canon_of (R := [(9, 13), (32, 32)]) (by decide +kernel))
 have hc_blank := Lib.hid (canon_of (R := [(9, 9), (32, 32)]) (by decide +kernel))
 have hc_punct := Lib.hid (canon_of (R := [(33, 47), (58, 64), (91, 96), (123, 126)]) (by decide +kernel))
 have hc_cntrl := Lib.hid (canon_of (R := [(0, 31), (127, 127)]) (by decide +kernel))
 have hc_graph := Lib.hid (canon_of (R := [(33, 126)]) (by decide +kernel))
 have hc_print := Lib.hid (canon_of (R := [(32, 126)]) (by decide +kernel))
 have hc_xdigit := Lib.hid (canon_of (R := [(48, 57), (65, 70), (97, 102)]) (by decide +kernel))
 have hc_word := Lib.hid (canon_of (R := [(48, 57), (65, 90), (95, 95), (97, 122)]) (by decide +kernel))
 have hc_ascii := Lib.hid (canon_of (R := [(0, 127)]) (by decide +kernel))
 go_enter Tryz.func148, Tryz.ntmps148
 go_wp2_with fail
 refine Calls.mono (of_lit [(65, 90), (97, 122)] 4 _ _ (w.alloc (.map #[] 0)) _ (by first | rfl | simp) (by rfl) (by rfl) hc_alpha.out (by decide)) ?_
 rintro e u0 ⟨v0, rfl, hz, hb⟩
 have HQ := Lib.hid (prel_on H0.out ((below_alloc (w.alloc (.map #[] 0)) _).trans (hb.mono (below_alloc (w.alloc (.map #[] 0)) _).size)))
 have HZ := Lib.hid hz
 clear hz hb H0
 go_wp2_with (refine wpList_insert_v rfl rfl 157 113 _ _ _ ⟨#[97, 108, 112, 104, 97]⟩ rfl rfl Tryz.underlying157 w.heap.size 0 [] rfl HQ.out.1 (by decide) (by decide) _ rfl ?_; intro w1 hm hg; have H1 := Lib.hid (prel_put HQ.out HZ.out hm hg rfl); clear hm hg HQ HZ)
 refine Calls.mono (of_lit [(48, 57)] 2 _ _ w1 _ (by first | rfl | simp) (by rfl) (by rfl) hc_digit.out (by decide)) ?_
 rintro e u1 ⟨v1, rfl, hz, hb⟩
 have HQ := Lib.hid (prel_on H1.out ((below_alloc w1 _).trans (hb.mono (below_alloc w1 _).size)))
 have HZ := Lib.hid hz
 clear hz hb H1
 go_wp2_with (refine wpList_insert_v rfl rfl 157 113 _ _ _ ⟨#[100, 105, 103, 105, 116]⟩ rfl rfl Tryz.underlying157 w.heap.size 1 ((⟨#[97, 108, 112, 104, 97]⟩, .agg #[v0]) :: []) rfl HQ.out.1 (by decide) (by decide) _ rfl ?_; intro w2 hm hg; have H2 := Lib.hid (prel_put HQ.out HZ.out hm hg rfl); clear hm hg HQ HZ)
 refine Calls.mono (of_lit [(48, 57), (65, 90), (97, 122)] 6 _ _ w2 _ (by first | rfl | simp) (by rfl) (by rfl) hc_alnum.out (by decide)) ?_
 rintro e u2 ⟨v2, rfl, hz, hb⟩
 have HQ := Lib.hid (prel_on H2.out ((below_alloc w2 _).trans (hb.mono (below_alloc w2 _).size)))
 have HZ := Lib.hid hz
 clear hz hb H2
 go_wp2_with (refine wpList_insert_v rfl rfl 157 113 _ _ _ ⟨#[97, 108, 110, 117, 109]⟩ rfl rfl Tryz.underlying157 w.heap.size 2 ((⟨#[100, 105, 103, 105, 116]⟩, .agg #[v1]) :: ((⟨#[97, 108, 112, 104, 97]⟩, .agg #[v0]) :: [])) rfl HQ.out.1 (by decide) (by decide) _ rfl ?_; intro w3 hm hg; have H3 := Lib.hid (prel_put HQ.out HZ.out hm hg rfl); clear hm hg HQ HZ)
 refine Calls.mono (of_lit [(65, 90)] 2 _ _ w3 _ (by first | rfl | simp) (by rfl) (by rfl) hc_upper.out (by decide)) ?_
 rintro e u3 ⟨v3, rfl, hz, hb⟩
 have HQ := Lib.hid (prel_on H3.out ((below_alloc w3 _).trans (hb.mono (below_alloc w3 _).size)))
 have HZ := Lib.hid hz
 clear hz hb H3
 go_wp2_with (refine wpList_insert_v rfl rfl 157 113 _ _ _ ⟨#[117, 112, 112, 101, 114]⟩ rfl rfl Tryz.underlying157 w.heap.size 3 ((⟨#[97, 108, 110, 117, 109]⟩, .agg #[v2]) :: ((⟨#[100, 105, 103, 105, 116]⟩, .agg #[v1]) :: ((⟨#[97, 108, 112, 104, 97]⟩, .agg #[v0]) :: []))) rfl HQ.out.1 (by decide) (by decide) _ rfl ?_; intro w4 hm hg; have H4 := Lib.hid (prel_put HQ.out HZ.out hm hg rfl); clear hm hg HQ HZ)
 refine Calls.mono (of_lit [(97, 122)] 2 _ _ w4 _ (by first | rfl | simp) (by rfl) (by rfl) hc_lower.out (by decide)) ?_
 rintro e u4 ⟨v4, rfl, hz, hb⟩
 have HQ := Lib.hid (prel_on H4.out ((below_alloc w4 _).trans (hb.mono (below_alloc w4 _).size)))
 have HZ := Lib.hid hz
 clear hz hb H4
 go_wp2_with (refine wpList_insert_v rfl rfl 157 113 _ _ _ ⟨#[108, 111, 119, 101, 114]⟩ rfl rfl Tryz.underlying157 w.heap.size 4 ((⟨#[117, 112, 112, 101, 114]⟩, .agg #[v3]) :: ((⟨#[97, 108, 110, 117, 109]⟩, .agg #[v2]) :: ((⟨#[100, 105, 103, 105, 116]⟩, .agg #[v1]) :: ((⟨#[97, 108, 112, 104, 97]⟩, .agg #[v0]) :: [])))) rfl HQ.out.1 (by decide) (by decide) _ rfl ?_; intro w5 hm hg; have H5 := Lib.hid (prel_put HQ.out HZ.out hm hg rfl); clear hm hg HQ HZ)
 refine Calls.mono (of_lit [(9, 13), (32, 32)] 4 _ _ w5 _ (by first | rfl | simp) (by rfl) (by rfl) hc_space.out (by decide)) ?_
 rintro e u5 ⟨v5, rfl, hz, hb⟩
 have HQ := Lib.hid (prel_on H5.out ((below_alloc w5 _).trans (hb.mono (below_alloc w5 _).size)))
 have HZ := Lib.hid hz
 clear hz hb H5
 go_wp2_with (refine wpList_insert_v rfl rfl 157 113 _ _ _ ⟨#[115, 112, 97, 99, 101]⟩ rfl rfl Tryz.underlying157 w.heap.size 5 ((⟨#[108, 111, 119, 101, 114]⟩, .agg #[v4]) :: ((⟨#[117, 112, 112, 101, 114]⟩, .agg #[v3]) :: ((⟨#[97, 108, 110, 117, 109]⟩, .agg #[v2]) :: ((⟨#[100, 105, 103, 105, 116]⟩, .agg #[v1]) :: ((⟨#[97, 108, 112, 104, 97]⟩, .agg #[v0]) :: []))))) rfl HQ.out.1 (by decide) (by decide) _ rfl ?_; intro w6 hm hg; have H6 := Lib.hid (prel_put HQ.out HZ.out hm hg rfl); clear hm hg HQ HZ)
 refine Calls.mono (of_lit [(9, 9), (32, 32)] 4 _ _ w6 _ (by first | rfl | simp) (by rfl) (by rfl) hc_blank.out (by decide)) ?_
 rintro e u6 ⟨v6, rfl, hz, hb⟩
 have HQ := Lib.hid (prel_on H6.out ((below_alloc w6 _).trans (hb.mono (below_alloc w6 _).size)))
 have HZ := Lib.hid hz
 clear hz hb H6
 go_wp2_with (refine wpList_insert_v rfl rfl 157 113 _ _ _ ⟨#[98, 108, 97, 110, 107]⟩ rfl rfl Tryz.underlying157 w.heap.size 6 ((⟨#[115, 112, 97, 99, 101]⟩, .agg #[v5]) :: ((⟨#[108, 111, 119, 101, 114]⟩, .agg #[v4]) :: ((⟨#[117, 112, 112, 101, 114]⟩, .agg #[v3]) :: ((⟨#[97, 108, 110, 117, 109]⟩, .agg #[v2]) :: ((⟨#[100, 105, 103, 105, 116]⟩, .agg #[v1]) :: ((⟨#[97, 108, 112, 104, 97]⟩, .agg #[v0]) :: [])))))) rfl HQ.out.1 (by decide) (by decide) _ rfl ?_; intro w7 hm hg; have H7 := Lib.hid (prel_put HQ.out HZ.out hm hg rfl); clear hm hg HQ HZ)
 refine Calls.mono (of_lit [(33, 47), (58, 64), (91, 96), (123, 126)] 8 _ _ w7 _ (by first | rfl | simp) (by rfl) (by rfl) hc_punct.out (by decide)) ?_
 rintro e u7 ⟨v7, rfl, hz, hb⟩
 have HQ := Lib.hid (prel_on H7.out ((below_alloc w7 _).trans (hb.mono (below_alloc w7 _).size)))
 have HZ := Lib.hid hz
 clear hz hb H7
 go_wp2_with (refine wpList_insert_v rfl rfl 157 113 _ _ _ ⟨#[112, 117, 110, 99, 116]⟩ rfl rfl Tryz.underlying157 w.heap.size 7 ((⟨#[98, 108, 97, 110, 107]⟩, .agg #[v6]) :: ((⟨#[115, 112, 97, 99, 101]⟩, .agg #[v5]) :: ((⟨#[108, 111, 119, 101, 114]⟩, .agg #[v4]) :: ((⟨#[117, 112, 112, 101, 114]⟩, .agg #[v3]) :: ((⟨#[97, 108, 110, 117, 109]⟩, .agg #[v2]) :: ((⟨#[100, 105, 103, 105, 116]⟩, .agg #[v1]) :: ((⟨#[97, 108, 112, 104, 97]⟩, .agg #[v0]) :: []))))))) rfl HQ.out.1 (by decide) (by decide) _ rfl ?_; intro w8 hm hg; have H8 := Lib.hid (prel_put HQ.out HZ.out hm hg rfl); clear hm hg HQ HZ)
 refine Calls.mono (of_lit [(0, 31), (127, 127)] 4 _ _ w8 _ (by first | rfl | simp) (by rfl) (by rfl) hc_cntrl.out (by decide)) ?_
 rintro e u8 ⟨v8, rfl, hz, hb⟩
 have HQ := Lib.hid (prel_on H8.out ((below_alloc w8 _).trans (hb.mono (below_alloc w8 _).size)))
 have HZ := Lib.hid hz
 clear hz hb H8
 go_wp2_with (refine wpList_insert_v rfl rfl 157 113 _ _ _ ⟨#[99, 110, 116, 114, 108]⟩ rfl rfl Tryz.underlying157 w.heap.size 8 ((⟨#[112, 117, 110, 99, 116]⟩, .agg #[v7]) :: ((⟨#[98, 108, 97, 110, 107]⟩, .agg #[v6]) :: ((⟨#[115, 112, 97, 99, 101]⟩, .agg #[v5]) :: ((⟨#[108, 111, 119, 101, 114]⟩, .agg #[v4]) :: ((⟨#[117, 112, 112, 101, 114]⟩, .agg #[v3]) :: ((⟨#[97, 108, 110, 117, 109]⟩, .agg #[v2]) :: ((⟨#[100, 105, 103, 105, 116]⟩, .agg #[v1]) :: ((⟨#[97, 108, 112, 104, 97]⟩, .agg #[v0]) :: [])))))))) rfl HQ.out.1 (by decide) (by decide) _ rfl ?_; intro w9 hm hg; have H9 := Lib.hid (prel_put HQ.out HZ.out hm hg rfl); clear hm hg HQ HZ)
 refine Calls.mono (of_lit [(33, 126)] 2 _ _ w9 _ (by first | rfl | simp) (by rfl) (by rfl) hc_graph.out (by decide)) ?_
 rintro e u9 ⟨v9, rfl, hz, hb⟩
 have HQ := Lib.hid (prel_on H9.out ((below_alloc w9 _).trans (hb.mono (below_alloc w9 _).size)))
 have HZ := Lib.hid hz
 clear hz hb H9
 go_wp2_with (refine wpList_insert_v rfl rfl 157 113 _ _ _ ⟨#[103, 114, 97, 112, 104]⟩ rfl rfl Tryz.underlying157 w.heap.size 9 ((⟨#[99, 110, 116, 114, 108]⟩, .agg #[v8]) :: ((⟨#[112, 117, 110, 99, 116]⟩, .agg #[v7]) :: ((⟨#[98, 108, 97, 110, 107]⟩, .agg #[v6]) :: ((⟨#[115, 112, 97, 99, 101]⟩, .agg #[v5]) :: ((⟨#[108, 111, 119, 101, 114]⟩, .agg #[v4]) :: ((⟨#[117, 112, 112, 101, 114]⟩, .agg #[v3]) :: ((⟨#[97, 108, 110, 117, 109]⟩, .agg #[v2]) :: ((⟨#[100, 105, 103, 105, 116]⟩, .agg #[v1]) :: ((⟨#[97, 108, 112, 104, 97]⟩, .agg #[v0]) :: []))))))))) rfl HQ.out.1 (by decide) (by decide) _ rfl ?_; intro w10 hm hg; have H10 := Lib.hid (prel_put HQ.out HZ.out hm hg rfl); clear hm hg HQ HZ)
 refine Calls.mono (of_lit [(32, 126)] 2 _ _ w10 _ (by first | rfl | simp) (by rfl) (by rfl) hc_print.out (by decide)) ?_
 rintro e u10 ⟨v10, rfl, hz, hb⟩
 have HQ := Lib.hid (prel_on H10.out ((below_alloc w10 _).trans (hb.mono (below_alloc w10 _).size)))
 have HZ := Lib.hid hz
 clear hz hb H10
 go_wp2_with (refine wpList_insert_v rfl rfl 157 113 _ _ _ ⟨#[112, 114, 105, 110, 116]⟩ rfl rfl Tryz.underlying157 w.heap.size 10 ((⟨#[103, 114, 97, 112, 104]⟩, .agg #[v9]) :: ((⟨#[99, 110, 116, 114, 108]⟩, .agg #[v8]) :: ((⟨#[112, 117, 110, 99, 116]⟩, .agg #[v7]) :: ((⟨#[98, 108, 97, 110, 107]⟩, .agg #[v6]) :: ((⟨#[115, 112, 97, 99, 101]⟩, .agg #[v5]) :: ((⟨#[108, 111, 119, 101, 114]⟩, .agg #[v4]) :: ((⟨#[117, 112, 112, 101, 114]⟩, .agg #[v3]) :: ((⟨#[97, 108, 110, 117, 109]⟩, .agg #[v2]) :: ((⟨#[100, 105, 103, 105, 116]⟩, .agg #[v1]) :: ((⟨#[97, 108, 112, 104, 97]⟩, .agg #[v0]) :: [])))))))))) rfl HQ.out.1 (by decide) (by decide) _ rfl ?_; intro w11 hm hg; have H11 := Lib.hid (prel_put HQ.out HZ.out hm hg rfl); clear hm hg HQ HZ)
 refine Calls.mono (of_lit [(48, 57), (65, 70), (97, 102)] 6 _ _ w11 _ (by first | rfl | simp) (by rfl) (by rfl) hc_xdigit.out (by decide)) ?_
 rintro e u11 ⟨v11, rfl, hz, hb⟩
 have HQ := Lib.hid (prel_on H11.out ((below_alloc w11 _).trans (hb.mono (below_alloc w11 _).size)))
 have HZ := Lib.hid hz
 clear hz hb H11
 go_wp2_with (refine wpList_insert_v rfl rfl 157 113 _ _ _ ⟨#[120, 100, 105, 103, 105, 116]⟩ rfl rfl Tryz.underlying157 w.heap.size 11 ((⟨#[112, 114, 105, 110, 116]⟩, .agg #[v10]) :: ((⟨#[103, 114, 97, 112, 104]⟩, .agg #[v9]) :: ((⟨#[99, 110, 116, 114, 108]⟩, .agg #[v8]) :: ((⟨#[112, 117, 110, 99, 116]⟩, .agg #[v7]) :: ((⟨#[98, 108, 97, 110, 107]⟩, .agg #[v6]) :: ((⟨#[115, 112, 97, 99, 101]⟩, .agg #[v5]) :: ((⟨#[108, 111, 119, 101, 114]⟩, .agg #[v4]) :: ((⟨#[117, 112, 112, 101, 114]⟩, .agg #[v3]) :: ((⟨#[97, 108, 110, 117, 109]⟩, .agg #[v2]) :: ((⟨#[100, 105, 103, 105, 116]⟩, .agg #[v1]) :: ((⟨#[97, 108, 112, 104, 97]⟩, .agg #[v0]) :: []))))))))))) rfl HQ.out.1 (by decide) (by decide) _ rfl ?_; intro w12 hm hg; have H12 := Lib.hid (prel_put HQ.out HZ.out hm hg rfl); clear hm hg HQ HZ)
 refine Calls.mono (of_lit [(48, 57), (65, 90), (95, 95), (97, 122)] 8 _ _ w12 _ (by first | rfl | simp) (by rfl) (by rfl) hc_word.out (by decide)) ?_
 rintro e u12 ⟨v12, rfl, hz, hb⟩
 have HQ := Lib.hid (prel_on H12.out ((below_alloc w12 _).trans (hb.mono (below_alloc w12 _).size)))
 have HZ := Lib.hid hz
 clear hz hb H12
 go_wp2_with (refine wpList_insert_v rfl rfl 157 113 _ _ _ ⟨#[119, 111, 114, 100]⟩ rfl rfl Tryz.underlying157 w.heap.size 12 ((⟨#[120, 100, 105, 103, 105, 116]⟩, .agg #[v11]) :: ((⟨#[112, 114, 105, 110, 116]⟩, .agg #[v10]) :: ((⟨#[103, 114, 97, 112, 104]⟩, .agg #[v9]) :: ((⟨#[99, 110, 116, 114, 108]⟩, .agg #[v8]) :: ((⟨#[112, 117, 110, 99, 116]⟩, .agg #[v7]) :: ((⟨#[98, 108, 97, 110, 107]⟩, .agg #[v6]) :: ((⟨#[115, 112, 97, 99, 101]⟩, .agg #[v5]) :: ((⟨#[108, 111, 119, 101, 114]⟩, .agg #[v4]) :: ((⟨#[117, 112, 112, 101, 114]⟩, .agg #[v3]) :: ((⟨#[97, 108, 110, 117, 109]⟩, .agg #[v2]) :: ((⟨#[100, 105, 103, 105, 116]⟩, .agg #[v1]) :: ((⟨#[97, 108, 112, 104, 97]⟩, .agg #[v0]) :: [])))))))))))) rfl HQ.out.1 (by decide) (by decide) _ rfl ?_; intro w13 hm hg; have H13 := Lib.hid (prel_put HQ.out HZ.out hm hg rfl); clear hm hg HQ HZ)
 refine Calls.mono (of_lit [(0, 127)] 2 _ _ w13 _ (by first | rfl | simp) (by rfl) (by rfl) hc_ascii.out (by decide)) ?_
 rintro e u13 ⟨v13, rfl, hz, hb⟩
 have HQ := Lib.hid (prel_on H13.out ((below_alloc w13 _).trans (hb.mono (below_alloc w13 _).size)))
 have HZ := Lib.hid hz
 clear hz hb H13
 go_wp2_with (refine wpList_insert_v rfl rfl 157 113 _ _ _ ⟨#[97, 115, 99, 105, 105]⟩ rfl rfl Tryz.underlying157 w.heap.size 13 ((⟨#[119, 111, 114, 100]⟩, .agg #[v12]) :: ((⟨#[120, 100, 105, 103, 105, 116]⟩, .agg #[v11]) :: ((⟨#[112, 114, 105, 110, 116]⟩, .agg #[v10]) :: ((⟨#[103, 114, 97, 112, 104]⟩, .agg #[v9]) :: ((⟨#[99, 110, 116, 114, 108]⟩, .agg #[v8]) :: ((⟨#[112, 117, 110, 99, 116]⟩, .agg #[v7]) :: ((⟨#[98, 108, 97, 110, 107]⟩, .agg #[v6]) :: ((⟨#[115, 112, 97, 99, 101]⟩, .agg #[v5]) :: ((⟨#[108, 111, 119, 101, 114]⟩, .agg #[v4]) :: ((⟨#[117, 112, 112, 101, 114]⟩, .agg #[v3]) :: ((⟨#[97, 108, 110, 117, 109]⟩, .agg #[v2]) :: ((⟨#[100, 105, 103, 105, 116]⟩, .agg #[v1]) :: ((⟨#[97, 108, 112, 104, 97]⟩, .agg #[v0]) :: []))))))))))))) rfl HQ.out.1 (by decide) (by decide) _ rfl ?_; intro w14 hm hg; have H14 := Lib.hid (prel_put HQ.out HZ.out hm hg rfl); clear hm hg HQ HZ)
 go_ret
 exact ⟨w.heap.size, 14, _, rfl, H14.out.1, H14.out.2.1, H14.out.2.2⟩
end Go.Proofs.YtkcmjcgjfjfimaaGreatDoor.prw
end
section
namespace Go.Proofs.YtkcmjcgjfjfimaaGreatDoor.prw
open Go Go.RowKit bulk ucdp ucdw setp setw prp
def RB2 (R : List Rg) (b : Bool) (w : World) (e : Ending) (w' : World) : Prop := ∃ v, e = .returned (.tuple #[v, .bool b]) ∧ OwnR w' w.heap.size v R ∧ Below w.heap.size w w'
theorem lookP_canon (n : ByteArray) : ∀ {M : List (ByteArray × List Rg)}, (∀ p ∈ M, Canon p.2) → Canon (lookP M n [])
 | [], _ => canon_nil
 | (k, R) :: M, h => by
   unfold lookP
   split
   · exact h (k, R) (List.mem_cons_self ..)
   · exact lookP_canon n fun p hp => h p (List.mem_cons_of_mem _ hp)
theorem posixP_canon (n : ByteArray) : Canon (posixP n) := lookP_canon n fun _ hp => posix_canon hp
theorem zeroSet (w : World) : (zeroValue 113).run Tryz.prog w = .ok (.agg #[.slice none 0 0]) w := by kernel_rfl
theorem zeroNum (w : World) : (zeroValue 3).run Tryz.prog w = .ok (.int .i64 0) w := by kernel_rfl
set_option maxRecDepth 100000 in
set_option maxHeartbeats 4000000 in
theorem pos_any (n : ByteArray) (w : World) (hn : n.size ≤ maxLen) : Calls Tryz.prog 115 #[.string n] w (RB2 (posixP n) (posixB n) w) := by
 have HP := Lib.hid (posix_any w)
 have HC := Lib.hid (posixP_canon n)
 have HN := Lib.hid hn
 clear hn
 go_enter Tryz.func115, Tryz.ntmps115
 go_wp2_with fail
 refine HP.out.mono ?_
 rintro e w1 ⟨b, m, L, rfl, hm, hb, hl⟩
 obtain ⟨v, hv, hz⟩ := pl_look n hl
 obtain ⟨a, cap, rfl⟩ := zsAt_len hz
 have HV := Lib.hid hv
 have HA := Lib.hid (pl_any n hl)
 have HM := Lib.hid hm
 have HB := Lib.hid hb
 have HZ := Lib.hid hz
 clear hv hm hb hz hl
 go_wp2_with (refine wpList_lookup_ok rfl 157 113 _ _ rfl Tryz.underlying157 (.agg #[.slice none 0 0]) (zeroSet _) b m L rfl HM.out n rfl HN.out ?_; rw [HV.out, HA.out])
 have HX := Lib.hid (below_alloc w1 (Obj.cells #[Value.slice a (lookP posix n []).length cap] 113))
 refine (ranges_any (.slice a (lookP posix n []).length cap) (posixP n) 0 _ HC.out (zsAt_below HZ.out HX.out)).mono ?_
 rintro e w2 ⟨v2, rfl, ho, hb2⟩
 have HO := Lib.hid (ownR_mono ho (Nat.le_trans HB.out.size HX.out.size))
 have HB2 := Lib.hid (below_trans (below_trans HB.out HX.out) hb2)
 clear ho hb2
 go_wp2_with fail
 go_ret2
 exact ⟨v2, rfl, HO.out, HB2.out⟩
theorem escP_canon (c : Int) : Canon (escP c) := by
 unfold escP
 repeat' split
 all_goals first | exact canon_nil | exact canon_of (by decide +kernel)
theorem pos_digit (w : World) : Calls Tryz.prog 115 #[.string ⟨#[100, 105, 103, 105, 116]⟩] w (RB2 [(48, 57)] true w) := by
 have h := pos_any ⟨#[100, 105, 103, 105, 116]⟩ w (by unfold maxLen; decide)
 rw [show posixP ⟨#[100, 105, 103, 105, 116]⟩ = [(48, 57)] by decide +kernel, show posixB ⟨#[100, 105, 103, 105, 116]⟩ = true by decide +kernel] at h
 exact h
theorem pos_space (w : World) : Calls Tryz.prog 115 #[.string ⟨#[115, 112, 97, 99, 101]⟩] w (RB2 [(9, 13), (32, 32)] true w) := by
 have h := pos_any ⟨#[115, 112, 97, 99, 101]⟩ w (by unfold maxLen; decide)
 rw [show posixP ⟨#[115, 112, 97, 99, 101]⟩ = [(9, 13), (32, 32)] by decide +kernel, show posixB ⟨#[115, 112, 97, 99, 101]⟩ = true by decide +kernel] at h
 exact h
theorem pos_word (w : World) : Calls Tryz.prog 115 #[.string ⟨#[119, 111, 114, 100]⟩] w (RB2 [(48, 57), (65, 90), (95, 95), (97, 122)] true w) := by
 have h := pos_any ⟨#[119, 111, 114, 100]⟩ w (by unfold maxLen; decide)
 rw [show posixP ⟨#[119, 111, 114, 100]⟩ = [(48, 57), (65, 90), (95, 95), (97, 122)] by decide +kernel, show posixB ⟨#[119, 111, 114, 100]⟩ = true by decide +kernel] at h
 exact h
theorem rb2_of {R R' : List Rg} {b b' : Bool} {w : World} {e : Ending} {w' : World} (hR : R = R') (hb : b = b') (h : RB2 R b w e w') : RB2 R' b' w e w' := by
 subst hR
 subst hb
 exact h
set_option maxRecDepth 100000 in
set_option maxHeartbeats 4000000 in
theorem esc_any (c : Int) (w : World) : Calls Tryz.prog 88 #[.int .i64 c] w (RB2 (escP c) (escB c) w) := by
 by_cases h1 : c = 100
 · subst h1
   have HP := Lib.hid (pos_digit w)
   go_enter Tryz.func88, Tryz.ntmps88
   go_wp2_with fail
   refine HP.out.mono ?_
   rintro e w1 ⟨v, rfl, ho, hb⟩
   have HO := Lib.hid ho
   clear ho
   go_wp2_with fail
   go_ret2
   exact ⟨v, rfl, HO.out, hb⟩
 by_cases h2 : c = 115
 · subst h2
   have HP := Lib.hid (pos_space w)
   go_enter Tryz.func88, Tryz.ntmps88
   go_wp2_with fail
   refine HP.out.mono ?_
   rintro e w1 ⟨v, rfl, ho, hb⟩
   have HO := Lib.hid ho
   clear ho
   go_wp2_with fail
   go_ret2
   exact ⟨v, rfl, HO.out, hb⟩
 by_cases h3 : c = 119
 · subst h3
   have HP := Lib.hid (pos_word w)
   go_enter Tryz.func88, Tryz.ntmps88
   go_wp2_with fail
   refine HP.out.mono ?_
   rintro e w1 ⟨v, rfl, ho, hb⟩
   have HO := Lib.hid ho
   clear ho
   go_wp2_with fail
   go_ret2
   exact ⟨v, rfl, HO.out, hb⟩
 by_cases h4 : c = 104
 · subst h4
   have HC := Lib.hid (canon_of (R := [(9, 9), (32, 32), (160, 160), (8192, 8202)]) (by decide +kernel))
   go_enter Tryz.func88, Tryz.ntmps88
   go_wp2_with fail
   refine Calls.mono (of_lit [(9, 9), (32, 32), (160, 160), (8192, 8202)] 8 _ _ w _ (by first | rfl | simp) (by rfl) (by rfl) HC.out (by decide)) ?_
   rintro e w1 ⟨v, rfl, hz, hb⟩
   have HZ := Lib.hid hz
   have HB := Lib.hid ((below_alloc w _).trans (hb.mono (below_alloc w _).size))
   obtain ⟨a, cap, rfl⟩ := zsAt_len hz
   clear hz hb
   go_wp2_with fail
   refine (ranges_any _ [(9, 9), (32, 32), (160, 160), (8192, 8202)] _ _ HC.out HZ.out).mono ?_
   rintro e w2 ⟨v2, rfl, ho, hb2⟩
   have HO := Lib.hid (ownR_mono ho HB.out.size)
   have HB2 := Lib.hid (below_trans HB.out hb2)
   clear ho hb2
   go_wp2_with fail
   go_ret2
   exact ⟨v2, rfl, HO.out, HB2.out⟩
 by_cases h5 : c = 118
 · subst h5
   have HC := Lib.hid (canon_of (R := [(10, 13), (133, 133), (8232, 8233)]) (by decide +kernel))
   go_enter Tryz.func88, Tryz.ntmps88
   go_wp2_with fail
   refine Calls.mono (of_lit [(10, 13), (133, 133), (8232, 8233)] 6 _ _ w _ (by first | rfl | simp) (by rfl) (by rfl) HC.out (by decide)) ?_
   rintro e w1 ⟨v, rfl, hz, hb⟩
   have HZ := Lib.hid hz
   have HB := Lib.hid ((below_alloc w _).trans (hb.mono (below_alloc w _).size))
   obtain ⟨a, cap, rfl⟩ := zsAt_len hz
   clear hz hb
   go_wp2_with fail
   refine (ranges_any _ [(10, 13), (133, 133), (8232, 8233)] _ _ HC.out HZ.out).mono ?_
   rintro e w2 ⟨v2, rfl, ho, hb2⟩
   have HO := Lib.hid (ownR_mono ho HB.out.size)
   have HB2 := Lib.hid (below_trans HB.out hb2)
   clear ho hb2
   go_wp2_with fail
   go_ret2
   exact ⟨v2, rfl, HO.out, HB2.out⟩
 have HP := Lib.hid (show [] = escP c by unfold escP; rw [if_neg h1, if_neg h2, if_neg h3, if_neg h4, if_neg h5])
 have HQ := Lib.hid (show false = escB c by unfold escB; simp [h1, h2, h3, h4, h5])
 go_enter Tryz.func88, Tryz.ntmps88
 go_wp2_with fail
 go_ret2
 exact rb2_of HP.out HQ.out ⟨_, rfl, ownR_nil _ _, Below.refl _ _⟩
end Go.Proofs.YtkcmjcgjfjfimaaGreatDoor.prw
end
section
namespace Go.Proofs.YtkcmjcgjfjfimaaGreatDoor.prw
open Go Go.RowKit bulk ucdp ucdw setp setw prp
def PB (n : ByteArray) (w : World) (e : Ending) (w' : World) : Prop := ∃ v S, e = .returned (.tuple #[v, .bool (isP n)]) ∧ Canon S ∧ (∀ c, Has S c ↔ 0 ≤ c ∧ c ≤ 1114111 ∧ propP n c = true) ∧ OwnR w' w.heap.size v S ∧ Below w.heap.size w w'
theorem held_lookup_v {o : Oper} {a : Act} {w : World} {K : Act → World → Prop} {Q : Exit → Act → World → Prop} {ys : Nat → Option Bool} (hgd : o.guard = none) (t e : TypeId) (m x : Operand) (hop : o.op = Op.lookup t m x false)
   (ht : Tryz.prog.underlying t = some (.map 9 e)) (z : Value) (hz : (zeroValue e).run Tryz.prog w = .ok z w) (b n : Nat) (L : List (ByteArray × Value)) (hm : a.eval m = .map (some b)) (hown : MapV w b n L) (key : ByteArray) (hx : a.eval x = .string key) (hk : key.size ≤ maxLen)
   (hK : K (a.put o.dst (lookP L key z)) w) : if Region.wanted o ys = true then Oper.wp Tryz.prog o a w K Q else K (a.put o.dst undef) w := by
 rw [if_pos (by unfold Region.wanted; rw [hgd])]
 obtain ⟨v, ps, hrun, hv⟩ := World.ownsMap.lookup hown (Maps.string_keyed Tryz.underlying9) ht hz (show RV z = some (.held z, []) from rfl) (WideMaps.keyOf_string_mk Tryz.underlying9 (s := key) hk)
 rw [show Lit.string key.data.toList = keyL key from rfl, at_LD] at hv
 obtain rfl := rv_inv hv
 unfold Oper.wp
 simp [execOp, hop, hm, hx, hrun, Result.andThen]
 exact hK
theorem pb_of {n : ByteArray} {g : Nat → Nat → Bool} {w w0 w' : World} {v : Value} {S : List Rg} (hi : isP n = true) (hg : ∀ k s, hp n k s = g k s) (hS : Canon S) (hh : ∀ c, Has S c ↔ 0 ≤ c ∧ c ≤ 1114111 ∧ g (cls c).1 (cls c).2.1 = true) (ho : OwnR w' w0.heap.size v S) (hb0 : Below w.heap.size w w0) (hb : Below w0.heap.size w0 w') : PB n w (.returned (.tuple #[v, .bool true])) w' :=
 ⟨v, S, by rw [hi], hS, fun c => by rw [hh c]; unfold propP; rw [hg], ownR_mono ho hb0.size, below_trans hb0 hb⟩
set_option maxRecDepth 100000 in
set_option maxHeartbeats 8000000 in
theorem property_any (n : ByteArray) (w : World) (hn : n.size ≤ maxLen) (hT : TabS w) : Calls Tryz.prog 114 #[.string n] w (PB n w) := by
 have HN := Lib.hid hn
 have hc : (w.alloc (.cells #[.string n] 9)).cell? ⟨w.heap.size, 0, none⟩ = some (.string n) := by rw [World.cell?_alloc_new]; rfl
 have HC := Lib.hid hc
 have HW := Lib.hid (below_alloc w (.cells #[.string n] 9))
 have HTT := Lib.hid hT
 clear hn hT hc
 go_enter Tryz.func114, Tryz.ntmps114
 go_upto_region 1 with (fail)
 generalize hw1 : w.alloc (.cells #[.string n] 9) = w1 at *
 generalize hB : w.heap.size = B at *
 have h0 : Below w1.heap.size w1 w1.drew := below_drew _
 have HPR := Lib.hid (fun u => properties_any u)
 refine wp_region_held_drew (S := fun w' => Below w1.heap.size w1 w') (by kernel_rfl) h0 (fun hHeld => ?_)
 refine wpAnyH_take (i := 1) (v := ?_) rfl (by kernel_rfl) (by kernel_rfl) (by kernel_rfl) (fun _ _ _ h => h) (Or.inl ⟨by rfl, ?_⟩) (by assumption) ?_
 rotate_left
 · intro w' hSw
   have d1 := below_cell hSw HC.out
   go_simp
   try rfl
 simp only [Act.put, List.setIfInBounds_toArray, List.set_cons_zero, List.set_cons_succ, List.getElem_toArray, List.getElem_cons_succ, List.getElem_cons_zero]
 refine wpAnyH_ready (rs := [0]) (by kernel_rfl) (by simp) ?_
 refine AllReadyH.cons rfl (fun K hK => ?_) AllReadyH.nil
 go_simp
 refine (HPR.out _).mono ?_
 rintro e w2 ⟨b, m, rfl, hm, hb2⟩
 have HM := Lib.hid hm
 have HB2 := Lib.hid (h0.trans (hb2.mono h0.size))
 clear hm hb2
 refine hK.out _ _ HB2.out (fun hHeld => ?_)
 clear hK K
 try simp only [Act.put, List.setIfInBounds_toArray, List.set_cons_zero, List.set_cons_succ, List.getElem_toArray, List.getElem_cons_succ, List.getElem_cons_zero]
 refine wpAnyH_ready (rs := [2]) (by kernel_rfl) (by simp) ?_
 refine AllReadyH.cons rfl (fun K hK => ?_) AllReadyH.nil
 refine held_lookup_v rfl 151 3 _ _ rfl Tryz.underlying151 (.int .i64 0) (zeroNum _) b m kindsV rfl HM.out n rfl HN.out ?_
 rw [kindsV_at]
 refine hK.out _ _ HB2.out (fun hHeld => ?_)
 clear hK K
 try simp only [Act.put, List.setIfInBounds_toArray, List.set_cons_zero, List.set_cons_succ, List.getElem_toArray, List.getElem_cons_succ, List.getElem_cons_zero]
 refine wpAnyH_done (by kernel_rfl) ?_ _
 have hcq := below_cell HB2.out HC.out
 have HBW := Lib.hid (show Below w.heap.size w w2 from below_trans (by rw [hB]; exact HW.out) HB2.out)
 have HTQ := Lib.hid (tabS_below HBW.out HTT.out)
 have HCQ := Lib.hid hcq
 clear h0 hHeld
 by_cases k1 : kind n = 1
 · rw [k1]
   have HI := Lib.hid (show isP n = true by unfold isP; rw [k1]; rfl)
   have HG := Lib.hid (show ∀ k s, hp n k s = true from fun k s => by unfold hp; rw [k1]; rfl)
   have HWH := Lib.hid (fun (u : World) (hT : TabS u) => where_any 140 #[] (fun _ _ => true) u hT (enters_of Tryz.func140 (by kernel_rfl) rfl) (fun c _ _ u1 _ => clo1_any c u1))
   go_wp2_with fail
   refine (HWH.out _ HTQ.out).mono ?_
   rintro e w3 ⟨v, S, rfl, hS, hh, ho, hb3⟩
   have HSC := Lib.hid hS
   have HH := Lib.hid hh
   have HO := Lib.hid ho
   have HB3 := Lib.hid hb3
   clear hS hh ho hb3
   go_wp2_with fail
   go_ret2
   exact pb_of (g := fun _ _ => true) HI.out HG.out HSC.out (fun c => by rw [HH.out c]; simp) HO.out HBW.out HB3.out
 by_cases k2 : kind n = 2
 · rw [k2]
   have HI := Lib.hid (show isP n = true by unfold isP; rw [k2]; rfl)
   have HG := Lib.hid (show ∀ k s, hp n k s = pre (catB k) n from fun k s => by unfold hp; rw [k2]; rfl)
   have HWH := Lib.hid (fun (u : World) (hT : TabS u) (hu : u.cell? ⟨B, 0, none⟩ = some (.string n)) => where_any 141 #[.pointer (some ⟨B, 0, none⟩)] (fun k _ => pre (catB k) n) u hT (enters_of Tryz.func141 (by kernel_rfl) rfl) (fun c h1 h2 u1 hb => clo2_any c n B u1 (below_cell hb hu) (by omega) (by omega)))
   go_wp2_with fail
   refine (HWH.out _ HTQ.out HCQ.out).mono ?_
   rintro e w3 ⟨v, S, rfl, hS, hh, ho, hb3⟩
   have HSC := Lib.hid hS
   have HH := Lib.hid hh
   have HO := Lib.hid ho
   have HB3 := Lib.hid hb3
   clear hS hh ho hb3
   go_wp2_with fail
   go_ret2
   exact pb_of HI.out HG.out HSC.out HH.out HO.out HBW.out HB3.out
 by_cases k3 : kind n = 3
 · rw [k3]
   have HI := Lib.hid (show isP n = true by unfold isP; rw [k3]; rfl)
   have HG := Lib.hid (show ∀ k s, hp n k s = cased (catB k) from fun k s => by unfold hp; rw [k3]; rfl)
   have HWH := Lib.hid (fun (u : World) (hT : TabS u) => where_any 144 #[] (fun k _ => cased (catB k)) u hT (enters_of Tryz.func144 (by kernel_rfl) rfl) (fun c h1 h2 u1 _ => clo3_any c u1 (by omega) (by omega)))
   go_wp2_with fail
   refine (HWH.out _ HTQ.out).mono ?_
   rintro e w3 ⟨v, S, rfl, hS, hh, ho, hb3⟩
   have HSC := Lib.hid hS
   have HH := Lib.hid hh
   have HO := Lib.hid ho
   have HB3 := Lib.hid hb3
   clear hS hh ho hb3
   go_wp2_with fail
   go_ret2
   exact pb_of HI.out HG.out HSC.out HH.out HO.out HBW.out HB3.out
 by_cases k4 : kind n = 4
 · rw [k4]
   have HI := Lib.hid (show isP n = true by unfold isP; rw [k4]; rfl)
   have HG := Lib.hid (show ∀ k s, hp n k s = decide (scrB s = n) from fun k s => by unfold hp; rw [k4]; rfl)
   have HWH := Lib.hid (fun (u : World) (hT : TabS u) (hu : u.cell? ⟨B, 0, none⟩ = some (.string n)) => where_any 146 #[.pointer (some ⟨B, 0, none⟩)] (fun _ s => decide (scrB s = n)) u hT (enters_of Tryz.func146 (by kernel_rfl) rfl) (fun c h1 h2 u1 hb => clo4_any c n B u1 (below_cell hb hu) (by omega) (by omega)))
   go_wp2_with fail
   refine (HWH.out _ HTQ.out HCQ.out).mono ?_
   rintro e w3 ⟨v, S, rfl, hS, hh, ho, hb3⟩
   have HSC := Lib.hid hS
   have HH := Lib.hid hh
   have HO := Lib.hid ho
   have HB3 := Lib.hid hb3
   clear hS hh ho hb3
   go_wp2_with fail
   go_ret2
   exact pb_of HI.out HG.out HSC.out HH.out HO.out HBW.out HB3.out
 have HI := Lib.hid (show isP n = false by unfold isP; simp [k1, k2, k3, k4])
 have HG := Lib.hid (show ∀ c, propP n c = false from fun c => by unfold propP hp; simp [k1, k2, k3, k4])
 generalize kind n = kd at *
 have e1 : (kd == 1) = false := by simp [k1]
 have e2 : (kd == 2) = false := by simp [k2]
 have e3 : (kd == 3) = false := by simp [k3]
 have e4 : (kd == 4) = false := by simp [k4]
 go_wp2_with fail
 go_ret2
 exact ⟨_, [], by rw [HI.out]; rfl, canon_nil, fun c => ⟨fun h => absurd h (has_nil _), fun h => by have := h.2.2; rw [HG.out] at this; cases this⟩, ownR_nil _ _, HBW.out⟩
end Go.Proofs.YtkcmjcgjfjfimaaGreatDoor.prw
end
section
namespace Go.Proofs.YtkcmjcgjfjfimaaGreatDoor.tkw
open Go Go.RowKit Go.Maps utfp utfw ucdp setp setw prp tkp
theorem ownR_base {w : World} {b b' : Nat} {v : Value} {D : List Rg} (h : OwnR w b v D) (hb : b' ≤ b) : OwnR w b' v D := by
 obtain ⟨⟨h1, h2 | ⟨g, cap, cur, hv, hg, r⟩⟩, h3⟩ := h
 · exact ⟨⟨h1, Or.inl h2⟩, h3⟩
 · exact ⟨⟨h1, Or.inr ⟨g, cap, cur, hv, Nat.le_trans hb hg, r⟩⟩, h3⟩
set_option maxRecDepth 100000 in
set_option maxHeartbeats 2000000 in
theorem set_any {C : Cf} {w : World} {a f : Nat} {T : Rw} (h : LX C w a f T) (rv : Value) (l : List Rg) (neg : Bool) (hr : RsAt w rv l) (hl : l.length ≤ 1000000) :
   Calls Tryz.prog 72 #[.pointer (some ⟨C.L, 0, none⟩), rv, .bool neg] w (RetT C w { kind := 2, set := normR C.p.most l, neg := neg } a f T) := by
 have hbw := below_al w (.cells (tkR (.slice none 0 0) tk0) 30)
 have hx1 := h.below hbw
 have hg0 := heap_alloc_new w (.cells (tkR (.slice none 0 0) tk0) 30)
 have hr1 := setw.rsAt_below hr hbw
 have hm1 := most_le C.p
 have hm2 := most_ge C.p
 have HRL := Lib.hid (h.row_lt (g := w.heap.size) (Nat.le_refl _))
 have hb := h.hb
 have hlt := h.cells.lt
 have HN := Lib.hid (setw.new_any rv l C.p.most _ hr1 hl (by omega) (by omega))
 have c3 := hx1.cells.c3
 have HX1 := Lib.hid hx1
 have HG0 := Lib.hid hg0
 have HBW := Lib.hid hbw
 have HH := Lib.hid h
 have hsz : (w.alloc (.cells (tkR (.slice none 0 0) tk0) 30)).heap.size = w.heap.size + 1 := World.size_alloc ..
 have HSZ := Lib.hid hsz
 clear hx1 hg0 hbw h hr hr1 hsz
 unfold tkR tk0 at c3
 go_enter Tryz.func72, Tryz.ntmps72
 go_wp2_with fail
 refine HN.out.mono ?_
 rintro e1 w1 ⟨sv, S, rfl, hS, hh, hz, hb1⟩
 have HS := Lib.hid (show S = normR C.p.most l from normR_only hm1 hS fun c => by rw [hh, show min C.p.most 1114111 = C.p.most by omega])
 have HR := Lib.hid (setw.ranges_any sv S _ w1 hS hz)
 have HB1 := Lib.hid hb1
 clear hS hh hz hb1
 go_wp2_with fail
 refine HR.out.mono ?_
 rintro e2 w2 ⟨v2, rfl, ho, hb2⟩
 have HB2 := Lib.hid (HB1.out.trans (hb2.mono HB1.out.size))
 have HO := Lib.hid (ownR_base ho (show w.heap.size ≤ w1.heap.size by have := HB1.out.size; rw [HSZ.out] at this; omega))
 rw [HS.out] at HO
 obtain ⟨x2, y2, rfl⟩ := ownR_len HO.out
 clear ho hb2
 have HG2 := Lib.hid ((HB2.out.block w.heap.size (by rw [HSZ.out]; omega)).trans HG0.out)
 go_wp2_with (refine wpList_store_tok rfl rfl _ _ rfl w.heap.size rfl _ (tkR (.slice x2 (normR C.p.most l).length y2) { kind := 2, set := normR C.p.most l, neg := neg }) HG2.out rfl rfl (tkR_one HO.out) rfl ?_)
 refine bodyPost_ret (results_tok rfl _ _ w.heap.size (tkR (.slice x2 (normR C.p.most l).length y2) { kind := 2, set := normR C.p.most l, neg := neg }) rfl (setRow_heap _ _ _ _ _ _ HG2.out) rfl) rfl ?_
 exact ⟨_, rfl, ownR_setRow HO.out HG2.out, (HX1.out.below HB2.out).setRow HG2.out hb HRL.out, ((Kept.of_below (HBW.out.trans (HB2.out.mono HBW.out.size))).setRow (Nat.le_refl _) _)⟩
end Go.Proofs.YtkcmjcgjfjfimaaGreatDoor.tkw
end
section
namespace Go.Proofs.YtkcmjcgjfjfimaaGreatDoor.tkw
open Go Go.RowKit Go.Maps utfp utfw ucdp setp setw prp tkp
def QuOk (C : Cf) (w : World) (f : Nat) (T : Rw) (r : Int × List UInt8 × Nat) (e : Ending) (w' : World) : Prop := e = .returned (.tuple #[.agg (tkR (.slice none 0 0) { kind := r.1 }), .string ⟨r.2.1.toArray⟩]) ∧ LX C w' r.2.2 f T ∧ Kept w.heap.size C.L w w'
set_option maxHeartbeats 2000000 in
theorem quotes_0 {C : Cf} {w : World} {a f : Nat} {T : Rw} (h : LX C w a f T) (h1 : C.p.has [60] a = true) : Calls Tryz.prog 89 #[.pointer (some ⟨C.L, 0, none⟩)] w (QuOk C w f T (C.p.quotes a)) := by
 rw [show C.p.quotes a = (12, [62], a + 1) by unfold Pt.quotes; rw [if_pos h1]]
 have hbw := below_al w ob00
 have hx0 := h.below hbw
 have hg0 := heap_alloc_new w (.cells #[.int .i64 0, .int .i64 0, .int .i64 0, .int .i64 0, .slice none 0 0, .bool false, .int .i64 0, .int .i64 0, .int .i64 0, .string ⟨#[]⟩, .int .i64 0, .int .i64 0] 30)
 have hrl := h.row_lt (g := w.heap.size) (Nat.le_refl _)
 have hB := h.hb
 have hlt := h.cells.lt
 have hsz : (w.alloc ob00).heap.size = w.heap.size + 1 := World.size_alloc ..
 have H1 := Lib.hid h1
 clear h1
 go_enter Tryz.func89, Tryz.ntmps89
 go_wp2_with fail
 generalize hWW : w.alloc ob00 = W at *
 have HSZ := Lib.hid hsz
 have HG0 := Lib.hid hg0
 have hkw := Kept.of_below (L := C.L) hbw
 have hk0 := Kept.refl W.heap.size C.L W
 clear hWW hsz hg0 hbw
 refine Calls.mono (take_y hx0 ⟨#[60]⟩ [60] 1 rfl rfl (by decide) H1.out) ?_
 rintro e1 w1 ⟨rfl, hx1, hkn⟩
 have hk1 := hk0.then hkn
 clear hkn
 have HG := Lib.hid ((hk1.block w.heap.size (by rw [HSZ.out]; omega) (by omega)).trans HG0.out)
 go_wp2_with (refine wpList_store_tok rfl rfl _ _ rfl w.heap.size rfl _ (tkR (.slice none 0 0) ({ kind := 12 } : Tk)) HG.out rfl rfl (tkR_one (t := ({ kind := 12 } : Tk)) (ownR_nil W 0)) rfl ?_)
 refine bodyPost_ret (results_tok2 rfl _ _ w.heap.size (tkR (.slice none 0 0) ({ kind := 12 } : Tk)) rfl (setRow_heap _ _ _ _ _ _ HG.out) rfl) rfl ?_
 exact ⟨rfl, hx1.setRow HG.out hB hrl, (hkw.then hk1).setRow (Nat.le_refl _) _⟩
set_option maxHeartbeats 2000000 in
theorem quotes_1 {C : Cf} {w : World} {a f : Nat} {T : Rw} (h : LX C w a f T) (h1 : C.p.has [60] a = false) (h2 : C.p.has [39] a = true) : Calls Tryz.prog 89 #[.pointer (some ⟨C.L, 0, none⟩)] w (QuOk C w f T (C.p.quotes a)) := by
 rw [show C.p.quotes a = (12, [39], a + 1) by unfold Pt.quotes; rw [if_neg (by simp [h1])]; rw [if_pos h2]]
 have hbw := below_al w ob00
 have hx0 := h.below hbw
 have hg0 := heap_alloc_new w (.cells #[.int .i64 0, .int .i64 0, .int .i64 0, .int .i64 0, .slice none 0 0, .bool false, .int .i64 0, .int .i64 0, .int .i64 0, .string ⟨#[]⟩, .int .i64 0, .int .i64 0] 30)
 have hrl := h.row_lt (g := w.heap.size) (Nat.le_refl _)
 have hB := h.hb
 have hlt := h.cells.lt
 have hsz : (w.alloc ob00).heap.size = w.heap.size + 1 := World.size_alloc ..
 have H1 := Lib.hid h1
 clear h1
 have H2 := Lib.hid h2
 clear h2
 go_enter Tryz.func89, Tryz.ntmps89
 go_wp2_with fail
 generalize hWW : w.alloc ob00 = W at *
 have HSZ := Lib.hid hsz
 have HG0 := Lib.hid hg0
 have hkw := Kept.of_below (L := C.L) hbw
 have hk0 := Kept.refl W.heap.size C.L W
 clear hWW hsz hg0 hbw
 refine Calls.mono (take_n hx0 ⟨#[60]⟩ [60] rfl (by decide) H1.out) ?_
 rintro e1 w1 ⟨rfl, hx1, hkn⟩
 have hk1 := hk0.then hkn
 clear hkn
 go_wp2_with fail
 refine Calls.mono (take_y hx1 ⟨#[39]⟩ [39] 1 rfl rfl (by decide) H2.out) ?_
 rintro e2 w2 ⟨rfl, hx2, hkn⟩
 have hk2 := hk1.then hkn
 clear hkn
 have HG := Lib.hid ((hk2.block w.heap.size (by rw [HSZ.out]; omega) (by omega)).trans HG0.out)
 go_wp2_with (refine wpList_store_tok rfl rfl _ _ rfl w.heap.size rfl _ (tkR (.slice none 0 0) ({ kind := 12 } : Tk)) HG.out rfl rfl (tkR_one (t := ({ kind := 12 } : Tk)) (ownR_nil W 0)) rfl ?_)
 refine bodyPost_ret (results_tok2 rfl _ _ w.heap.size (tkR (.slice none 0 0) ({ kind := 12 } : Tk)) rfl (setRow_heap _ _ _ _ _ _ HG.out) rfl) rfl ?_
 exact ⟨rfl, hx2.setRow HG.out hB hrl, (hkw.then hk2).setRow (Nat.le_refl _) _⟩
set_option maxHeartbeats 2000000 in
theorem quotes_2 {C : Cf} {w : World} {a f : Nat} {T : Rw} (h : LX C w a f T) (h1 : C.p.has [60] a = false) (h2 : C.p.has [39] a = false) (h3 : C.p.has [123] a = true) : Calls Tryz.prog 89 #[.pointer (some ⟨C.L, 0, none⟩)] w (QuOk C w f T (C.p.quotes a)) := by
 rw [show C.p.quotes a = (11, [125], a + 1) by unfold Pt.quotes; rw [if_neg (by simp [h1])]; rw [if_neg (by simp [h2])]; rw [if_pos h3]]
 have hbw := below_al w ob00
 have hx0 := h.below hbw
 have hg0 := heap_alloc_new w (.cells #[.int .i64 0, .int .i64 0, .int .i64 0, .int .i64 0, .slice none 0 0, .bool false, .int .i64 0, .int .i64 0, .int .i64 0, .string ⟨#[]⟩, .int .i64 0, .int .i64 0] 30)
 have hrl := h.row_lt (g := w.heap.size) (Nat.le_refl _)
 have hB := h.hb
 have hlt := h.cells.lt
 have hsz : (w.alloc ob00).heap.size = w.heap.size + 1 := World.size_alloc ..
 have H1 := Lib.hid h1
 clear h1
 have H2 := Lib.hid h2
 clear h2
 have H3 := Lib.hid h3
 clear h3
 go_enter Tryz.func89, Tryz.ntmps89
 go_wp2_with fail
 generalize hWW : w.alloc ob00 = W at *
 have HSZ := Lib.hid hsz
 have HG0 := Lib.hid hg0
 have hkw := Kept.of_below (L := C.L) hbw
 have hk0 := Kept.refl W.heap.size C.L W
 clear hWW hsz hg0 hbw
 refine Calls.mono (take_n hx0 ⟨#[60]⟩ [60] rfl (by decide) H1.out) ?_
 rintro e1 w1 ⟨rfl, hx1, hkn⟩
 have hk1 := hk0.then hkn
 clear hkn
 go_wp2_with fail
 refine Calls.mono (take_n hx1 ⟨#[39]⟩ [39] rfl (by decide) H2.out) ?_
 rintro e2 w2 ⟨rfl, hx2, hkn⟩
 have hk2 := hk1.then hkn
 clear hkn
 go_wp2_with fail
 refine Calls.mono (take_y hx2 ⟨#[123]⟩ [123] 1 rfl rfl (by decide) H3.out) ?_
 rintro e3 w3 ⟨rfl, hx3, hkn⟩
 have hk3 := hk2.then hkn
 clear hkn
 have HG := Lib.hid ((hk3.block w.heap.size (by rw [HSZ.out]; omega) (by omega)).trans HG0.out)
 go_wp2_with (refine wpList_store_tok rfl rfl _ _ rfl w.heap.size rfl _ (tkR (.slice none 0 0) ({ kind := 11 } : Tk)) HG.out rfl rfl (tkR_one (t := ({ kind := 11 } : Tk)) (ownR_nil W 0)) rfl ?_)
 refine bodyPost_ret (results_tok2 rfl _ _ w.heap.size (tkR (.slice none 0 0) ({ kind := 11 } : Tk)) rfl (setRow_heap _ _ _ _ _ _ HG.out) rfl) rfl ?_
 exact ⟨rfl, hx3.setRow HG.out hB hrl, (hkw.then hk3).setRow (Nat.le_refl _) _⟩
set_option maxHeartbeats 2000000 in
theorem quotes_3 {C : Cf} {w : World} {a f : Nat} {T : Rw} (h : LX C w a f T) (h1 : C.p.has [60] a = false) (h2 : C.p.has [39] a = false) (h3 : C.p.has [123] a = false) : Calls Tryz.prog 89 #[.pointer (some ⟨C.L, 0, none⟩)] w (QuOk C w f T (C.p.quotes a)) := by
 rw [show C.p.quotes a = (11, [], a) by unfold Pt.quotes; rw [if_neg (by simp [h1])]; rw [if_neg (by simp [h2])]; rw [if_neg (by simp [h3])]; ]
 have hbw := below_al w ob00
 have hx0 := h.below hbw
 have hg0 := heap_alloc_new w (.cells #[.int .i64 0, .int .i64 0, .int .i64 0, .int .i64 0, .slice none 0 0, .bool false, .int .i64 0, .int .i64 0, .int .i64 0, .string ⟨#[]⟩, .int .i64 0, .int .i64 0] 30)
 have hrl := h.row_lt (g := w.heap.size) (Nat.le_refl _)
 have hB := h.hb
 have hlt := h.cells.lt
 have hsz : (w.alloc ob00).heap.size = w.heap.size + 1 := World.size_alloc ..
 have H1 := Lib.hid h1
 clear h1
 have H2 := Lib.hid h2
 clear h2
 have H3 := Lib.hid h3
 clear h3
 go_enter Tryz.func89, Tryz.ntmps89
 go_wp2_with fail
 generalize hWW : w.alloc ob00 = W at *
 have HSZ := Lib.hid hsz
 have HG0 := Lib.hid hg0
 have hkw := Kept.of_below (L := C.L) hbw
 have hk0 := Kept.refl W.heap.size C.L W
 clear hWW hsz hg0 hbw
 refine Calls.mono (take_n hx0 ⟨#[60]⟩ [60] rfl (by decide) H1.out) ?_
 rintro e1 w1 ⟨rfl, hx1, hkn⟩
 have hk1 := hk0.then hkn
 clear hkn
 go_wp2_with fail
 refine Calls.mono (take_n hx1 ⟨#[39]⟩ [39] rfl (by decide) H2.out) ?_
 rintro e2 w2 ⟨rfl, hx2, hkn⟩
 have hk2 := hk1.then hkn
 clear hkn
 go_wp2_with fail
 refine Calls.mono (take_n hx2 ⟨#[123]⟩ [123] rfl (by decide) H3.out) ?_
 rintro e3 w3 ⟨rfl, hx3, hkn⟩
 have hk3 := hk2.then hkn
 clear hkn
 have HG := Lib.hid ((hk3.block w.heap.size (by rw [HSZ.out]; omega) (by omega)).trans HG0.out)
 go_wp2_with (refine wpList_store_tok rfl rfl _ _ rfl w.heap.size rfl _ (tkR (.slice none 0 0) ({ kind := 11 } : Tk)) HG.out rfl rfl (tkR_one (t := ({ kind := 11 } : Tk)) (ownR_nil W 0)) rfl ?_)
 refine bodyPost_ret (results_tok2 rfl _ _ w.heap.size (tkR (.slice none 0 0) ({ kind := 11 } : Tk)) rfl (setRow_heap _ _ _ _ _ _ HG.out) rfl) rfl ?_
 exact ⟨rfl, hx3.setRow HG.out hB hrl, (hkw.then hk3).setRow (Nat.le_refl _) _⟩
theorem quotes_any {C : Cf} {w : World} {a f : Nat} {T : Rw} (h : LX C w a f T) : Calls Tryz.prog 89 #[.pointer (some ⟨C.L, 0, none⟩)] w (QuOk C w f T (C.p.quotes a)) := by
 cases h1 : C.p.has [60] a with
 | true => exact quotes_0 h h1
 | false =>
   cases h2 : C.p.has [39] a with
   | true => exact quotes_1 h h1 h2
   | false =>
     cases h3 : C.p.has [123] a with
     | true => exact quotes_2 h h1 h2 h3
     | false => exact quotes_3 h h1 h2 h3
end Go.Proofs.YtkcmjcgjfjfimaaGreatDoor.tkw
end
section
namespace Go.Proofs.YtkcmjcgjfjfimaaGreatDoor.tkw
open Go Go.RowKit Go.Maps utfp utfw ucdp setp setw prp tkp
def hv (s : ByteArray) : Nat → Int
 | 0 => 0
 | k + 1 => hv s k * 16 + hexV (sg s k)
theorem lower_hex (c : Int) (h : (65 ≤ c ∧ c ≤ 70) ∨ (97 ≤ c ∧ c ≤ 102)) (w : World) : Calls Tryz.prog 193 #[.int .u8 c] w fun e w' => e = .returned (.int .u8 (hexV c + 87)) ∧ w = w' := by
 have hc : c = 65 ∨ c = 66 ∨ c = 67 ∨ c = 68 ∨ c = 69 ∨ c = 70 ∨ c = 97 ∨ c = 98 ∨ c = 99 ∨ c = 100 ∨ c = 101 ∨ c = 102 := by omega
 rcases hc with rfl | rfl | rfl | rfl | rfl | rfl | rfl | rfl | rfl | rfl | rfl | rfl
 all_goals
   clear h
   go_enter Tryz.func193, Tryz.ntmps193
   go_wp2
   go_ret
   exact ⟨by simp [hexV, bits] <;> rfl, rfl⟩
theorem hexV_bd {c : Int} (h : isHexd c = true) : 0 ≤ hexV c ∧ hexV c ≤ 15 ∧ ((48 ≤ c ∧ c ≤ 57 ∧ hexV c = c - 48) ∨ (((65 ≤ c ∧ c ≤ 70) ∨ (97 ≤ c ∧ c ≤ 102)) ∧ 10 ≤ hexV c)) := by
 unfold isHexd isDig at h
 simp only [Bool.or_eq_true, Bool.and_eq_true, decide_eq_true_eq] at h
 unfold hexV
 split
 · omega
 · split <;> omega
theorem hv_bd {s : ByteArray} : ∀ {k : Nat}, k ≤ 6 → (∀ i, i < k → isHexd (sg s i) = true) → 0 ≤ hv s k ∧ hv s k ≤ 16777215 ∧ (k ≤ 5 → hv s k ≤ 1048575) ∧ (k ≤ 4 → hv s k ≤ 65535) ∧ (k ≤ 3 → hv s k ≤ 4095) ∧ (k ≤ 2 → hv s k ≤ 255) ∧ (k ≤ 1 → hv s k ≤ 15) ∧ (k ≤ 0 → hv s k ≤ 0)
 | 0, _, _ => by simp [hv]
 | k + 1, hk, h => by
   have ih := hv_bd (s := s) (k := k) (by omega) fun i hi => h i (by omega)
   have hb := hexV_bd (h k (by omega))
   unfold hv
   omega
set_option maxRecDepth 100000 in
set_option maxHeartbeats 4000000 in
theorem parseUint_hex (s : ByteArray) (w : World) (h0 : 0 < s.size) (h6 : s.size ≤ 6) (hh : ∀ i, i < s.size → isHexd (sg s i) = true) :
   Calls Tryz.prog 172 #[.string s, .int .i64 16, .int .i64 64] w fun e w' => e = .returned (.tuple #[.int .u64 (hv s s.size), .nilIface]) ∧ Below w.heap.size w w' := by
 have em := not_empty h0
 have HC := Lib.hid (fun u => conv_bs u s (by omega))
 have hcv := fun u => (conv_bs u s (by omega)).1
 have HH := Lib.hid hh
 clear hh
 go_enter Tryz.func172, Tryz.ntmps172
 go_wp2_with fail
 have HB := Lib.hid (below_bw w s)
 have HSL := Lib.hid (HC.out w).2
 generalize Lib.bytesWorld w 5 s = W at *
 generalize grownCap w s.size 0 5 = gc at *
 clear hcv
 obtain ⟨mx, hmx, hmb⟩ : ∃ mx : Int, IntKind.u64.wrap (IntKind.u64.wrap 18446744073709551616 - 1) = mx ∧ 16777215 ≤ mx := ⟨_, rfl, by decide⟩
 rw [hmx]
 clear hmx
 go_loop [6, 7, 12, 13, 101] (fun v6 v7 v12 n i => ∃ k, k ≤ s.size ∧ v6 = .int .u64 0 ∧ v7 = .nilIface ∧ v12 = .bool false ∧ i = .int .i64 k ∧ n = .int .u64 (hv s k)) (fun _ _ _ _ i => s.size - (intOf i).toNat)
 case atStart => exact ⟨0, Nat.zero_le _, rfl, rfl, rfl, rfl, rfl⟩
 case round =>
   obtain ⟨k, hk, rfl, rfl, rfl, rfl, rfl⟩ := hrel
   have hb := hv_bd (s := s) (k := k) (by omega) (fun i hi => HH.out i (by omega))
   have hb1 := hb.1
   have hb2 := hb.2.1
   clear hb
   by_cases hlt : k < s.size
   · obtain ⟨b, off, cap, hv0, hcell⟩ := cell_sl HSL.out hlt
     have hd := hexV_bd (HH.out k hlt)
     have hg1 := (sg_bd s k).1
     have hg2 := (sg_bd s k).2
     simp only [Value.slice.injEq, Option.some.injEq, Addr.mk.injEq] at hv0
     obtain ⟨⟨rfl, rfl, _⟩, _, rfl⟩ := hv0
     rw [Nat.zero_add] at hcell
     obtain ⟨hd1, hd2, hd3⟩ := hd
     have HS := Lib.hid (show hv s k * 16 + hexV (sg s k) = hv s (k + 1) from rfl)
     have hbn : hv s k * 16 + hexV (sg s k) ≤ 16777215 := (hv_bd (s := s) (k := k + 1) (by omega) (fun i hi => HH.out i (by omega))).2.1
     rcases hd3 with ⟨e1, e2, e3⟩ | ⟨e1, e2⟩
     · have hbn2 : hv s k * 16 + (sg s k - 48) ≤ 16777215 := by omega
       have E3 := Lib.hid e3
       clear e3 hbn
       go_wp2_with fail
       go_round
       case rel =>
         first
           | exact ⟨k + 1, by omega, rfl, rfl, rfl, by go_num, by rw [← HS.out, E3.out]⟩
           | exact ⟨_, _, _, _, _, _, _, _, ⟨k + 1, by omega, rfl, rfl, rfl, by go_num, by rw [← HS.out, E3.out]⟩, rfl, rfl, rfl, rfl, rfl, rfl, rfl, rfl⟩
       case measure => simp [intOf]; omega
     · have HLW := Lib.hid (fun w => lower_hex (sg s k) e1 w)
       have e3 : 57 < sg s k := by omega
       have e5 : sg s k ≠ 95 := by omega
       clear e1
       go_wp2_with fail
       refine (HLW.out _).mono ?_
       rintro e w' ⟨rfl, rfl⟩
       go_wp2_with fail
       refine (HLW.out _).mono ?_
       rintro e w' ⟨rfl, rfl⟩
       go_wp2_with fail
       refine (HLW.out _).mono ?_
       rintro e w' ⟨rfl, rfl⟩
       go_wp2_with fail
       go_round
       case rel =>
         have e9 : hv s k * 16 + (hexV (sg s k) + 87 - 97 + 10) = hv s (k + 1) := by rw [← HS.out]; omega
         first
           | exact ⟨k + 1, by omega, rfl, rfl, rfl, by go_num, by rw [e9]⟩
           | exact ⟨_, _, _, _, _, _, _, _, ⟨k + 1, by omega, rfl, rfl, rfl, by go_num, by rw [e9]⟩, rfl, rfl, rfl, rfl, rfl, rfl, rfl, rfl⟩
           | (refine ⟨trivial, ?_⟩; (repeat apply Exists.intro); exact ⟨⟨k + 1, by omega, rfl, rfl, rfl, congrArg (Value.int .i64) (show (k : Int) + 1 = ((k + 1 : Nat) : Int) by omega), congrArg (Value.int .u64) e9⟩, rfl⟩)
       case measure => simp [intOf]; omega
   · obtain rfl : k = s.size := by omega
     go_wp2_with fail
     go_ret2
     exact ⟨rfl, HB.out⟩
end Go.Proofs.YtkcmjcgjfjfimaaGreatDoor.tkw
end
