/- The walk of the law UtfAdds: two valid texts, one behind the other, are valid, and have the characters of both. -/
import Derived.Test.YtmphapcogmjgnaaDoorUtfW6
import Derived.Test.YtmphapcogmjgnaaDoorUtfRow2
import Derived.Test.YtmphapcogmjgnaaDoorUtfP3
namespace Go.Proofs.YtmphapcogmjgnaaDoor.utfw
open Go Go.RowKit Go.Proofs.YtmphapcogmjgnaaDoor.utfp

theorem at_cat {n m : Nat} {g1 g2 : Nat → Int} : (∀ j, j < n → at_ ((List.range n).map g1 ++ (List.range m).map g2) j = g1 j) ∧ (∀ j, j < m → at_ ((List.range n).map g1 ++ (List.range m).map g2) (n + j) = g2 j) := by
  constructor
  · intro j hj
    simp [at_, List.getD, List.getElem?_append, hj]
  · intro j hj
    simp [at_, List.getD, hj]
theorem bytes_map {n : Nat} {g : Nat → Int} (hg : ∀ i, 0 ≤ g i ∧ g i ≤ 255) : ∀ x ∈ (List.range n).map g, 0 ≤ x ∧ x ≤ 255 := by
  intro x hx
  simp only [List.mem_map] at hx
  obtain ⟨i, _, rfl⟩ := hx
  exact hg i

set_option maxRecDepth 100000 in
set_option maxHeartbeats 4000000 in
theorem adds_law (v1 : Value) (n1 : Nat) (g1 : Nat → Int) (v2 : Value) (n2 : Nat) (g2 : Nat → Int) (w : World) (s1 : Sx w v1 n1 g1) (s2 : Sx w v2 n2 g2) (hT : Tabs w) :
    Calls Tryd.prog 9 #[v1, v2] w (BoolB true w) := by
  have H0 := Lib.hid (awake_any w hT)
  have hg1 := s1.1.1
  have hg2 := s2.1.1
  have Hg1 := Lib.hid hg1
  have Hg2 := Lib.hid hg2
  have HT := Lib.hid hT
  have HS1 := Lib.hid s1
  have HS2 := Lib.hid s2
  have HV1 := Lib.hid (fun w1 (hb : Below w.heap.size w w1) => valid_any v1 n1 g1 w1 (below_sl hb s1.1) (below_tabs hb hT))
  have HV2 := Lib.hid (fun w1 (hb : Below w.heap.size w w1) => valid_any v2 n2 g2 w1 (below_sl hb s2.1) (below_tabs hb hT))
  have HC1 := Lib.hid (fun w1 (hb : Below w.heap.size w w1) => count_any v1 n1 g1 true w1 (below_sl hb s1.1) (below_tabs hb hT))
  have HC2 := Lib.hid (fun w1 (hb : Below w.heap.size w w1) => count_any v2 n2 g2 true w1 (below_sl hb s2.1) (below_tabs hb hT))
  have HA := Lib.hid (fun (x1 : (validP g1 n1).2 = true) (x2 : (validP g2 n2).2 = true) => adds (g := at_ ((List.range n1).map g1 ++ (List.range n2).map g2)) (at_bytes (by
    intro x hx
    rcases List.mem_append.1 hx with h | h
    · exact bytes_map hg1 x h
    · exact bytes_map hg2 x h)) hg1 hg2 at_cat.1 at_cat.2 rfl x1 x2)
  have hn1 := s1.1.2.1
  have hn2 := s2.1.2.1
  obtain ⟨a1, c1, hv1⟩ := sl_slice s1.1
  obtain ⟨a2, c2, hv2⟩ := sl_slice s2.1
  subst hv1 hv2
  clear hT s1 s2 hg1 hg2
  by_cases hb1 : (1000 : Int) < n1
  · go_enter Tryd.func9, Tryd.ntmps9
    go_wp2_with fail
    refine H0.out.mono ?_
    rintro e w1 ⟨rfl, hb1⟩
    go_wp2_with fail
    go_ret
    exact ⟨rfl, hb1⟩
  by_cases hb2 : (1000 : Int) < n2
  · go_enter Tryd.func9, Tryd.ntmps9
    go_wp2_with fail
    refine H0.out.mono ?_
    rintro e w1 ⟨rfl, hb1⟩
    go_wp2_with fail
    go_ret
    exact ⟨rfl, hb1⟩
  generalize validP g1 n1 = r1 at *
  generalize validP g2 n2 = r2 at *
  obtain ⟨x1, y1⟩ := r1
  obtain ⟨x2, y2⟩ := r2
  go_enter Tryd.func9, Tryd.ntmps9
  go_wp2_with fail
  refine H0.out.mono ?_
  rintro e w1 ⟨rfl, hw1⟩
  go_wp2_with fail
  refine (HV1.out _ hw1).mono ?_
  rintro e w2 ⟨rfl, hd2⟩
  have hw2 := below_trans hw1 (drawn_below hd2)
  go_wp2_with fail
  refine (HV2.out _ hw2).mono ?_
  rintro e w3 ⟨rfl, hd3⟩
  have hw3 := below_trans hw2 (drawn_below hd3)
  cases y1 with
  | false =>
    go_wp2_with fail
    go_ret
    exact ⟨rfl, hw3⟩
  | true =>
  cases y2 with
  | false =>
    go_wp2_with fail
    go_ret
    exact ⟨rfl, hw3⟩
  | true =>
  have hS1 := below_sl hw3 HS1.out.1
  have hS2 := HS2.out.1
  have HSa := Lib.hid hS1
  have hsz : w.heap.size ≤ w3.heap.size := hw3.size
  clear hS1 hS2
  have k1 : ([] : List Int).length + n1 ≤ 140737488355328 := by simp; omega
  have k2 : ((List.range n1).map g1).length + n2 ≤ 140737488355328 := by simp; omega
  have K1 := Lib.hid k1
  have K2 := Lib.hid k2
  clear k1 k2
  go_wp2_with (first
    | (at_builtin; refine wpList_append_sl rfl _ _ rfl w.heap.size (.slice none 0 0) [] rfl (own_nil _ _) (.slice a1 n1 c1) n1 g1 rfl HSa.out HS1.out.2 K1.out hsz ?_; intro va wa hoa hba; have HOa := Lib.hid hoa; have hwa := hba _ _ hw3 (Nat.le_refl _); clear hoa hba)
    | (at_builtin; refine wpList_append_sl rfl _ _ rfl w.heap.size va ((List.range n1).map g1) rfl HOa.out (.slice a2 n2 c2) n2 g2 rfl (below_sl hwa HS2.out.1) HS2.out.2 K2.out hwa.size ?_; intro vb wb hob hbb; have HOb := Lib.hid hob; have hwb := hbb _ _ hwa (Nat.le_refl _); clear hob hbb))
  have HL := Lib.hid (show ((List.range n1).map g1 ++ (List.range n2).map g2).length = n1 + n2 by simp)
  obtain ⟨a3, c3, hvb⟩ := own_slice HOb.out
  have hsl := own_sl HOb.out (by
    intro x hx
    rcases List.mem_append.1 hx with h | h
    · exact bytes_map Hg1.out x h
    · exact bytes_map Hg2.out x h) (by rw [HL.out]; omega)
  rw [HL.out] at hvb hsl
  rw [hvb] at hsl
  rw [hvb]
  have HSb := Lib.hid hsl
  obtain ⟨q1, q2, q3⟩ := HA.out (by simp) (by simp)
  have hp1 : countP true g1 n1 ≤ n1 := by have := edges_len (utf := true) (n := n1) Hg1.out n1 0; unfold countP; omega
  have hp2 : countP true g2 n2 ≤ n2 := by have := edges_len (utf := true) (n := n2) Hg2.out n2 0; unfold countP; omega
  have CV := fun w1 (hb : Below w.heap.size w w1) (hs : Sl w1 (.slice a3 (n1 + n2) c3) (n1 + n2) (at_ ((List.range n1).map g1 ++ (List.range n2).map g2))) => valid_any _ _ _ w1 hs (below_tabs hb HT.out)
  have CC := fun w1 (hb : Below w.heap.size w w1) (hs : Sl w1 (.slice a3 (n1 + n2) c3) (n1 + n2) (at_ ((List.range n1).map g1 ++ (List.range n2).map g2))) => count_any _ _ _ true w1 hs (below_tabs hb HT.out)
  have CF := fun w1 (hb : Below w.heap.size w w1) (hs : Sl w1 (.slice a3 (n1 + n2) c3) (n1 + n2) (at_ ((List.range n1).map g1 ++ (List.range n2).map g2))) => count_any _ _ _ false w1 hs (below_tabs hb HT.out)
  have CE := fun w1 (hb : Below w.heap.size w w1) (hs : Sl w1 (.slice a3 (n1 + n2) c3) (n1 + n2) (at_ ((List.range n1).map g1 ++ (List.range n2).map g2))) => edge_any _ _ _ (n1 : Int) true w1 hs (below_tabs hb HT.out)
  rw [q1] at CV
  rw [q2] at CC
  rw [q3] at CE
  rw [countP_false] at CF
  generalize countP true g1 n1 = p1 at *
  generalize countP true g2 n2 = p2 at *
  simp only [Int.natCast_add] at CV CC CF
  have HCV := Lib.hid CV
  have HCC := Lib.hid CC
  have HCF := Lib.hid CF
  have HCE := Lib.hid CE
  clear CV CC CF CE q1 q2 q3 hsl hvb
  refine (HCV.out _ hwb HSb.out).mono ?_
  rintro e w5 ⟨rfl, hd5⟩
  have hw5 := below_trans hwb (drawn_below hd5)
  have HS5 := Lib.hid (hd5.sl HSb.out)
  go_wp2_with fail
  refine (HCC.out _ hw5 HS5.out).mono ?_
  rintro e w6 ⟨rfl, hd6⟩
  have hw6 := below_trans hw5 (drawn_below hd6)
  have HS6 := Lib.hid (hd6.sl HS5.out)
  go_wp2_with fail
  refine (HC1.out _ hw6).mono ?_
  rintro e w7 ⟨rfl, hd7⟩
  have hw7 := below_trans hw6 (drawn_below hd7)
  have HS7 := Lib.hid (hd7.sl HS6.out)
  go_wp2_with fail
  refine (HC2.out _ hw7).mono ?_
  rintro e w8 ⟨rfl, hd8⟩
  have hw8 := below_trans hw7 (drawn_below hd8)
  have HS8 := Lib.hid (hd8.sl HS7.out)
  go_wp2_with fail
  refine (HCE.out _ hw8 HS8.out).mono ?_
  rintro e w9 ⟨rfl, hd9⟩
  have hw9 := below_trans hw8 (drawn_below hd9)
  have HS9 := Lib.hid (hd9.sl HS8.out)
  go_wp2_with fail
  refine (HCF.out _ hw9 HS9.out).mono ?_
  rintro e w10 ⟨rfl, hd10⟩
  have hw10 := below_trans hw9 (drawn_below hd10)
  go_wp2_with fail
  go_ret
  exact ⟨rfl, hw10⟩
end Go.Proofs.YtmphapcogmjgnaaDoor.utfw
