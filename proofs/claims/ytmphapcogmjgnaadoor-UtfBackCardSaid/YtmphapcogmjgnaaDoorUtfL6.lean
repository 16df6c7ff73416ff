/- The walk of the law UtfPoints: each code point that has bytes is read from them, alone and between others, and they are valid. -/
import Derived.Test.YtmphapcogmjgnaaDoorUtfL5
import Derived.Test.YtmphapcogmjgnaaDoorUtfP2
import Derived.Test.YtmphapcogmjgnaaDoorUtfW5
namespace Go.Proofs.YtmphapcogmjgnaaDoor.utfw
open Go Go.RowKit Go.Proofs.YtmphapcogmjgnaaDoor.utfp

theorem map_at (l : List Int) : (List.range l.length).map (at_ l) = l := by
  apply List.ext_getElem
  · simp
  · intro i h1 h2
    simp [at_, List.getD, h2]
/-- what is read off a code point's bytes -/
theorem alone {c : Int} {l : List Int} (he : enc c = l) (hl : l ≠ []) : validP (at_ l) l.length = ((l.length : Int), true) ∧ nextP true (at_ l) l.length 0 = (c, (l.length : Int)) ∧ countP true (at_ l) l.length = 1 := by
  have hpos : 1 ≤ l.length := by cases l with
    | nil => exact absurd rfl hl
    | cons x l => simp
  have hb : ∀ i, 0 ≤ at_ l i ∧ at_ l i ≤ 255 := at_bytes (by rw [← he]; exact enc_bytes c)
  have hs : seqAt (at_ l) l.length 0 = (c, (l.length : Int)) := seq_make (by omega) (by
    rw [he]
    have : sh (at_ l) 0 = at_ l := by funext i; simp [sh]
    rw [this, map_at]) hpos
  have hst : stepN true (at_ l) l.length 0 = l.length := by
    unfold stepN stepv
    rw [hs, if_pos ⟨rfl, by simp only; omega⟩]
    simp
  refine ⟨?_, ?_, ?_⟩
  · unfold validP
    rw [validP_step hb hpos, hs]
    simp only
    rw [if_neg (by omega), validP_end (by omega)]
    simp
  · unfold nextP
    rw [if_neg (by omega)]
    unfold stepv
    rw [Int.toNat_zero, hs, if_pos ⟨rfl, by simp only; omega⟩]
    simp
  · unfold countP
    rw [edges_step hb hpos, hst, edges_end (Nat.le_refl _)]
    rfl
theorem between {c : Int} {l : List Int} (he : enc c = l) (hl : l ≠ []) (n1 n2 : Nat) (g1 g2 : Nat → Int) :
    nextP true (at_ (((List.range n1).map g1 ++ l) ++ (List.range n2).map g2)) (n1 + l.length + n2) n1 = (c, (n1 : Int) + l.length) := by
  have hpos : 1 ≤ l.length := by cases l with
    | nil => exact absurd rfl hl
    | cons x l => simp
  have hs : seqAt (at_ (((List.range n1).map g1 ++ l) ++ (List.range n2).map g2)) (n1 + l.length + n2) n1 = (c, (l.length : Int)) := seq_make (by omega) (by
    rw [he]
    apply List.ext_getElem
    · simp
    · intro i h1 h2
      simp [sh, at_, List.getD, List.getElem?_append, h1]
      rw [if_neg (by omega)]
      rfl) hpos
  unfold nextP
  rw [if_neg (by omega)]
  unfold stepv
  rw [show ((n1 : Int)).toNat = n1 from by simp, hs, if_pos ⟨rfl, by simp only; omega⟩]

set_option maxRecDepth 100000 in
set_option maxHeartbeats 4000000 in
theorem points_law (c : Int) (_wc : (Lit.int .i64 c).wf = true) (v1 : Value) (n1 : Nat) (g1 : Nat → Int) (v2 : Value) (n2 : Nat) (g2 : Nat → Int) (w : World) (s1 : Sx w v1 n1 g1) (s2 : Sx w v2 n2 g2) (hT : Tabs w) :
    Calls Tryd.prog 8 #[.int .i64 c, v1, v2] w (BoolB true w) := by
  have H0 := Lib.hid (awake_any w hT)
  have Hg1 := Lib.hid s1.1.1
  have Hg2 := Lib.hid s2.1.1
  have HT := Lib.hid hT
  have HS1 := Lib.hid s1
  have HS2 := Lib.hid s2
  have hE := fun w1 (hb : Below w.heap.size w w1) => encode_any c true w1 (below_tabs hb hT)
  rw [show encP true c = enc c from by simp [encP]] at hE
  have hn1 := s1.1.2.1
  have hn2 := s2.1.2.1
  obtain ⟨a1, c1, hv1⟩ := sl_slice s1.1
  obtain ⟨a2, c2, hv2⟩ := sl_slice s2.1
  subst hv1 hv2
  have Hlen := Lib.hid (show (enc c).length ≤ 4 by unfold enc; repeat' split
                                                   all_goals simp)
  generalize hl : enc c = l at *
  have Hl := Lib.hid hl
  have HE := Lib.hid hE
  clear hT s1 s2 hE hl
  by_cases hb1 : (1000 : Int) < n1
  · go_enter Tryd.func8, Tryd.ntmps8
    go_wp2_with fail
    refine H0.out.mono ?_
    rintro e w1 ⟨rfl, hb1⟩
    go_wp2_with fail
    go_ret
    exact ⟨rfl, hb1⟩
  by_cases hb2 : (1000 : Int) < n2
  · go_enter Tryd.func8, Tryd.ntmps8
    go_wp2_with fail
    refine H0.out.mono ?_
    rintro e w1 ⟨rfl, hb1⟩
    go_wp2_with fail
    go_ret
    exact ⟨rfl, hb1⟩
  by_cases hne : l = []
  · have Hne := Lib.hid hne
    clear hne
    go_enter Tryd.func8, Tryd.ntmps8
    go_wp2_with fail
    refine H0.out.mono ?_
    rintro e w1 ⟨rfl, hw1⟩
    go_wp2_with fail
    refine (HE.out _ hw1).mono ?_
    rintro e w2 ⟨v, rfl, hv, hd2⟩
    rw [if_pos Hne.out]
    obtain ⟨av, cv, hv3⟩ := sl_slice hv
    rw [Hne.out] at hv3
    rw [hv3]
    clear hv hv3
    go_wp2_with fail
    go_ret
    exact ⟨rfl, below_trans hw1 hd2⟩
  · have Hne := Lib.hid hne
    have hpos : 1 ≤ l.length := by cases l with
      | nil => exact absurd rfl hne
      | cons x l => simp
    have HA := Lib.hid (alone Hl.out hne)
    have HB := Lib.hid (between Hl.out hne n1 n2 g1 g2)
    clear hne
    go_enter Tryd.func8, Tryd.ntmps8
    go_wp2_with fail
    refine H0.out.mono ?_
    rintro e w1 ⟨rfl, hw1⟩
    go_wp2_with fail
    refine (HE.out _ hw1).mono ?_
    rintro e w2 ⟨v, rfl, hv, hd2⟩
    have hw2 := below_trans hw1 hd2
    rw [if_neg Hne.out]
    have hnil : NilOk v := by
      obtain ⟨_, _, ⟨h0, _⟩ | ⟨b, off, cap, hv3, _⟩⟩ := hv
      · omega
      · exact Or.inr ⟨_, _, _, hv3⟩
    obtain ⟨av, cv, hv3⟩ := sl_slice hv
    have hv4 := hv
    have hnil4 := hnil
    rw [hv3] at hv4 hnil4
    rw [hv3]
    have HSv := Lib.hid hv4
    have HNv := Lib.hid hnil4
    have Hlen2 := Hlen.out
    clear hv hnil hv3 hv4 hnil4
    obtain ⟨q1, q2, q3⟩ := HA.out
    have CV := fun w1 (hb : Below w.heap.size w w1) (hs : Sl w1 (.slice av l.length cv) l.length (at_ l)) => valid_any _ _ _ w1 hs (below_tabs hb HT.out)
    have CN := fun w1 (hb : Below w.heap.size w w1) (hs : Sl w1 (.slice av l.length cv) l.length (at_ l)) => next_any _ _ _ 0 true w1 hs (below_tabs hb HT.out)
    have CC := fun w1 (hb : Below w.heap.size w w1) (hs : Sl w1 (.slice av l.length cv) l.length (at_ l)) => count_any _ _ _ true w1 hs (below_tabs hb HT.out)
    rw [q1] at CV
    rw [q2] at CN
    rw [q3] at CC
    have HCV := Lib.hid CV
    have HCN := Lib.hid CN
    have HCC := Lib.hid CC
    have Hbl := Lib.hid (show ∀ x ∈ l, 0 ≤ x ∧ x ≤ 255 by rw [← Hl.out]; exact enc_bytes c)
    have Hmap := Lib.hid (map_at l)
    have K1 := Lib.hid (show ([] : List Int).length + n1 ≤ 140737488355328 by simp; omega)
    have K2 := Lib.hid (show ((List.range n1).map g1).length + l.length ≤ 140737488355328 by simp; omega)
    have K3 := Lib.hid (show ((List.range n1).map g1 ++ l).length + n2 ≤ 140737488355328 by simp; omega)
    clear CV CN CC q1 q2 q3
    go_wp2_with fail
    refine (HCV.out _ hw2 HSv.out).mono ?_
    rintro e w3 ⟨rfl, hd3⟩
    have hw3 := below_trans hw2 (drawn_below hd3)
    have HS3 := Lib.hid (hd3.sl HSv.out)
    go_wp2_with fail
    refine (HCN.out _ hw3 HS3.out).mono ?_
    rintro e w4 ⟨rfl, hd4⟩
    have hw4 := below_trans hw3 (drawn_below hd4)
    have HS4 := Lib.hid (hd4.sl HS3.out)
    have hz4 : Below w4.heap.size w4 w4 := Below.refl _ _
    have HSa := Lib.hid (below_sl hw4 HS1.out.1)
    go_wp2_with (first
      | (at_builtin; refine wpList_append_sl rfl _ _ rfl w4.heap.size (.slice none 0 0) [] rfl (own_nil _ _) (.slice a1 n1 c1) n1 g1 rfl HSa.out HS1.out.2 K1.out (Nat.le_refl _) ?_; intro va wa hoa hba; have HOa := Lib.hid hoa; have hwa := hba _ _ hz4 (Nat.le_refl _); clear hoa hba)
      | (at_builtin; refine wpList_append_sl rfl _ _ rfl w4.heap.size va ((List.range n1).map g1) rfl HOa.out (.slice av l.length cv) l.length (at_ l) rfl (below_sl hwa HS4.out) HNv.out K2.out hwa.size ?_; rw [Hmap.out]; intro vb wb hob hbb; have HOb := Lib.hid hob; have hwb := hbb _ _ hwa (Nat.le_refl _); clear hob hbb)
      | (at_builtin; refine wpList_append_sl rfl _ _ rfl w4.heap.size vb ((List.range n1).map g1 ++ l) rfl HOb.out (.slice a2 n2 c2) n2 g2 rfl (below_sl (below_trans hw4 hwb) HS2.out.1) HS2.out.2 K3.out hwb.size ?_; intro vc wc hoc hbc; have HOc := Lib.hid hoc; have hwc := hbc _ _ hwb (Nat.le_refl _); clear hoc hbc))
    have HL := Lib.hid (show (((List.range n1).map g1 ++ l) ++ (List.range n2).map g2).length = n1 + l.length + n2 by simp; omega)
    obtain ⟨a3, c3, hvc⟩ := own_slice HOc.out
    have hsl := own_sl HOc.out (by
      intro x hx
      rcases List.mem_append.1 hx with h | h
      · rcases List.mem_append.1 h with h | h
        · exact bytes_map Hg1.out x h
        · exact Hbl.out x h
      · exact bytes_map Hg2.out x h) (by rw [HL.out]; omega)
    rw [HL.out] at hvc hsl
    rw [hvc] at hsl
    rw [hvc]
    have hw5 := below_trans hw4 hwc
    have CX := next_any _ _ _ (n1 : Int) true wc hsl (below_tabs hw5 HT.out)
    rw [HB.out] at CX
    have HCX := Lib.hid CX
    have HS5 := Lib.hid (below_sl hwc HS4.out)
    clear CX hsl hvc
    refine HCX.out.mono ?_
    rintro e w6 ⟨rfl, hd6⟩
    have hw6 := below_trans hw5 (drawn_below hd6)
    have HS6 := Lib.hid (hd6.sl HS5.out)
    go_wp2_with fail
    refine (HCC.out _ hw6 HS6.out).mono ?_
    rintro e w7 ⟨rfl, hd7⟩
    have hw7 := below_trans hw6 (drawn_below hd7)
    go_wp2_with fail
    go_ret
    exact ⟨rfl, hw7⟩
end Go.Proofs.YtmphapcogmjgnaaDoor.utfw
