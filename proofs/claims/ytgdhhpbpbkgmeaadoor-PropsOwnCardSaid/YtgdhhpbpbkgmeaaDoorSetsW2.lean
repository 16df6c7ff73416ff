/- The contracts of package sets' joined: the library's sort, and the loop that puts ranges together. -/
import Derived.Test.YtgdhhpbpbkgmeaaDoorSetsW1
import Derived.Test.YtgdhhpbpbkgmeaaDoorSetsLib
import Derived.Shelf.SlSortCmp.NoneTotal
import Derived.Shelf.SlicesG.Cmp
import Derived.Lib.OwnBridge
import Derived.Deep.QuietTactic
import Derived.BigQuiet
import Derived.StillTailTactics
import Derived.IntWalk
namespace Go.Proofs.YtgdhhpbpbkgmeaaDoor.setw
open Go Go.RowKit Go.Shelf Go.Proofs.YtgdhhpbpbkgmeaaDoor.bulk Go.Proofs.YtgdhhpbpbkgmeaaDoor.ucdp Go.Proofs.YtgdhhpbpbkgmeaaDoor.ucdw Go.Proofs.YtgdhhpbpbkgmeaaDoor.setp Go.Proofs.YtgdhhpbpbkgmeaaDoor.flt Go.Proofs.YtgdhhpbpbkgmeaaDoor.setl

/-- how 'joined' compares -/
def cf (x y : Rg) : Int := Lib.compareInt (cl x.1) (cl y.1)
theorem ltf (x y : Rg) : ltOf cf x y = decide (cl x.1 < cl y.1) := by
  unfold ltOf cf Lib.compareInt
  by_cases h1 : cl x.1 < cl y.1
  · simp [h1]
  · by_cases h2 : cl y.1 < cl x.1 <;> simp [h1, h2]
theorem swof : Sort.SWO (ltOf cf) where
  irrefl x := by rw [ltf]; simp
  trans x y z h1 h2 := by rw [ltf] at *; simp at *; omega
  ntrans x y z h1 h2 := by rw [ltf] at *; simp at *; omega
theorem closure_any (x y : Rg) (W : World) : Calls Tryd.prog 67 #[zc x, zc y] W fun e w' => e = .returned (.int .i64 (cf x y)) ∧ ∃ q, w' = W.drewN q := by
  have h1 := first_any x.1 x.2
  have h2 := first_any y.1 y.2
  have hcon := fun W => AnyG.cmp_Compare_int cmpZ (cl x.1) (cl y.1) W
  change ∀ W, Calls Tryd.prog 68 _ W _ at hcon
  unfold cf
  generalize Lib.compareInt (cl x.1) (cl y.1) = r at hcon ⊢
  have H1 := Lib.hid h1
  have H2 := Lib.hid h2
  have H3 := Lib.hid hcon
  clear h1 h2 hcon
  unfold zc
  go_enter Tryd.func67, Tryd.ntmps67
  go_wp2_with fail
  refine (H1.out _).mono ?_
  rintro e w' ⟨rfl, rfl⟩
  go_wp2_with fail
  refine (H2.out _).mono ?_
  rintro e w' ⟨rfl, rfl⟩
  go_wp2_with fail
  refine (H3.out _).mono ?_
  rintro e w' ⟨rfl, rfl⟩
  go_wp2_with fail
  go_ret
  exact ⟨rfl, 0, rfl⟩
theorem cmpReads (blk off size : Nat) (w : World) : CmpReads Tryd.prog 67 #[] zc cf blk off size w :=
  fun _ _ _ _ x y => closure_any x y _

theorem below_grown (B : Nat) (w : World) (hB : B ≤ w.heap.size) (os : Array Obj) : Below B w (Sort.grow w os) :=
  ⟨rfl, rfl, rfl, by show w.heap.size ≤ (w.heap ++ os).size; rw [Array.size_append]; omega, fun j hj => Sort.heap_grow_old w os (by omega)⟩
theorem below_draws {B : Nat} {w w' : World} (h : Below B w w') (n : Nat) : Below B w (w'.drewN n) := ⟨h.os, h.tape, h.output, h.size, h.block⟩
theorem ownZ_draws {w : World} {base : Nat} {v : Value} {D : List Rg} (h : OwnZ w base v D) (n : Nat) : OwnZ (w.drewN n) base v D := h
/-- what the sort leaves -/
def SortPost (v : Value) (D : List Rg) (base : Nat) (w : World) (e : Ending) (w' : World) : Prop := e = .returned (.tuple #[]) ∧ ∃ D' : List Rg, D'.Perm D ∧ Rises D' ∧ OwnZ w' base v D' ∧ Below base w w'
theorem permList {D : List Rg} {d : Array Rg} (h : Sort.PermIn 0 D.toArray.size D.toArray d) : d.toList.Perm D ∧ d.size = D.length := by
  obtain ⟨h1, _, h2⟩ := h
  have e1 : d.extract 0 D.toArray.size = d := by rw [← h1]; simp
  have e2 : D.toArray.extract 0 D.toArray.size = D.toArray := by simp
  rw [e1, e2] at h2
  exact ⟨by simpa using h2, by simpa using h1⟩
theorem sort_any (v : Value) (D : List Rg) (base : Nat) (w : World) (hown : OwnZ w base v D) (hR : InR D) (hlen : D.length ≤ 100000000) :
    Calls Tryd.prog 66 #[v, .func (.func 67) #[] #[]] w (SortPost v D base w) := by
  by_cases hD : D = []
  · subst hD
    obtain rfl := hown.2 rfl
    refine (AnyF.slices_SortFunc_none (P := Tryd.prog) (ρ := sortZ_ren) { sortZ with } none 0 _ w).mono ?_
    rintro e w' ⟨rfl, rfl⟩
    exact ⟨rfl, [], List.Perm.refl _, List.Pairwise.nil, ownZ_nil _ _, Below.refl _ _⟩
  · obtain ⟨g, cap, rfl, hb, hg, hn, hm, hl, hH⟩ := Lib.holds_of_ownsRow hown.1 (by
      rintro rfl
      obtain ⟨_, h2⟩ := hown.1
      rcases h2 with ⟨_, hn⟩ | ⟨g, cap, cur, hv, _⟩
      · exact hD (List.eq_nil_of_length_eq_zero hn)
      · cases hv)
    have eg : ∀ args w, (callFunc 67 args).run Tryd.prog w = .ok (.enter 67 args) w := enters_of Tryd.func67 (by kernel_rfl) rfl
    have hs := Any.slices_SortFunc (P := Tryd.prog) (ρ := sortZ_ren) sortZ zc (fun _ => rfl) cf swof 67 #[] g 0 cap D.toArray w eg (cmpReads g 0 _ w).lays hH hg (by simp; omega)
    refine hs.mono ?_
    rintro e w' ⟨rfl, d', n, os, hp, hso, rfl⟩
    obtain ⟨hp1, hp2⟩ := permList hp
    refine ⟨rfl, d'.toList, hp1, ?_, ?_, ?_⟩
    · refine List.pairwise_iff_getElem.2 fun i j hi hj hij => ?_
      have hi2 : i < d'.size := by simpa using hi
      have hj2 : j < d'.size := by simpa using hj
      have h1 := hso i j (Nat.zero_le _) hij (by simp; omega)
      rw [ltf, getElem!_pos d' j hj2, getElem!_pos d' i hi2] at h1
      have hr1 := hR _ (hp1.mem_iff.1 (List.getElem_mem hi))
      have hr2 := hR _ (hp1.mem_iff.1 (List.getElem_mem hj))
      rw [Array.getElem_toList] at hr1 hr2
      rw [cl_id hr1.1 (by omega), cl_id hr2.1 (by omega)] at h1
      simp only [Array.getElem_toList]
      simpa using h1
    · have h1 := Lib.ownsRow_putRow (q := n) (k := D.length) (ys := d'.toList) hown.1 (by simpa using hp2) (Nat.le_refl _)
      have h3 : d'.toList.take D.length = d'.toList := List.take_of_length_le (by simp; omega)
      rw [h3] at h1
      have h4 : d'.toList.length = D.length := by simpa using hp2
      have h6 : OwnZ (Sort.putRow zc (Sort.ahead w n) g 0 d') base (.slice (some ⟨g, 0, none⟩) D.length cap) d'.toList := by
        refine ⟨?_, fun h => absurd (by have h5 := congrArg List.length h; rw [h4] at h5; exact List.eq_nil_of_length_eq_zero h5) hD⟩
        rw [h4]
        simpa [zcs] using h1
      exact ownZ_below h6 (below_grown _ _ (Nat.le_refl _) os)
    · have h1 := Lib.below_putRow (enc := zc) (q := n) (d := d') (Below.refl base w) hb
      exact h1.trans (below_grown base _ (Nat.le_trans (by omega) h1.size) os)

/-- where a slice of the call's own lies, and what its cells hold -/
theorem ownZ_slice {w : World} {base : Nat} {v : Value} {D : List Rg} (h : OwnZ w base v D) (hD : D ≠ []) : ∃ g cap : Nat, v = .slice (some ⟨g, 0, none⟩) D.length cap ∧ base ≤ g ∧ g < w.heap.size ∧ D.length ≤ cap ∧ cap ≤ 9223372036854775807 ∧ ∀ i (hi : i < D.length), w.cell? ⟨g, i, none⟩ = some (zc D[i]) := by
  have h' := h.1
  obtain ⟨_, h2⟩ := h.1
  rcases h2 with ⟨_, hn⟩ | ⟨g, cap, cur, hv, hg, hh, hnc, hcm, _⟩
  · exact absurd (List.eq_nil_of_length_eq_zero hn) hD
  · unfold maxLen at hcm
    have hlt : g < w.heap.size := by
      rcases Nat.lt_or_ge g w.heap.size with h | h
      · exact h
      · rw [Array.getElem?_eq_none h] at hh; cases hh
    refine ⟨g, cap, hv, hg, hlt, hnc, by omega, fun k hk => ?_⟩
    rw [hv] at h'
    rw [h'.cellAt k (by omega)]
    simp [zcs, hk]
theorem ownZ_len {w : World} {base : Nat} {v : Value} {D : List Rg} (h : OwnZ w base v D) : ∃ a cap, v = .slice a D.length cap := by
  by_cases hD : D = []
  · subst hD
    exact ⟨none, 0, h.2 rfl⟩
  · obtain ⟨g, cap, hv, _⟩ := ownZ_slice h hD
    exact ⟨_, _, hv⟩
/-- ranges in memory, from a block on: nil where there are none -/
def ZsAt (base : Nat) (w : World) (v : Value) (S : List Rg) : Prop :=
  (S = [] ∧ v = .slice none 0 0) ∨ (S ≠ [] ∧ ∃ b cap : Nat, v = .slice (some ⟨b, 0, none⟩) S.length cap ∧ base ≤ b ∧ S.length ≤ cap ∧ cap ≤ 9223372036854775807 ∧ ∀ i (hi : i < S.length), w.cell? ⟨b, i, none⟩ = some (zc S[i]))
theorem zsAt_own {w : World} {base : Nat} {v : Value} {D : List Rg} (h : OwnZ w base v D) : ZsAt base w v D := by
  by_cases hD : D = []
  · subst hD
    exact Or.inl ⟨rfl, h.2 rfl⟩
  · obtain ⟨g, cap, hv, h1, _, h3, h4, hc⟩ := ownZ_slice h hD
    exact Or.inr ⟨hD, g, cap, hv, h1, h3, h4, hc⟩
theorem zsAt_below {base : Nat} {w w' : World} {v : Value} {S : List Rg} (h : ZsAt base w v S) (hb : Below w.heap.size w w') : ZsAt base w' v S := by
  rcases h with h | ⟨hS, b, cap, hv, h0, h1, h2, hc⟩
  · exact Or.inl h
  · exact Or.inr ⟨hS, b, cap, hv, h0, h1, h2, fun i hi => below_cell hb (hc i hi)⟩
theorem zsAt_mono {base base' : Nat} {w : World} {v : Value} {S : List Rg} (h : ZsAt base w v S) (hb : base' ≤ base) : ZsAt base' w v S := by
  rcases h with h | ⟨hS, b, cap, hv, h0, r⟩
  · exact Or.inl h
  · exact Or.inr ⟨hS, b, cap, hv, Nat.le_trans hb h0, r⟩
theorem zsAt_len {base : Nat} {w : World} {v : Value} {S : List Rg} (h : ZsAt base w v S) : ∃ a cap, v = .slice a S.length cap := by
  rcases h with ⟨h, hv⟩ | ⟨_, b, cap, hv, _⟩
  · subst h; exact ⟨_, _, hv⟩
  · exact ⟨_, _, hv⟩
theorem zsAt_set {base : Nat} {w : World} {v : Value} {S : List Rg} (h : ZsAt base w v S) {a : Addr} (ha : a.block < base) (u : Value) : ZsAt base (w.setCell a u) v S := by
  rcases h with h | ⟨hS, b, cap, hv, h0, h1, h2, hc⟩
  · exact Or.inl h
  · refine Or.inr ⟨hS, b, cap, hv, h0, h1, h2, fun i hi => ?_⟩
    rw [← hc i hi]
    exact World.cell?_of_block (Below.heap_setCell w a u _ (by show b ≠ a.block; omega))

/-- the last range, overwritten -/
theorem ownZ_last {w : World} {base g m cap : Nat} {W0 : List Rg} {e r : Rg} (hm : W0.length = m) (h : OwnZ w base (.slice (some ⟨g, 0, none⟩) (m + 1) cap) (W0 ++ [e])) :
    OwnZ (w.setCell ⟨g, m, none⟩ (zc r)) base (.slice (some ⟨g, 0, none⟩) (m + 1) cap) (W0 ++ [r]) ∧ w.frozen? ⟨g, m, none⟩ = false ∧ ∀ B w0, Below B w0 w → B ≤ base → Below B w0 (w.setCell ⟨g, m, none⟩ (zc r)) := by
  subst hm
  have hl : (W0 ++ [e]).length = W0.length + 1 := by simp
  have h1 := h.1
  rw [hl] at h1
  have h2 := World.ownsRow.stored h1 W0.length (zc r)
  have he : (zcs (W0 ++ [e])).set W0.length (zc r) = zcs (W0 ++ [r]) := by
    simp only [zcs, List.map_append, List.map_cons, List.map_nil]
    rw [List.set_append_right _ _ (by simp)]
    simp
  rw [he] at h2
  refine ⟨⟨by rw [show (W0 ++ [r]).length = W0.length + 1 by simp]; exact h2.1, fun h => absurd h (by simp)⟩, World.ownsRow.frozenAt h1 _, fun B w0 hb hB => ?_⟩
  have := (World.ownsRow.lt h1) g rfl
  exact hb.setCell (by show B ≤ g; omega) _
/-- how far 'joined' has come -/
def JRel (D : List Rg) (w1 : World) (v i : Value) (wr : World) : Prop :=
  ∃ (k : Nat) (W : List Rg), k ≤ D.length ∧ i = .int .i64 k ∧ OwnZ wr w1.heap.size v W ∧ Below w1.heap.size w1 wr ∧ JInv D k W
/-- what 'joined' answers: a set, of what its ranges have -/
def JPost (base : Nat) (D : List Rg) (w : World) (e : Ending) (w' : World) : Prop := ∃ v S, e = .returned v ∧ Canon S ∧ (∀ c, Has S c ↔ Has D c) ∧ ZsAt w.heap.size w' v S ∧ Below base w w'
theorem jpost_of {base : Nat} {D D' W : List Rg} {w w1 wr : World} {v : Value} (hp : D'.Perm D) (hb : Below base w w1) (hbase : base ≤ w1.heap.size) (ho : OwnZ wr w1.heap.size v W) (hb2 : Below w1.heap.size w1 wr) (hj : JInv D' D'.length W) : JPost base D w (.returned v) wr :=
  ⟨v, W, rfl, (jinv_end hj).1, fun c => ((jinv_end hj).2 c).trans (has_perm hp c), zsAt_mono (zsAt_own ho) hb.size, hb.trans (hb2.mono hbase)⟩

set_option maxRecDepth 100000 in
set_option maxHeartbeats 2000000 in
theorem joined_any (v : Value) (D : List Rg) (base : Nat) (w : World) (hown : OwnZ w base v D) (hR : InR D) (hlen : D.length ≤ 100000000) (hbase : base ≤ w.heap.size) :
    Calls Tryd.prog 39 #[v] w (JPost base D w) := by
  have HS := Lib.hid (sort_any v D base w hown hR hlen)
  have HO := Lib.hid hown
  clear hown
  go_enter Tryd.func39, Tryd.ntmps39
  go_wp2_with fail
  refine HS.out.mono ?_
  rintro e w1 ⟨rfl, D', hp, hs, ho, hb⟩
  have hl : D'.length = D.length := hp.length_eq
  have hR' : InR D' := fun r hr => hR r (hp.mem_iff.1 hr)
  obtain ⟨a, cap, hv⟩ := ownZ_len ho
  have HO' := Lib.hid ho
  have HP := Lib.hid hp
  have HSo := Lib.hid hs
  have HB := Lib.hid hb
  have HR := Lib.hid hR'
  have HL := Lib.hid hl
  have hn : D'.length ≤ 100000000 := by omega
  have hw1 : base ≤ w1.heap.size := Nat.le_trans hbase hb.size
  subst hv
  clear hp hs hb hR hR' ho hl
  go_wp2_with fail
  go_loopw [3, 11] (fun v i wr => JRel D' w1 v i wr) (fun _ i _ => D'.length - (intOf i).toNat)
  case atStart => exact ⟨0, [], Nat.zero_le _, rfl, ownZ_nil _ _, Below.refl _ _, jinv_start _⟩
  case round =>
    obtain ⟨k, W, hk, rfl, ho, hb, hj⟩ := hrel
    have HJ := Lib.hid hj
    have HBr := Lib.hid hb
    have HW := Lib.hid ho
    have hWl := hj.2.2.2
    clear hj
    by_cases hlt : k < D'.length
    · obtain ⟨g, cap', hv, hg1, hg2, hg3, hg4, hc⟩ := ownZ_slice HO'.out (by intro h; rw [h] at hlt; simp at hlt)
      cases hv
      have hcell := below_cell hb (hc k hlt)
      obtain ⟨x, y, hxy⟩ : ∃ x y, D'[k] = (x, y) := ⟨_, _, rfl⟩
      have hr := HR.out _ (List.getElem_mem hlt)
      rw [hxy] at hr hcell
      obtain ⟨hx0, hxy1, hy1⟩ := hr
      simp only at hx0 hxy1 hy1
      have HXY := Lib.hid hxy
      have HX := Lib.hid (fun w => first_q (b := y) w (cl_id hx0 (by omega)))
      have HY := Lib.hid (fun w => last_q (a := x) w (cl_id (by omega) hy1))
      unfold zc at hcell
      simp only at hcell
      clear hc hxy hb ho
      rcases List.eq_nil_or_concat W with hW | ⟨W0, e, hW⟩
      · subst hW
        obtain rfl := HW.out.2 rfl
        have HJ1 := Lib.hid (jinv_first HR.out HSo.out hlt HJ.out)
        go_wp2_with fail
        go_quiet (fail)
        go_wp2_with (at_builtin; refine wpList_append_z rfl _ _ rfl w1.heap.size (.slice none 0 0) [] rfl (ownZ_nil _ _) x y _ rfl rfl (Nat.zero_le _) HBr.out.size ?_; intro va wa hoa hba; have HOa := Lib.hid hoa; have HBa := Lib.hid (hba _ _ (below_draws HBr.out _) (Nat.le_refl _)); clear hoa hba)
        go_roundw
        case rel => exact ⟨k + 1, [(x, y)], by omega, by go_num, HOa.out, HBa.out, by have := HJ1.out; rwa [HXY.out] at this⟩
        case measure => simp [intOf]; omega
      · subst hW
        rw [List.concat_eq_append] at *
        obtain ⟨gw, cw, hv, hw1', hw2, hw3, hw4, hcw⟩ := ownZ_slice HW.out (by simp)
        have hce := hcw W0.length (by simp)
        have hlen : (W0 ++ [e]).length = W0.length + 1 := by simp
        rw [hlen] at hv hw3 hWl
        have he := HJ.out.1.2 e (by simp)
        obtain ⟨e1, e2⟩ := e
        obtain ⟨he0, he1, he2⟩ := he
        simp only at he0 he1 he2
        simp only [List.getElem_concat_length, zc] at hce
        have HV := Lib.hid hv
        obtain ⟨m, hm⟩ : ∃ m, W0.length = m := ⟨_, rfl⟩
        have HM := Lib.hid hm
        rw [hm] at hv hw3 hce hWl
        subst hv
        have HE1 := Lib.hid (fun w => first_q (b := e2) w (cl_id he0 (by omega)))
        have HE2 := Lib.hid (fun w => last_q (a := e1) w (cl_id (by omega) he2))
        have hwr : IntKind.i64.wrap (e2 + 1) = e2 + 1 := IntWalk.i64_in _ (by omega)
        clear hcw hlen hm
        by_cases hj : x ≤ e2 + 1
        · have HS1 := Lib.hid (fun w => span_q e1 (max e2 y) w he0 (by omega) (by omega) (by omega))
          go_wp2_with fail
          go_quiet ((first | (go_at_call 40; exact Calls.quiet_of_same (HX.out _)) | (go_at_call 41; exact Calls.quiet_of_same (HE2.out _))))
          go_wp2_with fail
          generalize hwq : wr.drewN _ = wq
          obtain ⟨hcq, hoq, hbq⟩ : wq.drew.cell? ⟨gw, m, none⟩ = some (.complex .f64 (fw e1) (fw e2)) ∧ OwnZ wq.drew w1.heap.size (.slice (some ⟨gw, 0, none⟩) (m + 1) cw) (W0 ++ [(e1, e2)]) ∧ Below w1.heap.size w1 wq.drew := by
            rw [← hwq]
            exact ⟨hce, HW.out, (below_draws HBr.out _).drew⟩
          clear hwq
          have hix : (m : Int) < (m : Int) + 1 := by omega
          refine wp_region_still_tail 17 (by kernel_rfl) (by kernel_rfl) ?_
          simp only [List.take_succ_cons, List.take_zero, List.drop_succ_cons, List.drop_zero]
          change wpStill _ _ wq.drew _ _ _
          generalize hwd : wq.drew = wd at *
          repeat still_step
          still_call (HE1.out _)
          repeat still_step
          still_call (HE2.out _)
          repeat still_step
          still_call (HY.out _)
          repeat still_step
          still_call (HS1.out _)
          repeat still_step
          refine wpStill_nil ?_
          change wpList _ _ _ _ _ wq.drew
          rw [hwd]
          clear hwd
          obtain ⟨hn1, hn2, hn3⟩ := ownZ_last (r := (e1, max e2 y)) HM.out hoq
          have HN := Lib.hid hn1
          have HNB := Lib.hid (hn3 _ _ hbq (Nat.le_refl _))
          have HJ2 := Lib.hid (jinv_join HR.out hlt HJ.out (by rw [HXY.out]; exact hj))
          have hst := fun (a : Addr) (md : Mode) (w : World) => run_store Tryd.prog w a (.complex .f64 (fw e1) (fw (max e2 y))) md rfl
          clear hn1 hn3 hoq hbq
          go_wp2_with fail
          go_roundw
          case rel => exact ⟨k + 1, W0 ++ [(e1, max e2 y)], by omega, by go_num, HN.out, HNB.out, by have := HJ2.out; rwa [HXY.out] at this⟩
          case measure => simp [intOf]; omega
        · have HJ2 := Lib.hid (jinv_apart HR.out HSo.out hlt HJ.out (by rw [HXY.out]; show e2 + 1 < x; omega))
          have hjb : decide (x ≤ e2 + 1) = false := decide_eq_false hj
          go_wp2_with fail
          go_quiet ((first | (go_at_call 40; exact Calls.quiet_of_same (HX.out _)) | (go_at_call 41; exact Calls.quiet_of_same (HE2.out _))))
          go_wp2_with (at_builtin; refine wpList_append_z rfl _ _ rfl w1.heap.size (.slice (some ⟨gw, 0, none⟩) (m + 1) cw) (W0 ++ [(e1, e2)]) rfl (ownZ_draws HW.out _) x y _ rfl rfl (by have := HM.out; simp only [List.length_append, List.length_cons, List.length_nil]; omega) HBr.out.size ?_; intro va wa hoa hba; have HOa := Lib.hid hoa; have HBa := Lib.hid (hba _ _ (below_draws HBr.out _) (Nat.le_refl _)); clear hoa hba)
          go_roundw
          case rel => exact ⟨k + 1, W0 ++ [(e1, e2)] ++ [(x, y)], by omega, by go_num, HOa.out, HBa.out, by have := HJ2.out; rwa [HXY.out] at this⟩
          case measure => simp [intOf]; omega
    · go_wp2_with fail
      go_ret
      obtain rfl : k = D'.length := by omega
      exact jpost_of HP.out HB.out hw1 HW.out HBr.out HJ.out
end Go.Proofs.YtgdhhpbpbkgmeaaDoor.setw
