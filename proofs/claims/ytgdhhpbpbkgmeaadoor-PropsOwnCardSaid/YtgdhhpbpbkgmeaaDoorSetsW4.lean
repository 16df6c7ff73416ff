/- The contracts of package sets' Count, Has, Same. -/
import Derived.Test.YtgdhhpbpbkgmeaaDoorSetsW3
import Derived.Shelf.SlicesE.IndexFunc
import Derived.Shelf.SlicesE.Equal
namespace Go.Proofs.YtgdhhpbpbkgmeaaDoor.setw
open Go Go.RowKit Go.Shelf Go.Proofs.YtgdhhpbpbkgmeaaDoor.bulk Go.Proofs.YtgdhhpbpbkgmeaaDoor.ucdp Go.Proofs.YtgdhhpbpbkgmeaaDoor.ucdw Go.Proofs.YtgdhhpbpbkgmeaaDoor.setp Go.Proofs.YtgdhhpbpbkgmeaaDoor.flt Go.Proofs.YtgdhhpbpbkgmeaaDoor.setl

/-- how far 'Count' has come -/
def CRel (S : List Rg) (w : World) (v i : Value) (wr : World) : Prop :=
  ∃ k : Nat, k ≤ S.length ∧ i = .int .i64 k ∧ v = .int .i64 (tot (S.take k)) ∧ wr = w
/-- a number, in a world in which nothing of what was there has turned -/
def IntB (n : Int) (w : World) (e : Ending) (w' : World) : Prop := e = .returned (.int .i64 n) ∧ Below w.heap.size w w'
theorem intB_of {n m : Int} {w w' : World} (h : m = n) (hb : Below w.heap.size w w') : IntB n w (.returned (.int .i64 m)) w' := by
  subst h
  exact ⟨rfl, hb⟩

set_option maxRecDepth 100000 in
set_option maxHeartbeats 2000000 in
theorem count_any (v : Value) (S : List Rg) (base : Nat) (w : World) (hS : Canon S) (hv : ZsAt base w v S) :
    Calls Tryd.prog 17 #[.agg #[v]] w (IntB (tot S) w) := by
  obtain ⟨a, cap, rfl⟩ := zsAt_len hv
  have hl := canon_len hS
  have HV := Lib.hid hv
  have HS := Lib.hid hS
  clear hv hS
  go_enter Tryd.func17, Tryd.ntmps17
  go_wp2_with fail
  have hb := below_alloc w (.cells #[.slice a S.length cap] 27)
  have HZ := Lib.hid (zsAt_below HV.out hb)
  have HB := Lib.hid hb
  clear hb
  generalize w.alloc _ = w1 at *
  go_loopw [3, 9] (fun v i wr => CRel S w1 v i wr) (fun _ i _ => S.length - (intOf i).toNat)
  case atStart => exact ⟨0, Nat.zero_le _, rfl, rfl, rfl⟩
  case round =>
    obtain ⟨k, hk, rfl, rfl, rfl⟩ := hrel
    by_cases hlt : k < S.length
    · rcases HZ.out with ⟨h0, _⟩ | ⟨_, b, cap', hv, hb0, hc1, hc2, hc⟩
      · subst h0; simp at hlt
      cases hv
      have hcell := hc k hlt
      have hr := HS.out.2 _ (List.getElem_mem hlt)
      have ht1 := tot_canon (canon_take HS.out k)
      have ht2 := tot_canon (canon_take HS.out (k + 1))
      rw [take_snoc hlt, tot_snoc] at ht2
      have HT := Lib.hid (show tot (S.take (k + 1)) = tot (S.take k) + (S[k].2 - S[k].1 + 1) by rw [take_snoc hlt, tot_snoc])
      obtain ⟨x, y, hxy⟩ : ∃ x y, S[k] = (x, y) := ⟨_, _, rfl⟩
      rw [hxy] at hcell hr ht2 HT
      simp only [zc] at hcell
      simp only at hr ht2 HT
      obtain ⟨hx0, hxy1, hy1⟩ := hr
      have HX := Lib.hid (fun w => first_in (b := y) w (cl_id hx0 (by omega)))
      have HY := Lib.hid (fun w => last_in (a := x) w (cl_id (by omega) hy1))
      generalize tot (S.take k) = t at *
      obtain ⟨ht3, ht4⟩ := ht1
      obtain ⟨ht5, ht6⟩ := ht2
      clear hc hxy
      go_wp2_with fail
      refine (HY.out _).mono ?_
      rintro e w' ⟨rfl, rfl⟩
      go_wp2_with fail
      refine (HX.out _).mono ?_
      rintro e w' ⟨rfl, rfl⟩
      go_wp2_with fail
      go_roundw
      case rel => exact ⟨k + 1, by omega, by go_num, by rw [HT.out], rfl⟩
      case measure => simp [intOf]; omega
    · obtain rfl : k = S.length := by omega
      go_wp2_with fail
      go_ret
      exact intB_of (by rw [List.take_length]) HB.out

/-- is a number in a range? -/
def inB (c : Int) (r : Rg) : Bool := decide (cl r.1 ≤ c) && decide (c ≤ cl r.2)
theorem any_inB {S : List Rg} (h : InR S) (c : Int) : S.any (inB c) = hasB S c := by
  induction S with
  | nil => rfl
  | cons r S ih =>
    have hr := h r (List.mem_cons_self ..)
    rw [List.any_cons, ih (fun x hx => h x (List.mem_cons_of_mem _ hx))]
    show (inB c r || _) = ((decide (r.1 ≤ c) && decide (c ≤ r.2)) || _)
    unfold inB
    rw [cl_id hr.1 (by omega), cl_id (by omega) hr.2.2]
    rfl
theorem first_all (a b : Int) (w : World) : Calls Tryd.prog 40 #[.complex .f64 (fw a) (fw b)] w fun e w' => e = .returned (.int .i64 (cl a)) ∧ w' = w := (first_any a b w).mono fun _ _ ⟨h, k⟩ => ⟨h, k.symm⟩
theorem last_all (a b : Int) (w : World) : Calls Tryd.prog 41 #[.complex .f64 (fw a) (fw b)] w fun e w' => e = .returned (.int .i64 (cl b)) ∧ w' = w := (last_any a b w).mono fun _ _ ⟨h, k⟩ => ⟨h, k.symm⟩
set_option maxRecDepth 100000 in
set_option maxHeartbeats 2000000 in
theorem hasc_any (c : Int) (r : Rg) (b : Nat) (W : World) (hc : W.cell? ⟨b, 0, none⟩ = some (.int .i64 c)) :
    Calls Tryd.prog 43 #[zc r, .pointer (some ⟨b, 0, none⟩)] W fun e w' => e = .returned (.bool (inB c r)) ∧ ∃ q, w' = W.drewN q := by
  obtain ⟨x, y⟩ := r
  have HX := Lib.hid (first_all x y)
  have HY := Lib.hid (last_all x y)
  unfold inB zc
  simp only
  generalize cl x = p at *
  generalize cl y = q at *
  by_cases h1 : p ≤ c
  · have HE := Lib.hid (show (decide (p ≤ c) && decide (c ≤ q)) = decide (c ≤ q) by simp [h1])
    rw [HE.out]
    by_cases h2 : c ≤ q
    · have HE2 := Lib.hid (show decide (c ≤ q) = true by simp [h2])
      rw [HE2.out]
      go_enter Tryd.func43, Tryd.ntmps43
      go_wp2_with fail
      go_quiet ((first | (go_at_call 40; exact Calls.quiet_of_same (HX.out _)) | (go_at_call 41; exact Calls.quiet_of_same (HY.out _))))
      go_wp2_with fail
      go_ret
      exact ⟨rfl, _, rfl⟩
    · have HE2 := Lib.hid (show decide (c ≤ q) = false by simp; omega)
      have h2b : decide (c ≤ q) = false := decide_eq_false h2
      rw [HE2.out]
      go_enter Tryd.func43, Tryd.ntmps43
      go_wp2_with fail
      go_quiet ((first | (go_at_call 40; exact Calls.quiet_of_same (HX.out _)) | (go_at_call 41; exact Calls.quiet_of_same (HY.out _))))
      go_wp2_with fail
      go_ret
      exact ⟨rfl, _, rfl⟩
  · have HE := Lib.hid (show (decide (p ≤ c) && decide (c ≤ q)) = false by simp [h1])
    have h1b : decide (p ≤ c) = false := decide_eq_false h1
    rw [HE.out]
    go_enter Tryd.func43, Tryd.ntmps43
    go_wp2_with fail
    go_quiet ((first | (go_at_call 40; exact Calls.quiet_of_same (HX.out _)) | (go_at_call 41; exact Calls.quiet_of_same (HY.out _))))
    go_wp2_with fail
    go_ret
    exact ⟨rfl, _, rfl⟩
theorem boolB_of {r s : Bool} {w w' : World} (h : s = r) (hb : Below w.heap.size w w') : BoolB r w (.returned (.bool s)) w' := by
  subst h
  exact ⟨rfl, hb⟩
theorem getBang {S : List Rg} {i : Nat} (h : i < S.length) : S[i]! = S[i] := getElem!_pos S i h

set_option maxRecDepth 100000 in
set_option maxHeartbeats 2000000 in
theorem has_any (v : Value) (S : List Rg) (base : Nat) (c : Int) (w : World) (hS : Canon S) (hv : ZsAt base w v S) :
    Calls Tryd.prog 19 #[.agg #[v], .int .i64 c] w (BoolB (hasB S c) w) := by
  have hE := any_inB hS.2 c
  have hl := canon_len hS
  have eg : ∀ args w, (callFunc 43 args).run Tryd.prog w = .ok (.enter 43 args) w := enters_of Tryd.func43 (by kernel_rfl) rfl
  have HC : Hid (∀ (b : Nat) (W : World), W.cell? ⟨b, 0, none⟩ = some (.int .i64 c) → b < W.heap.size → Below w.heap.size w W → Calls Tryd.prog 42 #[v, .func (.func 43) #[] #[.pointer (some ⟨b, 0, none⟩)]] W fun e w' => e = .returned (.bool (hasB S c)) ∧ ∃ q, w' = W.drewN q) := by
    intro b W hb hlt hB
    rcases zsAt_below hv hB with ⟨h0, hv2⟩ | ⟨_, b2, cap, hv2, _, hc1, hc2, hc⟩
    · subst h0 hv2
      exact (AnyE.slices_ContainsFunc_empty (P := Tryd.prog) (ρ := contZ_ren) contZ none 0 _ W).mono fun e w' ⟨he, hw⟩ => ⟨he, 0, hw⟩
    · subst hv2
      have h := AnyE.slices_ContainsFunc (P := Tryd.prog) (ρ := contZ_ren) contZ zc (inB c) 43 #[.pointer (some ⟨b, 0, none⟩)] eg b2 0 S.length cap S W
        (fun W2 x hB2 => hasc_any c x b W2 ((hB2.cell (p := ⟨b, 0, none⟩) hlt).trans hb)) (Nat.le_refl _) (by omega) (fun j hj => by rw [Nat.zero_add, getBang hj]; exact hc j hj)
      rw [List.take_length, hE] at h
      exact h
  obtain ⟨a, cap, rfl⟩ := zsAt_len hv
  clear hv hE eg hS
  go_enter Tryd.func19, Tryd.ntmps19
  go_wp2_with fail
  refine (HC.out _ _ ?_ ?_ ?_).mono ?_
  · have h := (cell_new (w.alloc (.cells #[.slice a S.length cap] 27)) (.int .i64 c) 3).1
    rw [World.size_alloc] at h
    exact h
  · simp
  · exact below_trans (below_alloc _ _) (below_alloc _ _)
  · rintro e w2 ⟨rfl, q, rfl⟩
    go_wp2_with fail
    go_ret
    exact boolB_of rfl (below_draws (below_trans (below_alloc _ _) (below_alloc _ _)) q)

/-- are two ranges the same? -/
def eqR (x y : Rg) : Bool := decide (cl x.1 = cl y.1) && decide (cl x.2 = cl y.2)
theorem neqZ : NeqAt Tryd.prog 57 zc eqR := by
  refine ⟨fun x y w => ?_, fun op a b x y w => ?_⟩
  · unfold zc eqR
    rw [run_neq_complex, fw_ord, fw_ord]
  · unfold zc
    rw [eqGuard_at_complex]
    rfl
theorem allEq_eq {S T : List Rg} (hS : InR S) (hT : InR T) : Lib.allEq eqR S T = decide (S = T) := by
  induction S generalizing T with
  | nil =>
    cases T with
    | nil => rfl
    | cons t T => rfl
  | cons r S ih =>
    cases T with
    | nil => rfl
    | cons t T =>
      have hr := hS r (List.mem_cons_self ..)
      have ht := hT t (List.mem_cons_self ..)
      show (eqR r t && Lib.allEq eqR S T) = _
      rw [ih (fun x hx => hS x (List.mem_cons_of_mem _ hx)) (fun x hx => hT x (List.mem_cons_of_mem _ hx))]
      unfold eqR
      rw [cl_id hr.1 (by omega), cl_id (by omega) hr.2.2, cl_id ht.1 (by omega), cl_id (by omega) ht.2.2]
      have e : (r :: S = t :: T) ↔ (r.1 = t.1 ∧ r.2 = t.2) ∧ S = T := by
        rw [List.cons_eq_cons, Prod.ext_iff]
      rw [Bool.eq_iff_iff]
      simp only [Bool.and_eq_true, decide_eq_true_eq]
      exact e.symm

set_option maxRecDepth 100000 in
set_option maxHeartbeats 2000000 in
theorem equal_any (v1 v2 : Value) (S T : List Rg) (b1 b2 : Nat) (w : World) (hS : InR S) (hT : InR T) (h1 : ZsAt b1 w v1 S) (h2 : ZsAt b2 w v2 T) (hl1 : S.length ≤ 1114112) (hl2 : T.length ≤ 1114112) :
    Calls Tryd.prog 44 #[v1, v2] w fun e w' => e = .returned (.bool (decide (S = T))) ∧ ∃ q, w' = w.drewN q := by
  rcases h1 with ⟨hs, rfl⟩ | ⟨hs, a1, c1, rfl, _, _, _, hc1⟩
  · subst hs
    obtain ⟨a, cap, rfl⟩ := zsAt_len h2
    by_cases h0 : T = []
    · subst h0
      have HE := Lib.hid (show decide (([] : List Rg) = []) = true by simp)
      rw [HE.out]
      clear h2
      go_enter Tryd.func44, Tryd.ntmps44
      go_wp2_with fail
      refine wp_loop_rounds 1 ?_
      rw [rounds_succ]
      go_wp2_with fail
      go_ret
      exact ⟨rfl, 0, rfl⟩
    · have HE := Lib.hid (show decide (([] : List Rg) = T) = false from decide_eq_false fun h => h0 h.symm)
      rw [HE.out]
      have hp : 0 < T.length := List.length_pos_iff.2 h0
      generalize T.length = n at *
      have hp2 : ((n : Int) == 0) = false := by simp; omega
      clear h2
      go_enter Tryd.func44, Tryd.ntmps44
      go_wp2_with fail
      go_ret
      exact ⟨rfl, 0, rfl⟩
  · rcases h2 with ⟨ht, rfl⟩ | ⟨ht, a2, c2, rfl, _, _, _, hc2⟩
    · subst ht
      have HE := Lib.hid (show decide (S = []) = false by simpa using hs)
      rw [HE.out]
      have hp : 0 < S.length := List.length_pos_iff.2 hs
      clear hc1
      generalize S.length = n at *
      go_enter Tryd.func44, Tryd.ntmps44
      go_wp2_with fail
      go_ret
      exact ⟨rfl, 0, rfl⟩
    · have h := AnyE.slices_Equal (P := Tryd.prog) (ρ := equalZ_ren) equalZ zc eqR neqZ a1 0 S.length c1 a2 0 T.length c2 S T w (Nat.le_refl _) (Nat.le_refl _) (by omega) (by omega)
        (fun j hj => by rw [Nat.zero_add, getBang hj]; exact hc1 j hj) (fun j hj => by rw [Nat.zero_add, getBang hj]; exact hc2 j hj)
      rw [List.take_length, List.take_length, allEq_eq hS hT] at h
      exact h

set_option maxRecDepth 100000 in
set_option maxHeartbeats 2000000 in
theorem same_any (v1 v2 : Value) (S T : List Rg) (b1 b2 : Nat) (w : World) (hS : Canon S) (hT : Canon T) (h1 : ZsAt b1 w v1 S) (h2 : ZsAt b2 w v2 T) :
    Calls Tryd.prog 21 #[.agg #[v1], .agg #[v2]] w (BoolB (decide (S = T)) w) := by
  have HC := Lib.hid (fun (W : World) (hB : Below w.heap.size w W) => equal_any v1 v2 S T b1 b2 W hS.2 hT.2 (zsAt_below h1 hB) (zsAt_below h2 hB) (canon_len hS) (canon_len hT))
  obtain ⟨a1, c1, rfl⟩ := zsAt_len h1
  obtain ⟨a2, c2, rfl⟩ := zsAt_len h2
  have hl1 := canon_len hS
  have hl2 := canon_len hT
  clear h1 h2 hS hT
  go_enter Tryd.func21, Tryd.ntmps21
  go_wp2_with fail
  refine (HC.out _ (below_trans (below_alloc _ _) (below_alloc _ _))).mono ?_
  rintro e w2 ⟨rfl, q, rfl⟩
  go_wp2_with fail
  go_ret
  exact boolB_of rfl (below_draws (below_trans (below_alloc _ _) (below_alloc _ _)) q)
end Go.Proofs.YtgdhhpbpbkgmeaaDoor.setw
