/- The contract of the document's Edges: rising numbers, 0 and the one behind the greatest among them, at which ranges begin or behind which they end. (Written by gen/edges.py.) -/
import Derived.Test.YtgdhhpbpbkgmeaaDoorSetsJ1
import Derived.Test.YtgdhhpbpbkgmeaaDoorSetsRs
namespace Go.Proofs.YtgdhhpbpbkgmeaaDoor.setw
open Go Go.RowKit Go.Proofs.YtgdhhpbpbkgmeaaDoor.bulk Go.Proofs.YtgdhhpbpbkgmeaaDoor.ucdp Go.Proofs.YtgdhhpbpbkgmeaaDoor.ucdw Go.Proofs.YtgdhhpbpbkgmeaaDoor.setp

/-- rising numbers, those for which something holds, and no more than so many -/
def EP (q : Int → Prop) (n : Nat) (E : List Int) : Prop := Up E ∧ (∀ z, z ∈ E ↔ q z) ∧ E.length ≤ n
theorem ep_congr {q q' : Int → Prop} {n n' : Nat} {E : List Int} (h : EP q n E) (hq : ∀ z, q z ↔ q' z) (hn : n ≤ n') : EP q' n' E := ⟨h.1, fun z => (h.2.1 z).trans (hq z), Nat.le_trans h.2.2 hn⟩
theorem ep_put {q : Int → Prop} {n : Nat} {E E' : List Int} {a : Int} (h : EP q n E) (hp : PutP E a E') : EP (fun z => q z ∨ z = a) (n + 1) E' :=
  ⟨hp.1, fun z => by rw [hp.2.1, h.2.1], by have := hp.2.2; have := h.2.2; omega⟩
/-- the numbers at which something changes -/
def EQ (l : List Rg) (m z : Int) : Prop := z = 0 ∨ z = m + 1 ∨ ∃ r ∈ l, (0 < r.1 ∧ r.1 ≤ m ∧ z = r.1) ∨ (0 ≤ r.2 ∧ r.2 < m ∧ z = r.2 + 1)
theorem eq_take {l : List Rg} {k : Nat} (hk : k < l.length) {x y : Int} (h : l[k] = (x, y)) (m z : Int) : EQ (l.take (k + 1)) m z ↔ EQ (l.take k) m z ∨ (0 < x ∧ x ≤ m ∧ z = x) ∨ (0 ≤ y ∧ y < m ∧ z = y + 1) := by
  unfold EQ
  rw [take_snoc hk, h]
  constructor
  · rintro (a | a | ⟨r, hr, a⟩)
    · exact Or.inl (Or.inl a)
    · exact Or.inl (Or.inr (Or.inl a))
    · rcases List.mem_append.1 hr with hr | hr
      · exact Or.inl (Or.inr (Or.inr ⟨r, hr, a⟩))
      · obtain rfl := List.mem_singleton.1 hr
        exact Or.inr a
  · rintro ((a | a | ⟨r, hr, a⟩) | a)
    · exact Or.inl a
    · exact Or.inr (Or.inl a)
    · exact Or.inr (Or.inr ⟨r, List.mem_append_left _ hr, a⟩)
    · exact Or.inr (Or.inr ⟨(x, y), List.mem_append_right _ (List.mem_singleton.2 rfl), a⟩)
theorem ep_start (m : Int) (hm : 0 ≤ m) (l : List Rg) : EP (EQ (l.take 0) m) (2 * 0 + 2) [0, m + 1] := by
  refine ⟨List.pairwise_cons.2 ⟨fun x hx => ?_, List.pairwise_singleton _ _⟩, fun z => ?_, by simp⟩
  · obtain rfl := List.mem_singleton.1 hx
    omega
  · simp [EQ]
/-- what Edges answers -/
def EdgB (l : List Rg) (m : Int) (w : World) (e : Ending) (w' : World) : Prop := ∃ v E, e = .returned v ∧ IntsAt w.heap.size w' v E ∧ EP (EQ l m) (2 * l.length + 2) E ∧ Below w.heap.size w w'
/-- how far Edges has come -/
def ERel (l : List Rg) (m : Int) (w : World) (v i : Value) (wr : World) : Prop :=
  ∃ (k : Nat) (E : List Int), k ≤ l.length ∧ i = .int .i64 k ∧ IntsAt w.heap.size wr v E ∧ EP (EQ (l.take k) m) (2 * k + 2) E ∧ Below w.heap.size w wr
theorem ints_two_new (w : World) (x y : Int) (T : TypeId) : IntsAt w.heap.size (w.alloc (.cells #[.int .i64 x, .int .i64 y] T)) (.slice (some ⟨w.heap.size, 0, none⟩) 2 2) [x, y] := by
  refine Or.inr ⟨by simp, _, 2, rfl, Nat.le_refl _, by simp, by simp, by omega, fun i hi => ?_⟩
  rw [World.cell?_alloc_new]
  match i, hi with
  | 0, _ => rfl
  | 1, _ => rfl
theorem intsAt_len {b : Nat} {w : World} {v : Value} {l : List Int} (h : IntsAt b w v l) : ∃ a cap, v = .slice a l.length cap := by
  rcases h with ⟨rfl, rfl⟩ | ⟨_, b, cap, rfl, _⟩
  · exact ⟨_, _, rfl⟩
  · exact ⟨_, _, rfl⟩
/-- a number is put into the edges -/
theorem put_edge {l : List Rg} {k n : Nat} {m a : Int} {w wr : World} {v : Value} {E : List Int} {q : Int → Prop} (hv : IntsAt w.heap.size wr v E) (hE : EP q n E) (hm : q (m + 1)) (ha : a ≤ m) (hb : Below w.heap.size w wr) (hk : k < l.length) (hl : l.length ≤ 1000000) (hn : n ≤ 2 * k + 3) :
    Calls Tryd.prog 71 #[v, .int .i64 a] wr fun e w' => ∃ v' E', e = .returned v' ∧ IntsAt w.heap.size w' v' E' ∧ EP (fun z => q z ∨ z = a) (n + 1) E' ∧ Below w.heap.size w w' := by
  refine (put_any v E a w.heap.size wr hv hE.1 (by have := hE.2.2; omega) ⟨m + 1, (hE.2.1 _).2 hm, by omega⟩ hb.size).mono ?_
  rintro e w' ⟨v', E', rfl, h1, h2, h3⟩
  exact ⟨v', E', rfl, h1, ep_put hE h2, hb.trans (h3.mono hb.size)⟩

set_option maxRecDepth 100000 in
set_option maxHeartbeats 4000000 in
theorem edges_le (v : Value) (l : List Rg) (most : Int) (w : World) (hv : RsAt w v l) (hl : l.length ≤ 1000000) (h0 : 0 ≤ most) (h1 : most ≤ 1114111) : Calls Tryd.prog 46 #[v, .int .i64 most] w (EdgB l (most) w) := by
  have HV := Lib.hid hv
  obtain ⟨a, cap, rfl⟩ := rsAt_len hv
  have HL := Lib.hid hl
  have hm1 : IntKind.i64.wrap (most + 1) = most + 1 := IntWalk.i64_in _ (by omega)
  clear hv hl
  go_enter Tryd.func46, Tryd.ntmps46
  go_wp2_with fail
  go_loopw [5, 6] (fun v i wr => ERel l (most) w v i wr) (fun _ i _ => l.length - (intOf i).toNat)
  case atStart => exact ⟨0, _, Nat.zero_le _, rfl, ints_two_new _ _ _ _, ep_start (most) (by omega) l, below_alloc _ _⟩
  case round =>
    obtain ⟨k, E, hk, rfl, ho, hE, hb⟩ := hrel
    have HE := Lib.hid hE
    have HO := Lib.hid ho
    have HB := Lib.hid hb
    clear hE ho hb
    by_cases hlt : k < l.length
    · obtain ⟨hwf, ⟨h0, _⟩ | ⟨_, b, off, cap', hv, hc1, hc2, hc⟩⟩ := HV.out
      · subst h0; simp at hlt
      cases hv
      obtain ⟨hcx0, hcy0⟩ := hc k hlt
      obtain ⟨x, y, hxy⟩ : ∃ x y, l[k] = (x, y) := ⟨_, _, rfl⟩
      have HQ := Lib.hid (eq_take hlt hxy (most))
      rw [hxy] at hcx0 hcy0
      simp only at hcx0 hcy0
      have hcx := below_cell HB.out hcx0
      have hcy := below_cell HB.out hcy0
      have HX0 := Lib.hid hcx0
      have HY0 := Lib.hid hcy0
      have HM := Lib.hid (show EQ (l.take k) (most) (most + 1) from Or.inr (Or.inl rfl))
      clear hc hxy hwf hcx0 hcy0
      by_cases hx1 : 0 < x
      · by_cases hx2 : x ≤ most
        · have HC1 := Lib.hid (put_edge (k := k) (a := x) HO.out HE.out HM.out hx2 HB.out hlt HL.out (by omega))
          go_wp2_with fail
          refine HC1.out.mono ?_
          rintro e w1 ⟨v1, E1, rfl, ho1, hE1, hb1⟩
          have hcy1 := below_cell hb1 HY0.out
          have HO1 := Lib.hid ho1
          have HE1 := Lib.hid hE1
          have HB1 := Lib.hid hb1
          clear ho1 hE1 hb1 hcx hcy
          by_cases hy1 : 0 ≤ y
          · by_cases hy2 : y < most
            · have hyw : IntKind.i64.wrap (y + 1) = y + 1 := IntWalk.i64_in _ (by omega)
              have HC2 := Lib.hid (fun a (ha : a ≤ most) => put_edge (k := k) (a := a) HO1.out HE1.out (Or.inl HM.out) ha HB1.out hlt HL.out (by omega))
              go_wp2_with fail
              refine (HC2.out _ (by omega)).mono ?_
              rintro e w9 ⟨v9, E9, rfl, ho9, hE9, hb9⟩
              have HO9 := Lib.hid ho9
              have HE9 := Lib.hid hE9
              have HB9 := Lib.hid hb9
              clear ho9 hE9 hb9
              go_wp2_with fail
              go_roundw
              case rel => exact ⟨k + 1, E9, by omega, by go_num, HO9.out, ep_congr HE9.out (fun z => by rw [HQ.out]; generalize EQ (l.take k) (most) z = p; by_cases hp : p <;> simp [hp]; omega) (by omega), HB9.out⟩
              case measure => simp [intOf]; omega
            · have hy2b : decide (y < most) = false := decide_eq_false hy2
              go_wp2_with fail
              go_roundw
              case rel => exact ⟨k + 1, E1, by omega, by go_num, HO1.out, ep_congr HE1.out (fun z => by rw [HQ.out]; generalize EQ (l.take k) (most) z = p; by_cases hp : p <;> simp [hp]; omega) (by omega), HB1.out⟩
              case measure => simp [intOf]; omega
          · have hy1b : decide (0 ≤ y) = false := decide_eq_false hy1
            go_wp2_with fail
            go_roundw
            case rel => exact ⟨k + 1, E1, by omega, by go_num, HO1.out, ep_congr HE1.out (fun z => by rw [HQ.out]; generalize EQ (l.take k) (most) z = p; by_cases hp : p <;> simp [hp]; omega) (by omega), HB1.out⟩
            case measure => simp [intOf]; omega
        · have hx2b : decide (x ≤ most) = false := decide_eq_false hx2
          by_cases hy1 : 0 ≤ y
          · by_cases hy2 : y < most
            · have hyw : IntKind.i64.wrap (y + 1) = y + 1 := IntWalk.i64_in _ (by omega)
              have HC2 := Lib.hid (fun a (ha : a ≤ most) => put_edge (k := k) (a := a) HO.out HE.out (HM.out) ha HB.out hlt HL.out (by omega))
              go_wp2_with fail
              refine (HC2.out _ (by omega)).mono ?_
              rintro e w9 ⟨v9, E9, rfl, ho9, hE9, hb9⟩
              have HO9 := Lib.hid ho9
              have HE9 := Lib.hid hE9
              have HB9 := Lib.hid hb9
              clear ho9 hE9 hb9
              go_wp2_with fail
              go_roundw
              case rel => exact ⟨k + 1, E9, by omega, by go_num, HO9.out, ep_congr HE9.out (fun z => by rw [HQ.out]; generalize EQ (l.take k) (most) z = p; by_cases hp : p <;> simp [hp]; omega) (by omega), HB9.out⟩
              case measure => simp [intOf]; omega
            · have hy2b : decide (y < most) = false := decide_eq_false hy2
              go_wp2_with fail
              go_roundw
              case rel => exact ⟨k + 1, E, by omega, by go_num, HO.out, ep_congr HE.out (fun z => by rw [HQ.out]; generalize EQ (l.take k) (most) z = p; by_cases hp : p <;> simp [hp]; omega) (by omega), HB.out⟩
              case measure => simp [intOf]; omega
          · have hy1b : decide (0 ≤ y) = false := decide_eq_false hy1
            go_wp2_with fail
            go_roundw
            case rel => exact ⟨k + 1, E, by omega, by go_num, HO.out, ep_congr HE.out (fun z => by rw [HQ.out]; generalize EQ (l.take k) (most) z = p; by_cases hp : p <;> simp [hp]; omega) (by omega), HB.out⟩
            case measure => simp [intOf]; omega
      · have hx1b : decide (0 < x) = false := decide_eq_false hx1
        by_cases hy1 : 0 ≤ y
        · by_cases hy2 : y < most
          · have hyw : IntKind.i64.wrap (y + 1) = y + 1 := IntWalk.i64_in _ (by omega)
            have HC2 := Lib.hid (fun a (ha : a ≤ most) => put_edge (k := k) (a := a) HO.out HE.out (HM.out) ha HB.out hlt HL.out (by omega))
            go_wp2_with fail
            refine (HC2.out _ (by omega)).mono ?_
            rintro e w9 ⟨v9, E9, rfl, ho9, hE9, hb9⟩
            have HO9 := Lib.hid ho9
            have HE9 := Lib.hid hE9
            have HB9 := Lib.hid hb9
            clear ho9 hE9 hb9
            go_wp2_with fail
            go_roundw
            case rel => exact ⟨k + 1, E9, by omega, by go_num, HO9.out, ep_congr HE9.out (fun z => by rw [HQ.out]; generalize EQ (l.take k) (most) z = p; by_cases hp : p <;> simp [hp]; omega) (by omega), HB9.out⟩
            case measure => simp [intOf]; omega
          · have hy2b : decide (y < most) = false := decide_eq_false hy2
            go_wp2_with fail
            go_roundw
            case rel => exact ⟨k + 1, E, by omega, by go_num, HO.out, ep_congr HE.out (fun z => by rw [HQ.out]; generalize EQ (l.take k) (most) z = p; by_cases hp : p <;> simp [hp]; omega) (by omega), HB.out⟩
            case measure => simp [intOf]; omega
        · have hy1b : decide (0 ≤ y) = false := decide_eq_false hy1
          go_wp2_with fail
          go_roundw
          case rel => exact ⟨k + 1, E, by omega, by go_num, HO.out, ep_congr HE.out (fun z => by rw [HQ.out]; generalize EQ (l.take k) (most) z = p; by_cases hp : p <;> simp [hp]; omega) (by omega), HB.out⟩
          case measure => simp [intOf]; omega
    · obtain rfl : k = l.length := by omega
      have hE := HE.out
      rw [List.take_length] at hE
      have HE2 := Lib.hid hE
      clear hE
      go_wp2_with fail
      go_ret
      exact ⟨_, E, rfl, HO.out, HE2.out, HB.out⟩

set_option maxRecDepth 100000 in
set_option maxHeartbeats 4000000 in
theorem edges_gt (v : Value) (l : List Rg) (most : Int) (w : World) (hv : RsAt w v l) (hl : l.length ≤ 1000000) (h1 : 1114111 < most) : Calls Tryd.prog 46 #[v, .int .i64 most] w (EdgB l (1114111) w) := by
  have HV := Lib.hid hv
  obtain ⟨a, cap, rfl⟩ := rsAt_len hv
  have HL := Lib.hid hl
  have hm1 : IntKind.i64.wrap (1114111 + 1) = 1114111 + 1 := IntWalk.i64_in _ (by omega)
  clear hv hl
  go_enter Tryd.func46, Tryd.ntmps46
  go_wp2_with fail
  go_loopw [5, 6] (fun v i wr => ERel l (1114111) w v i wr) (fun _ i _ => l.length - (intOf i).toNat)
  case atStart => exact ⟨0, _, Nat.zero_le _, rfl, ints_two_new _ _ _ _, ep_start (1114111) (by omega) l, below_alloc _ _⟩
  case round =>
    obtain ⟨k, E, hk, rfl, ho, hE, hb⟩ := hrel
    have HE := Lib.hid hE
    have HO := Lib.hid ho
    have HB := Lib.hid hb
    clear hE ho hb
    by_cases hlt : k < l.length
    · obtain ⟨hwf, ⟨h0, _⟩ | ⟨_, b, off, cap', hv, hc1, hc2, hc⟩⟩ := HV.out
      · subst h0; simp at hlt
      cases hv
      obtain ⟨hcx0, hcy0⟩ := hc k hlt
      obtain ⟨x, y, hxy⟩ : ∃ x y, l[k] = (x, y) := ⟨_, _, rfl⟩
      have HQ := Lib.hid (eq_take hlt hxy (1114111))
      rw [hxy] at hcx0 hcy0
      simp only at hcx0 hcy0
      have hcx := below_cell HB.out hcx0
      have hcy := below_cell HB.out hcy0
      have HX0 := Lib.hid hcx0
      have HY0 := Lib.hid hcy0
      have HM := Lib.hid (show EQ (l.take k) (1114111) (1114111 + 1) from Or.inr (Or.inl rfl))
      clear hc hxy hwf hcx0 hcy0
      by_cases hx1 : 0 < x
      · by_cases hx2 : x ≤ 1114111
        · have HC1 := Lib.hid (put_edge (k := k) (a := x) HO.out HE.out HM.out hx2 HB.out hlt HL.out (by omega))
          go_wp2_with fail
          refine HC1.out.mono ?_
          rintro e w1 ⟨v1, E1, rfl, ho1, hE1, hb1⟩
          have hcy1 := below_cell hb1 HY0.out
          have HO1 := Lib.hid ho1
          have HE1 := Lib.hid hE1
          have HB1 := Lib.hid hb1
          clear ho1 hE1 hb1 hcx hcy
          by_cases hy1 : 0 ≤ y
          · by_cases hy2 : y < 1114111
            · have hyw : IntKind.i64.wrap (y + 1) = y + 1 := IntWalk.i64_in _ (by omega)
              have HC2 := Lib.hid (fun a (ha : a ≤ 1114111) => put_edge (k := k) (a := a) HO1.out HE1.out (Or.inl HM.out) ha HB1.out hlt HL.out (by omega))
              go_wp2_with fail
              refine (HC2.out _ (by omega)).mono ?_
              rintro e w9 ⟨v9, E9, rfl, ho9, hE9, hb9⟩
              have HO9 := Lib.hid ho9
              have HE9 := Lib.hid hE9
              have HB9 := Lib.hid hb9
              clear ho9 hE9 hb9
              go_wp2_with fail
              go_roundw
              case rel => exact ⟨k + 1, E9, by omega, by go_num, HO9.out, ep_congr HE9.out (fun z => by rw [HQ.out]; generalize EQ (l.take k) (1114111) z = p; by_cases hp : p <;> simp [hp]; omega) (by omega), HB9.out⟩
              case measure => simp [intOf]; omega
            · have hy2b : decide (y < 1114111) = false := decide_eq_false hy2
              go_wp2_with fail
              go_roundw
              case rel => exact ⟨k + 1, E1, by omega, by go_num, HO1.out, ep_congr HE1.out (fun z => by rw [HQ.out]; generalize EQ (l.take k) (1114111) z = p; by_cases hp : p <;> simp [hp]; omega) (by omega), HB1.out⟩
              case measure => simp [intOf]; omega
          · have hy1b : decide (0 ≤ y) = false := decide_eq_false hy1
            go_wp2_with fail
            go_roundw
            case rel => exact ⟨k + 1, E1, by omega, by go_num, HO1.out, ep_congr HE1.out (fun z => by rw [HQ.out]; generalize EQ (l.take k) (1114111) z = p; by_cases hp : p <;> simp [hp]; omega) (by omega), HB1.out⟩
            case measure => simp [intOf]; omega
        · have hx2b : decide (x ≤ 1114111) = false := decide_eq_false hx2
          by_cases hy1 : 0 ≤ y
          · by_cases hy2 : y < 1114111
            · have hyw : IntKind.i64.wrap (y + 1) = y + 1 := IntWalk.i64_in _ (by omega)
              have HC2 := Lib.hid (fun a (ha : a ≤ 1114111) => put_edge (k := k) (a := a) HO.out HE.out (HM.out) ha HB.out hlt HL.out (by omega))
              go_wp2_with fail
              refine (HC2.out _ (by omega)).mono ?_
              rintro e w9 ⟨v9, E9, rfl, ho9, hE9, hb9⟩
              have HO9 := Lib.hid ho9
              have HE9 := Lib.hid hE9
              have HB9 := Lib.hid hb9
              clear ho9 hE9 hb9
              go_wp2_with fail
              go_roundw
              case rel => exact ⟨k + 1, E9, by omega, by go_num, HO9.out, ep_congr HE9.out (fun z => by rw [HQ.out]; generalize EQ (l.take k) (1114111) z = p; by_cases hp : p <;> simp [hp]; omega) (by omega), HB9.out⟩
              case measure => simp [intOf]; omega
            · have hy2b : decide (y < 1114111) = false := decide_eq_false hy2
              go_wp2_with fail
              go_roundw
              case rel => exact ⟨k + 1, E, by omega, by go_num, HO.out, ep_congr HE.out (fun z => by rw [HQ.out]; generalize EQ (l.take k) (1114111) z = p; by_cases hp : p <;> simp [hp]; omega) (by omega), HB.out⟩
              case measure => simp [intOf]; omega
          · have hy1b : decide (0 ≤ y) = false := decide_eq_false hy1
            go_wp2_with fail
            go_roundw
            case rel => exact ⟨k + 1, E, by omega, by go_num, HO.out, ep_congr HE.out (fun z => by rw [HQ.out]; generalize EQ (l.take k) (1114111) z = p; by_cases hp : p <;> simp [hp]; omega) (by omega), HB.out⟩
            case measure => simp [intOf]; omega
      · have hx1b : decide (0 < x) = false := decide_eq_false hx1
        by_cases hy1 : 0 ≤ y
        · by_cases hy2 : y < 1114111
          · have hyw : IntKind.i64.wrap (y + 1) = y + 1 := IntWalk.i64_in _ (by omega)
            have HC2 := Lib.hid (fun a (ha : a ≤ 1114111) => put_edge (k := k) (a := a) HO.out HE.out (HM.out) ha HB.out hlt HL.out (by omega))
            go_wp2_with fail
            refine (HC2.out _ (by omega)).mono ?_
            rintro e w9 ⟨v9, E9, rfl, ho9, hE9, hb9⟩
            have HO9 := Lib.hid ho9
            have HE9 := Lib.hid hE9
            have HB9 := Lib.hid hb9
            clear ho9 hE9 hb9
            go_wp2_with fail
            go_roundw
            case rel => exact ⟨k + 1, E9, by omega, by go_num, HO9.out, ep_congr HE9.out (fun z => by rw [HQ.out]; generalize EQ (l.take k) (1114111) z = p; by_cases hp : p <;> simp [hp]; omega) (by omega), HB9.out⟩
            case measure => simp [intOf]; omega
          · have hy2b : decide (y < 1114111) = false := decide_eq_false hy2
            go_wp2_with fail
            go_roundw
            case rel => exact ⟨k + 1, E, by omega, by go_num, HO.out, ep_congr HE.out (fun z => by rw [HQ.out]; generalize EQ (l.take k) (1114111) z = p; by_cases hp : p <;> simp [hp]; omega) (by omega), HB.out⟩
            case measure => simp [intOf]; omega
        · have hy1b : decide (0 ≤ y) = false := decide_eq_false hy1
          go_wp2_with fail
          go_roundw
          case rel => exact ⟨k + 1, E, by omega, by go_num, HO.out, ep_congr HE.out (fun z => by rw [HQ.out]; generalize EQ (l.take k) (1114111) z = p; by_cases hp : p <;> simp [hp]; omega) (by omega), HB.out⟩
          case measure => simp [intOf]; omega
    · obtain rfl : k = l.length := by omega
      have hE := HE.out
      rw [List.take_length] at hE
      have HE2 := Lib.hid hE
      clear hE
      go_wp2_with fail
      go_ret
      exact ⟨_, E, rfl, HO.out, HE2.out, HB.out⟩

theorem edges_none (v : Value) (l : List Rg) (most : Int) (w : World) (hv : RsAt w v l) (h0 : most < 0) (h1 : -9223372036854775808 ≤ most) : Calls Tryd.prog 46 #[v, .int .i64 most] w fun e w' => e = .returned (.slice none 0 0) ∧ w' = w := by
  obtain ⟨a, cap, rfl⟩ := rsAt_len hv
  clear hv
  have h2 : ¬ (1114111 < most) := by omega
  go_enter Tryd.func46, Tryd.ntmps46
  go_wp2_with fail
  go_ret
  exact ⟨rfl, rfl⟩
end Go.Proofs.YtgdhhpbpbkgmeaaDoor.setw
