/- The contracts of the document's In, Same and Count of ranges. -/
import Derived.Test.YtgdhhpbpbkgmeaaDoorSetsRs
import Derived.Laws.StructEq
namespace Go.Proofs.YtgdhhpbpbkgmeaaDoor.setw
open Go Go.RowKit Go.Proofs.YtgdhhpbpbkgmeaaDoor.bulk Go.Proofs.YtgdhhpbpbkgmeaaDoor.ucdp Go.Proofs.YtgdhhpbpbkgmeaaDoor.ucdw Go.Proofs.YtgdhhpbpbkgmeaaDoor.setp

/-- a number among ranges: what In answers; the world is as it was -/
def InPost (b : Bool) (w : World) (e : Ending) (w' : World) : Prop := e = .returned (.bool b) ∧ w' = w
theorem inPost_of {b c : Bool} {w : World} (h : c = b) : InPost b w (.returned (.bool c)) w := by
  subst h
  exact ⟨rfl, rfl⟩
/-- how far In has come -/
def IRel (l : List Rg) (c : Int) (w : World) (i : Value) (wr : World) : Prop := ∃ k : Nat, k ≤ l.length ∧ i = .int .i64 k ∧ hasB (l.take k) c = false ∧ wr = w
theorem hasB_hit {l : List Rg} {k : Nat} (hk : k < l.length) {c : Int} (h1 : l[k].1 ≤ c) (h2 : c ≤ l[k].2) : hasB l c = true := hasB_iff.2 ⟨l[k], List.getElem_mem hk, h1, h2⟩
set_option maxRecDepth 100000 in
set_option maxHeartbeats 2000000 in
theorem rin_any (v : Value) (l : List Rg) (c : Int) (w : World) (hv : RsAt w v l) (hl : l.length ≤ 100000000) :
    Calls Tryd.prog 20 #[v, .int .i64 c] w (InPost (hasB l c) w) := by
  have HV := Lib.hid hv
  obtain ⟨a, cap, rfl⟩ := rsAt_len hv
  clear hv
  go_enter Tryd.func20, Tryd.ntmps20
  go_wp2_with fail
  go_loopw [5] (fun i wr => IRel l c w i wr) (fun i _ => l.length - (intOf i).toNat)
  case atStart => exact ⟨0, Nat.zero_le _, rfl, rfl, rfl⟩
  case round =>
    obtain ⟨k, hk, rfl, hb, rfl⟩ := hrel
    have HB := Lib.hid hb
    clear hb
    by_cases hlt : k < l.length
    · obtain ⟨_, ⟨h0, _⟩ | ⟨_, b, off, cap', hv, _, hc2, hc⟩⟩ := HV.out
      · subst h0; simp at hlt
      cases hv
      obtain ⟨hx, hy⟩ := hc k hlt
      have HH := Lib.hid (fun a b => hasB_hit (c := c) hlt a b)
      have HT := Lib.hid (hasB_take hlt c)
      obtain ⟨x, y, hxy⟩ : ∃ x y, l[k] = (x, y) := ⟨_, _, rfl⟩
      rw [hxy] at hx hy HH HT
      simp only at hx hy HH HT
      clear hc hxy
      by_cases h1 : x ≤ c
      · by_cases h2 : c ≤ y
        · have HR := Lib.hid (HH.out h1 h2)
          go_wp2_with fail
          go_ret
          exact inPost_of HR.out.symm
        · have h2b : decide (c ≤ y) = false := decide_eq_false h2
          go_wp2_with fail
          go_roundw
          case rel => exact ⟨k + 1, by omega, by go_num, by rw [HT.out, HB.out]; simp [h2], rfl⟩
          case measure => simp [intOf]; omega
      · have h1b : decide (x ≤ c) = false := decide_eq_false h1
        go_wp2_with fail
        go_roundw
        case rel => exact ⟨k + 1, by omega, by go_num, by rw [HT.out, HB.out]; simp [h1], rfl⟩
        case measure => simp [intOf]; omega
    · obtain rfl : k = l.length := by omega
      have hb := HB.out
      rw [List.take_length] at hb
      have HB2 := Lib.hid hb
      clear hb
      go_wp2_with fail
      go_ret
      exact inPost_of HB2.out.symm

theorem neqR (x1 x2 y1 y2 : Int) (w : World) : (binOp .neq 52 (.agg #[.int .i64 x1, .int .i64 x2]) (.agg #[.int .i64 y1, .int .i64 y2])).run Tryd.prog w = .ok (.bool (!decide ((x1, x2) = (y1, y2)))) w := by
  have u3 := Tryd.underlying3
  have a3 := Tryd.isAgg3
  have z3 := Tryd.sizeOf3
  have hS : Tryd.prog.underlying 52 = some (.struct (Tryd.prog.fieldsOf 52)) := by kernel_rfl
  have hp : Tryd.prog.stoodInHeld 52 = false := by kernel_rfl
  rw [run_neq_struct, show (10000 : Nat) = 9999 + 1 from rfl, run_equalIn_agg w 9999 52 _ _ hS hp]
  simp only [Program.fieldsOf, Tryd.underlying52]
  go_simp
  by_cases h1 : x1 = y1 <;> by_cases h2 : x2 = y2 <;> simp [h1, h2]
theorem guardR (op : BinOp) (a b : Operand) (x1 x2 y1 y2 : Int) (w : World) : (eqGuard op 52 a b (.agg #[.int .i64 x1, .int .i64 x2]) (.agg #[.int .i64 y1, .int .i64 y2])).run Tryd.prog w = .ok () w :=
  run_eqGuard_agg w op 52 a b _ _ (by kernel_rfl)
/-- what Same answers -/
def SamePost (b : Bool) (w : World) (e : Ending) (w' : World) : Prop := e = .returned (.bool b) ∧ ∃ q, w' = w.drewN q
theorem samePost_of {b c : Bool} {w : World} {q : Nat} (h : c = b) : SamePost b w (.returned (.bool c)) (w.drewN q) := by
  subst h
  exact ⟨rfl, q, rfl⟩
/-- how far Same has come -/
def SRel (l m : List Rg) (w : World) (i : Value) (wr : World) : Prop := ∃ k q : Nat, k ≤ l.length ∧ i = .int .i64 k ∧ l.take k = m.take k ∧ wr = w.drewN q
set_option maxRecDepth 100000 in
set_option maxHeartbeats 2000000 in
theorem rsame_any (v1 v2 : Value) (l m : List Rg) (w : World) (h1 : RsAt w v1 l) (h2 : RsAt w v2 m) (hl1 : l.length ≤ 100000000) (hl2 : m.length ≤ 100000000) :
    Calls Tryd.prog 15 #[v1, v2] w (SamePost (decide (l = m)) w) := by
  have HV1 := Lib.hid h1
  have HV2 := Lib.hid h2
  obtain ⟨a1, q1, rfl⟩ := rsAt_len h1
  obtain ⟨a2, q2, rfl⟩ := rsAt_len h2
  clear h1 h2
  by_cases hlen : l.length = m.length
  · have HLen := Lib.hid hlen
    have hne : ((l.length : Int) != (m.length : Int)) = false := by simp [hlen]
    have hlen2 : (l.length : Int) = (m.length : Int) := by omega
    obtain ⟨n2, hn2⟩ : ∃ n, m.length = n := ⟨_, rfl⟩
    rw [hn2] at HV2 hlen hne hlen2 hl2 ⊢
    subst hlen
    clear hne hlen2
    go_enter Tryd.func15, Tryd.ntmps15
    go_wp2_with fail
    go_loopw [5] (fun i wr => SRel l m w i wr) (fun i _ => l.length - (intOf i).toNat)
    case atStart => exact ⟨0, 0, Nat.zero_le _, rfl, rfl, rfl⟩
    case round =>
      obtain ⟨k, q, hk, rfl, hb, rfl⟩ := hrel
      have HB := Lib.hid hb
      clear hb
      by_cases hlt : k < l.length
      · have hlm : k < m.length := by have := HLen.out; omega
        obtain ⟨_, ⟨h0, _⟩ | ⟨_, b1, off1, cp1, hv, _, hc2, hc⟩⟩ := HV1.out
        · subst h0; simp at hlt
        cases hv
        obtain ⟨_, ⟨h0, _⟩ | ⟨_, b2, off2, cp2, hv, _, hd2, hd⟩⟩ := HV2.out
        · subst h0; simp at hlm
        rw [← HLen.out] at hv
        cases hv
        obtain ⟨hx1, hx2⟩ := hc k hlt
        obtain ⟨hy1, hy2⟩ := hd k hlm
        have HE := Lib.hid (show l[k] = m[k] → l.take (k + 1) = m.take (k + 1) from fun e => by rw [take_snoc hlt, take_snoc hlm, HB.out, e])
        have HN := Lib.hid (show l[k] ≠ m[k] → l ≠ m from fun e h => e (by subst h; rfl))
        obtain ⟨x1, x2, hx⟩ : ∃ x y, l[k] = (x, y) := ⟨_, _, rfl⟩
        obtain ⟨y1, y2, hy⟩ : ∃ x y, m[k] = (x, y) := ⟨_, _, rfl⟩
        rw [hx] at hx1 hx2 HE HN
        rw [hy] at hy1 hy2 HE HN
        simp only at hx1 hx2 hy1 hy2
        have hki : (k : Int) < (l.length : Int) := by omega
        have hq := neqR x1 x2 y1 y2
        have hg := fun op a b => guardR op a b x1 x2 y1 y2
        clear hc hd hx hy
        by_cases he : (x1, x2) = (y1, y2)
        · rw [decide_eq_true he] at hq
          have HE2 := Lib.hid (HE.out he)
          clear he
          go_wp2_with fail
          go_quiet (fail)
          go_wp2_with fail
          go_roundw
          case rel => exact ⟨k + 1, _, by omega, by go_num, HE2.out, rfl⟩
          case measure => simp [intOf]; omega
        · rw [decide_eq_false he] at hq
          have HN2 := Lib.hid (HN.out he)
          clear he
          go_wp2_with fail
          go_quiet (fail)
          go_wp2_with fail
          go_ret
          rw [World.drewN_drewN]
          exact samePost_of (decide_eq_false HN2.out).symm
      · obtain rfl : k = l.length := by omega
        have hb := HB.out
        rw [List.take_length, HLen.out, List.take_length] at hb
        have HB2 := Lib.hid hb
        clear hb
        go_wp2_with fail
        go_ret
        exact samePost_of (decide_eq_true HB2.out).symm
  · have HN := Lib.hid (show l ≠ m from fun h => hlen (by rw [h]))
    have hne : ¬ ((l.length : Int) = (m.length : Int)) := by omega
    generalize l.length = n1 at *
    generalize m.length = n2 at *
    go_enter Tryd.func15, Tryd.ntmps15
    go_wp2_with fail
    go_ret
    exact samePost_of (q := 0) (decide_eq_false HN.out).symm

/-- how far Count has come -/
def CtRel (l : List Rg) (w : World) (v i : Value) (wr : World) : Prop := ∃ k q : Nat, k ≤ l.length ∧ i = .int .i64 k ∧ v = .int .i64 (tot (l.take k)) ∧ wr = w.drewN q
/-- what Count answers -/
def CtPost (n : Int) (w : World) (e : Ending) (w' : World) : Prop := e = .returned (.int .i64 n) ∧ ∃ q, w' = w.drewN q
theorem ctPost_of {m n : Int} {w : World} {q : Nat} (h : m = n) : CtPost n w (.returned (.int .i64 m)) (w.drewN q) := by
  subst h
  exact ⟨rfl, q, rfl⟩
set_option maxRecDepth 100000 in
set_option maxHeartbeats 2000000 in
theorem rcount_any (v : Value) (l : List Rg) (w : World) (hS : Canon l) (hv : RsAt w v l) :
    Calls Tryd.prog 18 #[v] w (CtPost (tot l) w) := by
  have hl := canon_len hS
  have HV := Lib.hid hv
  have HS := Lib.hid hS
  obtain ⟨a, cap, rfl⟩ := rsAt_len hv
  clear hv hS
  go_enter Tryd.func18, Tryd.ntmps18
  go_wp2_with fail
  go_loopw [3, 4] (fun v i wr => CtRel l w v i wr) (fun _ i _ => l.length - (intOf i).toNat)
  case atStart => exact ⟨0, 0, Nat.zero_le _, rfl, rfl, rfl⟩
  case round =>
    obtain ⟨k, q, hk, rfl, rfl, rfl⟩ := hrel
    by_cases hlt : k < l.length
    · obtain ⟨_, ⟨h0, _⟩ | ⟨_, b1, off1, cp1, hv, _, hc2, hc⟩⟩ := HV.out
      · subst h0; simp at hlt
      cases hv
      obtain ⟨hx1, hx2⟩ := hc k hlt
      have hr := HS.out.2 _ (List.getElem_mem hlt)
      have ht1 := tot_canon (canon_take HS.out k)
      have ht2 := tot_canon (canon_take HS.out (k + 1))
      rw [take_snoc hlt, tot_snoc] at ht2
      have HT := Lib.hid (show tot (l.take (k + 1)) = tot (l.take k) + (l[k].2 - l[k].1 + 1) by rw [take_snoc hlt, tot_snoc])
      obtain ⟨x, y, hxy⟩ : ∃ x y, l[k] = (x, y) := ⟨_, _, rfl⟩
      rw [hxy] at hx1 hx2 hr ht2 HT
      simp only at hx1 hx2 hr ht2 HT
      obtain ⟨hx0, hxy1, hy1⟩ := hr
      generalize tot (l.take k) = t at *
      obtain ⟨ht3, ht4⟩ := ht1
      obtain ⟨ht5, ht6⟩ := ht2
      have hki : (k : Int) < (l.length : Int) := by omega
      have hw1 : IntKind.i64.wrap (y - x) = y - x := IntWalk.i64_in _ (by omega)
      have hw2 : IntKind.i64.wrap (y - x + 1) = y - x + 1 := IntWalk.i64_in _ (by omega)
      have hw3 : IntKind.i64.wrap (t + (y - x + 1)) = t + (y - x + 1) := IntWalk.i64_in _ (by omega)
      clear hc hxy
      go_wp2_with fail
      go_quiet (fail)
      go_wp2_with fail
      go_roundw
      case rel => exact ⟨k + 1, _, by omega, by go_num, by rw [HT.out], rfl⟩
      case measure => simp [intOf]; omega
    · obtain rfl : k = l.length := by omega
      go_wp2_with fail
      go_ret
      exact ctPost_of (by rw [List.take_length])
end Go.Proofs.YtgdhhpbpbkgmeaaDoor.setw
