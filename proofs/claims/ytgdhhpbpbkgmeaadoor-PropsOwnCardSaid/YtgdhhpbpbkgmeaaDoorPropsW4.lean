/- The contracts of package props' two maps. (Written by gen/props4.py.) -/
import Derived.Test.YtgdhhpbpbkgmeaaDoorPropsM
namespace Go.Proofs.YtgdhhpbpbkgmeaaDoor.prw
open Go Go.RowKit Go.Proofs.YtgdhhpbpbkgmeaaDoor.bulk Go.Proofs.YtgdhhpbpbkgmeaaDoor.ucdp Go.Proofs.YtgdhhpbpbkgmeaaDoor.ucdw Go.Proofs.YtgdhhpbpbkgmeaaDoor.setp Go.Proofs.YtgdhhpbpbkgmeaaDoor.setw Go.Proofs.YtgdhhpbpbkgmeaaDoor.prp

theorem insAt_cons {t : TypeId} {m : Operand} {o : Oper} {l : List Oper} {p : ByteArray × Value} {ins : List (ByteArray × Value)} (h : o.guard = none ∧ o.dst = none ∧ o.op = Op.insert t m (.const (.string p.1)) (.const p.2)) (h2 : InsAt t m l ins) : InsAt t m (o :: l) (p :: ins) := ⟨h, h2⟩
theorem insAt_nil {t : TypeId} {m : Operand} {l : List Oper} : InsAt t m l [] := by cases l <;> exact trivial
/-- the kinds of the properties, as the map holds them -/
def kindsV : List (ByteArray × Value) := kinds.map fun p => (p.1, .int .i64 p.2)
/-- as they are put in -/
def kindsI : List (ByteArray × Value) := [(⟨#[65, 110, 121]⟩, .int .i64 1),
  (⟨#[76, 38]⟩, .int .i64 3),
  (⟨#[76]⟩, .int .i64 2),
  (⟨#[77]⟩, .int .i64 2),
  (⟨#[78]⟩, .int .i64 2),
  (⟨#[80]⟩, .int .i64 2),
  (⟨#[83]⟩, .int .i64 2),
  (⟨#[90]⟩, .int .i64 2),
  (⟨#[67]⟩, .int .i64 2),
  (⟨#[76, 117]⟩, .int .i64 2),
  (⟨#[76, 108]⟩, .int .i64 2),
  (⟨#[76, 111]⟩, .int .i64 2),
  (⟨#[77, 110]⟩, .int .i64 2),
  (⟨#[78, 100]⟩, .int .i64 2),
  (⟨#[78, 111]⟩, .int .i64 2),
  (⟨#[80, 99]⟩, .int .i64 2),
  (⟨#[80, 100]⟩, .int .i64 2),
  (⟨#[80, 115]⟩, .int .i64 2),
  (⟨#[80, 101]⟩, .int .i64 2),
  (⟨#[80, 105]⟩, .int .i64 2),
  (⟨#[80, 102]⟩, .int .i64 2),
  (⟨#[80, 111]⟩, .int .i64 2),
  (⟨#[83, 109]⟩, .int .i64 2),
  (⟨#[83, 99]⟩, .int .i64 2),
  (⟨#[83, 107]⟩, .int .i64 2),
  (⟨#[83, 111]⟩, .int .i64 2),
  (⟨#[90, 115]⟩, .int .i64 2),
  (⟨#[90, 108]⟩, .int .i64 2),
  (⟨#[90, 112]⟩, .int .i64 2),
  (⟨#[67, 99]⟩, .int .i64 2),
  (⟨#[67, 102]⟩, .int .i64 2),
  (⟨#[67, 110]⟩, .int .i64 2),
  (⟨#[67, 111, 109, 109, 111, 110]⟩, .int .i64 4),
  (⟨#[73, 110, 104, 101, 114, 105, 116, 101, 100]⟩, .int .i64 4),
  (⟨#[76, 97, 116, 105, 110]⟩, .int .i64 4),
  (⟨#[71, 114, 101, 101, 107]⟩, .int .i64 4),
  (⟨#[67, 121, 114, 105, 108, 108, 105, 99]⟩, .int .i64 4),
  (⟨#[72, 101, 98, 114, 101, 119]⟩, .int .i64 4),
  (⟨#[65, 114, 97, 98, 105, 99]⟩, .int .i64 4),
  (⟨#[72, 105, 114, 97, 103, 97, 110, 97]⟩, .int .i64 4),
  (⟨#[72, 97, 110]⟩, .int .i64 4),
  (⟨#[85, 110, 107, 110, 111, 119, 110]⟩, .int .i64 4)]
theorem kindsI_rev : kindsI.reverse = kindsV := rfl
theorem kindsI_small : ∀ p ∈ kindsI, p.1.size ≤ 1000 := by
  intro p hp
  have all : (kindsI.all fun p => decide (p.1.size ≤ 1000)) = true := by kernel_rfl
  exact of_decide_eq_true (List.all_eq_true.1 all p hp)
theorem lookP_map {A B : Type} (f : A → B) (n : ByteArray) (z : A) : ∀ l : List (ByteArray × A), lookP (l.map fun p => (p.1, f p.2)) n (f z) = f (lookP l n z)
  | [] => rfl
  | (k, v) :: l => by
    simp only [List.map_cons]
    unfold lookP
    split
    · rfl
    · exact lookP_map f n z l
theorem kindsV_at (n : ByteArray) : lookP kindsV n (.int .i64 0) = .int .i64 (kind n) := lookP_map (Value.int .i64) n 0 kinds
/-- a map of the call's own, in a world in which nothing of what was there has turned -/
def MapB (L : List (ByteArray × Value)) (w : World) (e : Ending) (w' : World) : Prop := ∃ b n, e = .returned (.map (some b)) ∧ MapV w' b n L ∧ Below w.heap.size w w'
theorem below_map {w0 w w' : World} {b : Nat} (h : Below w0.heap.size w0 w) (hg : w.grownBy w' (some b)) (hb : w0.heap.size ≤ b) : Below w0.heap.size w0 w' := h.grown hg h.size fun k hk => by cases hk; exact hb
set_option maxRecDepth 100000 in
set_option maxHeartbeats 4000000 in
theorem properties_any (w : World) : Calls Tryd.prog 54 #[] w (MapB kindsV w) := by
  have hmm := @run_makeMap Tryd.prog
  have HM := Lib.hid (mapV_made w)
  go_enter Tryd.func54, Tryd.ntmps54
  go_wp2_with (refine wpList_inserts 70 3 (.tmp 1) Tryd.underlying70 w.heap.size rfl kindsI _ _ 0 [] (by unfold kindsI; repeat' (first | exact insAt_nil | refine insAt_cons ⟨rfl, rfl, rfl⟩ ?_)) HM.out (by decide) kindsI_small ?_; intro w1 hm1 hg1; have HM1 := Lib.hid hm1; have HG1 := Lib.hid hg1; clear hm1 hg1)
  go_ret
  refine ⟨w.heap.size, 0 + kindsI.length, rfl, ?_, below_map (below_alloc w _) HG1.out (Nat.le_refl _)⟩
  have := HM1.out
  rw [List.append_nil, kindsI_rev] at this
  exact this

end Go.Proofs.YtgdhhpbpbkgmeaaDoor.prw
