/- What the rows of layer 1 have in common: the two tables out of the rows' lists, a slice of bytes that came in, the end of a law. -/
import Derived.Test.YtmphapcogmjgnaaDoorUtfW3
import Derived.Test.YtmphapcogmjgnaaDoorCards
import Derived.Test.YtmphapcogmjgnaaDoorTie
import Derived.Deep.DeepHandedRow
import Derived.Lib.LaidTab
import Derived.Stop.LaidErr
import Derived.Carry
import Derived.SizedLaws
namespace Go.Proofs.YtmphapcogmjgnaaDoor.utfw
open Go Go.RowKit Go.ChangeShapes Go.WideShapes Go.ChangeAt Go.Proofs.YtmphapcogmjgnaaDoor.utfp

theorem own : ownKnob Tryd.prog.godebug = none := by kernel_rfl
theorem laidOut : laidOutB Tryd.prog = true := by kernel_rfl
theorem gLengths : Tryd.prog.globalNamed "lurcher/utf.lengths" = some 1 := by kernel_rfl
theorem gHeads : Tryd.prog.globalNamed "lurcher/utf.heads" = some 0 := by kernel_rfl
theorem gLengthsType : (Tryd.prog.globals[1]?).map (·.type) = some 45 := by kernel_rfl
theorem gHeadsType : (Tryd.prog.globals[0]?).map (·.type) = some 43 := by kernel_rfl
theorem cellsLengths : Tryd.prog.cellsOf 45 = 32 := by kernel_rfl
theorem cellsHeads : Tryd.prog.cellsOf 43 = 5 := by kernel_rfl
theorem cellsInt : Tryd.prog.cellsOf 3 = 1 := by kernel_rfl
theorem cellsByte : Tryd.prog.cellsOf 5 = 1 := by kernel_rfl
theorem bytesByte : Tryd.prog.bytesOf 5 = 1 := by kernel_rfl
theorem recBytes : Tryd.prog.readableRec 22 = true := by kernel_rfl
theorem rowBytes : (22 : TypeId) < Tryd.prog.types.size := of_decide_eq_true (by kernel_rfl)

/-- the numbers of the table of lengths -/
def lens : List Int := [1, 1, 1, 1, 1, 1, 1, 1, 1, 1, 1, 1, 1, 1, 1, 1, 0, 0, 0, 0, 0, 0, 0, 0, 2, 2, 2, 2, 3, 3, 4, 0]
theorem lens_at (i : Nat) (h : i < 32) : lens.getD i 0 = len0 (8 * i) := by
  have all : ∀ i : Fin 32, lens.getD i.val 0 = len0 (8 * (i.val : Nat)) := by decide +kernel
  exact all ⟨i, h⟩
theorem len0_eight {x : Int} (_h0 : 0 ≤ x) : len0 (8 * (x / 8)) = len0 x := by
  rcases len0_cases x with ⟨a, b⟩ | ⟨a, b⟩ | ⟨a, b⟩ | ⟨a, b⟩ | ⟨a, b⟩ <;>
  rcases len0_cases (8 * (x / 8)) with ⟨c, d⟩ | ⟨c, d⟩ | ⟨c, d⟩ | ⟨c, d⟩ | ⟨c, d⟩ <;> omega
def hds : List Int := [0, 0, 192, 224, 240]
theorem hds_at (s : Int) (h0 : 0 ≤ s) (h1 : s ≤ 4) : hds.getD s.toNat 0 = head0 s := by
  have hs : s = 0 ∨ s = 1 ∨ s = 2 ∨ s = 3 ∨ s = 4 := by omega
  rcases hs with rfl | rfl | rfl | rfl | rfl <;> rfl
/-- the list of every row of this layer -/
def laidList : List (String × DataW Unit) := [("lurcher/utf.lengths", Rows.laid_lurcher_utf_lengths), ("lurcher/utf.heads", Rows.laid_lurcher_utf_heads)]
theorem tabs_of {W : World} (h : laidMetH Tryd.prog laidList W) : Tabs W := by
  have h1 : laidMet Tryd.prog laidList W := h
  have T1 : Lib.TabIs Tryd.prog W "lurcher/utf.lengths" .i64 lens := Lib.tabIs_of_head (rest := [("lurcher/utf.heads", Rows.laid_lurcher_utf_heads)]) gLengths gLengthsType Tryd.underlying45 Tryd.underlying3 cellsInt cellsLengths h1
  have T2 : Lib.TabIs Tryd.prog W "lurcher/utf.heads" .i64 hds := Lib.tabIs_of_head (rest := []) gHeads gHeadsType Tryd.underlying43 Tryd.underlying3 cellsInt cellsHeads (laidMet.tail h1)
  refine ⟨fun x h0 h2 => ?_, fun s h0 h2 => ?_⟩
  · have hi : (x / 8).toNat < 32 := by omega
    rw [T1.cell gLengths (x / 8).toNat (by simpa [lens] using hi), lens_at _ hi, show ((x / 8).toNat : Int) = x / 8 from by omega, len0_eight h0]
  · have hi : s.toNat < 5 := by omega
    rw [T2.cell gHeads s.toNat (by simpa [hds] using hi), hds_at s h0 h2]

/-- a variable's cells, laid -/
def layCells (l : List Int) : Obj → Obj
  | .cells _ t frozen => .cells (l.map (Value.int .i64)).toArray t frozen
  | o => o
theorem wf_byte {n : Int} (h : (Lit.int .u8 n).wf = true) : 0 ≤ n ∧ n ≤ 255 := by
  have h2 : IntKind.u8.min ≤ n ∧ n ≤ IntKind.u8.max := by simpa [Lit.wf] using h
  rw [show IntKind.u8.min = 0 by decide, show IntKind.u8.max = 255 by decide] at h2
  exact h2
/-- a slice of bytes that came in -/
theorem open_bytes {H : Type} {enc : TypeId × Value → H} {W : World} {base : Nat} {v : Value} {d : DataW H} {ps : List MemPlace} (hval : Value.okWide Tryd.prog W .any base 22 v)
    (h : DataW.Trod enc Tryd.prog W 0 (fun _ => true) true 22 v d ps) (hsz : ∀ elems spare, d = .slice elems spare → (elems.length + spare.length) * Tryd.prog.bytesOf 5 ≤ reachBytes) :
    ∃ n g, Sl W v n g := by
  obtain ⟨a0, len, cap, rfl⟩ := okWide_slice Tryd.underlying22 hval
  obtain ⟨fuel, hf⟩ := h
  rcases open_ints Tryd.underlying22 Tryd.underlying5 cellsByte hf with ⟨hcs, _⟩ | ⟨a, len', cap', zs, hcs, _, hl, hm, hz, hx, hcell, hwz⟩
  · simp [Value.cells] at hcs
    obtain ⟨rfl, rfl, rfl⟩ := hcs
    exact ⟨0, fun _ => 0, fun _ => by simp, by simp, Or.inl ⟨rfl, _, _, rfl, by omega⟩⟩
  · simp [Value.cells] at hcs
    obtain ⟨rfl, rfl, rfl⟩ := hcs
    simp only [Prod.mk.injEq] at hx
    obtain ⟨rfl, _⟩ := hx
    simp only [if_true] at hz
    have hr := hsz _ _ rfl
    rw [bytesByte] at hr
    simp only [lits, List.length_map, List.length_take, List.length_drop, reachBytes] at hr
    unfold maxLen at hm
    have hgb : ∀ i, 0 ≤ zs.getD i 0 ∧ zs.getD i 0 ≤ 255 := by
      intro i
      by_cases hi : i < zs.length
      · simp only [List.getD, List.getElem?_eq_getElem hi, Option.getD_some]
        exact wf_byte (hwz _ (List.getElem_mem hi))
      · simp [List.getD, List.getElem?_eq_none (Nat.le_of_not_lt hi)]
    by_cases h0 : len = 0
    · subst h0
      exact ⟨0, fun _ => 0, fun _ => by simp, by simp, Or.inl ⟨rfl, _, _, rfl, by omega⟩⟩
    · obtain ⟨b, off, spot⟩ := a
      have c0 := hcell 0 (by omega)
      cases spot with
      | some s =>
        exfalso
        have : ((⟨b, off, some s⟩ : Addr).add 0).spot.isSome = true := by unfold Addr.add; split <;> simp_all
        unfold World.cell? at c0
        split at c0
        · simp [this] at c0
        · simp at c0
      | none =>
        refine ⟨len, fun i => zs.getD i 0, hgb, by omega, Or.inr ⟨b, off, cap, rfl, ⟨hl, by omega⟩, fun i hi => ?_⟩⟩
        have := hcell i (by omega)
        have hplain : (⟨b, off, none⟩ : Addr).add i = ⟨b, off + i, none⟩ := by unfold Addr.add; split <;> simp_all
        rw [hplain] at this
        exact this
end Go.Proofs.YtmphapcogmjgnaaDoor.utfw
