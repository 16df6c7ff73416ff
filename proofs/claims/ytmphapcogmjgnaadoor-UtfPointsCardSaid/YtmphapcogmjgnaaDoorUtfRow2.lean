/- A slice of bytes that came in, and that it is nil or has an address. -/
import Derived.Test.YtmphapcogmjgnaaDoorUtfRow
import Derived.Test.YtmphapcogmjgnaaDoorUtfApp
namespace Go.Proofs.YtmphapcogmjgnaaDoor.utfw
open Go Go.RowKit Go.ChangeShapes Go.WideShapes Go.ChangeAt Go.Proofs.YtmphapcogmjgnaaDoor.utfp

/-- a slice of bytes that can be appended -/
def Sx (w : World) (v : Value) (n : Nat) (g : Nat → Int) : Prop := Sl w v n g ∧ NilOk v
theorem open_bytesX {H : Type} {enc : TypeId × Value → H} {W : World} {base : Nat} {v : Value} {d : DataW H} {ps : List MemPlace} (hval : Value.okWide Tryd.prog W .any base 22 v)
    (h : DataW.Trod enc Tryd.prog W 0 (fun _ => true) true 22 v d ps) (hsz : ∀ elems spare, d = .slice elems spare → (elems.length + spare.length) * Tryd.prog.bytesOf 5 ≤ reachBytes) :
    ∃ n g, Sx W v n g := by
  obtain ⟨n, g, hs⟩ := open_bytes hval h hsz
  refine ⟨n, g, hs, ?_⟩
  obtain ⟨a0, len, cap, rfl⟩ := okWide_slice Tryd.underlying22 hval
  obtain ⟨fuel, hf⟩ := h
  rcases open_ints Tryd.underlying22 Tryd.underlying5 cellsByte hf with ⟨hcs, _⟩ | ⟨a, len', cap', zs, hcs, _, hl, hm, hz, hx, hcell, hwz⟩
  · simp [Value.cells] at hcs
    obtain ⟨rfl, rfl, rfl⟩ := hcs
    exact Or.inl rfl
  · simp [Value.cells] at hcs
    obtain ⟨rfl, rfl, rfl⟩ := hcs
    exact Or.inr ⟨_, _, _, rfl⟩
theorem sl_slice {w : World} {v : Value} {n : Nat} {g : Nat → Int} (h : Sl w v n g) : ∃ a c, v = .slice a n c := by
  obtain ⟨_, _, ⟨rfl, a, c, hv, _⟩ | ⟨b, off, cap, hv, _⟩⟩ := h
  · exact ⟨_, _, hv⟩
  · exact ⟨_, _, hv⟩
end Go.Proofs.YtmphapcogmjgnaaDoor.utfw
