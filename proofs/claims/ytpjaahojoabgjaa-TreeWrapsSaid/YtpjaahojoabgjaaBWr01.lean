/- Texts that TreeWrapsLaw leans on, merged: what the functions of the program answer. -/
import Derived.BigQuiet
import Derived.Deep.Cut
import Derived.Deep.RegionHeld3
import Derived.Laws.BytesArg
import Derived.Laws.CopyRow
import Derived.Laws.OwnMore
import Derived.Laws.Rows
import Derived.Lib.Hide
import Derived.Lib.QuietBelow
import Derived.Maps.AppendAt
import Derived.OwnWalk
import Derived.Shelf.Abstract
import Derived.Test.YtpjaahojoabgjaaRows
import Derived.WalkKit
import Derived.WalkMore
import Derived.Test.YtpjaahojoabgjaaBTr01
import Derived.Test.YtpjaahojoabgjaaBTr02
import Derived.Test.YtpjaahojoabgjaaBTr03
import Derived.Test.YtpjaahojoabgjaaBTr04
import Derived.Test.YtpjaahojoabgjaaBTr05
import Derived.Test.YtpjaahojoabgjaaBTr06
import Derived.Test.YtpjaahojoabgjaaBTr07
namespace Go.Proofs.Ytpjaahojoabgjaa.lawTreeWraps
end Go.Proofs.Ytpjaahojoabgjaa.lawTreeWraps
namespace Go.Proofs.Ytpjaahojoabgjaa.trp
end Go.Proofs.Ytpjaahojoabgjaa.trp
namespace Go.Proofs.Ytpjaahojoabgjaa.trw
end Go.Proofs.Ytpjaahojoabgjaa.trw
section
namespace Go.Proofs.Ytpjaahojoabgjaa.trw
open Go Go.RowKit trp
def wrK (n : Int) : Int := if n = 0 then 14 else if n = 1 then 15 else if n = 2 then 17 else 16
theorem wrK_of (n : Int) : wrK n = 14 ∨ wrK n = 15 ∨ wrK n = 16 ∨ wrK n = 17 := by
 unfold wrK
 split
 · exact Or.inl rfl
 split
 · exact Or.inr (Or.inl rfl)
 split
 · exact Or.inr (Or.inr (Or.inr rfl))
 · exact Or.inr (Or.inr (Or.inl rfl))
def nW (q : Int) (B : Nat) : Lab := mk q 0 0 0 (.slice (some ⟨B, 0, none⟩) 1 1)
def nT (B : Nat) : Lab := mk 12 0 0 0 (.slice (some ⟨B, 0, none⟩) 2 2)
def nA : Lab := mk 3 0 0 0 (.slice none 0 0)
theorem wr_deep {x : Lab} {k : F} (h : checkP (x, k) = true) : k.deep + 1 ≤ 300 := by
 unfold checkP at h
 simp only [Bool.and_eq_true, decide_eq_true_eq] at h
 exact h.1.2
theorem wr_parts {x : Lab} {k : F} (h : checkP (x, k) = true) : mayP (x, k) = true ∧ allP k = true := by
 unfold checkP at h
 simp only [Bool.and_eq_true] at h
 exact h.2
theorem wr_may {x : Lab} {k : F} (q : Int) (B : Nat) (hq : q = 14 ∨ q = 15 ∨ q = 16 ∨ q = 17) : mayP (nW q B, .cons x k .nil) = true := by
 rcases hq with rfl | rfl | rfl | rfl <;> simp [mayP, nW, mk, F.len]
theorem wr_check {x : Lab} {k : F} (q : Int) (B : Nat) (hq : q = 14 ∨ q = 15 ∨ q = 16 ∨ q = 17) (h : checkP (x, k) = true) (hs : k.size + 1 ≤ 3990) (hd : k.deep + 1 ≤ 290) : checkP (nW q B, .cons x k .nil) = true := by
 obtain ⟨h1, h2⟩ := wr_parts h
 unfold checkP
 rw [wr_may (x := x) (k := k) q B hq, Bool.true_and, Bool.and_eq_true, Bool.and_eq_true, decide_eq_true_eq, decide_eq_true_eq]
 simp only [F.size, F.deep, allP, h1, h2, Bool.and_true, and_true]
 omega
theorem wr_seq {x : Lab} {k : F} (B : Nat) : checkP (nW 12 B, .cons x k .nil) = false := by
 have : mayP (nW 12 B, .cons x k .nil) = false := by simp [mayP, nW, mk, F.len]
 unfold checkP
 simp only [this, Bool.false_and, Bool.and_false]
def fT (q : Int) (B : Nat) (x : Lab) (k : F) : F := .cons (nW q B) (.cons x k .nil) (.cons nA .nil .nil)
theorem wr_two {x : Lab} {k : F} (q : Int) (B C : Nat) (hq : q = 14 ∨ q = 15 ∨ q = 16 ∨ q = 17) (h : checkP (x, k) = true) (hs : k.size + 1 ≤ 3990) (hd : k.deep + 1 ≤ 290) : checkP (nT C, fT q B x k) = true := by
 obtain ⟨h1, h2⟩ := wr_parts h
 have e1 : mayP (nT C, fT q B x k) = true := by simp [mayP, nT, mk, fT, F.len]
 have e2 : mayP (nA, .nil) = true := by rfl
 unfold checkP
 rw [e1, Bool.true_and, Bool.and_eq_true, Bool.and_eq_true, decide_eq_true_eq, decide_eq_true_eq]
 simp only [fT, F.size, F.deep, wr_may q B hq, allP, h1, h2, e2, Bool.and_true, and_true]
 omega
theorem wr_caps {x : Lab} {k : F} (q : Int) (B : Nat) : capsT (nW q B, .cons x k .nil) = (if q = 14 then 1 else 0) + capsT (x, k) := by
 by_cases hq : q = 14 <;> simp [capsT, caps, nW, mk, hq] <;> omega
theorem caps_le : ∀ f : F, caps f ≤ f.size
 | .nil => Nat.le_refl _
 | .cons x k r => by
   have h1 := caps_le k
   have h2 := caps_le r
   simp only [caps, F.size]
   split <;> omega
theorem capsT_le (x : Lab) (k : F) : capsT (x, k) ≤ k.size + 1 := by
 have h1 := caps_le k
 simp only [capsT]
 split <;> omega
theorem wr_capsK {x : Lab} {k : F} (n : Int) (B : Nat) : ((capsT (nW (wrK n) B, .cons x k .nil) : Nat) : Int) = ((capsT (x, k) : Nat) : Int) + (if n = 0 then 1 else 0) := by
 have e : (wrK n = 14) ↔ n = 0 := by
   unfold wrK
   constructor
   · intro h
     split at h
     · assumption
     split at h
     · omega
     split at h <;> omega
   · intro h
     rw [if_pos h]
 rw [wr_caps]
 by_cases h : n = 0
 · rw [if_pos (e.2 h), if_pos h]
   omega
 · rw [if_neg (fun h' => h (e.1 h')), if_neg h]
   omega
theorem al2 (w : World) (A C : Obj) : Below w.heap.size w ((w.alloc A).alloc C) ∧ ((w.alloc A).alloc C).heap[w.heap.size]? = some A ∧ ((w.alloc A).alloc C).heap[w.heap.size + 1]? = some C := by
 refine ⟨(below_alloc w A).alloc (by simp) _, ?_, ?_⟩
 · rw [heap_alloc_old _ _ (by simp <;> omega)]
   exact heap_alloc_new w A
 · have := heap_alloc_new (w.alloc A) C
   simpa using this
theorem al3 (w : World) (A C D : Obj) : Below w.heap.size w (((w.alloc A).alloc C).alloc D) ∧ (((w.alloc A).alloc C).alloc D).heap[w.heap.size]? = some A ∧ (((w.alloc A).alloc C).alloc D).heap[w.heap.size + 1]? = some C ∧ (((w.alloc A).alloc C).alloc D).heap[w.heap.size + 1 + 1]? = some D := by
 refine ⟨((below_alloc w A).alloc (by simp) _).alloc (by simp <;> omega) _, ?_, ?_, ?_⟩
 · rw [heap_alloc_old _ _ (by simp <;> omega), heap_alloc_old _ _ (by simp <;> omega)]
   exact heap_alloc_new w A
 · rw [heap_alloc_old _ _ (by simp <;> omega)]
   have := heap_alloc_new (w.alloc A) C
   simpa using this
 · have := heap_alloc_new ((w.alloc A).alloc C) D
   simpa using this
end Go.Proofs.Ytpjaahojoabgjaa.trw
end
