/- Texts that TreeTurnsLaw leans on, merged: what the functions of the program answer. -/
import Derived.Laws.BytesArg
import Derived.Test.YtpjaahojoabgjaaBTr01
import Derived.Test.YtpjaahojoabgjaaBTr02
import Derived.Test.YtpjaahojoabgjaaBTr03
import Derived.Test.YtpjaahojoabgjaaBTr04
import Derived.Test.YtpjaahojoabgjaaBTr05
import Derived.Test.YtpjaahojoabgjaaBTr06
import Derived.Test.YtpjaahojoabgjaaBTr07
namespace Go.Proofs.Ytpjaahojoabgjaa.lawTreeTurns
end Go.Proofs.Ytpjaahojoabgjaa.lawTreeTurns
namespace Go.Proofs.Ytpjaahojoabgjaa.trp
end Go.Proofs.Ytpjaahojoabgjaa.trp
namespace Go.Proofs.Ytpjaahojoabgjaa.trw
end Go.Proofs.Ytpjaahojoabgjaa.trw
section
namespace Go.Proofs.Ytpjaahojoabgjaa.trp
open Go
theorem same_size : ∀ {f g : F}, sameF f g = true → f.size = g.size ∧ f.deep = g.deep ∧ caps f = caps g
 | .nil, .nil, _ => ⟨rfl, rfl, rfl⟩
 | .nil, .cons _ _ _, h => by simp [sameF] at h
 | .cons _ _ _, .nil, h => by simp [sameF] at h
 | .cons x k r, .cons y k' r', h => by
   simp only [sameF, Bool.and_eq_true, decide_eq_true_eq] at h
   obtain ⟨⟨⟨h1, _⟩, h3⟩, h4⟩ := h
   obtain ⟨a1, a2, a3⟩ := same_size h3
   obtain ⟨b1, b2, b3⟩ := same_size h4
   have hk : x.kind = y.kind := by
     unfold labEq at h1
     simp only [Bool.and_eq_true, decide_eq_true_eq] at h1
     exact h1.1.1.1.1.1.1.1.1.1
   simp only [F.size, F.deep, caps, a1, a2, a3, b1, b2, b3, hk]
   exact ⟨trivial, trivial, trivial⟩
theorem labEq_comm (x y : Lab) : labEq x y = labEq y x := by
 unfold labEq
 simp only [eq_comm, Bool.beq_comm]
theorem sameF_comm : ∀ (f g : F), sameF f g = sameF g f
 | .nil, .nil => rfl
 | .nil, .cons _ _ _ => rfl
 | .cons _ _ _, .nil => rfl
 | .cons x k r, .cons y k' r' => by
   simp only [sameF]
   rw [labEq_comm x y, sameF_comm k k', sameF_comm r r', show decide (k.len = k'.len) = decide (k'.len = k.len) by simp only [eq_comm]]
theorem sameT_comm (a b : Nd) : sameT a b = sameT b a := by
 unfold sameT
 rw [labEq_comm, sameF_comm, show decide (a.2.len = b.2.len) = decide (b.2.len = a.2.len) by simp only [eq_comm]]
end Go.Proofs.Ytpjaahojoabgjaa.trp
end
