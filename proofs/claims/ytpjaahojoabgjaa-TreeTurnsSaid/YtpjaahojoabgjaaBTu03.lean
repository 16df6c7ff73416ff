/- Texts that TreeTurnsLaw leans on, merged: what the functions of the program answer. -/
import Derived.ChangeSame
import Derived.Deep.SlicePairs
import Derived.Laws.CopyRow
import Derived.Laws.Rows
import Derived.Lib.Hide
import Derived.Lib.SmallJoins
import Derived.OwnWalk
import Derived.SizedLaws
import Derived.Test.YtpjaahojoabgjaaRows
import Derived.WalkKit
import Derived.Test.YtpjaahojoabgjaaBTu01
section
namespace Go.Proofs.Ytpjaahojoabgjaa.trw
open Go Go.RowKit Go.ChangeShapes Go.WideShapes trp
instance : Inhabited Lab := ⟨⟨0, 0, 0, .bool false, [], false, 0, 0, 0, ⟨#[]⟩, 0, 0, .bool false⟩⟩
instance : Inhabited F := ⟨.nil⟩
section
variable {H : Type} {enc : TypeId × Value → H} {W : World}
end
end Go.Proofs.Ytpjaahojoabgjaa.trw
end
