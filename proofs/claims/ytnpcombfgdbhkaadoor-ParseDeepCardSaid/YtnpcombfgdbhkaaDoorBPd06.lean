/- T -/
import Derived.Test.YtnpcombfgdbhkaaDoorBPd08
set_option maxHeartbeats 16000000
set_option maxRecDepth 1000000
section
namespace Go.Proofs.YtnpcombfgdbhkaaDoor.psl
open sq
set_option maxRecDepth 1000000
theorem deep_3a : (List.range' 0 30).all (deepB 3) = true := by decide +kernel
theorem deep_3b : (List.range' 30 25).all (deepB 3) = true := by decide +kernel
theorem deep_3c : (List.range' 55 25).all (deepB 3) = true := by decide +kernel
theorem deep_3d : (List.range' 80 21).all (deepB 3) = true := by decide +kernel
theorem deep_3 : (List.range 101).all (deepB 3) = true := by
 have e : List.range 101 = List.range' 0 30 ++ (List.range' 30 25 ++ (List.range' 55 25 ++ List.range' 80 21)) := by decide
 rw [e, List.all_append, List.all_append, List.all_append, deep_3a, deep_3b, deep_3c, deep_3d];rfl
end Go.Proofs.YtnpcombfgdbhkaaDoor.psl
end
