/- T -/
import Derived.Test.YtnpcombfgdbhkaaDoorBPd08
set_option maxHeartbeats 16000000
set_option maxRecDepth 1000000
section
namespace Go.Proofs.YtnpcombfgdbhkaaDoor.psl
open sq
set_option maxRecDepth 1000000
theorem deep_4a : (List.range' 0 30).all (deepB 4) = true := by decide +kernel
theorem deep_4b : (List.range' 30 25).all (deepB 4) = true := by decide +kernel
theorem deep_4c : (List.range' 55 25).all (deepB 4) = true := by decide +kernel
theorem deep_4d : (List.range' 80 21).all (deepB 4) = true := by decide +kernel
theorem deep_4 : (List.range 101).all (deepB 4) = true := by
 have e : List.range 101 = List.range' 0 30 ++ (List.range' 30 25 ++ (List.range' 55 25 ++ List.range' 80 21)) := by decide
 rw [e, List.all_append, List.all_append, List.all_append, deep_4a, deep_4b, deep_4c, deep_4d];rfl
end Go.Proofs.YtnpcombfgdbhkaaDoor.psl
end
