/-
  What a maker of programs out of numbers tells: Made, Pick, names of locations and registers, as contracts.
-/
import Derived.Test.YtchokfgffnomoaaDoorLBytes
import Derived.Test.YtchokfgffnomoaaDoorTA
import Derived.Deep.QuietTactic
import Derived.BigQuiet
namespace Go.Proofs.YtchokfgffnomoaaDoor.Lx
open Go.RowKit
set_option maxRecDepth 100000
set_option linter.unusedVariables false
set_option linter.unusedSimpArgs false
end Go.Proofs.YtchokfgffnomoaaDoor.Lx
