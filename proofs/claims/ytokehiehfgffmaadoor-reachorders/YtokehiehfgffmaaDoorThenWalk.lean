/-
  The statement RelThen's own call returns true, whatever the arguments, and leaves what was there as it was.
-/
import Derived.Test.YtokehiehfgffmaaDoorRSome
import Derived.Test.YtokehiehfgffmaaDoorRRef4
namespace Go.Proofs.YtokehiehfgffmaaDoor
open Go.RowKit
set_option linter.unusedVariables false
set_option linter.unusedSimpArgs false

/-- What a walk of a statement ends in. -/
def Good (w : World) (e : Ending) (w' : World) : Prop := e = .returned (.bool true) ∧ Below w.heap.size w w'
end Go.Proofs.YtokehiehfgffmaaDoor
