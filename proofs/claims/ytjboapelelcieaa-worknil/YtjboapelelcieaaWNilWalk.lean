/-
  WorkNil walked: for every number it returns true.
-/
import Derived.Test.YtjboapelelcieaaWBegun
namespace Go.Proofs.Ytjboapelelcieaa.Wk
open Go.RowKit
set_option linter.unusedVariables false
theorem nil_law (n : Int) (w : World) (hn : (Lit.int .i64 n).wf = true) : Calls Try.prog 6 #[.int .i64 n] w fun e w' => e = .returned (.bool true) ∧ Below w.heap.size w w' := nil_any n w
end Go.Proofs.Ytjboapelelcieaa.Wk
