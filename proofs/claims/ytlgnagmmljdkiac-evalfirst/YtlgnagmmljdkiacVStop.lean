/-
  What the functions of package wrap tell whose numbers stop, as contracts: each returns what the plain function of the same kind says, and leaves the world as it was.
-/
import Derived.Test.YtlgnagmmljdkiacVLeaf
namespace Go.Proofs.Ytlgnagmmljdkiac.Wr
open Go.RowKit
set_option linter.unusedVariables false
theorem minmax (v : Int) : min (max v 0) 4611686018427387904 = V.at0 v := by
  unfold V.at0 V.top
  split
  · omega
  · split <;> omega
/-- A round of the power: how p, a, k stand. -/
def SqR (c : Int) (a k p : Value) : Prop := ∃ x y z : Int, V.SqS c z x y ∧ a = .int .i64 x ∧ k = .int .i64 y ∧ p = .int .i64 z ∧ y ≤ 4611686018427387904
end Go.Proofs.Ytlgnagmmljdkiac.Wr
