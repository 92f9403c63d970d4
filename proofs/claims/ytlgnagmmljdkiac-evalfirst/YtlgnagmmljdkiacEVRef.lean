/-
  What the document's answer tells an expression comes to, as contracts.
-/
import Derived.Test.YtlgnagmmljdkiacEVAsk

namespace Go.Proofs.Ytlgnagmmljdkiac.Lx
open Go.RowKit
open P (EX ev ev2 plI jn evA askD askDs szX szL)
set_option maxRecDepth 100000
set_option linter.unusedVariables false
set_option linter.unusedSimpArgs false

theorem jn_3 (x y n : Int) : jn 3 x y n = V.inI (x + y) n := rfl
theorem jn_4 (x y n : Int) : jn 4 x y n = V.inI (x - y) n := rfl
theorem jn_5 (x y n : Int) : jn 5 x y n = if x = y then 1 else 0 := rfl
theorem jn_6 (x y n : Int) : jn 6 x y n = if x < y then 1 else 0 := rfl

end Go.Proofs.Ytlgnagmmljdkiac.Lx
