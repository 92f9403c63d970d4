/-
  Slices of expressions in memory, and the texts of theirs.
-/
import Derived.Test.YtchokfgffnomoaaDoorXMath
import Derived.Test.YtchokfgffnomoaaDoorPSame
namespace Go.Proofs.YtchokfgffnomoaaDoor.Lx
open Go.RowKit
open P (EX CO ST)
set_option linter.unusedVariables false
/-- A slice of expressions. -/
def IsXs (Q : Nat → Prop) (w : World) (v : Value) (es : List EX) : Prop := ∃ a c, v = .slice a es.length c ∧ es.length ≤ maxLen ∧ (es = [] ∨ ∃ g off, a = some ⟨g, off, none⟩ ∧ Q g ∧ LXs Q w g off es)
/-- The text of the one at i, of nothing if it is not there. -/
def kidT (es : List EX) (i : Nat) : List UInt8 := (es.map P.xE).getD i []
theorem xEs_map : ∀ es : List EX, P.xEs es = es.map P.xE
  | [] => rfl
  | e :: es => by simp [P.xEs, xEs_map es]
end Go.Proofs.YtchokfgffnomoaaDoor.Lx
