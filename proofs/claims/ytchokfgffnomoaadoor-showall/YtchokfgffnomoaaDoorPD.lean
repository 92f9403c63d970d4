/-
  What both and cond of the document's cursor tell, as contracts.
-/
import Derived.Test.YtchokfgffnomoaaDoorPC
namespace Go.Proofs.YtchokfgffnomoaaDoor.Lx
open Go.RowKit
open L (Tok)
open P (CO)
set_option maxRecDepth 100000
set_option linter.unusedVariables false
set_option linter.unusedSimpArgs false
theorem manyL_stop (one : List Tok → P.Res CO) (word : List UInt8) (op : Int) (f : Nat) (x : CO) {ts : List Tok} (h : P.isS word ts = false) : P.manyL one word op f x ts = .ok (x, ts) := by
  cases f with
  | zero => rfl
  | succ f =>
    unfold P.manyL
    rw [h]
    rfl
theorem manyL_more (one : List Tok → P.Res CO) (word : List UInt8) (op : Int) (f : Nat) (x : CO) {ts : List Tok} (h : P.isS word ts = true) : P.manyL one word op (f + 1) x ts = (match one ts.tail with
      | .error p => .error p
      | .ok (a, r) => P.manyL one word op f (.mk op 0 [] 0 [x, a]) r) := by
  conv => lhs; unfold P.manyL
  rw [h, if_pos rfl]
  rfl
end Go.Proofs.YtchokfgffnomoaaDoor.Lx
/-
  What one of the document's cursor tells, as a contract.
-/
namespace Go.Proofs.YtchokfgffnomoaaDoor.Lx
open Go.RowKit
open L (Tok)
open P (CO)
set_option maxRecDepth 100000
set_option linter.unusedVariables false
set_option linter.unusedSimpArgs false
end Go.Proofs.YtchokfgffnomoaaDoor.Lx
/-
  What one and cond of the document's cursor tell, as contracts; cond by the plain reader.
-/
namespace Go.Proofs.YtchokfgffnomoaaDoor.Lx
open Go.RowKit
open L (Tok)
open P (CO)
set_option maxRecDepth 100000
set_option linter.unusedVariables false
set_option linter.unusedSimpArgs false
end Go.Proofs.YtchokfgffnomoaaDoor.Lx
