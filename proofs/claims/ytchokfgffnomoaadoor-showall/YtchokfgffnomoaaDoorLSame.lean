/-
  What SameTokens of the document's answer tells of tokens that are alike, as a contract; and how tokens and faults are compared.
-/
import Derived.Test.YtchokfgffnomoaaDoorLMem
import Derived.Laws.StructEq
namespace Go.Proofs.YtchokfgffnomoaaDoor.Lx
open Go.RowKit
set_option maxRecDepth 100000
set_option linter.unusedVariables false
set_option linter.unusedSimpArgs false
/-- A token's four cells, in memory. -/
def Four (w : World) (g o : Nat) (t : L.Tok) : Prop := w.cell? ⟨g, o, none⟩ = some (.int .i64 t.kind) ∧ w.cell? ⟨g, o + 1, none⟩ = some (.string (bs t.text)) ∧ w.cell? ⟨g, o + 2, none⟩ = some (.int .i64 t.n) ∧ w.cell? ⟨g, o + 3, none⟩ = some (.int .i64 t.at')
theorem own_max {w : World} {base : Nat} {t : TypeId} {size n : Nat} {v : Value} {xs : List Value} (h : w.ownsRow base t size v n xs) : n ≤ maxLen := by
  rcases h.2 with ⟨_, rfl⟩ | ⟨g, cap, cur, _, _, _, hn, hm, _⟩
  · exact Nat.zero_le _
  · omega
/-- A Bool is told; orders may be drawn. -/
def SameTo (b : Bool) (w : World) (e : Ending) (w' : World) : Prop := e = .returned (.bool b) ∧ ∃ n, w' = w.drewN n
end Go.Proofs.YtchokfgffnomoaaDoor.Lx
