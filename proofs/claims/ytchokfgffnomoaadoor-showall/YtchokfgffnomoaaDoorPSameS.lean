/-
  What SameStmts of the document's answer tells of statements that are alike, as a contract.
-/
import Derived.Test.YtchokfgffnomoaaDoorPE
import Derived.Test.YtchokfgffnomoaaDoorPSame
import Derived.Deep.RegionHeld3
namespace Go.Proofs.YtchokfgffnomoaaDoor.Lx
open Go.RowKit
open P (EX ST)
set_option linter.unusedVariables false
set_option linter.unusedSimpArgs false
mutual
def ST.size : ST → Nat
  | .mk _ _ _ _ _ th el => 1 + sizeSs th + sizeSs el
def sizeSs : List ST → Nat
  | [] => 0
  | e :: es => ST.size e + sizeSs es
end
theorem sizes_mem : ∀ (es : List ST) (i : Nat) (e : ST), es[i]? = some e → ST.size e ≤ sizeSs es
  | [], i, e, h => by simp at h
  | x :: es, 0, e, h => by
    simp at h
    subst h
    unfold sizeSs
    omega
  | x :: es, i + 1, e, h => by
    have := sizes_mem es i e (by simpa using h)
    unfold sizeSs
    omega
/-- A slice's row of statements. -/
def RowS (Q : Nat → Prop) (w : World) (a : Option Addr) (es : List ST) : Prop := es = [] ∨ ∃ g off, a = some ⟨g, off, none⟩ ∧ Q g ∧ LSs Q w g off es
theorem RowS.keep {Q : Nat → Prop} {w w' : World} {a : Option Addr} {es : List ST} (h : RowS Q w a es) (hk : Keeps Q w w') : RowS Q w' a es := by
  rcases h with h | ⟨g, off, ha, hg, hs⟩
  · exact .inl h
  · exact .inr ⟨g, off, ha, hg, LSs.keep hk es hg hs⟩
end Go.Proofs.YtchokfgffnomoaaDoor.Lx
