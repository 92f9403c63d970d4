/-
  What SameExpr of the document's answer tells of expressions that are alike, as a contract.
-/
import Derived.Test.YtchokfgffnomoaaDoorPB
import Derived.Deep.RegionHeld3
namespace Go.Proofs.YtchokfgffnomoaaDoor.Lx
open Go.RowKit
open P (EX)
set_option linter.unusedVariables false
set_option linter.unusedSimpArgs false
/-- A kid's cells, and that it lies there. -/
theorem LXs.at {Q : Nat → Prop} {w : World} : ∀ (es : List EX) {g off : Nat}, LXs Q w g off es → ∀ i, i < es.length → ∃ e c0 c1 c2 c3, es[i]? = some e ∧ w.cell? ⟨g, off + i * 4, none⟩ = some c0 ∧ w.cell? ⟨g, off + i * 4 + 1, none⟩ = some c1 ∧ w.cell? ⟨g, off + i * 4 + 2, none⟩ = some c2 ∧ w.cell? ⟨g, off + i * 4 + 3, none⟩ = some c3 ∧ LX Q w (.agg #[c0, c1, c2, c3]) e
  | [], g, off, h, i, hi => by simp at hi
  | x :: es, g, off, h, 0, hi => by
    unfold LXs at h
    obtain ⟨⟨c0, c1, c2, c3, h0, h1, h2, h3, hx⟩, _⟩ := h
    exact ⟨x, c0, c1, c2, c3, rfl, by simpa using h0, by simpa using h1, by simpa using h2, by simpa using h3, hx⟩
  | x :: es, g, off, h, i + 1, hi => by
    unfold LXs at h
    obtain ⟨_, hs⟩ := h
    obtain ⟨e, c0, c1, c2, c3, he, h0, h1, h2, h3, hx⟩ := LXs.at es hs i (by simpa using hi)
    refine ⟨e, c0, c1, c2, c3, by simpa using he, ?_, ?_, ?_, ?_, hx⟩
    · rw [show off + (i + 1) * 4 = off + 4 + i * 4 by omega]; exact h0
    · rw [show off + (i + 1) * 4 + 1 = off + 4 + i * 4 + 1 by omega]; exact h1
    · rw [show off + (i + 1) * 4 + 2 = off + 4 + i * 4 + 2 by omega]; exact h2
    · rw [show off + (i + 1) * 4 + 3 = off + 4 + i * 4 + 3 by omega]; exact h3
def EX.size : EX → Nat
  | .mk _ _ _ ks => 1 + sizeL ks
where sizeL : List EX → Nat
  | [] => 0
  | e :: es => EX.size e + sizeL es
theorem size_mem : ∀ (es : List EX) (i : Nat) (e : EX), es[i]? = some e → EX.size e ≤ EX.size.sizeL es
  | [], i, e, h => by simp at h
  | x :: es, 0, e, h => by
    simp at h
    subst h
    unfold EX.size.sizeL
    omega
  | x :: es, i + 1, e, h => by
    have := size_mem es i e (by simpa using h)
    unfold EX.size.sizeL
    omega
theorem LX.drew {Q : Nat → Prop} {w : World} {v : Value} {e : EX} (h : LX Q w v e) : LX Q w.drew v e := LX.keep (w := w) (w' := w.drew) (fun g hg hl => rfl) e h
end Go.Proofs.YtchokfgffnomoaaDoor.Lx
