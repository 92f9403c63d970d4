/-
  What SameCond of the document's answer tells of conditions that are alike, as a contract.
-/
import Derived.Test.YtchokfgffnomoaaDoorPC
import Derived.Deep.RegionHeld3
namespace Go.Proofs.YtchokfgffnomoaaDoor.Lx
open Go.RowKit
open P (CO)
set_option linter.unusedVariables false
set_option linter.unusedSimpArgs false
/-- A kid's cells, and that it lies there. -/
theorem LCs.at {Q : Nat → Prop} {w : World} : ∀ (es : List CO) {g off : Nat}, LCs Q w g off es → ∀ i, i < es.length → ∃ e c0 c1 c2 c3 c4, es[i]? = some e ∧ w.cell? ⟨g, off + i * 5, none⟩ = some c0 ∧ w.cell? ⟨g, off + i * 5 + 1, none⟩ = some c1 ∧ w.cell? ⟨g, off + i * 5 + 2, none⟩ = some c2 ∧ w.cell? ⟨g, off + i * 5 + 3, none⟩ = some c3 ∧ w.cell? ⟨g, off + i * 5 + 4, none⟩ = some c4 ∧ LC Q w (.agg #[c0, c1, c2, c3, c4]) e
  | [], g, off, h, i, hi => by simp at hi
  | x :: es, g, off, h, 0, hi => by
    unfold LCs at h
    obtain ⟨⟨c0, c1, c2, c3, c4, h0, h1, h2, h3, h4, hx⟩, _⟩ := h
    exact ⟨x, c0, c1, c2, c3, c4, rfl, by simpa using h0, by simpa using h1, by simpa using h2, by simpa using h3, by simpa using h4, hx⟩
  | x :: es, g, off, h, i + 1, hi => by
    unfold LCs at h
    obtain ⟨_, hs⟩ := h
    obtain ⟨e, c0, c1, c2, c3, c4, he, h0, h1, h2, h3, h4, hx⟩ := LCs.at es hs i (by simpa using hi)
    refine ⟨e, c0, c1, c2, c3, c4, by simpa using he, ?_, ?_, ?_, ?_, ?_, hx⟩
    · rw [show off + (i + 1) * 5 = off + 5 + i * 5 by omega]; exact h0
    · rw [show off + (i + 1) * 5 + 1 = off + 5 + i * 5 + 1 by omega]; exact h1
    · rw [show off + (i + 1) * 5 + 2 = off + 5 + i * 5 + 2 by omega]; exact h2
    · rw [show off + (i + 1) * 5 + 3 = off + 5 + i * 5 + 3 by omega]; exact h3
    · rw [show off + (i + 1) * 5 + 4 = off + 5 + i * 5 + 4 by omega]; exact h4
def CO.size : CO → Nat
  | .mk _ _ _ _ ks => 1 + sizeL ks
where sizeL : List CO → Nat
  | [] => 0
  | e :: es => CO.size e + sizeL es
theorem sizec_mem : ∀ (es : List CO) (i : Nat) (e : CO), es[i]? = some e → CO.size e ≤ CO.size.sizeL es
  | [], i, e, h => by simp at h
  | x :: es, 0, e, h => by
    simp at h
    subst h
    unfold CO.size.sizeL
    omega
  | x :: es, i + 1, e, h => by
    have := sizec_mem es i e (by simpa using h)
    unfold CO.size.sizeL
    omega
theorem LC.drew {Q : Nat → Prop} {w : World} {v : Value} {e : CO} (h : LC Q w v e) : LC Q w.drew v e := LC.keep (w := w) (w' := w.drew) (fun g hg hl => rfl) e h
end Go.Proofs.YtchokfgffnomoaaDoor.Lx
