/-
  What the document's answer tells of what expressions come to, as contracts.
-/
import Derived.Test.YtlgnagmmljdkiacEVal3
import Derived.Test.YtlgnagmmljdkiacVRef

namespace Go.Proofs.Ytlgnagmmljdkiac.Lx
open Go.RowKit
open P (EX ev ev2 plI jn evA askD askDs szX szL)
set_option maxRecDepth 100000
set_option linter.unusedVariables false
set_option linter.unusedSimpArgs false

theorem askL_take {ks : List EX} {j : Nat} {e : EX} (h : ks[j]? = some e) : askDs (ks.take (j + 1)) = max (askDs (ks.take j)) (askD e) := by
  have hl : ∀ (xs : List EX), askDs (xs ++ [e]) = max (askDs xs) (askD e) := by
    intro xs
    induction xs with
    | nil =>
      have h0 : askDs [] = 0 := by rw [P.askDs]
      rw [List.nil_append, h0, P.askDs, h0]
      omega
    | cons x xs ih =>
      rw [List.cons_append, P.askDs, P.askDs, ih]
      omega
  obtain ⟨hj, he⟩ := List.getElem?_eq_some_iff.1 h
  rw [List.take_succ_eq_append_getElem hj, he]
  exact hl _
theorem ask_leaf {o k : Int} {s : List UInt8} {ks : List EX} (h : o = 1 ∨ o = 2) : askD (.mk o k s ks) = 1 := by
  unfold P.askD
  rw [if_pos h]
theorem ask_in {o k : Int} {s : List UInt8} {ks : List EX} (h : ¬ (o = 1 ∨ o = 2)) : askD (.mk o k s ks) = askDs ks + 1 := by
  unfold P.askD
  rw [if_neg h]
/-- What asked tells. -/
def AskTo (d : Nat) (w : World) (e : Ending) (w' : World) : Prop := e = .returned (.int .i64 (d : Nat)) ∧ Below w.heap.size w w'
end Go.Proofs.Ytlgnagmmljdkiac.Lx
