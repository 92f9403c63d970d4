/-
  What the reference's Keep and Back answers, as a contract: the same list of rows as that of package rel.
-/
import Derived.Test.YtokehiehfgffmaaDoorRRef
namespace Go.Proofs.YtokehiehfgffmaaDoor
open Go.RowKit
set_option linter.unusedVariables false
set_option linter.unusedSimpArgs false

theorem rback_bits (xs : List Nat) (hw : R.Words xs) (hm : R.mayR xs = true) : Bits xs.length (R.backR xs) (fun i j => (R.row xs j).testBit i = true) := by
  have hl := R.may_len hm
  unfold R.backR
  rw [if_pos hm]
  refine Bits.tab (fun i _ => R.backN_lt _ _ _) fun i j hi hj => ?_
  rw [R.backN_bit _ _ _ _ hj, List.mem_range]
  exact ⟨fun h => h.2, fun h => ⟨(R.may_bit hw hm h).1, h⟩⟩
theorem rkeep_bits (xs : List Nat) (s : Nat) (hw : R.Words xs) (hm : R.mayR xs = true) (hs : s < 2 ^ 64) : Bits xs.length (R.keepR xs s) (fun i j => (R.row xs i).testBit j = true ∧ s.testBit i = true ∧ s.testBit j = true) := by
  have hl := R.may_len hm
  unfold R.keepR
  rw [if_pos hm]
  refine Bits.tab (fun i _ => ?_) fun i j hi hj => ?_
  · split
    · exact Nat.lt_of_le_of_lt Nat.and_le_left (hw i)
    · decide
  · by_cases h : s.testBit i = true
    · rw [if_pos h, Nat.testBit_and, Bool.and_eq_true]
      exact ⟨fun h' => ⟨h'.1, h, h'.2⟩, fun h' => ⟨h'.1, h'.2.2⟩⟩
    · rw [if_neg h]
      simp [h]
end Go.Proofs.YtokehiehfgffmaaDoor
