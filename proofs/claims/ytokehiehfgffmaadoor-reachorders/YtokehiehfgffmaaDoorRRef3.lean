/-
  What the reference's Two answers, as a contract: the same list of rows as that of package rel.
-/
import Derived.Test.YtokehiehfgffmaaDoorRRef
namespace Go.Proofs.YtokehiehfgffmaaDoor
open Go.RowKit
set_option linter.unusedVariables false
set_option linter.unusedSimpArgs false

theorem rand_bits (xs ys : List Nat) (hwx : R.Words xs) (hwy : R.Words ys) (hal : R.alikeR xs ys = true) : Bits xs.length (R.andR xs ys) (fun i j => (R.row xs i).testBit j = true ∧ (R.row ys i).testBit j = true) := by
  unfold R.andR
  rw [if_pos hal]
  refine Bits.tab (fun i _ => Nat.lt_of_le_of_lt Nat.and_le_left (hwx i)) fun i j hi hj => ?_
  rw [Nat.testBit_and, Bool.and_eq_true]

theorem ror_bits (xs ys : List Nat) (hwx : R.Words xs) (hwy : R.Words ys) (hal : R.alikeR xs ys = true) : Bits xs.length (R.orR xs ys) (fun i j => (R.row xs i).testBit j = true ∨ (R.row ys i).testBit j = true) := by
  unfold R.orR
  rw [if_pos hal]
  refine Bits.tab (fun i _ => Nat.or_lt_two_pow (hwx i) (hwy i)) fun i j hi hj => ?_
  rw [Nat.testBit_or, Bool.or_eq_true]

theorem rless_bits (xs ys : List Nat) (hwx : R.Words xs) (hwy : R.Words ys) (hal : R.alikeR xs ys = true) : Bits xs.length (R.lessR xs ys) (fun i j => (R.row xs i).testBit j = true ∧ ¬ (R.row ys i).testBit j = true) := by
  unfold R.lessR
  rw [if_pos hal]
  refine Bits.tab (fun i _ => M.lessN_lt _ _ (hwx i)) fun i j hi hj => ?_
  rw [M.lessN_testBit _ _ _ (hwx i) (hwy i)]
  simp

end Go.Proofs.YtokehiehfgffmaaDoor
