/-
  Of layer 5's statements: that wrap has begun.
-/
import Derived.Test.YtncbbcfcjpkjhaaVRef
namespace Go.Proofs.Ytncbbcfcjpkjhaa.Wr
open Go.RowKit
set_option linter.unusedVariables false
set_option maxHeartbeats 1000000 in
theorem begun_any (w : World) : Calls Try.prog 7 #[] w fun e w' => e = .returned (.bool true) ∧ w = w' := by
  go_enter Try.func7, Try.ntmps7
  go_wp2_with fail
  with_reducible refine (in_any (-1) 3 _ (I64.mk (by omega) (by omega))).mono ?_
  rintro e w' ⟨rfl, rfl⟩
  rw [show V.inI (-1) 3 = 2 by decide +kernel]
  go_wp2_with fail
  with_reducible refine (mul_any 5 7 4 _ (I64.mk (by omega) (by omega)) (I64.mk (by omega) (by omega))).mono ?_
  rintro e w' ⟨rfl, rfl⟩
  rw [show V.mulI 5 7 4 = 3 by decide +kernel]
  go_wp2_with fail
  with_reducible refine (add_any 2 2 3 _ (I64.mk (by omega) (by omega)) (I64.mk (by omega) (by omega))).mono ?_
  rintro e w' ⟨rfl, rfl⟩
  rw [show V.addI 2 2 3 = 1 by decide +kernel]
  go_wp2_with fail
  with_reducible refine (sub_any 0 1 4 _ (I64.mk (by omega) (by omega)) (I64.mk (by omega) (by omega))).mono ?_
  rintro e w' ⟨rfl, rfl⟩
  rw [show V.subI 0 1 4 = 3 by decide +kernel]
  go_wp2_with fail
  with_reducible refine (power_any 2 62 _ (I64.mk (by omega) (by omega)) (I64.mk (by omega) (by omega))).mono ?_
  rintro e w' ⟨rfl, rfl⟩
  rw [show V.powI 2 62 = 4611686018427387904 by decide +kernel]
  go_wp2_with fail
  with_reducible refine (power_any 3 0 _ (I64.mk (by omega) (by omega)) (I64.mk (by omega) (by omega))).mono ?_
  rintro e w' ⟨rfl, rfl⟩
  rw [show V.powI 3 0 = 1 by decide +kernel]
  go_wp2_with fail
  with_reducible refine (times_any 4611686018427387904 0 _ (I64.mk (by omega) (by omega)) (I64.mk (by omega) (by omega))).mono ?_
  rintro e w' ⟨rfl, rfl⟩
  rw [show V.timesI 4611686018427387904 0 = 0 by decide +kernel]
  go_wp2_with fail
  with_reducible refine (plus_any (-5) 7 _ (I64.mk (by omega) (by omega)) (I64.mk (by omega) (by omega))).mono ?_
  rintro e w' ⟨rfl, rfl⟩
  rw [show V.plusI (-5) 7 = 7 by decide +kernel]
  go_wp2_with fail
  go_ret
  exact ⟨rfl, rfl⟩
end Go.Proofs.Ytncbbcfcjpkjhaa.Wr
