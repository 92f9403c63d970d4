/-
  WrapRing walked: whatever the four numbers, it returns true.
-/
import Derived.Test.YtncbbcfcjpkjhaaVBegun
namespace Go.Proofs.Ytncbbcfcjpkjhaa.Wr
open Go.RowKit
set_option linter.unusedVariables false
set_option maxHeartbeats 2000000 in
set_option maxRecDepth 100000 in
theorem ring_law (a b c k : Int) (w : World) (wa : (Lit.int .i64 a).wf = true) (wb : (Lit.int .i64 b).wf = true) (wc : (Lit.int .i64 c).wf = true) (wk : (Lit.int .u16 k).wf = true) : Calls Try.prog 4 #[.int .i64 a, .int .i64 b, .int .i64 c, .int .u16 k] w fun e w' => e = .returned (.bool true) ∧ Below w.heap.size w w' := by
  have ha : I64 a := i64_of wa
  have hb : I64 b := i64_of wb
  have hc : I64 c := i64_of wc
  obtain ⟨k0, k1⟩ := bounds_u16 wk
  have hA := V.inI_bd (v := a + b) (n := (k + 1)) (by omega)
  have hA0 : 0 ≤ V.addI a b (k + 1) := hA.1
  have hA1 : V.addI a b (k + 1) < (k + 1) := hA.2
  clear hA
  go_enter Try.func4, Try.ntmps4
  go_wp2_with fail
  with_reducible refine (begun_any _).mono ?_
  rintro e w' ⟨rfl, rfl⟩
  go_wp2_with fail
  with_reducible refine (add_any _ _ _ _ ha hb).mono ?_
  rintro e w' ⟨rfl, rfl⟩
  go_wp2_with fail
  with_reducible refine (add_any _ _ _ _ hb ha).mono ?_
  rintro e w' ⟨rfl, rfl⟩
  rw [V.add_comm' b a (k + 1)]
  go_wp2_with fail
  with_reducible refine (sub_any _ _ _ _ (addI_i64 a b _) hb).mono ?_
  rintro e w' ⟨rfl, rfl⟩
  rw [V.sub_add']
  go_wp2_with fail
  with_reducible refine (in_any _ _ _ ha).mono ?_
  rintro e w' ⟨rfl, rfl⟩
  go_wp2_with fail
  with_reducible refine (mul_any _ _ _ _ ha hb).mono ?_
  rintro e w' ⟨rfl, rfl⟩
  go_wp2_with fail
  with_reducible refine (mul_any _ _ _ _ hb ha).mono ?_
  rintro e w' ⟨rfl, rfl⟩
  rw [V.mul_comm' b a (k + 1)]
  go_wp2_with fail
  with_reducible refine (add_any _ _ _ _ ha hb).mono ?_
  rintro e w' ⟨rfl, rfl⟩
  go_wp2_with fail
  with_reducible refine (add_any _ _ _ _ (addI_i64 a b _) hc).mono ?_
  rintro e w' ⟨rfl, rfl⟩
  rw [V.add_assoc']
  go_wp2_with fail
  with_reducible refine (add_any _ _ _ _ hb hc).mono ?_
  rintro e w' ⟨rfl, rfl⟩
  go_wp2_with fail
  with_reducible refine (add_any _ _ _ _ ha (addI_i64 b c _)).mono ?_
  rintro e w' ⟨rfl, rfl⟩
  go_wp2_with fail
  with_reducible refine (mul_any _ _ _ _ ha hb).mono ?_
  rintro e w' ⟨rfl, rfl⟩
  go_wp2_with fail
  with_reducible refine (mul_any _ _ _ _ (mulI_i64 a b _) hc).mono ?_
  rintro e w' ⟨rfl, rfl⟩
  rw [V.mul_assoc']
  go_wp2_with fail
  with_reducible refine (mul_any _ _ _ _ hb hc).mono ?_
  rintro e w' ⟨rfl, rfl⟩
  go_wp2_with fail
  with_reducible refine (mul_any _ _ _ _ ha (mulI_i64 b c _)).mono ?_
  rintro e w' ⟨rfl, rfl⟩
  go_wp2_with fail
  with_reducible refine (add_any _ _ _ _ hb hc).mono ?_
  rintro e w' ⟨rfl, rfl⟩
  go_wp2_with fail
  with_reducible refine (mul_any _ _ _ _ ha (addI_i64 b c _)).mono ?_
  rintro e w' ⟨rfl, rfl⟩
  rw [V.mul_add']
  go_wp2_with fail
  with_reducible refine (mul_any _ _ _ _ ha hb).mono ?_
  rintro e w' ⟨rfl, rfl⟩
  go_wp2_with fail
  with_reducible refine (mul_any _ _ _ _ ha hc).mono ?_
  rintro e w' ⟨rfl, rfl⟩
  go_wp2_with fail
  with_reducible refine (add_any _ _ _ _ (mulI_i64 a b _) (mulI_i64 a c _)).mono ?_
  rintro e w' ⟨rfl, rfl⟩
  go_wp2_with fail
  with_reducible refine (in_any _ _ _ ha).mono ?_
  rintro e w' ⟨rfl, rfl⟩
  go_wp2_with fail
  with_reducible refine (in_any _ _ _ (in_i64 a _)).mono ?_
  rintro e w' ⟨rfl, rfl⟩
  rw [V.in_in]
  go_wp2_with fail
  with_reducible refine (in_any _ _ _ ha).mono ?_
  rintro e w' ⟨rfl, rfl⟩
  go_wp2_with fail
  with_reducible refine (mul_any _ _ _ _ ha (I64.mk (by omega) (by omega))).mono ?_
  rintro e w' ⟨rfl, rfl⟩
  rw [V.mul_one']
  go_wp2_with fail
  with_reducible refine (in_any _ _ _ ha).mono ?_
  rintro e w' ⟨rfl, rfl⟩
  go_wp2_with fail
  go_ret
  exact ⟨rfl, Below.refl _ _⟩
end Go.Proofs.Ytncbbcfcjpkjhaa.Wr
