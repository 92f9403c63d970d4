/-
  What the functions of package wrap tell, as contracts: each returns what the plain function of the same kind says, and leaves the world as it was.
-/
import Derived.Test.YtchokfgffnomoaaDoorRows
import Derived.Test.YtchokfgffnomoaaDoorVMath
import Derived.WalkKit
import Derived.WalkSpells
import Derived.WalkLawsBesides
import Derived.IntWalk
import Derived.Lib.Hide
import Derived.Deep.Light
namespace Go.Proofs.YtchokfgffnomoaaDoor.Wr
open Go.RowKit
set_option linter.unusedVariables false
theorem ret_int {k : IntKind} {a b : Int} (h : a = b) : Ending.returned (.int k a) = .returned (.int k b) := by rw [h]
theorem ret_bool {a b : Bool} (h : a = b) : Ending.returned (.bool a) = .returned (.bool b) := by rw [h]
/-- A number of 64 bits. -/
def I64 (v : Int) : Prop := -9223372036854775808 ≤ v ∧ v ≤ 9223372036854775807
theorem I64.mk {v : Int} (h : -9223372036854775808 ≤ v) (h' : v ≤ 9223372036854775807) : I64 v := ⟨h, h'⟩
theorem w64 {v : Int} (h : I64 v) : wrap64 v = v := IntWalk.wrap64_in _ (by unfold I64 at h; omega)
/-- A number that numbers stop at, or one below it. -/
def Held (v : Int) : Prop := 0 ≤ v ∧ v ≤ 4611686018427387904
theorem Held.i64 {v : Int} (h : Held v) : I64 v := by unfold Held at h; unfold I64; omega
theorem held_at0 (v : Int) : Held (V.at0 v) := V.at0_bd v
theorem held_stop {v : Int} (h : 0 ≤ v) : Held (V.stop v) := V.stop_bd h
theorem in_i64 (v n : Int) : I64 (V.inI v n) := by
  have := V.inI_in v n
  unfold I64
  omega

theorem sum_i64 (a b : Int) (ha : 0 ≤ a ∧ a ≤ 2147483647) (hb : 0 ≤ b ∧ b ≤ 2147483647) : I64 (a + b) := by
  have hm : I64 (a + b) := by
    unfold I64
    omega
  exact hm
theorem less_i64 (a b : Int) (ha : 0 ≤ a ∧ a ≤ 2147483647) (hb : 0 ≤ b ∧ b ≤ 2147483647) : I64 (a - b) := by
  have hm : I64 (a - b) := by
    unfold I64
    omega
  exact hm
theorem product_i64 (a b : Int) (ha : 0 ≤ a ∧ a ≤ 2147483647) (hb : 0 ≤ b ∧ b ≤ 2147483647) : I64 (a * b) := by
  have hm : I64 (a * b) := by
    have h1 : 0 ≤ a * b := Int.mul_nonneg ha.1 hb.1
    have h2 : a * b ≤ 2147483647 * b := Int.mul_le_mul_of_nonneg_right ha.2 hb.1
    have := hb.2
    unfold I64
    omega
  exact hm
end Go.Proofs.YtchokfgffnomoaaDoor.Wr
