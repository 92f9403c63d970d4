/-
  What the functions of package wrap tell, as contracts: each returns what the plain function of the same kind says, and leaves the world as it was.
-/
import Derived.Test.YtlgnagmmljdkiacRows
import Derived.Test.YtlgnagmmljdkiacVMath
import Derived.WalkKit
import Derived.WalkSpells
import Derived.WalkLawsBesides
import Derived.IntWalk
import Derived.Lib.Hide
import Derived.Deep.Light
namespace Go.Proofs.Ytlgnagmmljdkiac.Wr
open Go.RowKit
set_option linter.unusedVariables false
theorem ret_int {k : IntKind} {a b : Int} (h : a = b) : Ending.returned (.int k a) = .returned (.int k b) := by rw [h]
theorem ret_bool {a b : Bool} (h : a = b) : Ending.returned (.bool a) = .returned (.bool b) := by rw [h]
/-- A number of 64 bits. -/
def I64 (v : Int) : Prop := -9223372036854775808 ≤ v ∧ v ≤ 9223372036854775807
theorem I64.mk {v : Int} (h : -9223372036854775808 ≤ v) (h' : v ≤ 9223372036854775807) : I64 v := ⟨h, h'⟩
theorem w64 {v : Int} (h : I64 v) : wrap64 v = v := IntWalk.wrap64_in _ (by unfold I64 at h; omega)
/-- A number that numbers stop at, or one below it. -/
def Held (v : Int) : Prop := 0 ≤ v ∧ v ≤ 4611686018427387904
theorem Held.i64 {v : Int} (h : Held v) : I64 v := by unfold Held at h; unfold I64; omega
theorem held_at0 (v : Int) : Held (V.at0 v) := V.at0_bd v
theorem held_stop {v : Int} (h : 0 ≤ v) : Held (V.stop v) := V.stop_bd h
theorem in_i64 (v n : Int) : I64 (V.inI v n) := by
  have := V.inI_in v n
  unfold I64
  omega

set_option maxHeartbeats 400000 in
theorem rest_any (v n : Int) (w : World) (hv : I64 v) (h1 : 1 ≤ n) (h2 : n ≤ 2147483648) :
    Calls Try.prog 26 #[.int .i64 v, .int .i64 n] w fun e w' => e = .returned (.int .i64 (v % n)) ∧ w = w' := by
  have H := Lib.hid (V.tmod_in v n h1)
  have hn0 : ¬ n = 0 := by omega
  go_enter Try.func26, Try.ntmps26
  go_wp2_with fail
  · go_ret
    rename_i h
    refine ⟨ret_int ?_, rfl⟩
    have e := H.out
    rw [if_pos h] at e
    have k1 := Int.emod_nonneg v hn0
    have k2 := Int.emod_lt_of_pos v (show 0 < n by omega)
    rw [e]
    exact w64 (by unfold I64; omega)
  · go_ret
    rename_i h
    refine ⟨ret_int ?_, rfl⟩
    rw [← H.out, if_neg (by omega)]
set_option maxHeartbeats 400000 in
theorem in_any (v n : Int) (w : World) (hv : I64 v) :
    Calls Try.prog 18 #[.int .i64 v, .int .i64 n] w fun e w' => e = .returned (.int .i64 (V.inI v n)) ∧ w = w' := by
  by_cases h : 1 ≤ n ∧ n ≤ 2147483648
  · have H := Lib.hid (V.inI_ok (v := v) h)
    obtain ⟨h1, h2⟩ := h
    go_enter Try.func18, Try.ntmps18
    go_wp2_with (go_at_call 26; refine (rest_any _ _ _ hv h1 h2).mono ?_; rintro e w' ⟨rfl, rfl⟩)
    go_ret
    exact ⟨ret_int H.out.symm, rfl⟩
  · have H := Lib.hid (V.inI_no (v := v) h)
    by_cases h1 : 1 ≤ n
    · have h2 : ¬ n ≤ 2147483648 := fun e => h ⟨h1, e⟩
      clear h
      go_enter Try.func18, Try.ntmps18
      go_wp2_with fail
      go_ret
      exact ⟨ret_int H.out.symm, rfl⟩
    · clear h
      go_enter Try.func18, Try.ntmps18
      go_wp2_with fail
      go_ret
      exact ⟨ret_int H.out.symm, rfl⟩
set_option maxHeartbeats 400000 in
theorem sum_any (a b : Int) (w : World) (ha : 0 ≤ a ∧ a ≤ 2147483647) (hb : 0 ≤ b ∧ b ≤ 2147483647) :
    Calls Try.prog 28 #[.int .i64 a, .int .i64 b] w fun e w' => e = .returned (.int .i64 (a + b)) ∧ w = w' := by
  have hm : I64 (a + b) := by
    unfold I64
    omega
  have H := Lib.hid (w64 hm)
  clear hm ha hb
  go_enter Try.func28, Try.ntmps28
  go_wp2_with fail
  go_ret
  exact ⟨ret_int H.out, rfl⟩
theorem sum_i64 (a b : Int) (ha : 0 ≤ a ∧ a ≤ 2147483647) (hb : 0 ≤ b ∧ b ≤ 2147483647) : I64 (a + b) := by
  have hm : I64 (a + b) := by
    unfold I64
    omega
  exact hm
set_option maxHeartbeats 400000 in
theorem round_sum (a b n : Int) (w : World) (ha : I64 a) (hb : I64 b) :
    Calls Try.prog 27 #[.int .i64 a, .int .i64 b, .int .i64 n, .func (.func 28) #[] #[]] w fun e w' => e = .returned (.int .i64 (V.addI a b n)) ∧ w = w' := by
  have H := Lib.hid (V.add_in a b n)
  have h1 := V.inI_in a n
  have h2 := V.inI_in b n
  have h3 := sum_i64 _ _ h1 h2
  go_enter Try.func27, Try.ntmps27
  go_wp2_with fail
  with_reducible refine (in_any _ _ _ ha).mono ?_
  rintro e w' ⟨rfl, rfl⟩
  go_wp2_with fail
  with_reducible refine (in_any _ _ _ hb).mono ?_
  rintro e w' ⟨rfl, rfl⟩
  go_wp2_with fail
  refine (sum_any _ _ _ h1 h2).mono ?_
  rintro e w' ⟨rfl, rfl⟩
  go_wp2_with fail
  with_reducible refine (in_any _ _ _ h3).mono ?_
  rintro e w' ⟨rfl, rfl⟩
  go_wp2_with fail
  go_ret
  exact ⟨ret_int H.out, rfl⟩
set_option maxHeartbeats 400000 in
theorem add_any (a b n : Int) (w : World) (ha : I64 a) (hb : I64 b) :
    Calls Try.prog 21 #[.int .i64 a, .int .i64 b, .int .i64 n] w fun e w' => e = .returned (.int .i64 (V.addI a b n)) ∧ w = w' := by
  go_enter Try.func21, Try.ntmps21
  go_wp2_with fail
  with_reducible refine (round_sum _ _ _ _ ha hb).mono ?_
  rintro e w' ⟨rfl, rfl⟩
  go_wp2_with fail
  go_ret
  exact ⟨rfl, rfl⟩
set_option maxHeartbeats 400000 in
theorem less_any (a b : Int) (w : World) (ha : 0 ≤ a ∧ a ≤ 2147483647) (hb : 0 ≤ b ∧ b ≤ 2147483647) :
    Calls Try.prog 29 #[.int .i64 a, .int .i64 b] w fun e w' => e = .returned (.int .i64 (a - b)) ∧ w = w' := by
  have hm : I64 (a - b) := by
    unfold I64
    omega
  have H := Lib.hid (w64 hm)
  clear hm ha hb
  go_enter Try.func29, Try.ntmps29
  go_wp2_with fail
  go_ret
  exact ⟨ret_int H.out, rfl⟩
theorem less_i64 (a b : Int) (ha : 0 ≤ a ∧ a ≤ 2147483647) (hb : 0 ≤ b ∧ b ≤ 2147483647) : I64 (a - b) := by
  have hm : I64 (a - b) := by
    unfold I64
    omega
  exact hm
set_option maxHeartbeats 400000 in
theorem round_less (a b n : Int) (w : World) (ha : I64 a) (hb : I64 b) :
    Calls Try.prog 27 #[.int .i64 a, .int .i64 b, .int .i64 n, .func (.func 29) #[] #[]] w fun e w' => e = .returned (.int .i64 (V.subI a b n)) ∧ w = w' := by
  have H := Lib.hid (V.sub_in a b n)
  have h1 := V.inI_in a n
  have h2 := V.inI_in b n
  have h3 := less_i64 _ _ h1 h2
  go_enter Try.func27, Try.ntmps27
  go_wp2_with fail
  with_reducible refine (in_any _ _ _ ha).mono ?_
  rintro e w' ⟨rfl, rfl⟩
  go_wp2_with fail
  with_reducible refine (in_any _ _ _ hb).mono ?_
  rintro e w' ⟨rfl, rfl⟩
  go_wp2_with fail
  refine (less_any _ _ _ h1 h2).mono ?_
  rintro e w' ⟨rfl, rfl⟩
  go_wp2_with fail
  with_reducible refine (in_any _ _ _ h3).mono ?_
  rintro e w' ⟨rfl, rfl⟩
  go_wp2_with fail
  go_ret
  exact ⟨ret_int H.out, rfl⟩
set_option maxHeartbeats 400000 in
theorem sub_any (a b n : Int) (w : World) (ha : I64 a) (hb : I64 b) :
    Calls Try.prog 22 #[.int .i64 a, .int .i64 b, .int .i64 n] w fun e w' => e = .returned (.int .i64 (V.subI a b n)) ∧ w = w' := by
  go_enter Try.func22, Try.ntmps22
  go_wp2_with fail
  with_reducible refine (round_less _ _ _ _ ha hb).mono ?_
  rintro e w' ⟨rfl, rfl⟩
  go_wp2_with fail
  go_ret
  exact ⟨rfl, rfl⟩
theorem product_i64 (a b : Int) (ha : 0 ≤ a ∧ a ≤ 2147483647) (hb : 0 ≤ b ∧ b ≤ 2147483647) : I64 (a * b) := by
  have hm : I64 (a * b) := by
    have h1 : 0 ≤ a * b := Int.mul_nonneg ha.1 hb.1
    have h2 : a * b ≤ 2147483647 * b := Int.mul_le_mul_of_nonneg_right ha.2 hb.1
    have := hb.2
    unfold I64
    omega
  exact hm
end Go.Proofs.Ytlgnagmmljdkiac.Wr
