/-
  What the functions of package wrap tell whose numbers stop, as contracts: each returns what the plain function of the same kind says, and leaves the world as it was.
-/
import Derived.Test.YtncbbcfcjpkjhaaVLeaf
namespace Go.Proofs.Ytncbbcfcjpkjhaa.Wr
open Go.RowKit
set_option linter.unusedVariables false
theorem minmax (v : Int) : min (max v 0) 4611686018427387904 = V.at0 v := by
  unfold V.at0 V.top
  split
  · omega
  · split <;> omega
set_option maxHeartbeats 400000 in
theorem held_any (v : Int) (w : World) (hv : I64 v) :
    Calls Try.prog 30 #[.int .i64 v] w fun e w' => e = .returned (.int .i64 (V.at0 v)) ∧ w = w' := by
  have H := Lib.hid (minmax v)
  go_enter Try.func30, Try.ntmps30
  go_wp2_with fail
  all_goals
    go_ret
    refine ⟨ret_int ?_, rfl⟩
    rw [← H.out]
    omega
set_option maxHeartbeats 400000 in
theorem plusN_any (a b : Int) (w : World) (ha : Held a) (hb : Held b) :
    Calls Try.prog 26 #[.int .i64 a, .int .i64 b] w fun e w' => e = .returned (.int .i64 (V.stop (a + b))) ∧ w = w' := by
  obtain ⟨ha0, ha1⟩ := ha
  obtain ⟨hb0, hb1⟩ := hb
  by_cases h : 4611686018427387904 - b < a
  · have H := Lib.hid (V.stop_more (v := a + b) (by unfold V.top; omega))
    go_enter Try.func26, Try.ntmps26
    go_wp2_with fail
    go_ret
    exact ⟨ret_int H.out.symm, rfl⟩
  · have H := Lib.hid (V.stop_less (v := a + b) (by unfold V.top; omega))
    go_enter Try.func26, Try.ntmps26
    go_wp2_with fail
    go_ret
    exact ⟨ret_int H.out.symm, rfl⟩
set_option maxHeartbeats 400000 in
theorem timesN_any (a b : Int) (w : World) (ha : Held a) (hb : Held b) :
    Calls Try.prog 28 #[.int .i64 a, .int .i64 b] w fun e w' => e = .returned (.int .i64 (V.stop (a * b))) ∧ w = w' := by
  obtain ⟨ha0, ha1⟩ := ha
  obtain ⟨hb0, hb1⟩ := hb
  have hm0 := Int.mul_nonneg ha0 hb0
  by_cases hb : 0 < b
  · have hd := V.div_gt (a := a) hb
    by_cases h : 4611686018427387904 / b < a
    · have H := Lib.hid (V.stop_more (v := a * b) (hd.1 h))
      clear hd
      go_enter Try.func28, Try.ntmps28
      go_wp2_with fail
      go_ret
      exact ⟨ret_int H.out.symm, rfl⟩
    · have h' : a * b ≤ V.top := by
        have h2 : ¬ V.top < a * b := fun e => h (hd.2 e)
        omega
      have H := Lib.hid (V.stop_less h')
      have HW := Lib.hid (w64 (v := a * b) (by unfold I64; unfold V.top at h'; omega))
      clear hd h' hm0
      go_enter Try.func28, Try.ntmps28
      go_wp2_with fail
      go_ret
      exact ⟨ret_int (by rw [H.out, HW.out]), rfl⟩
  · obtain rfl : b = 0 := by omega
    have H := Lib.hid (V.stop_less (v := 0) (by decide))
    clear hm0
    go_enter Try.func28, Try.ntmps28
    go_wp2_with fail
    go_ret
    exact ⟨ret_int (by rw [H.out]), rfl⟩
/-- A round of the power: how p, a, k stand. -/
def SqR (c : Int) (a k p : Value) : Prop := ∃ x y z : Int, V.SqS c z x y ∧ a = .int .i64 x ∧ k = .int .i64 y ∧ p = .int .i64 z ∧ y ≤ 4611686018427387904
set_option maxHeartbeats 1000000 in
theorem powerN_any (a k : Int) (w : World) (ha : Held a) (hk : Held k) :
    Calls Try.prog 29 #[.int .i64 a, .int .i64 k] w fun e w' => e = .returned (.int .i64 (V.stop (a ^ k.toNat))) ∧ w = w' := by
  have hS := V.SqS.start ha.1 ha.2 hk.1
  have hk1 := hk.2
  generalize V.stop (a ^ k.toNat) = c at hS ⊢
  clear ha hk
  have HS := Lib.hid hS
  clear hS
  go_enter Try.func29, Try.ntmps29
  go_wp2_with fail
  go_loop [0, 1, 5] (SqR c) (fun _ k _ => (intOf k).toNat)
  case atStart => exact ⟨a, k, 1, HS.out, rfl, rfl, rfl, hk1⟩
  case round =>
    clear HS hk1
    obtain ⟨x, y, z, hS, rfl, rfl, rfl, hy⟩ := hrel
    have hx : Held x := ⟨hS.a0, hS.at'⟩
    have hz : Held z := ⟨hS.p0, hS.pt⟩
    have hy0 := hS.k0
    by_cases hlt : 0 < y
    · by_cases ho : y % 2 = 1
      · have HN := Lib.hid (hS.odd ho)
        have HX := Lib.hid hx
        have HZ := Lib.hid hz
        clear hS hx hz
        have hob : (y % 2 == 1) = true := by simpa using ho
        clear ho
        go_wp2_with fail
        with_reducible refine (timesN_any _ _ _ HZ.out HX.out).mono ?_
        rintro e w' ⟨rfl, rfl⟩
        go_wp2_with fail
        with_reducible refine (timesN_any _ _ _ HX.out HX.out).mono ?_
        rintro e w' ⟨rfl, rfl⟩
        go_wp2_with fail
        go_round
        case rel => exact ⟨_, _, _, HN.out, rfl, rfl, rfl, by omega⟩
        case measure => simp [intOf]; omega
      · have HN := Lib.hid (hS.even (by omega))
        have HX := Lib.hid hx
        clear hS hx hz
        have hob : (y % 2 == 1) = false := by simpa using ho
        clear ho
        go_wp2_with fail
        with_reducible refine (timesN_any _ _ _ HX.out HX.out).mono ?_
        rintro e w' ⟨rfl, rfl⟩
        go_wp2_with fail
        go_round
        case rel => exact ⟨_, _, _, HN.out, rfl, rfl, rfl, by omega⟩
        case measure => simp [intOf]; omega
    · have HE := Lib.hid (hS.done (by omega))
      clear hS hx hz
      go_wp2_with fail
      go_ret
      exact ⟨ret_int HE.out, rfl⟩
set_option maxHeartbeats 400000 in
theorem stop_plus (a b : Int) (w : World) (ha : I64 a) (hb : I64 b) :
    Calls Try.prog 25 #[.int .i64 a, .int .i64 b, .func (.func 26) #[] #[]] w fun e w' => e = .returned (.int .i64 (V.plusI a b)) ∧ w = w' := by
  have H := Lib.hid (show V.stop (V.at0 a + V.at0 b) = V.plusI a b from rfl)
  have h1 := held_at0 a
  have h2 := held_at0 b
  go_enter Try.func25, Try.ntmps25
  go_wp2_with fail
  with_reducible refine (held_any _ _ ha).mono ?_
  rintro e w' ⟨rfl, rfl⟩
  go_wp2_with fail
  with_reducible refine (held_any _ _ hb).mono ?_
  rintro e w' ⟨rfl, rfl⟩
  go_wp2_with fail
  refine (plusN_any _ _ _ h1 h2).mono ?_
  rintro e w' ⟨rfl, rfl⟩
  go_wp2_with fail
  go_ret
  exact ⟨ret_int H.out, rfl⟩
set_option maxHeartbeats 400000 in
theorem plus_any (a b : Int) (w : World) (ha : I64 a) (hb : I64 b) :
    Calls Try.prog 14 #[.int .i64 a, .int .i64 b] w fun e w' => e = .returned (.int .i64 (V.plusI a b)) ∧ w = w' := by
  go_enter Try.func14, Try.ntmps14
  go_wp2_with fail
  with_reducible refine (stop_plus _ _ _ ha hb).mono ?_
  rintro e w' ⟨rfl, rfl⟩
  go_wp2_with fail
  go_ret
  exact ⟨rfl, rfl⟩
set_option maxHeartbeats 400000 in
theorem stop_times (a b : Int) (w : World) (ha : I64 a) (hb : I64 b) :
    Calls Try.prog 25 #[.int .i64 a, .int .i64 b, .func (.func 28) #[] #[]] w fun e w' => e = .returned (.int .i64 (V.timesI a b)) ∧ w = w' := by
  have H := Lib.hid (show V.stop (V.at0 a * V.at0 b) = V.timesI a b from rfl)
  have h1 := held_at0 a
  have h2 := held_at0 b
  go_enter Try.func25, Try.ntmps25
  go_wp2_with fail
  with_reducible refine (held_any _ _ ha).mono ?_
  rintro e w' ⟨rfl, rfl⟩
  go_wp2_with fail
  with_reducible refine (held_any _ _ hb).mono ?_
  rintro e w' ⟨rfl, rfl⟩
  go_wp2_with fail
  refine (timesN_any _ _ _ h1 h2).mono ?_
  rintro e w' ⟨rfl, rfl⟩
  go_wp2_with fail
  go_ret
  exact ⟨ret_int H.out, rfl⟩
set_option maxHeartbeats 400000 in
theorem times_any (a b : Int) (w : World) (ha : I64 a) (hb : I64 b) :
    Calls Try.prog 16 #[.int .i64 a, .int .i64 b] w fun e w' => e = .returned (.int .i64 (V.timesI a b)) ∧ w = w' := by
  go_enter Try.func16, Try.ntmps16
  go_wp2_with fail
  with_reducible refine (stop_times _ _ _ ha hb).mono ?_
  rintro e w' ⟨rfl, rfl⟩
  go_wp2_with fail
  go_ret
  exact ⟨rfl, rfl⟩
set_option maxHeartbeats 400000 in
theorem stop_power (a b : Int) (w : World) (ha : I64 a) (hb : I64 b) :
    Calls Try.prog 25 #[.int .i64 a, .int .i64 b, .func (.func 29) #[] #[]] w fun e w' => e = .returned (.int .i64 (V.powI a b)) ∧ w = w' := by
  have H := Lib.hid (show V.stop (V.at0 a ^ (V.at0 b).toNat) = V.powI a b from V.pow_held a b)
  have h1 := held_at0 a
  have h2 := held_at0 b
  go_enter Try.func25, Try.ntmps25
  go_wp2_with fail
  with_reducible refine (held_any _ _ ha).mono ?_
  rintro e w' ⟨rfl, rfl⟩
  go_wp2_with fail
  with_reducible refine (held_any _ _ hb).mono ?_
  rintro e w' ⟨rfl, rfl⟩
  go_wp2_with fail
  refine (powerN_any _ _ _ h1 h2).mono ?_
  rintro e w' ⟨rfl, rfl⟩
  go_wp2_with fail
  go_ret
  exact ⟨ret_int H.out, rfl⟩
set_option maxHeartbeats 400000 in
theorem power_any (a b : Int) (w : World) (ha : I64 a) (hb : I64 b) :
    Calls Try.prog 18 #[.int .i64 a, .int .i64 b] w fun e w' => e = .returned (.int .i64 (V.powI a b)) ∧ w = w' := by
  go_enter Try.func18, Try.ntmps18
  go_wp2_with fail
  with_reducible refine (stop_power _ _ _ ha hb).mono ?_
  rintro e w' ⟨rfl, rfl⟩
  go_wp2_with fail
  go_ret
  exact ⟨rfl, rfl⟩
end Go.Proofs.Ytncbbcfcjpkjhaa.Wr
