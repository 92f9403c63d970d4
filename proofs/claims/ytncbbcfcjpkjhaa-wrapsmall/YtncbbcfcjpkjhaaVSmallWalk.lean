/-
  WrapSmall walked: whatever the three small numbers, it returns true.
-/
import Derived.Test.YtncbbcfcjpkjhaaVBegun
import Derived.Deep.QuietTactic
import Derived.BigQuiet
namespace Go.Proofs.Ytncbbcfcjpkjhaa.Wr
open Go.RowKit
set_option linter.unusedVariables false
theorem quiet_is {P : Program} {f : FuncId} {args : Array Value} {w : World} {n : Nat} {v : Value}
    (h : Calls P f args (w.drewN n) fun e w' => e = .returned v ∧ w.drewN n = w') : Calls P f args (w.drewN n) fun e w'' => e = .returned v ∧ ∃ m, w'' = w.drewN m :=
  h.mono fun _ _ ⟨he, hm⟩ => ⟨he, n, hm.symm⟩
theorem below_drewN (w : World) (n : Nat) : Below w.heap.size w (w.drewN n) := by
  have h := Below.refl w.heap.size w
  exact ⟨h.os, h.tape, h.output, h.size, h.block⟩
/-- A small number is a number of 64 bits. -/
theorem i64_small {x : Int} (h : -100000000000 ≤ x) (h' : x ≤ 100000000000) : I64 x := I64.mk (by omega) (by omega)
theorem sub_add_any (a b n : Int) (w : World) (ha : I64 a) (hb : I64 b) :
    Calls Try.prog 11 #[.int .i64 a, .int .i64 b, .int .i64 n] w fun e w' => e = .returned (.int .i64 (V.addI a (-b) n)) ∧ w = w' := by
  rw [← V.sub_neg']
  exact sub_any a b n w ha hb
theorem plus_small (a b : Int) (w : World) (a0 : 0 ≤ a) (a1 : a ≤ 32767) (b0 : 0 ≤ b) (b1 : b ≤ 32767) :
    Calls Try.prog 14 #[.int .i64 a, .int .i64 b] w fun e w' => e = .returned (.int .i64 (a + b)) ∧ w = w' := by
  have e : V.plusI a b = a + b := by
    unfold V.plusI
    rw [V.at0_id a0 (by unfold V.top; omega), V.at0_id b0 (by unfold V.top; omega), V.stop_less (by unfold V.top; omega)]
  rw [← e]
  exact plus_any a b w (i64_small (by omega) (by omega)) (i64_small (by omega) (by omega))
theorem prod_small {a b : Int} (a0 : 0 ≤ a) (a1 : a ≤ 32767) (b0 : 0 ≤ b) (b1 : b ≤ 32767) : 0 ≤ a * b ∧ a * b ≤ 1073676289 := by
  have h1 := Int.mul_nonneg a0 b0
  have h2 : a * b ≤ 32767 * b := Int.mul_le_mul_of_nonneg_right a1 b0
  omega
theorem times_small (a b : Int) (w : World) (a0 : 0 ≤ a) (a1 : a ≤ 32767) (b0 : 0 ≤ b) (b1 : b ≤ 32767) :
    Calls Try.prog 16 #[.int .i64 a, .int .i64 b] w fun e w' => e = .returned (.int .i64 (a * b)) ∧ w = w' := by
  have hp := prod_small a0 a1 b0 b1
  have e : V.timesI a b = a * b := by
    unfold V.timesI
    rw [V.at0_id a0 (by unfold V.top; omega), V.at0_id b0 (by unfold V.top; omega), V.stop_less (by unfold V.top; omega)]
  rw [← e]
  exact times_any a b w (i64_small (by omega) (by omega)) (i64_small (by omega) (by omega))
/-- What the loop leaves: the sum, some rounds on. -/
def SmR (x y n : Int) (s : Value) : Prop := ∃ t : Int, -65536 ≤ t ∧ t ≤ 1000000 ∧ t % n = V.addI x y n ∧ s = .int .i64 t
theorem sm_start (x y n : Int) (h : 1 ≤ n ∧ n ≤ 256) : (x + y) % n = V.addI x y n := by
  unfold V.addI
  rw [V.inI_ok (by omega)]
theorem sm_step {t n : Int} : (t + n * 1024) % n = t % n := by
  rw [Int.add_mul_emod_self_left]
set_option maxHeartbeats 2000000 in
set_option maxRecDepth 100000 in
theorem small_law (x y k : Int) (w : World) (wx : (Lit.int .i16 x).wf = true) (wy : (Lit.int .i16 y).wf = true) (wk : (Lit.int .u8 k).wf = true) :
    Calls Try.prog 6 #[.int .i16 x, .int .i16 y, .int .u8 k] w fun e w' => e = .returned (.bool true) ∧ Below w.heap.size w w' := by
  obtain ⟨x0, x1⟩ := bounds_i16 wx
  obtain ⟨y0, y1⟩ := bounds_i16 wy
  obtain ⟨k0, k1⟩ := bounds_u8 wk
  have hx : I64 x := i64_small (by omega) (by omega)
  have hy : I64 y := i64_small (by omega) (by omega)
  have hy' : I64 (-y) := i64_small (by omega) (by omega)
  have H0 := Lib.hid (sm_start x y (k + 1) (by omega))
  clear wx wy wk
  go_enter Try.func6, Try.ntmps6
  go_wp2_with fail
  with_reducible refine (begun_any _).mono ?_
  rintro e w' ⟨rfl, rfl⟩
  go_wp2_with fail
  go_loop [10] (SmR x y (k + 1)) (fun s => (-(intOf s)).toNat)
  case atStart => exact ⟨_, by omega, by omega, H0.out, rfl⟩
  case round =>
    obtain ⟨t, t0, t1, ht, rfl⟩ := hrel
    by_cases hneg : t < 0
    · have HN := Lib.hid ht
      clear ht
      go_wp2_with fail
      go_round
      case rel => exact ⟨_, by omega, by omega, by rw [sm_step]; exact HN.out, rfl⟩
      case measure => simp [intOf]; omega
    · have hn1 : ¬ k + 1 = 0 := by omega
      have e1 : t.tmod (k + 1) = V.addI x y (k + 1) := by rw [Int.tmod_eq_emod_of_nonneg (by omega)]; exact ht
      have e2 : IntKind.i64.wrap (-y) = -y := IntWalk.i64_in _ (by omega)
      by_cases hx0 : x < 0
      · have d1 : decide (x < 0) = true := by simpa using hx0
        go_wp2_with fail
        go_quiet (first | ((go_at_call 10; exact quiet_is (add_any _ _ _ _ hx hy))) | ((go_at_call 10; exact quiet_is (add_any _ _ _ _ hx hy'))) | ((go_at_call 11; exact quiet_is (sub_add_any _ _ _ _ hx hy))))
        go_wp2_with fail
        go_ret
        exact ⟨rfl, below_drewN _ _⟩
      · have d1 : decide (x < 0) = false := by simpa using hx0
        by_cases hy0 : y < 0
        · have d2 : decide (y < 0) = true := by simpa using hy0
          go_wp2_with fail
          go_quiet (first | ((go_at_call 10; exact quiet_is (add_any _ _ _ _ hx hy))) | ((go_at_call 10; exact quiet_is (add_any _ _ _ _ hx hy'))) | ((go_at_call 11; exact quiet_is (sub_add_any _ _ _ _ hx hy))))
          go_wp2_with fail
          go_ret
          exact ⟨rfl, below_drewN _ _⟩
        · have d2 : decide (y < 0) = false := by simpa using hy0
          have hp := prod_small (show 0 ≤ x by omega) x1 (show 0 ≤ y by omega) y1
          have e3 : IntKind.i64.wrap (x + y) = x + y := IntWalk.i64_in _ (by omega)
          have e4 : IntKind.i64.wrap (x * y) = x * y := IntWalk.i64_in _ (by omega)
          have e5 : (x * y).tmod (k + 1) = V.mulI x y (k + 1) := by
            rw [Int.tmod_eq_emod_of_nonneg hp.1]
            exact (V.inI_ok (by omega)).symm
          go_wp2_with fail
          go_quiet (first | ((go_at_call 10; exact quiet_is (add_any _ _ _ _ hx hy))) | ((go_at_call 10; exact quiet_is (add_any _ _ _ _ hx hy'))) | ((go_at_call 11; exact quiet_is (sub_add_any _ _ _ _ hx hy))) | ((go_at_call 14; exact quiet_is (plus_small _ _ _ (by omega) x1 (by omega) y1))) | ((go_at_call 16; exact quiet_is (times_small _ _ _ (by omega) x1 (by omega) y1))) | ((go_at_call 12; exact quiet_is (mul_any _ _ _ _ hx hy))))
          go_wp2_with fail
          go_ret
          exact ⟨rfl, below_drewN _ _⟩
end Go.Proofs.Ytncbbcfcjpkjhaa.Wr
