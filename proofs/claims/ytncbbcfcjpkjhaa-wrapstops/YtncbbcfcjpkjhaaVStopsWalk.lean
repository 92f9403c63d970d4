/-
  WrapStops walked: whatever the four numbers, it returns true.
-/
import Derived.Test.YtncbbcfcjpkjhaaVBegun
namespace Go.Proofs.Ytncbbcfcjpkjhaa.Wr
open Go.RowKit
set_option linter.unusedVariables false
theorem e_great (m : Int) (h : 62 < m) : (V.powI 2 m == 4611686018427387904) = true := by
  rw [V.two_great m (by omega)]
  decide
theorem e_great' (m : Int) (h : 62 < m) : (V.powI 2 m == wrap64 4611686018427387904) = true := by
  rw [V.two_great m (by omega), w64 (I64.mk (by omega) (by omega))]
  decide
theorem two_wrap (m : Int) (h0 : 0 ≤ m) (h : m ≤ 62) : V.powI 2 m = wrap64 (2 ^ m.toNat) := by
  by_cases h1 : m < 62
  · obtain ⟨e, b0, b1⟩ := V.two_small m h0 h1
    unfold V.top at b1
    rw [e, w64 (I64.mk (by omega) (by omega))]
  · obtain rfl : m = 62 := by omega
    decide +kernel
theorem e_small (m : Int) (h0 : 0 ≤ m) (h : m ≤ 62) : (V.powI 2 m == wrap64 (2 ^ m.toNat)) = true := by
  rw [two_wrap m h0 h]
  simp
theorem e_top (m : Int) (h0 : 0 ≤ m) (h : m ≤ 62) (ht : 4611686018427387904 ≤ wrap64 (2 ^ (if 62 < m then 62 else m).toNat)) : (V.powI 2 m == 4611686018427387904) = true := by
  rw [if_neg (by omega), ← two_wrap m h0 h] at ht
  have := (V.powI_bd 2 m).2
  unfold V.top at this
  simp
  omega
set_option maxHeartbeats 2000000 in
set_option maxRecDepth 100000 in
theorem stops_law (a b c k : Int) (w : World) (wa : (Lit.int .i64 a).wf = true) (wb : (Lit.int .i64 b).wf = true) (wc : (Lit.int .i64 c).wf = true) (wk : (Lit.int .u8 k).wf = true) : Calls Try.prog 5 #[.int .i64 a, .int .i64 b, .int .i64 c, .int .u8 k] w fun e w' => e = .returned (.bool true) ∧ Below w.heap.size w w' := by
  have ha : I64 a := i64_of wa
  have hb : I64 b := i64_of wb
  have hc : I64 c := i64_of wc
  obtain ⟨k0, k1⟩ := bounds_u8 wk
  have hP := V.plus_bd a b
  have hT := V.times_bd a b
  unfold V.top at hP hT
  obtain ⟨p0, p1⟩ := hP
  obtain ⟨t0, t1⟩ := hT
  have hm0 : 0 ≤ k % 70 := by omega
  have hm1 : k % 70 < 70 := by omega
  have HS := Lib.hid (V.powI_step a (k % 70) hm0)
  by_cases hcb : b ≤ c
  · have hp := V.plus_mono (a := a) hcb
    have ht := V.times_mono (a := a) hcb
    go_enter Try.func5, Try.ntmps5
    go_wp2_with fail
    with_reducible refine (begun_any _).mono ?_
    rintro e w' ⟨rfl, rfl⟩
    go_wp2_with fail
    with_reducible refine (plus_any _ _ _ ha hb).mono ?_
    rintro e w' ⟨rfl, rfl⟩
    go_wp2_with fail
    with_reducible refine (times_any _ _ _ ha hb).mono ?_
    rintro e w' ⟨rfl, rfl⟩
    go_wp2_with fail
    with_reducible refine (plus_any _ _ _ hb ha).mono ?_
    rintro e w' ⟨rfl, rfl⟩
    rw [V.plus_comm' b a]
    go_wp2_with fail
    with_reducible refine (times_any _ _ _ hb ha).mono ?_
    rintro e w' ⟨rfl, rfl⟩
    rw [V.times_comm' b a]
    go_wp2_with fail
    with_reducible refine (plus_any _ _ _ ha hc).mono ?_
    rintro e w' ⟨rfl, rfl⟩
    go_wp2_with fail
    with_reducible refine (times_any _ _ _ ha hc).mono ?_
    rintro e w' ⟨rfl, rfl⟩
    go_wp2_with fail
    with_reducible refine (plus_any _ _ _ ha hb).mono ?_
    rintro e w' ⟨rfl, rfl⟩
    go_wp2_with fail
    with_reducible refine (plus_any _ _ _ (plusI_i64 a b) hc).mono ?_
    rintro e w' ⟨rfl, rfl⟩
    rw [V.plus_assoc']
    go_wp2_with fail
    with_reducible refine (plus_any _ _ _ hb hc).mono ?_
    rintro e w' ⟨rfl, rfl⟩
    go_wp2_with fail
    with_reducible refine (plus_any _ _ _ ha (plusI_i64 b c)).mono ?_
    rintro e w' ⟨rfl, rfl⟩
    go_wp2_with fail
    with_reducible refine (times_any _ _ _ ha hb).mono ?_
    rintro e w' ⟨rfl, rfl⟩
    go_wp2_with fail
    with_reducible refine (times_any _ _ _ (timesI_i64 a b) hc).mono ?_
    rintro e w' ⟨rfl, rfl⟩
    rw [V.times_assoc']
    go_wp2_with fail
    with_reducible refine (times_any _ _ _ hb hc).mono ?_
    rintro e w' ⟨rfl, rfl⟩
    go_wp2_with fail
    with_reducible refine (times_any _ _ _ ha (timesI_i64 b c)).mono ?_
    rintro e w' ⟨rfl, rfl⟩
    go_wp2_with fail
    with_reducible refine (power_any _ _ _ ha (I64.mk (by omega) (by omega))).mono ?_
    rintro e w' ⟨rfl, rfl⟩
    go_wp2_with fail
    with_reducible refine (power_any _ _ _ ha (I64.mk (by omega) (by omega))).mono ?_
    rintro e w' ⟨rfl, rfl⟩
    go_wp2_with fail
    with_reducible refine (times_any _ _ _ (powI_i64 _ _) ha).mono ?_
    rintro e w' ⟨rfl, rfl⟩
    rw [HS.out]
    go_wp2_with fail
    with_reducible refine (power_any _ 0 _ ha (I64.mk (by omega) (by omega))).mono ?_
    rintro e w' ⟨rfl, rfl⟩
    rw [V.powI_zero a 0 (by omega)]
    go_wp2_with fail
    with_reducible refine (power_any 2 _ _ (I64.mk (by omega) (by omega)) (I64.mk (by omega) (by omega))).mono ?_
    rintro e w' ⟨rfl, rfl⟩
    go_wp2_with fail
    all_goals
      go_ret
      exact ⟨ret_bool (by first | exact e_great _ (by assumption) | exact e_great' _ (by assumption) | exact e_small _ hm0 (by assumption) | exact e_top _ hm0 (by assumption) (by assumption)), Below.refl _ _⟩
  · go_enter Try.func5, Try.ntmps5
    go_wp2_with fail
    with_reducible refine (begun_any _).mono ?_
    rintro e w' ⟨rfl, rfl⟩
    go_wp2_with fail
    with_reducible refine (plus_any _ _ _ ha hb).mono ?_
    rintro e w' ⟨rfl, rfl⟩
    go_wp2_with fail
    with_reducible refine (times_any _ _ _ ha hb).mono ?_
    rintro e w' ⟨rfl, rfl⟩
    go_wp2_with fail
    with_reducible refine (plus_any _ _ _ hb ha).mono ?_
    rintro e w' ⟨rfl, rfl⟩
    rw [V.plus_comm' b a]
    go_wp2_with fail
    with_reducible refine (times_any _ _ _ hb ha).mono ?_
    rintro e w' ⟨rfl, rfl⟩
    rw [V.times_comm' b a]
    go_wp2_with fail
    with_reducible refine (plus_any _ _ _ ha hb).mono ?_
    rintro e w' ⟨rfl, rfl⟩
    go_wp2_with fail
    with_reducible refine (plus_any _ _ _ (plusI_i64 a b) hc).mono ?_
    rintro e w' ⟨rfl, rfl⟩
    rw [V.plus_assoc']
    go_wp2_with fail
    with_reducible refine (plus_any _ _ _ hb hc).mono ?_
    rintro e w' ⟨rfl, rfl⟩
    go_wp2_with fail
    with_reducible refine (plus_any _ _ _ ha (plusI_i64 b c)).mono ?_
    rintro e w' ⟨rfl, rfl⟩
    go_wp2_with fail
    with_reducible refine (times_any _ _ _ ha hb).mono ?_
    rintro e w' ⟨rfl, rfl⟩
    go_wp2_with fail
    with_reducible refine (times_any _ _ _ (timesI_i64 a b) hc).mono ?_
    rintro e w' ⟨rfl, rfl⟩
    rw [V.times_assoc']
    go_wp2_with fail
    with_reducible refine (times_any _ _ _ hb hc).mono ?_
    rintro e w' ⟨rfl, rfl⟩
    go_wp2_with fail
    with_reducible refine (times_any _ _ _ ha (timesI_i64 b c)).mono ?_
    rintro e w' ⟨rfl, rfl⟩
    go_wp2_with fail
    with_reducible refine (power_any _ _ _ ha (I64.mk (by omega) (by omega))).mono ?_
    rintro e w' ⟨rfl, rfl⟩
    go_wp2_with fail
    with_reducible refine (power_any _ _ _ ha (I64.mk (by omega) (by omega))).mono ?_
    rintro e w' ⟨rfl, rfl⟩
    go_wp2_with fail
    with_reducible refine (times_any _ _ _ (powI_i64 _ _) ha).mono ?_
    rintro e w' ⟨rfl, rfl⟩
    rw [HS.out]
    go_wp2_with fail
    with_reducible refine (power_any _ 0 _ ha (I64.mk (by omega) (by omega))).mono ?_
    rintro e w' ⟨rfl, rfl⟩
    rw [V.powI_zero a 0 (by omega)]
    go_wp2_with fail
    with_reducible refine (power_any 2 _ _ (I64.mk (by omega) (by omega)) (I64.mk (by omega) (by omega))).mono ?_
    rintro e w' ⟨rfl, rfl⟩
    go_wp2_with fail
    all_goals
      go_ret
      exact ⟨ret_bool (by first | exact e_great _ (by assumption) | exact e_great' _ (by assumption) | exact e_small _ hm0 (by assumption) | exact e_top _ hm0 (by assumption) (by assumption)), Below.refl _ _⟩
end Go.Proofs.Ytncbbcfcjpkjhaa.Wr
