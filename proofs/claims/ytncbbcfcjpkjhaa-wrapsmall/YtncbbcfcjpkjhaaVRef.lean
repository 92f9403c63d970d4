/-
  What the documents' answer of layer 5 tells, as contracts: each returns what the plain function of the same kind says, and leaves the world as it was.
-/
import Derived.Test.YtncbbcfcjpkjhaaVStop
import Derived.OpenShut
namespace Go.Proofs.Ytncbbcfcjpkjhaa.Wr
open Go.RowKit
set_option linter.unusedVariables false
theorem addI_i64 (a b n : Int) : I64 (V.addI a b n) := in_i64 _ _
theorem mulI_i64 (a b n : Int) : I64 (V.mulI a b n) := in_i64 _ _
theorem plusI_i64 (a b : Int) : I64 (V.plusI a b) := (show Held (V.plusI a b) from V.plus_bd a b).i64
theorem timesI_i64 (a b : Int) : I64 (V.timesI a b) := (show Held (V.timesI a b) from V.times_bd a b).i64
theorem powI_i64 (a b : Int) : I64 (V.powI a b) := (show Held (V.powI a b) from V.powI_bd a b).i64
theorem i64_of {n : Int} (h : (Lit.int .i64 n).wf = true) : I64 n := bounds_i64 h
set_option maxHeartbeats 400000 in
theorem rin_any (v n : Int) (w : World) (hv : I64 v) :
    Calls Try.prog 8 #[.int .i64 v, .int .i64 n] w fun e w' => e = .returned (.int .i64 (V.inI v n)) ∧ w = w' := by
  by_cases h : 1 ≤ n ∧ n ≤ 2147483648
  · have HI := Lib.hid (V.inI_ok (v := v) h)
    obtain ⟨h1, h2⟩ := h
    have H := Lib.hid (V.tmod_in v n h1)
    have hn0 : ¬ n = 0 := by omega
    go_enter Try.func8, Try.ntmps8
    go_wp2_with fail
    · go_ret
      rename_i h
      refine ⟨ret_int ?_, rfl⟩
      have e := H.out
      rw [if_pos h] at e
      have k1 := Int.emod_nonneg v hn0
      have k2 := Int.emod_lt_of_pos v (show 0 < n by omega)
      rw [HI.out, e]
      exact w64 (by unfold I64; omega)
    · go_ret
      rename_i h
      refine ⟨ret_int ?_, rfl⟩
      rw [HI.out, ← H.out, if_neg (by omega)]
  · have H := Lib.hid (V.inI_no (v := v) h)
    by_cases h1 : 1 ≤ n
    · have h2 : ¬ n ≤ 2147483648 := fun e => h ⟨h1, e⟩
      clear h
      go_enter Try.func8, Try.ntmps8
      go_wp2_with fail
      go_ret
      exact ⟨ret_int H.out.symm, rfl⟩
    · clear h
      go_enter Try.func8, Try.ntmps8
      go_wp2_with fail
      go_ret
      exact ⟨ret_int H.out.symm, rfl⟩
/-- A round of multiplying by adding: how x, y, out, k stand. -/
def MulR (a b n : Int) (x y o k : Value) : Prop := ∃ (u v r : Int) (i : Nat), V.MulS a b n i u v r ∧ x = .int .i64 u ∧ y = .int .i64 v ∧ o = .int .i64 r ∧ k = .int .i64 i ∧ i ≤ 32
theorem y32 {a b n : Int} {i : Nat} {x y o : Int} (h : V.MulS a b n i x y o) : y ≤ 4294967296 := by
  have h1 := h.y1
  have h2 : (2 : Int) ^ (32 - i) ≤ 2 ^ 32 := V.pow_mono (by omega) (by omega)
  have h3 : (2 : Int) ^ 32 = 4294967296 := by decide
  omega
set_option maxHeartbeats 1000000 in
theorem rmul_any (a b n : Int) (w : World) (ha : I64 a) (hb : I64 b) :
    Calls Try.prog 13 #[.int .i64 a, .int .i64 b, .int .i64 n] w fun e w' => e = .returned (.int .i64 (V.mulI a b n)) ∧ w = w' := by
  by_cases h : 1 ≤ n ∧ n ≤ 2147483648
  · have HS := Lib.hid (V.MulS.start (a := a) (b := b) h)
    have hh := Lib.hid h
    obtain ⟨h1, h2⟩ := h
    go_enter Try.func13, Try.ntmps13
    go_wp2_with fail
    with_reducible refine (rin_any _ _ _ ha).mono ?_
    rintro e w' ⟨rfl, rfl⟩
    go_wp2_with fail
    with_reducible refine (rin_any _ _ _ hb).mono ?_
    rintro e w' ⟨rfl, rfl⟩
    go_wp2_with fail
    go_loop [7, 8, 9, 10] (MulR a b n) (fun _ _ _ k => 32 - (intOf k).toNat)
    case atStart => exact ⟨_, _, _, 0, HS.out, rfl, rfl, rfl, rfl, by omega⟩
    case round =>
      clear HS
      obtain ⟨u, v, r, i, hS, rfl, rfl, rfl, rfl, hi⟩ := hrel
      have x0 := hS.x0
      have xn := hS.xn
      have y0 := hS.y0
      have yn := y32 hS
      have o0 := hS.o0
      have on := hS.on
      have i1 : I64 (u + u) := by unfold I64; omega
      have i2 : I64 (r + u) := by unfold I64; omega
      have HI1 := Lib.hid i1
      have HI2 := Lib.hid i2
      clear i1 i2
      by_cases hlt : i < 32
      · by_cases ho : v % 2 = 1
        · have HN := Lib.hid (hS.odd hh.out hlt ho)
          clear hS
          have hob : (v % 2 == 1) = true := by simpa using ho
          clear ho
          go_wp2_with fail
          with_reducible refine (rin_any _ _ _ HI2.out).mono ?_
          rintro e w' ⟨rfl, rfl⟩
          go_wp2_with fail
          with_reducible refine (rin_any _ _ _ HI1.out).mono ?_
          rintro e w' ⟨rfl, rfl⟩
          go_wp2_with fail
          go_round
          case rel => exact ⟨_, _, _, i + 1, HN.out, rfl, rfl, rfl, by go_num, by omega⟩
          case measure => simp [intOf]; omega
        · have HN := Lib.hid (hS.even hh.out hlt (by omega))
          clear hS
          have hob : (v % 2 == 1) = false := by simpa using ho
          clear ho
          go_wp2_with fail
          with_reducible refine (rin_any _ _ _ HI1.out).mono ?_
          rintro e w' ⟨rfl, rfl⟩
          go_wp2_with fail
          go_round
          case rel => exact ⟨_, _, _, i + 1, HN.out, rfl, rfl, rfl, by go_num, by omega⟩
          case measure => simp [intOf]; omega
      · obtain rfl : i = 32 := by omega
        have HE := Lib.hid (hS.done hh.out)
        clear hS
        go_wp2_with fail
        go_ret
        exact ⟨ret_int HE.out, rfl⟩
  · have H := Lib.hid (V.inI_no (v := a * b) h)
    by_cases h1 : 1 ≤ n
    · have h2 : ¬ n ≤ 2147483648 := fun e => h ⟨h1, e⟩
      clear h
      go_enter Try.func13, Try.ntmps13
      go_wp2_with fail
      go_ret
      exact ⟨ret_int H.out.symm, rfl⟩
    · clear h
      go_enter Try.func13, Try.ntmps13
      go_wp2_with fail
      go_ret
      exact ⟨ret_int H.out.symm, rfl⟩
set_option maxHeartbeats 400000 in
theorem at_any (v : Int) (w : World) :
    Calls Try.prog 27 #[.int .i64 v] w fun e w' => e = .returned (.int .i64 (V.at0 v)) ∧ w = w' := by
  have H := Lib.hid (minmax v)
  go_enter Try.func27, Try.ntmps27
  go_wp2_with fail
  all_goals
    go_ret
    refine ⟨ret_int ?_, rfl⟩
    rw [← H.out]
    omega
set_option maxHeartbeats 400000 in
theorem rplus_any (a b : Int) (w : World) :
    Calls Try.prog 15 #[.int .i64 a, .int .i64 b] w fun e w' => e = .returned (.int .i64 (V.plusI a b)) ∧ w = w' := by
  unfold V.plusI
  have hx := V.at0_bd a
  have hy := V.at0_bd b
  have HA := Lib.hid (at_any a w)
  have HB := Lib.hid (at_any b w)
  unfold V.top at hx hy
  generalize V.at0 a = x at hx HA ⊢
  generalize V.at0 b = y at hy HB ⊢
  obtain ⟨x0, x1⟩ := hx
  obtain ⟨y0, y1⟩ := hy
  by_cases h : 4611686018427387904 - y < x
  · have H := Lib.hid (V.stop_more (v := x + y) (by unfold V.top; omega))
    go_enter Try.func15, Try.ntmps15
    go_wp2_with fail
    with_reducible refine (HA.out).mono ?_
    rintro e w' ⟨rfl, rfl⟩
    go_wp2_with fail
    with_reducible refine (HB.out).mono ?_
    rintro e w' ⟨rfl, rfl⟩
    go_wp2_with fail
    go_ret
    exact ⟨ret_int H.out.symm, rfl⟩
  · have H := Lib.hid (V.stop_less (v := x + y) (by unfold V.top; omega))
    go_enter Try.func15, Try.ntmps15
    go_wp2_with fail
    with_reducible refine (HA.out).mono ?_
    rintro e w' ⟨rfl, rfl⟩
    go_wp2_with fail
    with_reducible refine (HB.out).mono ?_
    rintro e w' ⟨rfl, rfl⟩
    go_wp2_with fail
    go_ret
    exact ⟨ret_int H.out.symm, rfl⟩
set_option maxHeartbeats 1000000 in
theorem rtimes_any (a b : Int) (w : World) :
    Calls Try.prog 17 #[.int .i64 a, .int .i64 b] w fun e w' => e = .returned (.int .i64 (V.timesI a b)) ∧ w = w' := by
  unfold V.timesI
  have hx := V.at0_bd a
  have hy := V.at0_bd b
  have HA := Lib.hid (at_any a w)
  have HB := Lib.hid (at_any b w)
  unfold V.top at hx hy
  generalize V.at0 a = x at hx HA ⊢
  generalize V.at0 b = y at hy HB ⊢
  obtain ⟨x0, x1⟩ := hx
  obtain ⟨y0, y1⟩ := hy
  have hm0 := Int.mul_nonneg x0 y0
  by_cases hx0 : x = 0
  · subst hx0
    have H := Lib.hid (show V.stop (0 * y) = 0 by rw [Int.zero_mul]; decide)
    clear hm0
    go_enter Try.func17, Try.ntmps17
    go_wp2_with fail
    with_reducible refine (HA.out).mono ?_
    rintro e w' ⟨rfl, rfl⟩
    go_wp2_with fail
    with_reducible refine (HB.out).mono ?_
    rintro e w' ⟨rfl, rfl⟩
    go_wp2_with fail
    go_ret
    exact ⟨ret_int (by first | exact H.out.symm | decide), rfl⟩
  · have bx : (x == 0) = false := by simpa using hx0
    by_cases hy0 : y = 0
    · subst hy0
      have H := Lib.hid (show V.stop 0 = 0 by decide)
      clear hm0 hx0
      go_enter Try.func17, Try.ntmps17
      go_wp2_with fail
      with_reducible refine (HA.out).mono ?_
      rintro e w' ⟨rfl, rfl⟩
      go_wp2_with fail
      with_reducible refine (HB.out).mono ?_
      rintro e w' ⟨rfl, rfl⟩
      go_wp2_with fail
      go_ret
      exact ⟨ret_int (by first | exact H.out.symm | (rw [Int.mul_zero]; exact H.out.symm)), rfl⟩
    · have hb : 0 < y := by omega
      have by0 : (y == 0) = false := by simpa using hy0
      have hd := V.div_gt (a := x) hb
      clear hx0
      by_cases h : 4611686018427387904 / y < x
      · have H := Lib.hid (V.stop_more (v := x * y) (hd.1 h))
        clear hd
        go_enter Try.func17, Try.ntmps17
        go_wp2_with fail
        with_reducible refine (HA.out).mono ?_
        rintro e w' ⟨rfl, rfl⟩
        go_wp2_with fail
        with_reducible refine (HB.out).mono ?_
        rintro e w' ⟨rfl, rfl⟩
        go_wp2_with fail
        go_ret
        exact ⟨ret_int H.out.symm, rfl⟩
      · have h' : x * y ≤ V.top := by
          have h2 : ¬ V.top < x * y := fun e => h (hd.2 e)
          omega
        have H := Lib.hid (V.stop_less h')
        have HW := Lib.hid (w64 (v := x * y) (by unfold I64; unfold V.top at h'; omega))
        clear hd h' hm0
        go_enter Try.func17, Try.ntmps17
        go_wp2_with fail
        with_reducible refine (HA.out).mono ?_
        rintro e w' ⟨rfl, rfl⟩
        go_wp2_with fail
        with_reducible refine (HB.out).mono ?_
        rintro e w' ⟨rfl, rfl⟩
        go_wp2_with fail
        go_ret
        exact ⟨ret_int (by rw [H.out, HW.out]), rfl⟩
/-- A round of the power step by step: how out and i stand. -/
def PowR (x k : Int) (o i : Value) : Prop := ∃ (r : Int) (j : Nat), V.PowS x k j r ∧ o = .int .i64 r ∧ i = .int .i64 j
set_option maxHeartbeats 1000000 in
theorem rpower_any (a k : Int) (w : World) (hk : I64 k) :
    Calls Try.prog 19 #[.int .i64 a, .int .i64 k] w fun e w' => e = .returned (.int .i64 (V.powI a k)) ∧ w = w' := by
  have hx := V.at0_bd a
  have HA := Lib.hid (at_any a w)
  have e0 : V.powI a k = V.powI (V.at0 a) k := by
    unfold V.powI
    rw [V.at0_id (v := V.at0 a) hx.1 hx.2]
  rw [e0]
  clear e0
  generalize V.at0 a = x at hx HA ⊢
  obtain ⟨x0, x1⟩ := hx
  have hk1 := hk.2
  by_cases hk0 : k ≤ 0
  · have H := Lib.hid (V.powI_zero x k hk0)
    go_enter Try.func19, Try.ntmps19
    go_wp2_with fail
    with_reducible refine (HA.out).mono ?_
    rintro e w' ⟨rfl, rfl⟩
    go_wp2_with fail
    go_ret
    exact ⟨ret_int H.out.symm, rfl⟩
  · by_cases hx2 : x < 2
    · have H := Lib.hid (V.pow_small x k x0 hx2 (by omega))
      go_enter Try.func19, Try.ntmps19
      go_wp2_with fail
      with_reducible refine (HA.out).mono ?_
      rintro e w' ⟨rfl, rfl⟩
      go_wp2_with fail
      go_ret
      exact ⟨ret_int H.out.symm, rfl⟩
    · have X1 := Lib.hid x1
      clear x1
      go_enter Try.func19, Try.ntmps19
      go_wp2_with fail
      with_reducible refine (HA.out).mono ?_
      rintro e w' ⟨rfl, rfl⟩
      go_wp2_with fail
      go_loop [6, 7] (PowR x k) (fun _ i => k.toNat - (intOf i).toNat)
      case atStart => exact ⟨1, 0, V.PowS.start x k (by omega), rfl, rfl⟩
      case round =>
        obtain ⟨r, j, hS, rfl, rfl⟩ := hrel
        by_cases hj : (j : Int) < k
        · by_cases hr : r < 4611686018427387904
          · have HN := Lib.hid (hS.step x0 X1.out hj)
            clear hS
            go_wp2_with fail
            with_reducible refine (rtimes_any _ _ _).mono ?_
            rintro e w' ⟨rfl, rfl⟩
            go_wp2_with fail
            go_round
            case rel => exact ⟨_, j + 1, HN.out, rfl, by go_num⟩
            case measure => simp [intOf]; omega
          · have HE := Lib.hid (hS.done (by omega) X1.out (fun e => hr e.2))
            clear hS
            go_wp2_with fail
            go_ret
            exact ⟨ret_int HE.out, rfl⟩
        · have HE := Lib.hid (hS.done (by omega) X1.out (fun e => hj e.1))
          clear hS
          go_wp2_with fail
          go_ret
          exact ⟨ret_int HE.out, rfl⟩
end Go.Proofs.Ytncbbcfcjpkjhaa.Wr
