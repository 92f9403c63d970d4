/-
  What the reference's SameRel answers, as a contract.
-/
import Derived.Test.YtokehiehfgffmaaDoorROps
namespace Go.Proofs.YtokehiehfgffmaaDoor
open Go.RowKit
set_option linter.unusedVariables false
set_option linter.unusedSimpArgs false

set_option maxHeartbeats 800000 in
theorem rsameR_len (a b : Option Addr) (la lb ca cb : Nat) (w : World) (hl : la ≠ lb) (h1 : la ≤ 4611686018427387904) (h2 : lb ≤ 4611686018427387904) :
    Calls Tryd.prog 15 #[.slice a la ca, .slice b lb cb] w fun e w' => e = .returned (.bool false) ∧ w = w' := by
  have hl1 : ((la : Int) == (lb : Int)) = false := by simp; omega
  have hl2 : ((la : Int) != (lb : Int)) = true := by simp; omega
  go_enter Tryd.func15, Tryd.ntmps15
  go_wp2
  go_ret
  exact ⟨rfl, rfl⟩
set_option maxHeartbeats 800000 in
theorem rsameR_alike (a b : Option Addr) (len ca cb : Nat) (xs ys : List Nat) (w : World) (hx : IsWords w a len xs) (hy : IsWords w b len ys) :
    Calls Tryd.prog 15 #[.slice a len ca, .slice b len cb] w (Ans (.bool (decide (xs = ys))) w) := by
  have hm := hx.2.1
  have HX := Lib.hid hx
  have HY := Lib.hid hy
  clear hx hy
  go_enter Tryd.func15, Tryd.ntmps15
  go_wp2
  go_loopw [5] (fun k wr => ∃ j : Nat, j ≤ len ∧ k = .int .i64 j ∧ (∀ i, i < j → R.row xs i = R.row ys i) ∧ ∃ nq, wr = w.drewN nq) (fun k _ => len - (intOf k).toNat)
  case atStart => exact ⟨0, Nat.zero_le _, rfl, fun i hi => absurd hi (by omega), 0, rfl⟩
  case round =>
    obtain ⟨j, hj, rfl, heq, nq, rfl⟩ := hrel
    have HE := Lib.hid heq
    clear heq
    by_cases hjl : j < len
    · obtain ⟨b1, o1, rfl, hc1⟩ := HX.out.at (by omega)
      obtain ⟨b2, o2, rfl, hc2⟩ := HY.out.at (by omega)
      have a1 := hc1 j hjl
      have a2 := hc2 j hjl
      clear hc1 hc2
      have d1 : (0 : Int) ≤ (j : Int) := by omega
      have d2 : (j : Int) < (len : Int) := by omega
      by_cases he : R.row xs j = R.row ys j
      · have hjj : ∀ i, i < j + 1 → R.row xs i = R.row ys i := fun i hi => by
          rcases Nat.lt_or_ge i j with h | h
          · exact HE.out i h
          · obtain rfl : i = j := by omega
            exact he
        have HJ := Lib.hid hjj
        rw [← he] at a2
        clear he hjj
        generalize R.row xs j = x at *
        go_wp2_with fail
        go_quiet (fail)
        go_wp2
        go_roundw
        case rel =>
          exact ⟨j + 1, by omega, by go_num, HJ.out, _, rfl⟩
        case measure => simp [intOf]; omega
      · have hn1 : ((R.row xs j : Int) == (R.row ys j : Int)) = false := by simp; omega
        have hn2 : ((R.row xs j : Int) != (R.row ys j : Int)) = true := by simp; omega
        have HN : Hid (decide (xs = ys) = false) := show decide (xs = ys) = false by
          simp
          rintro rfl
          exact he rfl
        clear he
        generalize R.row xs j = x at *
        generalize R.row ys j = y at *
        go_wp2_with fail
        go_quiet (fail)
        go_wp2
        go_ret
        exact ⟨ret_bool HN.out.symm, below_drewN (below_drewN (Below.refl _ _) _) _⟩
    · obtain rfl : j = len := by omega
      have HN : Hid (decide (xs = ys) = true) := show decide (xs = ys) = true by
        simp
        exact R.rows_ext (by rw [HX.out.1, HY.out.1]) (fun i hi => HE.out i (by rw [HX.out.1] at hi; exact hi))
      go_wp2
      go_ret
      exact ⟨ret_bool HN.out.symm, below_drewN (Below.refl _ _) _⟩
theorem rsameR_any (a b : Option Addr) (la lb ca cb : Nat) (xs ys : List Nat) (w : World) (hx : IsWords w a la xs) (hy : IsWords w b lb ys) :
    Calls Tryd.prog 15 #[.slice a la ca, .slice b lb cb] w (Ans (.bool (decide (xs = ys))) w) := by
  by_cases hl : la = lb
  · subst hl
    exact rsameR_alike a b la ca cb xs ys w hx hy
  · refine (rsameR_len a b la lb ca cb w hl hx.2.1 hy.2.1).mono ?_
    rintro e w' ⟨rfl, rfl⟩
    have : decide (xs = ys) = false := by
      simp
      rintro rfl
      exact hl (hx.1.symm.trans hy.1)
    exact ⟨by rw [this], Below.refl _ _⟩
end Go.Proofs.YtokehiehfgffmaaDoor
