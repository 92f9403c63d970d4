/-
  What Digits of the document's answer tells of any number, as a contract.
-/
import Derived.Test.YtchokfgffnomoaaDoorLDig
import Derived.Test.YtchokfgffnomoaaDoorXMath
import Derived.Test.YtchokfgffnomoaaDoorOX
import Derived.IntWalk
namespace Go.Proofs.YtchokfgffnomoaaDoor.Lx
open Go.RowKit
open P (xN)
set_option maxRecDepth 100000
set_option linter.unusedVariables false
set_option linter.unusedSimpArgs false
theorem xN_pos {n : Nat} : xN (n : Int) = L.decL n := by
  unfold P.xN
  rw [if_neg (by omega), Int.toNat_natCast]
theorem xN_neg {n : Nat} (h : 0 < n) : xN (-(n : Int)) = 45 :: L.decL n := by
  unfold P.xN
  rw [if_pos (by omega)]
  congr 2
  omega
theorem cat45 (b : List UInt8) : (⟨#[45]⟩ : ByteArray) ++ bs b = bs (45 :: b) := bs_app [45] b
set_option maxHeartbeats 1600000 in
theorem digits_neg1 (z : Int) (n : Nat) (hz : z = -(n : Int)) (h0 : 0 < n) (h10 : n < 10) (w : World) : Calls Tryd.prog 35 #[.int .i64 z] w (TextTo (bs (xN z)) w) := by
  have HC := Lib.hid (show Calls Tryd.prog 35 #[.int .i64 (-z)] w (TextTo (bs (L.decL n)) w) from by
    rw [show -z = (n : Int) by omega]
    exact digits_any n w (by omega))
  have HX := Lib.hid (show (⟨#[45]⟩ : ByteArray) ++ bs (L.decL n) = bs (xN z) by rw [hz, xN_neg h0, cat45])
  have hl : (bs (L.decL n)).size ≤ 19 := by rw [bs_size]; exact dec_max _ (by omega)
  have d1 : decide ((0 : Int) ≤ z) = false := decide_eq_false (by omega)
  have d2 : decide ((-10 : Int) < z) = true := decide_eq_true (by omega)
  have h1 : z < 0 := by omega
  have h2 : -10 < z := by omega
  have hw : IntKind.i64.wrap (-z) = -z := IntWalk.i64_in _ (by omega)
  generalize bs (L.decL n) = A at *
  generalize bs (xN z) = C at *
  have hsum : ¬ (⟨#[45]⟩ : ByteArray).size + A.size > 9223372036854775807 := by
    have : (⟨#[45]⟩ : ByteArray).size = 1 := rfl
    omega
  clear hz h0 h10
  go_enter Tryd.func35, Tryd.ntmps35
  go_wp2_with fail
  with_reducible refine HC.out.mono ?_
  rintro e w1 ⟨rfl, hb1⟩
  go_wp2_with fail
  go_ret
  exact ⟨by rw [← HX.out]; rfl, hb1⟩
set_option maxHeartbeats 1600000 in
theorem digits_negs (n : Nat) : ∀ (z : Int) (w : World), z = -(n : Int) → 0 < n → n ≤ 9223372036854775808 → Calls Tryd.prog 35 #[.int .i64 z] w (TextTo (bs (xN z)) w) := by
  induction n using Nat.strongRecOn with
  | ind n ih =>
    intro z w hz h0 hn
    by_cases h10 : n < 10
    · exact digits_neg1 z n hz h0 h10 w
    have hq : z.tdiv 10 = -((n / 10 : Nat) : Int) := by
      rw [hz, Int.neg_tdiv, Int.tdiv_eq_ediv_of_nonneg (by omega)]
      omega
    have hr : z.tmod 10 = -((n % 10 : Nat) : Int) := by
      rw [hz, Int.neg_tmod, Int.tmod_eq_emod_of_nonneg (by omega)]
      omega
    have IH := Lib.hid (fun w => ih (n / 10) (by omega) (-((n : Int) / 10)) w (by omega) (by omega) (by omega))
    have IR := Lib.hid (show ∀ w, Calls Tryd.prog 35 #[.int .i64 ((n : Int) % 10)] w (TextTo (bs [UInt8.ofNat (48 + n % 10)]) w) from fun w => digits_small (n % 10) (UInt8.ofNat (48 + n % 10)) w (by omega) (L.digit_nat (by omega)))
    have HX := Lib.hid (show bs (xN (-((n : Int) / 10))) ++ bs [UInt8.ofNat (48 + n % 10)] = bs (xN z) by
      rw [bs_app, hz, xN_neg h0, show -((n : Int) / 10) = -((n / 10 : Nat) : Int) by omega, xN_neg (by omega), List.cons_append, ← L.dec_great h10])
    have hl1 : (bs (xN (-((n : Int) / 10)))).size ≤ 20 := by
      rw [bs_size, show -((n : Int) / 10) = -((n / 10 : Nat) : Int) by omega, xN_neg (by omega), List.length_cons]
      have := dec_max (n / 10) (by omega)
      omega
    have hl2 : (bs [UInt8.ofNat (48 + n % 10)]).size ≤ 1 := by rw [bs_size]; simp
    have hb1 : -922337203685477580 ≤ z.tdiv 10 ∧ z.tdiv 10 < 0 := by omega
    have hb2 : -9 ≤ z.tmod 10 ∧ z.tmod 10 ≤ 0 := by omega
    have d1 : decide ((0 : Int) ≤ z) = false := decide_eq_false (by omega)
    have d2 : decide ((-10 : Int) < z) = false := decide_eq_false (by omega)
    have h1 : z < 0 := by omega
    generalize bs (xN (-((n : Int) / 10))) = A at *
    generalize bs [UInt8.ofNat (48 + n % 10)] = B at *
    generalize bs (xN z) = C at *
    clear hz ih
    go_enter Tryd.func35, Tryd.ntmps35
    go_wp2_with fail
    with_reducible refine (IH.out _).mono ?_
    rintro e w1 ⟨rfl, hbw⟩
    go_wp2_with fail
    with_reducible refine (IR.out _).mono ?_
    rintro e w2 ⟨rfl, hbw2⟩
    have hsz1 := hbw.size
    have hsum : ¬ A.size + B.size > 9223372036854775807 := by omega
    go_wp2_with fail
    go_ret
    exact ⟨by rw [← HX.out]; rfl, hbw.trans (hbw2.mono hsz1)⟩
/-- Whatever number: its text. -/
theorem rdig_any (z : Int) (h : W64 z) (w : World) : Calls Tryd.prog 35 #[.int .i64 z] w (TextTo (bs (xN z)) w) := by
  obtain ⟨h1, h2⟩ := h
  by_cases h0 : 0 ≤ z
  · obtain ⟨n, rfl⟩ : ∃ n : Nat, z = (n : Nat) := ⟨z.toNat, by omega⟩
    rw [xN_pos]
    exact digits_any n w h2
  · exact digits_negs z.natAbs z w (by omega) (by omega) (by omega)
theorem xNum_len (z : Int) (h : W64 z) : (xN z).length ≤ 20 := by
  obtain ⟨h1, h2⟩ := h
  unfold P.xN
  split
  · rw [List.length_cons]
    have := L.dec_len z.natAbs 18 (by
      have h10 : (10 : Nat) ^ (18 + 1) = 10000000000000000000 := by decide
      omega)
    omega
  · have := dec_max z.toNat (by omega)
    omega
end Go.Proofs.YtchokfgffnomoaaDoor.Lx
