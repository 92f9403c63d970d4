/-
  The statement BitsRanges's own call returns true, whatever the three numbers, and leaves what was there as it was.
-/
import Derived.Test.YtkkkidilopeogaaDoorBBegun
namespace Go.Proofs.YtkkkidilopeogaaDoor
open Go.RowKit
set_option linter.unusedVariables false
set_option linter.unusedSimpArgs false

theorem ranges_bits (lo hi : Int) (j : Nat) (hj : j < 64) : (M.rangeN lo hi).testBit j = (decide ((j : Int) < hi) && !decide ((j : Int) < lo)) := by
  unfold M.rangeN
  rw [M.lessN_testBit _ _ _ (M.belowN_lt hi) (M.belowN_lt lo), M.belowN_testBit _ _ hj, M.belowN_testBit _ _ hj]
theorem ranges_lt (lo hi : Int) : M.rangeN lo hi < 2 ^ 64 := M.lessN_lt _ _ (M.belowN_lt hi)
theorem ranges_snoc (lo j : Nat) (h : lo ≤ j) (hj : j < 64) : M.putN (M.rangeN lo j) (j : Int) = M.rangeN lo ((j + 1 : Nat) : Int) := by
  refine M.ext _ _ (M.putN_lt _ _ (ranges_lt _ _)) (ranges_lt _ _) (fun i hi => ?_)
  rw [M.putN_testBit _ _ _ hi, ranges_bits _ _ _ hi, ranges_bits _ _ _ hi, Bool.eq_iff_iff]
  simp
  omega
theorem ranges_none (lo hi : Int) (h : hi ≤ lo) : M.rangeN lo hi = 0 := by
  refine M.zero_of _ (ranges_lt _ _) (fun i hi => ?_)
  rw [ranges_bits _ _ _ hi]
  simp
  omega
theorem ranges_cnt (lo hi : Nat) (h : lo ≤ hi) (h64 : hi ≤ 64) : M.cnt (M.rangeN lo hi) = hi - lo := by
  have e : M.bl (M.rangeN lo hi) = (List.range 64).filter (fun j => decide (j < hi) && !decide (j < lo)) := by
    unfold M.bl
    apply List.filter_congr
    intro j hj
    rw [ranges_bits _ _ _ (List.mem_range.1 hj), Bool.eq_iff_iff]
    simp
  unfold M.cnt
  rw [e]
  have key : ∀ n, ((List.range n).filter (fun j => decide (j < hi) && !decide (j < lo))).length = min n hi - min n lo := by
    intro n
    induction n with
    | zero => simp
    | succ n ih =>
      rw [List.range_succ, List.filter_append, List.length_append, ih]
      by_cases h1 : n < hi
      · by_cases h2 : n < lo
        · simp [h1, h2]
          omega
        · simp [h1, h2]
          omega
      · simp [h1]
        omega
  rw [key 64]
  omega

theorem ranges_step (lo j : Int) (h : lo ≤ j) (h0 : 0 ≤ lo) (hj : j < 64) : M.putN (M.rangeN lo j) j = M.rangeN lo (j + 1) := by
  have := ranges_snoc lo.toNat j.toNat (by omega) (by omega)
  rw [Int.toNat_of_nonneg h0, Int.toNat_of_nonneg (by omega : 0 ≤ j)] at this
  rw [this]
  congr 1
  omega

set_option maxHeartbeats 2000000 in
theorem ranges_core (x y z : Nat) (lo m1 mid m2 hi : Int) (w : World) (hg : 0 < w.heap.size) (hT : Tab w) (hx : x < 256) (hy : y < 256) (hz : z < 256)
    (h0 : 0 ≤ lo) (h1 : 0 ≤ m1) (h2 : lo ≤ mid) (h3 : 0 ≤ m2) (h4 : mid ≤ hi) (h5 : hi ≤ 64) (b1 : m1 ≤ 64) (b2 : m2 ≤ 64)
    (k1 : (x : Int) % 65 = lo) (k2 : (y : Int) % (65 - lo) = m1) (k2' : lo + m1 = mid) (k3 : (z : Int) % (65 - mid) = m2) (k3' : mid + m2 = hi)
    (f2 : bits BinOp.or IntKind.u64 (M.rangeN lo mid : Int) (M.rangeN mid hi : Int) = (M.rangeN lo hi : Int)) (f3 : bits BinOp.and IntKind.u64 (M.rangeN lo mid : Int) (M.rangeN mid hi : Int) = 0)
    (f4 : (M.cnt (M.rangeN lo hi) : Int) = hi - lo) (f5 : M.rangeN hi lo = 0) (f6 : M.rangeN lo lo = 0) (f7 : M.rangeN lo hi < 2 ^ 64) :
    Calls Tryd.prog 6 #[.int .u8 x, .int .u8 y, .int .u8 z] w fun e w' => e = .returned (.bool true) ∧ Below w.heap.size w w' := by
  have F6 := Lib.hid f6
  clear f6
  go_enter Tryd.func6, Tryd.ntmps6
  go_wp2_with fail
  refine (begun_any _ hg hT).mono ?_
  rintro e w1 ⟨rfl, hb1, hT1⟩
  go_wp2_with fail
  go_loop [10, 11] (fun s i => ∃ j : Int, lo ≤ j ∧ j ≤ hi ∧ i = .int .i64 j ∧ s = .int .u64 (M.rangeN lo j)) (fun _ i => (hi - intOf i).toNat)
  case atStart => exact ⟨lo, by omega, by omega, rfl, by rw [F6.out]; rfl⟩
  case round =>
    obtain ⟨j, hj1, hj2, rfl, rfl⟩ := hrel
    by_cases hjl : j < hi
    · have hlt := ranges_lt lo j
      have HS := Lib.hid (ranges_step lo j hj1 h0 (by omega))
      clear f2 f3 f4 f5 f7 k1 k2 k2' k3 k3'
      go_wp2_with (go_at_call 18; refine (put_any _ _ _ hlt).mono ?_; rintro e w' ⟨rfl, rfl⟩)
      go_round
      case rel => exact ⟨j + 1, by omega, by omega, rfl, by rw [HS.out]⟩
      case measure => simp only [intOf]; omega
    · obtain rfl : j = hi := by omega
      clear k1 k2 k2' k3 k3'
      go_wp2_with (first | (go_at_call 14; refine (range_any _ _ _).mono ?_; rintro e w2 ⟨rfl, rfl⟩) | (go_at_call 22; refine (count_any _ _ (by assumption)).mono ?_; rintro e w2 ⟨rfl, rfl⟩))
      go_ret
      first | exact ⟨rfl, by assumption⟩ | exact ⟨ret_bool (by simp), by assumption⟩

theorem ranges_walk (x y z : Nat) (w : World) (hg : 0 < w.heap.size) (hT : Tab w) (hx : x < 256) (hy : y < 256) (hz : z < 256) :
    Calls Tryd.prog 6 #[.int .u8 x, .int .u8 y, .int .u8 z] w fun e w' => e = .returned (.bool true) ∧ Below w.heap.size w w' := by
  have a0 : 0 ≤ (x : Int) % 65 := by omega
  have a1 : (x : Int) % 65 ≤ 64 := by omega
  generalize k1 : (x : Int) % 65 = lo at *
  have a2 : 0 ≤ (y : Int) % (65 - lo) := Int.emod_nonneg _ (by omega)
  have a3 : (y : Int) % (65 - lo) < 65 - lo := Int.emod_lt_of_pos _ (by omega)
  generalize k2 : (y : Int) % (65 - lo) = m1 at *
  have a4 : 0 ≤ (z : Int) % (65 - (lo + m1)) := Int.emod_nonneg _ (by omega)
  have a5 : (z : Int) % (65 - (lo + m1)) < 65 - (lo + m1) := Int.emod_lt_of_pos _ (by omega)
  generalize k3 : (z : Int) % (65 - (lo + m1)) = m2 at *
  have r1 := ranges_lt lo (lo + m1)
  have r2 := ranges_lt (lo + m1) (lo + m1 + m2)
  have r3 := ranges_lt lo (lo + m1 + m2)
  refine ranges_core x y z lo m1 (lo + m1) m2 (lo + m1 + m2) w hg hT hx hy hz a0 a2 (by omega) a4 (by omega) (by omega) (by omega) (by omega) k1 k2 rfl k3 rfl ?_ ?_ ?_ ?_ ?_ r3
  · rw [bits_or_u64_nat _ _ r1 r2]
    congr 1
    refine M.ext _ _ (Nat.or_lt_two_pow r1 r2) r3 (fun i hi => ?_)
    rw [Nat.testBit_or, ranges_bits _ _ _ hi, ranges_bits _ _ _ hi, ranges_bits _ _ _ hi, Bool.eq_iff_iff]
    simp
    omega
  · rw [bits_and_u64_nat _ _ r1 r2]
    have : M.rangeN lo (lo + m1) &&& M.rangeN (lo + m1) (lo + m1 + m2) = 0 := by
      refine M.zero_of _ (Nat.and_lt_two_pow _ r2) (fun i hi => ?_)
      rw [Nat.testBit_and, ranges_bits _ _ _ hi, ranges_bits _ _ _ hi]
      simp
      omega
    rw [this]
    rfl
  · have := ranges_cnt lo.toNat (lo + m1 + m2).toNat (by omega) (by omega)
    rw [Int.toNat_of_nonneg a0, Int.toNat_of_nonneg (by omega)] at this
    rw [this]
    omega
  · exact ranges_none _ _ (by omega)
  · exact ranges_none _ _ (by omega)
end Go.Proofs.YtkkkidilopeogaaDoor
