/-
  Places: numbers in a slice of one's own; what withelaw7.same tells of numbers that are alike, as a contract.
-/
import Derived.Test.YtikihomablmcnaaLSame
namespace Go.Proofs.Ytikihomablmcnaa.Lx
open Go.RowKit
set_option linter.unusedVariables false
set_option linter.unusedSimpArgs false
/-- Numbers as cells. -/
def nums (xs : List Nat) : List Value := xs.map (fun x => .int .i64 (x : Nat))
theorem nums_len (xs : List Nat) : (nums xs).length = xs.length := by simp [nums]
theorem nums_app (a b : List Nat) : nums (a ++ b) = nums a ++ nums b := by simp [nums]
theorem nums_at (xs : List Nat) (i : Nat) (h : i < xs.length) : (nums xs)[i]? = some (.int .i64 (xs.getD i 0 : Nat)) := by
  simp [nums, List.getD, List.getElem?_eq_getElem h]
/-- v is a slice of just these numbers, in memory made since base. -/
abbrev OwnP (w : World) (base : Nat) (v : Value) (xs : List Nat) : Prop := w.ownsRow base 3 1 v xs.length (nums xs)
theorem ownp_snoc {w : World} {base : Nat} {v : Value} {xs : List Nat} {x : Nat} {n : Int} (h : w.ownsRow base 3 1 v (xs.length + 1) (nums xs ++ [.int .i64 n])) (hn : (x : Int) = n) : OwnP w base v (xs ++ [x]) := by
  have e : nums (xs ++ [x]) = nums xs ++ [.int .i64 n] := by
    rw [nums_app, ← hn]
    rfl
  unfold OwnP
  rw [e, List.length_append]
  exact h
theorem ownp_row {w : World} {base : Nat} {v : Value} {xs : List Nat} (h : OwnP w base v xs) (h0 : 0 < xs.length) : ∃ g cap, v = .slice (some ⟨g, 0, none⟩) xs.length cap ∧ base ≤ g ∧ g < w.heap.size ∧ ∀ i, i < xs.length → w.cell? ⟨g, i, none⟩ = some (.int .i64 (xs.getD i 0 : Nat)) := by
  rcases h.2 with ⟨_, hz⟩ | ⟨g, cap, cur, rfl, hg, hh, hn, hcm, hs, ht⟩
  · omega
  · refine ⟨g, cap, rfl, hg, lt_of_block hh, ?_⟩
    intro i hi
    have hB : Blk w g 3 cur := hh
    have hv := nums_at xs i hi
    rw [hB.cell]
    rw [← ht, List.getElem?_take] at hv
    split at hv
    · simpa using hv
    · cases hv
set_option maxRecDepth 100000 in
set_option maxHeartbeats 3200000 in
/-- withelaw7.same of numbers that are alike: true. -/
theorem sameP (v1 v2 : Value) (b1 b2 : Nat) (xs : List Nat) (w : World) (h1 : OwnP w b1 v1 xs) (h2 : OwnP w b2 v2 xs) :
    Calls Try.prog 12 #[v1, v2] w (SameTo true w) := by
  have hl := own_max h1
  unfold maxLen at hl
  by_cases h0 : 0 < xs.length
  · obtain ⟨g1, c1, rfl, _, _, hc1⟩ := ownp_row h1 h0
    obtain ⟨g2, c2, rfl, _, _, hc2⟩ := ownp_row h2 h0
    have H1 := Lib.hid hc1
    have H2 := Lib.hid hc2
    clear hc1 hc2 h1 h2
    go_enter Try.func12, Try.ntmps12
    go_wp2_with fail
    go_loopw [5] (fun i wr => ∃ j : Nat, j ≤ xs.length ∧ i = .int .i64 j ∧ ∃ nq, wr = w.drewN nq) (fun i _ => xs.length - (intOf i).toNat)
    case atStart => exact ⟨0, Nat.zero_le _, rfl, 0, rfl⟩
    case round =>
      obtain ⟨j, hj, rfl, nq, rfl⟩ := hrel
      by_cases hjl : j < xs.length
      · have a0 := H1.out j hjl
        have e0 := H2.out j hjl
        have d1 : (0 : Int) ≤ (j : Int) := by omega
        have d2 : (j : Int) < (xs.length : Int) := by omega
        generalize xs.getD j 0 = t at *
        go_wp2_with fail
        go_quiet (fail)
        go_wp2
        go_roundw
        case rel => exact ⟨j + 1, by omega, by go_num, _, rfl⟩
        case measure => simp [intOf]; omega
      · go_wp2
        go_ret
        exact ⟨rfl, _, rfl⟩
  · obtain ⟨a1, c1, rfl⟩ := slice_of_own h1
    obtain ⟨a2, c2, rfl⟩ := slice_of_own h2
    have hz : xs.length = 0 := by omega
    rw [hz]
    clear h1 h2 h0 hz
    go_enter Try.func12, Try.ntmps12
    go_wp2_with fail
    go_loopw [5] (fun i wr => i = .int .i64 0 ∧ wr = w) (fun i _ => 0)
    case atStart => exact ⟨rfl, rfl⟩
    case round =>
      obtain ⟨rfl, rfl⟩ := hrel
      go_wp2
      go_ret
      exact ⟨rfl, 0, rfl⟩
end Go.Proofs.Ytikihomablmcnaa.Lx
