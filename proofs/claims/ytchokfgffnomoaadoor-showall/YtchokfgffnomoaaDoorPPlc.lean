/-
  Places: numbers in a slice of one's own; what withelaw7.same tells of numbers that are alike, as a contract.
-/
import Derived.Test.YtchokfgffnomoaaDoorLSame
namespace Go.Proofs.YtchokfgffnomoaaDoor.Lx
open Go.RowKit
set_option linter.unusedVariables false
set_option linter.unusedSimpArgs false
/-- Numbers as cells. -/
def nums (xs : List Nat) : List Value := xs.map (fun x => .int .i64 (x : Nat))
theorem nums_len (xs : List Nat) : (nums xs).length = xs.length := by simp [nums]
theorem nums_app (a b : List Nat) : nums (a ++ b) = nums a ++ nums b := by simp [nums]
theorem nums_at (xs : List Nat) (i : Nat) (h : i < xs.length) : (nums xs)[i]? = some (.int .i64 (xs.getD i 0 : Nat)) := by
  simp [nums, List.getD, List.getElem?_eq_getElem h]
/-- v is a slice of just these numbers, in memory made since base. -/
abbrev OwnP (w : World) (base : Nat) (v : Value) (xs : List Nat) : Prop := w.ownsRow base 3 1 v xs.length (nums xs)
theorem ownp_snoc {w : World} {base : Nat} {v : Value} {xs : List Nat} {x : Nat} {n : Int} (h : w.ownsRow base 3 1 v (xs.length + 1) (nums xs ++ [.int .i64 n])) (hn : (x : Int) = n) : OwnP w base v (xs ++ [x]) := by
  have e : nums (xs ++ [x]) = nums xs ++ [.int .i64 n] := by
    rw [nums_app, ← hn]
    rfl
  unfold OwnP
  rw [e, List.length_append]
  exact h
theorem ownp_row {w : World} {base : Nat} {v : Value} {xs : List Nat} (h : OwnP w base v xs) (h0 : 0 < xs.length) : ∃ g cap, v = .slice (some ⟨g, 0, none⟩) xs.length cap ∧ base ≤ g ∧ g < w.heap.size ∧ ∀ i, i < xs.length → w.cell? ⟨g, i, none⟩ = some (.int .i64 (xs.getD i 0 : Nat)) := by
  rcases h.2 with ⟨_, hz⟩ | ⟨g, cap, cur, rfl, hg, hh, hn, hcm, hs, ht⟩
  · omega
  · refine ⟨g, cap, rfl, hg, lt_of_block hh, ?_⟩
    intro i hi
    have hB : Blk w g 3 cur := hh
    have hv := nums_at xs i hi
    rw [hB.cell]
    rw [← ht, List.getElem?_take] at hv
    split at hv
    · simpa using hv
    · cases hv
end Go.Proofs.YtchokfgffnomoaaDoor.Lx
