/-
  What 'some' of the statements of layer 2 makes: a relation over up to 20 things, whatever the numbers.
-/
import Derived.Test.YtokehiehfgffmaaDoorRBegun
namespace Go.Proofs.YtokehiehfgffmaaDoor
open Go.RowKit
set_option linter.unusedVariables false
set_option linter.unusedSimpArgs false

/-- A slice of bytes that came in: its numbers are bs. -/
def IsBytes (w : World) (a : Option Addr) (len : Nat) (bs : List Nat) : Prop :=
  bs.length = len ∧ len ≤ 4611686018427387904 ∧ (∀ i, bs.getD i 0 < 256) ∧ (len = 0 ∨ ∃ b off, a = some ⟨b, off, none⟩ ∧ ∀ i, i < len → w.cell? ⟨b, off + i, none⟩ = some (.int .u8 (bs.getD i 0 : Nat)))
theorem IsBytes.below {w w' : World} {a : Option Addr} {len : Nat} {bs : List Nat} (h : IsBytes w a len bs) (hb : Below w.heap.size w w') : IsBytes w' a len bs := by
  obtain ⟨hl, hm, hw, h | ⟨b, off, rfl, hc⟩⟩ := h
  · exact ⟨hl, hm, hw, .inl h⟩
  · refine ⟨hl, hm, hw, .inr ⟨b, off, rfl, fun i hi => ?_⟩⟩
    have h0 := hc i hi
    rw [hb.cell (p := ⟨b, off + i, none⟩) (World.block_lt_of_cell? w _ h0)]
    exact h0
theorem IsBytes.at {w : World} {a : Option Addr} {len : Nat} {bs : List Nat} (h : IsBytes w a len bs) (h0 : 0 < len) : ∃ b off, a = some ⟨b, off, none⟩ ∧ ∀ i, i < len → w.cell? ⟨b, off + i, none⟩ = some (.int .u8 (bs.getD i 0 : Nat)) := by
  obtain ⟨_, _, _, h | h⟩ := h
  · omega
  · exact h
/-- A relation over n things. -/
def Rel (n : Nat) (xs : List Nat) : Prop := xs.length = n ∧ R.Words xs ∧ R.mayR xs = true
theorem rel_zero {n : Nat} (hn : n ≤ 64) : Rel n (List.replicate n 0) := by
  refine ⟨by simp, zero_words n, ?_⟩
  refine (R.may_iff (zero_words n)).2 ⟨by simpa using hn, fun i j hj hb => ?_⟩
  have : R.row (List.replicate n 0) i = 0 := by
    by_cases hi : i < n
    · simp [R.row, List.getD, hi]
    · rw [R.row_out (by simp; omega)]
  rw [this] at hb
  simp at hb
theorem rel_put {n : Nat} {xs : List Nat} (h : Rel n xs) (x y : Nat) (hx : x < n) (hy : y < n) : Rel n (xs.set x (M.putN (R.row xs x) (y : Int))) := by
  obtain ⟨hl, hw, hm⟩ := h
  have hw' := set_words hw x (M.putN (R.row xs x) (y : Int)) (M.putN_lt _ _ (hw x))
  refine ⟨by simp [hl], hw', (R.may_iff hw').2 ⟨by have := R.may_len hm; simpa using this, fun i j hj hb => ?_⟩⟩
  rw [set_row _ _ _ _ (by omega)] at hb
  rw [List.length_set]
  split at hb
  · rw [M.putN_testBit _ _ _ hj] at hb
    simp only [Bool.or_eq_true, decide_eq_true_eq] at hb
    rcases hb with hb | hb
    · exact (R.may_bit hw hm hb).2.1
    · omega
  · exact (R.may_bit hw hm hb).2.1
/-- What some gives. -/
def GivesR (n : Nat) (w : World) (e : Ending) (w' : World) : Prop := ∃ xs a cap, Rel n xs ∧ e = .returned (.slice a n cap) ∧ IsWords w' a n xs ∧ Below w.heap.size w w'
/-- What a round of some leaves. -/
def SomeR (w0 : World) (g n len : Nat) (k : Value) (w : World) : Prop :=
  ∃ j : Nat, j ≤ len + 1 ∧ k = .int .i64 j ∧ ∃ xs, Rel n xs ∧ Blk w g 23 (words xs) ∧ Below w0.heap.size w0 w ∧ w0.heap.size ≤ g
theorem orput (s y : Nat) (hs : s < 2 ^ 64) (hy : y < 64) : bits BinOp.or IntKind.u64 (s : Int) (IntKind.u64.wrap (2 ^ y)) = (M.putN s (y : Int) : Nat) := by
  have h := shl1 (y : Int) (by omega) (by omega)
  rw [Int.toNat_natCast] at h
  rw [h, bits_or_u64_nat s (M.onlyN y) hs (M.onlyN_lt _)]
  rfl
end Go.Proofs.YtokehiehfgffmaaDoor
