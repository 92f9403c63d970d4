/-
  Slices of bytes that came in.
-/
import Derived.Test.YtchokfgffnomoaaDoorLMem
namespace Go.Proofs.YtchokfgffnomoaaDoor.Lx
open Go.RowKit
set_option maxRecDepth 100000
set_option linter.unusedVariables false
set_option linter.unusedSimpArgs false
/-- A slice of bytes that came in: its numbers are xs. -/
def IsBytes (w : World) (a : Option Addr) (len : Nat) (xs : List Nat) : Prop :=
  xs.length = len ∧ len ≤ 4611686018427387904 ∧ (∀ i, xs.getD i 0 < 256) ∧ (len = 0 ∨ ∃ b off, a = some ⟨b, off, none⟩ ∧ ∀ i, i < len → w.cell? ⟨b, off + i, none⟩ = some (.int .u8 (xs.getD i 0 : Nat)))
theorem IsBytes.below {w w' : World} {a : Option Addr} {len : Nat} {xs : List Nat} (h : IsBytes w a len xs) (hb : Below w.heap.size w w') : IsBytes w' a len xs := by
  obtain ⟨hl, hm, hw, h | ⟨b, off, rfl, hc⟩⟩ := h
  · exact ⟨hl, hm, hw, .inl h⟩
  · refine ⟨hl, hm, hw, .inr ⟨b, off, rfl, fun i hi => ?_⟩⟩
    have h0 := hc i hi
    rw [hb.cell (p := ⟨b, off + i, none⟩) (World.block_lt_of_cell? w _ h0)]
    exact h0
theorem IsBytes.at {w : World} {a : Option Addr} {len : Nat} {xs : List Nat} (h : IsBytes w a len xs) (h0 : 0 < len) : ∃ b off, a = some ⟨b, off, none⟩ ∧ ∀ i, i < len → w.cell? ⟨b, off + i, none⟩ = some (.int .u8 (xs.getD i 0 : Nat)) := by
  obtain ⟨_, _, _, h | h⟩ := h
  · omega
  · exact h
end Go.Proofs.YtchokfgffnomoaaDoor.Lx
