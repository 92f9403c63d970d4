/-
  What names and modes of a maker are, as contracts: Loc, Reg, mode, with.
-/
import Derived.Test.YtchokfgffnomoaaDoorMPick
import Derived.Test.YtchokfgffnomoaaDoorMMath
import Derived.Deep.AppendLies
namespace Go.Proofs.YtchokfgffnomoaaDoor.Lx
open Go.RowKit
open P (locB regB wth)
set_option maxRecDepth 100000
set_option linter.unusedVariables false
set_option linter.unusedSimpArgs false
/-- A row of numbers. -/
def Ints (w : World) (g : Nat) (ms : List Nat) : Prop := ∀ i, i < ms.length → w.cell? ⟨g, 0 + i, none⟩ = some (.int .i64 (ms.getD i 0 : Nat))
theorem getD_mem {ms : List Nat} {i : Nat} (h : i < ms.length) : ms.getD i 0 ∈ ms := by
  rw [List.getD_eq_getElem?_getD, List.getElem?_eq_getElem h]
  exact List.getElem_mem h
/-- A row of numbers that was just made. -/
theorem ints_new {w : World} {t : TypeId} {ms : List Nat} {g : Nat} (h : Blk w g t (ms.map fun m => Value.int .i64 (m : Nat)).toArray) : Ints w g ms := by
  intro i hi
  rw [Nat.zero_add, h.cell]
  simp [hi]
/-- A slice of names. -/
def Nms (Q : Nat → Prop) (w : World) (v : Value) (rs : List (List UInt8)) : Prop := ∃ a cap, v = .slice a rs.length cap ∧ (rs = [] ∨ ∃ g off, a = some ⟨g, off, none⟩ ∧ Q g ∧ ∀ i, i < rs.length → w.cell? ⟨g, off + i, none⟩ = some (.string (bs (rs.getD i []))))
theorem Nms.keep {Q : Nat → Prop} {w w' : World} {v : Value} {rs : List (List UInt8)} (h : Nms Q w v rs) (hk : Keeps Q w w') : Nms Q w' v rs := by
  obtain ⟨a, cap, rfl, h⟩ := h
  refine ⟨a, cap, rfl, ?_⟩
  rcases h with h | ⟨g, off, ha, hg, hc⟩
  · exact .inl h
  · exact .inr ⟨g, off, ha, hg, fun i hi => hk.cell hg (hc i hi)⟩
theorem Nms.mono {Q Q' : Nat → Prop} {w : World} {v : Value} {rs : List (List UInt8)} (h : Nms Q w v rs) (hq : ∀ g, Q g → g < w.heap.size → Q' g) : Nms Q' w v rs := by
  obtain ⟨a, cap, rfl, h⟩ := h
  refine ⟨a, cap, rfl, ?_⟩
  rcases h with h | ⟨g, off, ha, hg, hc⟩
  · exact .inl h
  · by_cases h0 : rs = []
    · exact .inl h0
    · have hl : 0 < rs.length := List.length_pos_iff.2 h0
      exact .inr ⟨g, off, ha, hq g hg (World.block_lt_of_cell? w _ (hc 0 hl)), hc⟩
theorem nms_nil (Q : Nat → Prop) (w : World) : Nms Q w (.slice none 0 0) [] := ⟨none, 0, rfl, .inl rfl⟩
end Go.Proofs.YtchokfgffnomoaaDoor.Lx
