/-
  What the rows' condition on the library's one table gives the walks, and that a start meets it. It proves nothing of Go by itself.
-/
import Derived.Test.YtokehiehfgffmaaDoorBLeaf
import Derived.Test.YtokehiehfgffmaaDoorTie
import Derived.Test.YtokehiehfgffmaaDoorCards
import Derived.ProofKit
import Derived.LaidMore
import Derived.OpenShut
import Derived.ChangeOld
import Derived.Lib.LaidTab
import Derived.Stop.Joined
namespace Go.Proofs.YtokehiehfgffmaaDoor
open Go.ChangeShapes Go.WideShapes Go.ChangeAt Go.RowKit

theorem own : ownKnob Tryd.prog.godebug = none := by kernel_rfl
theorem laidOut : laidOutB Tryd.prog = true := by kernel_rfl
/-- The name of the library's table. -/
def tabName : String := Rows.reachAllRow.named.headD Rows.reachAllRow.func
theorem gTab : Tryd.prog.globalNamed tabName = some 0 := by kernel_rfl
theorem tTab : (Tryd.prog.globals[0]?).map (·.type) = some 100 := by kernel_rfl
theorem cTab : Tryd.prog.cellsOf 100 = 64 := by kernel_rfl
theorem cByte : Tryd.prog.cellsOf 5 = 1 := by kernel_rfl
/-- The rows' one listed variable. -/
abbrev laidL : List (String × DataW Unit) := Rows.reachAllRow.laid
theorem door_met (os : Os) (args : Array Value) : laidMetH Tryd.prog laidL ((World.doorLaid Tryd.prog 400 os).forCall (fun _ _ => 0) ⟨#[], args, []⟩).memory :=
  laidMetH_of_parts3 (fuel := 8) (laidMet_of_run' 8 (by kernel_rfl) (by kernel_rfl)) (by kernel_rfl) (by kernel_rfl)
theorem tab_of_laid {W : World} (h : laidMetH Tryd.prog laidL W) : Tab W ∧ 0 < W.heap.size := by
  rw [MakeChecks.laidMetH_plain _ _ _ (by kernel_rfl)] at h
  have hT := Lib.tabIs_of_head (name := tabName) (zs := Lib.deBruijn64tab.map Int.ofNat) (rest := []) gTab tTab Tryd.underlying100 Tryd.underlying5 cByte cTab h
  have hc : Tab W := by
    intro j hj
    rw [hT.cell gTab j (by simpa [Lib.deBruijn64tab] using hj)]
    have : ∀ j : Fin 64, (Lib.deBruijn64tab.map Int.ofNat).getD j.val 0 = (Lib.deBruijn64tab.getD j.val 0 : Int) := by decide
    rw [this ⟨j, hj⟩]
  exact ⟨hc, World.block_lt_of_cell? W _ (hc 0 (by decide))⟩
/-- A word of 64 bits that came in. -/
theorem word_of {n : Int} (h : (Lit.int .u64 n).wf = true) : ∃ s : Nat, n = (s : Int) ∧ s < 2 ^ 64 := by
  have hb : 0 ≤ n ∧ n ≤ 18446744073709551615 := by
    simpa [Lit.wf, IntKind.min, IntKind.max, IntKind.signed, IntKind.bits] using h
  exact ⟨n.toNat, by omega, by omega⟩
theorem byte_of {n : Int} (h : (Lit.int .u8 n).wf = true) : ∃ s : Nat, n = (s : Int) ∧ s < 256 := by
  have hb : 0 ≤ n ∧ n ≤ 255 := by
    simpa [Lit.wf, IntKind.min, IntKind.max, IntKind.signed, IntKind.bits] using h
  exact ⟨n.toNat, by omega, by omega⟩
end Go.Proofs.YtokehiehfgffmaaDoor
