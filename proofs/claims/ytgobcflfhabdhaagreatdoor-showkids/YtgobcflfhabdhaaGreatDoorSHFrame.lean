/-
  What the rows' condition on the library's three tables gives the walks of layer 8, and that a start meets it. It proves nothing of Go by itself.
-/
import Derived.Test.YtgobcflfhabdhaaGreatDoorSHX
import Derived.Test.YtgobcflfhabdhaaGreatDoorLFrame
import Derived.Test.YtgobcflfhabdhaaGreatDoorTie
import Derived.Test.YtgobcflfhabdhaaGreatDoorCards
import Derived.ProofKit
import Derived.LaidMore
import Derived.OpenShut
import Derived.ChangeOld
import Derived.Lib.LaidTab
import Derived.Stop.Joined
namespace Go.Proofs.YtgobcflfhabdhaaGreatDoor.Lx
open Go.ChangeShapes Go.WideShapes Go.ChangeAt Go.RowKit
theorem gPow : Tryz.prog.globalNamed powName = some 0 := by kernel_rfl
theorem tPow : (Tryz.prog.globals[0]?).map (·.type) = some 155 := by kernel_rfl
theorem cPow : Tryz.prog.cellsOf 155 = 20 := by kernel_rfl
theorem cWord : Tryz.prog.cellsOf 140 = 1 := by kernel_rfl
/-- The rows' three listed variables. -/
abbrev laid3L : List (String × DataW Unit) := Rows.showBackRow.laid
theorem door3_met (os : Os) (args : Array Value) : laidMetH Tryz.prog laid3L ((World.doorLaid Tryz.prog 400 os).forCall (fun _ _ => 0) ⟨#[], args, []⟩).memory :=
  laidMetH_of_parts3 (fuel := 8) (laidMet_of_run' 8 (by kernel_rfl) (by kernel_rfl)) (by kernel_rfl) (by kernel_rfl)
theorem laidMet_tail {P : Program} {W : World} {x : String × DataW Unit} {r : List (String × DataW Unit)} (h : laidMet P (x :: r) W) : laidMet P r W := by
  obtain ⟨n, d⟩ := x
  obtain ⟨ps, ⟨g, t, cs, fuel, p, q, _, _, _, _, h1, rfl⟩, hn, hc⟩ := h
  exact ⟨q, h1, (List.nodup_append.1 hn).2.1, fun b off hb => hc b off (List.mem_append_right _ hb)⟩
theorem laid3_is : laid3L = laid3L.headD ("", .lit (.bool false)) :: (laid3L.getD 1 ("", .lit (.bool false)) :: [(powName, Lib.tabData .u64 Lib.pow10Tab)]) := by kernel_rfl
theorem tb_of_laid {W : World} (h : laidMetH Tryz.prog laid3L W) : Tb W.heap.size W := by
  rw [MakeChecks.laidMetH_plain _ _ _ (by kernel_rfl), laid3_is] at h
  exact Lib.tabBelow_of_tabIs (Lib.tabIs_of_head (name := powName) (zs := Lib.pow10Tab) (rest := []) gPow tPow Tryz.underlying155 Tryz.underlying140 cWord cPow (laidMet_tail (laidMet_tail h)))
end Go.Proofs.YtgobcflfhabdhaaGreatDoor.Lx
