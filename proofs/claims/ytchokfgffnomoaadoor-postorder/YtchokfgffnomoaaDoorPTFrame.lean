/-
  What the rows' condition on the library's three tables gives the walks of layer 11, that a start meets it, and how their arguments are opened. It proves nothing of Go by itself.
-/
import Derived.Test.YtchokfgffnomoaaDoorPTNum
import Derived.Test.YtchokfgffnomoaaDoorOC
import Derived.Test.YtchokfgffnomoaaDoorOA
import Derived.Test.YtchokfgffnomoaaDoorTie
import Derived.Test.YtchokfgffnomoaaDoorCards
import Derived.ProofKit
import Derived.LaidMore
import Derived.OpenShut
import Derived.ChangeOld
import Derived.Lib.LaidTab
import Derived.Stop.Joined
namespace Go.Proofs.YtchokfgffnomoaaDoor.Lx
open Go.ChangeShapes Go.WideShapes Go.ChangeAt Go.RowKit
theorem gPowP : Tryd.prog.globalNamed powNm = some 1 := by kernel_rfl
theorem tPowP : (Tryd.prog.globals[1]?).map (·.type) = some 134 := by kernel_rfl
theorem cPowP : Tryd.prog.cellsOf 134 = 20 := by kernel_rfl
theorem cWordP : Tryd.prog.cellsOf 122 = 1 := by kernel_rfl
/-- The rows' three listed variables. -/
abbrev laid3P : List (String × DataW Unit) := Rows.showAllRow.laid
theorem door3_metP (os : Os) (args : Array Value) : laidMetH Tryd.prog laid3P ((World.doorLaid Tryd.prog 400 os).forCall (fun _ _ => 0) ⟨#[], args, []⟩).memory :=
  laidMetH_of_parts3 (fuel := 8) (laidMet_of_run' 8 (by kernel_rfl) (by kernel_rfl)) (by kernel_rfl) (by kernel_rfl)
theorem laidMet_tailP {P : Program} {W : World} {x : String × DataW Unit} {r : List (String × DataW Unit)} (h : laidMet P (x :: r) W) : laidMet P r W := by
  obtain ⟨n, d⟩ := x
  obtain ⟨ps, ⟨g, t, cs, fuel, p, q, _, _, _, _, h1, rfl⟩, hn, hc⟩ := h
  exact ⟨q, h1, (List.nodup_append.1 hn).2.1, fun b off hb => hc b off (List.mem_append_right _ hb)⟩
theorem laid3_isP : laid3P = laid3P.headD ("", .lit (.bool false)) :: (laid3P.getD 1 ("", .lit (.bool false)) :: [(powNm, Lib.tabData .u64 Lib.pow10Tab)]) := by kernel_rfl
theorem tp_of_laid {W : World} (h : laidMetH Tryd.prog laid3P W) : Tp W.heap.size W := by
  rw [MakeChecks.laidMetH_plain _ _ _ (by kernel_rfl), laid3_isP] at h
  exact Lib.tabBelow_of_tabIs (Lib.tabIs_of_head (name := powNm) (zs := Lib.pow10Tab) (rest := []) gPowP tPowP Tryd.underlying134 Tryd.underlying122 cWordP cPowP (laidMet_tailP (laidMet_tailP h)))
set_option maxRecDepth 100000 in
theorem open_arr6 {H : Type} {enc : TypeId × Value → H} {W : World} {base : Nat} {spare : Nat → Bool} {held : Bool} {v : Value} {d : DataW H} {p : List MemPlace} (hv : Value.okWide Tryd.prog W .any 0 55 v) (h : DataW.Trod enc Tryd.prog W base spare held 55 v d p) : ∃ r0 r1 r2 r3 r4 r5 : Nat, v = .agg #[.int .u8 (r0 : Nat), .int .u8 (r1 : Nat), .int .u8 (r2 : Nat), .int .u8 (r3 : Nat), .int .u8 (r4 : Nat), .int .u8 (r5 : Nat)] ∧ r0 < 256 ∧ r1 < 256 ∧ r2 < 256 ∧ r3 < 256 ∧ r4 < 256 ∧ r5 < 256 := by
  obtain ⟨cs, rfl, hl, hc⟩ := open_u8s Tryd.underlying55 (by kernel_rfl) hv h
  obtain ⟨r0, h0, e0⟩ := hc 0 (by decide)
  obtain ⟨r1, h1, e1⟩ := hc 1 (by decide)
  obtain ⟨r2, h2, e2⟩ := hc 2 (by decide)
  obtain ⟨r3, h3, e3⟩ := hc 3 (by decide)
  obtain ⟨r4, h4, e4⟩ := hc 4 (by decide)
  obtain ⟨r5, h5, e5⟩ := hc 5 (by decide)
  match cs, hl with
  | [a, b, c, d, e, f], _ =>
    simp at e0 e1 e2 e3 e4 e5
    subst e0 e1 e2 e3 e4 e5
    exact ⟨r0, r1, r2, r3, r4, r5, rfl, h0, h1, h2, h3, h4, h5⟩
end Go.Proofs.YtchokfgffnomoaaDoor.Lx
