/-
  How a list of ints that came in is opened for the walks of layer 4. It proves nothing of Go by itself.
-/
import Derived.Test.YtjboapelelcieaaWNew
import Derived.ProofKit
import Derived.OpenShut
import Derived.ChangeOld
import Derived.SizedLaws
namespace Go.Proofs.Ytjboapelelcieaa.Wk
open Go.ChangeShapes Go.WideShapes Go.ChangeAt Go.RowKit
theorem own : ownKnob Try.prog.godebug = none := by kernel_rfl
theorem laidOut : laidOutB Try.prog = true := by kernel_rfl
theorem ints_of_cells {W : World} (x : Addr) (len cap : Nat) (zs : List Int) (hcell : ∀ i, i < zs.length → W.cell? (x.add i) = some (.int .i64 (zs.getD i 0))) (hl : len ≤ zs.length) (hm : len ≤ 4611686018427387904) : IsInts W (some x) len cap (zs.take len) := by
  refine ⟨by rw [List.length_take]; omega, hm, fun h => (by cases h), ?_⟩
  by_cases h0 : len = 0
  · exact .inl h0
  · have h := hcell 0 (by omega)
    have hspot : x.spot = none := by simpa [Addr.add] using World.cell?_spot h
    obtain ⟨b, off, spot⟩ := x
    simp only at hspot
    subst hspot
    refine .inr ⟨b, off, rfl, fun i hi => ?_⟩
    have hi' := hcell i (by omega)
    have e : (zs.take len).getD i 0 = zs.getD i 0 := by
      simp [List.getD, hi]
    rw [e]
    by_cases hi0 : i = 0
    · subst hi0
      simpa [Addr.add] using hi'
    · simpa [Addr.add, hi0] using hi'
end Go.Proofs.Ytjboapelelcieaa.Wk
