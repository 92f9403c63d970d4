/-
  How a list of bytes that came in is opened for the walks of layer 6. It proves nothing of Go by itself.
-/
import Derived.Test.YtchokfgffnomoaaDoorLBytes
import Derived.ProofKit
import Derived.OpenShut
import Derived.ChangeOld
import Derived.SizedLaws
namespace Go.Proofs.YtchokfgffnomoaaDoor.Lx
open Go.ChangeShapes Go.WideShapes Go.ChangeAt Go.RowKit
theorem own : ownKnob Tryd.prog.godebug = none := by kernel_rfl
theorem laidOut : laidOutB Tryd.prog = true := by kernel_rfl
theorem byte_of {n : Int} (h : (Lit.int .u8 n).wf = true) : ∃ s : Nat, n = (s : Int) ∧ s < 256 := by
  have hb : 0 ≤ n ∧ n ≤ 255 := by
    simpa [Lit.wf, IntKind.min, IntKind.max, IntKind.signed, IntKind.bits] using h
  exact ⟨n.toNat, by omega, by omega⟩
theorem bytes_of_cells {W : World} (x : Addr) (len : Nat) (zs : List Int) (hcell : ∀ i, i < zs.length → W.cell? (x.add i) = some (.int .u8 (zs.getD i 0))) (hwf : ∀ n ∈ zs, (Lit.int .u8 n).wf = true) (hl : len ≤ zs.length) (hm : len ≤ 4611686018427387904) : IsBytes W (some x) len ((zs.take len).map Int.toNat) := by
  have hw : ∀ n ∈ zs, ∃ m : Nat, n = (m : Int) ∧ m < 256 := fun n hn => byte_of (hwf n hn)
  have hlen : ((zs.take len).map Int.toNat).length = len := by simp; omega
  have hget : ∀ i, i < len → ∃ m : Nat, zs.getD i 0 = (m : Int) ∧ m < 256 ∧ ((zs.take len).map Int.toNat).getD i 0 = m := by
    intro i hi
    have hi' : i < zs.length := by omega
    obtain ⟨m, hm, hmB⟩ := hw zs[i] (List.getElem_mem hi')
    refine ⟨m, by simp [List.getD, hi', hm], hmB, ?_⟩
    simp [List.getD, hi, hi', hm]
  refine ⟨hlen, hm, fun i => ?_, ?_⟩
  · by_cases hi : i < len
    · obtain ⟨m, _, h1, h2⟩ := hget i hi
      omega
    · have : ((zs.take len).map Int.toNat).getD i 0 = 0 := by
        rw [List.getD_eq_getElem?_getD, List.getElem?_eq_none (by omega)]
        rfl
      omega
  · by_cases h0 : len = 0
    · exact .inl h0
    · have h := hcell 0 (by omega)
      have hspot : x.spot = none := by simpa [Addr.add] using World.cell?_spot h
      obtain ⟨b, off, spot⟩ := x
      simp only at hspot
      subst hspot
      refine .inr ⟨b, off, rfl, fun i hi => ?_⟩
      have hi' := hcell i (by omega)
      obtain ⟨m, h1, _, h2⟩ := hget i hi
      rw [h2]
      rw [h1] at hi'
      by_cases hi0 : i = 0
      · subst hi0
        simpa [Addr.add] using hi'
      · simpa [Addr.add, hi0] using hi'
end Go.Proofs.YtchokfgffnomoaaDoor.Lx
