/-
  How lists of bytes and of words that came in are opened for the walks. It proves nothing of Go by itself.
-/
import Derived.Test.YtokehiehfgffmaaDoorBFrame
import Derived.Test.YtokehiehfgffmaaDoorRSome
import Derived.SizedLaws
namespace Go.Proofs.YtokehiehfgffmaaDoor
open Go.ChangeShapes Go.WideShapes Go.ChangeAt Go.RowKit
theorem list_of_cells {W : World} {k : IntKind} (x : Addr) (len B : Nat) (zs : List Int) (hcell : ∀ i, i < zs.length → W.cell? (x.add i) = some (.int k (zs.getD i 0))) (hl : len ≤ zs.length) (hB : 0 < B) (hw : ∀ n ∈ zs, ∃ m : Nat, n = (m : Int) ∧ m < B) :
    ((zs.take len).map Int.toNat).length = len ∧ (∀ i, ((zs.take len).map Int.toNat).getD i 0 < B) ∧ (len = 0 ∨ ∃ b off, (some x : Option Addr) = some ⟨b, off, none⟩ ∧ ∀ i, i < len → W.cell? ⟨b, off + i, none⟩ = some (.int k (((zs.take len).map Int.toNat).getD i 0 : Nat))) := by
  have hlen : ((zs.take len).map Int.toNat).length = len := by simp; omega
  have hget : ∀ i, i < len → ∃ m : Nat, zs.getD i 0 = (m : Int) ∧ m < B ∧ ((zs.take len).map Int.toNat).getD i 0 = m := by
    intro i hi
    have hi' : i < zs.length := by omega
    obtain ⟨m, hm, hmB⟩ := hw zs[i] (List.getElem_mem hi')
    refine ⟨m, by simp [List.getD, hi', hm], hmB, ?_⟩
    simp [List.getD, hi, hi', hm]
  refine ⟨hlen, fun i => ?_, ?_⟩
  · by_cases hi : i < len
    · obtain ⟨m, _, h1, h2⟩ := hget i hi
      omega
    · have : ((zs.take len).map Int.toNat).getD i 0 = 0 := by
        rw [List.getD_eq_getElem?_getD, List.getElem?_eq_none (by omega)]
        rfl
      omega
  · by_cases h0 : len = 0
    · exact .inl h0
    · have h := hcell 0 (by omega)
      have hspot : x.spot = none := by simpa [Addr.add] using World.cell?_spot h
      obtain ⟨b, off, spot⟩ := x
      simp only at hspot
      subst hspot
      refine .inr ⟨b, off, rfl, fun i hi => ?_⟩
      have hi' := hcell i (by omega)
      obtain ⟨m, h1, _, h2⟩ := hget i hi
      rw [h2]
      rw [h1] at hi'
      by_cases hi0 : i = 0
      · subst hi0
        simpa [Addr.add] using hi'
      · simpa [Addr.add, hi0] using hi'
theorem bytes_of_cells {W : World} (x : Addr) (len : Nat) (zs : List Int) (hcell : ∀ i, i < zs.length → W.cell? (x.add i) = some (.int .u8 (zs.getD i 0))) (hw : ∀ n ∈ zs, (Lit.int .u8 n).wf = true) (hl : len ≤ zs.length) (hm : len ≤ 4611686018427387904) : IsBytes W (some x) len ((zs.take len).map Int.toNat) := by
  obtain ⟨h1, h2, h3⟩ := list_of_cells x len 256 zs hcell hl (by decide) (fun n hn => byte_of (hw n hn))
  exact ⟨h1, hm, h2, h3⟩
theorem words_of_cells {W : World} (x : Addr) (len : Nat) (zs : List Int) (hcell : ∀ i, i < zs.length → W.cell? (x.add i) = some (.int .u64 (zs.getD i 0))) (hw : ∀ n ∈ zs, (Lit.int .u64 n).wf = true) (hl : len ≤ zs.length) (hm : len ≤ 4611686018427387904) : IsWords W (some x) len ((zs.take len).map Int.toNat) := by
  obtain ⟨h1, h2, h3⟩ := list_of_cells x len (2 ^ 64) zs hcell hl (by decide) (fun n hn => word_of (hw n hn))
  exact ⟨h1, hm, h2, h3⟩
end Go.Proofs.YtokehiehfgffmaaDoor
