/-
  How a list of pairs that came in is opened for the walks. It proves nothing of Go by itself.
-/
import Derived.Test.YtafdbocepepcgaaDoorRFrame
import Derived.Deep.Slices
namespace Go.Proofs.YtafdbocepepcgaaDoor
open Go.ChangeShapes Go.WideShapes Go.ChangeAt Go.RowKit Go.Deep
set_option linter.unusedVariables false
set_option linter.unusedSimpArgs false
theorem cellsPair : Tryd.prog.cellsOf 28 = 2 := by kernel_rfl
theorem cellsInt : Tryd.prog.cellsOf 3 = 1 := by kernel_rfl
theorem addr_add (x : Addr) (i j : Nat) : (x.add i).add j = x.add (i + j) := by
  unfold Addr.add
  by_cases hi : i = 0 <;> by_cases hj : j = 0 <;> simp [hi, hj, Nat.add_assoc]
theorem pairs_came {H : Type} {enc : TypeId × Value → H} {W : World} {a : Option Addr} {len cap fuel j : Nat} {d : DataW H} {p : List MemPlace} {ts : List TypeId} {ds : List (DataW H)}
    (hsz : (DataW.weightsEach Tryd.prog ts ds).all (· ≤ reachBytes) = true) (ht : ts[j]? = some 25) (hd : ds[j]? = some d)
    (hf : DataW.trod enc Tryd.prog W 0 (fun _ => true) true fuel 25 (Value.slice a len cap).cells.toList = some (d, p)) : ∃ ps, IsPairs W a len ps := by
  rcases open_slice Tryd.underlying25 hf with ⟨hcs, _⟩ | ⟨x, l, c, m, n, D, Pl, hcs, _, hl, hm, hmm, hx, hel⟩
  · simp [Value.cells] at hcs
    obtain ⟨rfl, rfl, rfl⟩ := hcs
    exact ⟨[], rfl, by decide, .inl rfl⟩
  · simp [Value.cells] at hcs
    obtain ⟨rfl, rfl, rfl⟩ := hcs
    have hdd := (Prod.mk.inj hx).1
    have hw := sized_slice hsz (j := j) (t := 25) (e := 28) ht (show _ = some _ by rw [hd, hdd]) Tryd.underlying25
    rw [show Tryd.prog.bytesOf 28 = 16 by kernel_rfl] at hw
    simp only [List.length_map, List.length_range, reachBytes] at hw
    have hmc : m = cap := by simpa using hmm
    have each : ∀ i, i < len → ∃ q : Int × Int, W.cell? (x.add (i * 2)) = some (.int .i64 q.1) ∧ W.cell? (x.add (i * 2 + 1)) = some (.int .i64 q.2) := by
      intro i hi
      obtain ⟨cs', h1, h2⟩ := hel i (by omega)
      rw [cellsPair] at h1
      obtain ⟨_, hlen, hcell⟩ := World.cells?_some h1
      obtain ⟨xs, k, _, _, _, hxl, hfe⟩ := DataW.trod_array Tryd.underlying28 h2
      match cs', hlen with
      | [v0, v1], _ =>
        have g0 := hfe 0 (by omega)
        have g1 := hfe 1 (by omega)
        rw [cellsInt] at g0 g1
        have e0 := hcell 0 (by omega)
        have e1 := hcell 1 (by omega)
        rw [addr_add] at e0 e1
        rw [List.getElem?_eq_getElem (by omega)] at g0 g1
        obtain ⟨n0, hn0, _⟩ := DataW.trod_int Tryd.underlying3 g0
        obtain ⟨n1, hn1, _⟩ := DataW.trod_int Tryd.underlying3 g1
        simp at hn0 hn1
        subst hn0 hn1
        exact ⟨(n0, n1), by simpa using e0, by simpa using e1⟩
    obtain ⟨q, hq⟩ := choose_lt each
    refine ⟨(List.range len).map q, by simp, by omega, ?_⟩
    by_cases h0 : len = 0
    · exact .inl h0
    · have h := (hq 0 (by omega)).1
      have hspot : x.spot = none := by simpa [Addr.add] using World.cell?_spot h
      obtain ⟨b, off, spot⟩ := x
      simp only at hspot
      subst hspot
      refine .inr ⟨b, off, rfl, fun i hi => ?_⟩
      obtain ⟨e0, e1⟩ := hq i hi
      have eg : ((List.range len).map q).getD i (0, 0) = q i := by simp [List.getD, hi]
      rw [eg]
      have key : ∀ k, (⟨b, off, none⟩ : Addr).add k = ⟨b, off + k, none⟩ := by
        intro k
        by_cases hk : k = 0
        · subst hk
          simp [Addr.add]
        · simp [Addr.add, hk]
      rw [key] at e0 e1
      exact ⟨e0, e1⟩
end Go.Proofs.YtafdbocepepcgaaDoor
