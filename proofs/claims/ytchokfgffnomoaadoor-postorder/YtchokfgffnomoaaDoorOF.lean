/-
  How slices of names and of ints, and expressions, that came in are opened for the walks of layers 8 to 11. It proves nothing of Go by itself.
-/
import Derived.Test.YtchokfgffnomoaaDoorOX
import Derived.Test.YtchokfgffnomoaaDoorEVal
import Derived.Test.YtchokfgffnomoaaDoorLFrame
namespace Go.Proofs.YtchokfgffnomoaaDoor.Lx
open Go.RowKit
open P (EX)
set_option maxRecDepth 100000
set_option linter.unusedVariables false
set_option linter.unusedSimpArgs false
section
variable {H : Type} {enc : TypeId × Value → H} {W : World} {base : Nat} {spare : Nat → Bool} {held : Bool}
theorem open_x {v : Value} {d : DataW H} {p : List MemPlace} (hv : Value.okWide Tryd.prog W .any 0 31 v) (h : DataW.Trod enc Tryd.prog W base spare held 31 v d p) : ∃ e, LX (fun _ => True) W v e ∧ wfX e := by
  obtain ⟨cs, rfl, _⟩ := Go.WideShapes.okWide_struct Tryd.underlying31 hv
  obtain ⟨n, hn⟩ := h
  obtain ⟨e, he, hw⟩ := open_lx n _ _ hn
  exact ⟨e, by simpa [Value.cells] using he, hw⟩
theorem open_names {a : Option Addr} {len cap : Nat} {d : DataW H} {p : List MemPlace} (h : DataW.Trod enc Tryd.prog W base spare held 41 (.slice a len cap) d p) : ∃ rs, Nms (fun _ => True) W (.slice a len cap) rs ∧ rs.length ≤ maxLen := by
  obtain ⟨n, hn⟩ := h
  rcases n with _ | n
  · simp [DataW.trod] at hn
  obtain ⟨a', len', cap', he, hlc, hcm, hr⟩ := elems Tryd.underlying41 cellsS (by decide) (show DataW.trod enc Tryd.prog W base spare held (n + 1) 41 [.slice a len cap] = some (d, p) by simpa [Value.cells] using hn)
  injection he with e1 e2 e3
  subst e1 e2 e3
  rcases hr with h0 | ⟨g, off, rfl, hr⟩
  · subst h0
    exact ⟨[], ⟨a, cap, rfl, .inl rfl⟩, Nat.zero_le _⟩
  · obtain ⟨rs, hl, hrs⟩ := pick_list (R := fun i s => W.cell? ⟨g, off + i, none⟩ = some (.string (bs s))) len (fun i hi => by
      obtain ⟨ds, y, hd, hy, hcell⟩ := hr i hi
      obtain ⟨s, rfl, _, _⟩ := DataW.trod_string Tryd.underlying9 hy
      have h1 := hcell 0 (by decide)
      exact ⟨by' s, by rw [bs_by]; simpa using h1⟩)
    subst hl
    refine ⟨rs, ⟨_, cap, rfl, .inr ⟨g, off, rfl, trivial, fun i hi => ?_⟩⟩, by omega⟩
    obtain ⟨s, hs, hc⟩ := hrs i hi
    rw [List.getD_eq_getElem?_getD, hs]
    exact hc
theorem open_nums {a : Option Addr} {len cap : Nat} {d : DataW H} {p : List MemPlace} (h : DataW.Trod enc Tryd.prog W base spare held 44 (.slice a len cap) d p) : ∃ vs, Ivs (fun _ => True) W (.slice a len cap) vs ∧ vs.length ≤ maxLen ∧ ∀ i, W64 (vs.getD i 0) := by
  obtain ⟨n, hn⟩ := h
  rcases n with _ | n
  · simp [DataW.trod] at hn
  obtain ⟨a', len', cap', he, hlc, hcm, hr⟩ := elems Tryd.underlying44 cellsI (by decide) (show DataW.trod enc Tryd.prog W base spare held (n + 1) 44 [.slice a len cap] = some (d, p) by simpa [Value.cells] using hn)
  injection he with e1 e2 e3
  subst e1 e2 e3
  have hz : W64 0 := ⟨by omega, by omega⟩
  rcases hr with h0 | ⟨g, off, rfl, hr⟩
  · subst h0
    exact ⟨[], ⟨a, cap, rfl, .inl rfl⟩, Nat.zero_le _, fun i => by simpa using hz⟩
  · obtain ⟨vs, hl, hrs⟩ := pick_list (R := fun i (z : Int) => W.cell? ⟨g, off + i, none⟩ = some (.int .i64 z) ∧ W64 z) len (fun i hi => by
      obtain ⟨ds, y, hd, hy, hcell⟩ := hr i hi
      obtain ⟨z, rfl, _, hw⟩ := DataW.trod_int Tryd.underlying3 hy
      have h1 := hcell 0 (by decide)
      exact ⟨z, by simpa using h1, w64_of hw⟩)
    subst hl
    refine ⟨vs, ⟨_, cap, rfl, .inr ⟨g, off, rfl, trivial, fun i hi => ?_⟩⟩, by omega, fun i => ?_⟩
    · obtain ⟨s, hs, hc, _⟩ := hrs i hi
      rw [List.getD_eq_getElem?_getD, hs]
      exact hc
    · by_cases hi : i < vs.length
      · obtain ⟨s, hs, hc, hw⟩ := hrs i hi
        rw [List.getD_eq_getElem?_getD, hs]
        exact hw
      · rw [List.getD_eq_getElem?_getD, List.getElem?_eq_none (by omega)]
        exact hz
end
end Go.Proofs.YtchokfgffnomoaaDoor.Lx
