/-
  How an array of bytes that came in is opened. It proves nothing of Go by itself.
-/
import Derived.Test.YtchokfgffnomoaaDoorLFrame
import Derived.OpenShut
namespace Go.Proofs.YtchokfgffnomoaaDoor.Lx
open Go.RowKit
set_option maxRecDepth 100000
set_option linter.unusedVariables false
theorem cellsU8 : Tryd.prog.cellsOf 5 = 1 := by kernel_rfl
theorem open_u8s {H : Type} {enc : TypeId × Value → H} {W : World} {base : Nat} {spare : Nat → Bool} {held : Bool} {t : TypeId} {n : Nat} {v : Value} {d : DataW H} {p : List MemPlace} (ht : Tryd.prog.underlying t = some (.array n 5)) (hn : Tryd.prog.cellsOf t = n) (hv : Value.okWide Tryd.prog W .any 0 t v) (h : DataW.Trod enc Tryd.prog W base spare held t v d p) :
    ∃ cs : List Value, v = .agg cs.toArray ∧ cs.length = n ∧ ∀ i, i < n → ∃ r : Nat, r < 256 ∧ cs[i]? = some (.int .u8 (r : Nat)) := by
  simp only [Value.okWide, ht] at hv
  obtain ⟨cs, rfl, hsz, _⟩ := hv
  obtain ⟨fuel, hf⟩ := h
  have hcl : (Value.agg cs).cells.toList = cs.toList := by simp [Value.cells]
  rw [hcl] at hf
  obtain ⟨xs, m, _, _, hlen, hxl, hfe⟩ := DataW.trod_array ht hf
  refine ⟨cs.toList, by simp, by rw [hlen, hn], fun i hi => ?_⟩
  have h1 := hfe i hi
  rw [List.getElem?_eq_getElem (by omega), cellsU8, Nat.mul_one] at h1
  obtain ⟨z, hz, _, hw⟩ := DataW.trod_int Tryd.underlying5 h1
  obtain ⟨r, rfl, hr⟩ := byte_of hw
  have hil : i < cs.toList.length := by rw [hlen, hn]; exact hi
  refine ⟨r, hr, ?_⟩
  have h2 : (cs.toList.drop i).take 1 = [cs.toList[i]] := by rw [List.drop_eq_getElem_cons hil]; rfl
  rw [h2] at hz
  rw [List.getElem?_eq_getElem hil]
  exact congrArg some (List.cons.inj hz).1
end Go.Proofs.YtchokfgffnomoaaDoor.Lx
