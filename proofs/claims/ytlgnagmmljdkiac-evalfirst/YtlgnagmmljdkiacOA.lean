/-
  How an array of bytes that came in is opened. It proves nothing of Go by itself.
-/
import Derived.Test.YtlgnagmmljdkiacLFrame
import Derived.OpenShut
namespace Go.Proofs.Ytlgnagmmljdkiac.Lx
open Go.RowKit
set_option maxRecDepth 100000
set_option linter.unusedVariables false
theorem cellsU8 : Try.prog.cellsOf 5 = 1 := by kernel_rfl
theorem open_u8s {H : Type} {enc : TypeId × Value → H} {W : World} {base : Nat} {spare : Nat → Bool} {held : Bool} {t : TypeId} {n : Nat} {v : Value} {d : DataW H} {p : List MemPlace} (ht : Try.prog.underlying t = some (.array n 5)) (hn : Try.prog.cellsOf t = n) (hv : Value.okWide Try.prog W .any 0 t v) (h : DataW.Trod enc Try.prog W base spare held t v d p) :
    ∃ cs : List Value, v = .agg cs.toArray ∧ cs.length = n ∧ ∀ i, i < n → ∃ r : Nat, r < 256 ∧ cs[i]? = some (.int .u8 (r : Nat)) := by
  simp only [Value.okWide, ht] at hv
  obtain ⟨cs, rfl, hsz, _⟩ := hv
  obtain ⟨fuel, hf⟩ := h
  have hcl : (Value.agg cs).cells.toList = cs.toList := by simp [Value.cells]
  rw [hcl] at hf
  obtain ⟨xs, m, _, _, hlen, hxl, hfe⟩ := DataW.trod_array ht hf
  refine ⟨cs.toList, by simp, by rw [hlen, hn], fun i hi => ?_⟩
  have h1 := hfe i hi
  rw [List.getElem?_eq_getElem (by omega), cellsU8, Nat.mul_one] at h1
  obtain ⟨z, hz, _, hw⟩ := DataW.trod_int Try.underlying5 h1
  obtain ⟨r, rfl, hr⟩ := byte_of hw
  have hil : i < cs.toList.length := by rw [hlen, hn]; exact hi
  refine ⟨r, hr, ?_⟩
  have h2 : (cs.toList.drop i).take 1 = [cs.toList[i]] := by rw [List.drop_eq_getElem_cons hil]; rfl
  rw [h2] at hz
  rw [List.getElem?_eq_getElem hil]
  exact congrArg some (List.cons.inj hz).1
theorem open_arr4 {H : Type} {enc : TypeId × Value → H} {W : World} {base : Nat} {spare : Nat → Bool} {held : Bool} {v : Value} {d : DataW H} {p : List MemPlace} (hv : Value.okWide Try.prog W .any 0 23 v) (h : DataW.Trod enc Try.prog W base spare held 23 v d p) : ∃ r0 r1 r2 r3 : Nat, v = .agg #[.int .u8 (r0 : Nat), .int .u8 (r1 : Nat), .int .u8 (r2 : Nat), .int .u8 (r3 : Nat)] ∧ r0 < 256 ∧ r1 < 256 ∧ r2 < 256 ∧ r3 < 256 := by
  obtain ⟨cs, rfl, hl, hc⟩ := open_u8s Try.underlying23 (by kernel_rfl) hv h
  obtain ⟨r0, h0, e0⟩ := hc 0 (by decide)
  obtain ⟨r1, h1, e1⟩ := hc 1 (by decide)
  obtain ⟨r2, h2, e2⟩ := hc 2 (by decide)
  obtain ⟨r3, h3, e3⟩ := hc 3 (by decide)
  match cs, hl with
  | [a, b, c, d], _ =>
    simp at e0 e1 e2 e3
    subst e0 e1 e2 e3
    exact ⟨r0, r1, r2, r3, rfl, h0, h1, h2, h3⟩
end Go.Proofs.Ytlgnagmmljdkiac.Lx
