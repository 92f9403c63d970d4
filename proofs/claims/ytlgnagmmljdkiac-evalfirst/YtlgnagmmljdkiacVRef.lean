/-
  What the documents' answer of layer 5 tells, as contracts: each returns what the plain function of the same kind says, and leaves the world as it was.
-/
import Derived.Test.YtlgnagmmljdkiacVStop
import Derived.OpenShut
namespace Go.Proofs.Ytlgnagmmljdkiac.Wr
open Go.RowKit
set_option linter.unusedVariables false
theorem addI_i64 (a b n : Int) : I64 (V.addI a b n) := in_i64 _ _
theorem mulI_i64 (a b n : Int) : I64 (V.mulI a b n) := in_i64 _ _
theorem plusI_i64 (a b : Int) : I64 (V.plusI a b) := (show Held (V.plusI a b) from V.plus_bd a b).i64
theorem timesI_i64 (a b : Int) : I64 (V.timesI a b) := (show Held (V.timesI a b) from V.times_bd a b).i64
theorem powI_i64 (a b : Int) : I64 (V.powI a b) := (show Held (V.powI a b) from V.powI_bd a b).i64
theorem i64_of {n : Int} (h : (Lit.int .i64 n).wf = true) : I64 n := bounds_i64 h
/-- A round of multiplying by adding: how x, y, out, k stand. -/
def MulR (a b n : Int) (x y o k : Value) : Prop := ∃ (u v r : Int) (i : Nat), V.MulS a b n i u v r ∧ x = .int .i64 u ∧ y = .int .i64 v ∧ o = .int .i64 r ∧ k = .int .i64 i ∧ i ≤ 32
theorem y32 {a b n : Int} {i : Nat} {x y o : Int} (h : V.MulS a b n i x y o) : y ≤ 4294967296 := by
  have h1 := h.y1
  have h2 : (2 : Int) ^ (32 - i) ≤ 2 ^ 32 := V.pow_mono (by omega) (by omega)
  have h3 : (2 : Int) ^ 32 = 4294967296 := by decide
  omega
/-- A round of the power step by step: how out and i stand. -/
def PowR (x k : Int) (o i : Value) : Prop := ∃ (r : Int) (j : Nat), V.PowS x k j r ∧ o = .int .i64 r ∧ i = .int .i64 j
end Go.Proofs.Ytlgnagmmljdkiac.Wr
