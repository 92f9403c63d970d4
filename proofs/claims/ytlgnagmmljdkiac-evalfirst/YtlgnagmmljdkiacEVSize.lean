/-
  What ExprSize tells, as a contract: how many parts an expression has.
-/
import Derived.Test.YtlgnagmmljdkiacOX
import Derived.Test.YtlgnagmmljdkiacEVMath
import Derived.Test.YtlgnagmmljdkiacPSame
import Derived.Test.YtlgnagmmljdkiacLDig

namespace Go.Proofs.Ytlgnagmmljdkiac.Lx
open Go.RowKit
open P (EX ev ev2 plI jn evA askD askDs szX szL)
set_option maxRecDepth 100000
set_option linter.unusedVariables false
set_option linter.unusedSimpArgs false

theorem szL_nil (d n : Nat) : szL d n [] = n := by unfold P.szL; rfl
theorem szL_cons (d n : Nat) (e : EX) (es : List EX) : szL d n (e :: es) = if 300 < n + szX d e then n + szX d e else szL d (n + szX d e) es := by rw [P.szL]
theorem szX_no {d : Nat} {o k : Int} {s : List UInt8} {ks : List EX} (h : 12 < d ∨ 20 < ks.length ∨ 40 < s.length) : szX d (.mk o k s ks) = 301 := by
  unfold P.szX
  rw [if_pos h]
theorem szX_go {d : Nat} {o k : Int} {s : List UInt8} {ks : List EX} (h : ¬ (12 < d ∨ 20 < ks.length ∨ 40 < s.length)) : szX d (.mk o k s ks) = szL (d + 1) 1 ks := by
  unfold P.szX
  rw [if_neg h]
theorem szL_step {d n j : Nat} {ks : List EX} {x : EX} (h : ks[j]? = some x) : szL d n (ks.drop j) = if 300 < n + szX d x then n + szX d x else szL d (n + szX d x) (ks.drop (j + 1)) := by
  obtain ⟨hj, he⟩ := List.getElem?_eq_some_iff.1 h
  rw [List.drop_eq_getElem_cons hj, he]
  exact szL_cons d n x _
def SizeTo (r : Nat) (w : World) (e : Ending) (w' : World) : Prop := e = .returned (.int .i64 (r : Nat)) ∧ Below w.heap.size w w'
theorem one_belowX (w : World) (o : Obj) : Below w.heap.size w (w.alloc o) := (Below.refl _ _).alloc (Nat.le_refl _) _
end Go.Proofs.Ytlgnagmmljdkiac.Lx
