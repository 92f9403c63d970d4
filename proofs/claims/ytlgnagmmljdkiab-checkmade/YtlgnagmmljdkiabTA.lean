/-
  What Expr of the document's answer tells, as a contract: an expression's text.
-/
import Derived.Test.YtlgnagmmljdkiabLDig
import Derived.Test.YtlgnagmmljdkiabPSame
import Derived.Test.YtlgnagmmljdkiabSA
import Derived.Deep.RegionHeld3
import Derived.Test.YtlgnagmmljdkiabPSameC
namespace Go.Proofs.Ytlgnagmmljdkiab.Lx
open Go.RowKit
open L (Tok)
open P (EX CO ST TX)
set_option maxRecDepth 100000
set_option linter.unusedVariables false
set_option linter.unusedSimpArgs false
def KidTo (F : ByteArray) (wb : World) (e : Ending) (w' : World) : Prop := e = .returned (.string F) ∧ Below wb.heap.size wb w'
theorem below_one (w : World) : Below w.heap.size w w.drew := ⟨rfl, rfl, rfl, Nat.le_refl _, fun _ _ => rfl⟩
end Go.Proofs.Ytlgnagmmljdkiab.Lx
/-
  What Expr of the document's answer tells, as a contract: an expression's text, whole.
-/
namespace Go.Proofs.Ytlgnagmmljdkiab.Lx
open Go.RowKit
open L (Tok)
open P (EX CO ST TX)
set_option maxRecDepth 100000
set_option linter.unusedVariables false
set_option linter.unusedSimpArgs false
theorem top_le {n : Nat} (h : n ≤ L.top) : (n : Int) ≤ 9223372036854775807 := by
  unfold L.top at h
  omega
theorem txt_bin (ta m s tb : List UInt8) (hm : m = [32] ++ (s ++ [32])) : (((bs [40] ++ bs ta) ++ bs m) ++ bs tb) ++ bs [41] = bs ([40] ++ (ta ++ ([32] ++ (s ++ ([32] ++ (tb ++ [41])))))) := by
  subst hm
  simp only [bs_app]
  simp
end Go.Proofs.Ytlgnagmmljdkiab.Lx
/-
  What Cond of the document's answer tells, as a contract: a condition's text.
-/
namespace Go.Proofs.Ytlgnagmmljdkiab.Lx
open Go.RowKit
open L (Tok)
open P (EX CO ST TX TC)
set_option maxRecDepth 100000
set_option linter.unusedVariables false
set_option linter.unusedSimpArgs false
end Go.Proofs.Ytlgnagmmljdkiab.Lx
/-
  What Cond of the document's answer tells, as a contract: a condition's text, whole.
-/
namespace Go.Proofs.Ytlgnagmmljdkiab.Lx
open Go.RowKit
open L (Tok)
open P (EX CO ST TX TC)
set_option maxRecDepth 100000
set_option linter.unusedVariables false
set_option linter.unusedSimpArgs false
theorem digits_kid (n : Nat) (hn : n ≤ L.top) (wb w' : World) (hw : Below wb.heap.size wb w') : Calls Try.prog 14 #[.int .i64 (n : Nat)] w' (KidTo (bs (L.decL n)) wb) :=
  (digits_any n w' (top_le hn)).mono fun e w2 h => ⟨h.1, hw.trans (h.2.mono hw.size)⟩
theorem dec_size {n : Nat} (hn : n ≤ L.top) : (bs (L.decL n)).size ≤ 19 := by
  rw [bs_size]
  exact dec_max n (top_le hn)
end Go.Proofs.Ytlgnagmmljdkiab.Lx
/-
  What in and Mode of the document's answer tell, as contracts.
-/
namespace Go.Proofs.Ytlgnagmmljdkiab.Lx
open Go.RowKit
open L (Tok)
open P (EX CO ST TX TC)
set_option maxRecDepth 100000
set_option linter.unusedVariables false
set_option linter.unusedSimpArgs false
theorem ind_succ (d : Nat) : bs (P.ind d) ++ ⟨#[32, 32]⟩ = bs (P.ind (d + 1)) := by
  show bs (P.ind d) ++ bs [32, 32] = _
  rw [bs_app]
  congr 1
  unfold P.ind
  rw [show ([32, 32] : List UInt8) = List.replicate 2 32 from rfl, List.replicate_append_replicate]
  congr 1
theorem ind_size (d : Nat) : (bs (P.ind d)).size = 2 * d := by
  rw [bs_size]
  simp [P.ind]
end Go.Proofs.Ytlgnagmmljdkiab.Lx
