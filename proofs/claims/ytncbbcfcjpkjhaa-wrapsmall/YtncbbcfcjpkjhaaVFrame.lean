/-
  What the rows of layer 5 are opened with. It proves nothing of Go by itself.
-/
import Derived.Test.YtncbbcfcjpkjhaaRows
import Derived.ProofKit
import Derived.OpenShut
import Derived.ChangeOld
import Derived.SizedLaws
namespace Go.Proofs.Ytncbbcfcjpkjhaa.Wr
open Go.RowKit
theorem own : ownKnob Try.prog.godebug = none := by kernel_rfl
end Go.Proofs.Ytncbbcfcjpkjhaa.Wr
