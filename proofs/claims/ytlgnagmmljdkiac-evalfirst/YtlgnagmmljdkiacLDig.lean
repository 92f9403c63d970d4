/-
  What Digits of the document's answer tells of numbers from 0 on, as a contract.
-/
import Derived.Test.YtlgnagmmljdkiacPA
import Derived.Laws.BytesString
namespace Go.Proofs.Ytlgnagmmljdkiac.Lx
open Go.RowKit
set_option maxRecDepth 100000
set_option linter.unusedVariables false
set_option linter.unusedSimpArgs false
/-- A text is told, and nothing old turns. -/
def TextTo (s : ByteArray) (w : World) (e : Ending) (w' : World) : Prop := e = .returned (.string s) ∧ Below w.heap.size w w'
/-- A text of one byte. -/
theorem conv_one (w : World) (x : Int) (b : UInt8) (hx : x = (b.toNat : Int)) : (convert 22 9 (.slice (some ⟨w.heap.size, 0, none⟩) 1 1)).run Try.prog (w.alloc (.cells #[.int .u8 x] 5)) = .ok (.string (bs [b])) (w.alloc (.cells #[.int .u8 x] 5)) := by
  rw [run_convert_bytes_string _ _ _ 5 _ _ _ Try.underlying22 Try.underlying5 Try.underlying9]
  rw [run_bytesToString _ ⟨w.heap.size, 0, none⟩ 1 1 [x] (by
    have hc : (w.alloc (.cells #[.int .u8 x] 5)).cell? ⟨w.heap.size, 0, none⟩ = some (.int .u8 x) := (Blk.new w 5 #[.int .u8 x]).cell 0
    simp [loadCells, hc, go_sem])]
  subst hx
  have : UInt8.ofNat ((b.toNat : Int)).toNat = b := by simp
  rw [List.foldl_cons, List.foldl_nil, this]
  rfl
theorem bs_app (a b : List UInt8) : bs a ++ bs b = bs (a ++ b) := ByteArray.mk_append_mk a b
theorem bs_size (a : List UInt8) : (bs a).size = a.length := by rw [← by_len, by_bs]
theorem dec_max (n : Nat) (h : (n : Int) ≤ 9223372036854775807) : (L.decL n).length ≤ 19 := L.dec_len n 18 (by
  have h10 : (10 : Nat) ^ (18 + 1) = 10000000000000000000 := by decide
  omega)
end Go.Proofs.Ytlgnagmmljdkiac.Lx
