/-
  What strconv.Itoa tells, as a contract.
-/
import Derived.Test.YtchokfgffnomoaaDoorSHShelf
import Derived.Test.YtchokfgffnomoaaDoorPTDig
import Derived.Lib.AppendIntMem
namespace Go.Proofs.YtchokfgffnomoaaDoor.Lx
open Go.RowKit
open P (xN)
set_option maxRecDepth 100000
set_option linter.unusedVariables false
set_option linter.unusedSimpArgs false
/-- The name of the library's table of powers of ten. -/
def powNm : String := Rows.showAllRow.named.headD Rows.showAllRow.func
/-- The library's table is as it is laid, whatever turns from B on. -/
def Tp (B : Nat) (w : World) : Prop := Lib.TabBelow Tryd.prog B w powNm .u64 Lib.pow10Tab
theorem Tp.step {B : Nat} {w w' : World} (h : Tp B w) (hb : Below B w w') : Tp B w' := fun w2 h2 => h w2 (hb.trans h2)
theorem Tp.low {B : Nat} {w w' : World} (h : Tp B w) (hB : B ≤ w.heap.size) (hb : Below w.heap.size w w') : Tp B w' := h.step (hb.mono hB)
theorem dec_sameP (n : Nat) : Lib.decDigits n = L.decL n := by
  induction n using Nat.strongRecOn with
  | ind n ih =>
    by_cases h : n < 10
    · rw [Lib.decDigits, dif_pos h, L.dec_small h]
    · rw [Lib.decDigits, dif_neg h, L.dec_great h, ih (n / 10) (by omega)]
theorem itoa_sameP (n : Int) : Lib.itoa n = xN n := by
  unfold Lib.itoa P.xN
  rw [dec_sameP, dec_sameP]
theorem tab_castP {P : Program} {w : World} {k : IntKind} {zs : List Int} {s s' : String} (h : Lib.TabIs P w s k zs) (e : s = s') : Lib.TabIs P w s' k zs := e ▸ h
theorem itoaP_any {B : Nat} {w : World} (n : Int) (hn : W64 n) (ht : Tp B w) (hB : B ≤ w.heap.size) : Calls Tryd.prog 63 #[.int .i64 n] w (fun e w' => e = .returned (.string (bs (xN n))) ∧ Below w.heap.size w w') := by
  have h1 : Lib.TabIs Tryd.prog w powNm .u64 Lib.pow10Tab := ht.here
  refine (show Calls Tryd.prog 63 #[.int .i64 n] w fun e w' => e = .returned (.string ⟨(Lib.itoa n).toArray⟩) ∧ ∃ k os, w' = Go.Sort.grow (w.drewN k) os from Any.strconv_Itoa Tryd.laysM171 n hn.1 hn.2 w (tab_castP h1 (by kernel_rfl))).mono ?_
  rintro e w' ⟨rfl, k, os, rfl⟩
  rw [itoa_sameP]
  exact ⟨rfl, Lib.below_grow _ w (Nat.le_refl _) k os⟩
end Go.Proofs.YtchokfgffnomoaaDoor.Lx
