/-
  What the developers' cursor keeps of its parts: part, as a contract.
-/
import Derived.Test.YtchokfgffnomoaaDoorDB
import Derived.Test.YtchokfgffnomoaaDoorPPlc
import Derived.Deep.RegionLaw
import Derived.Deep.AppendLies
namespace Go.Proofs.YtchokfgffnomoaaDoor.Lx
open Go.RowKit
open L (Tok)
set_option maxRecDepth 100000
set_option linter.unusedVariables false
set_option linter.unusedSimpArgs false
theorem Tryd.infoInt : (Tryd.prog.info? 3).map (fun i => (i.zero, i.size, i.bytes)) = some (some (.int .i64 0), 1, 8) := by kernel_rfl
/-- The blocks that turn while a cursor goes on: its own, and that of its places. -/
def Pb (C : Nat) (pv : Value) (b : Nat) : Prop := b = C ∨ pv.ownBlock = some b
/-- The places lie where they lay, or in new memory. -/
def Fr (pv pv' : Value) (n : Nat) : Prop := ∀ k, pv'.ownBlock = some k → pv.ownBlock = some k ∨ n ≤ k
theorem Fr.refl (pv : Value) (n : Nat) : Fr pv pv n := fun _ h => .inl h
theorem Fr.trans {a b c : Value} {n m : Nat} (h : Fr a b n) (k : Fr b c m) (hn : n ≤ m) : Fr a c n := fun j hj => by
  rcases k j hj with h1 | h1
  · exact h j h1
  · exact .inr (by omega)
theorem Only.grown' {S : Nat → Prop} {a b c : World} (h : Only S a b) {row : Option Nat} (hg : b.grownBy c row) (hr : ∀ k, row = some k → S k ∨ a.heap.size ≤ k) : Only S a c :=
  ⟨hg.os.trans h.os, hg.tape.trans h.tape, hg.output.trans h.output, Nat.le_trans h.size hg.size, fun k hk hn =>
    (hg.block k (Nat.lt_of_lt_of_le hk h.size) (fun e => by
      rcases hr k e.symm with h1 | h1
      · exact hn h1
      · omega)).trans (h.block k hk hn)⟩
theorem one_new (w : World) (n : Int) (t : TypeId) : ∀ j u, [Value.int .i64 n][j]? = some u → (w.alloc (.cells #[.int .i64 n] t)).cell? ((⟨w.heap.size, 0, none⟩ : Addr).add j) = some u := by
  intro j u hu
  match j with
  | 0 =>
    have e : u = .int .i64 n := by simpa using hu.symm
    subst e
    exact (Blk.new w t #[.int .i64 n]).cell 0
  | j + 1 => simp at hu
theorem one_one (n : Int) : ∀ u ∈ [Value.int .i64 n], u.oneCell' = true := by
  intro u hu
  simp at hu
  subst hu
  rfl
theorem below_drew {w w' : World} {n k : Nat} (h : Below n (w.drewN k) w') : Below n w w' := ⟨h.os, h.tape, h.output, h.size, h.block⟩
end Go.Proofs.YtchokfgffnomoaaDoor.Lx
