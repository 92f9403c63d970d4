/-
  What the reference's Then answers, as a contract: the same list of rows as that of package rel.
-/
import Derived.Test.YtokehiehfgffmaaDoorRRef
namespace Go.Proofs.YtokehiehfgffmaaDoor
open Go.RowKit
set_option linter.unusedVariables false
set_option linter.unusedSimpArgs false

/-- How far Then has come. -/
def done3 (xs ys : List Nat) (x y z i j : Nat) : Prop :=
  (i < x ∧ ∃ k, (R.row xs i).testBit k = true ∧ (R.row ys k).testBit j = true) ∨ (i = x ∧ ((∃ k, k < y ∧ (R.row xs x).testBit k = true ∧ (R.row ys k).testBit j = true) ∨ (j < z ∧ (R.row xs x).testBit y = true ∧ (R.row ys y).testBit j = true)))
theorem done3_hit {xs ys : List Nat} {x y z : Nat} (h : (R.row xs x).testBit y = true ∧ (R.row ys y).testBit z = true) (i j : Nat) : done3 xs ys x y (z + 1) i j ↔ done3 xs ys x y z i j ∨ (i = x ∧ j = z) := by
  unfold done3
  constructor
  · rintro (h1 | ⟨h1, h2 | ⟨h2, h3⟩⟩)
    · exact .inl (.inl h1)
    · exact .inl (.inr ⟨h1, .inl h2⟩)
    · by_cases e : j = z
      · exact .inr ⟨h1, e⟩
      · exact .inl (.inr ⟨h1, .inr ⟨by omega, h3⟩⟩)
  · rintro ((h1 | ⟨h1, h2 | ⟨h2, h3⟩⟩) | ⟨h1, h2⟩)
    · exact .inl h1
    · exact .inr ⟨h1, .inl h2⟩
    · exact .inr ⟨h1, .inr ⟨by omega, h3⟩⟩
    · subst h2
      exact .inr ⟨h1, .inr ⟨by omega, h⟩⟩
theorem done3_miss {xs ys : List Nat} {x y z : Nat} (h : ¬ ((R.row xs x).testBit y = true ∧ (R.row ys y).testBit z = true)) (i j : Nat) : done3 xs ys x y (z + 1) i j ↔ done3 xs ys x y z i j := by
  unfold done3
  constructor
  · rintro (h1 | ⟨h1, h2 | ⟨h2, h3⟩⟩)
    · exact .inl h1
    · exact .inr ⟨h1, .inl h2⟩
    · by_cases e : j = z
      · subst e
        exact absurd h3 h
      · exact .inr ⟨h1, .inr ⟨by omega, h3⟩⟩
  · rintro (h1 | ⟨h1, h2 | ⟨h2, h3⟩⟩)
    · exact .inl h1
    · exact .inr ⟨h1, .inl h2⟩
    · exact .inr ⟨h1, .inr ⟨by omega, h3⟩⟩
theorem done3_nextz {xs ys : List Nat} {n x y : Nat} (hD : ∀ i j, (R.row ys i).testBit j = true → j < n) (i j : Nat) : done3 xs ys x (y + 1) 0 i j ↔ done3 xs ys x y n i j := by
  unfold done3
  constructor
  · rintro (h1 | ⟨h1, ⟨k, hk, h2⟩ | ⟨h2, _⟩⟩)
    · exact .inl h1
    · by_cases e : k = y
      · subst e
        exact .inr ⟨h1, .inr ⟨hD _ _ h2.2, h2⟩⟩
      · exact .inr ⟨h1, .inl ⟨k, by omega, h2⟩⟩
    · omega
  · rintro (h1 | ⟨h1, ⟨k, hk, h2⟩ | ⟨_, h2⟩⟩)
    · exact .inl h1
    · exact .inr ⟨h1, .inl ⟨k, by omega, h2⟩⟩
    · exact .inr ⟨h1, .inl ⟨y, by omega, h2⟩⟩
theorem done3_nexty {xs ys : List Nat} {n x : Nat} (hC : ∀ i j, (R.row xs i).testBit j = true → j < n) (i j : Nat) : done3 xs ys (x + 1) 0 0 i j ↔ done3 xs ys x n 0 i j := by
  unfold done3
  constructor
  · rintro (⟨h1, k, h2⟩ | ⟨h1, ⟨k, hk, h2⟩ | ⟨h2, _⟩⟩)
    · by_cases e : i = x
      · subst e
        exact .inr ⟨rfl, .inl ⟨k, hC _ _ h2.1, h2⟩⟩
      · exact .inl ⟨by omega, k, h2⟩
    · omega
    · omega
  · rintro (⟨h1, k, h2⟩ | ⟨h1, ⟨k, hk, h2⟩ | ⟨h2, _⟩⟩)
    · exact .inl ⟨by omega, k, h2⟩
    · subst h1
      exact .inl ⟨by omega, k, h2⟩
    · omega
theorem done3_all {xs ys : List Nat} {n i j : Nat} (hi : i < n) : (∃ k, (R.row xs i).testBit k = true ∧ (R.row ys k).testBit j = true) ↔ done3 xs ys n 0 0 i j := by
  unfold done3
  constructor
  · exact fun h => .inl ⟨hi, h⟩
  · rintro (h | ⟨h, _⟩)
    · exact h.2
    · omega
theorem rthen_bits (xs ys : List Nat) (hwx : R.Words xs) (hwy : R.Words ys) (hal : R.alikeR xs ys = true) : Bits xs.length (R.thenR xs ys) (fun i j => ∃ k, (R.row xs i).testBit k = true ∧ (R.row ys k).testBit j = true) := by
  unfold R.thenR
  rw [if_pos hal]
  refine Bits.tab (fun i _ => R.intoN_lt _ _ hwy) fun i j hi hj => ?_
  rw [R.intoN_bit]
  exact ⟨fun ⟨k, _, h1, h2⟩ => ⟨k, h1, h2⟩, fun ⟨k, h1, h2⟩ => ⟨k, (R.may_bit hwx (R.alike_iff.1 hal).2.1 h1).2.2, h1, h2⟩⟩

end Go.Proofs.YtokehiehfgffmaaDoor
