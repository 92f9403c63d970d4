/-
  The first look of the statements of layer 1 ('begun') answers true, and leaves what was there as it was.
-/
import Derived.Test.YtkkkidilopeogaaDoorBList
namespace Go.Proofs.YtkkkidilopeogaaDoor
open Go.RowKit

theorem b_of (g : Nat) (w : World) (hc : ∀ i, i < 4 → w.cell? ⟨g, 0 + i, none⟩ = some (.int .i64 ([3, 1, 3, 64].getD i 0))) :
    Calls Tryd.prog 10 #[.slice (some ⟨g, 0, none⟩) 4 4] w fun e w' => e = .returned (.int .u64 10) ∧ w = w' := by
  have h := of_some g 0 4 4 [3, 1, 3, 64] w rfl (by decide) hc
  rwa [show ofN [3, 1, 3, 64] = 10 by decide] at h
theorem b_list (w : World) (hg : 0 < w.heap.size) (hT : Tab w) :
    Calls Tryd.prog 13 #[.int .u64 10] w fun e w' => ∃ g cap, e = .returned (.slice (some ⟨g, 0, none⟩) 2 cap) ∧ w'.cell? ⟨g, 1, none⟩ = some (.int .i64 3) ∧ Below w.heap.size w w' ∧ Tab w' := by
  refine (list_any 10 w (by decide) hg hT).mono ?_
  rintro e w' ⟨g, cap, rfl, hown, hb, hT'⟩
  have hk : M.cnt 10 = 2 := by decide
  rw [hk] at hown ⊢
  refine ⟨g, cap, rfl, ?_, hb, hT'⟩
  have h := hown.cells (g := g) rfl 1 (.int .i64 3) (by
    have e : M.bi 10 = [1, 3] := by decide
    rw [e]
    rfl)
  simpa [Addr.add] using h
theorem b_has (w : World) : Calls Tryd.prog 16 #[.int .u64 10, .int .i64 1] w fun e w' => e = .returned (.bool true) ∧ w = w' := by
  have h := has_any 10 1 w (by decide)
  rwa [show M.hasB 10 1 = true by decide] at h
theorem b_put (w : World) : Calls Tryd.prog 18 #[.int .u64 0, .int .i64 2] w fun e w' => e = .returned (.int .u64 4) ∧ w = w' := by
  have h := put_any 0 2 w (by decide)
  rwa [show M.putN 0 2 = 4 by decide] at h
theorem b_drop (w : World) : Calls Tryd.prog 20 #[.int .u64 10, .int .i64 1] w fun e w' => e = .returned (.int .u64 8) ∧ w = w' := by
  have h := drop_any 10 1 w (by decide)
  rwa [show M.dropN 10 1 = 8 by decide] at h
theorem b_count (w : World) : Calls Tryd.prog 22 #[.int .u64 10] w fun e w' => e = .returned (.int .i64 2) ∧ w = w' := by
  have h := count_any 10 w (by decide)
  rwa [show M.cnt 10 = 2 by decide] at h
theorem b_first (w : World) (hT : Tab w) : Calls Tryd.prog 23 #[.int .u64 10] w fun e w' => e = .returned (.int .i64 1) ∧ w = w' := by
  have h := first_any 10 w (by decide) hT
  rwa [show M.firstI 10 = 1 by decide] at h
theorem b_first0 (w : World) (hT : Tab w) : Calls Tryd.prog 23 #[.int .u64 0] w fun e w' => e = .returned (.int .i64 (-1)) ∧ w = w' := by
  have h := first_any 0 w (by decide) hT
  rwa [show M.firstI 0 = -1 by decide] at h
theorem b_last (w : World) : Calls Tryd.prog 24 #[.int .u64 10] w fun e w' => e = .returned (.int .i64 3) ∧ w = w' := by
  have h := last_any 10 w (by decide)
  rwa [show M.lastI 10 = 3 by decide] at h
theorem b_range (w : World) : Calls Tryd.prog 14 #[.int .i64 (-5), .int .i64 2] w fun e w' => e = .returned (.int .u64 3) ∧ w = w' := by
  have h := range_any (-5) 2 w
  rwa [show M.rangeN (-5) 2 = 3 by decide] at h
theorem b_within (w : World) : Calls Tryd.prog 25 #[.int .u64 2, .int .u64 10] w fun e w' => e = .returned (.bool true) ∧ w = w' := by
  have h := within_any 2 10 w (by decide) (by decide)
  rwa [show M.withinB 2 10 = true by decide] at h

set_option maxHeartbeats 1000000 in
theorem begun_any (w : World) (hg : 0 < w.heap.size) (hT : Tab w) :
    Calls Tryd.prog 8 #[] w fun e w' => e = .returned (.bool true) ∧ Below w.heap.size w w' ∧ Tab w' := by
  go_enter Tryd.func8, Tryd.ntmps8
  have hb0 : Below w.heap.size w (w.alloc (.cells #[.int .i64 3, .int .i64 1, .int .i64 3, .int .i64 64] 3)) := (Below.refl _ _).alloc (Nat.le_refl _) _
  have hT0 := hT.below hg hb0
  have hc0 : ∀ i, i < 4 → (w.alloc (.cells #[.int .i64 3, .int .i64 1, .int .i64 3, .int .i64 64] 3)).cell? ⟨w.heap.size, 0 + i, none⟩ = some (.int .i64 (([3, 1, 3, 64] : List Int).getD i 0)) := by
    intro i hi
    match i, hi with
    | 0, _ => simp
    | 1, _ => simp
    | 2, _ => simp
    | 3, _ => simp
  have HC0 := Lib.hid hc0
  clear hc0
  go_wp2_with fail
  refine (b_of w.heap.size _ HC0.out).mono ?_
  rintro e w1 ⟨rfl, rfl⟩
  go_wp2_with fail
  refine (b_list _ (by simp) hT0).mono ?_
  rintro e w1 ⟨g, cap, rfl, hc1, hb1, hT1⟩
  go_wp2_with fail
  refine (b_has _).mono ?_
  rintro e w2 ⟨rfl, rfl⟩
  go_wp2_with fail
  refine (b_put _).mono ?_
  rintro e w2 ⟨rfl, rfl⟩
  go_wp2_with fail
  refine (b_drop _).mono ?_
  rintro e w2 ⟨rfl, rfl⟩
  go_wp2_with fail
  refine (b_count _).mono ?_
  rintro e w2 ⟨rfl, rfl⟩
  go_wp2_with fail
  refine (b_first _ hT1).mono ?_
  rintro e w2 ⟨rfl, rfl⟩
  go_wp2_with fail
  refine (b_last _).mono ?_
  rintro e w2 ⟨rfl, rfl⟩
  go_wp2_with fail
  refine (b_first0 _ hT1).mono ?_
  rintro e w2 ⟨rfl, rfl⟩
  go_wp2_with fail
  refine (b_range _).mono ?_
  rintro e w2 ⟨rfl, rfl⟩
  go_wp2_with fail
  refine (b_within _).mono ?_
  rintro e w2 ⟨rfl, rfl⟩
  go_wp2
  go_ret
  exact ⟨rfl, hb0.trans (hb1.mono (by simp)), hT1⟩
end Go.Proofs.YtkkkidilopeogaaDoor
