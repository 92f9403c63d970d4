/-
  The statement BitsOne's own call returns true, whatever the word and the two numbers, and leaves what was there as it was.
-/
import Derived.Test.YtkkkidilopeogaaDoorBBegun
namespace Go.Proofs.YtkkkidilopeogaaDoor
open Go.RowKit
set_option linter.unusedVariables false
set_option linter.unusedSimpArgs false

theorem cnt_put_drop (s a : Nat) (hs : s < 2 ^ 64) (ha : a < 64) : M.cnt (M.putN s (a : Int)) = M.cnt (M.dropN s (a : Int)) + 1 := by
  have e1 : M.bl (M.putN s (a : Int)) = (List.range 64).filter (fun j => s.testBit j || decide (a = j)) := by
    unfold M.bl
    apply List.filter_congr
    intro j hj
    rw [M.putN_testBit s _ j (List.mem_range.1 hj), show decide (((a : Nat) : Int) = (j : Int)) = decide (a = j) from decide_eq_decide.2 (by omega)]
  have e2 : M.bl (M.dropN s (a : Int)) = (List.range 64).filter (fun j => s.testBit j && !decide (a = j)) := by
    unfold M.bl
    apply List.filter_congr
    intro j hj
    rw [M.dropN_testBit s _ j (List.mem_range.1 hj) hs, show decide (((a : Nat) : Int) = (j : Int)) = decide (a = j) from decide_eq_decide.2 (by omega)]
  unfold M.cnt
  rw [e1, e2]
  have key : ∀ n, ((List.range n).filter (fun j => s.testBit j || decide (a = j))).length = ((List.range n).filter (fun j => s.testBit j && !decide (a = j))).length + (if a < n then 1 else 0) := by
    intro n
    induction n with
    | zero => simp
    | succ n ih =>
      rw [List.range_succ, List.filter_append, List.filter_append, List.length_append, List.length_append, ih]
      by_cases h1 : a = n
      · subst h1
        simp [List.filter_cons]
      · by_cases h2 : a < n
        · have h3 : a < n + 1 := by omega
          cases hsn : s.testBit n <;> simp [List.filter_cons, hsn, h1, h2, h3] <;> omega
        · have h3 : ¬ a < n + 1 := by omega
          cases hsn : s.testBit n <;> simp [List.filter_cons, hsn, h1, h2, h3]
  rw [key 64]
  simp [ha]

set_option maxHeartbeats 2000000 in
theorem one_core (s i k a b p d : Nat) (w : World) (hg : 0 < w.heap.size) (hT : Tab w) (hs : s < 2 ^ 64) (hi : i < 256) (hk : k < 256)
    (ka : (i : Int) % 64 = (a : Int)) (kb : (k : Int) % 64 = (b : Int)) (kp : M.putN s (a : Int) = p) (kd : M.dropN s (a : Int) = d) (hp : p < 2 ^ 64) (hd : d < 2 ^ 64)
    (h1 : M.hasB p (a : Int) = true) (h2 : M.hasB d (a : Int) = false) (cp : M.cnt p ≤ 64) (cd : M.cnt d ≤ 64) (h3 : ((M.cnt p : Int) != (M.cnt d : Int) + 1) = false)
    (h4 : ((p : Int) != (s : Int)) = false ∨ (((p : Int) != (s : Int)) = true ∧ ((d : Int) != (s : Int)) = false))
    (h5 : ((a : Int) == (b : Int)) = true ∨ (((a : Int) == (b : Int)) = false ∧ M.hasB p (b : Int) = M.hasB s (b : Int) ∧ M.hasB d (b : Int) = M.hasB s (b : Int))) :
    Calls Tryd.prog 5 #[.int .u64 s, .int .u8 i, .int .u8 k] w fun e w' => e = .returned (.bool true) ∧ Below w.heap.size w w' := by
  rcases h4 with h4 | ⟨h4, h4'⟩ <;> rcases h5 with h5 | ⟨h5, h6, h7⟩
  all_goals
    go_enter Tryd.func5, Tryd.ntmps5
    go_wp2_with (first | (go_at_call 8; refine (begun_any _ hg hT).mono ?_; rintro e w1 ⟨rfl, hb1, hT1⟩) | (go_at_call 18; refine (put_any _ _ _ (by assumption)).mono ?_; rintro e w2 ⟨rfl, rfl⟩) | (go_at_call 20; refine (drop_any _ _ _ (by assumption)).mono ?_; rintro e w2 ⟨rfl, rfl⟩) | (go_at_call 16; refine (has_any _ _ _ (by assumption)).mono ?_; rintro e w2 ⟨rfl, rfl⟩) | (go_at_call 22; refine (count_any _ _ (by assumption)).mono ?_; rintro e w2 ⟨rfl, rfl⟩))
    go_ret
    first | exact ⟨rfl, by assumption⟩ | exact ⟨ret_bool (by simp), by assumption⟩

theorem one_walk (s i k : Nat) (w : World) (hg : 0 < w.heap.size) (hT : Tab w) (hs : s < 2 ^ 64) (hi : i < 256) (hk : k < 256) :
    Calls Tryd.prog 5 #[.int .u64 s, .int .u8 i, .int .u8 k] w fun e w' => e = .returned (.bool true) ∧ Below w.heap.size w w' := by
  have ha : i % 64 < 64 := by omega
  have hb : k % 64 < 64 := by omega
  have hp := M.putN_lt s (i % 64 : Nat) hs
  have hd := M.dropN_lt s (i % 64 : Nat) hs
  have tp := fun j hj => M.putN_testBit s (i % 64 : Nat) j hj
  have td := fun j hj => M.dropN_testBit s (i % 64 : Nat) j hj hs
  refine one_core s i k (i % 64) (k % 64) _ _ w hg hT hs hi hk (by omega) (by omega) rfl rfl hp hd ?_ ?_ (M.cnt_le _) (M.cnt_le _) ?_ ?_ ?_
  · rw [M.hasB_nat _ _ hp, tp _ ha]
    simp
  · rw [M.hasB_nat _ _ hd, td _ ha]
    simp
  · rw [cnt_put_drop s _ hs ha]
    simp
  · cases hsa : s.testBit (i % 64)
    · have e : M.dropN s (i % 64 : Nat) = s := M.ext _ _ hd hs (fun j hj => by
        rw [td j hj]
        by_cases hij : i % 64 = j
        · subst hij
          simp [hsa]
        · have : ¬ ((i % 64 : Nat) : Int) = (j : Int) := by omega
          rw [decide_eq_false this]
          simp)
      rw [e]
      by_cases h : ((M.putN s (i % 64 : Nat) : Int) != (s : Int)) = true
      · exact .inr ⟨h, by simp⟩
      · exact .inl (by simpa using h)
    · have e : M.putN s (i % 64 : Nat) = s := M.ext _ _ hp hs (fun j hj => by
        rw [tp j hj]
        by_cases hij : i % 64 = j
        · subst hij
          simp [hsa]
        · have : ¬ ((i % 64 : Nat) : Int) = (j : Int) := by omega
          rw [decide_eq_false this]
          simp)
      rw [e]
      exact .inl (by simp)
  · by_cases h : i % 64 = k % 64
    · rw [h]
      exact .inl (by simp)
    · refine .inr ⟨by simp; omega, ?_, ?_⟩
      · rw [M.hasB_nat _ _ hp, M.hasB_nat _ _ hs, tp _ hb]
        have : ¬ ((i % 64 : Nat) : Int) = ((k % 64 : Nat) : Int) := by omega
        rw [decide_eq_false this]
        simp
      · rw [M.hasB_nat _ _ hd, M.hasB_nat _ _ hs, td _ hb]
        have : ¬ ((i % 64 : Nat) : Int) = ((k % 64 : Nat) : Int) := by omega
        rw [decide_eq_false this]
        simp
end Go.Proofs.YtkkkidilopeogaaDoor
