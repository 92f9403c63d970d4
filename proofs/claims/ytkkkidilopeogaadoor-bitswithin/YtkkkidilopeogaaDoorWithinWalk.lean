/-
  The statement BitsWithin's own call returns true, whatever the three words, and leaves what was there as it was.
-/
import Derived.Test.YtkkkidilopeogaaDoorBBegun
namespace Go.Proofs.YtkkkidilopeogaaDoor
open Go.RowKit

theorem cnt_mono (s t : Nat) (h : ∀ j, j < 64 → s.testBit j = true → t.testBit j = true) : M.cnt s ≤ M.cnt t := by
  unfold M.cnt M.bl
  have key : ∀ l : List Nat, (∀ j ∈ l, j < 64) → (l.filter fun i => s.testBit i).length ≤ (l.filter fun i => t.testBit i).length := by
    intro l
    induction l with
    | nil => intro _; simp
    | cons x l ih =>
      intro hl
      have := ih (fun j hj => hl j (List.mem_cons_of_mem _ hj))
      have hx := h x (hl x (List.mem_cons_self ..))
      rw [List.filter_cons, List.filter_cons]
      cases hs : s.testBit x
      · cases ht : t.testBit x <;> simp <;> omega
      · rw [hx hs]
        simp
        omega
  exact key _ (fun j hj => List.mem_range.1 hj)
theorem cnt_sum (s t : Nat) : M.cnt s + M.cnt t = M.cnt (s ||| t) + M.cnt (s &&& t) := by
  unfold M.cnt M.bl
  have key : ∀ l : List Nat, (l.filter fun i => s.testBit i).length + (l.filter fun i => t.testBit i).length = (l.filter fun i => (s ||| t).testBit i).length + (l.filter fun i => (s &&& t).testBit i).length := by
    intro l
    induction l with
    | nil => simp
    | cons x l ih =>
      simp only [List.filter_cons, Nat.testBit_or, Nat.testBit_and] at ih ⊢
      cases s.testBit x <;> cases t.testBit x <;> simp <;> omega
  exact key _

set_option maxHeartbeats 2000000 in
theorem within_core (s t u a o : Nat) (w : World) (hg : 0 < w.heap.size) (hT : Tab w) (hs : s < 2 ^ 64) (ht : t < 2 ^ 64) (hu : u < 2 ^ 64) (ha : a < 2 ^ 64) (ho : o < 2 ^ 64)
    (k1 : bits BinOp.and IntKind.u64 (s : Int) (t : Int) = (a : Int)) (k2 : bits BinOp.or IntKind.u64 (s : Int) (t : Int) = (o : Int))
    (h1 : M.withinB a s = true) (h2 : M.withinB s o = true)
    (h3 : M.withinB s t = true → M.withinB t s = ((s : Int) == (t : Int)))
    (h4 : M.withinB s t = true → M.withinB t u = true → M.withinB s u = true)
    (h5 : M.withinB s t = true → M.cnt s ≤ M.cnt t) (h6 : M.cnt s + M.cnt t = M.cnt o + M.cnt a) :
    Calls Tryd.prog 7 #[.int .u64 s, .int .u64 t, .int .u64 u] w fun e w' => e = .returned (.bool true) ∧ Below w.heap.size w w' := by
  have c1 := M.cnt_le s
  have c2 := M.cnt_le t
  have c3 := M.cnt_le o
  have c4 := M.cnt_le a
  have b6 : ((M.cnt s : Int) + (M.cnt t : Int) == (M.cnt o : Int) + (M.cnt a : Int)) = true := by simp; omega
  clear h6
  cases hp : M.withinB s t
  · clear h3 h4 h5
    go_enter Tryd.func7, Tryd.ntmps7
    go_wp2_with (first | (go_at_call 8; refine (begun_any _ hg hT).mono ?_; rintro e w1 ⟨rfl, hb1, hT1⟩) | (go_at_call 25; refine (within_any _ _ _ (by assumption) (by assumption)).mono ?_; rintro e w2 ⟨rfl, rfl⟩) | (go_at_call 22; refine (count_any _ _ (by assumption)).mono ?_; rintro e w2 ⟨rfl, rfl⟩))
    go_ret
    exact ⟨rfl, by assumption⟩
  · have h5' := h5 hp
    have h3' := h3 hp
    have h4' := h4 hp
    clear h3 h4 h5
    have d5 : decide ((M.cnt s : Int) ≤ (M.cnt t : Int)) = true := by simp; omega
    cases hq : M.withinB t s
    · have h3 : ((s : Int) == (t : Int)) = false := by rw [← h3']; exact hq
      clear h3'
      cases hr : M.withinB t u
      · clear h4'
        go_enter Tryd.func7, Tryd.ntmps7
        go_wp2_with (first | (go_at_call 8; refine (begun_any _ hg hT).mono ?_; rintro e w1 ⟨rfl, hb1, hT1⟩) | (go_at_call 25; refine (within_any _ _ _ (by assumption) (by assumption)).mono ?_; rintro e w2 ⟨rfl, rfl⟩) | (go_at_call 22; refine (count_any _ _ (by assumption)).mono ?_; rintro e w2 ⟨rfl, rfl⟩))
        go_ret
        exact ⟨rfl, by assumption⟩
      · have h4 := h4' hr
        clear h4'
        go_enter Tryd.func7, Tryd.ntmps7
        go_wp2_with (first | (go_at_call 8; refine (begun_any _ hg hT).mono ?_; rintro e w1 ⟨rfl, hb1, hT1⟩) | (go_at_call 25; refine (within_any _ _ _ (by assumption) (by assumption)).mono ?_; rintro e w2 ⟨rfl, rfl⟩) | (go_at_call 22; refine (count_any _ _ (by assumption)).mono ?_; rintro e w2 ⟨rfl, rfl⟩))
        go_ret
        exact ⟨rfl, by assumption⟩
    · have h3 : ((s : Int) == (t : Int)) = true := by rw [← h3']; exact hq
      clear h3'
      cases hr : M.withinB t u
      · clear h4'
        go_enter Tryd.func7, Tryd.ntmps7
        go_wp2_with (first | (go_at_call 8; refine (begun_any _ hg hT).mono ?_; rintro e w1 ⟨rfl, hb1, hT1⟩) | (go_at_call 25; refine (within_any _ _ _ (by assumption) (by assumption)).mono ?_; rintro e w2 ⟨rfl, rfl⟩) | (go_at_call 22; refine (count_any _ _ (by assumption)).mono ?_; rintro e w2 ⟨rfl, rfl⟩))
        go_ret
        exact ⟨rfl, by assumption⟩
      · have h4 := h4' hr
        clear h4'
        go_enter Tryd.func7, Tryd.ntmps7
        go_wp2_with (first | (go_at_call 8; refine (begun_any _ hg hT).mono ?_; rintro e w1 ⟨rfl, hb1, hT1⟩) | (go_at_call 25; refine (within_any _ _ _ (by assumption) (by assumption)).mono ?_; rintro e w2 ⟨rfl, rfl⟩) | (go_at_call 22; refine (count_any _ _ (by assumption)).mono ?_; rintro e w2 ⟨rfl, rfl⟩))
        go_ret
        exact ⟨rfl, by assumption⟩

theorem within_walk (s t u : Nat) (w : World) (hg : 0 < w.heap.size) (hT : Tab w) (hs : s < 2 ^ 64) (ht : t < 2 ^ 64) (hu : u < 2 ^ 64) :
    Calls Tryd.prog 7 #[.int .u64 s, .int .u64 t, .int .u64 u] w fun e w' => e = .returned (.bool true) ∧ Below w.heap.size w w' := by
  have ha : s &&& t < 2 ^ 64 := Nat.and_lt_two_pow _ ht
  have ho : s ||| t < 2 ^ 64 := Nat.or_lt_two_pow hs ht
  refine within_core s t u (s &&& t) (s ||| t) w hg hT hs ht hu ha ho (bits_and_u64_nat s t hs ht) (bits_or_u64_nat s t hs ht) ?_ ?_ ?_ ?_ ?_ (cnt_sum s t)
  · rw [M.withinB_iff _ _ ha hs]
    intro j _ h
    rw [Nat.testBit_and] at h
    simp at h
    exact h.1
  · rw [M.withinB_iff _ _ hs ho]
    intro j _ h
    rw [Nat.testBit_or, h]
    rfl
  · intro h
    rw [M.withinB_iff _ _ hs ht] at h
    rw [Bool.eq_iff_iff, M.withinB_iff _ _ ht hs]
    simp only [beq_iff_eq]
    constructor
    · intro h'
      have : s = t := M.ext s t hs ht (fun j hj => Bool.eq_iff_iff.2 ⟨h j hj, h' j hj⟩)
      rw [this]
    · intro e
      have : s = t := by omega
      subst this
      exact fun _ _ h => h
  · intro h h'
    rw [M.withinB_iff _ _ hs ht] at h
    rw [M.withinB_iff _ _ ht hu] at h'
    rw [M.withinB_iff _ _ hs hu]
    exact fun j hj hh => h' j hj (h j hj hh)
  · intro h
    rw [M.withinB_iff _ _ hs ht] at h
    exact cnt_mono s t h
end Go.Proofs.YtkkkidilopeogaaDoor
