/-
  PLAIN ALGEBRA OF REACHING: how Plus, Star, Up and Down go together with the other calls. It proves nothing of Go by itself.
-/
import Derived.Test.YtokehiehfgffmaaDoorKMath
namespace Go.Proofs.YtokehiehfgffmaaDoor
set_option linter.unusedVariables false
set_option linter.unusedSimpArgs false

section
variable {n : Nat} {x : List Nat} (h : Rel n x)
include h
theorem plus_first : plusR x = R.orR x (R.thenR x (plusR x)) := by
  have hp := plus_rel h
  refine hp.ext (or_rel h (then_rel h hp)) fun i j => ?_
  rw [plus_iff h, or_iff' h (then_rel h hp), then_iff h hp]
  constructor
  · intro hw
    cases hw with
    | one hb => exact .inl hb
    | on hb hw => exact .inr ⟨_, hb, (plus_iff h _ _).2 hw⟩
  · rintro (hb | ⟨k, h1, h2⟩)
    · exact .one hb
    · exact .on h1 ((plus_iff h _ _).1 h2)
theorem plus_last : plusR x = R.orR x (R.thenR (plusR x) x) := by
  have hp := plus_rel h
  refine hp.ext (or_rel h (then_rel hp h)) fun i j => ?_
  rw [plus_iff h, or_iff' h (then_rel hp h), then_iff hp h]
  constructor
  · intro hw
    rcases hw.last with hb | ⟨k, h1, h2⟩
    · exact .inl hb
    · exact .inr ⟨k, (plus_iff h _ _).2 h1, h2⟩
  · rintro (hb | ⟨k, h1, h2⟩)
    · exact .one hb
    · exact ((plus_iff h _ _).1 h1).snoc h2
theorem plus_plus : plusR (plusR x) = plusR x := by
  have hp := plus_rel h
  refine (plus_rel hp).ext hp fun i j => ?_
  rw [plus_iff hp, plus_iff h]
  constructor
  · exact fun hw => hw.mono fun i j hb => (plus_iff h i j).1 hb
  · exact fun hw => .one ((plus_iff h i j).2 hw)
theorem plus_less : R.countR (R.lessR (R.thenR (plusR x) (plusR x)) (plusR x)) = 0 := by
  have hp := plus_rel h
  have e : R.lessR (R.thenR (plusR x) (plusR x)) (plusR x) = List.replicate n 0 := by
    refine (less_rel (then_rel hp hp) hp).ext (rel_zero h.le) fun i j => ?_
    rw [less_iff (then_rel hp hp) hp, then_iff hp hp]
    constructor
    · rintro ⟨⟨k, h1, h2⟩, h3⟩
      exact absurd (plus_trans h h1 h2) h3
    · intro hb
      exact absurd hb (zero_bf n i j)
  rw [e]
  exact count_zero n
theorem way_back {i j : Nat} : Way (R.backR x) i j ↔ Way x j i := by
  constructor
  · exact fun hw => hw.turn fun i j hb => (back_iff h i j).1 hb
  · exact fun hw => hw.turn fun i j hb => (back_iff h j i).2 hb
theorem plus_back : R.backR (plusR x) = plusR (R.backR x) := by
  have hp := plus_rel h
  refine (back_rel hp).ext (plus_rel (back_rel h)) fun i j => ?_
  rw [back_iff hp, plus_iff h, plus_iff (back_rel h), way_back h]
theorem way_star {i j : Nat} : Way (starR x) i j ↔ (i = j ∧ i < n) ∨ Way x i j := by
  constructor
  · intro hw
    induction hw with
    | one hb => exact (star_iff h _ _).1 hb
    | on hb _ ih =>
      rcases (star_iff h _ _).1 hb with ⟨rfl, h1⟩ | h1
      · exact ih
      · rcases ih with ⟨rfl, _⟩ | h2
        · exact .inr h1
        · exact .inr (h1.trans h2)
  · rintro h1
    exact .one ((star_iff h i j).2 h1)
theorem star_star : starR (starR x) = starR x := by
  have hs := star_rel h
  refine (star_rel hs).ext hs fun i j => ?_
  rw [star_iff hs, way_star h, star_iff h]
  constructor
  · rintro (h1 | h1)
    · exact .inl h1
    · exact h1
  · exact .inr

/-! ### sets -/
theorem up_lt (s : Nat) (hs : s < 2 ^ 64) : upR x s < 2 ^ 64 := by
  unfold upR
  rw [if_pos h.2.2]
  exact upN_lt h.2.1 s hs
theorem up_bit (s j : Nat) (hs : s < 2 ^ 64) : (upR x s).testBit j = true ↔ (j < n ∧ s.testBit j = true) ∨ ∃ i, i < n ∧ s.testBit i = true ∧ Way x i j := by
  by_cases hj : j < 64
  · unfold upR
    rw [if_pos h.2.2, upN_bit h s j hj]
  · have hn := h.le
    rw [M.high _ j (up_lt h s hs) (by omega)]
    constructor
    · intro hc
      cases hc
    · rintro (⟨h1, _⟩ | ⟨i, _, _, h1⟩)
      · omega
      · have := (h1.lt h).2
        omega
theorem down_up (s : Nat) : downR x s = upR (R.backR x) s := by
  unfold downR upR
  rw [if_pos (back_rel h).2.2]
theorem down_lt (s : Nat) (hs : s < 2 ^ 64) : downR x s < 2 ^ 64 := by
  rw [down_up h]
  exact up_lt (back_rel h) s hs
theorem down_bit (s j : Nat) (hs : s < 2 ^ 64) : (downR x s).testBit j = true ↔ (j < n ∧ s.testBit j = true) ∨ ∃ i, i < n ∧ s.testBit i = true ∧ Way x j i := by
  rw [down_up h, up_bit (back_rel h) s j hs]
  refine or_congr Iff.rfl ⟨fun ⟨i, h1, h2, h3⟩ => ⟨i, h1, h2, (way_back h).1 h3⟩, fun ⟨i, h1, h2, h3⟩ => ⟨i, h1, h2, (way_back h).2 h3⟩⟩
theorem back_back : R.backR (R.backR x) = x := by
  refine (back_rel (back_rel h)).ext h fun i j => ?_
  rw [back_iff (back_rel h), back_iff h]
theorem down_back (s : Nat) : downR (R.backR x) s = upR x s := by
  rw [down_up (back_rel h), back_back h]
theorem up_up (s : Nat) (hs : s < 2 ^ 64) : upR x (upR x s) = upR x s := by
  have h1 := up_lt h s hs
  refine M.ext _ _ (up_lt h _ h1) h1 fun j _ => ?_
  rw [Bool.eq_iff_iff, up_bit h _ j h1]
  constructor
  · rintro (⟨_, h2⟩ | ⟨i, _, h2, h3⟩)
    · exact h2
    · rw [up_bit h s i hs] at h2
      refine (up_bit h s j hs).2 (.inr ?_)
      rcases h2 with ⟨h4, h5⟩ | ⟨k, h4, h5, h6⟩
      · exact ⟨i, h4, h5, h3⟩
      · exact ⟨k, h4, h5, h6.trans h3⟩
  · intro h2
    refine .inl ⟨?_, h2⟩
    rcases (up_bit h s j hs).1 h2 with h3 | ⟨i, _, _, h3⟩
    · exact h3.1
    · exact (h3.lt h).2
theorem down_down (s : Nat) (hs : s < 2 ^ 64) : downR x (downR x s) = downR x s := by
  rw [down_up h, down_up h, up_up (back_rel h) s hs]
theorem things_in (s j : Nat) (hs : s < 2 ^ 64) : (s &&& R.things n).testBit j = true ↔ j < n ∧ s.testBit j = true := by
  have hlt : s &&& R.things n < 2 ^ 64 := Nat.lt_of_le_of_lt Nat.and_le_left hs
  have hn := h.le
  by_cases hj : j < 64
  · rw [Nat.testBit_and, R.things_bit _ _ hj]
    simp
    exact And.comm
  · rw [M.high _ j hlt (by omega)]
    simp
    omega
theorem up_in (s : Nat) (hs : s < 2 ^ 64) : upR x (s &&& R.things n) = upR x s := by
  have hlt : s &&& R.things n < 2 ^ 64 := Nat.lt_of_le_of_lt Nat.and_le_left hs
  refine M.ext _ _ (up_lt h _ hlt) (up_lt h s hs) fun j _ => ?_
  rw [Bool.eq_iff_iff, up_bit h _ j hlt, up_bit h s j hs]
  refine or_congr ⟨fun ⟨a, b⟩ => ⟨a, ((things_in h s j hs).1 b).2⟩, fun ⟨a, b⟩ => ⟨a, (things_in h s j hs).2 ⟨a, b⟩⟩⟩ ⟨fun ⟨i, a, b, c⟩ => ⟨i, a, ((things_in h s i hs).1 b).2, c⟩, fun ⟨i, a, b, c⟩ => ⟨i, a, (things_in h s i hs).2 ⟨a, b⟩, c⟩⟩
theorem down_in (s : Nat) (hs : s < 2 ^ 64) : downR x (s &&& R.things n) = downR x s := by
  rw [down_up h, down_up h, up_in (back_rel h) s hs]
theorem up_has (s : Nat) (hs : s < 2 ^ 64) : upR x s &&& (s &&& R.things n) = s &&& R.things n := by
  have hlt : s &&& R.things n < 2 ^ 64 := Nat.lt_of_le_of_lt Nat.and_le_left hs
  refine M.ext _ _ (Nat.lt_of_le_of_lt Nat.and_le_right hlt) hlt fun j _ => ?_
  rw [Nat.testBit_and, Bool.eq_iff_iff, Bool.and_eq_true]
  constructor
  · exact fun a => a.2
  · intro hb
    exact ⟨(up_bit h s j hs).2 (.inl ((things_in h s j hs).1 hb)), hb⟩
theorem down_has (s : Nat) (hs : s < 2 ^ 64) : downR x s &&& (s &&& R.things n) = s &&& R.things n := by
  rw [down_up h, up_has (back_rel h) s hs]
theorem up_stays (s : Nat) (hs : s < 2 ^ 64) : upR x s = s &&& R.things n ↔ M.lessN (R.intoR x (s &&& R.things n)) (s &&& R.things n) = 0 := by
  have hlt : s &&& R.things n < 2 ^ 64 := Nat.lt_of_le_of_lt Nat.and_le_left hs
  have hil := intoR_lt h.2.1 (s &&& R.things n)
  have hinto : ∀ j, (R.intoR x (s &&& R.things n)).testBit j = true ↔ ∃ i, i < n ∧ s.testBit i = true ∧ bf x i j := fun j => by
    unfold R.intoR
    rw [if_pos h.2.2, h.1, R.intoN_bit]
    constructor
    · rintro ⟨i, _, h1, h2⟩
      rw [Nat.testBit_and, Bool.and_eq_true] at h1
      obtain ⟨h3, h4⟩ := (things_in h s i hs).1 h1.1
      exact ⟨i, h3, h4, h2⟩
    · rintro ⟨i, h1, h2, h3⟩
      have hn := h.le
      refine ⟨i, by omega, ?_, h3⟩
      rw [Nat.testBit_and, (things_in h s i hs).2 ⟨h1, h2⟩, R.things_bit _ _ (by omega)]
      simpa using h1
  constructor
  · intro e
    apply M.zero_of _ (M.lessN_lt _ _ hil)
    intro j _
    rw [M.lessN_testBit _ _ _ hil hlt]
    cases hb : (R.intoR x (s &&& R.things n)).testBit j
    · rfl
    · obtain ⟨i, h1, h2, h3⟩ := (hinto j).1 hb
      have : (upR x s).testBit j = true := (up_bit h s j hs).2 (.inr ⟨i, h1, h2, .one h3⟩)
      rw [e] at this
      rw [this]
      rfl
  · intro e
    refine M.ext _ _ (up_lt h s hs) hlt fun j _ => ?_
    rw [Bool.eq_iff_iff, up_bit h s j hs, things_in h s j hs]
    constructor
    · rintro (h1 | ⟨i, h1, h2, h3⟩)
      · exact h1
      · have key : ∀ {i j}, Way x i j → (i < n ∧ s.testBit i = true) → (j < n ∧ s.testBit j = true) := by
          have one : ∀ {i j}, bf x i j → (i < n ∧ s.testBit i = true) → (j < n ∧ s.testBit j = true) := by
            intro i j hb hi
            rw [← things_in h s j hs]
            have h4 := (hinto j).2 ⟨i, hi.1, hi.2, hb⟩
            have h5 := M.lessN_testBit (R.intoR x (s &&& R.things n)) (s &&& R.things n) j hil hlt
            rw [e, h4] at h5
            simpa using h5.symm
          intro i j hw
          induction hw with
          | one hb => exact one hb
          | on hb _ ih => exact fun hi => ih (one hb hi)
        exact key h3 ⟨h1, h2⟩
    · exact .inl
end
end Go.Proofs.YtokehiehfgffmaaDoor
