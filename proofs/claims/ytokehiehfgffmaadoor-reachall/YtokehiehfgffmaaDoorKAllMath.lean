/-
  PLAIN MATHEMATICS of the statement ReachAll: what its two loops gather. It proves nothing of Go by itself.
-/
import Derived.Test.YtokehiehfgffmaaDoorKAlg
namespace Go.Proofs.YtokehiehfgffmaaDoor
set_option linter.unusedVariables false
set_option linter.unusedSimpArgs false

/-- The pair (i, j) has been gone through when the loops stand at (x, y). -/
def Pd (n x y i j : Nat) : Prop := (i < x ∧ j < n) ∨ (i = x ∧ j < y)
theorem Pd.next {n x y i j : Nat} : Pd n x (y + 1) i j ↔ Pd n x y i j ∨ (i = x ∧ j = y) := by
  unfold Pd
  omega
theorem Pd.row {n x i j : Nat} : Pd n (x + 1) 0 i j ↔ Pd n x n i j := by
  unfold Pd
  omega
theorem Pd.all {n i j : Nat} : Pd n n 0 i j ↔ i < n ∧ j < n := by
  unfold Pd
  omega
theorem Pd.none {n i j : Nat} : ¬ Pd n 0 0 i j := by
  unfold Pd
  omega
/-- i and k are two of s, and neither is before the other. -/
def bad (x : List Nat) (s i k : Nat) : Prop := i ≠ k ∧ s.testBit i = true ∧ s.testBit k = true ∧ ¬ bf x i k ∧ ¬ bf x k i
structure AllS (n : Nat) (x : List Nat) (s i k : Nat) (b : Bool) (lo up : Nat) : Prop where
  ll : lo < 2 ^ 64
  ul : up < 2 ^ 64
  tot : b = true ↔ ∀ i' k', Pd n i k i' k' → ¬ bad x s i' k'
  bel : ∀ j, lo.testBit j = true ↔ ∃ k', Pd n i k j k' ∧ bf (starR x) j k' ∧ s.testBit k' = true
  abv : ∀ j, up.testBit j = true ↔ ∃ i', Pd n i k i' j ∧ bf (starR x) i' j ∧ s.testBit i' = true
theorem AllS.start (n : Nat) (x : List Nat) (s : Nat) : AllS n x s 0 0 true 0 0 := by
  refine ⟨by decide, by decide, ?_, fun j => ?_, fun j => ?_⟩
  · exact ⟨fun _ i' k' h => absurd h Pd.none, fun _ => rfl⟩
  · simp only [Nat.zero_testBit]
    exact ⟨(fun h => by cases h), fun ⟨k', h, _⟩ => absurd h Pd.none⟩
  · simp only [Nat.zero_testBit]
    exact ⟨(fun h => by cases h), fun ⟨k', h, _⟩ => absurd h Pd.none⟩
theorem AllS.row {n : Nat} {x : List Nat} {s i : Nat} {b : Bool} {lo up : Nat} (h : AllS n x s i n b lo up) : AllS n x s (i + 1) 0 b lo up :=
  ⟨h.ll, h.ul, by rw [h.tot]; simp only [Pd.row], fun j => by rw [h.bel]; simp only [Pd.row], fun j => by rw [h.abv]; simp only [Pd.row]⟩
theorem put_iff {s i j : Nat} (hs : s < 2 ^ 64) (hi : i < 64) : (M.putN s (i : Nat)).testBit j = true ↔ s.testBit j = true ∨ j = i := by
  by_cases hj : j < 64
  · rw [M.putN_testBit _ _ _ hj]
    simp only [Bool.or_eq_true, decide_eq_true_eq]
    refine or_congr Iff.rfl ?_
    omega
  · rw [M.high _ j (M.putN_lt _ _ hs) (by omega), M.high _ j hs (by omega)]
    simp
    omega
theorem AllS.step {n : Nat} {x : List Nat} {s i k : Nat} {b : Bool} {lo up : Nat} (h : AllS n x s i k b lo up) (hi : i < 64) (hk : k < 64) (q si sk a c p : Bool)
    (hq : decide (i = k) = q) (hsi : s.testBit i = si) (hsk : s.testBit k = sk) (ha : (R.row x i).testBit k = a) (hc : (R.row x k).testBit i = c) (hp : (R.row (starR x) i).testBit k = p) :
    AllS n x s i (k + 1) (if (!q && si && sk && !a && !c) = true then false else b) (if (p && sk) = true then M.putN lo (i : Nat) else lo) (if (p && si) = true then M.putN up (k : Nat) else up) := by
  subst hq hsi hsk ha hc hp
  have hbad : (!decide (i = k) && s.testBit i && s.testBit k && !(R.row x i).testBit k && !(R.row x k).testBit i) = true ↔ bad x s i k := by
    simp [bad, bf, and_assoc]
  refine ⟨?_, ?_, ?_, fun j => ?_, fun j => ?_⟩
  · split
    · exact M.putN_lt _ _ h.ll
    · exact h.ll
  · split
    · exact M.putN_lt _ _ h.ul
    · exact h.ul
  · by_cases hb : bad x s i k
    · rw [if_pos (hbad.2 hb)]
      constructor
      · intro h
        cases h
      · intro hh
        exact absurd hb (hh i k (Pd.next.2 (.inr ⟨rfl, rfl⟩)))
    · rw [if_neg (fun hc => hb (hbad.1 hc)), h.tot]
      constructor
      · intro hh i' k' hP
        rcases Pd.next.1 hP with h1 | ⟨rfl, rfl⟩
        · exact hh i' k' h1
        · exact hb
      · intro hh i' k' hP
        exact hh i' k' (Pd.next.2 (.inl hP))
  · have e : (∃ k', Pd n i (k + 1) j k' ∧ bf (starR x) j k' ∧ s.testBit k' = true) ↔ (∃ k', Pd n i k j k' ∧ bf (starR x) j k' ∧ s.testBit k' = true) ∨ (j = i ∧ bf (starR x) i k ∧ s.testBit k = true) := by
      constructor
      · rintro ⟨k', h1, h2⟩
        rcases Pd.next.1 h1 with h3 | ⟨rfl, rfl⟩
        · exact .inl ⟨k', h3, h2⟩
        · exact .inr ⟨rfl, h2⟩
      · rintro (⟨k', h1, h2⟩ | ⟨rfl, h2⟩)
        · exact ⟨k', Pd.next.2 (.inl h1), h2⟩
        · exact ⟨k, Pd.next.2 (.inr ⟨rfl, rfl⟩), h2⟩
    rw [e]
    by_cases hh : ((R.row (starR x) i).testBit k && s.testBit k) = true
    · rw [if_pos hh, put_iff h.ll hi, h.bel]
      rw [Bool.and_eq_true] at hh
      exact or_congr Iff.rfl ⟨fun a => ⟨a, hh⟩, fun a => a.1⟩
    · rw [if_neg hh, h.bel]
      rw [Bool.and_eq_true] at hh
      exact ⟨.inl, fun a => a.elim id fun a => absurd a.2 hh⟩
  · have e : (∃ i', Pd n i (k + 1) i' j ∧ bf (starR x) i' j ∧ s.testBit i' = true) ↔ (∃ i', Pd n i k i' j ∧ bf (starR x) i' j ∧ s.testBit i' = true) ∨ (j = k ∧ bf (starR x) i k ∧ s.testBit i = true) := by
      constructor
      · rintro ⟨i', h1, h2⟩
        rcases Pd.next.1 h1 with h3 | ⟨rfl, rfl⟩
        · exact .inl ⟨i', h3, h2⟩
        · exact .inr ⟨rfl, h2⟩
      · rintro (⟨i', h1, h2⟩ | ⟨rfl, h2⟩)
        · exact ⟨i', Pd.next.2 (.inl h1), h2⟩
        · exact ⟨i, Pd.next.2 (.inr ⟨rfl, rfl⟩), h2⟩
    rw [e]
    by_cases hh : ((R.row (starR x) i).testBit k && s.testBit i) = true
    · rw [if_pos hh, put_iff h.ul hk, h.abv]
      rw [Bool.and_eq_true] at hh
      exact or_congr Iff.rfl ⟨fun a => ⟨a, hh⟩, fun a => a.1⟩
    · rw [if_neg hh, h.abv]
      rw [Bool.and_eq_true] at hh
      exact ⟨.inl, fun a => a.elim id fun a => absurd a.2 hh⟩
theorem AllS.done {n : Nat} {x : List Nat} {s : Nat} {b : Bool} {lo up : Nat} (hr : Rel n x) (hs : s < 2 ^ 64) (h : AllS n x s n 0 b lo up) : b = totB x s ∧ lo = downR x s ∧ up = upR x s := by
  refine ⟨?_, ?_, ?_⟩
  · rw [Bool.eq_iff_iff, h.tot, tot_iff hr s hs]
    simp only [Pd.all]
    constructor
    · intro hh i j hi hj h1 h2 hne
      apply Classical.byContradiction
      intro hc
      exact hh i j ⟨hi, hj⟩ ⟨hne, h1, h2, fun h => hc (.inl h), fun h => hc (.inr h)⟩
    · rintro hh i k ⟨hi, hk⟩ ⟨h1, h2, h3, h4, h5⟩
      rcases hh i k hi hk h2 h3 h1 with h | h
      · exact h4 h
      · exact h5 h
  · refine M.ext _ _ h.ll (down_lt hr s hs) fun j _ => ?_
    rw [Bool.eq_iff_iff, h.bel, down_bit hr s j hs]
    simp only [Pd.all, star_iff hr]
    constructor
    · rintro ⟨k, ⟨h1, h2⟩, h3 | h3, h4⟩
      · exact .inl ⟨h1, by rw [h3.1]; exact h4⟩
      · exact .inr ⟨k, h2, h4, h3⟩
    · rintro (⟨h1, h2⟩ | ⟨k, h1, h2, h3⟩)
      · exact ⟨j, ⟨h1, h1⟩, .inl ⟨rfl, h1⟩, h2⟩
      · exact ⟨k, ⟨(h3.lt hr).1, h1⟩, .inr h3, h2⟩
  · refine M.ext _ _ h.ul (up_lt hr s hs) fun j _ => ?_
    rw [Bool.eq_iff_iff, h.abv, up_bit hr s j hs]
    simp only [Pd.all, star_iff hr]
    constructor
    · rintro ⟨k, ⟨h1, h2⟩, h3 | h3, h4⟩
      · exact .inl ⟨h2, by rw [← h3.1]; exact h4⟩
      · exact .inr ⟨k, h1, h4, h3⟩
    · rintro (⟨h1, h2⟩ | ⟨k, h1, h2, h3⟩)
      · exact ⟨j, ⟨h1, h1⟩, .inl ⟨rfl, h1⟩, h2⟩
      · exact ⟨k, ⟨h1, (h3.lt hr).2⟩, .inr h3, h2⟩
end Go.Proofs.YtokehiehfgffmaaDoor
