/-
  PLAIN ALGEBRA OF RELATIONS: how Then, Back, Or, And, Less, Keep go together, pair by pair. It proves nothing of Go by itself.
-/
import Derived.Test.YtokehiehfgffmaaDoorRSome
import Derived.Test.YtokehiehfgffmaaDoorRRef2
import Derived.Test.YtokehiehfgffmaaDoorRRef3
import Derived.Test.YtokehiehfgffmaaDoorRRef4
namespace Go.Proofs.YtokehiehfgffmaaDoor
open Go.RowKit
set_option linter.unusedVariables false
set_option linter.unusedSimpArgs false

/-- i is before j. -/
abbrev bf (xs : List Nat) (i j : Nat) : Prop := (R.row xs i).testBit j = true
theorem Rel.le {n : Nat} {xs : List Nat} (h : Rel n xs) : n ≤ 64 := by
  rw [← h.1]
  exact R.may_len h.2.2
theorem Rel.lt {n : Nat} {xs : List Nat} (h : Rel n xs) {i j : Nat} (hb : bf xs i j) : i < n ∧ j < n ∧ j < 64 := by
  rw [← h.1]
  exact R.may_bit h.2.1 h.2.2 hb
theorem Rel.alike {n : Nat} {a b : List Nat} (ha : Rel n a) (hb : Rel n b) : R.alikeR a b = true := R.alike_iff.2 ⟨ha.1.trans hb.1.symm, ha.2.2, hb.2.2⟩
theorem Bits.all {n : Nat} {ms : List Nat} {P : Nat → Nat → Prop} (h : Bits n ms P) (hP : ∀ i j, P i j → i < n ∧ j < 64) (i j : Nat) : bf ms i j ↔ P i j := by
  by_cases hi : i < n
  · by_cases hj : j < 64
    · exact h.2.2 i j hi hj
    · constructor
      · intro hb
        have := M.high _ j (h.2.1 i) (by omega)
        rw [bf, this] at hb
        cases hb
      · intro hp
        have := (hP i j hp).2
        omega
  · constructor
    · intro hb
      rw [bf, R.row_out (by rw [h.1]; omega)] at hb
      simp at hb
    · intro hp
      have := (hP i j hp).1
      omega
theorem Bits.rel {n : Nat} {ms : List Nat} {P : Nat → Nat → Prop} (h : Bits n ms P) (hn : n ≤ 64) (hP : ∀ i j, P i j → j < n) : Rel n ms := by
  refine ⟨h.1, h.2.1, (R.may_iff h.2.1).2 ⟨by rw [h.1]; exact hn, fun i j hj hb => ?_⟩⟩
  rw [h.1]
  by_cases hi : i < n
  · exact hP i j ((h.2.2 i j hi hj).1 hb)
  · rw [R.row_out (by rw [h.1]; omega)] at hb
    simp at hb
theorem Rel.ext {n : Nat} {a b : List Nat} (ha : Rel n a) (hb : Rel n b) (h : ∀ i j, bf a i j ↔ bf b i j) : a = b := by
  apply R.rows_ext (by rw [ha.1, hb.1])
  intro i _
  refine M.ext _ _ (ha.2.1 i) (hb.2.1 i) fun j _ => ?_
  rw [Bool.eq_iff_iff]
  exact h i j
section
variable {n : Nat} {a b c : List Nat} (ha : Rel n a) (hb : Rel n b) (hc : Rel n c)
include ha
theorem back_bits : Bits n (R.backR a) (fun i j => bf a j i) := by
  have := rback_bits a ha.2.1 ha.2.2
  rwa [ha.1] at this
theorem back_iff (i j : Nat) : bf (R.backR a) i j ↔ bf a j i := (back_bits ha).all (fun i j h => ⟨(ha.lt h).2.1, Nat.lt_of_lt_of_le (ha.lt h).1 ha.le⟩) i j
theorem back_rel : Rel n (R.backR a) := (back_bits ha).rel ha.le (fun i j h => (ha.lt h).1)
theorem keep_bits (s : Nat) (hs : s < 2 ^ 64) : Bits n (R.keepR a s) (fun i j => bf a i j ∧ s.testBit i = true ∧ s.testBit j = true) := by
  have := rkeep_bits a s ha.2.1 ha.2.2 hs
  rwa [ha.1] at this
theorem keep_iff (s : Nat) (hs : s < 2 ^ 64) (i j : Nat) : bf (R.keepR a s) i j ↔ bf a i j ∧ s.testBit i = true ∧ s.testBit j = true := (keep_bits ha s hs).all (fun i j h => ⟨(ha.lt h.1).1, (ha.lt h.1).2.2⟩) i j
theorem keep_rel (s : Nat) (hs : s < 2 ^ 64) : Rel n (R.keepR a s) := (keep_bits ha s hs).rel ha.le (fun i j h => (ha.lt h.1).2.1)
include hb
theorem then_bits : Bits n (R.thenR a b) (fun i j => ∃ k, bf a i k ∧ bf b k j) := by
  have := rthen_bits a b ha.2.1 hb.2.1 (ha.alike hb)
  rwa [ha.1] at this
theorem then_iff (i j : Nat) : bf (R.thenR a b) i j ↔ ∃ k, bf a i k ∧ bf b k j := (then_bits ha hb).all (fun i j ⟨k, h1, h2⟩ => ⟨(ha.lt h1).1, (hb.lt h2).2.2⟩) i j
theorem then_rel : Rel n (R.thenR a b) := (then_bits ha hb).rel ha.le (fun i j ⟨k, h1, h2⟩ => (hb.lt h2).2.1)
theorem or_bits : Bits n (R.orR a b) (fun i j => bf a i j ∨ bf b i j) := by
  have := ror_bits a b ha.2.1 hb.2.1 (ha.alike hb)
  rwa [ha.1] at this
theorem or_iff' (i j : Nat) : bf (R.orR a b) i j ↔ bf a i j ∨ bf b i j := (or_bits ha hb).all (fun i j h => h.elim (fun h => ⟨(ha.lt h).1, (ha.lt h).2.2⟩) (fun h => ⟨(hb.lt h).1, (hb.lt h).2.2⟩)) i j
theorem or_rel : Rel n (R.orR a b) := (or_bits ha hb).rel ha.le (fun i j h => h.elim (fun h => (ha.lt h).2.1) (fun h => (hb.lt h).2.1))
theorem and_bits : Bits n (R.andR a b) (fun i j => bf a i j ∧ bf b i j) := by
  have := rand_bits a b ha.2.1 hb.2.1 (ha.alike hb)
  rwa [ha.1] at this
theorem and_iff' (i j : Nat) : bf (R.andR a b) i j ↔ bf a i j ∧ bf b i j := (and_bits ha hb).all (fun i j h => ⟨(ha.lt h.1).1, (ha.lt h.1).2.2⟩) i j
theorem and_rel : Rel n (R.andR a b) := (and_bits ha hb).rel ha.le (fun i j h => (ha.lt h.1).2.1)
theorem less_bits : Bits n (R.lessR a b) (fun i j => bf a i j ∧ ¬ bf b i j) := by
  have := rless_bits a b ha.2.1 hb.2.1 (ha.alike hb)
  rwa [ha.1] at this
theorem less_iff (i j : Nat) : bf (R.lessR a b) i j ↔ bf a i j ∧ ¬ bf b i j := (less_bits ha hb).all (fun i j h => ⟨(ha.lt h.1).1, (ha.lt h.1).2.2⟩) i j
theorem less_rel : Rel n (R.lessR a b) := (less_bits ha hb).rel ha.le (fun i j h => (ha.lt h.1).2.1)
theorem back_then : R.backR (R.thenR a b) = R.thenR (R.backR b) (R.backR a) := by
  refine (back_rel (then_rel ha hb)).ext (then_rel (back_rel hb) (back_rel ha)) fun i j => ?_
  rw [back_iff (then_rel ha hb), then_iff ha hb, then_iff (back_rel hb) (back_rel ha)]
  constructor
  · rintro ⟨k, h1, h2⟩
    exact ⟨k, (back_iff hb i k).2 h2, (back_iff ha k j).2 h1⟩
  · rintro ⟨k, h1, h2⟩
    exact ⟨k, (back_iff ha k j).1 h2, (back_iff hb i k).1 h1⟩
theorem less_and : R.orR (R.lessR a b) (R.andR a b) = a := by
  refine (or_rel (less_rel ha hb) (and_rel ha hb)).ext ha fun i j => ?_
  rw [or_iff' (less_rel ha hb) (and_rel ha hb), less_iff ha hb, and_iff' ha hb]
  constructor
  · rintro (h | h)
    · exact h.1
    · exact h.1
  · intro h
    by_cases h' : bf b i j
    · exact .inr ⟨h, h'⟩
    · exact .inl ⟨h, h'⟩
include hc
theorem then_assoc : R.thenR (R.thenR a b) c = R.thenR a (R.thenR b c) := by
  refine (then_rel (then_rel ha hb) hc).ext (then_rel ha (then_rel hb hc)) fun i j => ?_
  rw [then_iff (then_rel ha hb) hc, then_iff ha (then_rel hb hc)]
  constructor
  · rintro ⟨k, h1, h2⟩
    obtain ⟨l, h3, h4⟩ := (then_iff ha hb i k).1 h1
    exact ⟨l, h3, (then_iff hb hc l j).2 ⟨k, h4, h2⟩⟩
  · rintro ⟨l, h1, h2⟩
    obtain ⟨k, h3, h4⟩ := (then_iff hb hc l j).1 h2
    exact ⟨k, (then_iff ha hb i k).2 ⟨l, h1, h3⟩, h4⟩
theorem then_or : R.thenR a (R.orR b c) = R.orR (R.thenR a b) (R.thenR a c) := by
  refine (then_rel ha (or_rel hb hc)).ext (or_rel (then_rel ha hb) (then_rel ha hc)) fun i j => ?_
  rw [then_iff ha (or_rel hb hc), or_iff' (then_rel ha hb) (then_rel ha hc), then_iff ha hb, then_iff ha hc]
  constructor
  · rintro ⟨k, h1, h2⟩
    rcases (or_iff' hb hc k j).1 h2 with h | h
    · exact .inl ⟨k, h1, h⟩
    · exact .inr ⟨k, h1, h⟩
  · rintro (⟨k, h1, h2⟩ | ⟨k, h1, h2⟩)
    · exact ⟨k, h1, (or_iff' hb hc k j).2 (.inl h2)⟩
    · exact ⟨k, h1, (or_iff' hb hc k j).2 (.inr h2)⟩
end
theorem zero_bf (n i j : Nat) : ¬ bf (List.replicate n 0) i j := by
  have : R.row (List.replicate n 0) i = 0 := by
    by_cases hi : i < n
    · simp [R.row, List.getD, hi]
    · rw [R.row_out (by simp; omega)]
  simp [bf, this]
theorem then_zero {n : Nat} {a : List Nat} (ha : Rel n a) : R.thenR a (List.replicate n 0) = List.replicate n 0 := by
  refine (then_rel ha (rel_zero ha.le)).ext (rel_zero ha.le) fun i j => ?_
  rw [then_iff ha (rel_zero ha.le)]
  constructor
  · rintro ⟨k, _, h⟩
    exact absurd h (zero_bf n k j)
  · intro h
    exact absurd h (zero_bf n i j)
theorem count_zero (n : Nat) : R.countR (List.replicate n 0) = 0 := by
  unfold R.countR
  split
  · have : M.cnt 0 = 0 := by decide
    induction n with
    | zero => rfl
    | succ n ih => simp [List.replicate_succ, this]
  · rfl
/-- Each thing and itself. -/
def diag (n : Nat) : List (Int × Int) := (List.range n).map fun (i : Nat) => ((i : Int), (i : Int))
theorem diag_len (n : Nat) : (diag n).length = n := by simp [diag]
theorem diag_snoc (n : Nat) : diag n ++ [((n : Int), (n : Int))] = diag (n + 1) := by simp [diag, List.range_succ]
theorem diag_ok (n : Nat) (hn : n ≤ 64) : fromOk n (diag n) = true := by
  simp only [fromOk, Bool.and_eq_true, List.all_eq_true]
  refine ⟨by simp [R.fitsB]; omega, fun p hp => ?_⟩
  simp only [diag, List.mem_map, List.mem_range] at hp
  obtain ⟨i, hi, rfl⟩ := hp
  simp [okP]
  omega
theorem diag_bits (n : Nat) (hn : n ≤ 64) : Bits n (fromR n (diag n)) (fun i j => i = j ∧ i < n) := by
  have hok := diag_ok n hn
  have e : fromR n (diag n) = fromN n (diag n) := by simp [fromR, hok]
  rw [e]
  have hall : ∀ p ∈ diag n, okP n p = true := by
    simp only [fromOk, Bool.and_eq_true, List.all_eq_true] at hok
    exact hok.2
  refine ⟨fromN_len _ _, fromN_words _ _, fun i j hi hj => ?_⟩
  rw [fromN_bit n _ i j hj hall]
  simp only [diag, List.mem_map, List.mem_range, Prod.mk.injEq]
  constructor
  · rintro ⟨k, hk, h1, h2⟩
    exact ⟨by omega, by omega⟩
  · rintro ⟨h1, h2⟩
    exact ⟨i, h2, rfl, by omega⟩
theorem diag_iff (n : Nat) (hn : n ≤ 64) (i j : Nat) : bf (fromR n (diag n)) i j ↔ i = j ∧ i < n := (diag_bits n hn).all (fun i j h => ⟨h.2, by omega⟩) i j
theorem diag_rel (n : Nat) (hn : n ≤ 64) : Rel n (fromR n (diag n)) := (diag_bits n hn).rel hn (fun i j h => by omega)
theorem then_diag {n : Nat} {a : List Nat} (ha : Rel n a) : R.thenR a (fromR n (diag n)) = a := by
  refine (then_rel ha (diag_rel n ha.le)).ext ha fun i j => ?_
  rw [then_iff ha (diag_rel n ha.le)]
  constructor
  · rintro ⟨k, h1, h2⟩
    obtain ⟨rfl, _⟩ := (diag_iff n ha.le k j).1 h2
    exact h1
  · intro h
    exact ⟨j, h, (diag_iff n ha.le j j).2 ⟨rfl, (ha.lt h).2.1⟩⟩
theorem diag_then {n : Nat} {a : List Nat} (ha : Rel n a) : R.thenR (fromR n (diag n)) a = a := by
  refine (then_rel (diag_rel n ha.le) ha).ext ha fun i j => ?_
  rw [then_iff (diag_rel n ha.le) ha]
  constructor
  · rintro ⟨k, h1, h2⟩
    obtain ⟨rfl, _⟩ := (diag_iff n ha.le i k).1 h1
    exact h2
  · intro h
    exact ⟨i, (diag_iff n ha.le i i).2 ⟨rfl, (ha.lt h).1⟩, h⟩
theorem new_zero (n : Nat) (hn : n ≤ 64) : R.newR (n : Int) = List.replicate n 0 := by
  have : R.fitsB (n : Int) = true := by simp [R.fitsB]; omega
  simp [R.newR, this]

/-! ### counts -/
theorem filter_or_and (p q : Nat → Bool) : ∀ (l : List Nat), (l.filter fun i => p i || q i).length + (l.filter fun i => p i && q i).length = (l.filter p).length + (l.filter q).length
  | [] => rfl
  | x :: l => by
    have := filter_or_and p q l
    simp only [List.filter_cons]
    cases p x <;> cases q x <;> simp <;> omega
theorem cnt_or_and (x y : Nat) : M.cnt (x ||| y) + M.cnt (x &&& y) = M.cnt x + M.cnt y := by
  unfold M.cnt M.bl
  have e1 : (List.range 64).filter (fun i => (x ||| y).testBit i) = (List.range 64).filter (fun i => x.testBit i || y.testBit i) := List.filter_congr fun i _ => Nat.testBit_or _ _ _
  have e2 : (List.range 64).filter (fun i => (x &&& y).testBit i) = (List.range 64).filter (fun i => x.testBit i && y.testBit i) := List.filter_congr fun i _ => Nat.testBit_and _ _ _
  rw [e1, e2]
  exact filter_or_and _ _ _
theorem count_tab {n : Nat} {f : Nat → Nat} (h : R.mayR (R.tab n f) = true) : R.countR (R.tab n f) = ((List.range n).map fun i => M.cnt (f i)).sum := by
  unfold R.countR
  rw [if_pos h]
  simp [R.tab, List.map_map, Function.comp_def]
theorem sum_add (f g h k : Nat → Nat) (e : ∀ i, f i + g i = h i + k i) : ∀ (l : List Nat), (l.map f).sum + (l.map g).sum = (l.map h).sum + (l.map k).sum
  | [] => rfl
  | x :: l => by
    have := sum_add f g h k e l
    have := e x
    simp only [List.map_cons, List.sum_cons]
    omega
theorem count_or_and {n : Nat} {a b : List Nat} (ha : Rel n a) (hb : Rel n b) : R.countR (R.orR a b) + R.countR (R.andR a b) = R.countR a + R.countR b := by
  have hal := ha.alike hb
  have eo : R.orR a b = R.tab n (fun x => R.row a x ||| R.row b x) := by simp [R.orR, hal, ha.1]
  have ea : R.andR a b = R.tab n (fun x => R.row a x &&& R.row b x) := by simp [R.andR, hal, ha.1]
  have e1 : a = R.tab n (R.row a) := by
    have := R.tab_eq a
    rwa [ha.1] at this
  have e2 : b = R.tab n (R.row b) := by
    have := R.tab_eq b
    rwa [hb.1] at this
  have c1 : R.countR a = ((List.range n).map fun i => M.cnt (R.row a i)).sum := by
    have h := ha.2.2
    rw [e1] at h
    conv => lhs; rw [e1]
    exact count_tab h
  have c2 : R.countR b = ((List.range n).map fun i => M.cnt (R.row b i)).sum := by
    have h := hb.2.2
    rw [e2] at h
    conv => lhs; rw [e2]
    exact count_tab h
  have ho := (or_rel ha hb).2.2
  have hn := (and_rel ha hb).2.2
  rw [eo] at ho ⊢
  rw [ea] at hn ⊢
  rw [count_tab ho, count_tab hn, c1, c2]
  exact sum_add _ _ _ _ (fun i => cnt_or_and _ _) _
theorem count_le {n : Nat} {a : List Nat} (ha : Rel n a) : R.countR a ≤ 4096 := by
  unfold R.countR
  rw [if_pos ha.2.2, ← count_rows]
  have := sum_le a (List.range a.length)
  have := ha.le
  have := ha.1
  simp at *
  omega
theorem has_rel {n : Nat} {a : List Nat} (ha : Rel n a) (i j : Nat) (hi : i < n) : R.hasR a i j = (R.row a i).testBit j := by
  have : (0 : Int) ≤ (i : Int) ∧ (i : Int) < a.length := by rw [ha.1]; omega
  unfold R.hasR
  rw [ha.2.2, decide_eq_true this, Int.toNat_natCast, M.hasB_nat _ _ (ha.2.1 i)]
  simp
end Go.Proofs.YtokehiehfgffmaaDoor
