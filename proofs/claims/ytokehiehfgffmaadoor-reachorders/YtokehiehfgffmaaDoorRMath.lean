/-
  PLAIN MATHEMATICS OF RELATIONS AS LISTS OF ROWS (each a set in a word of 64 bits); of no program. It proves nothing of Go.
-/
import Derived.Test.YtokehiehfgffmaaDoorBMath
namespace Go.Proofs.YtokehiehfgffmaaDoor.R
open Go.Proofs.YtokehiehfgffmaaDoor
set_option linter.unusedVariables false
set_option linter.unusedSimpArgs false

/-- Row i. -/
def row (xs : List Nat) (i : Nat) : Nat := xs.getD i 0
/-- Each row is a word. -/
def Words (xs : List Nat) : Prop := ∀ i, row xs i < 2 ^ 64
theorem row_mem {xs : List Nat} {i : Nat} (h : i < xs.length) : row xs i ∈ xs := by
  simp [row, List.getD, h]
theorem row_out {xs : List Nat} {i : Nat} (h : xs.length ≤ i) : row xs i = 0 := by
  simp [row, List.getD, h]
theorem words_of {xs : List Nat} (h : ∀ x ∈ xs, x < 2 ^ 64) : Words xs := by
  intro i
  by_cases hi : i < xs.length
  · exact h _ (row_mem hi)
  · rw [row_out (by omega)]
    decide
/-- The list of n rows, each by its number. -/
def tab (n : Nat) (f : Nat → Nat) : List Nat := (List.range n).map f
theorem tab_len (n : Nat) (f : Nat → Nat) : (tab n f).length = n := by simp [tab]
theorem tab_row (n : Nat) (f : Nat → Nat) (i : Nat) : row (tab n f) i = if i < n then f i else 0 := by
  unfold row tab
  by_cases h : i < n
  · simp [List.getD, h]
  · simp [List.getD, h, show n ≤ i by omega]
theorem tab_words {n : Nat} {f : Nat → Nat} (h : ∀ i, i < n → f i < 2 ^ 64) : Words (tab n f) := by
  intro i
  rw [tab_row]
  split
  · exact h i ‹_›
  · decide
theorem rows_ext {xs ys : List Nat} (hl : xs.length = ys.length) (h : ∀ i, i < xs.length → row xs i = row ys i) : xs = ys := by
  apply List.ext_getElem hl
  intro i h1 h2
  have := h i h1
  simpa [row, List.getD, h1, h2] using this
theorem tab_eq (xs : List Nat) : xs = tab xs.length (row xs) := by
  apply rows_ext (by rw [tab_len])
  intro i hi
  rw [tab_row, if_pos hi]
theorem tab_congr {n : Nat} {f g : Nat → Nat} (h : ∀ i, i < n → f i = g i) : tab n f = tab n g := by
  unfold tab
  exact List.map_congr_left fun i hi => h i (List.mem_range.1 hi)

/-- The things. -/
def things (n : Nat) : Nat := M.rangeN 0 n
theorem things_lt (n : Nat) : things n < 2 ^ 64 := M.lessN_lt _ _ (M.belowN_lt _)
theorem things_bit (n j : Nat) (hj : j < 64) : (things n).testBit j = decide (j < n) := by
  unfold things M.rangeN
  rw [M.lessN_testBit _ _ _ (M.belowN_lt _) (M.belowN_lt _), M.belowN_testBit _ _ hj, M.belowN_testBit _ _ hj]
  simp
theorem bl_things (n : Nat) (h : n ≤ 64) : M.bl (things n) = List.range n := by
  have e : M.bl (things n) = (List.range 64).filter (fun i => decide (i < n)) := by
    unfold M.bl
    apply List.filter_congr
    intro j hj
    rw [things_bit n j (List.mem_range.1 hj)]
  have key : ∀ m, n ≤ m → (List.range m).filter (fun i => decide (i < n)) = List.range n := by
    intro m
    induction m with
    | zero => intro h; simp [show n = 0 by omega]
    | succ m ih =>
      intro h
      rw [List.range_succ, List.filter_append]
      by_cases hm : n ≤ m
      · rw [ih hm]
        simp [show ¬ m < n by omega]
      · have : n = m + 1 := by omega
        subst this
        rw [List.range_succ]
        have e2 : (List.range m).filter (fun i => decide (i < m + 1)) = List.range m := by
          rw [List.filter_eq_self]
          intro a ha
          simp
          have := List.mem_range.1 ha
          omega
        rw [e2]
        simp
  rw [e, key 64 h]

/-- Is it a relation? -/
def mayR (xs : List Nat) : Bool := decide (xs.length ≤ 64) && xs.all fun r => M.withinB r (things xs.length)
theorem may_len {xs : List Nat} (h : mayR xs = true) : xs.length ≤ 64 := by
  simp only [mayR, Bool.and_eq_true, decide_eq_true_eq] at h
  exact h.1
theorem may_iff {xs : List Nat} (hw : Words xs) : mayR xs = true ↔ xs.length ≤ 64 ∧ ∀ i j, j < 64 → (row xs i).testBit j = true → j < xs.length := by
  simp only [mayR, Bool.and_eq_true, decide_eq_true_eq, List.all_eq_true]
  refine and_congr_right fun hl => ⟨fun h i j hj hb => ?_, fun h x hx => ?_⟩
  · by_cases hi : i < xs.length
    · have := (M.withinB_iff _ _ (hw i) (things_lt _)).1 (h _ (row_mem hi)) j hj hb
      rw [things_bit _ _ hj] at this
      simpa using this
    · rw [row_out (by omega)] at hb
      simp at hb
  · obtain ⟨i, hi, rfl⟩ := List.getElem_of_mem hx
    have e : xs[i] = row xs i := by simp [row, List.getD, hi]
    rw [e]
    refine (M.withinB_iff _ _ (hw i) (things_lt _)).2 fun j hj hb => ?_
    rw [things_bit _ _ hj]
    simpa using h i j hj hb
theorem may_bit {xs : List Nat} (hw : Words xs) (h : mayR xs = true) {i j : Nat} (hb : (row xs i).testBit j = true) : i < xs.length ∧ j < xs.length ∧ j < 64 := by
  have hj : j < 64 := by
    apply Nat.lt_of_not_le
    intro hge
    rw [M.high _ _ (hw i) hge] at hb
    cases hb
  refine ⟨?_, ((may_iff hw).1 h).2 i j hj hb, hj⟩
  apply Nat.lt_of_not_le
  intro hge
  rw [row_out hge] at hb
  simp at hb
theorem may_tab {n : Nat} {f : Nat → Nat} (hn : n ≤ 64) (hf : ∀ i, i < n → f i < 2 ^ 64) (h : ∀ i j, i < n → j < 64 → (f i).testBit j = true → j < n) : mayR (tab n f) = true := by
  refine (may_iff (tab_words hf)).2 ⟨by rw [tab_len]; exact hn, fun i j hj hb => ?_⟩
  rw [tab_row] at hb
  rw [tab_len]
  split at hb
  · exact h i j ‹_› hj hb
  · simp at hb
def alikeR (a b : List Nat) : Bool := decide (a.length = b.length) && mayR a && mayR b
theorem alike_iff {a b : List Nat} : alikeR a b = true ↔ a.length = b.length ∧ mayR a = true ∧ mayR b = true := by
  simp [alikeR, and_assoc]

/-- What some one of s is before, by b. -/
def intoN (b : List Nat) (s : Nat) : Nat := (M.bl s).foldl (fun u x => u ||| row b x) 0
theorem foldl_or_lt (b : List Nat) (hb : Words b) : ∀ (l : List Nat) (u : Nat), u < 2 ^ 64 → l.foldl (fun u x => u ||| row b x) u < 2 ^ 64
  | [], _, h => h
  | x :: l, u, h => foldl_or_lt b hb l _ (Nat.or_lt_two_pow h (hb x))
theorem intoN_lt (b : List Nat) (s : Nat) (hb : Words b) : intoN b s < 2 ^ 64 := foldl_or_lt b hb _ _ (by decide)
theorem foldl_or_bit (b : List Nat) (j : Nat) : ∀ (l : List Nat) (u : Nat), (l.foldl (fun u x => u ||| row b x) u).testBit j = true ↔ u.testBit j = true ∨ ∃ x ∈ l, (row b x).testBit j = true
  | [], u => by simp
  | x :: l, u => by
    simp only [List.foldl_cons]
    rw [foldl_or_bit b j l]
    simp [Nat.testBit_or, or_assoc]
theorem intoN_bit (b : List Nat) (s j : Nat) : (intoN b s).testBit j = true ↔ ∃ x, x < 64 ∧ s.testBit x = true ∧ (row b x).testBit j = true := by
  unfold intoN
  rw [foldl_or_bit]
  simp [M.mem_bl, and_assoc]
theorem intoN_snoc (b : List Nat) (l : List Nat) (x : Nat) : (l ++ [x]).foldl (fun u x => u ||| row b x) 0 = l.foldl (fun u x => u ||| row b x) 0 ||| row b x := by
  simp [List.foldl_append]

/-- The things that are before y, by a. -/
def backN (a : List Nat) (l : List Nat) (y : Nat) : Nat := l.foldl (fun u x => if (row a x).testBit y then M.putN u (x : Int) else u) 0
theorem foldl_back_lt (a : List Nat) (y : Nat) : ∀ (l : List Nat) (u : Nat), u < 2 ^ 64 → l.foldl (fun u x => if (row a x).testBit y then M.putN u (x : Int) else u) u < 2 ^ 64
  | [], _, h => h
  | x :: l, u, h => foldl_back_lt a y l _ (by dsimp only; split; exact M.putN_lt _ _ h; exact h)
theorem backN_lt (a l : List Nat) (y : Nat) : backN a l y < 2 ^ 64 := foldl_back_lt a y _ _ (by decide)
theorem foldl_back_bit (a : List Nat) (y j : Nat) (hj : j < 64) : ∀ (l : List Nat) (u : Nat), (l.foldl (fun u x => if (row a x).testBit y then M.putN u (x : Int) else u) u).testBit j = true ↔ u.testBit j = true ∨ (j ∈ l ∧ (row a j).testBit y = true)
  | [], u => by simp
  | x :: l, u => by
    simp only [List.foldl_cons]
    rw [foldl_back_bit a y j hj l]
    by_cases h : (row a x).testBit y = true
    · rw [if_pos h, M.putN_testBit _ _ _ hj]
      simp only [Bool.or_eq_true, decide_eq_true_eq, List.mem_cons]
      constructor
      · rintro ((h1 | h1) | h1)
        · exact .inl h1
        · have : x = j := by omega
          subst this
          exact .inr ⟨.inl rfl, h⟩
        · exact .inr ⟨.inr h1.1, h1.2⟩
      · rintro (h1 | ⟨h1 | h1, h2⟩)
        · exact .inl (.inl h1)
        · subst h1
          exact .inl (.inr rfl)
        · exact .inr ⟨h1, h2⟩
    · rw [if_neg h]
      simp only [List.mem_cons]
      constructor
      · rintro (h1 | h1)
        · exact .inl h1
        · exact .inr ⟨.inr h1.1, h1.2⟩
      · rintro (h1 | ⟨h1 | h1, h2⟩)
        · exact .inl h1
        · subst h1
          exact absurd h2 h
        · exact .inr ⟨h1, h2⟩
theorem backN_bit (a l : List Nat) (y j : Nat) (hj : j < 64) : (backN a l y).testBit j = true ↔ j ∈ l ∧ (row a j).testBit y = true := by
  unfold backN
  rw [foldl_back_bit a y j hj]
  simp
theorem backN_snoc (a l : List Nat) (x y : Nat) : backN a (l ++ [x]) y = if (row a x).testBit y then M.putN (backN a l y) (x : Int) else backN a l y := by
  simp [backN, List.foldl_append]

/-! ### the calls' answers -/
def orR (a b : List Nat) : List Nat := if alikeR a b then tab a.length (fun x => row a x ||| row b x) else []
def andR (a b : List Nat) : List Nat := if alikeR a b then tab a.length (fun x => row a x &&& row b x) else []
def lessR (a b : List Nat) : List Nat := if alikeR a b then tab a.length (fun x => M.lessN (row a x) (row b x)) else []
def thenR (a b : List Nat) : List Nat := if alikeR a b then tab a.length (fun x => intoN b (row a x)) else []
def backR (a : List Nat) : List Nat := if mayR a then tab a.length (backN a (List.range a.length)) else []
def keepR (a : List Nat) (s : Nat) : List Nat := if mayR a then tab a.length (fun x => if s.testBit x then row a x &&& s else 0) else []
def intoR (a : List Nat) (s : Nat) : Nat := if mayR a then intoN a (s &&& things a.length) else 0
def countR (a : List Nat) : Nat := if mayR a then (a.map M.cnt).sum else 0
def pairsOf (a : List Nat) (l : List Nat) : List (Nat × Nat) := l.flatMap fun x => (M.bl (row a x)).map fun y => (x, y)
def pairsR (a : List Nat) : List (Nat × Nat) := if mayR a then pairsOf a (List.range a.length) else []
def hasR (a : List Nat) (x y : Int) : Bool := mayR a && decide (0 ≤ x ∧ x < a.length) && M.hasB (row a x.toNat) y
def fitsB (n : Int) : Bool := decide (0 ≤ n ∧ n ≤ 64)
def newR (n : Int) : List Nat := if fitsB n then List.replicate n.toNat 0 else []

theorem orR_words {a b : List Nat} (ha : Words a) (hb : Words b) : Words (orR a b) := by
  unfold orR
  split
  · exact tab_words fun i _ => Nat.or_lt_two_pow (ha i) (hb i)
  · exact words_of (by simp)
theorem andR_words {a b : List Nat} (ha : Words a) : Words (andR a b) := by
  unfold andR
  split
  · exact tab_words fun i _ => Nat.lt_of_le_of_lt Nat.and_le_left (ha i)
  · exact words_of (by simp)
theorem lessR_words {a b : List Nat} (ha : Words a) : Words (lessR a b) := by
  unfold lessR
  split
  · exact tab_words fun i _ => M.lessN_lt _ _ (ha i)
  · exact words_of (by simp)
theorem thenR_words {a b : List Nat} (hb : Words b) : Words (thenR a b) := by
  unfold thenR
  split
  · exact tab_words fun i _ => intoN_lt _ _ hb
  · exact words_of (by simp)
theorem backR_words {a : List Nat} : Words (backR a) := by
  unfold backR
  split
  · exact tab_words fun i _ => backN_lt _ _ _
  · exact words_of (by simp)
theorem keepR_words {a : List Nat} {s : Nat} (ha : Words a) : Words (keepR a s) := by
  unfold keepR
  split
  · refine tab_words fun i _ => ?_
    split
    · exact Nat.lt_of_le_of_lt Nat.and_le_left (ha i)
    · decide
  · exact words_of (by simp)
theorem newR_words (n : Int) : Words (newR n) := by
  apply words_of
  intro x hx
  unfold newR at hx
  split at hx
  · rw [List.eq_of_mem_replicate hx]
    decide
  · simp at hx

/-! ### lists that are filled row by row -/
/-- The rows whose numbers are in l are f's, the others are empty. -/
def part (n : Nat) (f : Nat → Nat) (l : List Nat) : List Nat := tab n fun x => if x ∈ l then f x else 0
theorem part_len (n : Nat) (f : Nat → Nat) (l : List Nat) : (part n f l).length = n := tab_len _ _
theorem part_nil (n : Nat) (f : Nat → Nat) : part n f [] = List.replicate n 0 := by
  apply rows_ext (by simp [part, tab_len])
  intro i hi
  unfold part
  rw [tab_row]
  have hi' : i < n := by rw [part_len] at hi; exact hi
  simp [row, List.getD, hi']
theorem part_snoc (n : Nat) (f : Nat → Nat) (l : List Nat) (x : Nat) : (part n f l).set x (f x) = part n f (l ++ [x]) := by
  apply rows_ext (by simp [part, tab_len])
  intro i hi
  have hi' : i < n := by simpa [part_len] using hi
  unfold part
  rw [tab_row, if_pos hi']
  simp only [row, List.getD, tab, List.getElem?_set]
  by_cases h : x = i
  · subst h
    simp [hi']
  · simp [h, hi', show ¬ i = x by omega]
theorem part_full (n : Nat) (f : Nat → Nat) : part n f (List.range n) = tab n f := by
  unfold part
  apply tab_congr
  intro i hi
  simp [hi]
theorem part_words {n : Nat} {f : Nat → Nat} {l : List Nat} (h : ∀ i, i < n → f i < 2 ^ 64) : Words (part n f l) := by
  refine tab_words fun i hi => ?_
  split
  · exact h i hi
  · decide
end Go.Proofs.YtokehiehfgffmaaDoor.R
