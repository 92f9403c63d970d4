/-
  PLAIN MATHEMATICS OF SETS IN WORDS OF 64 BITS, as natural numbers; of no program. It proves nothing of Go.
-/
import Derived.Lib.TrailingZeros
import Derived.Lib.BitFns
namespace Go.Proofs.YtokehiehfgffmaaDoor.M

/-- The greatest word. -/
def top : Nat := 18446744073709551615
theorem top_eq : top = 2 ^ 64 - 1 := by decide
/-- The set of i alone; empty, if i is none of 0 to 63. -/
def onlyN (i : Int) : Nat := if 0 ≤ i ∧ i < 64 then 2 ^ i.toNat else 0
def mayB (i : Int) : Bool := decide (0 ≤ i ∧ i < 64)
def putN (s : Nat) (i : Int) : Nat := s ||| onlyN i
def lessN (s t : Nat) : Nat := s &&& (top - t)
def dropN (s : Nat) (i : Int) : Nat := lessN s (onlyN i)
def hasB (s : Nat) (i : Int) : Bool := (s &&& onlyN i) != 0
def belowN (i : Int) : Nat := if i ≤ 0 then 0 else if 64 ≤ i then top else 2 ^ i.toNat - 1
def rangeN (lo hi : Int) : Nat := lessN (belowN hi) (belowN lo)
def withinB (s t : Nat) : Bool := lessN s t == 0
/-- The numbers of s, rising. -/
def bl (s : Nat) : List Nat := (List.range 64).filter fun i => s.testBit i
def cnt (s : Nat) : Nat := (bl s).length

theorem onlyN_lt (i : Int) : onlyN i < 2 ^ 64 := by
  unfold onlyN
  split
  · exact Nat.pow_lt_pow_right (by decide) (by omega)
  · decide
theorem onlyN_testBit (i : Int) (j : Nat) (hj : j < 64) : (onlyN i).testBit j = decide (i = j) := by
  unfold onlyN
  split
  · rename_i h
    rw [Nat.testBit_two_pow, Bool.eq_iff_iff]
    simp
    omega
  · rename_i h
    have : ¬ i = (j : Int) := by omega
    simp [this]
theorem lessN_testBit (s t j : Nat) (hs : s < 2 ^ 64) (ht : t < 2 ^ 64) : (lessN s t).testBit j = (s.testBit j && !t.testBit j) := by
  unfold lessN
  have e : top - t = 2 ^ 64 - (t + 1) := by unfold top; omega
  rw [Nat.testBit_and, e, Nat.testBit_two_pow_sub_succ ht]
  by_cases h : j < 64
  · simp [h]
  · have : s.testBit j = false := Nat.testBit_lt_two_pow (Nat.lt_of_lt_of_le hs (Nat.pow_le_pow_right (by decide) (by omega)))
    simp [this]
theorem lessN_lt (s t : Nat) (hs : s < 2 ^ 64) : lessN s t < 2 ^ 64 := Nat.lt_of_le_of_lt Nat.and_le_left hs
theorem putN_lt (s : Nat) (i : Int) (hs : s < 2 ^ 64) : putN s i < 2 ^ 64 := Nat.or_lt_two_pow hs (onlyN_lt i)
theorem belowN_lt (i : Int) : belowN i < 2 ^ 64 := by
  unfold belowN
  split
  · decide
  · split
    · decide
    · have : 2 ^ i.toNat < 2 ^ 64 := Nat.pow_lt_pow_right (by decide) (by omega)
      omega
theorem belowN_testBit (i : Int) (j : Nat) (hj : j < 64) : (belowN i).testBit j = decide ((j : Int) < i) := by
  unfold belowN
  split
  · rename_i h
    have : ¬ (j : Int) < i := by omega
    simp [this]
  · split
    · rename_i h
      have : (j : Int) < i := by omega
      rw [top_eq, Nat.testBit_two_pow_sub_one]
      simp [hj, this]
    · rw [Nat.testBit_two_pow_sub_one, Bool.eq_iff_iff]
      simp
theorem putN_testBit (s : Nat) (i : Int) (j : Nat) (hj : j < 64) : (putN s i).testBit j = (s.testBit j || decide (i = j)) := by
  unfold putN
  rw [Nat.testBit_or, onlyN_testBit i j hj]
theorem dropN_testBit (s : Nat) (i : Int) (j : Nat) (hj : j < 64) (hs : s < 2 ^ 64) : (dropN s i).testBit j = (s.testBit j && !decide (i = j)) := by
  unfold dropN
  rw [lessN_testBit s _ j hs (onlyN_lt i), onlyN_testBit i j hj]
theorem high (s j : Nat) (hs : s < 2 ^ 64) (hj : 64 ≤ j) : s.testBit j = false :=
  Nat.testBit_lt_two_pow (Nat.lt_of_lt_of_le hs (Nat.pow_le_pow_right (by decide) hj))
/-- Two words with the same numbers are one. -/
theorem ext (s t : Nat) (hs : s < 2 ^ 64) (ht : t < 2 ^ 64) (h : ∀ j, j < 64 → s.testBit j = t.testBit j) : s = t := by
  apply Nat.eq_of_testBit_eq
  intro j
  by_cases hj : j < 64
  · exact h j hj
  · rw [high s j hs (by omega), high t j ht (by omega)]
theorem hasB_eq (s : Nat) (i : Int) (hs : s < 2 ^ 64) : hasB s i = (decide (0 ≤ i) && s.testBit i.toNat) := by
  unfold hasB
  rw [Bool.eq_iff_iff, bne_iff_ne]
  constructor
  · intro h
    obtain ⟨j, hj⟩ := Nat.exists_testBit_of_ne_zero h
    rw [Nat.testBit_and] at hj
    simp only [Bool.and_eq_true] at hj
    have hj64 : j < 64 := by
      apply Nat.lt_of_not_le
      intro h64
      have := high s j hs h64
      rw [this] at hj
      simp at hj
    rw [onlyN_testBit i j hj64] at hj
    have e : i = (j : Int) := by simpa using hj.2
    subst e
    simp [hj.1]
  · intro h h0
    simp only [Bool.and_eq_true, decide_eq_true_eq] at h
    have h64 : i.toNat < 64 := by
      apply Nat.lt_of_not_le
      intro h64
      have := high s i.toNat hs h64
      rw [this] at h
      simp at h
    have e : (s &&& onlyN i).testBit i.toNat = true := by
      rw [Nat.testBit_and, onlyN_testBit i i.toNat h64, h.2]
      simp [Int.toNat_of_nonneg h.1]
    rw [h0] at e
    simp at e
theorem hasB_nat (s j : Nat) (hs : s < 2 ^ 64) : hasB s (j : Int) = s.testBit j := by
  rw [hasB_eq s j hs]
  simp
theorem zero_of (s : Nat) (hs : s < 2 ^ 64) (h : ∀ j, j < 64 → s.testBit j = false) : s = 0 :=
  ext s 0 hs (by decide) (fun j hj => by rw [h j hj]; simp)
theorem withinB_iff (s t : Nat) (hs : s < 2 ^ 64) (ht : t < 2 ^ 64) : withinB s t = true ↔ ∀ j, j < 64 → s.testBit j = true → t.testBit j = true := by
  unfold withinB
  rw [beq_iff_eq]
  constructor
  · intro h j _ hj'
    have := lessN_testBit s t j hs ht
    rw [h, hj'] at this
    simpa using this.symm
  · intro h
    apply zero_of _ (lessN_lt s t hs)
    intro j hj
    rw [lessN_testBit s t j hs ht]
    cases hsj : s.testBit j
    · rfl
    · simp [h j hj hsj]

/-! ### numbers of a set -/
theorem mem_bl (s j : Nat) : j ∈ bl s ↔ j < 64 ∧ s.testBit j = true := by
  unfold bl
  simp [List.mem_filter]
theorem bl_sorted (s : Nat) : (bl s).Pairwise (· < ·) := (List.pairwise_lt_range).filter _
theorem bl_zero : bl 0 = [] := by decide
theorem bl_len (s : Nat) : (bl s).length ≤ 64 := by
  unfold bl
  have := List.length_filter_le (fun i => s.testBit i) (List.range 64)
  simpa using this
theorem popAux_filter : ∀ (f x : Nat), Lib.popAux f x = ((List.range f).filter fun i => x.testBit i).length
  | 0, x => rfl
  | f + 1, x => by
    unfold Lib.popAux
    rw [List.range_succ_eq_map, popAux_filter f (x / 2), List.filter_cons, List.filter_map]
    have e : ((fun i => x.testBit i) ∘ Nat.succ) = fun i => (x / 2).testBit i := by
      funext i
      exact Nat.testBit_succ x i
    rw [e, Nat.testBit_zero]
    by_cases h : x % 2 = 1
    · simp [h]
      omega
    · have h0 : x % 2 = 0 := by omega
      simp [h0]
theorem cnt_eq (s : Nat) : cnt s = Lib.onesCount s := (popAux_filter 64 s).symm

/-! ### the least and the greatest number -/
theorem ctz_bits (x : Nat) (h0 : x ≠ 0) (hx : x < 2 ^ 64) : Lib.ctz 64 x < 64 ∧ x.testBit (Lib.ctz 64 x) = true ∧ ∀ j, j < Lib.ctz 64 x → x.testBit j = false := by
  obtain ⟨m, hm, hk⟩ := Lib.ctzFrom_spec 64 x (by omega) hx
  have e : Lib.ctz 64 x = Lib.ctzFrom 64 x := by simp [Lib.ctz, h0]
  rw [e]
  generalize Lib.ctzFrom 64 x = k at *
  refine ⟨hk, ?_, ?_⟩
  · rw [hm, Nat.mul_comm, Nat.testBit_mul_two_pow]
    simp [Nat.testBit_zero]
  · intro j hj
    rw [hm, Nat.mul_comm, Nat.testBit_mul_two_pow]
    have : ¬ k ≤ j := by omega
    simp [this]
theorem bitLen_bits (x : Nat) (h0 : x ≠ 0) (hx : x < 2 ^ 64) : 1 ≤ Lib.bitLen x ∧ Lib.bitLen x ≤ 64 ∧ x.testBit (Lib.bitLen x - 1) = true ∧ ∀ j, Lib.bitLen x ≤ j → x.testBit j = false := by
  have key : ∀ (f x : Nat), x ≠ 0 → x < 2 ^ f → f ≤ 64 → 1 ≤ Lib.bitLen x ∧ x.testBit (Lib.bitLen x - 1) = true ∧ ∀ j, Lib.bitLen x ≤ j → x.testBit j = false := by
    intro f
    induction f with
    | zero => intro x h0 hx; simp at hx; omega
    | succ f ih =>
      intro x h0 hx hf
      have hx64 : x < 2 ^ 64 := Nat.lt_of_lt_of_le hx (Nat.pow_le_pow_right (by decide) hf)
      rw [Lib.bitLen_half x h0 hx64]
      by_cases h1 : x / 2 = 0
      · have hx1 : x = 1 := by omega
        have e0 : Lib.bitLen (x / 2) = 0 := by rw [h1]; decide
        rw [e0]
        subst hx1
        refine ⟨by omega, by decide, ?_⟩
        intro j hj
        obtain ⟨i, rfl⟩ : ∃ i, j = i + 1 := ⟨j - 1, by omega⟩
        rw [Nat.testBit_succ]
        simp
      · obtain ⟨a, b, c⟩ := ih (x / 2) h1 (by rw [Nat.pow_succ] at hx; omega) (by omega)
        refine ⟨by omega, ?_, ?_⟩
        · obtain ⟨i, hi⟩ : ∃ i, Lib.bitLen (x / 2) = i + 1 := ⟨Lib.bitLen (x / 2) - 1, by omega⟩
          rw [hi] at b ⊢
          rw [show 1 + (i + 1) - 1 = i + 1 by omega, Nat.testBit_succ]
          simpa using b
        · intro j hj
          obtain ⟨i, rfl⟩ : ∃ i, j = i + 1 := ⟨j - 1, by omega⟩
          rw [Nat.testBit_succ]
          exact c i (by omega)
  obtain ⟨a, b, c⟩ := key 64 x h0 hx (by omega)
  exact ⟨a, Lib.bitLen_le x 64 (by omega) hx, b, c⟩
/-- The least number; -1, if there is none. -/
def firstI (s : Nat) : Int := if s = 0 then -1 else (Lib.ctz 64 s : Int)
/-- The greatest number; -1, if there is none. -/
def lastI (s : Nat) : Int := (Lib.bitLen s : Int) - 1
/-- What is left of the numbers from k on. -/
theorem filter_from (p : Nat → Bool) : ∀ (n k : Nat), p k = true → (∀ j, j < k → p j = false) → k < n → (List.range n).filter p = k :: (List.range n).filter (fun j => p j && !decide (k = j))
  | 0, k, _, _, h => by omega
  | n + 1, k, hk, hlow, h => by
    rw [List.range_succ, List.filter_append, List.filter_append]
    by_cases hkn : k < n
    · rw [filter_from p n k hk hlow hkn]
      have hne : ¬ k = n := by omega
      simp [List.filter_cons, hne]
    · have hkn' : k = n := by omega
      subst hkn'
      have e1 : (List.range k).filter p = [] := by
        rw [List.filter_eq_nil_iff]
        intro a ha
        simp [hlow a (List.mem_range.1 ha)]
      have e2 : (List.range k).filter (fun j => p j && !decide (k = j)) = [] := by
        rw [List.filter_eq_nil_iff]
        intro a ha
        simp [hlow a (List.mem_range.1 ha)]
      rw [e1, e2]
      simp [hk]
theorem bl_cons (s : Nat) (h0 : s ≠ 0) (hs : s < 2 ^ 64) : bl s = Lib.ctz 64 s :: bl (dropN s (Lib.ctz 64 s : Nat)) := by
  obtain ⟨a, b, c⟩ := ctz_bits s h0 hs
  unfold bl
  rw [filter_from _ 64 (Lib.ctz 64 s) b c a]
  congr 1
  apply List.filter_congr
  intro j hj
  rw [dropN_testBit s _ j (List.mem_range.1 hj) hs]
  have e : decide (((Lib.ctz 64 s : Nat) : Int) = (j : Int)) = decide (Lib.ctz 64 s = j) := decide_eq_decide.2 (by omega)
  rw [e]
theorem dropN_lt (s : Nat) (i : Int) (hs : s < 2 ^ 64) : dropN s i < 2 ^ 64 := lessN_lt s _ hs
theorem dropN_less (s : Nat) (h0 : s ≠ 0) (hs : s < 2 ^ 64) : dropN s (Lib.ctz 64 s : Nat) < s := by
  have hle : dropN s (Lib.ctz 64 s : Nat) ≤ s := Nat.and_le_left
  rcases Nat.lt_or_eq_of_le hle with h | h
  · exact h
  · obtain ⟨a, b, c⟩ := ctz_bits s h0 hs
    have := dropN_testBit s (Lib.ctz 64 s : Nat) (Lib.ctz 64 s) a hs
    rw [h, b] at this
    simp at this
/-- The numbers of s, as Go's ints. -/
def bi (s : Nat) : List Int := (bl s).map Int.ofNat
theorem bi_cons (s : Nat) (h0 : s ≠ 0) (hs : s < 2 ^ 64) : bi s = (Lib.ctz 64 s : Int) :: bi (dropN s (Lib.ctz 64 s : Nat)) := by
  unfold bi
  rw [bl_cons s h0 hs]
  rfl
theorem bi_len (s : Nat) : (bi s).length = cnt s := by simp [bi, cnt]
theorem bi_zero : bi 0 = [] := by decide
theorem cnt_le (s : Nat) : cnt s ≤ 64 := bl_len s
theorem bi_getD (s i : Nat) (h : i < cnt s) : ∃ a : Nat, (bi s).getD i 0 = (a : Int) ∧ (bl s)[i]? = some a ∧ a < 64 ∧ s.testBit a = true := by
  have hl : i < (bl s).length := h
  refine ⟨(bl s)[i], by simp [bi, List.getD, hl], by simp [hl], ?_⟩
  exact (mem_bl s _).1 (List.getElem_mem hl)
theorem bi_rises (s i : Nat) (h : i + 1 < cnt s) : (bi s).getD i 0 < (bi s).getD (i + 1) 0 := by
  have hl : i + 1 < (bl s).length := h
  have hp := List.pairwise_iff_getElem.1 (bl_sorted s) i (i + 1) (by omega) hl (by omega)
  have e1 : (bi s).getD i 0 = ((bl s)[i]'(by omega) : Int) := by simp [bi, List.getD, show i < (bl s).length by omega]
  have e2 : (bi s).getD (i + 1) 0 = ((bl s)[i + 1]'hl : Int) := by simp [bi, List.getD, hl]
  rw [e1, e2]
  omega
theorem cnt_pos (s : Nat) (h0 : s ≠ 0) (hs : s < 2 ^ 64) : 0 < cnt s := by
  unfold cnt
  rw [bl_cons s h0 hs]
  simp
theorem bi_first (s : Nat) (h0 : s ≠ 0) (hs : s < 2 ^ 64) : (bi s).getD 0 0 = firstI s := by
  rw [bi_cons s h0 hs]
  simp [firstI, h0]
theorem bi_last (s : Nat) (h0 : s ≠ 0) (hs : s < 2 ^ 64) : (bi s).getD (cnt s - 1) 0 = lastI s := by
  have hp := cnt_pos s h0 hs
  obtain ⟨a, he, ha, _, hat⟩ := bi_getD s (cnt s - 1) (by omega)
  obtain ⟨b1, b2, b3, b4⟩ := bitLen_bits s h0 hs
  rw [he]
  unfold lastI
  have hle : a ≤ Lib.bitLen s - 1 := by
    apply Nat.le_of_not_lt
    intro h
    rw [b4 a (by omega)] at hat
    cases hat
  have hmem : Lib.bitLen s - 1 ∈ bl s := (mem_bl s _).2 ⟨by omega, b3⟩
  obtain ⟨k, hk, hke⟩ := List.getElem_of_mem hmem
  have hlen : (bl s).length = cnt s := rfl
  have hge : Lib.bitLen s - 1 ≤ a := by
    have ha' : (bl s)[cnt s - 1]'(by omega) = a := by
      rw [List.getElem?_eq_getElem (by omega)] at ha
      exact Option.some.inj ha
    rw [← ha', ← hke]
    rcases Nat.lt_or_ge k (cnt s - 1) with h | h
    · exact Nat.le_of_lt (List.pairwise_iff_getElem.1 (bl_sorted s) k (cnt s - 1) hk (by omega) h)
    · have : k = cnt s - 1 := by omega
      subst this
      exact Nat.le_refl _
  omega
end Go.Proofs.YtokehiehfgffmaaDoor.M
