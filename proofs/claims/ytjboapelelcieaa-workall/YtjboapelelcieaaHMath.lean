/-
  PLAIN MATHEMATICS OF A BINARY HEAP that is kept by swaps (as container/heap keeps it); of no program. It proves nothing of Go.
-/
namespace Go.Proofs.Ytjboapelelcieaa.H
set_option linter.unusedVariables false
set_option linter.unusedSimpArgs false

/-- The place above i. -/
def par (i : Nat) : Nat := (i - 1) / 2
theorem par_lt {i : Nat} (h : 0 < i) : par i < i := by
  unfold par
  omega
theorem par_iff {c i : Nat} (h : 0 < c) : par c = i ↔ c = 2 * i + 1 ∨ c = 2 * i + 2 := by
  unfold par
  omega
section
variable {α : Type}
/-- What lies at i and at j, exchanged. -/
def sw (f : Nat → α) (i j : Nat) : Nat → α := fun k => if k = i then f j else if k = j then f i else f k
theorem sw_left (f : Nat → α) (i j : Nat) : sw f i j i = f j := by simp [sw]
theorem sw_right (f : Nat → α) (i j : Nat) : sw f i j j = f i := by
  unfold sw
  by_cases h : j = i
  · subst h
    simp
  · simp [h]
theorem sw_else (f : Nat → α) {i j k : Nat} (h1 : k ≠ i) (h2 : k ≠ j) : sw f i j k = f k := by simp [sw, h1, h2]

/-- A strict order in which what is not before goes on. -/
structure Ord (lt : α → α → Bool) : Prop where
  asym : ∀ a b, lt a b = true → lt b a = false
  trans : ∀ a b c, lt a b = true → lt b c = true → lt a c = true
  neg : ∀ a b c, lt a b = false → lt b c = false → lt a c = false
variable {lt : α → α → Bool} (hlt : Ord lt)
/-- Nothing is before what lies above it. -/
def Heap (lt : α → α → Bool) (n : Nat) (f : Nat → α) : Prop := ∀ i, 0 < i → i < n → lt (f i) (f (par i)) = false
/-- A heap but for j, which may have to go up. -/
structure UpInv (lt : α → α → Bool) (n : Nat) (f : Nat → α) (j : Nat) : Prop where
  ins : j < n
  ok : ∀ i, 0 < i → i < n → i ≠ j → lt (f i) (f (par i)) = false
  kids : ∀ c, 0 < c → c < n → par c = j → 0 < j → lt (f c) (f (par j)) = false
theorem UpInv.done {n : Nat} {f : Nat → α} {j : Nat} (h : UpInv lt n f j) (hj : j = 0 ∨ lt (f j) (f (par j)) = false) : Heap lt n f := by
  intro i h0 hi
  by_cases e : i = j
  · subst e
    rcases hj with hj | hj
    · omega
    · exact hj
  · exact h.ok i h0 hi e
include hlt
theorem UpInv.step {n : Nat} {f : Nat → α} {j : Nat} (h : UpInv lt n f j) (h0 : 0 < j) (hl : lt (f j) (f (par j)) = true) : UpInv lt n (sw f (par j) j) (par j) := by
  have hp := par_lt h0
  have hjn := h.ins
  refine ⟨by omega, fun i hi0 hin hne => ?_, fun c hc0 hcn hpc hp0 => ?_⟩
  · by_cases hij : i = j
    · subst hij
      rw [sw_right, sw_left]
      exact hlt.asym _ _ hl
    · rw [sw_else f hne hij]
      by_cases hpi : par i = par j
      · rw [hpi, sw_left]
        rw [Bool.eq_false_iff]
        intro hc
        have := h.ok i hi0 hin hij
        rw [hpi, hlt.trans _ _ _ hc hl] at this
        cases this
      · by_cases hpj : par i = j
        · rw [hpj, sw_right]
          exact h.kids i hi0 hin hpj h0
        · rw [sw_else f hpi hpj]
          exact h.ok i hi0 hin hij
  · have hpp := par_lt hp0
    rw [sw_else f (k := par (par j)) (by omega) (by omega)]
    by_cases hcj : c = j
    · subst hcj
      rw [sw_right]
      exact h.ok (par c) hp0 (by omega) (by omega)
    · have hcp : c ≠ par j := by
        intro e
        have := par_lt hc0
        omega
      rw [sw_else f hcp hcj]
      have h1 := h.ok c hc0 hcn hcj
      rw [hpc] at h1
      exact hlt.neg _ _ _ h1 (h.ok (par j) hp0 (by omega) (by omega))
omit hlt
/-- A heap but for i, which may have to go down. -/
structure DownInv (lt : α → α → Bool) (n : Nat) (f : Nat → α) (i : Nat) : Prop where
  ok : ∀ k, 0 < k → k < n → par k ≠ i → lt (f k) (f (par k)) = false
  kids : ∀ c, 0 < c → c < n → par c = i → 0 < i → lt (f c) (f (par i)) = false
theorem DownInv.done {n : Nat} {f : Nat → α} {i : Nat} (h : DownInv lt n f i) (hi : ∀ c, 0 < c → c < n → par c = i → lt (f c) (f i) = false) : Heap lt n f := by
  intro k h0 hk
  by_cases e : par k = i
  · rw [e]
    exact hi k h0 hk e
  · exact h.ok k h0 hk e
include hlt
theorem DownInv.step {n : Nat} {f : Nat → α} {i j : Nat} (h : DownInv lt n f i) (hj0 : 0 < j) (hjn : j < n) (hpj : par j = i) (hl : lt (f j) (f i) = true) (hleast : ∀ c, 0 < c → c < n → par c = i → lt (f c) (f j) = false) : DownInv lt n (sw f i j) j := by
  have hij := par_lt hj0
  rw [hpj] at hij
  refine ⟨fun k hk0 hkn hpk => ?_, fun c hc0 hcn hpc _ => ?_⟩
  · by_cases hki : k = i
    · subst hki
      have hpp := par_lt hk0
      rw [sw_left, sw_else f (k := par k) (by omega) (by omega)]
      exact h.kids j hj0 hjn hpj hk0
    · by_cases hkj : k = j
      · subst hkj
        rw [sw_right, hpj, sw_left]
        exact hlt.asym _ _ hl
      · rw [sw_else f hki hkj]
        by_cases hpi : par k = i
        · rw [hpi, sw_left]
          exact hleast k hk0 hkn hpi
        · rw [sw_else f hpi hpk]
          exact h.ok k hk0 hkn hpi
  · have hcj := par_lt hc0
    rw [hpc] at hcj
    rw [sw_else f (k := c) (by omega) (by omega), hpj, sw_left]
    have := h.ok c hc0 hcn (by omega)
    rwa [hpc] at this
theorem Heap.least {n : Nat} {f : Nat → α} (h : Heap lt n f) : ∀ k, k < n → lt (f k) (f 0) = false := by
  intro k
  induction k using Nat.strongRecOn with
  | ind k ih =>
    intro hk
    by_cases h0 : k = 0
    · subst h0
      rw [Bool.eq_false_iff]
      intro hc
      have := hlt.asym _ _ hc
      rw [hc] at this
      cases this
    · have hp := par_lt (show 0 < k by omega)
      exact hlt.neg _ _ _ (h k (by omega) hk) (ih (par k) hp (by omega))
omit hlt
/-- A heap of n + 1, whose last one is put: only the last may have to go up. -/
theorem Heap.push {n : Nat} {f : Nat → α} (h : Heap lt n f) : UpInv lt (n + 1) f n := by
  refine ⟨by omega, fun i h0 hi hne => h i h0 (by omega), fun c h0 hc hp _ => ?_⟩
  have := par_lt h0
  omega
/-- The first and the last of a heap exchanged: but for the last, only the first may have to go down. -/
theorem Heap.pop {n : Nat} {f : Nat → α} (h : Heap lt (n + 1) f) : DownInv lt n (sw f 0 n) 0 := by
  refine ⟨fun k h0 hk hp => ?_, fun c _ _ _ h0 => by omega⟩
  have := par_lt h0
  rw [sw_else f (k := k) (by omega) (by omega), sw_else f hp (by omega)]
  exact h k h0 (by omega)
/-- The list of the first n. -/
def lst (n : Nat) (f : Nat → α) : List α := (List.range n).map f
theorem lst_len (n : Nat) (f : Nat → α) : (lst n f).length = n := by simp [lst]
theorem lst_succ (n : Nat) (f : Nat → α) : lst (n + 1) f = lst n f ++ [f n] := by simp [lst, List.range_succ]
theorem lst_congr {n : Nat} {f g : Nat → α} (h : ∀ i, i < n → f i = g i) : lst n f = lst n g := by
  unfold lst
  exact List.map_congr_left fun i hi => h i (List.mem_range.1 hi)
/-- An exchange leaves the same things. -/
theorem sw_perm {n : Nat} (f : Nat → α) {i j : Nat} (hi : i < n) (hj : j < n) : (lst n (sw f i j)).Perm (lst n f) := by
  let σ : Nat → Nat := sw id i j
  have e : lst n (sw f i j) = ((List.range n).map σ).map f := by
    unfold lst
    rw [List.map_map]
    apply List.map_congr_left
    intro k _
    show sw f i j k = f (sw id i j k)
    unfold sw
    split
    · rfl
    · split <;> rfl
  rw [e]
  refine List.Perm.map f ?_
  have hs : ∀ k, σ k = if k = i then j else if k = j then i else k := fun k => rfl
  have hinj : ∀ a b, σ a = σ b → a = b := by
    intro a b h
    rw [hs, hs] at h
    split at h <;> split at h <;> (try split at h) <;> (try split at h) <;> omega
  have hnd : ((List.range n).map σ).Nodup := by
    unfold List.Nodup
    rw [List.pairwise_map]
    exact List.nodup_range.imp fun hne he => hne (hinj _ _ he)
  refine (List.perm_ext_iff_of_nodup hnd List.nodup_range).2 fun a => ?_
  simp only [List.mem_map, List.mem_range]
  constructor
  · rintro ⟨k, hk, rfl⟩
    rw [hs]
    split
    · exact hj
    · split
      · exact hi
      · exact hk
  · intro ha
    refine ⟨σ a, ?_, ?_⟩
    · rw [hs]
      split
      · exact hj
      · split
        · exact hi
        · exact ha
    · rw [hs (σ a), hs a]
      split <;> split <;> (try split at *) <;> (try split) <;> omega
/-- What is left of a heap when its first one is gone. -/
theorem pop_perm {n : Nat} (f : Nat → α) : (lst (n + 1) f).Perm (lst n (sw f 0 n) ++ [f 0]) := by
  have h1 := sw_perm (n := n + 1) f (i := 0) (j := n) (by omega) (by omega)
  rw [lst_succ, sw_right] at h1
  exact h1.symm
theorem mem_lst {n : Nat} {f : Nat → α} {a : α} : a ∈ lst n f ↔ ∃ i, i < n ∧ f i = a := by
  simp [lst]
end
/-! ### keys -/
/-- The lesser key is before; of like keys the lesser second one. -/
def klt (a b : Int × Int) : Bool := decide (a.1 < b.1 ∨ (a.1 = b.1 ∧ a.2 < b.2))
theorem klt_ord {α : Type} (k : α → Int × Int) : Ord (fun x y => klt (k x) (k y)) := by
  refine ⟨fun a b h => ?_, fun a b c h1 h2 => ?_, fun a b c h1 h2 => ?_⟩
  · simp only [klt, decide_eq_true_eq, decide_eq_false_iff_not] at *
    omega
  · simp only [klt, decide_eq_true_eq] at *
    omega
  · simp only [klt, decide_eq_false_iff_not] at *
    omega
theorem klt_tri {a b : Int × Int} (h1 : klt a b = false) (h2 : klt b a = false) : a = b := by
  simp only [klt, decide_eq_false_iff_not] at *
  obtain ⟨a1, a2⟩ := a
  obtain ⟨b1, b2⟩ := b
  simp only [Prod.mk.injEq] at *
  omega
/-- Of the same things, in whatever order, the least one is the same, if no two have one key. -/
theorem least_uniq {α : Type} {k : α → Int × Int} {l l' : List α} (hp : l.Perm l') (hk : ∀ a ∈ l, ∀ b ∈ l, k a = k b → a = b) {a a' : α} (ha : a ∈ l) (ha' : a' ∈ l')
    (hl : ∀ b ∈ l, klt (k b) (k a) = false) (hl' : ∀ b ∈ l', klt (k b) (k a') = false) : a = a' :=
  hk a ha a' (hp.mem_iff.2 ha') (klt_tri (hl' a (hp.mem_iff.1 ha)) (hl a' (hp.mem_iff.2 ha')))
end Go.Proofs.Ytjboapelelcieaa.H
