/-
  PLAIN MATHEMATICS of what is to be done: the things that a list has, in the order in which they were pushed; of no program.
-/
import Derived.Test.YtjboapelelcieaaWQueue
namespace Go.Proofs.Ytjboapelelcieaa.Wk
set_option linter.unusedVariables false
set_option linter.unusedSimpArgs false
/-- The things m are some of the first k that were pushed, in that order, each with its key. -/
structure Ordered (ps : List Int) (k : Nat) (m : List Th) : Prop where
  rise : m.Pairwise fun a b => a.turn < b.turn
  each : ∀ t ∈ m, ∃ j : Nat, j < k ∧ t.turn = (j : Int) ∧ t.key = keyOf ps j
theorem Ordered.nil (ps : List Int) (k : Nat) : Ordered ps k [] := ⟨.nil, by simp⟩
theorem Ordered.push {ps : List Int} {k : Nat} {m : List Th} (h : Ordered ps k m) (n : Int) : Ordered ps (k + 1) (m ++ [⟨n, keyOf ps k, k⟩]) := by
  refine ⟨List.pairwise_append.2 ⟨h.rise, by simp, fun a ha b hb => ?_⟩, fun t ht => ?_⟩
  · obtain ⟨j, hj, e, _⟩ := h.each a ha
    rw [List.mem_singleton] at hb
    subst hb
    simp only
    omega
  · rw [List.mem_append, List.mem_singleton] at ht
    rcases ht with ht | rfl
    · obtain ⟨j, hj, e⟩ := h.each t ht
      exact ⟨j, by omega, e⟩
    · exact ⟨k, by omega, rfl, rfl⟩
theorem Ordered.sub {ps : List Int} {k : Nat} {m m' : List Th} (h : Ordered ps k m) (hs : m'.Sublist m) : Ordered ps k m' :=
  ⟨h.rise.sublist hs, fun t ht => h.each t (hs.subset ht)⟩
theorem Ordered.inj {ps : List Int} {k : Nat} {m : List Th} (h : Ordered ps k m) {i j : Nat} (hi : i < m.length) (hj : j < m.length) (e : (tat m i).turn = (tat m j).turn) : i = j := by
  have hr := List.pairwise_iff_getElem.1 h.rise
  have ei : tat m i = m[i] := by simp [tat, List.getD_eq_getElem?_getD, hi]
  have ej : tat m j = m[j] := by simp [tat, List.getD_eq_getElem?_getD, hj]
  rw [ei, ej] at e
  by_cases h1 : i < j
  · have := hr i j hi hj h1
    omega
  · by_cases h2 : j < i
    · have := hr j i hj hi h2
      omega
    · omega
/-- The i-th one comes out next. -/
def Best (m : List Th) (i : Nat) : Prop := i < m.length ∧ ∀ j, j < m.length → lt (tat m j) (tat m i) = false
theorem lt_tri {a b : Th} (h1 : lt a b = false) (h2 : lt b a = false) : a.key = b.key ∧ a.turn = b.turn := by
  have := H.klt_tri h1 h2
  simpa using this
theorem Best.uniq {ps : List Int} {k : Nat} {m : List Th} (h : Ordered ps k m) {i j : Nat} (hi : Best m i) (hj : Best m j) : i = j :=
  h.inj hi.1 hj.1 (lt_tri (hj.2 i hi.1) (hi.2 j hj.1)).2
theorem erase_perm (m : List Th) (i : Nat) (hi : i < m.length) : m.Perm (m.eraseIdx i ++ [tat m i]) := by
  have e : tat m i = m[i] := by simp [tat, List.getD_eq_getElem?_getD, hi]
  rw [e, List.eraseIdx_eq_take_drop_succ]
  have h1 : m = m.take i ++ m[i] :: m.drop (i + 1) := by
    rw [List.getElem_cons_drop, List.take_append_drop]
  have h2 : (m.take i ++ m[i] :: m.drop (i + 1)).Perm (m.take i ++ (m.drop (i + 1) ++ [m[i]])) := List.Perm.append_left _ (List.perm_append_singleton _ _).symm
  rw [← h1, ← List.append_assoc] at h2
  exact h2
/-- What lies first in a heap of the same things is what comes out next. -/
theorem best_of {ts m : List Th} (hp : ts.Perm m) (hh : H.Heap lt ts.length (tat ts)) (h0 : 0 < ts.length) {ts' : List Th} (hp' : ts.Perm (ts' ++ [tat ts 0])) :
    ∃ i, Best m i ∧ tat m i = tat ts 0 ∧ ts'.Perm (m.eraseIdx i) := by
  have hmem : tat ts 0 ∈ m := by
    refine hp.mem_iff.1 ?_
    have : tat ts 0 = ts[0] := by simp [tat, List.getD_eq_getElem?_getD, h0]
    rw [this]
    exact List.getElem_mem h0
  obtain ⟨i, hi, he⟩ := List.mem_iff_getElem.1 hmem
  have hti : tat m i = tat ts 0 := by rw [← he]; simp [tat, List.getD_eq_getElem?_getD, hi]
  refine ⟨i, ⟨hi, fun j hj => ?_⟩, hti, ?_⟩
  · have hmj : tat m j ∈ ts := by
      refine hp.mem_iff.2 ?_
      have : tat m j = m[j] := by simp [tat, List.getD_eq_getElem?_getD, hj]
      rw [this]
      exact List.getElem_mem hj
    obtain ⟨q, hq, hqe⟩ := List.mem_iff_getElem.1 hmj
    have htq : tat ts q = tat m j := by rw [← hqe]; simp [tat, List.getD_eq_getElem?_getD, hq]
    rw [hti, ← htq]
    exact hh.least lt_ord q hq
  · have h1 : (ts' ++ [tat ts 0]).Perm (m.eraseIdx i ++ [tat ts 0]) := by
      rw [← hti]
      rw [← hti] at hp'
      exact (hp'.symm.trans hp).trans (erase_perm m i hi)
    exact (List.perm_append_right_iff _).1 h1
end Go.Proofs.Ytjboapelelcieaa.Wk
