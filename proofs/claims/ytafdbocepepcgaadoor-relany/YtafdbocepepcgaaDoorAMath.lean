/-
  What the walk of the statement RelAny leans on.
-/
import Derived.Test.YtafdbocepepcgaaDoorFMath
namespace Go.Proofs.YtafdbocepepcgaaDoor
open Go.RowKit
set_option linter.unusedVariables false
set_option linter.unusedSimpArgs false

theorem eqPair_self (x y : Int) : ∀ w : World, (Op.equalIn 10000 28 (.agg #[.int .i64 x, .int .i64 y]) (.agg #[.int .i64 x, .int .i64 y])).run Tryd.prog w = .ok true w := fun w => by
  rw [eqPair]
  simp
set_option maxHeartbeats 800000 in
theorem same_any (a b : Option Addr) (len ca cb : Nat) (ps : List (Int × Int)) (w : World) (ha : IsPairs w a len ps) (hb : IsPairs w b len ps) :
    Calls Tryd.prog 14 #[.slice a len ca, .slice b len cb] w (Ans (.bool true) w) := by
  have hm := ha.2.1
  have HA := Lib.hid ha
  have HB := Lib.hid hb
  clear ha hb
  go_enter Tryd.func14, Tryd.ntmps14
  go_wp2
  go_loopw [5] (fun k wr => ∃ j : Nat, j ≤ len ∧ k = .int .i64 j ∧ IsPairs wr a len ps ∧ IsPairs wr b len ps ∧ Below w.heap.size w wr) (fun k _ => len - (intOf k).toNat)
  case atStart => exact ⟨0, Nat.zero_le _, rfl, HA.out, HB.out, Below.refl _ _⟩
  case round =>
    obtain ⟨j, hj, rfl, ha, hb, hB⟩ := hrel
    by_cases hjl : j < len
    · obtain ⟨b1, o1, rfl, hc1⟩ := ha.at (by omega)
      obtain ⟨b2, o2, rfl, hc2⟩ := hb.at (by omega)
      obtain ⟨x1, y1⟩ := hc1 j hjl
      obtain ⟨x2, y2⟩ := hc2 j hjl
      have d1 : (0 : Int) ≤ (j : Int) := by omega
      have d2 : (j : Int) < (len : Int) := by omega
      have HX := Lib.hid ha
      have HY := Lib.hid hb
      clear hc1 hc2 ha hb
      generalize ps.getD j (0, 0) = p at *
      obtain ⟨x, y⟩ := p
      simp only at x1 y1 x2 y2
      have heq := eqPair_self x y
      go_wp2_with fail
      go_quiet (fail)
      go_wp2
      go_roundw
      case rel => exact ⟨j + 1, by omega, by go_num, HX.out.below (below_drewN (Below.refl _ _) _), HY.out.below (below_drewN (Below.refl _ _) _), below_drewN hB _⟩
      case measure => simp [intOf]; omega
    · go_wp2
      go_ret
      exact ⟨rfl, hB⟩

/-- The pairs ahead of (i, j). -/
def pairsTo (xs : List Nat) (i j : Nat) : List (Nat × Nat) := R.pairsOf xs (List.range i) ++ ((List.range j).filter fun y => (R.row xs i).testBit y).map fun y => (i, y)
theorem pairsTo_hit (xs : List Nat) (i j : Nat) (h : (R.row xs i).testBit j = true) : pairsTo xs i (j + 1) = pairsTo xs i j ++ [(i, j)] := by
  unfold pairsTo
  rw [List.range_succ, List.filter_append]
  simp [h]
theorem pairsTo_miss (xs : List Nat) (i j : Nat) (h : (R.row xs i).testBit j = false) : pairsTo xs i (j + 1) = pairsTo xs i j := by
  unfold pairsTo
  rw [List.range_succ, List.filter_append]
  simp [h]
theorem bl_upto {n : Nat} {xs : List Nat} (h : Rel n xs) (i : Nat) : ((List.range n).filter fun y => (R.row xs i).testBit y) = M.bl (R.row xs i) := by
  unfold M.bl
  have hn := h.le
  obtain ⟨d, hd⟩ : ∃ d, 64 = n + d := ⟨64 - n, by omega⟩
  have key : ∀ d, ((List.range (n + d)).filter fun y => (R.row xs i).testBit y) = (List.range n).filter fun y => (R.row xs i).testBit y := by
    intro d
    induction d with
    | zero => rfl
    | succ d ih =>
      rw [← Nat.add_assoc, List.range_succ, List.filter_append, ih]
      have : (R.row xs i).testBit (n + d) = false := by
        cases hb : (R.row xs i).testBit (n + d)
        · rfl
        · have := (h.lt hb).2.1
          omega
      simp [this]
  rw [hd, key d]
theorem pairsTo_row {n : Nat} {xs : List Nat} (h : Rel n xs) (i : Nat) : pairsTo xs (i + 1) 0 = pairsTo xs i n := by
  unfold pairsTo
  rw [bl_upto h i]
  simp [R.pairsOf, List.range_succ, List.flatMap_append]
theorem pairsTo_full {n : Nat} {xs : List Nat} (h : Rel n xs) : pairsTo xs n 0 = R.pairsR xs := by
  simp [pairsTo, R.pairsR, h.2.2, h.1]
theorem pairsTo_len (xs : List Nat) (i j : Nat) (hi : i ≤ 64) (hj : j ≤ 64) : (pairsTo xs i j).length ≤ 4160 := by
  unfold pairsTo
  have h1 := pairs_len xs (List.range i)
  have h2 := List.length_filter_le (fun y => (R.row xs i).testBit y) (List.range j)
  simp only [List.length_range, List.length_append, List.length_map] at *
  omega
/-- What those of s are before, of these pairs. -/
def intoOf (s : Nat) (ps : List (Nat × Nat)) : Nat := ps.foldl (fun u p => if s.testBit p.1 then M.putN u (p.2 : Int) else u) 0
theorem intoOf_snoc (s : Nat) (ps : List (Nat × Nat)) (p : Nat × Nat) : intoOf s (ps ++ [p]) = if s.testBit p.1 then M.putN (intoOf s ps) (p.2 : Int) else intoOf s ps := by simp [intoOf, List.foldl_append]
theorem into_fold_lt (s : Nat) : ∀ (ps : List (Nat × Nat)) (u : Nat), u < 2 ^ 64 → ps.foldl (fun u p => if s.testBit p.1 then M.putN u (p.2 : Int) else u) u < 2 ^ 64
  | [], u, h => h
  | p :: ps, u, h => into_fold_lt s ps _ (by dsimp only; split; exact M.putN_lt _ _ h; exact h)
theorem intoOf_lt (s : Nat) (ps : List (Nat × Nat)) : intoOf s ps < 2 ^ 64 := into_fold_lt s ps 0 (by decide)
theorem into_fold_bit (s j : Nat) (hj : j < 64) : ∀ (ps : List (Nat × Nat)) (u : Nat), (ps.foldl (fun u p => if s.testBit p.1 then M.putN u (p.2 : Int) else u) u).testBit j = true ↔ u.testBit j = true ∨ ∃ p ∈ ps, s.testBit p.1 = true ∧ p.2 = j
  | [], u => by simp
  | p :: ps, u => by
    simp only [List.foldl_cons]
    rw [into_fold_bit s j hj ps]
    by_cases h : s.testBit p.1 = true
    · rw [if_pos h, M.putN_testBit _ _ _ hj]
      simp only [Bool.or_eq_true, decide_eq_true_eq, List.mem_cons, exists_eq_or_imp]
      constructor
      · rintro ((h1 | h1) | h1)
        · exact .inl h1
        · exact .inr (.inl ⟨h, by omega⟩)
        · exact .inr (.inr h1)
      · rintro (h1 | ⟨_, h1⟩ | h1)
        · exact .inl (.inl h1)
        · exact .inl (.inr (by omega))
        · exact .inr h1
    · rw [if_neg h]
      simp only [List.mem_cons, exists_eq_or_imp]
      constructor
      · rintro (h1 | h1)
        · exact .inl h1
        · exact .inr (.inr h1)
      · rintro (h1 | ⟨h2, _⟩ | h1)
        · exact .inl h1
        · exact absurd h2 h
        · exact .inr h1
theorem into_pairs {n : Nat} {xs : List Nat} (h : Rel n xs) (s : Nat) : intoOf s (R.pairsR xs) = R.intoR xs s := by
  have e : R.intoR xs s = R.intoN xs (s &&& R.things n) := by simp [R.intoR, h.2.2, h.1]
  rw [e]
  refine M.ext _ _ (intoOf_lt _ _) (R.intoN_lt _ _ h.2.1) fun j hj => ?_
  rw [Bool.eq_iff_iff]
  unfold intoOf
  rw [into_fold_bit s j hj, R.intoN_bit]
  have hp : R.pairsR xs = R.pairsOf xs (List.range n) := by simp [R.pairsR, h.2.2, h.1]
  rw [hp]
  constructor
  · rintro (h1 | ⟨⟨i, k⟩, hm, h1, rfl⟩)
    · simp at h1
    · simp only [R.pairsOf, List.mem_flatMap, List.mem_map, List.mem_range, Prod.mk.injEq] at hm
      obtain ⟨i', hi', k', hk', rfl, rfl⟩ := hm
      have hb := ((M.mem_bl _ _).1 hk').2
      have hn := h.le
      refine ⟨i', by omega, ?_, hb⟩
      rw [Nat.testBit_and, R.things_bit _ _ (by omega)]
      simp [hi']
      exact h1
  · rintro ⟨i, hi, h1, h2⟩
    rw [Nat.testBit_and, Bool.and_eq_true] at h1
    refine .inr ⟨(i, j), ?_, h1.1, rfl⟩
    simp only [R.pairsOf, List.mem_flatMap, List.mem_map, List.mem_range, Prod.mk.injEq]
    exact ⟨i, (h.lt h2).1, j, (M.mem_bl _ _).2 ⟨hj, h2⟩, rfl, rfl⟩
theorem count_pairs (xs : List Nat) : R.countR xs = (ipairs (R.pairsR xs)).length := by
  unfold R.countR R.pairsR
  split
  · rw [← count_rows]
    simp only [ipairs, List.length_map]
    generalize List.range xs.length = l
    induction l with
    | nil => rfl
    | cons x l ih =>
      have e : (R.pairsOf xs (x :: l)).length = M.cnt (R.row xs x) + (R.pairsOf xs l).length := by simp [R.pairsOf, M.cnt]
      rw [e, List.map_cons, List.sum_cons, ih]
  · rfl
theorem ipairs_snoc (ps : List (Nat × Nat)) (i j : Nat) : ipairs (ps ++ [(i, j)]) = ipairs ps ++ [((i : Int), (j : Int))] := by simp [ipairs]
theorem ipairs_len (ps : List (Nat × Nat)) : (ipairs ps).length = ps.length := by simp [ipairs]
/-- What is there while the pairs are listed. -/
def AnyAt (w w1 : World) (ps : List (Nat × Nat)) (v : Value) (wr : World) : Prop :=
  wr.ownsRow w1.heap.size 28 2 v (ipairs ps).length (flat (ipairs ps)) ∧ Below w1.heap.size w1 wr ∧ Below w.heap.size w w1
theorem AnyAt.next {w w1 wr w2 : World} {ps : List (Nat × Nat)} {v v' : Value} {i j : Nat} (h : AnyAt w w1 ps v wr)
    (hown : w2.ownsRow w1.heap.size 28 2 v' ((ipairs ps).length + 1) (flat (ipairs ps) ++ [.int .i64 (i : Nat), .int .i64 (j : Nat)])) (hg : (wr.alloc (.cells #[.int .i64 (i : Nat), .int .i64 (j : Nat)] 28)).grownBy w2 v.ownBlock) :
    AnyAt w w1 (ps ++ [(i, j)]) v' w2 := by
  obtain ⟨h1, h2, h3⟩ := h
  have hsz := h2.size
  refine ⟨?_, (h2.alloc hsz _).grown hg (by simp; omega) (fun k hk => (h1.lt k hk).1), h3⟩
  rw [ipairs_snoc, flat_snoc, List.length_append]
  exact hown
end Go.Proofs.YtafdbocepepcgaaDoor
