/-
  What the walk of the statement RelFrom leans on; and the walk where the number is none of 0 to 64.
-/
import Derived.Test.YtafdbocepepcgaaDoorRAlg
import Derived.Test.YtafdbocepepcgaaDoorThenWalk
namespace Go.Proofs.YtafdbocepepcgaaDoor
open Go.RowKit
set_option linter.unusedVariables false
set_option linter.unusedSimpArgs false

/-- What is found of the first j pairs. -/
def mayTo (n : Int) (ps : List (Int × Int)) (j : Nat) : Bool := R.fitsB n && (ps.take j).all (okP n)
theorem mayTo_zero (n : Int) (ps : List (Int × Int)) : mayTo n ps 0 = R.fitsB n := by simp [mayTo]
theorem mayTo_next (n : Int) (ps : List (Int × Int)) (j : Nat) (h : j < ps.length) : mayTo n ps (j + 1) = (mayTo n ps j && okP n (ps.getD j (0, 0))) := by
  unfold mayTo
  rw [take_snocP ps j h, List.all_append]
  simp [Bool.and_assoc]
theorem mayTo_all (n : Int) (ps : List (Int × Int)) : mayTo n ps ps.length = fromOk n ps := by
  unfold mayTo fromOk
  rw [List.take_of_length_le (Nat.le_refl _)]
theorem mayTo_unfit {n : Int} (h : R.fitsB n = false) (ps : List (Int × Int)) (j : Nat) : mayTo n ps j = false := by simp [mayTo, h]
theorem from_unfit_none {n : Int} (h : R.fitsB n = false) (ps : List (Int × Int)) : fromOk n ps = false ∧ fromR n ps = [] := by
  have : fromOk n ps = false := by simp [fromOk, h]
  exact ⟨this, by simp [fromR, this]⟩
/-- What From gives where it gives none. -/
def FromNo (w : World) (e : Ending) (w' : World) : Prop := ∃ a cap, e = .returned (.tuple #[.slice a 0 cap, .bool false]) ∧ Below w.heap.size w w'
theorem from_none {n : Int} {ps : List (Int × Int)} (a : Option Addr) (len cap : Nat) (w : World) (hl : IsPairs w a len ps) (h : fromOk n ps = false) :
    Calls Tryd.prog 29 #[.int .i64 n, .slice a len cap] w (FromNo w) := by
  refine (from_any n a len cap ps w hl).mono ?_
  rintro e w' ⟨a', cap', rfl, _, hb⟩
  have e : fromR n ps = [] := by simp [fromR, h]
  exact ⟨a', cap', by rw [e, h]; rfl, hb⟩
set_option maxHeartbeats 2000000 in
set_option maxRecDepth 100000 in
theorem from_walk_unfit (n : Int) (a : Option Addr) (len cap : Nat) (ps : List (Int × Int)) (w : World) (hTb : Tb w) (hp : IsPairs w a len ps) (hf : R.fitsB n = false) :
    Calls Tryd.prog 4 #[.int .i64 n, .slice a len cap] w (Good w) := by
  have hm := hp.2.1
  have hno := (from_unfit_none hf ps).1
  have hout : n < 0 ∨ 64 < n := by
    have : ¬ (0 ≤ n ∧ n ≤ 64) := by simpa [R.fitsB] using hf
    omega
  have HNO := Lib.hid hno
  clear hno hf
  rcases hout with hneg | hbig
  all_goals (
    go_enter Tryd.func4, Tryd.ntmps4
    go_wp2_with fail
    with_reducible refine (begun2_any w hTb).mono ?_
    rintro e w1 ⟨rfl, hB⟩
    by_cases q0 : 60 < len
    · go_wp2
      go_ret
      exact ⟨rfl, hB⟩
    · go_wp2
      go_loop [5, 6] (fun v k => ∃ j : Nat, j ≤ len ∧ k = .int .i64 j ∧ v = .bool false) (fun _ k => len - (intOf k).toNat)
      case atStart => exact ⟨0, Nat.zero_le _, rfl, by first | rfl | (congr 1; simp; omega)⟩
      case round =>
        obtain ⟨j, hj, rfl, rfl⟩ := hrel
        by_cases hjl : j < len
        · go_wp2
          go_round
          case rel => exact ⟨j + 1, by omega, by go_num, rfl⟩
          case measure => simp [intOf]; omega
        · go_wp2_with fail
          with_reducible refine (from_none a len cap _ (hp.below hB) HNO.out).mono ?_
          rintro e w2 ⟨a2, c2, rfl, hb⟩
          replace hB := hB.trans (hb.mono hB.size)
          go_wp2
          go_ret
          exact ⟨rfl, hB⟩)

/-- How many pairs there are ahead of (i, j). -/
def cntTo (xs : List Nat) (i j : Nat) : Nat := ((List.range i).map fun x => M.cnt (R.row xs x)).sum + ((List.range j).filter fun y => (R.row xs i).testBit y).length
theorem cntTo_zero (xs : List Nat) : cntTo xs 0 0 = 0 := rfl
theorem cntTo_hit (xs : List Nat) (i j : Nat) (h : (R.row xs i).testBit j = true) : cntTo xs i (j + 1) = cntTo xs i j + 1 := by
  unfold cntTo
  rw [List.range_succ, List.filter_append]
  simp [h]
  omega
theorem cntTo_miss (xs : List Nat) (i j : Nat) (h : (R.row xs i).testBit j = false) : cntTo xs i (j + 1) = cntTo xs i j := by
  unfold cntTo
  rw [List.range_succ, List.filter_append]
  simp [h]
theorem cnt_upto {n : Nat} {xs : List Nat} (h : Rel n xs) (i : Nat) : ((List.range n).filter fun y => (R.row xs i).testBit y).length = M.cnt (R.row xs i) := by
  unfold M.cnt M.bl
  have hn := h.le
  obtain ⟨d, hd⟩ : ∃ d, 64 = n + d := ⟨64 - n, by omega⟩
  have key : ∀ d, ((List.range (n + d)).filter fun y => (R.row xs i).testBit y) = (List.range n).filter fun y => (R.row xs i).testBit y := by
    intro d
    induction d with
    | zero => rfl
    | succ d ih =>
      rw [← Nat.add_assoc, List.range_succ, List.filter_append, ih]
      have : (R.row xs i).testBit (n + d) = false := by
        cases hb : (R.row xs i).testBit (n + d)
        · rfl
        · have := (h.lt hb).2.1
          omega
      simp [this]
  rw [hd, key d]
theorem cntTo_row {n : Nat} {xs : List Nat} (h : Rel n xs) (i : Nat) : cntTo xs (i + 1) 0 = cntTo xs i n := by
  unfold cntTo
  rw [cnt_upto h i, List.range_succ, List.map_append, List.sum_append]
  simp
theorem cntTo_full {n : Nat} {xs : List Nat} (h : Rel n xs) : cntTo xs n 0 = R.countR xs := by
  unfold cntTo R.countR
  rw [if_pos h.2.2, ← count_rows, h.1]
  simp
theorem cntTo_le {n : Nat} {xs : List Nat} (h : Rel n xs) (i j : Nat) (hi : i ≤ 64) (hj : j ≤ 64) : cntTo xs i j ≤ 5000 := by
  unfold cntTo
  have h1 := sum_le xs (List.range i)
  have h2 := List.length_filter_le (fun y => (R.row xs i).testBit y) (List.range j)
  simp only [List.length_range] at h1 h2
  omega
theorem from_rel {k : Nat} {ps : List (Int × Int)} (h : fromOk k ps = true) : Rel k (fromR k ps) ∧ ∀ i j, bf (fromR k ps) i j ↔ ((i : Int), (j : Int)) ∈ ps := by
  have e : fromR k ps = fromN k ps := by simp [fromR, h]
  rw [e]
  simp only [fromOk, Bool.and_eq_true, List.all_eq_true] at h
  have hk : k ≤ 64 := by
    have := h.1
    simp only [R.fitsB, decide_eq_true_eq] at this
    omega
  have hin : ∀ i j : Nat, ((i : Int), (j : Int)) ∈ ps → i < k ∧ j < k := by
    intro i j hm
    have := h.2 _ hm
    simp only [okP, Bool.and_eq_true, decide_eq_true_eq] at this
    omega
  have hB : Bits k (fromN k ps) (fun i j => ((i : Int), (j : Int)) ∈ ps) := ⟨fromN_len _ _, fromN_words _ _, fun i j _ hj => fromN_bit k ps i j hj h.2⟩
  exact ⟨hB.rel hk (fun i j h => (hin i j h).2), hB.all (fun i j h => ⟨(hin i j h).1, by have := (hin i j h).2; omega⟩)⟩
theorem mem_pairs {n : Nat} {xs : List Nat} (h : Rel n xs) (x y : Int) : (x, y) ∈ ipairs (R.pairsR xs) ↔ ∃ i j : Nat, x = i ∧ y = j ∧ bf xs i j := by
  have e : R.pairsR xs = R.pairsOf xs (List.range n) := by simp [R.pairsR, h.2.2, h.1]
  rw [e]
  simp only [ipairs, R.pairsOf, List.mem_map, List.mem_flatMap, List.mem_range, Prod.mk.injEq]
  constructor
  · rintro ⟨⟨i, j⟩, ⟨i', _, j', hj', he⟩, h1, h2⟩
    simp only [Prod.mk.injEq] at he
    obtain ⟨rfl, rfl⟩ := he
    exact ⟨i', j', h1.symm, h2.symm, ((M.mem_bl _ _).1 hj').2⟩
  · rintro ⟨i, j, rfl, rfl, hb⟩
    exact ⟨(i, j), ⟨i, (h.lt hb).1, j, (M.mem_bl _ _).2 ⟨(h.lt hb).2.2, hb⟩, rfl⟩, rfl, rfl⟩
theorem from_pairs {n : Nat} {xs : List Nat} (h : Rel n xs) : fromOk n (ipairs (R.pairsR xs)) = true ∧ fromR n (ipairs (R.pairsR xs)) = xs := by
  have hok : fromOk n (ipairs (R.pairsR xs)) = true := by
    simp only [fromOk, Bool.and_eq_true, List.all_eq_true]
    have := h.le
    refine ⟨by simp [R.fitsB]; omega, fun p hp => ?_⟩
    obtain ⟨x, y⟩ := p
    obtain ⟨i, j, rfl, rfl, hb⟩ := (mem_pairs h x y).1 hp
    have := h.lt hb
    simp [okP]
    omega
  refine ⟨hok, ?_⟩
  obtain ⟨hr, hi⟩ := from_rel hok
  refine hr.ext h fun i j => ?_
  rw [hi, mem_pairs h]
  constructor
  · rintro ⟨i', j', h1, h2, hb⟩
    obtain rfl : i = i' := by omega
    obtain rfl : j = j' := by omega
    exact hb
  · intro hb
    exact ⟨i, j, rfl, rfl, hb⟩
/-- Is the pair among the first t? -/
def isTo (ps : List (Int × Int)) (i j t : Nat) : Bool := decide (((i : Int), (j : Int)) ∈ ps.take t)
theorem isTo_next (ps : List (Int × Int)) (i j t : Nat) (h : t < ps.length) : isTo ps i j (t + 1) = (isTo ps i j t || ((ps.getD t (0, 0)).1 == (i : Int) && (ps.getD t (0, 0)).2 == (j : Int))) := by
  unfold isTo
  rw [take_snocP ps t h, Bool.eq_iff_iff]
  simp only [decide_eq_true_eq, List.mem_append, List.mem_singleton, Bool.or_eq_true, Bool.and_eq_true, beq_iff_eq]
  generalize ps.getD t (0, 0) = p
  obtain ⟨x, y⟩ := p
  simp only [Prod.mk.injEq]
  constructor
  · rintro (h | ⟨h1, h2⟩)
    · exact .inl h
    · exact .inr ⟨h1.symm, h2.symm⟩
  · rintro (h | ⟨h1, h2⟩)
    · exact .inl h
    · exact .inr ⟨h1.symm, h2.symm⟩
theorem isTo_all {k : Nat} {ps : List (Int × Int)} (h : fromOk k ps = true) (i j : Nat) : isTo ps i j ps.length = (R.row (fromR k ps) i).testBit j := by
  unfold isTo
  rw [List.take_of_length_le (Nat.le_refl _), Bool.eq_iff_iff, decide_eq_true_eq]
  exact ((from_rel h).2 i j).symm
/-- What is there while the pairs are gone through. -/
def FromAt (w : World) (k : Nat) (ar : Option Addr) (xs : List Nat) (wr : World) : Prop := IsWords wr ar k xs ∧ Below w.heap.size w wr

end Go.Proofs.YtafdbocepepcgaaDoor
