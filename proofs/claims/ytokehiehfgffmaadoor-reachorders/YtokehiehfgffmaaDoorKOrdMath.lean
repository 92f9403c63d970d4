/-
  PLAIN MATHEMATICS of the statement ReachOrders: places in an order, depths as a greatest one. It proves nothing of Go by itself but how lists of integers lie in cells.
-/
import Derived.Test.YtokehiehfgffmaaDoorKBegun
import Derived.Test.YtokehiehfgffmaaDoorKAlg
import Derived.Test.YtokehiehfgffmaaDoorThenWalk
namespace Go.Proofs.YtokehiehfgffmaaDoor
open Go.RowKit
set_option linter.unusedVariables false
set_option linter.unusedSimpArgs false

def zcells (l : List Int) : Array Value := (l.map (Value.int .i64)).toArray
theorem zcells_set (l : List Int) (i : Nat) (v : Int) : (zcells l).setIfInBounds i (.int .i64 v) = zcells (l.set i v) := by
  apply Array.ext'
  simp [zcells]
/-- The list of n integers, each by its number. -/
def itab (n : Nat) (f : Nat → Int) : List Int := (List.range n).map f
theorem itab_at (n : Nat) (f : Nat → Int) (i : Nat) (h : i < n) : (zcells (itab n f))[i]? = some (.int .i64 (f i)) := by
  simp [zcells, itab, h]
theorem itab_set (n : Nat) (f g : Nat → Int) (i : Nat) (v : Int) (hi : g i = v) (ho : ∀ j, j < n → j ≠ i → g j = f j) : (itab n f).set i v = itab n g := by
  apply List.ext_getElem (by simp [itab])
  intro j h1 h2
  have hj : j < n := by simpa [itab] using h2
  by_cases h : i = j
  · subst h
    simp [itab, hi]
  · simp [itab, List.getElem_set, h, ho j hj (fun e => h e.symm)]
theorem itab_congr {n : Nat} {f g : Nat → Int} (h : ∀ i, i < n → f i = g i) : itab n f = itab n g := by
  unfold itab
  exact List.map_congr_left fun i hi => h i (List.mem_range.1 hi)
theorem made_itab (n : Nat) : madeCells #[Value.int .i64 0] n = zcells (itab n fun _ => 0) := by
  apply Array.ext
  · simp [madeCells, zcells, itab]
  · intro i h1 h2
    simp [madeCells, zcells, itab, Nat.mod_one]
/-- The first j are -1. -/
def minus (j v : Nat) : Int := if v < j then -1 else 0
/-- Those among the first i of o have their places, the others -1. -/
def placed (o : List Nat) (i v : Nat) : Int := if o.idxOf v < i then (o.idxOf v : Int) else -1
theorem idx_of {n : Nat} {x o : List Nat} (ho : Ordered n x o) {i : Nat} (hi : i < n) : o.idxOf (o.getD i 0) = i := by
  have hl : i < o.length := by rw [ho.len]; exact hi
  have hm : o.getD i 0 ∈ o := getD_mem hl
  have h1 : o.idxOf (o.getD i 0) < o.length := List.idxOf_lt_length_of_mem hm
  have h2 : o[o.idxOf (o.getD i 0)] = o.getD i 0 := List.getElem_idxOf h1
  have h3 : o.getD (o.idxOf (o.getD i 0)) 0 = o.getD i 0 := by
    rw [List.getD, List.getElem?_eq_getElem h1]
    exact h2
  exact getD_inj ho.nd h1 hl h3
theorem of_idx {n : Nat} {x o : List Nat} (ho : Ordered n x o) {v : Nat} (hv : v < n) : o.idxOf v < n ∧ o.getD (o.idxOf v) 0 = v := by
  have hm := ho.all v hv
  have h1 : o.idxOf v < o.length := List.idxOf_lt_length_of_mem hm
  refine ⟨by rw [← ho.len]; exact h1, ?_⟩
  have h2 : o[o.idxOf v] = v := List.getElem_idxOf h1
  rw [List.getD, List.getElem?_eq_getElem h1]
  exact h2
theorem placed_next {n : Nat} {x o : List Nat} (ho : Ordered n x o) {i : Nat} (hi : i < n) : (itab n (placed o i)).set (o.getD i 0) (i : Int) = itab n (placed o (i + 1)) := by
  apply itab_set
  · unfold placed
    rw [idx_of ho hi, if_pos (by omega)]
  · intro j hj hne
    unfold placed
    have : o.idxOf j ≠ i := by
      intro e
      have := (of_idx ho hj).2
      rw [e] at this
      exact hne this.symm
    by_cases h : o.idxOf j < i
    · rw [if_pos h, if_pos (by omega)]
    · rw [if_neg h, if_neg (by omega)]
theorem placed_all {n : Nat} {x o : List Nat} (ho : Ordered n x o) : itab n (placed o n) = itab n fun v => (o.idxOf v : Int) := itab_congr fun v hv => by
  unfold placed
  rw [if_pos (of_idx ho hv).1]
theorem placed_none (n : Nat) (o : List Nat) : itab n (minus n) = itab n (placed o 0) := itab_congr fun v hv => by
  unfold placed minus
  rw [if_pos hv, if_neg (by omega)]
theorem minus_next (n j : Nat) : (itab n (minus j)).set j (-1) = itab n (minus (j + 1)) := by
  apply itab_set
  · simp [minus]
  · intro v _ hv
    unfold minus
    have : (v < j + 1) ↔ v < j := by omega
    simp only [this]
theorem place_lt {n : Nat} {x o : List Nat} (hr : Rel n x) (ho : Ordered n x o) {a b : Nat} (hb : bf x a b) : o.idxOf a < o.idxOf b := by
  have hab := hr.lt hb
  obtain ⟨h1, h2⟩ := of_idx ho hab.2.1
  obtain ⟨j, hj, e⟩ := ho.pre (o.idxOf b) h1 a (by rw [h2]; exact hb)
  have := idx_of ho (show j < n by omega)
  rw [e] at this
  omega
theorem place_le {n : Nat} {x o : List Nat} {d : Nat → Nat} (hr : Rel n x) (ho : Ordered n x o) (hd : IsDeep n x d) {a : Nat} (ha : a < n) : d a ≤ o.idxOf a := by
  obtain ⟨h1, h2⟩ := of_idx ho ha
  have := place_deep hr ho hd _ h1
  rwa [h2] at this
/-- F is the greatest of 0 and one more than the depths of what is before a, among the first b. -/
def FarTo (x : List Nat) (d : Nat → Nat) (a b F : Nat) : Prop := (∀ v, v < b → bf x v a → d v + 1 ≤ F) ∧ (F = 0 ∨ ∃ v, bf x v a ∧ F = d v + 1)
theorem FarTo.start (x : List Nat) (d : Nat → Nat) (a : Nat) : FarTo x d a 0 0 := ⟨fun v hv => by omega, .inl rfl⟩
theorem FarTo.skip {x : List Nat} {d : Nat → Nat} {a b F : Nat} (h : FarTo x d a b F) (hs : bf x b a → d b + 1 ≤ F) : FarTo x d a (b + 1) F :=
  ⟨fun v hv hb => by
    rcases Nat.lt_or_ge v b with h1 | h1
    · exact h.1 v h1 hb
    · obtain rfl : v = b := by omega
      exact hs hb, h.2⟩
theorem FarTo.hit {x : List Nat} {d : Nat → Nat} {a b F : Nat} (h : FarTo x d a b F) (hb : bf x b a) (hlt : F < d b + 1) : FarTo x d a (b + 1) (d b + 1) :=
  ⟨fun v hv hv2 => by
    rcases Nat.lt_or_ge v b with h1 | h1
    · have := h.1 v h1 hv2
      omega
    · obtain rfl : v = b := by omega
      omega, .inr ⟨b, hb, rfl⟩⟩
theorem FarTo.eq {n : Nat} {x : List Nat} {d : Nat → Nat} {a F : Nat} (hr : Rel n x) (hd : IsDeep n x d) (ha : a < n) (h : FarTo x d a n F) : d a = F := by
  have h1 : F ≤ d a := by
    rcases h.2 with h | ⟨v, hv, e⟩
    · omega
    · have := hd.1 v a hv
      omega
  rcases hd.2 a ha with h2 | ⟨v, hv, e⟩
  · omega
  · have := h.1 v (hr.lt hv).1 hv
    omega
theorem ints_at {w : World} {a : Option Addr} {n : Nat} {l : List Nat} (h : IsInts w a n (ci l)) (h0 : 0 < n) (hl : l.length = n) : ∃ b off, a = some ⟨b, off, none⟩ ∧ ∀ i, i < n → w.cell? ⟨b, off + i, none⟩ = some (.int .i64 ((l.getD i 0 : Nat) : Int)) := by
  obtain ⟨_, _, h | ⟨b, off, rfl, hc⟩⟩ := h
  · omega
  · refine ⟨b, off, rfl, fun i hi => ?_⟩
    rw [hc i hi]
    have : i < l.length := by omega
    simp [ci, List.getD, this]
end Go.Proofs.YtokehiehfgffmaaDoor
