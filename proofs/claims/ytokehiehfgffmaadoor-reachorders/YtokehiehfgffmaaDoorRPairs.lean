/-
  What rel.Pairs answers, as a contract.
-/
import Derived.Test.YtokehiehfgffmaaDoorROps
namespace Go.Proofs.YtokehiehfgffmaaDoor
open Go.RowKit
set_option linter.unusedVariables false
set_option linter.unusedSimpArgs false

/-- Pairs of ints as cells. -/
def flat (ps : List (Int × Int)) : List Value := ps.flatMap fun p => [.int .i64 p.1, .int .i64 p.2]
theorem flat_len (ps : List (Int × Int)) : (flat ps).length = ps.length * 2 := by
  induction ps with
  | nil => rfl
  | cons p ps ih =>
    have e : flat (p :: ps) = .int .i64 p.1 :: .int .i64 p.2 :: flat ps := rfl
    rw [e]
    simp [ih]
    omega
theorem flat_at : ∀ (ps : List (Int × Int)) (i : Nat), i < ps.length → (flat ps)[i * 2]? = some (.int .i64 (ps.getD i (0, 0)).1) ∧ (flat ps)[i * 2 + 1]? = some (.int .i64 (ps.getD i (0, 0)).2)
  | [], i, h => by simp at h
  | p :: ps, 0, _ => ⟨rfl, rfl⟩
  | p :: ps, i + 1, h => by
    have e : flat (p :: ps) = .int .i64 p.1 :: .int .i64 p.2 :: flat ps := rfl
    have := flat_at ps i (by simpa using h)
    rw [e, show (i + 1) * 2 = i * 2 + 1 + 1 by omega, show i * 2 + 1 + 1 + 1 = (i * 2 + 1) + 1 + 1 by omega]
    simpa using this
theorem flat_snoc (ps : List (Int × Int)) (x y : Int) : flat (ps ++ [(x, y)]) = flat ps ++ [.int .i64 x, .int .i64 y] := by simp [flat]
/-- A slice of pairs that came in, or was made: its pairs are ps. -/
def IsPairs (w : World) (a : Option Addr) (len : Nat) (ps : List (Int × Int)) : Prop :=
  ps.length = len ∧ len ≤ 4611686018427387904 ∧ (len = 0 ∨ ∃ b off, a = some ⟨b, off, none⟩ ∧ ∀ i, i < len → w.cell? ⟨b, off + i * 2, none⟩ = some (.int .i64 (ps.getD i (0, 0)).1) ∧ w.cell? ⟨b, off + i * 2 + 1, none⟩ = some (.int .i64 (ps.getD i (0, 0)).2))
theorem IsPairs.below {w w' : World} {a : Option Addr} {len : Nat} {ps : List (Int × Int)} (h : IsPairs w a len ps) (hb : Below w.heap.size w w') : IsPairs w' a len ps := by
  obtain ⟨hl, hm, h | ⟨b, off, rfl, hc⟩⟩ := h
  · exact ⟨hl, hm, .inl h⟩
  · refine ⟨hl, hm, .inr ⟨b, off, rfl, fun i hi => ?_⟩⟩
    obtain ⟨h0, h1⟩ := hc i hi
    rw [hb.cell (p := ⟨b, off + i * 2, none⟩) (World.block_lt_of_cell? w _ h0), hb.cell (p := ⟨b, off + i * 2 + 1, none⟩) (World.block_lt_of_cell? w _ h1)]
    exact ⟨h0, h1⟩
theorem IsPairs.at {w : World} {a : Option Addr} {len : Nat} {ps : List (Int × Int)} (h : IsPairs w a len ps) (h0 : 0 < len) : ∃ b off, a = some ⟨b, off, none⟩ ∧ ∀ i, i < len → w.cell? ⟨b, off + i * 2, none⟩ = some (.int .i64 (ps.getD i (0, 0)).1) ∧ w.cell? ⟨b, off + i * 2 + 1, none⟩ = some (.int .i64 (ps.getD i (0, 0)).2) := by
  obtain ⟨_, _, h | h⟩ := h
  · omega
  · exact h
theorem pairs_of_own {w : World} {base : Nat} {v : Value} {ps : List (Int × Int)} (h : w.ownsRow base 48 2 v ps.length (flat ps)) (hm : ps.length ≤ 4611686018427387904) : ∃ a cap, v = .slice a ps.length cap ∧ IsPairs w a ps.length ps := by
  rcases h.2 with ⟨rfl, h0⟩ | ⟨g, cap, cur, rfl, hg, hh, hn, hcm, hs, ht⟩
  · exact ⟨none, 0, by rw [h0], rfl, hm, .inl h0⟩
  · refine ⟨some ⟨g, 0, none⟩, cap, rfl, rfl, hm, .inr ⟨g, 0, rfl, fun i hi => ?_⟩⟩
    obtain ⟨h1, h2⟩ := flat_at ps i hi
    have hB : Blk w g 48 cur := hh
    have key : ∀ k v, (flat ps)[k]? = some v → w.cell? ⟨g, 0 + k, none⟩ = some v := by
      intro k v hv
      rw [Nat.zero_add, hB.cell]
      rw [← ht, List.getElem?_take] at hv
      split at hv
      · simpa using hv
      · cases hv
    exact ⟨key _ _ h1, by have := key _ _ h2; rw [Nat.zero_add] at this ⊢; exact this⟩
/-- A call that answers a list of pairs, and turns nothing that was there. -/
def GivesP (ps : List (Int × Int)) (w : World) (e : Ending) (w' : World) : Prop := ∃ a cap, e = .returned (.slice a ps.length cap) ∧ IsPairs w' a ps.length ps ∧ Below w.heap.size w w'

theorem Tryd.infoP : (Tryd.prog.info? 48).map (fun i => (i.zero, i.size, i.bytes)) = some (some (.agg #[.int .i64 0, .int .i64 0]), 2, 16) := by kernel_rfl
theorem own_ne {w : World} {base B : Nat} {t t' : TypeId} {size n : Nat} {v : Value} {xs : List Value} {cs : Array Value} (h : w.ownsRow base t size v n xs) (hB : Blk w B t' cs) (hne : t ≠ t') : v.ownBlock ≠ some B := by
  rcases h.2 with ⟨rfl, _⟩ | ⟨g, cap, cur, rfl, _, hh, _⟩
  · simp [Value.ownBlock]
  · intro e
    have e' : g = B := by simpa [Value.ownBlock] using e
    subst e'
    exact Blk.ne (t := t) hh hB hne rfl
/-- A list of a set's numbers, whole in its block. -/
def LBlk (w : World) (g r : Nat) : Prop := ∃ cur, Blk w g 3 cur ∧ ∀ i, i < M.cnt r → cur[i]? = some (.int .i64 ((M.bi r).getD i 0))
theorem lblk_of {w : World} {base g r cap : Nat} (h : w.ownsRow base 3 1 (.slice (some ⟨g, 0, none⟩) (M.cnt r) cap) (M.cnt r) (ints (M.bi r))) : LBlk w g r := by
  have hc := fun i hi => own_cells h i hi
  rcases h.2 with ⟨h0, _⟩ | ⟨g', cap', cur, hv, hg, hh, hn, hcm, hs, ht⟩
  · cases h0
  · cases hv
    have hB : Blk w g 3 cur := hh
    refine ⟨cur, hB, fun i hi => ?_⟩
    have := hc i (by rw [M.bi_len]; exact hi)
    rw [Nat.zero_add, hB.cell] at this
    exact this
theorem pown_below {w w' : World} {base : Nat} {t : TypeId} {size n : Nat} {v : Value} {xs : List Value} (h : w.ownsRow base t size v n xs) (hb : Below w.heap.size w w') : w'.ownsRow base t size v n xs := by
  refine ⟨h.1, ?_⟩
  rcases h.2 with h0 | ⟨g, cap, cur, hv, hg, hh, r⟩
  · exact .inl h0
  · exact .inr ⟨g, cap, cur, hv, hg, (hb.block g (lt_of_block hh)).trans hh, r⟩
theorem slice_of_own {w : World} {base : Nat} {t : TypeId} {size n : Nat} {v : Value} {xs : List Value} (h : w.ownsRow base t size v n xs) : ∃ a n c, v = .slice a n c := by
  rcases h.2 with ⟨h0, _⟩ | ⟨g, cap, cur, hv, _⟩
  · exact ⟨_, _, _, h0⟩
  · exact ⟨_, _, _, hv⟩
theorem bl_take' (r j : Nat) (y : Nat) (h : (M.bl r)[j]? = some y) : (M.bl r).take (j + 1) = (M.bl r).take j ++ [y] := by
  obtain ⟨hj, he⟩ := List.getElem?_eq_some_iff.1 h
  rw [List.take_succ_eq_append_getElem hj, he]
def ipairs (ps : List (Nat × Nat)) : List (Int × Int) := ps.map fun p => ((p.1 : Int), (p.2 : Int))
theorem pairs_snoc (xs l : List Nat) (x : Nat) : ipairs (R.pairsOf xs (l ++ [x])) = ipairs (R.pairsOf xs l) ++ (M.bl (R.row xs x)).map fun (y : Nat) => ((x : Int), (y : Int)) := by
  simp [ipairs, R.pairsOf, List.flatMap_append, List.map_map, Function.comp_def]
theorem pairs_len (xs : List Nat) : ∀ (l : List Nat), (R.pairsOf xs l).length ≤ 64 * l.length
  | [] => by simp [R.pairsOf]
  | x :: l => by
    have := pairs_len xs l
    have := M.cnt_le (R.row xs x)
    have e : (R.pairsOf xs (x :: l)).length = M.cnt (R.row xs x) + (R.pairsOf xs l).length := by simp [R.pairsOf, M.cnt]
    rw [e, List.length_cons]
    omega
end Go.Proofs.YtokehiehfgffmaaDoor
