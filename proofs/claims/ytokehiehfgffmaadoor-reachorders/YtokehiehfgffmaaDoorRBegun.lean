/-
  The first look of the statements of layer 2 ('begun') answers true, and leaves what was there as it was.
-/
import Derived.Test.YtokehiehfgffmaaDoorRFrom
import Derived.Laws.StructEq
namespace Go.Proofs.YtokehiehfgffmaaDoor
open Go.RowKit
set_option linter.unusedVariables false
set_option linter.unusedSimpArgs false

def r0 : List Nat := [2, 4, 0]
def t0 : List Nat := [4, 0, 0]
theorem q_from : fromR 3 [(0, 1), (1, 2)] = r0 := by decide +kernel
theorem q_fromOk : fromOk 3 [(0, 1), (1, 2)] = true := by decide +kernel
theorem q_fromNo : fromOk 3 [(0, 3)] = false := by decide +kernel
theorem q_fromNo' : fromR 3 [(0, 3)] = [] := by decide +kernel
theorem q_then : R.thenR r0 r0 = t0 := by decide +kernel
theorem q_pairs : ipairs (R.pairsR r0) = [(0, 1), (1, 2)] := by decide +kernel
theorem q_has : R.hasR r0 0 1 = true := by decide +kernel
theorem q_may : R.mayR r0 = true := by decide +kernel
theorem q_may2 : R.mayR [2] = false := by decide +kernel
theorem q_count : R.countR r0 = 2 := by decide +kernel
theorem q_into : R.intoR r0 1 = 2 := by decide +kernel
theorem q_back : R.backR (R.backR r0) = r0 := by decide +kernel
theorem q_or : (R.orR r0 t0).length = 3 := by decide +kernel
theorem q_and : (R.andR r0 t0).length = 3 := by decide +kernel
theorem q_less : (R.lessR r0 t0).length = 3 := by decide +kernel
theorem q_keep : (R.keepR r0 3).length = 3 := by decide +kernel

def Two3 (w : World) (e : Ending) (w' : World) : Prop := ∃ b off cap, e = .returned (.tuple #[.slice (some ⟨b, off, none⟩) 3 cap, .bool true]) ∧ IsWords w' (some ⟨b, off, none⟩) 3 r0 ∧ Below w.heap.size w w'
def No3 (w : World) (e : Ending) (w' : World) : Prop := ∃ a cap, e = .returned (.tuple #[.slice a 0 cap, .bool false]) ∧ Below w.heap.size w w'
theorem isPairs_two {w : World} {g : Nat} {x1 y1 x2 y2 : Int} (h : Blk w g 48 #[.int .i64 x1, .int .i64 y1, .int .i64 x2, .int .i64 y2]) : IsPairs w (some ⟨g, 0, none⟩) 2 [(x1, y1), (x2, y2)] := by
  refine ⟨rfl, by decide, .inr ⟨g, 0, rfl, fun i hi => ?_⟩⟩
  rcases i with _ | _ | i
  · exact ⟨h.cell 0, h.cell 1⟩
  · exact ⟨h.cell 2, h.cell 3⟩
  · omega
theorem isPairs_one {w : World} {g : Nat} {x1 y1 : Int} (h : Blk w g 48 #[.int .i64 x1, .int .i64 y1]) : IsPairs w (some ⟨g, 0, none⟩) 1 [(x1, y1)] := by
  refine ⟨rfl, by decide, .inr ⟨g, 0, rfl, fun i hi => ?_⟩⟩
  rcases i with _ | i
  · exact ⟨h.cell 0, h.cell 1⟩
  · omega
theorem isWords_one {w : World} {g : Nat} {x : Nat} (hx : x < 2 ^ 64) (h : Blk w g 23 #[.int .u64 (x : Nat)]) : IsWords w (some ⟨g, 0, none⟩) 1 [x] := by
  refine ⟨rfl, by decide, R.words_of (by simpa using hx), .inr ⟨g, 0, rfl, fun i hi => ?_⟩⟩
  obtain rfl : i = 0 := by omega
  exact h.cell 0
theorem g_from (g : Nat) (w : World) (h : Blk w g 48 #[.int .i64 0, .int .i64 1, .int .i64 1, .int .i64 2]) : Calls Tryd.prog 37 #[.int .i64 3, .slice (some ⟨g, 0, none⟩) 2 2] w (Two3 w) := by
  refine (from_any 3 (some ⟨g, 0, none⟩) 2 2 _ w (isPairs_two h)).mono ?_
  rintro e w' ⟨a, cap, rfl, hx, hb⟩
  rw [q_from] at hx ⊢
  rw [q_fromOk]
  obtain ⟨b, off, rfl, _⟩ := hx.at (by decide)
  exact ⟨b, off, cap, rfl, hx, hb⟩
theorem g_from2 (g : Nat) (w : World) (h : Blk w g 48 #[.int .i64 0, .int .i64 3]) : Calls Tryd.prog 37 #[.int .i64 3, .slice (some ⟨g, 0, none⟩) 1 1] w (No3 w) := by
  refine (from_any 3 (some ⟨g, 0, none⟩) 1 1 _ w (isPairs_one h)).mono ?_
  rintro e w' ⟨a, cap, rfl, hx, hb⟩
  rw [q_fromNo', q_fromNo]
  exact ⟨a, cap, rfl, hb⟩
/-- A call that answers a list of that many rows. -/
def Len (n : Nat) (w : World) (e : Ending) (w' : World) : Prop := ∃ a cap, e = .returned (.slice a n cap) ∧ Below w.heap.size w w'
theorem Gives.len {xs : List Nat} {n : Nat} {w w' : World} {e : Ending} (h : Gives xs w e w') (hl : xs.length = n) : Len n w e w' := by
  obtain ⟨a, cap, rfl, _, hb⟩ := h
  exact ⟨a, cap, by rw [hl], hb⟩
theorem IsWords.cell0 {w : World} {b off len x : Nat} {xs : List Nat} (h : IsWords w (some ⟨b, off, none⟩) len (x :: xs)) (h0 : 0 < len) : w.cell? ⟨b, off, none⟩ = some (.int .u64 (x : Nat)) := by
  obtain ⟨b', off', e, hc⟩ := h.at h0
  cases e
  exact hc 0 h0
/-- What '==' says of two pairs. -/
theorem eqPair (a b c d : Int) (w : World) : (Op.equalIn 10000 48 (.agg #[.int .i64 a, .int .i64 b]) (.agg #[.int .i64 c, .int .i64 d])).run Tryd.prog w = .ok (a == c && b == d) w := by
  have u3 := Tryd.underlying3
  have a3 := Tryd.isAgg3
  have z3 := Tryd.sizeOf3
  rw [show (10000 : Nat) = 9999 + 1 from rfl, Op.equalIn]
  simp only [Sem.run_bind, run_underlying Tryd.underlying48, Result.andThen_ok]
  simp only [Std.Legacy.Range.forIn_eq_forIn_range', Std.Legacy.Range.size, Nat.sub_zero, Nat.add_sub_cancel, Nat.div_one, List.range'_succ, List.range'_zero, List.forIn_cons, List.forIn_nil]
  go_simp
  by_cases h1 : a = c <;> by_cases h2 : b = d <;> simp [h1, h2]
end Go.Proofs.YtokehiehfgffmaaDoor
