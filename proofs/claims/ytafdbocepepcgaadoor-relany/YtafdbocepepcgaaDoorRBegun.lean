/-
  The first look of the statements of layer 2 ('begun') answers true, and leaves what was there as it was.
-/
import Derived.Test.YtafdbocepepcgaaDoorRFrom
import Derived.Laws.StructEq
namespace Go.Proofs.YtafdbocepepcgaaDoor
open Go.RowKit
set_option linter.unusedVariables false
set_option linter.unusedSimpArgs false

def r0 : List Nat := [2, 4, 0]
def t0 : List Nat := [4, 0, 0]
theorem q_from : fromR 3 [(0, 1), (1, 2)] = r0 := by decide +kernel
theorem q_fromOk : fromOk 3 [(0, 1), (1, 2)] = true := by decide +kernel
theorem q_fromNo : fromOk 3 [(0, 3)] = false := by decide +kernel
theorem q_fromNo' : fromR 3 [(0, 3)] = [] := by decide +kernel
theorem q_then : R.thenR r0 r0 = t0 := by decide +kernel
theorem q_pairs : ipairs (R.pairsR r0) = [(0, 1), (1, 2)] := by decide +kernel
theorem q_has : R.hasR r0 0 1 = true := by decide +kernel
theorem q_may : R.mayR r0 = true := by decide +kernel
theorem q_may2 : R.mayR [2] = false := by decide +kernel
theorem q_count : R.countR r0 = 2 := by decide +kernel
theorem q_into : R.intoR r0 1 = 2 := by decide +kernel
theorem q_back : R.backR (R.backR r0) = r0 := by decide +kernel
theorem q_or : (R.orR r0 t0).length = 3 := by decide +kernel
theorem q_and : (R.andR r0 t0).length = 3 := by decide +kernel
theorem q_less : (R.lessR r0 t0).length = 3 := by decide +kernel
theorem q_keep : (R.keepR r0 3).length = 3 := by decide +kernel

def Two3 (w : World) (e : Ending) (w' : World) : Prop := ∃ b off cap, e = .returned (.tuple #[.slice (some ⟨b, off, none⟩) 3 cap, .bool true]) ∧ IsWords w' (some ⟨b, off, none⟩) 3 r0 ∧ Below w.heap.size w w'
def No3 (w : World) (e : Ending) (w' : World) : Prop := ∃ a cap, e = .returned (.tuple #[.slice a 0 cap, .bool false]) ∧ Below w.heap.size w w'
theorem isPairs_two {w : World} {g : Nat} {x1 y1 x2 y2 : Int} (h : Blk w g 28 #[.int .i64 x1, .int .i64 y1, .int .i64 x2, .int .i64 y2]) : IsPairs w (some ⟨g, 0, none⟩) 2 [(x1, y1), (x2, y2)] := by
  refine ⟨rfl, by decide, .inr ⟨g, 0, rfl, fun i hi => ?_⟩⟩
  rcases i with _ | _ | i
  · exact ⟨h.cell 0, h.cell 1⟩
  · exact ⟨h.cell 2, h.cell 3⟩
  · omega
theorem isPairs_one {w : World} {g : Nat} {x1 y1 : Int} (h : Blk w g 28 #[.int .i64 x1, .int .i64 y1]) : IsPairs w (some ⟨g, 0, none⟩) 1 [(x1, y1)] := by
  refine ⟨rfl, by decide, .inr ⟨g, 0, rfl, fun i hi => ?_⟩⟩
  rcases i with _ | i
  · exact ⟨h.cell 0, h.cell 1⟩
  · omega
theorem isWords_one {w : World} {g : Nat} {x : Nat} (hx : x < 2 ^ 64) (h : Blk w g 23 #[.int .u64 (x : Nat)]) : IsWords w (some ⟨g, 0, none⟩) 1 [x] := by
  refine ⟨rfl, by decide, R.words_of (by simpa using hx), .inr ⟨g, 0, rfl, fun i hi => ?_⟩⟩
  obtain rfl : i = 0 := by omega
  exact h.cell 0
theorem g_from (g : Nat) (w : World) (h : Blk w g 28 #[.int .i64 0, .int .i64 1, .int .i64 1, .int .i64 2]) : Calls Tryd.prog 29 #[.int .i64 3, .slice (some ⟨g, 0, none⟩) 2 2] w (Two3 w) := by
  refine (from_any 3 (some ⟨g, 0, none⟩) 2 2 _ w (isPairs_two h)).mono ?_
  rintro e w' ⟨a, cap, rfl, hx, hb⟩
  rw [q_from] at hx ⊢
  rw [q_fromOk]
  obtain ⟨b, off, rfl, _⟩ := hx.at (by decide)
  exact ⟨b, off, cap, rfl, hx, hb⟩
theorem g_from2 (g : Nat) (w : World) (h : Blk w g 28 #[.int .i64 0, .int .i64 3]) : Calls Tryd.prog 29 #[.int .i64 3, .slice (some ⟨g, 0, none⟩) 1 1] w (No3 w) := by
  refine (from_any 3 (some ⟨g, 0, none⟩) 1 1 _ w (isPairs_one h)).mono ?_
  rintro e w' ⟨a, cap, rfl, hx, hb⟩
  rw [q_fromNo', q_fromNo]
  exact ⟨a, cap, rfl, hb⟩
/-- A call that answers a list of that many rows. -/
def Len (n : Nat) (w : World) (e : Ending) (w' : World) : Prop := ∃ a cap, e = .returned (.slice a n cap) ∧ Below w.heap.size w w'
theorem Gives.len {xs : List Nat} {n : Nat} {w w' : World} {e : Ending} (h : Gives xs w e w') (hl : xs.length = n) : Len n w e w' := by
  obtain ⟨a, cap, rfl, _, hb⟩ := h
  exact ⟨a, cap, by rw [hl], hb⟩
theorem IsWords.cell0 {w : World} {b off len x : Nat} {xs : List Nat} (h : IsWords w (some ⟨b, off, none⟩) len (x :: xs)) (h0 : 0 < len) : w.cell? ⟨b, off, none⟩ = some (.int .u64 (x : Nat)) := by
  obtain ⟨b', off', e, hc⟩ := h.at h0
  cases e
  exact hc 0 h0
/-- What '==' says of two pairs. -/
theorem eqPair (a b c d : Int) (w : World) : (Op.equalIn 10000 28 (.agg #[.int .i64 a, .int .i64 b]) (.agg #[.int .i64 c, .int .i64 d])).run Tryd.prog w = .ok (a == c && b == d) w := by
  have u3 := Tryd.underlying3
  have a3 := Tryd.isAgg3
  have z3 := Tryd.sizeOf3
  rw [show (10000 : Nat) = 9999 + 1 from rfl, Op.equalIn]
  simp only [Sem.run_bind, run_underlying Tryd.underlying28, Result.andThen_ok]
  simp only [Std.Legacy.Range.forIn_eq_forIn_range', Std.Legacy.Range.size, Nat.sub_zero, Nat.add_sub_cancel, Nat.div_one, List.range'_succ, List.range'_zero, List.forIn_cons, List.forIn_nil]
  go_simp
  by_cases h1 : a = c <;> by_cases h2 : b = d <;> simp [h1, h2]
set_option maxHeartbeats 2000000 in
set_option maxRecDepth 100000 in
theorem begun2_any (w : World) (hT : Tb w) :
    Calls Tryd.prog 8 #[] w (Ans (.bool true) w) := by
  go_enter Tryd.func8, Tryd.ntmps8
  go_wp2_with fail
  refine (g_from _ _ (Blk.new _ _ _)).mono ?_
  rintro e w1 ⟨b, off, cap, rfl, hr1, hb1⟩
  have hb1' : Below w.heap.size w w1 := ((Below.refl _ _).alloc (Nat.le_refl _) _).trans (hb1.mono (by simp))
  clear hb1
  go_wp2_with fail
  refine (g_from2 _ _ (Blk.new _ _ _)).mono ?_
  rintro e w2 ⟨a2, cap2, rfl, hb2⟩
  have hb2' : Below w1.heap.size w1 w2 := ((Below.refl _ _).alloc (Nat.le_refl _) _).trans (hb2.mono (by simp))
  clear hb2
  have hr2 := hr1.below hb2'
  have hB2 : Below w.heap.size w w2 := hb1'.trans (hb2'.mono hb1'.size)
  go_wp2_with fail
  refine (thenR_any _ _ _ _ _ _ _ _ _ hr2 hr2 (hT.below hB2)).mono ?_
  rintro e w3 ⟨a3, cap3, rfl, ht3, hb3⟩
  rw [q_then] at ht3 ⊢
  obtain ⟨b3, off3, rfl, _⟩ := ht3.at (by decide)
  have hB3 : Below w.heap.size w w3 := hB2.trans (hb3.mono hB2.size)
  have hr3 := hr2.below hb3
  clear hB2 hb1' hb2' hb3 hr1 hr2
  rw [show t0.length = 3 from rfl]
  have ht3' : IsWords w3 (some ⟨b3, off3, none⟩) 3 t0 := ht3
  clear ht3
  go_wp2_with fail
  refine (pairsR_any _ _ _ _ _ hr3 (hT.below hB3)).mono ?_
  rintro e w4 ⟨a4, cap4, rfl, hp4, hb4⟩
  rw [q_pairs] at hp4 ⊢
  obtain ⟨b4, off4, rfl, hpc⟩ := hp4.at (by decide)
  have hB4 : Below w.heap.size w w4 := hB3.trans (hb4.mono hB3.size)
  have hr4 := hr3.below hb4
  have ht4 := ht3'.below hb4
  have hT4 := hT.below hB4
  have c0 := hr4.cell0 (by decide)
  have c1 := ht4.cell0 (by decide)
  obtain ⟨c2, c3⟩ := hpc 1 (by decide)
  have c2' : w4.cell? ⟨b4, off4 + 2, none⟩ = some (.int .i64 1) := c2
  have c3' : w4.cell? ⟨b4, off4 + 2 + 1, none⟩ = some (.int .i64 2) := c3
  have heq := eqPair 1 2 1 2 w4
  rw [show ((1 : Int) == 1 && (2 : Int) == 2) = true from rfl] at heq
  clear c2 c3 hpc hr3 ht3' hp4 hB3 hb4
  rw [show ([(0, 1), (1, 2)] : List (Int × Int)).length = 2 from rfl]
  have hR4 : ∀ w5 : World, Below w4.heap.size w4 w5 → IsWords w5 (some ⟨b, off, none⟩) 3 r0 := fun _ h => hr4.below h
  have hT4' : ∀ w5 : World, Below w4.heap.size w4 w5 → IsWords w5 (some ⟨b3, off3, none⟩) 3 t0 := fun _ h => ht4.below h
  have HR4 := Lib.hid hR4
  have HT4 := Lib.hid hT4'
  clear hR4 hT4'
  go_wp2_with fail
  refine (hasR_any _ _ _ _ _ r0 _ hr4 hT4).mono ?_
  rw [q_has]
  rintro e w5 ⟨rfl, hb5⟩
  clear heq c0 c1 c2' c3'
  go_wp2_with fail
  refine (may_any' _ _ _ r0 _ (HR4.out _ hb5) (hT4.below hb5)).mono ?_
  rw [q_may]
  rintro e w6 ⟨rfl, hb6⟩
  have hb6 := hb5.trans (hb6.mono hb5.size)
  clear hb5
  go_wp2_with fail
  refine (may_any' _ _ _ [2] _ (isWords_one (by decide) (Blk.new _ _ _)) (hT4.below (hb6.alloc hb6.size _))).mono ?_
  rw [q_may2]
  rintro e w7 ⟨rfl, hb7⟩
  have hb7 := (hb6.alloc hb6.size _).trans (hb7.mono (hb6.alloc hb6.size _).size)
  clear hb6
  go_wp2_with fail
  refine (countR_any _ _ _ r0 _ (HR4.out _ hb7) (hT4.below hb7)).mono ?_
  rw [q_count]
  rintro e w8 ⟨rfl, hb8⟩
  have hb8 := hb7.trans (hb8.mono hb7.size)
  clear hb7
  go_wp2_with fail
  refine (new_gives 2 _).mono ?_
  rintro e w9 h9
  obtain ⟨a9, cap9, rfl, hb9⟩ := h9.len (show (R.newR 2).length = 2 by decide +kernel)
  have hb9 := hb8.trans (hb9.mono hb8.size)
  clear hb8 h9
  go_wp2_with fail
  refine (intoR_any _ _ _ 1 r0 _ (HR4.out _ hb9) (hT4.below hb9) (by decide)).mono ?_
  rw [q_into]
  rintro e w10 ⟨rfl, hb10⟩
  have hb10 := hb9.trans (hb10.mono hb9.size)
  clear hb9
  go_wp2_with fail
  refine (backR_any _ _ _ r0 _ (HR4.out _ hb10) (hT4.below hb10)).mono ?_
  rintro e w11 ⟨a11, cap11, rfl, hx11, hb11⟩
  have hb11 := hb10.trans (hb11.mono hb10.size)
  clear hb10
  go_wp2_with fail
  refine (backR_any _ _ _ _ _ hx11 (hT4.below hb11)).mono ?_
  rintro e w12 ⟨a12, cap12, rfl, hx12, hb12⟩
  have hb12 := hb11.trans (hb12.mono hb11.size)
  clear hb11 hx11
  rw [q_back] at hx12 ⊢
  go_wp2_with fail
  refine (sameR_any _ _ _ _ _ _ r0 r0 _ hx12 (HR4.out _ hb12)).mono ?_
  rw [show decide (r0 = r0) = true by decide +kernel]
  rintro e w13 ⟨rfl, hb13⟩
  have hb13 := hb12.trans (hb13.mono hb12.size)
  clear hb12 hx12
  go_wp2_with fail
  refine (orR_any _ _ _ _ _ _ r0 t0 _ (HR4.out _ hb13) (HT4.out _ hb13) (hT4.below hb13)).mono ?_
  rintro e w14 h14
  obtain ⟨a14, cap14, rfl, hb14⟩ := h14.len q_or
  have hb14 := hb13.trans (hb14.mono hb13.size)
  clear hb13 h14
  go_wp2_with fail
  refine (andR_any _ _ _ _ _ _ r0 t0 _ (HR4.out _ hb14) (HT4.out _ hb14) (hT4.below hb14)).mono ?_
  rintro e w15 h15
  obtain ⟨a15, cap15, rfl, hb15⟩ := h15.len q_and
  have hb15 := hb14.trans (hb15.mono hb14.size)
  clear hb14 h15
  go_wp2_with fail
  refine (lessR_any _ _ _ _ _ _ r0 t0 _ (HR4.out _ hb15) (HT4.out _ hb15) (hT4.below hb15)).mono ?_
  rintro e w16 h16
  obtain ⟨a16, cap16, rfl, hb16⟩ := h16.len q_less
  have hb16 := hb15.trans (hb16.mono hb15.size)
  clear hb15 h16
  go_wp2_with fail
  refine (keepR_any _ _ _ 3 r0 _ (HR4.out _ hb16) (hT4.below hb16) (by decide)).mono ?_
  rintro e w17 h17
  obtain ⟨a17, cap17, rfl, hb17⟩ := h17.len q_keep
  have hb17 := hb16.trans (hb17.mono hb16.size)
  clear hb16 h17
  go_wp2
  go_ret
  exact ⟨rfl, hB4.trans (hb17.mono hB4.size)⟩
end Go.Proofs.YtafdbocepepcgaaDoor
