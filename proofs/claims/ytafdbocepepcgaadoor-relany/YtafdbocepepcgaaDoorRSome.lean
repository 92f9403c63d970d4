/-
  What 'some' of the statements of layer 2 makes: a relation over up to 20 things, whatever the numbers.
-/
import Derived.Test.YtafdbocepepcgaaDoorRBegun
namespace Go.Proofs.YtafdbocepepcgaaDoor
open Go.RowKit
set_option linter.unusedVariables false
set_option linter.unusedSimpArgs false

/-- A slice of bytes that came in: its numbers are bs. -/
def IsBytes (w : World) (a : Option Addr) (len : Nat) (bs : List Nat) : Prop :=
  bs.length = len ∧ len ≤ 4611686018427387904 ∧ (∀ i, bs.getD i 0 < 256) ∧ (len = 0 ∨ ∃ b off, a = some ⟨b, off, none⟩ ∧ ∀ i, i < len → w.cell? ⟨b, off + i, none⟩ = some (.int .u8 (bs.getD i 0 : Nat)))
theorem IsBytes.below {w w' : World} {a : Option Addr} {len : Nat} {bs : List Nat} (h : IsBytes w a len bs) (hb : Below w.heap.size w w') : IsBytes w' a len bs := by
  obtain ⟨hl, hm, hw, h | ⟨b, off, rfl, hc⟩⟩ := h
  · exact ⟨hl, hm, hw, .inl h⟩
  · refine ⟨hl, hm, hw, .inr ⟨b, off, rfl, fun i hi => ?_⟩⟩
    have h0 := hc i hi
    rw [hb.cell (p := ⟨b, off + i, none⟩) (World.block_lt_of_cell? w _ h0)]
    exact h0
theorem IsBytes.at {w : World} {a : Option Addr} {len : Nat} {bs : List Nat} (h : IsBytes w a len bs) (h0 : 0 < len) : ∃ b off, a = some ⟨b, off, none⟩ ∧ ∀ i, i < len → w.cell? ⟨b, off + i, none⟩ = some (.int .u8 (bs.getD i 0 : Nat)) := by
  obtain ⟨_, _, _, h | h⟩ := h
  · omega
  · exact h
/-- A relation over n things. -/
def Rel (n : Nat) (xs : List Nat) : Prop := xs.length = n ∧ R.Words xs ∧ R.mayR xs = true
theorem rel_zero {n : Nat} (hn : n ≤ 64) : Rel n (List.replicate n 0) := by
  refine ⟨by simp, zero_words n, ?_⟩
  refine (R.may_iff (zero_words n)).2 ⟨by simpa using hn, fun i j hj hb => ?_⟩
  have : R.row (List.replicate n 0) i = 0 := by
    by_cases hi : i < n
    · simp [R.row, List.getD, hi]
    · rw [R.row_out (by simp; omega)]
  rw [this] at hb
  simp at hb
theorem rel_put {n : Nat} {xs : List Nat} (h : Rel n xs) (x y : Nat) (hx : x < n) (hy : y < n) : Rel n (xs.set x (M.putN (R.row xs x) (y : Int))) := by
  obtain ⟨hl, hw, hm⟩ := h
  have hw' := set_words hw x (M.putN (R.row xs x) (y : Int)) (M.putN_lt _ _ (hw x))
  refine ⟨by simp [hl], hw', (R.may_iff hw').2 ⟨by have := R.may_len hm; simpa using this, fun i j hj hb => ?_⟩⟩
  rw [set_row _ _ _ _ (by omega)] at hb
  rw [List.length_set]
  split at hb
  · rw [M.putN_testBit _ _ _ hj] at hb
    simp only [Bool.or_eq_true, decide_eq_true_eq] at hb
    rcases hb with hb | hb
    · exact (R.may_bit hw hm hb).2.1
    · omega
  · exact (R.may_bit hw hm hb).2.1
/-- What some gives. -/
def GivesR (n : Nat) (w : World) (e : Ending) (w' : World) : Prop := ∃ xs a cap, Rel n xs ∧ e = .returned (.slice a n cap) ∧ IsWords w' a n xs ∧ Below w.heap.size w w'
/-- What a round of some leaves. -/
def SomeR (w0 : World) (g n len : Nat) (k : Value) (w : World) : Prop :=
  ∃ j : Nat, j ≤ len + 1 ∧ k = .int .i64 j ∧ ∃ xs, Rel n xs ∧ Blk w g 23 (words xs) ∧ Below w0.heap.size w0 w ∧ w0.heap.size ≤ g
theorem orput (s y : Nat) (hs : s < 2 ^ 64) (hy : y < 64) : bits BinOp.or IntKind.u64 (s : Int) (IntKind.u64.wrap (2 ^ y)) = (M.putN s (y : Int) : Nat) := by
  have h := shl1 (y : Int) (by omega) (by omega)
  rw [Int.toNat_natCast] at h
  rw [h, bits_or_u64_nat s (M.onlyN y) hs (M.onlyN_lt _)]
  rfl
set_option maxHeartbeats 1000000 in
theorem some_any (a : Option Addr) (len cap m : Nat) (bs : List Nat) (w : World) (hb : IsBytes w a len bs) (hm : m < 256) (hl : len ≤ 1000) :
    Calls Tryd.prog 31 #[.slice a len cap, .int .u8 (m : Nat)] w (GivesR (m % 20 + 1) w) := by
  obtain ⟨i0, hi, hz0, hz1, hz2⟩ := info_parts Tryd.infoW
  have HZ := Lib.hid hz0
  have HZ1 := Lib.hid hz1
  have HZ2 := Lib.hid hz2
  have HI := Lib.hid hi
  obtain ⟨n, hn⟩ : ∃ n, n = m % 20 + 1 := ⟨_, rfl⟩
  have hn20 : n ≤ 20 := by omega
  have hn1 : 1 ≤ n := by omega
  have k1 : (m : Int) % 20 + 1 = (n : Int) := by omega
  rw [← hn]
  have HN := Lib.hid hn
  clear hz0 hz1 hz2 hi hn
  go_enter Tryd.func31, Tryd.ntmps31
  go_wp2_with (at_make; refine wpList_make_full _ rfl (.tmp 12) (.tmp 12) 22 rfl w.heap.size 23 i0 (.int .u64 0) 1 Tryd.underlying22 HI.out HZ.out HZ1.out .i64 .i64 (n : Int) (n : Int) n rfl rfl rfl rfl (by rw [HZ2.out]; omega) (by unfold maxLen; omega) (Nat.le_refl _) ?_; intro w2 hown2 hgrow2)
  rw [made_words] at hown2
  obtain ⟨hg, hB⟩ := blk_of_own hown2
  have hb2 : Below w.heap.size w w2 := (Below.refl _ _).grown hgrow2 (Nat.le_refl _) (fun k hk => by cases hk)
  clear hown2 hgrow2 k1
  go_loopw [6, 7, 8] (fun k _ _ wr => SomeR w w.heap.size n len k wr) (fun k _ _ _ => len + 1 - (intOf k).toNat)
  case atStart => exact ⟨0, by omega, rfl, _, rel_zero (by omega), hB, hb2, Nat.le_refl _⟩
  case round =>
    obtain ⟨j, hj, rfl, xs, hR, hBm, hbel, _⟩ := hrel
    by_cases hjl : j + 1 < len
    · have hB1 := hb.below hbel
      obtain ⟨b, off, rfl, hc⟩ := hB1.at (by omega)
      have c1 := hc j (by omega)
      have c2 := hc (j + 1) hjl
      have l1 := hB1.2.2.1 j
      have l2 := hB1.2.2.1 (j + 1)
      generalize bs.getD j 0 = p at *
      generalize bs.getD (j + 1) 0 = q at *
      obtain ⟨x, hx⟩ : ∃ x, x = p % n := ⟨_, rfl⟩
      obtain ⟨y, hy⟩ : ∃ y, y = q % n := ⟨_, rfl⟩
      have hxn : x < n := by rw [hx]; exact Nat.mod_lt _ (by omega)
      have hyn : y < n := by rw [hy]; exact Nat.mod_lt _ (by omega)
      have e1 : (p : Int).tmod (n : Int) = (x : Int) := by rw [hx]; rfl
      have e2 : (q : Int).tmod (n : Int) = (y : Int) := by rw [hy]; rfl
      have c0 : wr.cell? ⟨w.heap.size, x, none⟩ = some (.int .u64 (R.row xs x : Nat)) := by rw [hBm.cell, words_at _ _ (by rw [hR.1]; exact hxn)]
      have cf := hBm.free x
      have hcur := hR.2.1 x
      have e3 := orput (R.row xs x) y hcur (by omega)
      have d1 : (0 : Int) ≤ (j : Int) := by omega
      have d2 : (j : Int) < (len : Int) := by omega
      have d3 : (0 : Int) ≤ (j : Int) + 1 := by omega
      have d4 : (j : Int) + 1 < (len : Int) := by omega
      have d5 : ((j : Int) + 1).toNat = j + 1 := by omega
      have d6 : ((n : Int) == 0) = false := by simp; omega
      have d7 : IntKind.i64.wrap ((j : Int) + 1) = (j : Int) + 1 := by rw [IntKind.wrap_i64]; omega
      have d8 : IntKind.i64.wrap (p : Int) = (p : Int) := by rw [IntKind.wrap_i64]; omega
      have d9 : IntKind.i64.wrap (q : Int) = (q : Int) := by rw [IntKind.wrap_i64]; omega
      have d10 : IntKind.i64.wrap (x : Int) = (x : Int) := by rw [IntKind.wrap_i64]; omega
      have d11 : IntKind.i64.wrap (y : Int) = (y : Int) := by rw [IntKind.wrap_i64]; omega
      have d12 : ¬ ((n : Int) = 0) := by omega
      have d13 : ¬ (n = 0) := by omega
      clear hx hy hc hB1
      go_wp2_with fail
      go_quiet (fail)
      have f1 : IntKind.u64.wrap (y : Int) = (y : Int) := by rw [IntKind.wrap_u64]; omega
      have f2 : (y : Int).toNat = y := by omega
      have f3 : (0 : Int) ≤ (y : Int) := by omega
      have f4 : (y : Int) < 64 := by omega
      have f5 : (0 : Int) ≤ (x : Int) := by omega
      have f6 : (x : Int) < (n : Int) := by omega
      go_wp2
      refine ⟨⟨j + 2, by omega, by go_num, _, rel_put hR x y hxn hyn, ?_, (below_drewN hbel _).setCell (Nat.le_refl _) _, Nat.le_refl _⟩, by simp [intOf]; omega⟩
      have := (hBm.drewN nq).set x (.int .u64 (M.putN (R.row xs x) (y : Int) : Nat))
      rw [words_set] at this
      exact this
    · go_wp2
      go_ret
      exact ⟨xs, _, _, hR, rfl, hBm.words hR.1 (by omega) hR.2.1, hbel⟩
end Go.Proofs.YtafdbocepepcgaaDoor
