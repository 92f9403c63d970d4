/-
  What piece tells, as a contract.
-/
import Derived.Test.YtlnhhfmgciaaeaaLDig
namespace Go.Proofs.Ytlnhhfmgciaaeaa.Lx
open Go.RowKit
set_option linter.unusedVariables false
set_option linter.unusedSimpArgs false
def signs12 : List (List UInt8) := [[123], [125], [40], [41], [59], [44], [58], [61], [61, 61], [60], [43], [45]]
def words8 : List (List UInt8) := [[108, 111, 97, 100], [120], [114, 49], [90, 101, 100, 57], [115, 116, 111, 114, 101], [97], [97, 99, 113, 114, 101, 108], [98, 50, 98]]
/-- A token by two numbers: its bytes, its kind, its number. -/
def pcT (k n : Nat) : List UInt8 := if k % 3 = 0 then words8.getD (n % 8) [] else if k % 3 = 1 then L.decL n else signs12.getD (n % 12) []
def pcK (k : Nat) : Nat := if k % 3 = 0 then 1 else if k % 3 = 1 then 2 else 3
def pcN (k n : Nat) : Nat := if k % 3 = 1 then n else 0
theorem words_piece (j : Nat) (h : j < 8) : L.Piece 1 (words8.getD j []) 0 := by
  match j, h with
  | 0, _ => exact .word (by decide) (by decide)
  | 1, _ => exact .word (by decide) (by decide)
  | 2, _ => exact .word (by decide) (by decide)
  | 3, _ => exact .word (by decide) (by decide)
  | 4, _ => exact .word (by decide) (by decide)
  | 5, _ => exact .word (by decide) (by decide)
  | 6, _ => exact .word (by decide) (by decide)
  | 7, _ => exact .word (by decide) (by decide)
  | n + 8, h => exact absurd h (by omega)
theorem signs_piece (j : Nat) (h : j < 12) : L.Piece 3 (signs12.getD j []) 0 := by
  match j, h with
  | 0, _ => exact .sign (by decide)
  | 1, _ => exact .sign (by decide)
  | 2, _ => exact .sign (by decide)
  | 3, _ => exact .sign (by decide)
  | 4, _ => exact .sign (by decide)
  | 5, _ => exact .sign (by decide)
  | 6, _ => exact .sign (by decide)
  | 7, _ => exact .sign (by decide)
  | 8, _ => exact .two
  | 9, _ => exact .sign (by decide)
  | 10, _ => exact .sign (by decide)
  | 11, _ => exact .sign (by decide)
  | n + 12, h => exact absurd h (by omega)
theorem pc_piece (k n : Nat) (hn : n < 256) : L.Piece (pcK k) (pcT k n) (pcN k n) := by
  unfold pcK pcT pcN
  by_cases h0 : k % 3 = 0
  · rw [if_pos h0, if_pos h0, if_neg (by omega)]
    exact words_piece _ (by omega)
  · rw [if_neg h0, if_neg h0]
    by_cases h1 : k % 3 = 1
    · rw [if_pos h1, if_pos h1, if_pos h1]
      exact L.dec_piece (by unfold L.top; omega)
    · rw [if_neg h1, if_neg h1, if_neg h1]
      exact signs_piece _ (by omega)
theorem words_cell (j : Nat) (h : j < 8) : (#[.string ⟨#[108, 111, 97, 100]⟩, .string ⟨#[120]⟩, .string ⟨#[114, 49]⟩, .string ⟨#[90, 101, 100, 57]⟩, .string ⟨#[115, 116, 111, 114, 101]⟩, .string ⟨#[97]⟩, .string ⟨#[97, 99, 113, 114, 101, 108]⟩, .string ⟨#[98, 50, 98]⟩] : Array Value)[j]? = some (.string (bs (words8.getD j []))) := by
  match j, h with
  | 0, _ => rfl
  | 1, _ => rfl
  | 2, _ => rfl
  | 3, _ => rfl
  | 4, _ => rfl
  | 5, _ => rfl
  | 6, _ => rfl
  | 7, _ => rfl
  | n + 8, h => exact absurd h (by omega)
theorem signs_cell (j : Nat) (h : j < 12) : (#[.string ⟨#[123]⟩, .string ⟨#[125]⟩, .string ⟨#[40]⟩, .string ⟨#[41]⟩, .string ⟨#[59]⟩, .string ⟨#[44]⟩, .string ⟨#[58]⟩, .string ⟨#[61]⟩, .string ⟨#[61, 61]⟩, .string ⟨#[60]⟩, .string ⟨#[43]⟩, .string ⟨#[45]⟩] : Array Value)[j]? = some (.string (bs (signs12.getD j []))) := by
  match j, h with
  | 0, _ => rfl
  | 1, _ => rfl
  | 2, _ => rfl
  | 3, _ => rfl
  | 4, _ => rfl
  | 5, _ => rfl
  | 6, _ => rfl
  | 7, _ => rfl
  | 8, _ => rfl
  | 9, _ => rfl
  | 10, _ => rfl
  | 11, _ => rfl
  | n + 12, h => exact absurd h (by omega)
/-- A token's text and kind are told, and nothing old turns. -/
def PieceTo (s : ByteArray) (k : Int) (w : World) (e : Ending) (w' : World) : Prop := e = .returned (.tuple #[.string s, .int .i64 k]) ∧ Below w.heap.size w w'

set_option maxHeartbeats 1600000 in
theorem piece_word (k n : Nat) (w : World) (hk : k < 256) (hn : n < 256) (h0 : k % 3 = 0) : Calls Try.prog 16 #[.int .u8 (k : Nat), .int .u8 (n : Nat)] w (PieceTo (bs (words8.getD (n % 8) [])) 1 w) := by
  have d0 : (((k : Int) % 3) == 0) = true := by simp; omega
  have HC := Lib.hid (words_cell (n % 8) (by omega))
  clear h0
  go_enter Try.func16, Try.ntmps16
  go_upto_region 5 with (fail)
  have hB : Blk ((w.alloc (.cells #[.string ⟨#[123]⟩, .string ⟨#[125]⟩, .string ⟨#[40]⟩, .string ⟨#[41]⟩, .string ⟨#[59]⟩, .string ⟨#[44]⟩, .string ⟨#[58]⟩, .string ⟨#[61]⟩, .string ⟨#[61, 61]⟩, .string ⟨#[60]⟩, .string ⟨#[43]⟩, .string ⟨#[45]⟩] 9)).alloc (.cells #[.string ⟨#[108, 111, 97, 100]⟩, .string ⟨#[120]⟩, .string ⟨#[114, 49]⟩, .string ⟨#[90, 101, 100, 57]⟩, .string ⟨#[115, 116, 111, 114, 101]⟩, .string ⟨#[97]⟩, .string ⟨#[97, 99, 113, 114, 101, 108]⟩, .string ⟨#[98, 50, 98]⟩] 9)) (w.heap.size + 1) 9 #[.string ⟨#[108, 111, 97, 100]⟩, .string ⟨#[120]⟩, .string ⟨#[114, 49]⟩, .string ⟨#[90, 101, 100, 57]⟩, .string ⟨#[115, 116, 111, 114, 101]⟩, .string ⟨#[97]⟩, .string ⟨#[97, 99, 113, 114, 101, 108]⟩, .string ⟨#[98, 50, 98]⟩] := by
    have := Blk.new (w.alloc (.cells #[.string ⟨#[123]⟩, .string ⟨#[125]⟩, .string ⟨#[40]⟩, .string ⟨#[41]⟩, .string ⟨#[59]⟩, .string ⟨#[44]⟩, .string ⟨#[58]⟩, .string ⟨#[61]⟩, .string ⟨#[61, 61]⟩, .string ⟨#[60]⟩, .string ⟨#[43]⟩, .string ⟨#[45]⟩] 9)) 9 #[.string ⟨#[108, 111, 97, 100]⟩, .string ⟨#[120]⟩, .string ⟨#[114, 49]⟩, .string ⟨#[90, 101, 100, 57]⟩, .string ⟨#[115, 116, 111, 114, 101]⟩, .string ⟨#[97]⟩, .string ⟨#[97, 99, 113, 114, 101, 108]⟩, .string ⟨#[98, 50, 98]⟩]
    rw [show (w.alloc (.cells #[.string ⟨#[123]⟩, .string ⟨#[125]⟩, .string ⟨#[40]⟩, .string ⟨#[41]⟩, .string ⟨#[59]⟩, .string ⟨#[44]⟩, .string ⟨#[58]⟩, .string ⟨#[61]⟩, .string ⟨#[61, 61]⟩, .string ⟨#[60]⟩, .string ⟨#[43]⟩, .string ⟨#[45]⟩] 9)).heap.size = w.heap.size + 1 by simp] at this
    exact this
  have hbel : Below w.heap.size w ((w.alloc (.cells #[.string ⟨#[123]⟩, .string ⟨#[125]⟩, .string ⟨#[40]⟩, .string ⟨#[41]⟩, .string ⟨#[59]⟩, .string ⟨#[44]⟩, .string ⟨#[58]⟩, .string ⟨#[61]⟩, .string ⟨#[61, 61]⟩, .string ⟨#[60]⟩, .string ⟨#[43]⟩, .string ⟨#[45]⟩] 9)).alloc (.cells #[.string ⟨#[108, 111, 97, 100]⟩, .string ⟨#[120]⟩, .string ⟨#[114, 49]⟩, .string ⟨#[90, 101, 100, 57]⟩, .string ⟨#[115, 116, 111, 114, 101]⟩, .string ⟨#[97]⟩, .string ⟨#[97, 99, 113, 114, 101, 108]⟩, .string ⟨#[98, 50, 98]⟩] 9)) := ((Below.refl _ _).alloc (Nat.le_refl _) _).alloc (by simp) _
  generalize (w.alloc (.cells #[.string ⟨#[123]⟩, .string ⟨#[125]⟩, .string ⟨#[40]⟩, .string ⟨#[41]⟩, .string ⟨#[59]⟩, .string ⟨#[44]⟩, .string ⟨#[58]⟩, .string ⟨#[61]⟩, .string ⟨#[61, 61]⟩, .string ⟨#[60]⟩, .string ⟨#[43]⟩, .string ⟨#[45]⟩] 9)).alloc (.cells #[.string ⟨#[108, 111, 97, 100]⟩, .string ⟨#[120]⟩, .string ⟨#[114, 49]⟩, .string ⟨#[90, 101, 100, 57]⟩, .string ⟨#[115, 116, 111, 114, 101]⟩, .string ⟨#[97]⟩, .string ⟨#[97, 99, 113, 114, 101, 108]⟩, .string ⟨#[98, 50, 98]⟩] 9) = w1 at *
  have hc : w1.cell? ⟨w.heap.size + 1, n % 8, none⟩ = some (.string (bs (words8.getD (n % 8) []))) := by
    rw [hB.cell]
    exact HC.out
  clear hB HC
  generalize bs (words8.getD (n % 8) []) = T at *
  have m1 : ((n : Int) % 8).toNat = n % 8 := by omega
  have m2 : (0 : Int) ≤ (n : Int) % 8 := by omega
  have m3 : (n : Int) % 8 < 8 := by omega
  go_wp2_with fail
  go_ret2
  exact ⟨rfl, hbel⟩
set_option maxHeartbeats 1600000 in
theorem piece_sign (k n : Nat) (w : World) (hk : k < 256) (hn : n < 256) (h0 : k % 3 = 2) : Calls Try.prog 16 #[.int .u8 (k : Nat), .int .u8 (n : Nat)] w (PieceTo (bs (signs12.getD (n % 12) [])) 3 w) := by
  have d0 : (((k : Int) % 3) == 0) = false := by simp; omega
  have d1 : (((k : Int) % 3) == 1) = false := by simp; omega
  have HC := Lib.hid (signs_cell (n % 12) (by omega))
  clear h0
  go_enter Try.func16, Try.ntmps16
  go_upto_region 8 with (fail)
  have hB : Blk (w.alloc (.cells #[.string ⟨#[123]⟩, .string ⟨#[125]⟩, .string ⟨#[40]⟩, .string ⟨#[41]⟩, .string ⟨#[59]⟩, .string ⟨#[44]⟩, .string ⟨#[58]⟩, .string ⟨#[61]⟩, .string ⟨#[61, 61]⟩, .string ⟨#[60]⟩, .string ⟨#[43]⟩, .string ⟨#[45]⟩] 9)) w.heap.size 9 #[.string ⟨#[123]⟩, .string ⟨#[125]⟩, .string ⟨#[40]⟩, .string ⟨#[41]⟩, .string ⟨#[59]⟩, .string ⟨#[44]⟩, .string ⟨#[58]⟩, .string ⟨#[61]⟩, .string ⟨#[61, 61]⟩, .string ⟨#[60]⟩, .string ⟨#[43]⟩, .string ⟨#[45]⟩] := Blk.new _ _ _
  have hbel : Below w.heap.size w (w.alloc (.cells #[.string ⟨#[123]⟩, .string ⟨#[125]⟩, .string ⟨#[40]⟩, .string ⟨#[41]⟩, .string ⟨#[59]⟩, .string ⟨#[44]⟩, .string ⟨#[58]⟩, .string ⟨#[61]⟩, .string ⟨#[61, 61]⟩, .string ⟨#[60]⟩, .string ⟨#[43]⟩, .string ⟨#[45]⟩] 9)) := (Below.refl _ _).alloc (Nat.le_refl _) _
  generalize w.alloc (.cells #[.string ⟨#[123]⟩, .string ⟨#[125]⟩, .string ⟨#[40]⟩, .string ⟨#[41]⟩, .string ⟨#[59]⟩, .string ⟨#[44]⟩, .string ⟨#[58]⟩, .string ⟨#[61]⟩, .string ⟨#[61, 61]⟩, .string ⟨#[60]⟩, .string ⟨#[43]⟩, .string ⟨#[45]⟩] 9) = w1 at *
  have hc : w1.cell? ⟨w.heap.size, n % 12, none⟩ = some (.string (bs (signs12.getD (n % 12) []))) := by
    rw [hB.cell]
    exact HC.out
  clear hB HC
  generalize bs (signs12.getD (n % 12) []) = T at *
  have m1 : ((n : Int) % 12).toNat = n % 12 := by omega
  have m2 : (0 : Int) ≤ (n : Int) % 12 := by omega
  have m3 : (n : Int) % 12 < 12 := by omega
  go_wp2_with fail
  go_ret2
  exact ⟨rfl, hbel⟩
set_option maxHeartbeats 1600000 in
theorem piece_num (k n : Nat) (w : World) (hk : k < 256) (hn : n < 256) (h0 : k % 3 = 1) : Calls Try.prog 16 #[.int .u8 (k : Nat), .int .u8 (n : Nat)] w (PieceTo (bs (L.decL n)) 2 w) := by
  have d0 : (((k : Int) % 3) == 0) = false := by simp; omega
  have d1 : (((k : Int) % 3) == 1) = true := by simp; omega
  have HD := Lib.hid (fun w => digits_any n w (by omega))
  generalize bs (L.decL n) = T at *
  clear h0
  go_enter Try.func16, Try.ntmps16
  go_wp2_with fail
  with_reducible refine (HD.out _).mono ?_
  rintro e w1 ⟨rfl, hb1⟩
  go_wp2_with fail
  go_ret2
  exact ⟨rfl, ((Below.refl _ _).alloc (Nat.le_refl _) _).trans (hb1.mono (by simp))⟩
theorem piece_any (k n : Nat) (w : World) (hk : k < 256) (hn : n < 256) : Calls Try.prog 16 #[.int .u8 (k : Nat), .int .u8 (n : Nat)] w (PieceTo (bs (pcT k n)) (pcK k : Nat) w) := by
  unfold pcT pcK
  by_cases h0 : k % 3 = 0
  · rw [if_pos h0, if_pos h0]
    exact piece_word k n w hk hn h0
  · rw [if_neg h0, if_neg h0]
    by_cases h1 : k % 3 = 1
    · rw [if_pos h1, if_pos h1]
      exact piece_num k n w hk hn h1
    · rw [if_neg h1, if_neg h1]
      exact piece_sign k n w hk hn (by omega)
end Go.Proofs.Ytlnhhfmgciaaeaa.Lx
