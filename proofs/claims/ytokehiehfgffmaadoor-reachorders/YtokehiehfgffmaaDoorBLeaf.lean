/-
  What the functions of package bits that make no memory answer, as contracts: each returns what the plain function of the same kind says, and leaves the world as it was.
-/
import Derived.Test.YtokehiehfgffmaaDoorRows
import Derived.Test.YtokehiehfgffmaaDoorBMath
import Derived.Test.YtokehiehfgffmaaDoorBSwar
import Derived.WalkKit
import Derived.WalkSpells
import Derived.WalkLawsBesides
import Derived.Laws.Bits64b
import Derived.Deep.Light
namespace Go.Proofs.YtokehiehfgffmaaDoor
open Go.RowKit

theorem ret_int {k : IntKind} {a b : Int} (h : a = b) : Ending.returned (.int k a) = .returned (.int k b) := by rw [h]
theorem ret_bool {a b : Bool} (h : a = b) : Ending.returned (.bool a) = .returned (.bool b) := by rw [h]

set_option maxHeartbeats 400000 in
theorem may_any (i : Int) (w : World) :
    Calls Tryd.prog 84 #[.int .i64 i] w fun e w' => e = .returned (.bool (M.mayB i)) ∧ w = w' := by
  by_cases h0 : 0 ≤ i
  · by_cases h1 : i < 64
    · have H : Hid (true = M.mayB i) := show true = M.mayB i by simp [M.mayB, h0, h1]
      go_enter Tryd.func84, Tryd.ntmps84
      go_wp2
      go_ret
      exact ⟨ret_bool H.out, rfl⟩
    · have H : Hid (false = M.mayB i) := show false = M.mayB i by simp [M.mayB, h1]
      go_enter Tryd.func84, Tryd.ntmps84
      go_wp2
      go_ret
      exact ⟨ret_bool H.out, rfl⟩
  · have H : Hid (false = M.mayB i) := show false = M.mayB i by simp [M.mayB, h0]
    go_enter Tryd.func84, Tryd.ntmps84
    go_wp2
    go_ret
    exact ⟨ret_bool H.out, rfl⟩

theorem shl1 (i : Int) (h0 : 0 ≤ i) (h1 : i < 64) : IntKind.u64.wrap (2 ^ i.toNat) = (M.onlyN i : Int) := by
  have hl := M.onlyN_lt i
  have e : M.onlyN i = 2 ^ i.toNat := by simp [M.onlyN, h0, h1]
  have e2 : ((2 : Int) ^ i.toNat) = ((2 ^ i.toNat : Nat) : Int) := by simp
  rw [e2, ← e, IntKind.wrap_u64]
  omega
theorem only_none (i : Int) (h : M.mayB i = false) : (0 : Int) = (M.onlyN i : Int) := by
  have : ¬ (0 ≤ i ∧ i < 64) := by simpa [M.mayB] using h
  simp [M.onlyN, this]
set_option maxHeartbeats 400000 in
theorem only_any (i : Int) (w : World) :
    Calls Tryd.prog 74 #[.int .i64 i] w fun e w' => e = .returned (.int .u64 (M.onlyN i)) ∧ w = w' := by
  cases hm : M.mayB i
  · go_enter Tryd.func74, Tryd.ntmps74
    go_wp2_with (go_at_call 84; refine (may_any _ _).mono ?_; rintro e w' ⟨rfl, rfl⟩)
    go_ret
    exact ⟨ret_int (only_none i hm), rfl⟩
  · have h0 : 0 ≤ i := by simp [M.mayB] at hm; omega
    have h1 : i < 64 := by simp [M.mayB] at hm; omega
    go_enter Tryd.func74, Tryd.ntmps74
    go_wp2_with (go_at_call 84; refine (may_any _ _).mono ?_; rintro e w' ⟨rfl, rfl⟩)
    go_ret
    exact ⟨ret_int (shl1 i h0 h1), rfl⟩

set_option maxHeartbeats 400000 in
theorem within_any (s t : Nat) (w : World) (hs : s < 2 ^ 64) (ht : t < 2 ^ 64) :
    Calls Tryd.prog 53 #[.int .u64 s, .int .u64 t] w fun e w' => e = .returned (.bool (M.withinB s t)) ∧ w = w' := by
  have H : Hid ((bits BinOp.andNot IntKind.u64 (s : Int) (t : Int) == 0) = M.withinB s t) := by
    show (bits BinOp.andNot IntKind.u64 (s : Int) (t : Int) == 0) = M.withinB s t
    rw [u64_andNot_nat s t hs ht, Bool.eq_iff_iff]
    simp [M.withinB, M.lessN, M.top]
  go_enter Tryd.func53, Tryd.ntmps53
  go_wp2
  go_ret
  exact ⟨ret_bool H.out, rfl⟩

set_option maxHeartbeats 400000 in
theorem put_any (s : Nat) (i : Int) (w : World) (hs : s < 2 ^ 64) :
    Calls Tryd.prog 51 #[.int .u64 s, .int .i64 i] w fun e w' => e = .returned (.int .u64 (M.putN s i)) ∧ w = w' := by
  have H : Hid (bits BinOp.or IntKind.u64 (s : Int) (M.onlyN i : Int) = (M.putN s i : Int)) := bits_or_u64_nat s (M.onlyN i) hs (M.onlyN_lt i)
  go_enter Tryd.func51, Tryd.ntmps51
  go_wp2_with (go_at_call 74; refine (only_any _ _).mono ?_; rintro e w' ⟨rfl, rfl⟩)
  go_ret
  exact ⟨ret_int H.out, rfl⟩

set_option maxHeartbeats 400000 in
theorem drop_any (s : Nat) (i : Int) (w : World) (hs : s < 2 ^ 64) :
    Calls Tryd.prog 54 #[.int .u64 s, .int .i64 i] w fun e w' => e = .returned (.int .u64 (M.dropN s i)) ∧ w = w' := by
  have H : Hid (bits BinOp.andNot IntKind.u64 (s : Int) (M.onlyN i : Int) = (M.dropN s i : Int)) := u64_andNot_nat s (M.onlyN i) hs (M.onlyN_lt i)
  go_enter Tryd.func54, Tryd.ntmps54
  go_wp2_with (go_at_call 74; refine (only_any _ _).mono ?_; rintro e w' ⟨rfl, rfl⟩)
  go_ret
  exact ⟨ret_int H.out, rfl⟩

set_option maxHeartbeats 400000 in
theorem has_any (s : Nat) (i : Int) (w : World) (hs : s < 2 ^ 64) :
    Calls Tryd.prog 67 #[.int .u64 s, .int .i64 i] w fun e w' => e = .returned (.bool (M.hasB s i)) ∧ w = w' := by
  have H : Hid ((bits BinOp.and IntKind.u64 (s : Int) (M.onlyN i : Int) != 0) = M.hasB s i) := by
    show (bits BinOp.and IntKind.u64 (s : Int) (M.onlyN i : Int) != 0) = M.hasB s i
    rw [bits_and_u64_nat s (M.onlyN i) hs (M.onlyN_lt i), Bool.eq_iff_iff]
    simp [M.hasB]
  go_enter Tryd.func67, Tryd.ntmps67
  go_wp2_with (go_at_call 74; refine (only_any _ _).mono ?_; rintro e w' ⟨rfl, rfl⟩)
  go_ret
  exact ⟨ret_bool H.out, rfl⟩

theorem below_pos (i : Int) (h0 : 0 < i) (h1 : i < 64) : IntKind.u64.wrap (IntKind.u64.wrap (2 ^ i.toNat) - 1) = (M.belowN i : Int) := by
  rw [shl1 i (by omega) h1]
  have hl := M.onlyN_lt i
  have e : M.onlyN i = 2 ^ i.toNat := by simp [M.onlyN, show 0 ≤ i by omega, h1]
  have e2 : M.belowN i = 2 ^ i.toNat - 1 := by simp [M.belowN, show ¬ i ≤ 0 by omega, show ¬ 64 ≤ i by omega]
  have hp : 0 < 2 ^ i.toNat := Nat.two_pow_pos _
  rw [e2, ← e, IntKind.wrap_u64]
  rw [← e] at hp
  omega
set_option maxHeartbeats 400000 in
theorem below_any (i : Int) (w : World) :
    Calls Tryd.prog 83 #[.int .i64 i] w fun e w' => e = .returned (.int .u64 (M.belowN i)) ∧ w = w' := by
  by_cases h0 : i ≤ 0
  · have H : Hid ((0 : Int) = (M.belowN i : Int)) := show (0 : Int) = (M.belowN i : Int) by simp [M.belowN, h0]
    go_enter Tryd.func83, Tryd.ntmps83
    go_wp2
    go_ret
    exact ⟨ret_int H.out, rfl⟩
  · by_cases h1 : 64 ≤ i
    · have H : Hid ((18446744073709551615 : Int) = (M.belowN i : Int)) := show (18446744073709551615 : Int) = (M.belowN i : Int) by simp [M.belowN, h0, h1, M.top]
      go_enter Tryd.func83, Tryd.ntmps83
      go_wp2
      go_ret
      exact ⟨ret_int H.out, rfl⟩
    · have H : Hid (IntKind.u64.wrap (IntKind.u64.wrap (2 ^ i.toNat) - 1) = (M.belowN i : Int)) := below_pos i (by omega) (by omega)
      go_enter Tryd.func83, Tryd.ntmps83
      go_wp2
      go_ret
      exact ⟨ret_int H.out, rfl⟩
set_option maxHeartbeats 400000 in
theorem range_any (lo hi : Int) (w : World) :
    Calls Tryd.prog 73 #[.int .i64 lo, .int .i64 hi] w fun e w' => e = .returned (.int .u64 (M.rangeN lo hi)) ∧ w = w' := by
  have H : Hid (bits BinOp.andNot IntKind.u64 (M.belowN hi : Int) (M.belowN lo : Int) = (M.rangeN lo hi : Int)) := u64_andNot_nat (M.belowN hi) (M.belowN lo) (M.belowN_lt hi) (M.belowN_lt lo)
  go_enter Tryd.func73, Tryd.ntmps73
  go_wp2_with (go_at_call 83; refine (below_any _ _).mono ?_; rintro e w' ⟨rfl, rfl⟩)
  go_ret
  exact ⟨ret_int H.out, rfl⟩

theorem swar1 (x : Nat) (hx : x < 2 ^ 64) : IntKind.u64.wrap (bits BinOp.and IntKind.u64 ((x : Int) / 2) 6148914691236517205 + bits BinOp.and IntKind.u64 (x : Int) 6148914691236517205) = (Swar.f1 8 x : Int) := by
  have h := Swar.f1_le x
  have e1 : ((x : Int) / 2) = ((x / 2 : Nat) : Int) := by omega
  have a1 := bits_and_u64_nat (x / 2) 6148914691236517205 (by omega) (by decide)
  have a2 := bits_and_u64_nat x 6148914691236517205 hx (by decide)
  have n1 : ((6148914691236517205 : Nat) : Int) = 6148914691236517205 := rfl
  rw [n1] at a1 a2
  rw [e1, a1, a2, IntKind.wrap_u64, Swar.f1, Swar.mask85]
  generalize x / 2 &&& 6148914691236517205 = p at *
  generalize x &&& 6148914691236517205 = q at *
  omega
theorem swar1_lt (x : Nat) : Swar.f1 8 x < 18446744073709551616 := by
  have h := Swar.f1_le x
  rw [Swar.f1, Swar.mask85]
  exact h
theorem swar2 (x : Nat) (hx : x < 18446744073709551616) : IntKind.u64.wrap (bits BinOp.and IntKind.u64 ((x : Int) / 4) 3689348814741910323 + bits BinOp.and IntKind.u64 (x : Int) 3689348814741910323) = (Swar.f2 8 x : Int) := by
  have h := Swar.f2_le x
  have e1 : ((x : Int) / 4) = ((x / 4 : Nat) : Int) := by omega
  have a1 := bits_and_u64_nat (x / 4) 3689348814741910323 (by omega) (by decide)
  have a2 := bits_and_u64_nat x 3689348814741910323 hx (by decide)
  have n1 : ((3689348814741910323 : Nat) : Int) = 3689348814741910323 := rfl
  rw [n1] at a1 a2
  rw [e1, a1, a2, IntKind.wrap_u64, Swar.f2, Swar.mask51]
  generalize x / 4 &&& 3689348814741910323 = p at *
  generalize x &&& 3689348814741910323 = q at *
  omega
theorem swar2_le (x : Nat) : Swar.f2 8 x ≤ 7378697629483820646 := by
  have h := Swar.f2_le x
  rw [Swar.f2, Swar.mask51]
  exact h
theorem swar3 (x : Nat) (hx : x ≤ 7378697629483820646) : bits BinOp.and IntKind.u64 (IntKind.u64.wrap ((x : Int) / 16 + (x : Int))) 1085102592571150095 = (Swar.f3 8 x : Int) := by
  have e1 : IntKind.u64.wrap ((x : Int) / 16 + (x : Int)) = ((x / 16 + x : Nat) : Int) := by
    rw [IntKind.wrap_u64]
    omega
  have a1 := bits_and_u64_nat (x / 16 + x) 1085102592571150095 (by omega) (by decide)
  have n1 : ((1085102592571150095 : Nat) : Int) = 1085102592571150095 := rfl
  rw [n1] at a1
  rw [e1, a1, Swar.f3, Swar.mask15]
set_option maxHeartbeats 400000 in
theorem ones_core (x x1 x2 x3 x4 x5 x6 c : Nat) (w : World)
    (k1 : IntKind.u64.wrap (bits BinOp.and IntKind.u64 ((x : Int) / 2) 6148914691236517205 + bits BinOp.and IntKind.u64 (x : Int) 6148914691236517205) = (x1 : Int))
    (k2 : IntKind.u64.wrap (bits BinOp.and IntKind.u64 ((x1 : Int) / 4) 3689348814741910323 + bits BinOp.and IntKind.u64 (x1 : Int) 3689348814741910323) = (x2 : Int))
    (k3 : bits BinOp.and IntKind.u64 (IntKind.u64.wrap ((x2 : Int) / 16 + (x2 : Int))) 1085102592571150095 = (x3 : Int))
    (k4 : IntKind.u64.wrap ((x3 : Int) + (x3 : Int) / 256) = (x4 : Int)) (k5 : IntKind.u64.wrap ((x4 : Int) + (x4 : Int) / 65536) = (x5 : Int))
    (k6 : IntKind.u64.wrap ((x5 : Int) + (x5 : Int) / 4294967296) = (x6 : Int)) (k7 : bits BinOp.and IntKind.i64 (wrap64 (x6 : Int)) 127 = (c : Int)) :
    Calls Tryd.prog 85 #[.int .u64 x] w fun e w' => e = .returned (.int .i64 c) ∧ w = w' := by
  go_enter Tryd.func85, Tryd.ntmps85
  go_wp2
  go_ret
  exact ⟨rfl, rfl⟩
theorem low7 (x c : Nat) (hx : x < 9223372036854775808) (hc : x % 128 = c) : bits BinOp.and IntKind.i64 (wrap64 (x : Int)) 127 = (c : Int) := by
  have e : wrap64 (x : Int) = (x : Int) := by unfold wrap64; omega
  have h1 : (BitVec.ofInt 64 (x : Int)).toNat = x := by
    rw [BitVec.ofInt_natCast, BitVec.toNat_ofNat]; exact Nat.mod_eq_of_lt (by omega)
  have h2 : (BitVec.ofInt 64 (127 : Int)).toNat = 127 := by decide
  rw [e]
  show IntKind.i64.wrap ((BitVec.ofInt 64 (x : Int) &&& BitVec.ofInt 64 (127 : Int)).toNat : Int) = _
  rw [BitVec.toNat_and, h1, h2, show (127 : Nat) = 2 ^ 7 - 1 from rfl, Nat.and_two_pow_sub_one_eq_mod, IntKind.wrap_i64]
  omega
theorem ones_any (x : Nat) (w : World) (hx : x < 2 ^ 64) :
    Calls Tryd.prog 85 #[.int .u64 x] w fun e w' => e = .returned (.int .i64 (M.cnt x)) ∧ w = w' := by
  have h3 := Swar.f123 8 x
  obtain ⟨hc, b3, b4, b5, b6⟩ := Swar.fold_all x _ _ _ _ h3 rfl rfl rfl
  have u4 : ∀ (a d : Nat), a + a / d < 18446744073709551616 → IntKind.u64.wrap ((a : Int) + (a : Int) / (d : Int)) = ((a + a / d : Nat) : Int) := by
    intro a d h
    rw [IntKind.wrap_u64, ← Int.natCast_ediv, ← Int.natCast_add]
    clear hc b3 b4 b5 b6
    generalize a + a / d = z at *
    omega
  rw [M.cnt_eq]
  refine ones_core x _ _ _ _ _ _ _ w (swar1 x hx) (swar2 _ (swar1_lt x)) (swar3 _ (swar2_le _)) (u4 _ 256 b4) (u4 _ 65536 b5) (u4 _ 4294967296 (by omega)) (low7 _ _ b6 hc)
set_option maxHeartbeats 400000 in
theorem count_any (s : Nat) (w : World) (hs : s < 2 ^ 64) :
    Calls Tryd.prog 75 #[.int .u64 s] w fun e w' => e = .returned (.int .i64 (M.cnt s)) ∧ w = w' := by
  go_enter Tryd.func75, Tryd.ntmps75
  go_wp2_with (go_at_call 85; refine (ones_any _ _ hs).mono ?_; rintro e w' ⟨rfl, rfl⟩)
  go_ret
  exact ⟨rfl, rfl⟩

/-- The library's table of places, in its variable. -/
def Tab (w : World) : Prop := ∀ j, j < 64 → w.cell? ⟨0, j, none⟩ = some (.int .u8 (Lib.deBruijn64tab.getD j 0))
theorem Tab.below {w w' : World} (h : Tab w) (hg : 0 < w.heap.size) (hb : Below w.heap.size w w') : Tab w' := fun j hj => by
  rw [hb.cell (p := ⟨0, j, none⟩) hg]
  exact h j hj
set_option maxHeartbeats 400000 in
theorem tz_core (x k idx : Nat) (w : World) (hx0 : ((x : Int) == 0) = false)
    (key : IntKind.u64.wrap (bits BinOp.and IntKind.u64 (x : Int) (IntKind.u64.wrap (-(x : Int))) * 285870213051353865) / 288230376151711744 = (idx : Int))
    (hi : idx < 64) (hk : k < 64) (hcell : w.cell? ⟨0, idx, none⟩ = some (.int .u8 k)) :
    Calls Tryd.prog 82 #[.int .u64 x] w fun e w' => e = .returned (.int .i64 k) ∧ w = w' := by
  go_enter Tryd.func82, Tryd.ntmps82
  go_wp2_with (simp only [key])
  go_ret
  exact ⟨rfl, rfl⟩
theorem tz_any (x : Nat) (w : World) (h0 : x ≠ 0) (hx : x < 2 ^ 64) (hT : Tab w) :
    Calls Tryd.prog 82 #[.int .u64 x] w fun e w' => e = .returned (.int .i64 (Lib.ctz 64 x)) ∧ w = w' := by
  obtain ⟨hlow, hk⟩ := Lib.lowest_bit 64 x h0 hx
  obtain ⟨hi, htab⟩ := Lib.deBruijn64_at _ hk
  refine tz_core x _ _ w (by simp; omega) ?_ hi hk (by rw [hT _ hi, htab])
  have e1 : IntKind.u64.wrap (-(x : Int)) = ((2 ^ 64 - x : Nat) : Int) := by rw [IntKind.wrap_u64]; omega
  rw [e1, bits_and_u64_nat x _ hx (by omega), hlow, IntKind.wrap_u64]
  clear hi htab hlow
  generalize 2 ^ Lib.ctz 64 x = a
  omega
set_option maxHeartbeats 400000 in
theorem first_any (s : Nat) (w : World) (hs : s < 2 ^ 64) (hT : Tab w) :
    Calls Tryd.prog 72 #[.int .u64 s] w fun e w' => e = .returned (.int .i64 (M.firstI s)) ∧ w = w' := by
  by_cases h0 : s = 0
  · subst h0
    go_enter Tryd.func72, Tryd.ntmps72
    go_wp2
    go_ret
    exact ⟨rfl, rfl⟩
  · have hb : ((s : Int) == 0) = false := by simp; omega
    have H : Hid ((Lib.ctz 64 s : Int) = M.firstI s) := show (Lib.ctz 64 s : Int) = M.firstI s by simp [M.firstI, h0]
    go_enter Tryd.func72, Tryd.ntmps72
    go_wp2_with (go_at_call 82; refine (tz_any _ _ h0 hs hT).mono ?_; rintro e w' ⟨rfl, rfl⟩)
    go_ret
    exact ⟨ret_int H.out, rfl⟩

theorem len_way (x y k b : Nat) (hx : x < 18446744073709551616) (hy : x / 2 ^ k = y) (hy8 : y < 256) (hk : k ≤ 56) (hb : b = Lib.bitLen y) (h : k = 0 ∨ y ≠ 0) : wrap64 ((k : Int) + wrap64 (b : Int)) = (Lib.bitLen x : Int) := by
  have hl := Lib.bitLen_le8 ⟨y, hy8⟩
  simp only at hl
  have e : Lib.bitLen x = k + Lib.bitLen y := by
    rcases h with rfl | h
    · subst hy; simp
    · rw [← hy]
      refine Lib.bitLen_shift k x ?_ hx
      apply Nat.le_of_not_lt
      intro hlt
      exact h (by rw [← hy]; exact Nat.div_eq_of_lt hlt)
  unfold wrap64
  omega
theorem len8_at (i : Nat) (h : i < Lib.len8tab.size) : Lib.len8tab[i].toNat = Lib.bitLen i := by
  have h8 : i < 256 := by rw [Lib.len8tab_size] at h; exact h
  have e := Lib.len8_of (i : Int) (by omega) (by omega)
  unfold Lib.len8 at e
  rw [Int.toNat_natCast, getElem?_pos Lib.len8tab i h] at e
  exact Int.ofNat_inj.1 e
theorem len_end (x : Int) (y k : Nat) (h0 : 0 ≤ x) (h1 : x ≤ 18446744073709551615) (h : y < Lib.len8tab.size) (hy : x.toNat / 2 ^ k = y) (hk : k ≤ 56) (hn : k = 0 ∨ y ≠ 0) :
    wrap64 ((k : Int) + wrap64 (Lib.len8tab[y].toNat : Int)) = (Lib.bitLen x.toNat : Int) := by
  have h8 : y < 256 := by rw [Lib.len8tab_size] at h; exact h
  rw [len8_at y h]
  exact len_way x.toNat y k _ (by omega) hy h8 hk rfl hn
theorem len_end0 (x : Int) (h0 : 0 ≤ x) (h1 : x ≤ 18446744073709551615) (h : x.toNat < Lib.len8tab.size) :
    wrap64 (wrap64 (Lib.len8tab[x.toNat].toNat : Int)) = (Lib.bitLen x.toNat : Int) := by
  have := len_end x x.toNat 0 h0 h1 h (by simp) (by omega) (.inl rfl)
  simpa using this
end Go.Proofs.YtokehiehfgffmaaDoor
