/-
  PLAIN MATHEMATICS of counting a word's bits in parallel (halves, quarters, bytes), as natural numbers; of no program. It proves nothing of Go.
-/
import Derived.Lib.BitFns
namespace Go.Proofs.YtokehiehfgffmaaDoor.Swar

theorem and_split (a b c d : Nat) (ha : a < 256) (hc : c < 256) : (a + 256 * b) &&& (c + 256 * d) = (a &&& c) + 256 * (b &&& d) := by
  have h1 := Nat.and_mod_two_pow (a := a + 256 * b) (b := c + 256 * d) (n := 8)
  have h2 := Nat.and_div_two_pow (a := a + 256 * b) (b := c + 256 * d) (n := 8)
  have e1 : (a + 256 * b) % 2 ^ 8 = a := by omega
  have e2 : (c + 256 * d) % 2 ^ 8 = c := by omega
  have e3 : (a + 256 * b) / 2 ^ 8 = b := by omega
  have e4 : (c + 256 * d) / 2 ^ 8 = d := by omega
  rw [e1, e2] at h1
  rw [e3, e4] at h2
  have h3 := Nat.mod_add_div ((a + 256 * b) &&& (c + 256 * d)) (2 ^ 8)
  rw [h1, h2] at h3
  omega

/-- n bytes, each c. -/
def mask (c : Nat) : Nat → Nat
  | 0 => 0
  | n + 1 => c + 256 * mask c n

def f1 (n x : Nat) : Nat := (x / 2 &&& mask 85 n) + (x &&& mask 85 n)
def f2 (n x : Nat) : Nat := (x / 4 &&& mask 51 n) + (x &&& mask 51 n)
def f3 (n x : Nat) : Nat := (x / 16 + x) &&& mask 15 n
def g1 (a : Nat) : Nat := (a / 2 &&& 85) + (a &&& 85)
def g2 (a : Nat) : Nat := (a / 4 &&& 51) + (a &&& 51)

theorem low1 : ∀ a : Fin 256, ∀ t : Fin 2, (a.val / 2 + 128 * t.val) &&& 85 = a.val / 2 &&& 85 := by decide +kernel
theorem low2 : ∀ a : Fin 256, ∀ t : Fin 4, (a.val / 4 + 64 * t.val) &&& 51 = a.val / 4 &&& 51 := by decide +kernel
theorem g_lt : ∀ a : Fin 256, g1 a.val < 256 ∧ g2 a.val < 256 := by decide +kernel
theorem g_nib : ∀ a : Fin 256, g2 (g1 a.val) % 16 ≤ 4 ∧ g2 (g1 a.val) ≤ 68 := by decide +kernel
theorem low3 : ∀ a : Fin 256, ∀ t : Fin 5, (g2 (g1 a.val) / 16 + g2 (g1 a.val) + 16 * t.val) &&& 15 = Lib.popAux 8 a.val := by decide +kernel

theorem f1_step (n a b : Nat) (ha : a < 256) : f1 (n + 1) (a + 256 * b) = g1 a + 256 * f1 n b := by
  unfold f1 g1
  have e : (a + 256 * b) / 2 = (a / 2 + 128 * (b % 2)) + 256 * (b / 2) := by omega
  have hl := low1 ⟨a, ha⟩ ⟨b % 2, by omega⟩
  simp only at hl
  rw [e, mask, and_split _ _ _ _ (by omega) (by omega), and_split _ _ _ _ ha (by omega), hl]
  omega
theorem f2_step (n a b : Nat) (ha : a < 256) : f2 (n + 1) (a + 256 * b) = g2 a + 256 * f2 n b := by
  unfold f2 g2
  have e : (a + 256 * b) / 4 = (a / 4 + 64 * (b % 4)) + 256 * (b / 4) := by omega
  have hl := low2 ⟨a, ha⟩ ⟨b % 4, by omega⟩
  simp only at hl
  rw [e, mask, and_split _ _ _ _ (by omega) (by omega), and_split _ _ _ _ ha (by omega), hl]
  omega
theorem f12_step (n a b : Nat) (ha : a < 256) : f2 (n + 1) (f1 (n + 1) (a + 256 * b)) = g2 (g1 a) + 256 * f2 n (f1 n b) := by
  rw [f1_step n a b ha, f2_step n _ _ (g_lt ⟨a, ha⟩).1]
theorem f12_nib (n b : Nat) : f2 n (f1 n b) % 16 ≤ 4 := by
  cases n with
  | zero => simp [f2, f1, mask]
  | succ n =>
    have e := f12_step n (b % 256) (b / 256) (by omega)
    rw [show b % 256 + 256 * (b / 256) = b by omega] at e
    rw [e]
    have := g_nib ⟨b % 256, by omega⟩
    simp only at this
    omega
theorem f123_step (n a b : Nat) (ha : a < 256) : f3 (n + 1) (f2 (n + 1) (f1 (n + 1) (a + 256 * b))) = Lib.popAux 8 a + 256 * f3 n (f2 n (f1 n b)) := by
  rw [f12_step n a b ha]
  have hz := f12_nib n b
  have hp := g_nib ⟨a, ha⟩
  have hl := low3 ⟨a, ha⟩ ⟨f2 n (f1 n b) % 16, by omega⟩
  simp only at hp hl
  generalize f2 n (f1 n b) = z at *
  generalize g2 (g1 a) = p at *
  unfold f3
  have e : (p + 256 * z) / 16 + (p + 256 * z) = (p / 16 + p + 16 * (z % 16)) + 256 * (z / 16 + z) := by omega
  rw [e, mask, and_split _ _ _ _ (by omega) (by omega), hl]

/-- A byte's count each. -/
def bytes : Nat → Nat → Nat
  | 0, _ => 0
  | n + 1, x => Lib.popAux 8 (x % 256) + 256 * bytes n (x / 256)
theorem f123 : ∀ n x, f3 n (f2 n (f1 n x)) = bytes n x
  | 0, x => by simp [f3, mask, bytes]
  | n + 1, x => by
    have e := f123_step n (x % 256) (x / 256) (by omega)
    rw [show x % 256 + 256 * (x / 256) = x by omega, f123 n (x / 256)] at e
    rw [e, bytes]
theorem popAux_add : ∀ (a b x : Nat), Lib.popAux (a + b) x = Lib.popAux a x + Lib.popAux b (x / 2 ^ a)
  | 0, b, x => by simp [Lib.popAux]
  | a + 1, b, x => by
    rw [show a + 1 + b = (a + b) + 1 by omega, Lib.popAux, Lib.popAux, popAux_add a b (x / 2), Nat.div_div_eq_div_mul, Nat.pow_succ, Nat.mul_comm 2]
    omega
theorem popAux_mod : ∀ (a x : Nat), Lib.popAux a (x % 2 ^ a) = Lib.popAux a x
  | 0, x => by simp [Lib.popAux]
  | a + 1, x => by
    have h1 : x % 2 ^ (a + 1) % 2 = x % 2 := by
      rw [Nat.pow_succ]
      exact Nat.mod_mod_of_dvd _ (Nat.dvd_mul_left _ _)
    have h2 : x % 2 ^ (a + 1) / 2 = x / 2 % 2 ^ a := by
      rw [Nat.pow_succ, Nat.mul_comm, Nat.mod_mul_right_div_self]
    rw [Lib.popAux, Lib.popAux, h1, h2, popAux_mod a (x / 2)]
theorem pop_byte (n x : Nat) : Lib.popAux (8 + n) x = Lib.popAux 8 (x % 256) + Lib.popAux n (x / 256) := by
  rw [popAux_add 8 n x, ← popAux_mod 8 x]
theorem pop_le (x : Nat) : Lib.popAux 8 (x % 256) ≤ 8 := by
  have : ∀ a : Fin 256, Lib.popAux 8 a.val ≤ 8 := by decide +kernel
  exact this ⟨x % 256, by omega⟩

theorem div_of (x q r d : Nat) (h : x = r + d * q) (hr : r < d) : x / d = q := by
  rw [h, Nat.add_mul_div_left _ _ (by omega), Nat.div_eq_of_lt hr]
  omega
theorem lin3 (p0 p1 p2 p3 p4 p5 p6 p7 x3 : Nat) (e3 : x3 = p0 + 256 * (p1 + 256 * (p2 + 256 * (p3 + 256 * (p4 + 256 * (p5 + 256 * (p6 + 256 * (p7 + 256 * 0))))))) ) :
    x3 = p0 + 256 * (p1 + 256 * p2 + 65536 * p3 + 16777216 * p4 + 4294967296 * p5 + 1099511627776 * p6 + 281474976710656 * p7) := by omega
theorem lin4 (p0 p1 p2 p3 p4 p5 p6 p7 : Nat) :
    p0 + 256 * (p1 + 256 * p2 + 65536 * p3 + 16777216 * p4 + 4294967296 * p5 + 1099511627776 * p6 + 281474976710656 * p7) + (p1 + 256 * p2 + 65536 * p3 + 16777216 * p4 + 4294967296 * p5 + 1099511627776 * p6 + 281474976710656 * p7) = ((p0 + p1) + 256 * (p1 + p2)) + 65536 * ((p2 + p3) + 256 * (p3 + p4) + 65536 * (p4 + p5) + 16777216 * (p5 + p6) + 4294967296 * (p6 + p7) + 1099511627776 * p7) := by omega
theorem lin5 (p0 p1 p2 p3 p4 p5 p6 p7 : Nat) :
    ((p0 + p1) + 256 * (p1 + p2)) + 65536 * ((p2 + p3) + 256 * (p3 + p4) + 65536 * (p4 + p5) + 16777216 * (p5 + p6) + 4294967296 * (p6 + p7) + 1099511627776 * p7) + ((p2 + p3) + 256 * (p3 + p4) + 65536 * (p4 + p5) + 16777216 * (p5 + p6) + 4294967296 * (p6 + p7) + 1099511627776 * p7)
      = ((p0 + p1 + p2 + p3) + 256 * (p1 + p2 + p3 + p4) + 65536 * (p2 + p3 + p4 + p5) + 16777216 * (p3 + p4 + p5 + p6)) + 4294967296 * ((p4 + p5 + p6 + p7) + 256 * (p5 + p6 + p7) + 65536 * (p6 + p7) + 16777216 * p7) := by omega
theorem lin6 (p0 p1 p2 p3 p4 p5 p6 p7 : Nat) :
    ((p0 + p1 + p2 + p3) + 256 * (p1 + p2 + p3 + p4) + 65536 * (p2 + p3 + p4 + p5) + 16777216 * (p3 + p4 + p5 + p6)) + 4294967296 * ((p4 + p5 + p6 + p7) + 256 * (p5 + p6 + p7) + 65536 * (p6 + p7) + 16777216 * p7) + ((p4 + p5 + p6 + p7) + 256 * (p5 + p6 + p7) + 65536 * (p6 + p7) + 16777216 * p7)
      = (p0 + p1 + p2 + p3 + p4 + p5 + p6 + p7) + 128 * (2 * (p1 + p2 + p3 + p4 + p5 + p6 + p7) + 512 * (p2 + p3 + p4 + p5 + p6 + p7) + 131072 * (p3 + p4 + p5 + p6 + p7) + 33554432 * (p4 + p5 + p6 + p7) + 8589934592 * (p5 + p6 + p7) + 2199023255552 * (p6 + p7) + 562949953421312 * p7) := by omega
theorem fold3 (p0 p1 p2 p3 p4 p5 p6 p7 : Nat) (h0 : p0 ≤ 8) (h1 : p1 ≤ 8) (h2 : p2 ≤ 8) (h3 : p3 ≤ 8) (h4 : p4 ≤ 8) (h5 : p5 ≤ 8) (h6 : p6 ≤ 8) (h7 : p7 ≤ 8)
    (x3 x4 x5 x6 : Nat) (e3 : x3 = p0 + 256 * (p1 + 256 * (p2 + 256 * (p3 + 256 * (p4 + 256 * (p5 + 256 * (p6 + 256 * (p7 + 256 * 0))))))))
    (e4 : x4 = x3 + x3 / 256) (e5 : x5 = x4 + x4 / 65536) (e6 : x6 = x5 + x5 / 4294967296) :
    x6 % 128 = p0 + (p1 + (p2 + (p3 + (p4 + (p5 + (p6 + p7)))))) ∧ x4 < 18446744073709551616 ∧ x5 < 18446744073709551616 ∧ x6 < 9223372036854775808 := by
  have l3 := lin3 _ _ _ _ _ _ _ _ _ e3
  have a3 := div_of x3 _ p0 256 l3 (Nat.lt_of_le_of_lt h0 (by decide))
  rw [a3, l3, lin4] at e4
  have a4 := div_of x4 _ _ 65536 e4 (by clear e3 e4 e5 e6 l3 a3; omega)
  rw [a4, e4, lin5] at e5
  have a5 := div_of x5 _ _ 4294967296 e5 (by clear e3 e4 e5 e6 l3 a3 a4; omega)
  rw [a5, e5, lin6] at e6
  clear e3 l3 a3 a4 a5
  refine ⟨?_, ?_, ?_, ?_⟩
  · rw [e6, Nat.add_mul_mod_self_left]
    clear e4 e5 e6
    rw [Nat.mod_eq_of_lt (by omega)]
    omega
  · rw [e4]; clear e4 e5 e6; omega
  · rw [e5]; clear e4 e5 e6; omega
  · rw [e6]; clear e4 e5 e6; omega

theorem fold_all (x x3 x4 x5 x6 : Nat) (e3 : x3 = bytes 8 x) (e4 : x4 = x3 + x3 / 256) (e5 : x5 = x4 + x4 / 65536) (e6 : x6 = x5 + x5 / 4294967296) :
    x6 % 128 = Lib.onesCount x ∧ x3 < 18446744073709551616 ∧ x4 < 18446744073709551616 ∧ x5 < 18446744073709551616 ∧ x6 < 9223372036854775808 := by
  have hp : Lib.onesCount x = Lib.popAux 8 (x % 256) + (Lib.popAux 8 (x / 256 % 256) + (Lib.popAux 8 (x / 256 / 256 % 256) + (Lib.popAux 8 (x / 256 / 256 / 256 % 256) + (Lib.popAux 8 (x / 256 / 256 / 256 / 256 % 256) + (Lib.popAux 8 (x / 256 / 256 / 256 / 256 / 256 % 256) + (Lib.popAux 8 (x / 256 / 256 / 256 / 256 / 256 / 256 % 256) + Lib.popAux 8 (x / 256 / 256 / 256 / 256 / 256 / 256 / 256 % 256))))))) := by
    unfold Lib.onesCount
    rw [show (64 : Nat) = 8 + 56 from rfl, pop_byte, show (56 : Nat) = 8 + 48 from rfl, pop_byte, show (48 : Nat) = 8 + 40 from rfl, pop_byte, show (40 : Nat) = 8 + 32 from rfl, pop_byte,
      show (32 : Nat) = 8 + 24 from rfl, pop_byte, show (24 : Nat) = 8 + 16 from rfl, pop_byte, show (16 : Nat) = 8 + 8 from rfl, pop_byte, show Lib.popAux 8 (x / 256 / 256 / 256 / 256 / 256 / 256 / 256) = Lib.popAux (8 + 0) (x / 256 / 256 / 256 / 256 / 256 / 256 / 256) from rfl, pop_byte]
    rfl
  have b3 : x3 < 18446744073709551616 := by
    rw [e3]
    simp only [bytes]
    have := pop_le x; have := pop_le (x / 256); have := pop_le (x / 256 / 256); have := pop_le (x / 256 / 256 / 256); have := pop_le (x / 256 / 256 / 256 / 256)
    have := pop_le (x / 256 / 256 / 256 / 256 / 256); have := pop_le (x / 256 / 256 / 256 / 256 / 256 / 256); have := pop_le (x / 256 / 256 / 256 / 256 / 256 / 256 / 256)
    omega
  have h := fold3 _ _ _ _ _ _ _ _ (pop_le x) (pop_le (x / 256)) (pop_le (x / 256 / 256)) (pop_le (x / 256 / 256 / 256)) (pop_le (x / 256 / 256 / 256 / 256)) (pop_le (x / 256 / 256 / 256 / 256 / 256)) (pop_le (x / 256 / 256 / 256 / 256 / 256 / 256)) (pop_le (x / 256 / 256 / 256 / 256 / 256 / 256 / 256)) x3 x4 x5 x6 e3 e4 e5 e6
  exact ⟨h.1.trans hp.symm, b3, h.2.1, h.2.2.1, h.2.2.2⟩
theorem mask85 : mask 85 8 = 6148914691236517205 := by decide
theorem mask51 : mask 51 8 = 3689348814741910323 := by decide
theorem mask15 : mask 15 8 = 1085102592571150095 := by decide
theorem f1_le (x : Nat) : (x / 2 &&& 6148914691236517205) + (x &&& 6148914691236517205) < 18446744073709551616 := by
  have := Nat.and_le_right (n := x / 2) (m := 6148914691236517205)
  have := Nat.and_le_right (n := x) (m := 6148914691236517205)
  omega
theorem f2_le (x : Nat) : (x / 4 &&& 3689348814741910323) + (x &&& 3689348814741910323) ≤ 7378697629483820646 := by
  have := Nat.and_le_right (n := x / 4) (m := 3689348814741910323)
  have := Nat.and_le_right (n := x) (m := 3689348814741910323)
  omega
end Go.Proofs.YtokehiehfgffmaaDoor.Swar
