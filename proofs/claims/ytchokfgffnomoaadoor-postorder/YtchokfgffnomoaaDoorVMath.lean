/-
  PLAIN MATHEMATICS of numbers that go round, and that stop; of no program. It proves nothing of Go.
-/
namespace Go.Proofs.YtchokfgffnomoaaDoor.V
set_option linter.unusedVariables false
set_option linter.unusedSimpArgs false
/-- n is a number of numbers that go round. -/
def okB (n : Int) : Bool := decide (1 ≤ n ∧ n ≤ 2147483648)
theorem okB_iff (n : Int) : okB n = true ↔ 1 ≤ n ∧ n ≤ 2147483648 := by simp [okB]
/-- In. -/
def inI (v n : Int) : Int := if okB n = true then v % n else 0
theorem inI_ok {v n : Int} (h : 1 ≤ n ∧ n ≤ 2147483648) : inI v n = v % n := by rw [inI, if_pos ((okB_iff n).2 h)]
theorem inI_no {v n : Int} (h : ¬ (1 ≤ n ∧ n ≤ 2147483648)) : inI v n = 0 := by rw [inI, if_neg (fun e => h ((okB_iff n).1 e))]
theorem inI_bd {v n : Int} (h : 1 ≤ n ∧ n ≤ 2147483648) : 0 ≤ inI v n ∧ inI v n < n := by
  rw [inI_ok h]
  exact ⟨Int.emod_nonneg _ (by omega), Int.emod_lt_of_pos _ (by omega)⟩
theorem inI_in (v n : Int) : 0 ≤ inI v n ∧ inI v n ≤ 2147483647 := by
  by_cases h : 1 ≤ n ∧ n ≤ 2147483648
  · have := inI_bd (v := v) h
    omega
  · rw [inI_no h]
    omega
/-- Go's remainder, brought to what is not below 0. -/
theorem tmod_in (v n : Int) (h : 1 ≤ n) : (if v.tmod n < 0 then v.tmod n + n else v.tmod n) = v % n := by
  by_cases hv : 0 ≤ v
  · rw [Int.tmod_eq_emod_of_nonneg hv]
    have := Int.emod_nonneg v (show n ≠ 0 by omega)
    rw [if_neg (by omega)]
  · have h1 := @Int.tmod_eq_emod v n
    have h2 := Int.emod_nonneg v (show n ≠ 0 by omega)
    have h3 := Int.emod_lt_of_pos v (show 0 < n by omega)
    rw [h1]
    by_cases hd : n ∣ v
    · have h4 : v % n = 0 := Int.emod_eq_zero_of_dvd hd
      simp [hv, hd, h4]
    · have h4 : v % n ≠ 0 := fun e => hd (Int.dvd_of_emod_eq_zero e)
      have h5 : (n.natAbs : Int) = n := by omega
      simp only [hv, hd, or_self, if_false, h5]
      rw [if_pos (by omega)]
      omega
/-- Mul. -/
def mulI (a b n : Int) : Int := inI (a * b) n
def addI (a b n : Int) : Int := inI (a + b) n
def subI (a b n : Int) : Int := inI (a - b) n
theorem add_in (a b n : Int) : inI (inI a n + inI b n) n = addI a b n := by
  unfold addI
  by_cases h : 1 ≤ n ∧ n ≤ 2147483648
  · rw [inI_ok h, inI_ok h, inI_ok h, inI_ok h, ← Int.add_emod]
  · rw [inI_no h, inI_no h]
theorem sub_in (a b n : Int) : inI (inI a n - inI b n) n = subI a b n := by
  unfold subI
  by_cases h : 1 ≤ n ∧ n ≤ 2147483648
  · rw [inI_ok h, inI_ok h, inI_ok h, inI_ok h, ← Int.sub_emod]
  · rw [inI_no h, inI_no h]
theorem mul_in (a b n : Int) : inI (inI a n * inI b n) n = mulI a b n := by
  unfold mulI
  by_cases h : 1 ≤ n ∧ n ≤ 2147483648
  · rw [inI_ok h, inI_ok h, inI_ok h, inI_ok h, ← Int.mul_emod]
  · rw [inI_no h, inI_no h]
theorem in_in (a n : Int) : inI (inI a n) n = inI a n := by
  by_cases h : 1 ≤ n ∧ n ≤ 2147483648
  · rw [inI_ok h, inI_ok h, Int.emod_emod]
  · rw [inI_no h, inI_no h]
theorem add_l (a b n : Int) : addI (inI a n) b n = addI a b n := by rw [← add_in, in_in, add_in]
theorem add_r (a b n : Int) : addI a (inI b n) n = addI a b n := by rw [← add_in, in_in, add_in]
theorem sub_l (a b n : Int) : subI (inI a n) b n = subI a b n := by rw [← sub_in, in_in, sub_in]
theorem mul_l (a b n : Int) : mulI (inI a n) b n = mulI a b n := by rw [← mul_in, in_in, mul_in]
theorem mul_r (a b n : Int) : mulI a (inI b n) n = mulI a b n := by rw [← mul_in, in_in, mul_in]
theorem add_comm' (a b n : Int) : addI a b n = addI b a n := by unfold addI; rw [Int.add_comm]
theorem mul_comm' (a b n : Int) : mulI a b n = mulI b a n := by unfold mulI; rw [Int.mul_comm]
theorem add_assoc' (a b c n : Int) : addI (addI a b n) c n = addI a (addI b c n) n := by
  show addI (inI (a + b) n) c n = addI a (inI (b + c) n) n
  rw [add_l, add_r]
  unfold addI
  rw [Int.add_assoc]
theorem mul_assoc' (a b c n : Int) : mulI (mulI a b n) c n = mulI a (mulI b c n) n := by
  show mulI (inI (a * b) n) c n = mulI a (inI (b * c) n) n
  rw [mul_l, mul_r]
  unfold mulI
  rw [Int.mul_assoc]
theorem mul_add' (a b c n : Int) : mulI a (addI b c n) n = addI (mulI a b n) (mulI a c n) n := by
  show mulI a (inI (b + c) n) n = addI (inI (a * b) n) (inI (a * c) n) n
  rw [mul_r, add_l, add_r]
  unfold mulI addI
  rw [Int.mul_add]
theorem sub_add' (a b n : Int) : subI (addI a b n) b n = inI a n := by
  show subI (inI (a + b) n) b n = _
  rw [sub_l]
  unfold subI
  rw [show a + b - b = a by omega]
theorem mul_one' (a n : Int) : mulI a 1 n = inI a n := by
  unfold mulI
  rw [Int.mul_one]
theorem sub_neg' (a b n : Int) : subI a b n = addI a (-b) n := by
  unfold subI addI
  rw [show a - b = a + -b by omega]
/-- Remainders within sums and products. -/
theorem mod_lin (A B h n : Int) : (A % n + B % n * h) % n = (A + B * h) % n := by
  rw [Int.add_emod, Int.mul_emod, Int.emod_emod, Int.emod_emod, ← Int.mul_emod, ← Int.add_emod]
theorem half_eq (y : Int) : y = 2 * (y / 2) + y % 2 := by omega
theorem mul_odd {x y out n c : Int} (hy : y % 2 = 1) (h : (out + x * y) % n = c) : ((out + x) % n + (x + x) % n * (y / 2)) % n = c := by
  rw [mod_lin, ← h]
  congr 1
  have e : x * y = x * (2 * (y / 2) + y % 2) := by rw [← half_eq]
  rw [e, hy, Int.mul_add, Int.mul_one, ← Int.mul_assoc, Int.add_mul, Int.mul_comm x 2, Int.mul_assoc]
  omega
theorem mul_even {x y out n c : Int} (hy : y % 2 = 0) (h : (out + x * y) % n = c) : (out + (x + x) % n * (y / 2)) % n = c := by
  have e0 : (out + (x + x) % n * (y / 2)) % n = (out + (x + x) * (y / 2)) % n := by
    rw [Int.add_emod, Int.mul_emod, Int.emod_emod, ← Int.mul_emod, ← Int.add_emod]
  rw [e0, ← h]
  congr 1
  have e : x * y = x * (2 * (y / 2) + y % 2) := by rw [← half_eq]
  rw [e, hy, Int.mul_add, Int.mul_zero, ← Int.mul_assoc, Int.add_mul, Int.mul_comm x 2, Int.mul_assoc]
  omega
/-- What a round of multiplying by adding leaves. -/
structure MulS (a b n : Int) (k : Nat) (x y out : Int) : Prop where
  x0 : 0 ≤ x
  xn : x < n
  y0 : 0 ≤ y
  y1 : y < 2 ^ (32 - k)
  o0 : 0 ≤ out
  on : out < n
  eq : (out + x * y) % n = (a * b) % n
theorem MulS.start {a b n : Int} (h : 1 ≤ n ∧ n ≤ 2147483648) : MulS a b n 0 (inI a n) (inI b n) 0 := by
  have ha := inI_bd (v := a) h
  have hb := inI_bd (v := b) h
  refine ⟨ha.1, ha.2, hb.1, ?_, by omega, by omega, ?_⟩
  · show inI b n < 4294967296
    omega
  · rw [Int.zero_add, inI_ok h, inI_ok h, ← Int.mul_emod]
theorem MulS.odd {a b n : Int} {k : Nat} {x y out : Int} (h : 1 ≤ n ∧ n ≤ 2147483648) (hS : MulS a b n k x y out) (hk : k < 32) (hy : y % 2 = 1) : MulS a b n (k + 1) (inI (x + x) n) (y / 2) (inI (out + x) n) := by
  have h1 := inI_bd (v := x + x) h
  have h2 := inI_bd (v := out + x) h
  refine ⟨h1.1, h1.2, by have := hS.y0; omega, ?_, h2.1, h2.2, ?_⟩
  · have h3 := hS.y1
    rw [show 32 - k = (32 - (k + 1)) + 1 by omega, Int.pow_succ] at h3
    omega
  · rw [inI_ok h, inI_ok h]
    exact mul_odd hy hS.eq
theorem MulS.even {a b n : Int} {k : Nat} {x y out : Int} (h : 1 ≤ n ∧ n ≤ 2147483648) (hS : MulS a b n k x y out) (hk : k < 32) (hy : y % 2 = 0) : MulS a b n (k + 1) (inI (x + x) n) (y / 2) out := by
  have h1 := inI_bd (v := x + x) h
  refine ⟨h1.1, h1.2, by have := hS.y0; omega, ?_, hS.o0, hS.on, ?_⟩
  · have h3 := hS.y1
    rw [show 32 - k = (32 - (k + 1)) + 1 by omega, Int.pow_succ] at h3
    omega
  · rw [inI_ok h]
    exact mul_even hy hS.eq
theorem MulS.done {a b n : Int} {x y out : Int} (h : 1 ≤ n ∧ n ≤ 2147483648) (hS : MulS a b n 32 x y out) : out = mulI a b n := by
  have h1 := hS.y1
  have h0 := hS.y0
  have hy : y = 0 := by
    simp at h1
    omega
  have h2 := hS.eq
  rw [hy, Int.mul_zero, Int.add_zero, Int.emod_eq_of_lt hS.o0 hS.on] at h2
  unfold mulI
  rw [inI_ok h]
  exact h2
/-! ### numbers that stop -/
/-- The greatest number. -/
def top : Int := 4611686018427387904
/-- A number, brought to 0 to the greatest. -/
def at0 (v : Int) : Int := if v < 0 then 0 else if v > top then top else v
theorem at0_bd (v : Int) : 0 ≤ at0 v ∧ at0 v ≤ top := by
  unfold at0 top
  split
  · omega
  · split <;> omega
theorem at0_id {v : Int} (h0 : 0 ≤ v) (h1 : v ≤ top) : at0 v = v := by
  unfold at0
  rw [if_neg (by omega), if_neg (by omega)]
theorem at0_mono {a b : Int} (h : a ≤ b) : at0 a ≤ at0 b := by
  unfold at0 top
  split <;> split <;> (try split) <;> (try split) <;> omega
/-- What is more than the greatest is the greatest. -/
def stop (v : Int) : Int := if v > top then top else v
theorem stop_mono {a b : Int} (h : a ≤ b) : stop a ≤ stop b := by
  unfold stop top
  split <;> split <;> omega
theorem stop_bd {v : Int} (h : 0 ≤ v) : 0 ≤ stop v ∧ stop v ≤ top := by
  unfold stop top
  split <;> omega
theorem at0_stop {v : Int} (h : 0 ≤ v) : at0 (stop v) = stop v := at0_id (stop_bd h).1 (stop_bd h).2
def plusI (a b : Int) : Int := stop (at0 a + at0 b)
def timesI (a b : Int) : Int := stop (at0 a * at0 b)
theorem plus_bd (a b : Int) : 0 ≤ plusI a b ∧ plusI a b ≤ top := stop_bd (by have := at0_bd a; have := at0_bd b; omega)
theorem times_nn (a b : Int) : 0 ≤ at0 a * at0 b := Int.mul_nonneg (at0_bd a).1 (at0_bd b).1
theorem times_bd (a b : Int) : 0 ≤ timesI a b ∧ timesI a b ≤ top := stop_bd (times_nn a b)
theorem plus_comm' (a b : Int) : plusI a b = plusI b a := by unfold plusI; rw [Int.add_comm]
theorem times_comm' (a b : Int) : timesI a b = timesI b a := by unfold timesI; rw [Int.mul_comm]
theorem plus_mono {a b c : Int} (h : b ≤ c) : plusI a b ≤ plusI a c := stop_mono (by have := at0_mono h; omega)
theorem times_mono {a b c : Int} (h : b ≤ c) : timesI a b ≤ timesI a c := stop_mono (Int.mul_le_mul_of_nonneg_left (at0_mono h) (at0_bd a).1)
theorem stop_add {x y : Int} (hx : 0 ≤ x) (hy : 0 ≤ y) : stop (stop x + y) = stop (x + y) := by
  unfold stop top
  split <;> split <;> (try split) <;> omega
theorem stop_mul {x y : Int} (hx : 0 ≤ x) (hy : 0 ≤ y) : stop (stop x * y) = stop (x * y) := by
  by_cases h : x > top
  · have e : stop x = top := by unfold stop; rw [if_pos h]
    rw [e]
    by_cases h0 : y = 0
    · subst h0
      rw [Int.mul_zero, Int.mul_zero]
    · have h1 : top ≤ top * y := by
        have := Int.mul_le_mul_of_nonneg_left (show (1 : Int) ≤ y by omega) (show 0 ≤ top by decide)
        omega
      have h2 : top * y ≤ x * y := Int.mul_le_mul_of_nonneg_right (by omega) hy
      unfold stop
      by_cases h3 : top * y > top
      · rw [if_pos h3, if_pos (by omega)]
      · have h4 : top * y = top := by omega
        rw [h4, if_neg (by omega)]
        by_cases h5 : x * y > top
        · rw [if_pos h5]
        · rw [if_neg h5]
          omega
  · have e : stop x = x := by unfold stop; rw [if_neg h]
    rw [e]
theorem plus_assoc' (a b c : Int) : plusI (plusI a b) c = plusI a (plusI b c) := by
  have ha := at0_bd a
  have hb := at0_bd b
  have hc := at0_bd c
  unfold plusI
  rw [at0_stop (by omega), at0_stop (by omega), stop_add (by omega) (by omega), Int.add_comm (at0 a) (stop _), stop_add (by omega) (by omega)]
  congr 1
  omega
theorem times_assoc' (a b c : Int) : timesI (timesI a b) c = timesI a (timesI b c) := by
  unfold timesI
  rw [at0_stop (times_nn a b), at0_stop (times_nn b c), stop_mul (times_nn a b) (at0_bd c).1, Int.mul_comm (at0 a) (stop _), stop_mul (times_nn b c) (at0_bd a).1]
  congr 1
  rw [Int.mul_assoc, Int.mul_comm]
/-- Power. -/
def powI (a k : Int) : Int := stop (at0 a ^ k.toNat)
theorem pow_nn (x : Int) (k : Nat) (h : 0 ≤ x) : 0 ≤ x ^ k := Int.pow_nonneg h
theorem powI_bd (a k : Int) : 0 ≤ powI a k ∧ powI a k ≤ top := stop_bd (pow_nn _ _ (at0_bd a).1)
theorem powI_zero (a k : Int) (h : k ≤ 0) : powI a k = 1 := by
  unfold powI
  rw [show k.toNat = 0 by omega, Int.pow_zero]
  decide
theorem powI_succ (a : Int) (n : Nat) : powI a ((n : Int) + 1) = timesI (powI a (n : Nat)) a := by
  unfold powI timesI
  have h := pow_nn (at0 a) n (at0_bd a).1
  rw [show ((n : Int) + 1).toNat = n + 1 by omega, show ((n : Nat) : Int).toNat = n by omega, at0_stop h, stop_mul h (at0_bd a).1, Int.pow_succ]
theorem pow_one_le {x : Int} (h : 1 ≤ x) : ∀ k : Nat, 1 ≤ x ^ k
  | 0 => by simp
  | k + 1 => by
    rw [Int.pow_succ]
    have h1 := pow_one_le h k
    have := Int.mul_le_mul_of_nonneg_left h (show (0 : Int) ≤ x ^ k by omega)
    omega
theorem pow_mono {x : Int} (h : 1 ≤ x) {i k : Nat} (hik : i ≤ k) : x ^ i ≤ x ^ k := by
  obtain ⟨d, rfl⟩ := Nat.exists_eq_add_of_le hik
  rw [Int.pow_add]
  have h1 := pow_one_le h d
  have h2 := pow_one_le h i
  have := Int.mul_le_mul_of_nonneg_left h1 (show (0 : Int) ≤ x ^ i by omega)
  omega
/-- Once it has stopped it stays so. -/
theorem stop_pow {x : Int} (h : 1 ≤ x) {i k : Nat} (hik : i ≤ k) (hs : stop (x ^ i) = top) : stop (x ^ k) = top := by
  have h1 := pow_mono h hik
  have h2 := stop_mono h1
  have h3 := (stop_bd (v := x ^ k) (by have := pow_one_le h k; omega)).2
  omega
/-- What a round of Power leaves. -/
structure PowS (x : Int) (k : Int) (i : Nat) (out : Int) : Prop where
  le : (i : Int) ≤ k
  eq : out = stop (x ^ i)
theorem PowS.start (x k : Int) (h : 0 ≤ k) : PowS x k 0 1 := ⟨by omega, by rw [Int.pow_zero]; decide⟩
theorem PowS.step {x k : Int} {i : Nat} {out : Int} (h : PowS x k i out) (hx : 0 ≤ x) (hxt : x ≤ top) (hi : (i : Int) < k) : PowS x k (i + 1) (timesI out x) := by
  have hp := pow_nn x i hx
  refine ⟨by omega, ?_⟩
  rw [h.eq]
  unfold timesI
  rw [at0_stop hp, at0_id hx hxt, stop_mul hp hx, Int.pow_succ]
theorem PowS.done {x k : Int} {i : Nat} {out : Int} (h : PowS x k i out) (hx : 1 ≤ x) (hxt : x ≤ top) (he : ¬ ((i : Int) < k ∧ out < top)) : out = powI x k := by
  unfold powI
  rw [at0_id (by omega) hxt, h.eq]
  by_cases hik : (i : Int) = k
  · rw [show k.toNat = i by omega]
  · have h1 := h.le
    have h2 := stop_bd (v := x ^ i) (pow_nn x i (by omega))
    have h3 : stop (x ^ i) = top := by
      have := h.eq
      omega
    rw [h3, stop_pow hx (i := i) (by omega) h3]
theorem pow_small (a : Int) (k : Int) (h0 : 0 ≤ a) (h1 : a < 2) (hk : 0 < k) : powI a k = a := by
  obtain ⟨n, hn⟩ : ∃ n : Nat, k.toNat = n + 1 := ⟨k.toNat - 1, by omega⟩
  unfold powI
  rw [at0_id h0 (by unfold top; omega), hn]
  rcases (show a = 0 ∨ a = 1 by omega) with rfl | rfl
  · rw [Int.pow_succ, Int.mul_zero]
    decide
  · rw [Int.one_pow]
    decide
/-! ### the power by squares -/
theorem stop_stop {x : Int} (hx : 0 ≤ x) : stop (stop x) = stop x := by
  unfold stop top
  split <;> (try split) <;> omega
theorem stop_mul_r {x y : Int} (hx : 0 ≤ x) (hy : 0 ≤ y) : stop (x * stop y) = stop (x * y) := by
  rw [Int.mul_comm x (stop y), stop_mul hy hx, Int.mul_comm y x]
theorem stop_pow_in {x y : Int} (hx : 0 ≤ x) (hy : 0 ≤ y) : ∀ n : Nat, stop (x * stop y ^ n) = stop (x * y ^ n)
  | 0 => by rw [Int.pow_zero, Int.pow_zero]
  | n + 1 => by
    have h1 := stop_pow_in hx hy n
    have hs := (stop_bd hy).1
    have p1 : 0 ≤ x * stop y ^ n := Int.mul_nonneg hx (pow_nn _ _ hs)
    have p2 : 0 ≤ x * y ^ n := Int.mul_nonneg hx (pow_nn _ _ hy)
    rw [Int.pow_succ, Int.pow_succ, ← Int.mul_assoc, ← Int.mul_assoc, ← stop_mul p1 hs, h1, stop_mul p2 hs, stop_mul_r p2 hy]
theorem pow_sq (a : Int) (n : Nat) : (a * a) ^ n = a ^ (2 * n) := by
  rw [Int.pow_mul, Int.pow_succ, Int.pow_succ, Int.pow_zero, Int.one_mul]
/-- What a round of the power by squares leaves: c is what is asked. -/
structure SqS (c p a : Int) (k : Int) : Prop where
  p0 : 0 ≤ p
  pt : p ≤ top
  a0 : 0 ≤ a
  at' : a ≤ top
  k0 : 0 ≤ k
  eq : stop (p * a ^ k.toNat) = c
theorem SqS.start {a k : Int} (h0 : 0 ≤ a) (h1 : a ≤ top) (hk : 0 ≤ k) : SqS (stop (a ^ k.toNat)) 1 a k := ⟨by omega, by decide, h0, h1, hk, by rw [Int.one_mul]⟩
theorem SqS.odd {c p a k : Int} (h : SqS c p a k) (hk : k % 2 = 1) : SqS c (stop (p * a)) (stop (a * a)) (k / 2) := by
  have h1 := Int.mul_nonneg h.p0 h.a0
  have h2 := Int.mul_nonneg h.a0 h.a0
  have hk0 := h.k0
  refine ⟨(stop_bd h1).1, (stop_bd h1).2, (stop_bd h2).1, (stop_bd h2).2, by omega, ?_⟩
  rw [stop_pow_in (stop_bd h1).1 h2, stop_mul h1 (pow_nn _ _ h2), pow_sq, ← h.eq, show k.toNat = 2 * (k / 2).toNat + 1 by omega, Int.pow_succ, Int.mul_assoc, Int.mul_comm a]
theorem SqS.even {c p a k : Int} (h : SqS c p a k) (hk : k % 2 = 0) : SqS c p (stop (a * a)) (k / 2) := by
  have h2 := Int.mul_nonneg h.a0 h.a0
  have hk0 := h.k0
  refine ⟨h.p0, h.pt, (stop_bd h2).1, (stop_bd h2).2, by omega, ?_⟩
  rw [stop_pow_in h.p0 h2, pow_sq, ← h.eq, show k.toNat = 2 * (k / 2).toNat by omega]
theorem SqS.done {c p a k : Int} (h : SqS c p a k) (hk : k ≤ 0) : p = c := by
  have h1 := h.eq
  have h0 := h.p0
  have ht := h.pt
  rw [show k.toNat = 0 by omega, Int.pow_zero, Int.mul_one] at h1
  rw [← h1]
  unfold stop
  rw [if_neg (by omega)]
/-- A great power of what is not small has stopped: holding the power itself does no harm. -/
theorem two_pow_le (x : Int) (h : 2 ≤ x) : ∀ n : Nat, (2 : Int) ^ n ≤ x ^ n
  | 0 => by rw [Int.pow_zero, Int.pow_zero]; omega
  | n + 1 => by
    have h1 := two_pow_le x h n
    have h2 : (0 : Int) ≤ 2 ^ n := pow_nn 2 n (by omega)
    rw [Int.pow_succ, Int.pow_succ]
    have h3 := Int.mul_le_mul_of_nonneg_left h (show (0 : Int) ≤ x ^ n by omega)
    omega
theorem pow_held (a k : Int) : stop (at0 a ^ (at0 k).toNat) = powI a k := by
  unfold powI
  have ha := at0_bd a
  by_cases hk : k ≤ top
  · by_cases h0 : 0 ≤ k
    · rw [at0_id h0 hk]
    · have e : at0 k = 0 := by unfold at0; rw [if_pos (by omega)]
      rw [e, show k.toNat = 0 by omega, show (0 : Int).toNat = 0 from rfl]
  · have e : at0 k = top := by
      unfold at0
      unfold top at hk ⊢
      rw [if_neg (by omega), if_pos (by omega)]
    have ht : (1 : Int) ≤ top := by decide
    rw [e]
    generalize hx : at0 a = x at ha ⊢
    by_cases h2 : 2 ≤ x
    · have h62 : stop (x ^ 62) = top := by
        have h1 := two_pow_le x h2 62
        have h3 : stop ((2 : Int) ^ 62) = top := by decide
        have h4 := stop_mono h1
        have h5 := (stop_bd (v := x ^ 62) (pow_nn x 62 (by omega))).2
        omega
      have g : 62 ≤ top.toNat := by decide
      rw [stop_pow (x := x) (i := 62) (by omega) g h62, stop_pow (x := x) (i := 62) (by omega) (by unfold top at hk; omega) h62]
    · obtain ⟨m, hm⟩ : ∃ m : Nat, top.toNat = m + 1 := ⟨top.toNat - 1, by omega⟩
      obtain ⟨m', hm'⟩ : ∃ m : Nat, k.toNat = m + 1 := ⟨k.toNat - 1, by omega⟩
      rw [hm, hm']
      rcases (show x = 0 ∨ x = 1 by omega) with rfl | rfl
      · rw [Int.pow_succ, Int.pow_succ, Int.mul_zero, Int.mul_zero]
      · rw [Int.one_pow, Int.one_pow]
/-- Whether a product is more than the greatest, by dividing. -/
theorem div_gt {a b : Int} (hb : 0 < b) : top / b < a ↔ top < a * b := Int.ediv_lt_iff_lt_mul hb
theorem stop_more {v : Int} (h : top < v) : stop v = top := by unfold stop; rw [if_pos h]
theorem stop_less {v : Int} (h : v ≤ top) : stop v = v := by unfold stop; rw [if_neg (by omega)]
theorem powI_step (a m : Int) (h : 0 ≤ m) : timesI (powI a m) a = powI a (m + 1) := by
  have := powI_succ a m.toNat
  rw [show ((m.toNat : Nat) : Int) = m by omega] at this
  exact this.symm
theorem two_small (m : Int) (h0 : 0 ≤ m) (h1 : m < 62) : powI 2 m = 2 ^ m.toNat ∧ (0 : Int) ≤ 2 ^ m.toNat ∧ (2 : Int) ^ m.toNat ≤ top := by
  have h2 : (2 : Int) ^ m.toNat ≤ 2 ^ 62 := pow_mono (by omega) (by omega)
  have h3 : (2 : Int) ^ 62 = top := by decide
  have h4 : at0 2 = 2 := by decide
  refine ⟨?_, pow_nn _ _ (by omega), by omega⟩
  unfold powI
  rw [h4, stop_less (by omega)]
theorem two_great (m : Int) (h : 62 ≤ m) : powI 2 m = top := by
  unfold powI
  rw [show at0 2 = 2 by decide]
  exact stop_pow (x := 2) (i := 62) (by omega) (by omega) (by decide)
end Go.Proofs.YtchokfgffnomoaaDoor.V
