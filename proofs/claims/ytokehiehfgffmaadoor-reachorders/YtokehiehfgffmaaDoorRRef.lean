/-
  What the reference's functions on relations answer, as contracts: the same lists of rows as those of package rel.
-/
import Derived.Test.YtokehiehfgffmaaDoorRSame
import Derived.Test.YtokehiehfgffmaaDoorRBack
namespace Go.Proofs.YtokehiehfgffmaaDoor
open Go.RowKit
set_option linter.unusedVariables false
set_option linter.unusedSimpArgs false

theorem quiet_of {P : Program} {f : Nat} {args : Array Value} {w : World} {v : Value} (h : Calls P f args w fun e w' => e = .returned v ∧ w = w') : Calls P f args w fun e w' => e = .returned v ∧ w' = w := h.mono fun _ _ ⟨a, b⟩ => ⟨a, b.symm⟩
/-- What a round of the reference's May leaves. -/
def RMayR (xs : List Nat) (a : Option Addr) (w : World) (k : Value) (wr : World) : Prop :=
  ∃ j : Nat, j ≤ xs.length ∧ k = .int .i64 j ∧ (∀ i, i < j → M.withinB (R.row xs i) (R.things xs.length) = true) ∧ IsWords wr a xs.length xs ∧ Below w.heap.size w wr
set_option maxHeartbeats 800000 in
theorem rmay_small (a : Option Addr) (cap : Nat) (xs : List Nat) (w : World) (hx : IsWords w a xs.length xs) (hl : xs.length ≤ 64) :
    Calls Tryd.prog 27 #[.slice a xs.length cap] w (Ans (.bool (R.mayR xs)) w) := by
  have hw := hx.2.2.1
  go_enter Tryd.func27, Tryd.ntmps27
  go_wp2
  go_loopw [3] (fun k wr => RMayR xs a w k wr) (fun k _ => xs.length - (intOf k).toNat)
  case atStart => exact ⟨0, Nat.zero_le _, rfl, fun i hi => absurd hi (by omega), hx, Below.refl _ _⟩
  case round =>
    obtain ⟨j, hj, rfl, hall, hxr, hb⟩ := hrel
    have HA := Lib.hid hall
    clear hall
    by_cases hjl : j < xs.length
    · obtain ⟨b, off, rfl, hc⟩ := hxr.at (by omega)
      have c0 := hc j hjl
      have hwj := hw j
      have C1 : ∀ nq, Calls Tryd.prog 56 #[.int .i64 0, .int .i64 (xs.length : Nat)] (wr.drewN nq) fun e w' => e = .returned (.int .u64 (R.things xs.length : Nat)) ∧ w' = wr.drewN nq := fun nq => quiet_of (rrange_any 0 (xs.length : Nat) _)
      have C2 : ∀ nq, Calls Tryd.prog 38 #[.int .u64 (R.row xs j : Nat), .int .u64 (R.things xs.length : Nat)] (wr.drewN nq) fun e w' => e = .returned (.bool (M.withinB (R.row xs j) (R.things xs.length))) ∧ w' = wr.drewN nq := fun nq => quiet_of (rwithin_any _ _ _ hwj (R.things_lt _))
      have D1 := Lib.hid C1
      have i1 : (0 : Int) ≤ (j : Int) := by omega
      have i2 : (j : Int) < (xs.length : Int) := by omega
      have HXR := Lib.hid hxr
      clear C1 hc hxr
      cases hm : M.withinB (R.row xs j) (R.things xs.length)
      · have HN : Hid (R.mayR xs = false) := show R.mayR xs = false by
          simp only [R.mayR, Bool.and_eq_false_iff, List.all_eq_false]
          exact .inr ⟨R.row xs j, R.row_mem hjl, by rw [hm]; decide⟩
        rw [hm] at C2
        have D2 := Lib.hid C2
        clear C2 hm
        go_wp2_with fail
        go_quiet (first | (go_at_call 56; exact Calls.quiet_of_same (D1.out _)) | (go_at_call 38; exact Calls.quiet_of_same (D2.out _)))
        go_wp2
        go_ret
        exact ⟨ret_bool HN.out.symm, below_drewN hb _⟩
      · have hnext : ∀ i, i < j + 1 → M.withinB (R.row xs i) (R.things xs.length) = true := fun i hi => by
          rcases Nat.lt_or_ge i j with h | h
          · exact HA.out i h
          · obtain rfl : i = j := by omega
            exact hm
        have HNX := Lib.hid hnext
        rw [hm] at C2
        have D2 := Lib.hid C2
        clear C2 hm hnext
        go_wp2_with fail
        go_quiet (first | (go_at_call 56; exact Calls.quiet_of_same (D1.out _)) | (go_at_call 38; exact Calls.quiet_of_same (D2.out _)))
        go_wp2
        go_roundw
        case rel => exact ⟨j + 1, by omega, by go_num, HNX.out, HXR.out.drewN _, below_drewN hb _⟩
        case measure => simp [intOf]; omega
    · obtain rfl : j = xs.length := by omega
      have HN : Hid (R.mayR xs = true) := show R.mayR xs = true by
        simp only [R.mayR, Bool.and_eq_true, decide_eq_true_eq, List.all_eq_true]
        refine ⟨hl, fun r hr => ?_⟩
        obtain ⟨i, hi, rfl⟩ := List.getElem_of_mem hr
        have := HA.out i hi
        simpa [R.row, List.getD, hi] using this
      go_wp2
      go_ret
      exact ⟨ret_bool HN.out.symm, hb⟩
set_option maxHeartbeats 400000 in
theorem rmay_big (a : Option Addr) (len cap : Nat) (w : World) (hl : 64 < len) (hm : len ≤ 4611686018427387904) :
    Calls Tryd.prog 27 #[.slice a len cap] w fun e w' => e = .returned (.bool false) ∧ w = w' := by
  go_enter Tryd.func27, Tryd.ntmps27
  go_wp2
  go_ret
  exact ⟨rfl, rfl⟩
theorem rmay_any (a : Option Addr) (len cap : Nat) (xs : List Nat) (w : World) (hx : IsWords w a len xs) :
    Calls Tryd.prog 27 #[.slice a len cap] w (Ans (.bool (R.mayR xs)) w) := by
  obtain rfl : xs.length = len := hx.1
  by_cases h : xs.length ≤ 64
  · exact rmay_small a cap xs w hx h
  · refine (rmay_big a xs.length cap w (by omega) hx.2.1).mono ?_
    rintro e w' ⟨rfl, rfl⟩
    have : R.mayR xs = false := by
      simp [R.mayR]
      omega
    exact ⟨by rw [this], Below.refl _ _⟩
set_option maxHeartbeats 400000 in
theorem at_any (a : Option Addr) (len cap x y : Nat) (xs : List Nat) (w : World) (hx : IsWords w a len xs) (hl : x < len) (hl64 : len ≤ 64) :
    Calls Tryd.prog 22 #[.slice a len cap, .int .i64 (x : Nat), .int .i64 (y : Nat)] w fun e w' => e = .returned (.bool ((R.row xs x).testBit y)) ∧ w = w' := by
  obtain ⟨b, off, rfl, hc⟩ := hx.at (by omega)
  have c0 := hc x hl
  have hw := hx.2.2.1 x
  have H := Lib.hid (M.hasB_nat (R.row xs x) y hw)
  have i1 : (0 : Int) ≤ (x : Int) := by omega
  have i2 : (x : Int) < (len : Int) := by omega
  clear hc hx
  go_enter Tryd.func22, Tryd.ntmps22
  go_wp2_with (go_at_call 21; refine (rhas_any _ _ _ hw).mono ?_; rintro e w' ⟨rfl, rfl⟩)
  go_ret
  exact ⟨ret_bool H.out, rfl⟩

/-- Rows by their bits. -/
def Bits (n : Nat) (ms : List Nat) (P : Nat → Nat → Prop) : Prop := ms.length = n ∧ R.Words ms ∧ ∀ i j, i < n → j < 64 → ((R.row ms i).testBit j = true ↔ P i j)
theorem Bits.zero (n : Nat) {P : Nat → Nat → Prop} (h : ∀ i j, ¬ P i j) : Bits n (List.replicate n 0) P := by
  refine ⟨by simp, R.words_of fun x hx => by rw [List.eq_of_mem_replicate hx]; decide, fun i j hi hj => ?_⟩
  have : R.row (List.replicate n 0) i = 0 := by simp [R.row, List.getD, hi]
  rw [this]
  simp [h i j]
theorem Bits.hit {n : Nat} {ms : List Nat} {P Q : Nat → Nat → Prop} (h : Bits n ms P) (r k : Nat) (hr : r < n) (hQ : ∀ i j, i < n → j < 64 → (Q i j ↔ P i j ∨ (i = r ∧ j = k))) : Bits n (ms.set r (M.putN (R.row ms r) (k : Int))) Q := by
  obtain ⟨hl, hw, hb⟩ := h
  refine ⟨by simp [hl], fun i => ?_, fun i j hi hj => ?_⟩
  · rw [set_row _ _ _ _ (by omega)]
    split
    · exact M.putN_lt _ _ (hw r)
    · exact hw i
  · rw [set_row _ _ _ _ (by omega), hQ i j hi hj]
    by_cases e : r = i
    · subst e
      rw [if_pos rfl, M.putN_testBit _ _ _ hj]
      simp only [Bool.or_eq_true, decide_eq_true_eq, hb r j hr hj, true_and]
      constructor
      · rintro (h | h)
        · exact .inl h
        · exact .inr (by omega)
      · rintro (h | h)
        · exact .inl h
        · exact .inr (by omega)
    · rw [if_neg e, hb i j hi hj]
      constructor
      · exact fun h => .inl h
      · rintro (h | h)
        · exact h
        · exact absurd h.1.symm e
theorem Bits.miss {n : Nat} {ms : List Nat} {P Q : Nat → Nat → Prop} (h : Bits n ms P) (hQ : ∀ i j, i < n → j < 64 → (Q i j ↔ P i j)) : Bits n ms Q :=
  ⟨h.1, h.2.1, fun i j hi hj => (h.2.2 i j hi hj).trans (hQ i j hi hj).symm⟩
theorem Bits.eq {n : Nat} {ms ns : List Nat} {P : Nat → Nat → Prop} (h : Bits n ms P) (h' : Bits n ns P) : ms = ns := by
  apply R.rows_ext (by rw [h.1, h'.1])
  intro i hi
  refine M.ext _ _ (h.2.1 i) (h'.2.1 i) fun j hj => ?_
  rw [Bool.eq_iff_iff]
  rw [h.1] at hi
  exact (h.2.2 i j hi hj).trans (h'.2.2 i j hi hj).symm
theorem Bits.tab {n : Nat} {f : Nat → Nat} {P : Nat → Nat → Prop} (hw : ∀ i, i < n → f i < 2 ^ 64) (h : ∀ i j, i < n → j < 64 → ((f i).testBit j = true ↔ P i j)) : Bits n (R.tab n f) P :=
  ⟨R.tab_len _ _, R.tab_words hw, fun i j hi hj => by rw [R.tab_row, if_pos hi]; exact h i j hi hj⟩
/-- What is there while the reference fills rows. -/
def RFil (w0 : World) (g n : Nat) (P : Nat → Nat → Prop) (w : World) : Prop :=
  ∃ ms, Blk w g 23 (words ms) ∧ Bits n ms P ∧ Below w0.heap.size w0 w ∧ w0.heap.size ≤ g
theorem RFil.miss {w0 w : World} {g n : Nat} {P Q : Nat → Nat → Prop} (h : RFil w0 g n P w) (hQ : ∀ i j, i < n → j < 64 → (Q i j ↔ P i j)) : RFil w0 g n Q w := by
  obtain ⟨ms, h1, h2, h3, h4⟩ := h
  exact ⟨ms, h1, h2.miss hQ, h3, h4⟩
theorem RFil.hit {w0 w : World} {g n : Nat} {P Q : Nat → Nat → Prop} {ms : List Nat} (h1 : Blk w g 23 (words ms)) (h2 : Bits n ms P) (h3 : Below w0.heap.size w0 w) (h4 : w0.heap.size ≤ g) (r k : Nat) (hr : r < n) (hQ : ∀ i j, i < n → j < 64 → (Q i j ↔ P i j ∨ (i = r ∧ j = k))) :
    RFil w0 g n Q (w.setCell ⟨g, r, none⟩ (.int .u64 (M.putN (R.row ms r) (k : Int) : Nat))) := by
  refine ⟨_, ?_, h2.hit r k hr hQ, h3.setCell h4 _, h4⟩
  have := h1.set r (.int .u64 (M.putN (R.row ms r) (k : Int) : Nat))
  rw [words_set] at this
  exact this
theorem RFil.gives {w0 w : World} {g n : Nat} {P : Nat → Nat → Prop} {xs : List Nat} (h : RFil w0 g n P w) (hx : Bits n xs P) (hn : n ≤ 64) : Gives xs w0 (.returned (.slice (some ⟨g, 0, none⟩) n n)) w := by
  obtain ⟨ms, h1, h2, h3, h4⟩ := h
  obtain rfl := h2.eq hx
  have hl := h2.1
  exact ⟨some ⟨g, 0, none⟩, n, by rw [hl], by rw [hl]; exact h1.words hl (by omega) h2.2.1, h3⟩

/-- The rows of one, pair by pair. -/
def done2 (C : Nat → Nat → Prop) (x y i j : Nat) : Prop := (i < x ∨ (i = x ∧ j < y)) ∧ C i j
/-- The other way round. -/
def done2b (C : Nat → Nat → Prop) (x y i j : Nat) : Prop := (j < x ∨ (j = x ∧ i < y)) ∧ C i j
theorem done2_hit {C : Nat → Nat → Prop} {x y : Nat} (h : C x y) (i j : Nat) : done2 C x (y + 1) i j ↔ done2 C x y i j ∨ (i = x ∧ j = y) := by
  unfold done2
  constructor
  · rintro ⟨h1, h2⟩
    by_cases e : i = x ∧ j = y
    · exact .inr e
    · exact .inl ⟨by omega, h2⟩
  · rintro (⟨h1, h2⟩ | ⟨rfl, rfl⟩)
    · exact ⟨by omega, h2⟩
    · exact ⟨by omega, h⟩
theorem done2_miss {C : Nat → Nat → Prop} {x y : Nat} (h : ¬ C x y) (i j : Nat) : done2 C x (y + 1) i j ↔ done2 C x y i j := by
  unfold done2
  constructor
  · rintro ⟨h1, h2⟩
    refine ⟨?_, h2⟩
    by_cases e : i = x ∧ j = y
    · obtain ⟨rfl, rfl⟩ := e
      exact absurd h2 h
    · omega
  · rintro ⟨h1, h2⟩
    exact ⟨by omega, h2⟩
theorem done2_next {C : Nat → Nat → Prop} {n x : Nat} (hC : ∀ i j, C i j → j < n) (i j : Nat) : done2 C (x + 1) 0 i j ↔ done2 C x n i j := by
  unfold done2
  constructor
  · rintro ⟨h1, h2⟩
    have := hC i j h2
    exact ⟨by omega, h2⟩
  · rintro ⟨h1, h2⟩
    exact ⟨by omega, h2⟩
theorem done2_all {C : Nat → Nat → Prop} {n : Nat} (i j : Nat) (hi : i < n) : C i j ↔ done2 C n 0 i j := by
  unfold done2
  constructor
  · exact fun h => ⟨by omega, h⟩
  · exact fun h => h.2
theorem done2b_hit {C : Nat → Nat → Prop} {x y : Nat} (h : C y x) (i j : Nat) : done2b C x (y + 1) i j ↔ done2b C x y i j ∨ (i = y ∧ j = x) := by
  unfold done2b
  constructor
  · rintro ⟨h1, h2⟩
    by_cases e : i = y ∧ j = x
    · exact .inr e
    · exact .inl ⟨by omega, h2⟩
  · rintro (⟨h1, h2⟩ | ⟨rfl, rfl⟩)
    · exact ⟨by omega, h2⟩
    · exact ⟨by omega, h⟩
theorem done2b_miss {C : Nat → Nat → Prop} {x y : Nat} (h : ¬ C y x) (i j : Nat) : done2b C x (y + 1) i j ↔ done2b C x y i j := by
  unfold done2b
  constructor
  · rintro ⟨h1, h2⟩
    refine ⟨?_, h2⟩
    by_cases e : i = y ∧ j = x
    · obtain ⟨rfl, rfl⟩ := e
      exact absurd h2 h
    · omega
  · rintro ⟨h1, h2⟩
    exact ⟨by omega, h2⟩
theorem done2b_next {C : Nat → Nat → Prop} {n x i j : Nat} (hi : i < n) : done2b C (x + 1) 0 i j ↔ done2b C x n i j := by
  unfold done2b
  constructor
  · rintro ⟨h1, h2⟩
    exact ⟨by omega, h2⟩
  · rintro ⟨h1, h2⟩
    exact ⟨by omega, h2⟩
theorem done2b_all {C : Nat → Nat → Prop} {n : Nat} (hC : ∀ i j, C i j → j < n) (i j : Nat) : C i j ↔ done2b C n 0 i j := by
  unfold done2b
  constructor
  · exact fun h => ⟨by have := hC i j h; omega, h⟩
  · exact fun h => h.2
end Go.Proofs.YtokehiehfgffmaaDoor
