/-
  What the statements' own pop of layer 4 answers, as a contract: the place of what comes out next, or -1.
-/
import Derived.Test.YtjboapelelcieaaWMany
namespace Go.Proofs.Ytjboapelelcieaa.Wk
open Go.RowKit
set_option linter.unusedVariables false
set_option linter.unusedSimpArgs false
/-- Of the first i the b-th comes out next. -/
def BestTo (m : List Th) (i b : Nat) : Prop := b < i ∧ ∀ j, j < i → lt (tat m j) (tat m b) = false
theorem BestTo.one (m : List Th) : BestTo m 1 0 := ⟨by omega, fun j hj => by
  obtain rfl : j = 0 := by omega
  exact lt_irr _⟩
theorem BestTo.new {m : List Th} {i b : Nat} (h : BestTo m i b) (hl : lt (tat m i) (tat m b) = true) : BestTo m (i + 1) i := by
  refine ⟨by omega, fun j hj => ?_⟩
  by_cases hji : j = i
  · subst hji
    exact lt_irr _
  · have h1 := h.2 j (by omega)
    rw [Bool.eq_false_iff]
    intro hc
    rw [lt_ord.trans _ _ _ hc hl] at h1
    cases h1
theorem BestTo.old {m : List Th} {i b : Nat} (h : BestTo m i b) (hl : lt (tat m i) (tat m b) = false) : BestTo m (i + 1) b := by
  refine ⟨by have := h.1; omega, fun j hj => ?_⟩
  by_cases hji : j = i
  · subst hji
    exact hl
  · exact h.2 j (by omega)
/-- What pop answers. -/
def popAns (m : List Th) (v : Value) : Prop := (m = [] ∧ v = .int .i64 (-1)) ∨ ∃ b : Nat, Best m b ∧ v = .int .i64 (b : Nat)
def LPopped (m : List Th) (w : World) (e : Ending) (w' : World) : Prop := ∃ v, e = .returned v ∧ popAns m v ∧ ∃ n, w' = w.drewN n
def LPopR (m : List Th) (w0 : World) (best i : Value) (w : World) : Prop :=
  ∃ j : Nat, j ≤ m.length ∧ i = .int .i64 (j : Nat) ∧ ((j = 0 ∧ best = .int .i64 (-1)) ∨ ∃ b : Nat, BestTo m j b ∧ best = .int .i64 (b : Nat)) ∧ ∃ n, w = w0.drewN n
set_option maxHeartbeats 2000000 in
theorem lpop_any (base : Nat) (m : List Th) (v : Value) (w : World) (h : w.ownsRow base 28 3 v m.length (flat m)) (hm : m.length ≤ 1000000000) :
    Calls Try.prog 10 #[v] w (LPopped m w) := by
  obtain ⟨a, c, rfl⟩ := slice_of_own h
  have H0 := Lib.hid h
  clear h
  go_enter Try.func10, Try.ntmps10
  go_wp2
  go_loopw [3, 4] (fun b i wr => LPopR m w b i wr) (fun _ i _ => m.length - (intOf i).toNat)
  case atStart => exact ⟨0, Nat.zero_le _, rfl, .inl ⟨rfl, rfl⟩, 0, rfl⟩
  case round =>
    obtain ⟨j, hj, rfl, hbest, n0, rfl⟩ := hrel
    by_cases hjl : j < m.length
    · obtain ⟨g, cap, cur, hv, hbg, hR⟩ := row_of_own H0.out (by omega)
      cases hv
      obtain ⟨x0, x1, x2⟩ := hR.cells j hjl
      rcases hbest with ⟨rfl, rfl⟩ | ⟨b, hb, rfl⟩
      · clear hR x0 x1 x2
        go_wp2
        go_quiet (fail)
        go_wp2
        go_roundw
        case rel => exact ⟨1, by omega, rfl, .inr ⟨0, BestTo.one m, rfl⟩, _, rfl⟩
        case measure => simp [intOf]; omega
      · have hbj := hb.1
        obtain ⟨y0, y1, y2⟩ := hR.cells b (by omega)
        have HNEW := Lib.hid hb.new
        have HOLD := Lib.hid hb.old
        have HK := Lib.hid (@lt_key (tat m j) (tat m b))
        have HT := Lib.hid (@lt_turn (tat m j) (tat m b))
        have g0 : decide ((b : Int) < 0) = false := by simp
        clear hR x0 y0 hb
        generalize tat m j = x at *
        generalize tat m b = y at *
        obtain ⟨xn, xk, xt⟩ := x
        obtain ⟨yn, yk, yt⟩ := y
        simp only at *
        by_cases hk : xk = yk
        · have hl := HT.out hk
          have g1 : decide (xk < yk) = false := by simp; omega
          have g2 : (xk == yk) = true := by simpa using hk
          by_cases ht : xt < yt
          · have g3 : decide (xt < yt) = true := by simpa using ht
            rw [g3] at hl
            have HN := Lib.hid (HNEW.out hl)
            clear hl hk ht
            go_wp2
            go_quiet (fail)
            go_wp2
            go_roundw
            case rel => exact ⟨j + 1, by omega, by go_num, .inr ⟨j, HN.out, rfl⟩, _, rfl⟩
            case measure => simp [intOf]; omega
          · have g3 : decide (xt < yt) = false := by simpa using ht
            rw [g3] at hl
            have HN := Lib.hid (HOLD.out hl)
            clear hl hk ht
            go_wp2
            go_quiet (fail)
            go_wp2
            go_roundw
            case rel => exact ⟨j + 1, by omega, by go_num, .inr ⟨b, HN.out, rfl⟩, _, rfl⟩
            case measure => simp [intOf]; omega
        · have hl := HK.out hk
          have g2 : (xk == yk) = false := by simpa using hk
          by_cases ht : xk < yk
          · have g3 : decide (xk < yk) = true := by simpa using ht
            rw [g3] at hl
            have HN := Lib.hid (HNEW.out hl)
            clear hl hk ht
            go_wp2
            go_quiet (fail)
            go_wp2
            go_roundw
            case rel => exact ⟨j + 1, by omega, by go_num, .inr ⟨j, HN.out, rfl⟩, _, rfl⟩
            case measure => simp [intOf]; omega
          · have g3 : decide (xk < yk) = false := by simpa using ht
            rw [g3] at hl
            have HN := Lib.hid (HOLD.out hl)
            clear hl hk ht
            go_wp2
            go_quiet (fail)
            go_wp2
            go_roundw
            case rel => exact ⟨j + 1, by omega, by go_num, .inr ⟨b, HN.out, rfl⟩, _, rfl⟩
            case measure => simp [intOf]; omega
    · obtain rfl : j = m.length := by omega
      rcases hbest with ⟨h0, rfl⟩ | ⟨b, hb, rfl⟩
      · have HM : Hid (m = []) := show m = [] from List.eq_nil_of_length_eq_zero h0
        clear h0
        go_wp2
        go_ret
        exact ⟨_, rfl, .inl ⟨HM.out, rfl⟩, _, rfl⟩
      · have HB : Hid (Best m b) := hb
        clear hb
        go_wp2
        go_ret
        exact ⟨_, rfl, .inr ⟨b, HB.out, rfl⟩, _, rfl⟩
end Go.Proofs.Ytjboapelelcieaa.Wk
