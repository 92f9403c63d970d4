/-
  What sign of the document's answer tells, as a contract.
-/
import Derived.Test.YtlnhhfmgciaaeaaLName
namespace Go.Proofs.Ytlnhhfmgciaaeaa.Lx
open Go.RowKit
set_option linter.unusedVariables false
set_option linter.unusedSimpArgs false
/-- How many bytes the sign at the front has; 0: none. -/
def sgn (b : UInt8) (r : List UInt8) : Nat := if b == 61 then (if r.head? == some 61 then 2 else 1) else if L.signB b then 1 else 0
theorem sgn_eq {b : UInt8} (c : UInt8) (r : List UInt8) (h : (b == 61) = true) : sgn b (c :: r) = if c == 61 then 2 else 1 := by
  rw [sgn, if_pos h]
  rfl
/-- Signs of one byte but '='. -/
def ones : List UInt8 := [123, 125, 40, 41, 59, 44, 58, 60, 43, 45]
theorem sign_ones {b : UInt8} (h : (b == 61) = false) : L.signB b = ones.any (· == b) := by
  have k := L.all_bytes (fun b => b == 61 || (L.signB b == ones.any (· == b))) (by decide +kernel) b
  simp only [h, Bool.false_or, beq_iff_eq] at k
  exact k
/-- A number is told; orders may be drawn. -/
def NumTo (v : Int) (w : World) (e : Ending) (w' : World) : Prop := e = .returned (.int .i64 v) ∧ ∃ n, w' = w.drewN n
/-- So many signs are not it. -/
def SgnR (S : ByteArray) (b : UInt8) (w : World) (t : Value) (wr : World) : Prop := ∃ j : Nat, t = .int .i64 j ∧ j ≤ S.size ∧ (∀ i, i < j → (by' S)[i]? ≠ some b) ∧ ∃ n, wr = w.drewN n
theorem sgnR_more {S : ByteArray} {b : UInt8} {w : World} {j n : Nat} (hj : j < S.size) (h : ∀ i, i < j → (by' S)[i]? ≠ some b) (h' : ¬ S[j] = b) : SgnR S b w (.int .i64 ((j : Int) + 1)) (w.drewN n) := by
  refine ⟨j + 1, by go_num, by omega, ?_, n, rfl⟩
  intro i hi
  by_cases e : i = j
  · subst e
    rw [List.getElem?_eq_getElem (by rw [by_len]; exact hj)]
    intro h2
    injection h2 with h2
    exact h' h2
  · exact h i (by omega)
theorem any_at {S : ByteArray} {b : UInt8} {j : Nat} (hj : j < S.size) (h : S[j] = b) : (by' S).any (· == b) = true := by
  rw [List.any_eq_true]
  exact ⟨S[j], List.getElem_mem (l := by' S) (by rw [by_len]; exact hj), by rw [h]; simp⟩
theorem any_not {S : ByteArray} {b : UInt8} (h : ∀ i, i < S.size → (by' S)[i]? ≠ some b) : (by' S).any (· == b) = false := by
  cases ha : (by' S).any (· == b)
  · rfl
  · exfalso
    rw [List.any_eq_true] at ha
    obtain ⟨x, hx, he⟩ := ha
    obtain ⟨j, hj, rfl⟩ := List.getElem_of_mem hx
    refine h j (by rw [← by_len]; exact hj) ?_
    rw [List.getElem?_eq_getElem hj]
    simpa using he
theorem nat_beq (a b : UInt8) : (((a.toNat : Nat) : Int) == ((b.toNat : Nat) : Int)) = (a == b) := by
  rw [beq_int, Bool.eq_iff_iff]
  simp
set_option maxHeartbeats 800000 in
theorem rsign_any (s : ByteArray) (k : Nat) (w : World) (hs : s.size ≤ maxLen) (hk : k < s.size) :
    Calls Try.prog 24 #[.string s, .int .i64 (k : Nat)] w (NumTo (sgn s[k] (rest s (k + 1)) : Nat) w) := by
  unfold maxLen at hs
  cases h61 : s[k] == 61
  · have hs0 := sign_ones h61
    have hi61 : (((s[k].toNat : Nat) : Int) == 61) = false := by
      have := nat_beq s[k] 61
      rw [h61] at this
      exact this
    have HSG := Lib.hid (show sgn s[k] (rest s (k + 1)) = if ones.any (· == s[k]) then 1 else 0 by rw [sgn, h61, hs0]; rfl)
    clear hs0
    generalize hb : s[k] = b at *
    have HB := Lib.hid hb
    have hsk : (s[k].toNat : Int) = (b.toNat : Int) := by rw [hb]
    clear h61 hb
    go_enter Try.func24, Try.ntmps24
    go_wp2_with fail
    have hz1 : (bs ones).size ≤ 10 := by decide
    have hz2 : 10 ≤ (bs ones).size := by decide
    have HO := Lib.hid (show by' (bs ones) = ones from rfl)
    have HBO := Lib.hid (show bs ones = ⟨#[123, 125, 40, 41, 59, 44, 58, 60, 43, 45]⟩ from rfl)
    rw [← HBO.out]
    clear HBO
    generalize bs ones = S at *
    go_loopw [6] (fun t wr => SgnR S b w t wr) (fun t _ => 10 - (intOf t).toNat)
    case atStart => exact ⟨0, rfl, by omega, fun i hi => absurd hi (by omega), 0, rfl⟩
    case round =>
      obtain ⟨j, rfl, hj, hno, n, rfl⟩ := hrel
      have HN := Lib.hid hno
      clear hno
      by_cases hlt : j < S.size
      · have d1 : (0 : Int) ≤ (j : Int) := by omega
        have d2 : (j : Int) < (S.size : Int) := by omega
        have d3 : (0 : Int) ≤ (k : Int) := by omega
        have d4 : (k : Int) < (s.size : Int) := by omega
        by_cases hq : S[j] = b
        · have h1 : (((S[j].toNat : Nat) : Int) == ((b.toNat : Nat) : Int)) = true := by rw [hq]; simp
          have h2 : (S[j].toNat == b.toNat) = true := by rw [hq]; simp
          have HA := Lib.hid (any_at hlt hq)
          clear hq
          go_wp2_with fail
          go_quiet (fail)
          go_wp2_with fail
          go_ret
          refine ⟨ret_int ?_, _, World.drewN_drewN _ _ _⟩
          rw [HSG.out, ← HO.out, HA.out]
          rfl
        · have hq' : (S[j] == b) = false := by simpa using hq
          have h1 : (((S[j].toNat : Nat) : Int) == ((b.toNat : Nat) : Int)) = false := by rw [nat_beq]; exact hq'
          have h2 : (S[j].toNat == b.toNat) = false := by
            rw [← hq', Bool.eq_iff_iff]
            simp [UInt8.toNat_inj]
          have HM := Lib.hid (fun n => sgnR_more (w := w) (n := n) hlt HN.out hq)
          clear hq hq'
          go_wp2_with fail
          go_quiet (fail)
          go_wp2_with fail
          go_roundw
          case rel => exact HM.out _
          case measure => simp [intOf]; omega
      · have HA := Lib.hid (any_not (S := S) (b := b) (fun i hi => HN.out i (by omega)))
        go_wp2_with fail
        go_ret
        refine ⟨ret_int ?_, _, rfl⟩
        rw [HSG.out, ← HO.out, HA.out]
        rfl
  · have hi61 : (((s[k].toNat : Nat) : Int) == 61) = true := by
      have := nat_beq s[k] 61
      rw [h61] at this
      exact this
    by_cases h1 : k + 1 < s.size
    · have hr := rest_lt h1
      cases h2 : s[k + 1] == 61
      · have HSG := Lib.hid (show sgn s[k] (rest s (k + 1)) = 1 by rw [hr, sgn_eq _ _ h61, h2]; rfl)
        have hi2 : (((s[k + 1].toNat : Nat) : Int) == 61) = false := by
          have := nat_beq s[k + 1] 61
          rw [h2] at this
          exact this
        clear h61 h2 hr
        go_enter Try.func24, Try.ntmps24
        go_wp2_with fail
        all_goals first | omega | skip
        go_ret
        refine ⟨ret_int ?_, 0, rfl⟩
        rw [HSG.out]
        rfl
      · have HSG := Lib.hid (show sgn s[k] (rest s (k + 1)) = 2 by rw [hr, sgn_eq _ _ h61, h2]; rfl)
        have hi2 : (((s[k + 1].toNat : Nat) : Int) == 61) = true := by
          have := nat_beq s[k + 1] 61
          rw [h2] at this
          exact this
        clear h61 h2 hr
        go_enter Try.func24, Try.ntmps24
        go_wp2_with fail
        all_goals first | omega | skip
        go_ret
        refine ⟨ret_int ?_, 0, rfl⟩
        rw [HSG.out]
        rfl
    · have HSG := Lib.hid (show sgn s[k] (rest s (k + 1)) = 1 by rw [sgn, h61, rest_ge (by omega)]; rfl)
      clear h61
      go_enter Try.func24, Try.ntmps24
      go_wp2_with fail
      all_goals first | omega | skip
      go_ret
      refine ⟨ret_int ?_, 0, rfl⟩
      rw [HSG.out]
      rfl
end Go.Proofs.Ytlnhhfmgciaaeaa.Lx
