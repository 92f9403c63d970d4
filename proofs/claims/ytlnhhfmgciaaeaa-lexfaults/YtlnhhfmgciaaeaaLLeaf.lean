/-
  What the kinds of bytes of package lex and of the document's answer tell, as contracts: each returns what the plain function says, and leaves the world as it was.
-/
import Derived.Test.YtlnhhfmgciaaeaaRows
import Derived.Test.YtlnhhfmgciaaeaaLPut
import Derived.WalkKit
import Derived.WalkSpells
import Derived.WalkLawsBesides
import Derived.IntWalk
import Derived.Lib.Hide
import Derived.Deep.Light
namespace Go.Proofs.Ytlnhhfmgciaaeaa.Lx
open Go.RowKit
set_option linter.unusedVariables false
set_option linter.unusedSimpArgs false
theorem ret_int {k : IntKind} {a b : Int} (h : a = b) : Ending.returned (.int k a) = .returned (.int k b) := by rw [h]
theorem ret_bool {a b : Bool} (h : a = b) : Ending.returned (.bool a) = .returned (.bool b) := by rw [h]
theorem beq_int (b : UInt8) (n : UInt8) : (b == n) = decide ((b.toNat : Int) = (n.toNat : Int)) := by
  rw [Bool.eq_iff_iff]
  simp only [beq_iff_eq, decide_eq_true_eq]
  constructor
  · rintro rfl
    rfl
  · intro h
    exact UInt8.toNat_inj.1 (by omega)
theorem blank_int (b : UInt8) : L.blankB b = decide ((b.toNat : Int) = 32 ∨ (b.toNat : Int) = 9 ∨ (b.toNat : Int) = 10 ∨ (b.toNat : Int) = 13) := by
  simp only [L.blankB, beq_int, ← Bool.decide_or]
  simp [or_assoc]
theorem let_int (b : UInt8) : L.letB b = decide ((97 ≤ (b.toNat : Int) ∧ (b.toNat : Int) ≤ 122) ∨ (65 ≤ (b.toNat : Int) ∧ (b.toNat : Int) ≤ 90)) := by
  simp only [L.letB, ← Bool.decide_or, ← Bool.decide_and, decide_eq_decide]
  omega
theorem dig_int (b : UInt8) : L.digB b = decide (48 ≤ (b.toNat : Int) ∧ (b.toNat : Int) ≤ 57) := by
  simp only [L.digB, ← Bool.decide_or, ← Bool.decide_and, decide_eq_decide]
  omega
theorem not10_int (b : UInt8) : L.not10 b = decide (¬ (b.toNat : Int) = 10) := by
  simp only [L.not10, bne, beq_int, decide_not]
  rfl
theorem sign_int (b : UInt8) : L.signB b = decide ((b.toNat : Int) = 123 ∨ (b.toNat : Int) = 125 ∨ (b.toNat : Int) = 40 ∨ (b.toNat : Int) = 41 ∨ (b.toNat : Int) = 59 ∨ (b.toNat : Int) = 44 ∨ (b.toNat : Int) = 58 ∨ (b.toNat : Int) = 60 ∨ (b.toNat : Int) = 43 ∨ (b.toNat : Int) = 45 ∨ (b.toNat : Int) = 61) := by
  simp only [L.signB, beq_int, ← Bool.decide_or]
  simp [or_assoc]
/-- A function of a byte that tells a kind and does nothing else. -/
def Tells (F : Nat) (P : UInt8 → Bool) : Prop := ∀ (b : UInt8) (w : World), Calls Try.prog F #[.int .u8 b.toNat] w fun e w' => e = .returned (.bool (P b)) ∧ w = w'

set_option maxHeartbeats 400000 in
theorem blank_any : Tells 28 L.blankB := by
  intro b w
  have H := Lib.hid (blank_int b)
  go_enter Try.func28, Try.ntmps28
  go_wp2
  all_goals
    go_ret
    refine ⟨ret_bool ?_, rfl⟩
    rw [H.out, Bool.eq_iff_iff]
    clear H
    (try simp at *) <;> omega
set_option maxHeartbeats 400000 in
theorem letter_any : Tells 33 L.letB := by
  intro b w
  have H := Lib.hid (let_int b)
  go_enter Try.func33, Try.ntmps33
  go_wp2
  all_goals
    go_ret
    refine ⟨ret_bool ?_, rfl⟩
    rw [H.out, Bool.eq_iff_iff]
    clear H
    (try simp at *) <;> omega
set_option maxHeartbeats 400000 in
theorem digit_any : Tells 35 L.digB := by
  intro b w
  have H := Lib.hid (dig_int b)
  go_enter Try.func35, Try.ntmps35
  go_wp2
  all_goals
    go_ret
    refine ⟨ret_bool ?_, rfl⟩
    rw [H.out, Bool.eq_iff_iff]
    clear H
    (try simp at *) <;> omega
set_option maxHeartbeats 400000 in
theorem inLine_any : Tells 30 L.not10 := by
  intro b w
  have H := Lib.hid (not10_int b)
  go_enter Try.func30, Try.ntmps30
  go_wp2
  all_goals
    go_ret
    refine ⟨ret_bool ?_, rfl⟩
    rw [H.out, Bool.eq_iff_iff]
    clear H
    (try simp at *) <;> omega
set_option maxHeartbeats 400000 in
theorem csign_any : Tells 36 L.signB := by
  intro b w
  have H := Lib.hid (sign_int b)
  go_enter Try.func36, Try.ntmps36
  go_wp2
  all_goals
    go_ret
    refine ⟨ret_bool ?_, rfl⟩
    rw [H.out, Bool.eq_iff_iff]
    clear H
    (try simp at *) <;> omega
set_option maxHeartbeats 400000 in
theorem inWord_any : Tells 34 L.alnB := by
  intro b w
  cases hl : L.letB b
  · have H := Lib.hid (show L.alnB b = L.digB b by simp [L.alnB, hl])
    have HL := Lib.hid hl
    clear hl
    go_enter Try.func34, Try.ntmps34
    go_wp2_with (first | (go_at_call 33; refine (letter_any _ _).mono ?_; rintro e w' ⟨rfl, rfl⟩; rw [HL.out]) | (go_at_call 35; refine (digit_any _ _).mono ?_; rintro e w' ⟨rfl, rfl⟩))
    go_ret
    exact ⟨ret_bool H.out.symm, rfl⟩
  · have H := Lib.hid (show L.alnB b = true by simp [L.alnB, hl])
    have HL := Lib.hid hl
    clear hl
    go_enter Try.func34, Try.ntmps34
    go_wp2_with (first | (go_at_call 33; refine (letter_any _ _).mono ?_; rintro e w' ⟨rfl, rfl⟩; rw [HL.out]) | (go_at_call 35; refine (digit_any _ _).mono ?_; rintro e w' ⟨rfl, rfl⟩))
    go_ret
    exact ⟨ret_bool H.out.symm, rfl⟩
/-! ### the document's answer -/
set_option maxHeartbeats 400000 in
theorem rblank_any : Tells 20 L.blankB := by
  intro b w
  have H := Lib.hid (blank_int b)
  go_enter Try.func20, Try.ntmps20
  go_wp2
  all_goals
    go_ret
    refine ⟨ret_bool ?_, rfl⟩
    rw [H.out, Bool.eq_iff_iff]
    clear H
    (try simp at *) <;> omega
set_option maxHeartbeats 400000 in
theorem rletter_any : Tells 21 L.letB := by
  intro b w
  have H := Lib.hid (let_int b)
  go_enter Try.func21, Try.ntmps21
  go_wp2
  all_goals
    go_ret
    refine ⟨ret_bool ?_, rfl⟩
    rw [H.out, Bool.eq_iff_iff]
    clear H
    (try simp at *) <;> omega
set_option maxHeartbeats 400000 in
theorem rdigit_any : Tells 22 L.digB := by
  intro b w
  have H := Lib.hid (dig_int b)
  go_enter Try.func22, Try.ntmps22
  go_wp2
  all_goals
    go_ret
    refine ⟨ret_bool ?_, rfl⟩
    rw [H.out, Bool.eq_iff_iff]
    clear H
    (try simp at *) <;> omega
end Go.Proofs.Ytlnhhfmgciaaeaa.Lx
