/-
  What worth of package lex, and number of the document's answer, tell of digits, as contracts.
-/
import Derived.Test.YtlnhhfmgciaaeaaLText
namespace Go.Proofs.Ytlnhhfmgciaaeaa.Lx
open Go.RowKit
set_option linter.unusedVariables false
set_option linter.unusedSimpArgs false
theorem dig_bd {t : ByteArray} (h : ∀ c ∈ by' t, L.digB c = true) (i : Nat) (hi : i < t.size) : 48 ≤ t[i].toNat ∧ t[i].toNat ≤ 57 := by
  have h1 : i < (by' t).length := by rw [by_len]; exact hi
  have h2 : L.digB t[i] = true := h _ (List.getElem_mem h1)
  simp only [L.digB, Bool.and_eq_true, decide_eq_true_eq] at h2
  exact h2
theorem val_step (t : ByteArray) (i : Nat) (hi : i < t.size) : L.val ((by' t).take (i + 1)) = 10 * L.val ((by' t).take i) + (t[i].toNat - 48) := by
  have h1 : i < (by' t).length := by rw [by_len]; exact hi
  rw [List.take_succ_eq_append_getElem h1, L.val_snoc]
  rfl
theorem val_take_le (l : List UInt8) (i : Nat) : L.val (l.take i) ≤ L.val l := by
  conv => rhs; rw [← List.take_append_drop i l]
  exact L.val_le_append _ _
/-- What digits come to, or that it is too much. -/
def WorthTo (t : ByteArray) (w : World) (e : Ending) (w' : World) : Prop :=
  ((L.val (by' t) ≤ L.top ∧ e = .returned (.tuple #[.int .i64 (L.val (by' t) : Nat), .bool true])) ∨ (¬ L.val (by' t) ≤ L.top ∧ e = .returned (.tuple #[.int .i64 0, .bool false]))) ∧ w = w'
/-- So many digits are summed. -/
def WorthR (t : ByteArray) (nv iv : Value) : Prop := ∃ i v : Nat, nv = .int .i64 v ∧ iv = .int .i64 i ∧ i ≤ t.size ∧ v = L.val ((by' t).take i) ∧ (v : Int) ≤ 4611686018427387904
theorem worth_end {t : ByteArray} {i v : Nat} {w : World} (hi : ¬ i < t.size) (hv : v = L.val ((by' t).take i)) (ht : (v : Int) ≤ 4611686018427387904) : WorthTo t w (.returned (.tuple #[.int .i64 v, .bool true])) w := by
  rw [List.take_of_length_le (by rw [by_len]; omega)] at hv
  subst hv
  exact ⟨.inl ⟨by unfold L.top; omega, rfl⟩, rfl⟩
theorem worth_long {t : ByteArray} {i v : Nat} {w : World} (hi : i < t.size) (hv : v = L.val ((by' t).take i)) (hd : 48 ≤ t[i].toNat ∧ t[i].toNat ≤ 57) (h : (4611686018427387904 - ((t[i].toNat : Int) - 48)) / 10 < (v : Int)) : WorthTo t w (.returned (.tuple #[.int .i64 0, .bool false])) w := by
  refine ⟨.inr ⟨?_, rfl⟩, rfl⟩
  have h1 := val_step t i hi
  have h2 := val_take_le (by' t) (i + 1)
  rw [← hv] at h1
  unfold L.top
  omega
theorem worth_step {t : ByteArray} {i v : Nat} (hi : i < t.size) (hv : v = L.val ((by' t).take i)) (hd : 48 ≤ t[i].toNat ∧ t[i].toNat ≤ 57) (h : ¬ (4611686018427387904 - ((t[i].toNat : Int) - 48)) / 10 < (v : Int)) : WorthR t (.int .i64 (10 * (v : Int) + ((t[i].toNat : Int) - 48))) (.int .i64 ((i : Int) + 1)) := by
  have h1 := val_step t i hi
  rw [← hv] at h1
  refine ⟨i + 1, L.val ((by' t).take (i + 1)), ?_, by go_num, by omega, rfl, by omega⟩
  rw [h1]
  congr 1
  omega
set_option maxHeartbeats 400000 in
theorem worth_any (t : ByteArray) (w : World) (hs : t.size ≤ maxLen) (hd : ∀ c ∈ by' t, L.digB c = true) :
    Calls Try.prog 31 #[.string t] w (WorthTo t w) := by
  unfold maxLen at hs
  have HD := Lib.hid (fun i hi => dig_bd hd i hi)
  have H0 := Lib.hid (show WorthR t (.int .i64 0) (.int .i64 0) from ⟨0, 0, rfl, rfl, by omega, rfl, by omega⟩)
  clear hd
  go_enter Try.func31, Try.ntmps31
  go_wp2_with fail
  go_loop [4, 9] (fun nv iv => WorthR t nv iv) (fun _ iv => t.size - (intOf iv).toNat)
  case atStart => exact H0.out
  case round =>
    obtain ⟨i, v, rfl, rfl, hi, hv, hb⟩ := hrel
    have HV := Lib.hid hv
    clear hv
    by_cases hlt : i < t.size
    · have hdi := HD.out i hlt
      have HL := Lib.hid (fun w h => worth_long (w := w) hlt HV.out hdi h)
      have HS := Lib.hid (fun h => worth_step hlt HV.out hdi h)
      have h1 : 48 ≤ (t[i].toNat : Int) := by omega
      have h2 : (t[i].toNat : Int) ≤ 57 := by omega
      clear hdi
      go_wp2_with fail
      · go_ret2
        exact HL.out _ ‹_›
      · go_round
        case rel => exact HS.out (by omega)
        case measure => simp [intOf]; omega
    · go_wp2_with fail
      go_ret2
      exact worth_end hlt HV.out hb
set_option maxHeartbeats 400000 in
theorem number_any (t : ByteArray) (w : World) (hs : t.size ≤ maxLen) (hd : ∀ c ∈ by' t, L.digB c = true) :
    Calls Try.prog 23 #[.string t] w (WorthTo t w) := by
  unfold maxLen at hs
  have HD := Lib.hid (fun i hi => dig_bd hd i hi)
  have H0 := Lib.hid (show WorthR t (.int .i64 0) (.int .i64 0) from ⟨0, 0, rfl, rfl, by omega, rfl, by omega⟩)
  clear hd
  go_enter Try.func23, Try.ntmps23
  go_wp2_with fail
  go_loop [4, 5] (fun nv iv => WorthR t nv iv) (fun _ iv => t.size - (intOf iv).toNat)
  case atStart => exact H0.out
  case round =>
    obtain ⟨i, v, rfl, rfl, hi, hv, hb⟩ := hrel
    have HV := Lib.hid hv
    clear hv
    by_cases hlt : i < t.size
    · have hdi := HD.out i hlt
      have HL := Lib.hid (fun w h => worth_long (w := w) hlt HV.out hdi h)
      have HS := Lib.hid (fun h => worth_step hlt HV.out hdi h)
      have h1 : 48 ≤ (t[i].toNat : Int) := by omega
      have h2 : (t[i].toNat : Int) ≤ 57 := by omega
      clear hdi
      go_wp2_with fail
      · go_ret2
        exact HL.out _ ‹_›
      · go_round
        case rel => exact HS.out (by omega)
        case measure => simp [intOf]; omega
    · go_wp2_with fail
      go_ret2
      exact worth_end hlt HV.out hb
end Go.Proofs.Ytlnhhfmgciaaeaa.Lx
