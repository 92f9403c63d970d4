/-
  Texts as lists of bytes, and what begins, past, next, pastSign, extent and worth of package lex tell of them, as contracts.
-/
import Derived.Test.YtlnhhfmgciaaeaaLLeaf
namespace Go.Proofs.Ytlnhhfmgciaaeaa.Lx
open Go.RowKit
set_option linter.unusedVariables false
set_option linter.unusedSimpArgs false
/-- A text's bytes. -/
def by' (s : ByteArray) : List UInt8 := s.data.toList
/-- Bytes as a text. -/
def bs (l : List UInt8) : ByteArray := ⟨l.toArray⟩
theorem by_bs (l : List UInt8) : by' (bs l) = l := rfl
theorem bs_by (s : ByteArray) : bs (by' s) = s := rfl
theorem by_len (s : ByteArray) : (by' s).length = s.size := by cases s; rfl
theorem toList_by (s : ByteArray) : s.toList = by' s := ByteArray.toList_eq s
theorem by_inj {s t : ByteArray} (h : by' s = by' t) : s = t := by rw [← bs_by s, h, bs_by]
theorem by_app (s t : ByteArray) : by' (s ++ t) = by' s ++ by' t := by
  simp [by', ByteArray.data_append]
theorem by_ext (s : ByteArray) (a b : Nat) : by' (s.extract a b) = ((by' s).drop a).take (b - a) := by
  have : s.extract a b = bs (((by' s).drop a).take (b - a)) := ByteArray.extract_mk (by' s) a b
  rw [this, by_bs]
theorem ext_bs (s : ByteArray) (a b : Nat) : s.extract a b = bs (((by' s).drop a).take (b - a)) := ByteArray.extract_mk (by' s) a b
/-- What stands from a place on. -/
def rest (s : ByteArray) (k : Nat) : List UInt8 := (by' s).drop k
theorem rest_zero (s : ByteArray) : rest s 0 = by' s := rfl
theorem rest_len (s : ByteArray) (k : Nat) : (rest s k).length = s.size - k := by
  rw [rest, List.length_drop, by_len]
theorem rest_drop (s : ByteArray) (k n : Nat) : (rest s k).drop n = rest s (k + n) := by rw [rest, rest, List.drop_drop]
theorem rest_lt {s : ByteArray} {k : Nat} (h : k < s.size) : rest s k = s[k] :: rest s (k + 1) := by
  have h' : k < (by' s).length := by rw [by_len]; exact h
  rw [rest, List.drop_eq_getElem_cons h']
  rfl
theorem rest_ge {s : ByteArray} {k : Nat} (h : s.size ≤ k) : rest s k = [] := List.drop_eq_nil_of_le (by rw [by_len]; exact h)
theorem ext_rest (s : ByteArray) (k : Nat) : by' (s.extract k s.size) = rest s k := by
  rw [by_ext, rest]
  exact List.take_of_length_le (by rw [List.length_drop, by_len]; omega)
/-- Does a byte of that kind stand there? -/
def bat (P : UInt8 → Bool) (s : ByteArray) (k : Nat) : Bool := (rest s k).head?.any P
theorem bat_lt {P : UInt8 → Bool} {s : ByteArray} {k : Nat} (h : k < s.size) : bat P s k = P s[k] := by rw [bat, rest_lt h]; rfl
theorem bat_ge {P : UInt8 → Bool} {s : ByteArray} {k : Nat} (h : s.size ≤ k) : bat P s k = false := by rw [bat, rest_ge h]; rfl
theorem bat_in {P : UInt8 → Bool} {s : ByteArray} {k : Nat} (h : bat P s k = true) : k < s.size := by
  by_cases hk : k < s.size
  · exact hk
  · rw [bat_ge (by omega)] at h
    cases h
theorem run_bat {P : UInt8 → Bool} {s : ByteArray} {k : Nat} (h : bat P s k = true) : L.run P (rest s k) = L.run P (rest s (k + 1)) + 1 := by
  have hk := bat_in h
  rw [bat_lt hk] at h
  rw [rest_lt hk, L.run_cons_pos _ h]
theorem run_nat {P : UInt8 → Bool} {s : ByteArray} {k : Nat} (h : bat P s k = false) : L.run P (rest s k) = 0 := by
  by_cases hk : k < s.size
  · rw [bat_lt hk] at h
    rw [rest_lt hk, L.run_cons_neg _ h]
  · rw [rest_ge (by omega), L.run_nil]
theorem run_in (P : UInt8 → Bool) (s : ByteArray) (k : Nat) (h : k ≤ s.size) : k + L.run P (rest s k) ≤ s.size := by
  have := L.run_le P (rest s k)
  rw [rest_len] at this
  omega
def Enters (F : Nat) : Prop := ∀ args w, (callFunc F args).run Try.prog w = .ok (.enter F args) w
theorem enters_of {F : Nat} {fn : Func} {c : Code} (hf : Try.prog.funcs[F]? = some fn) (hn : (fn.name == "runtime.NumGoroutine") = false) (hb : fn.body = some c) : Enters F := fun args w => by
  have h1 : fn.name ≠ "runtime.NumGoroutine" := by simpa using hn
  simp [callFunc, hf, h1, hb]
theorem enters_blank : Enters 28 := enters_of Try.func28 (by kernel_rfl) rfl
theorem enters_inLine : Enters 30 := enters_of Try.func30 (by kernel_rfl) rfl
theorem enters_letter : Enters 33 := enters_of Try.func33 (by kernel_rfl) rfl
theorem enters_inWord : Enters 34 := enters_of Try.func34 (by kernel_rfl) rfl
theorem enters_digit : Enters 35 := enters_of Try.func35 (by kernel_rfl) rfl
theorem enters_sign : Enters 36 := enters_of Try.func36 (by kernel_rfl) rfl

set_option maxHeartbeats 400000 in
theorem begins_any (F : Nat) (P : UInt8 → Bool) (hF : Enters F) (hP : Tells F P) (s : ByteArray) (k : Nat) (w : World) (hs : s.size ≤ maxLen) :
    Calls Try.prog 32 #[.string s, .int .i64 (k : Nat), .func (.func F) #[] #[]] w fun e w' => e = .returned (.bool (bat P s k)) ∧ w = w' := by
  unfold maxLen at hs
  have HF := Lib.hid hF
  have HP := Lib.hid hP
  clear hF hP
  by_cases hk : k < s.size
  · have HB := Lib.hid (bat_lt (P := P) hk)
    have h0 : decide (k < s.size) = true := by simpa using hk
    go_enter Try.func32, Try.ntmps32
    go_wp2_with fail
    rw [HF.out, Oper.upon_enter]
    refine (HP.out _ _).mono ?_
    rintro e w' ⟨rfl, rfl⟩
    go_wp2_with fail
    go_ret
    exact ⟨ret_bool HB.out.symm, rfl⟩
  · have HB := Lib.hid (bat_ge (P := P) (s := s) (k := k) (by omega))
    have h0 : decide (k < s.size) = false := by simpa using hk
    go_enter Try.func32, Try.ntmps32
    go_wp2_with fail
    go_ret
    exact ⟨ret_bool HB.out.symm, rfl⟩
/-- A place on the way to the end of a run. -/
def PastR (s : ByteArray) (P : UInt8 → Bool) (T : Nat) (t : Value) : Prop := ∃ m : Nat, t = .int .i64 m ∧ m ≤ s.size ∧ m + L.run P (rest s m) = T
set_option maxHeartbeats 400000 in
theorem past_any (F : Nat) (P : UInt8 → Bool) (hF : Enters F) (hP : Tells F P) (s : ByteArray) (k : Nat) (w : World) (hs : s.size ≤ maxLen) (hk : k ≤ s.size) :
    Calls Try.prog 27 #[.string s, .int .i64 (k : Nat), .func (.func F) #[] #[]] w fun e w' => e = .returned (.int .i64 ((k + L.run P (rest s k) : Nat) : Int)) ∧ w = w' := by
  have HS := Lib.hid hs
  unfold maxLen at hs
  have HF := Lib.hid hF
  have HP := Lib.hid hP
  have H0 := Lib.hid (show PastR s P (k + L.run P (rest s k)) (.int .i64 k) from ⟨k, rfl, hk, rfl⟩)
  clear hF hP
  generalize k + L.run P (rest s k) = T at *
  go_enter Try.func27, Try.ntmps27
  go_wp2_with fail
  go_loop [1] (fun t => PastR s P T t) (fun t => s.size - (intOf t).toNat)
  case atStart => exact H0.out
  case round =>
    obtain ⟨m, rfl, hm, hT⟩ := hrel
    have HT := Lib.hid hT
    clear hT
    cases hb : bat P s m
    · have HR := Lib.hid (run_nat hb)
      have HB := Lib.hid hb
      clear hb
      go_wp2_with fail
      with_reducible refine (begins_any F P HF.out HP.out s m _ HS.out).mono ?_
      rintro e w' ⟨rfl, rfl⟩
      rw [HB.out]
      go_wp2_with fail
      go_ret
      exact ⟨ret_int (by have := HT.out; rw [HR.out] at this; omega), rfl⟩
    · have HR := Lib.hid (run_bat hb)
      have hlt := bat_in hb
      have HB := Lib.hid hb
      clear hb
      go_wp2_with fail
      with_reducible refine (begins_any F P HF.out HP.out s m _ HS.out).mono ?_
      rintro e w' ⟨rfl, rfl⟩
      rw [HB.out]
      go_wp2_with fail
      go_round
      case rel => exact ⟨m + 1, by go_num, by omega, by have := HT.out; rw [HR.out] at this; omega⟩
      case measure => simp [intOf]; omega
/-! ### fronts of texts -/
theorem prefix_ext {s p : ByteArray} (h : p.size ≤ s.size) : ((s.extract 0 p.size).toList == p.toList) = (by' p).isPrefixOf (by' s) := by
  rw [toList_by, toList_by, by_ext, Bool.eq_iff_iff, beq_iff_eq, List.isPrefixOf_iff_prefix, List.drop_zero, Nat.sub_zero, ← by_len p]
  constructor
  · intro e
    rw [← e]
    exact List.take_prefix _ _
  · intro e
    exact (List.prefix_iff_eq_take.1 e).symm
theorem prefix_no {s p : ByteArray} (h : ¬ p.size ≤ s.size) : (by' p).isPrefixOf (by' s) = false := by
  cases e : (by' p).isPrefixOf (by' s)
  · rfl
  · have := (List.isPrefixOf_iff_prefix.1 e).length_le
    rw [by_len, by_len] at this
    omega
set_option maxHeartbeats 400000 in
theorem slprefix_any (s p : ByteArray) (w : World) (hs : s.size ≤ maxLen) (hp : p.size ≤ maxLen) :
    Calls Try.prog 38 #[.string s, .string p] w fun e w' => e = .returned (.bool ((by' p).isPrefixOf (by' s))) ∧ w = w' := by
  unfold maxLen at hs hp
  by_cases h : p.size ≤ s.size
  · have HP := Lib.hid (prefix_ext h)
    have h0 : decide (p.size ≤ s.size) = true := by simpa using h
    go_enter Try.func38, Try.ntmps38
    go_wp2_with fail
    go_ret
    exact ⟨ret_bool HP.out, rfl⟩
  · have HP := Lib.hid (prefix_no h)
    have h0 : decide (p.size ≤ s.size) = false := by simpa using h
    go_enter Try.func38, Try.ntmps38
    go_wp2_with fail
    go_ret
    exact ⟨ret_bool HP.out.symm, rfl⟩
set_option maxHeartbeats 400000 in
theorem prefix_any (s p : ByteArray) (w : World) (hs : s.size ≤ maxLen) (hp : p.size ≤ maxLen) :
    Calls Try.prog 29 #[.string s, .string p] w fun e w' => e = .returned (.bool ((by' p).isPrefixOf (by' s))) ∧ w = w' := by
  go_enter Try.func29, Try.ntmps29
  go_wp2_with fail
  with_reducible refine (slprefix_any s p _ hs hp).mono ?_
  rintro e w' ⟨rfl, rfl⟩
  go_wp2_with fail
  go_ret
  exact ⟨rfl, rfl⟩
end Go.Proofs.Ytlnhhfmgciaaeaa.Lx
