/-
  What token of package lex tells, as contracts.
-/
import Derived.Test.YtlnhhfmgciaaeaaLNext
import Derived.Test.YtlnhhfmgciaaeaaLWorth
namespace Go.Proofs.Ytlnhhfmgciaaeaa.Lx
open Go.RowKit
set_option linter.unusedVariables false
set_option linter.unusedSimpArgs false
theorem ret_two' {a b c d : Int} (h : a = c) (h' : b = d) : Ending.returned (.tuple #[.int .i64 a, .int .i64 b]) = .returned (.tuple #[.int .i64 c, .int .i64 d]) := by rw [h, h']
theorem extent_is (s : ByteArray) (k c n : Nat) (ci : Int) (w : World) (hs : s.size ≤ maxLen) (hk : k ≤ s.size) (he : ext (rest s k) = (c, n)) (hc : c ≠ 0) (hci : (c : Int) = ci) :
    Calls Try.prog 26 #[.string s, .int .i64 (k : Nat)] w fun e w' => e = .returned (.tuple #[.int .i64 ci, .int .i64 ((k + n : Nat) : Int)]) ∧ w = w' := by
  refine (extent_any s k w hs hk).mono ?_
  rintro e w' ⟨rfl, rfl⟩
  rw [he, extEnd, if_neg hc, hci]
  exact ⟨rfl, rfl⟩
theorem extent_no (s : ByteArray) (k : Nat) (w : World) (hs : s.size ≤ maxLen) (hk : k ≤ s.size) (he : ext (rest s k) = (0, 0)) :
    Calls Try.prog 26 #[.string s, .int .i64 (k : Nat)] w fun e w' => e = .returned (.tuple #[.int .i64 0, .int .i64 0]) ∧ w = w' := by
  refine (extent_any s k w hs hk).mono ?_
  rintro e w' ⟨rfl, rfl⟩
  rw [he]
  exact ⟨rfl, rfl⟩
/-- A token and an error. -/
def TokTo (kind : Int) (t : ByteArray) (n at' err : Int) (w : World) (e : Ending) (w' : World) : Prop :=
  e = .returned (.tuple #[.agg #[.int .i64 kind, .string t, .int .i64 n, .int .i64 at'], .int .i64 err]) ∧ Below w.heap.size w w'
set_option maxHeartbeats 400000 in
theorem token_no (s : ByteArray) (k : Nat) (w : World) (hs : s.size ≤ maxLen) (hk : k ≤ s.size) (he : ext (rest s k) = (0, 0)) :
    Calls Try.prog 19 #[.string s, .int .i64 (k : Nat)] w (TokTo 0 ⟨#[]⟩ 0 0 2 w) := by
  have HE := Lib.hid he
  have HS := Lib.hid hs
  clear he hs
  go_enter Try.func19, Try.ntmps19
  go_wp2_with fail
  with_reducible refine (extent_no s k _ HS.out hk HE.out).mono ?_
  rintro e w' ⟨rfl, rfl⟩
  go_wp2_with fail
  exact bodyPost_ret (v := .tuple #[.agg #[.int .i64 0, .string ⟨#[]⟩, .int .i64 0, .int .i64 0], .int .i64 2]) (by simp [results, Try.results19, go_sem]) rfl ⟨rfl, (Below.refl _ _).alloc (Nat.le_refl _) _⟩
set_option maxHeartbeats 400000 in
theorem token_word (s : ByteArray) (k n : Nat) (w : World) (hs : s.size ≤ maxLen) (hk : k + n ≤ s.size) (he : ext (rest s k) = (1, n)) :
    Calls Try.prog 19 #[.string s, .int .i64 (k : Nat)] w (TokTo 1 (s.extract k (k + n)) 0 k 0 w) := by
  have HE := Lib.hid he
  have HS := Lib.hid hs
  clear he
  unfold maxLen at hs
  have hk0 : k ≤ s.size := by omega
  go_enter Try.func19, Try.ntmps19
  go_wp2_with fail
  with_reducible refine (extent_is s k 1 n 1 _ HS.out hk0 HE.out (by decide) rfl).mono ?_
  rintro e w' ⟨rfl, rfl⟩
  generalize hm : k + n = m at *
  have hkm : k ≤ m := by omega
  clear hm
  go_wp2_with fail
  exact bodyPost_ret (v := .tuple #[.agg #[.int .i64 1, .string (s.extract k m), .int .i64 0, .int .i64 k], .int .i64 0]) (by simp [results, Try.results19, go_sem]) rfl ⟨rfl, ((Below.refl _ _).alloc (Nat.le_refl _) _).alloc (by simp) _⟩
set_option maxHeartbeats 400000 in
theorem token_sign (s : ByteArray) (k n : Nat) (w : World) (hs : s.size ≤ maxLen) (hk : k + n ≤ s.size) (he : ext (rest s k) = (3, n)) :
    Calls Try.prog 19 #[.string s, .int .i64 (k : Nat)] w (TokTo 3 (s.extract k (k + n)) 0 k 0 w) := by
  have HE := Lib.hid he
  have HS := Lib.hid hs
  clear he
  unfold maxLen at hs
  have hk0 : k ≤ s.size := by omega
  go_enter Try.func19, Try.ntmps19
  go_wp2_with fail
  with_reducible refine (extent_is s k 3 n 3 _ HS.out hk0 HE.out (by decide) rfl).mono ?_
  rintro e w' ⟨rfl, rfl⟩
  generalize hm : k + n = m at *
  have hkm : k ≤ m := by omega
  clear hm
  go_wp2_with fail
  exact bodyPost_ret (v := .tuple #[.agg #[.int .i64 3, .string (s.extract k m), .int .i64 0, .int .i64 k], .int .i64 0]) (by simp [results, Try.results19, go_sem]) rfl ⟨rfl, ((Below.refl _ _).alloc (Nat.le_refl _) _).alloc (by simp) _⟩
theorem dig_take (l : List UInt8) : ∀ c ∈ l.take (L.run L.digB l), L.digB c = true := by
  intro c hc
  obtain ⟨i, hi, rfl⟩ := List.getElem_of_mem hc
  have hi2 : i < L.run L.digB l := by
    have := hi
    rw [List.length_take] at this
    omega
  obtain ⟨b, hb, hp⟩ := L.run_lt l i hi2
  rw [List.getElem_take]
  rw [List.getElem?_eq_getElem (by have := L.run_le L.digB l; omega)] at hb
  injection hb with hb
  rw [hb]
  exact hp
theorem ext_take (s : ByteArray) (k n : Nat) : by' (s.extract k (k + n)) = (rest s k).take n := by
  rw [by_ext, rest, show k + n - k = n by omega]
theorem ext_size (s : ByteArray) (k n : Nat) (h : k + n ≤ s.size) : (s.extract k (k + n)).size = n := by
  rw [← by_len, ext_take, List.length_take, rest_len]
  omega
theorem worth_ok (t : ByteArray) (w : World) (hs : t.size ≤ maxLen) (hd : ∀ c ∈ by' t, L.digB c = true) (h : L.val (by' t) ≤ L.top) :
    Calls Try.prog 31 #[.string t] w fun e w' => e = .returned (.tuple #[.int .i64 (L.val (by' t) : Nat), .bool true]) ∧ w = w' := by
  refine (worth_any t w hs hd).mono ?_
  rintro e w' ⟨⟨_, rfl⟩ | ⟨hn, _⟩, rfl⟩
  · exact ⟨rfl, rfl⟩
  · exact absurd h hn
theorem worth_no (t : ByteArray) (w : World) (hs : t.size ≤ maxLen) (hd : ∀ c ∈ by' t, L.digB c = true) (h : ¬ L.val (by' t) ≤ L.top) :
    Calls Try.prog 31 #[.string t] w fun e w' => e = .returned (.tuple #[.int .i64 0, .bool false]) ∧ w = w' := by
  refine (worth_any t w hs hd).mono ?_
  rintro e w' ⟨⟨hn, _⟩ | ⟨_, rfl⟩, rfl⟩
  · exact absurd hn h
  · exact ⟨rfl, rfl⟩
set_option maxHeartbeats 400000 in
theorem token_num (s : ByteArray) (k n : Nat) (w : World) (hs : s.size ≤ maxLen) (hk : k + n ≤ s.size) (he : ext (rest s k) = (2, n)) (hd : ∀ c ∈ by' (s.extract k (k + n)), L.digB c = true) (hv : L.val (by' (s.extract k (k + n))) ≤ L.top) :
    Calls Try.prog 19 #[.string s, .int .i64 (k : Nat)] w (TokTo 2 (s.extract k (k + n)) (L.val (by' (s.extract k (k + n))) : Nat) k 0 w) := by
  have HE := Lib.hid he
  have HS := Lib.hid hs
  have HW := Lib.hid (fun w => worth_ok (s.extract k (k + n)) w (by rw [ext_size s k n hk]; omega) hd hv)
  clear he hd hv
  unfold maxLen at hs
  have hk0 : k ≤ s.size := by omega
  go_enter Try.func19, Try.ntmps19
  go_wp2_with fail
  with_reducible refine (extent_is s k 2 n 2 _ HS.out hk0 HE.out (by decide) rfl).mono ?_
  rintro e w' ⟨rfl, rfl⟩
  generalize hm : k + n = m at *
  have hkm : k ≤ m := by omega
  clear hm
  go_wp2_with fail
  with_reducible refine (HW.out _).mono ?_
  rintro e w' ⟨rfl, rfl⟩
  generalize L.val (by' (s.extract k m)) = v at *
  go_wp2_with fail
  exact bodyPost_ret (v := .tuple #[.agg #[.int .i64 2, .string (s.extract k m), .int .i64 v, .int .i64 k], .int .i64 0]) (by simp [results, Try.results19, go_sem]) rfl ⟨rfl, ((Below.refl _ _).alloc (Nat.le_refl _) _).alloc (by simp) _⟩
set_option maxHeartbeats 400000 in
theorem token_long (s : ByteArray) (k n : Nat) (w : World) (hs : s.size ≤ maxLen) (hk : k + n ≤ s.size) (he : ext (rest s k) = (2, n)) (hd : ∀ c ∈ by' (s.extract k (k + n)), L.digB c = true) (hv : ¬ L.val (by' (s.extract k (k + n))) ≤ L.top) :
    Calls Try.prog 19 #[.string s, .int .i64 (k : Nat)] w (TokTo 0 ⟨#[]⟩ 0 0 3 w) := by
  have HE := Lib.hid he
  have HS := Lib.hid hs
  have HW := Lib.hid (fun w => worth_no (s.extract k (k + n)) w (by rw [ext_size s k n hk]; omega) hd hv)
  clear he hd hv
  unfold maxLen at hs
  have hk0 : k ≤ s.size := by omega
  go_enter Try.func19, Try.ntmps19
  go_wp2_with fail
  with_reducible refine (extent_is s k 2 n 2 _ HS.out hk0 HE.out (by decide) rfl).mono ?_
  rintro e w' ⟨rfl, rfl⟩
  generalize hm : k + n = m at *
  have hkm : k ≤ m := by omega
  clear hm
  go_wp2_with fail
  with_reducible refine (HW.out _).mono ?_
  rintro e w' ⟨rfl, rfl⟩
  go_wp2_with fail
  exact bodyPost_ret (v := .tuple #[.agg #[.int .i64 0, .string ⟨#[]⟩, .int .i64 0, .int .i64 0], .int .i64 3]) (by simp [results, Try.results19, go_sem]) rfl ⟨rfl, ((Below.refl _ _).alloc (Nat.le_refl _) _).alloc (by simp) _⟩
/-! ### what stands at the front, by both -/
theorem pre2 (x b : UInt8) (r : List UInt8) : [x, x].isPrefixOf (b :: r) = (b == x && r.head? == some x) := by
  rw [Bool.eq_iff_iff]
  cases r with
  | nil => simp [List.isPrefixOf]
  | cons c r =>
    simp [List.isPrefixOf]
    constructor
    · rintro ⟨rfl, rfl⟩
      exact ⟨rfl, rfl⟩
    · rintro ⟨rfl, rfl⟩
      exact ⟨rfl, rfl⟩
def eno : L.Bad → Nat
  | .form => 2
  | .long => 3
theorem eno_ne (e : L.Bad) : ((eno e : Nat) : Int) ≠ 0 := by cases e <;> decide
/-- What token tells, told by what stands at the front. -/
def TokOr (s : ByteArray) (k : Nat) : L.Nx → World → Ending → World → Prop
  | .tok kind n v, w, e, w' => TokTo kind (s.extract k (k + n)) v k 0 w e w'
  | .bad x, w, e, w' => TokTo 0 ⟨#[]⟩ 0 0 (eno x) w e w'
  | .skip _, _, _, _ => False
/-- A token has a length, and lies within. -/
theorem nx_in {s : ByteArray} {k kind n v : Nat} (hk : k < s.size) (h : L.nx s[k] (rest s (k + 1)) = .tok kind n v) : 0 < n ∧ k + n ≤ s.size := by
  have hr := rest_lt hk
  have e1 := run_in L.alnB s k (by omega)
  have e2 := run_in L.digB s k (by omega)
  rw [hr] at e1 e2
  unfold L.nx at h
  split at h
  · cases h
  split at h
  · cases h
  split at h
  · rename_i hl
    injection h with _ h _
    subst h
    have hal : L.alnB s[k] = true := by simp [L.alnB, hl]
    rw [L.run_cons_pos _ hal] at *
    omega
  split at h
  · rename_i hl
    split at h
    · injection h with _ h _
      subst h
      rw [L.run_cons_pos _ hl] at *
      omega
    · cases h
  split at h
  · split at h
    · rename_i hn
      injection h with _ h _
      subst h
      have : k + 1 < s.size := by
        by_cases hlt : k + 1 < s.size
        · exact hlt
        · rw [rest_ge (by omega)] at hn
          simp at hn
      omega
    · injection h with _ h _
      subst h
      omega
  split at h
  · injection h with _ h _
    subst h
    omega
  · cases h
theorem token_any (s : ByteArray) (k : Nat) (w : World) (hs : s.size ≤ maxLen) (hk : k < s.size) (hf : Front (rest s k)) :
    Calls Try.prog 19 #[.string s, .int .i64 (k : Nat)] w (TokOr s k (L.nx s[k] (rest s (k + 1))) w) := by
  have hr := rest_lt hk
  obtain ⟨f1, f2⟩ := hf
  have f1' : L.blankB s[k] = false := by rw [hr] at f1; exact f1
  have f2' : (s[k] == 47 && (rest s (k + 1)).head? == some 47) = false := by rw [hr, pre2] at f2; exact f2
  cases hn : L.nx s[k] (rest s (k + 1)) with
  | skip n =>
    exfalso
    unfold L.nx at hn
    rw [f1', f2'] at hn
    simp only [Bool.false_eq_true, if_false] at hn
    repeat' split at hn
    all_goals cases hn
  | tok kind n v =>
    have hin := nx_in hk hn
    unfold L.nx at hn
    rw [f1', f2'] at hn
    simp only [Bool.false_eq_true, if_false] at hn
    split at hn
    · rename_i hl
      injection hn with e1 e2 e3
      subst e1 e2 e3
      rw [← hr]
      rw [← hr] at hin
      exact token_word s k _ w hs hin.2 (by rw [hr, ext, if_pos hl])
    rename_i hl
    split at hn
    · rename_i hd
      split at hn
      · rename_i hv
        injection hn with e1 e2 e3
        subst e1 e2 e3
        rw [← hr] at hin hv ⊢
        rw [← ext_take s k] at hv ⊢
        exact token_num s k _ w hs hin.2 (by rw [hr, ext, if_neg hl, if_pos hd]) (by rw [ext_take]; exact dig_take _) hv
      · cases hn
    rename_i hd
    split at hn
    · rename_i h61
      have hsg : L.signB s[k] = true := by
        have : s[k] = 61 := by simpa using h61
        rw [this]
        decide
      split at hn
      · rename_i h2
        injection hn with e1 e2 e3
        subst e1 e2 e3
        exact token_sign s k _ w hs hin.2 (by rw [hr, ext, if_neg hl, if_neg hd, if_pos hsg, pre2, h61, h2]; rfl)
      · rename_i h2
        injection hn with e1 e2 e3
        subst e1 e2 e3
        exact token_sign s k _ w hs hin.2 (by rw [hr, ext, if_neg hl, if_neg hd, if_pos hsg, pre2, h61, Bool.true_and, if_neg h2])
    rename_i h61
    split at hn
    · rename_i hsg
      injection hn with e1 e2 e3
      subst e1 e2 e3
      exact token_sign s k _ w hs hin.2 (by rw [hr, ext, if_neg hl, if_neg hd, if_pos hsg, pre2]; simp only [Bool.not_eq_true] at h61; rw [h61]; rfl)
    · cases hn
  | bad x =>
    unfold L.nx at hn
    rw [f1', f2'] at hn
    simp only [Bool.false_eq_true, if_false] at hn
    split at hn
    · cases hn
    rename_i hl
    split at hn
    · rename_i hd
      split at hn
      · cases hn
      · rename_i hv
        injection hn with e1
        subst e1
        have e2 := run_in L.digB s k (by omega)
        rw [← hr] at hv
        rw [← ext_take s k] at hv
        exact token_long s k _ w hs e2 (by rw [hr, ext, if_neg hl, if_pos hd]) (by rw [ext_take]; exact dig_take _) hv
    rename_i hd
    split at hn
    · split at hn <;> cases hn
    rename_i h61
    split at hn
    · cases hn
    · rename_i hsg
      injection hn with e1
      subst e1
      exact token_no s k w hs (by omega) (by rw [hr, ext, if_neg hl, if_neg hd, if_neg hsg])
end Go.Proofs.Ytlnhhfmgciaaeaa.Lx
