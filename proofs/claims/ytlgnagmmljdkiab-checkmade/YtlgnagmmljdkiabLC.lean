/-
  What Name tells, of package lex and of the document's answer, as contracts.
-/
import Derived.Test.YtlgnagmmljdkiabPA
import Derived.Test.YtlgnagmmljdkiabLLex
namespace Go.Proofs.Ytlgnagmmljdkiab.Lx
open Go.RowKit
set_option maxRecDepth 100000
set_option linter.unusedVariables false
set_option linter.unusedSimpArgs false
theorem Tells.call {F : Nat} {P : UInt8 → Bool} (h : Tells F P) (b : UInt8) (w : World) : Calls Try.prog F #[.int .u8 b.toNat] w fun e w' => e = .returned (.bool (P b)) ∧ w = w' := h b w
/-- A name: a letter ahead, letters and digits alone, at most 8 bytes, no keyword. -/
def nameB (l : List UInt8) : Bool := l.head?.any L.letB && decide (l.length ≤ 8) && !kwB l && l.all L.alnB
theorem run_all {p : UInt8 → Bool} : ∀ l : List UInt8, L.run p l = l.length → l.all p = true
  | [], _ => rfl
  | b :: l, h => by
    cases hb : p b
    · rw [L.run_cons_neg _ hb] at h
      simp at h
    · rw [L.run_cons_pos _ hb] at h
      rw [List.all_cons, hb, run_all l (by simpa using h)]
      rfl
theorem all_run {p : UInt8 → Bool} (l : List UInt8) (h : l.all p = true) : L.run p l = l.length := by
  have := L.run_append l [] (fun b hb => List.all_eq_true.1 h b hb)
  simpa [L.run_nil] using this
theorem name_no {s : ByteArray} (h : bat L.letB s 0 = false) : nameB (by' s) = false := by
  have h' : (by' s).head?.any L.letB = false := h
  rw [nameB, h']
  rfl
theorem name_is {s : ByteArray} (h : bat L.letB s 0 = true) : nameB (by' s) = (decide (L.run L.alnB (by' s) = s.size) && decide (s.size ≤ 8) && !kwB (by' s)) := by
  have h' : (by' s).head?.any L.letB = true := h
  rw [nameB, h', by_len, Bool.true_and]
  by_cases e : L.run L.alnB (by' s) = s.size
  · rw [run_all (by' s) (by rw [by_len]; exact e), decide_eq_true e, Bool.true_and, Bool.and_true]
  · have : (by' s).all L.alnB = false := by
      cases ha : (by' s).all L.alnB
      · rfl
      · exact absurd (by rw [all_run _ ha, by_len]) e
    rw [this, decide_eq_false e, Bool.and_false]
    rfl
theorem ext_not_word {s : ByteArray} (h : bat L.letB s 0 = false) : (ext (rest s 0)).1 ≠ 1 := by
  cases h1 : bat L.digB s 0
  · cases h2 : bat L.signB s 0
    · rw [ext_none h h1 h2]
      decide
    · rw [ext_sign h h1 h2]
      exact (by decide : (3 : Nat) ≠ 1)
  · rw [ext_num h h1]
    exact (by decide : (2 : Nat) ≠ 1)
theorem extent_zero (s : ByteArray) (c n : Nat) (ci : Int) (w : World) (hs : s.size ≤ maxLen) (he : ext (rest s 0) = (c, n)) (hci : (c : Int) = ci) :
    Calls Try.prog 55 #[.string s, .int .i64 0] w fun e w' => e = .returned (.tuple #[.int .i64 ci, .int .i64 (extEnd 0 (c, n) : Nat)]) ∧ w = w' := by
  refine (extent_any s 0 w hs (by omega)).mono ?_
  rintro e w' ⟨rfl, rfl⟩
  rw [he, hci]
  exact ⟨rfl, rfl⟩
set_option maxHeartbeats 400000 in
theorem name_any (s : ByteArray) (w : World) (hs : s.size ≤ maxLen) : Calls Try.prog 39 #[.string s] w fun e w' => e = .returned (.bool (nameB (by' s))) ∧ w = w' := by
  have HS := Lib.hid hs
  unfold maxLen at hs
  cases h0 : bat L.letB s 0
  · have H := Lib.hid (name_no h0)
    have hc := ext_not_word h0
    obtain ⟨c, n, hcn⟩ : ∃ c n, ext (rest s 0) = (c, n) := ⟨_, _, rfl⟩
    rw [hcn] at hc
    have HC := Lib.hid hcn
    have h1 : (((c : Nat) : Int) == 1) = false := by
      have : c ≠ 1 := hc
      simp
      omega
    clear hcn hc h0
    go_enter Try.func39, Try.ntmps39
    go_wp2_with fail
    with_reducible refine (extent_zero s c n c _ HS.out HC.out rfl).mono ?_
    rintro e w' ⟨rfl, rfl⟩
    go_wp2_with fail
    go_ret
    exact ⟨ret_bool H.out.symm, rfl⟩
  · have H := Lib.hid (name_is h0)
    have HC := Lib.hid (ext_word h0)
    clear h0
    have hr : L.run L.alnB (rest s 0) = L.run L.alnB (by' s) := rfl
    generalize hn : L.run L.alnB (by' s) = n at *
    have HN := Lib.hid hr
    have hnl : (n : Int) ≤ s.size := by
      have := L.run_le L.alnB (by' s)
      rw [by_len] at this
      omega
    clear hr hn
    have he0 : extEnd 0 (1, n) = n := by simp [extEnd]
    have HE0 := Lib.hid he0
    clear he0
    go_enter Try.func39, Try.ntmps39
    go_wp2_with fail
    with_reducible refine (extent_zero s 1 n 1 _ HS.out (by rw [HC.out, HN.out]) rfl).mono ?_
    rintro e w' ⟨rfl, rfl⟩
    rw [HE0.out]
    cases hk : kwB (by' s)
    all_goals
      have HK := Lib.hid hk
      clear hk
      go_wp2_with (go_at_call 56; refine (keyword_any s _).mono ?_; rintro e w' ⟨rfl, rfl⟩; rw [HK.out])
      all_goals
        go_ret
        refine ⟨ret_bool ?_, rfl⟩
        rw [H.out, HK.out]
        clear H HK HC HN HE0
        (try simp at *) <;> omega
/-! ### the document's answer -/
theorem not_nil {s : ByteArray} (h : 0 < s.size) : ¬ s.toList = [] := by
  intro e
  have := by_len s
  rw [← toList_by, e] at this
  simp at this
  omega
theorem nil_is {s : ByteArray} (h : ¬ 0 < s.size) : s = ⟨#[]⟩ := by
  apply by_inj
  have := by_len s
  have h0 : (by' s).length = 0 := by omega
  rw [List.eq_nil_of_length_eq_zero h0]
  rfl
end Go.Proofs.Ytlgnagmmljdkiab.Lx
/-
  What sign of the document's answer tells, as a contract.
-/
namespace Go.Proofs.Ytlgnagmmljdkiab.Lx
open Go.RowKit
set_option maxRecDepth 100000
set_option linter.unusedVariables false
set_option linter.unusedSimpArgs false
/-- How many bytes the sign at the front has; 0: none. -/
def sgn (b : UInt8) (r : List UInt8) : Nat := if b == 61 then (if r.head? == some 61 then 2 else 1) else if L.signB b then 1 else 0
theorem sgn_eq {b : UInt8} (c : UInt8) (r : List UInt8) (h : (b == 61) = true) : sgn b (c :: r) = if c == 61 then 2 else 1 := by
  rw [sgn, if_pos h]
  rfl
/-- Signs of one byte but '='. -/
def ones : List UInt8 := [123, 125, 40, 41, 59, 44, 58, 60, 43, 45]
theorem sign_ones {b : UInt8} (h : (b == 61) = false) : L.signB b = ones.any (· == b) := by
  have k := L.all_bytes (fun b => b == 61 || (L.signB b == ones.any (· == b))) (by decide +kernel) b
  simp only [h, Bool.false_or, beq_iff_eq] at k
  exact k
/-- A number is told; orders may be drawn. -/
def NumTo (v : Int) (w : World) (e : Ending) (w' : World) : Prop := e = .returned (.int .i64 v) ∧ ∃ n, w' = w.drewN n
/-- So many signs are not it. -/
def SgnR (S : ByteArray) (b : UInt8) (w : World) (t : Value) (wr : World) : Prop := ∃ j : Nat, t = .int .i64 j ∧ j ≤ S.size ∧ (∀ i, i < j → (by' S)[i]? ≠ some b) ∧ ∃ n, wr = w.drewN n
theorem sgnR_more {S : ByteArray} {b : UInt8} {w : World} {j n : Nat} (hj : j < S.size) (h : ∀ i, i < j → (by' S)[i]? ≠ some b) (h' : ¬ S[j] = b) : SgnR S b w (.int .i64 ((j : Int) + 1)) (w.drewN n) := by
  refine ⟨j + 1, by go_num, by omega, ?_, n, rfl⟩
  intro i hi
  by_cases e : i = j
  · subst e
    rw [List.getElem?_eq_getElem (by rw [by_len]; exact hj)]
    intro h2
    injection h2 with h2
    exact h' h2
  · exact h i (by omega)
theorem any_at {S : ByteArray} {b : UInt8} {j : Nat} (hj : j < S.size) (h : S[j] = b) : (by' S).any (· == b) = true := by
  rw [List.any_eq_true]
  exact ⟨S[j], List.getElem_mem (l := by' S) (by rw [by_len]; exact hj), by rw [h]; simp⟩
theorem any_not {S : ByteArray} {b : UInt8} (h : ∀ i, i < S.size → (by' S)[i]? ≠ some b) : (by' S).any (· == b) = false := by
  cases ha : (by' S).any (· == b)
  · rfl
  · exfalso
    rw [List.any_eq_true] at ha
    obtain ⟨x, hx, he⟩ := ha
    obtain ⟨j, hj, rfl⟩ := List.getElem_of_mem hx
    refine h j (by rw [← by_len]; exact hj) ?_
    rw [List.getElem?_eq_getElem hj]
    simpa using he
theorem nat_beq (a b : UInt8) : (((a.toNat : Nat) : Int) == ((b.toNat : Nat) : Int)) = (a == b) := by
  rw [beq_int, Bool.eq_iff_iff]
  simp
end Go.Proofs.Ytlgnagmmljdkiab.Lx
/-
  What Lex of the document's answer tells, as a contract.
-/
namespace Go.Proofs.Ytlgnagmmljdkiab.Lx
open Go.RowKit
set_option maxRecDepth 100000
set_option linter.unusedVariables false
set_option linter.unusedSimpArgs false
/-! ### what stands at the front -/
theorem skip_blank {s : ByteArray} {m : Nat} (hm : m < s.size) (h : L.blankB s[m] = true) : L.lexL m (rest s m) = L.lexL (m + 1) (rest s (m + 1)) := by
  rw [rest_lt hm, L.lex_skip (k := 0) (L.nx_blank h)]
  rfl
theorem skip_line {s : ByteArray} {m : Nat} (h : [47, 47].isPrefixOf (rest s m) = true) : L.lexL m (rest s m) = L.lexL (m + L.run L.not10 (rest s m)) (rest s (m + L.run L.not10 (rest s m))) := by
  rw [← rest_drop]
  exact lex_line _ _ h
theorem nx_word_at {s : ByteArray} {m : Nat} (hm : m < s.size) (h : L.letB s[m] = true) : L.nx s[m] (rest s (m + 1)) = .tok 1 (L.run L.alnB (rest s m)) 0 := by
  rw [L.nx_word h, rest_lt hm, L.run_cons_pos _ (show L.alnB s[m] = true by simp [L.alnB, h])]
theorem nx_num_at {s : ByteArray} {m : Nat} (hm : m < s.size) (h : L.digB s[m] = true) (hv : L.val (by' (s.extract m (m + L.run L.digB (rest s m)))) ≤ L.top) : L.nx s[m] (rest s (m + 1)) = .tok 2 (L.run L.digB (rest s m)) (L.val (by' (s.extract m (m + L.run L.digB (rest s m))))) := by
  have e : L.run L.digB (rest s m) = L.run L.digB (rest s (m + 1)) + 1 := by rw [rest_lt hm, L.run_cons_pos _ h]
  rw [e, ext_take, rest_lt hm] at hv ⊢
  exact L.nx_num h hv
theorem nx_long_at {s : ByteArray} {m : Nat} (hm : m < s.size) (h : L.digB s[m] = true) (hv : ¬ L.val (by' (s.extract m (m + L.run L.digB (rest s m)))) ≤ L.top) : L.nx s[m] (rest s (m + 1)) = .bad .long := by
  have e : L.run L.digB (rest s m) = L.run L.digB (rest s (m + 1)) + 1 := by rw [rest_lt hm, L.run_cons_pos _ h]
  rw [e, ext_take, rest_lt hm] at hv
  exact L.nx_long h hv
theorem nx_sgn_at {s : ByteArray} {m n : Nat} (hm : m < s.size) (h1 : L.blankB s[m] = false) (h2 : [47, 47].isPrefixOf (rest s m) = false) (h3 : L.letB s[m] = false) (h4 : L.digB s[m] = false) (hn : sgn s[m] (rest s (m + 1)) = n + 1) : L.nx s[m] (rest s (m + 1)) = .tok 3 (n + 1) 0 := by
  rw [rest_lt hm, pre2] at h2
  unfold L.nx
  rw [h1, h2, h3, h4, ← hn]
  unfold sgn
  simp only [Bool.false_eq_true, if_false]
  unfold sgn at hn
  split
  · split <;> rfl
  · rename_i h5
    rw [if_neg h5] at hn
    split
    · rfl
    · rename_i h6
      rw [if_neg h6] at hn
      cases hn
theorem nx_form_at {s : ByteArray} {m : Nat} (hm : m < s.size) (h1 : L.blankB s[m] = false) (h2 : [47, 47].isPrefixOf (rest s m) = false) (h3 : L.letB s[m] = false) (h4 : L.digB s[m] = false) (hn : sgn s[m] (rest s (m + 1)) = 0) : L.nx s[m] (rest s (m + 1)) = .bad .form := by
  rw [rest_lt hm, pre2] at h2
  refine L.nx_form h1 h2 h3 h4 ?_
  unfold sgn at hn
  split at hn
  · split at hn <;> cases hn
  · split at hn
    · cases hn
    · rename_i h6
      simpa using h6
theorem sgn_in {s : ByteArray} {m : Nat} (hm : m < s.size) : m + sgn s[m] (rest s (m + 1)) ≤ s.size := by
  unfold sgn
  split
  · split
    · rename_i h
      have : m + 1 < s.size := by
        by_cases hlt : m + 1 < s.size
        · exact hlt
        · rw [rest_ge (by omega)] at h
          simp at h
      omega
    · omega
  · split <;> omega
/-- The test for a remark, as the walk meets it. -/
theorem remark_yes {s : ByteArray} {m : Nat} (hm : m < s.size) (h : [47, 47].isPrefixOf (rest s m) = true) : ∃ h1 : m + 1 < s.size, (s[m] == 47) = true ∧ (s[m + 1] == 47) = true := by
  rw [rest_lt hm, pre2] at h
  simp only [Bool.and_eq_true] at h
  obtain ⟨ha, hb⟩ := h
  have h1 : m + 1 < s.size := by
    by_cases hlt : m + 1 < s.size
    · exact hlt
    · rw [rest_ge (by omega)] at hb
      simp at hb
  refine ⟨h1, ha, ?_⟩
  rw [rest_lt h1] at hb
  simpa using hb
theorem remark_no {s : ByteArray} {m : Nat} (hm : m < s.size) (h : [47, 47].isPrefixOf (rest s m) = false) : (s[m] == 47) = false ∨ ((s[m] == 47) = true ∧ ¬ m + 1 < s.size) ∨ ((s[m] == 47) = true ∧ ∃ h1 : m + 1 < s.size, (s[m + 1] == 47) = false) := by
  cases ha : s[m] == 47
  · exact .inl rfl
  · refine .inr ?_
    by_cases h1 : m + 1 < s.size
    · refine .inr ⟨rfl, h1, ?_⟩
      rw [rest_lt hm, pre2, ha, rest_lt h1, Bool.true_and] at h
      simpa using h
    · exact .inl ⟨rfl, h1⟩
theorem byte_is {b c : UInt8} {x : Bool} (h : (b == c) = x) : (((b.toNat : Nat) : Int) == ((c.toNat : Nat) : Int)) = x := by rw [nat_beq, h]
end Go.Proofs.Ytlgnagmmljdkiab.Lx
