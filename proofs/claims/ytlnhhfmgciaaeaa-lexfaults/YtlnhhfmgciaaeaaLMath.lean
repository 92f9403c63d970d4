/-
  PLAIN MATHEMATICS of tokens: which ones a list of bytes has, or what is wrong of it; of no program. It proves nothing of Go.
-/
namespace Go.Proofs.Ytlnhhfmgciaaeaa.L
set_option linter.unusedVariables false
set_option linter.unusedSimpArgs false
/-! ### kinds of bytes -/
def letB (b : UInt8) : Bool := (decide (97 ≤ b.toNat) && decide (b.toNat ≤ 122)) || (decide (65 ≤ b.toNat) && decide (b.toNat ≤ 90))
def digB (b : UInt8) : Bool := decide (48 ≤ b.toNat) && decide (b.toNat ≤ 57)
def blankB (b : UInt8) : Bool := b == 32 || b == 9 || b == 10 || b == 13
def alnB (b : UInt8) : Bool := letB b || digB b
/-- A sign of one byte, '=' too. -/
def signB (b : UInt8) : Bool := b == 123 || b == 125 || b == 40 || b == 41 || b == 59 || b == 44 || b == 58 || b == 60 || b == 43 || b == 45 || b == 61
/-- How many bytes from the front are so. -/
def run (p : UInt8 → Bool) (l : List UInt8) : Nat := (l.takeWhile p).length
theorem run_le (p : UInt8 → Bool) (l : List UInt8) : run p l ≤ l.length := by
  unfold run
  exact (List.takeWhile_prefix p).length_le
theorem run_nil (p : UInt8 → Bool) : run p [] = 0 := rfl
theorem run_cons_pos {p : UInt8 → Bool} {b : UInt8} (l : List UInt8) (h : p b = true) : run p (b :: l) = run p l + 1 := by
  simp [run, List.takeWhile_cons, h]
theorem run_cons_neg {p : UInt8 → Bool} {b : UInt8} (l : List UInt8) (h : p b = false) : run p (b :: l) = 0 := by
  simp [run, List.takeWhile_cons, h]
/-- All of a, and then none. -/
theorem run_append {p : UInt8 → Bool} : ∀ (a r : List UInt8), (∀ b ∈ a, p b = true) → run p (a ++ r) = a.length + run p r
  | [], r, _ => by simp
  | b :: a, r, h => by
    rw [List.cons_append, run_cons_pos _ (h b (List.mem_cons_self ..)), run_append a r (fun c hc => h c (List.mem_cons_of_mem _ hc)), List.length_cons]
    omega
/-- The next byte is one of them if there are more than so many. -/
theorem run_lt {p : UInt8 → Bool} : ∀ (l : List UInt8) (k : Nat), k < run p l → ∃ b, l[k]? = some b ∧ p b = true
  | [], k, h => by simp [run] at h
  | b :: l, k, h => by
    cases hb : p b
    · rw [run_cons_neg _ hb] at h
      omega
    · rw [run_cons_pos _ hb] at h
      cases k with
      | zero => exact ⟨b, rfl, hb⟩
      | succ k =>
        obtain ⟨c, hc, hp⟩ := run_lt (p := p) l k (by omega)
        exact ⟨c, by simpa using hc, hp⟩
theorem run_end {p : UInt8 → Bool} : ∀ (l : List UInt8) (b : UInt8), l[run p l]? = some b → p b = false
  | [], b, h => by simp at h
  | c :: l, b, h => by
    cases hc : p c
    · rw [run_cons_neg _ hc] at h
      simp at h
      rw [← h]
      exact hc
    · rw [run_cons_pos _ hc] at h
      exact run_end l b (by simpa using h)
/-- So many are so, and the next one is not: so many it is. -/
theorem run_is {p : UInt8 → Bool} (l : List UInt8) (k : Nat) (h : ∀ j, j < k → ∃ b, l[j]? = some b ∧ p b = true) (he : k = l.length ∨ ∃ b, l[k]? = some b ∧ p b = false) : run p l = k := by
  rcases Nat.lt_trichotomy (run p l) k with hlt | heq | hgt
  · obtain ⟨b, hb, hp⟩ := h _ hlt
    have := run_end l b hb
    rw [hp] at this
    cases this
  · exact heq
  · obtain ⟨b, hb, hp⟩ := run_lt l k hgt
    rcases he with he | ⟨c, hc, hn⟩
    · have := run_le p l
      omega
    · rw [hb] at hc
      cases hc
      rw [hp] at hn
      cases hn
/-! ### numbers -/
def top : Nat := 4611686018427387904
def dig (n : Nat) (b : UInt8) : Nat := 10 * n + (b.toNat - 48)
/-- What digits come to. -/
def val (l : List UInt8) : Nat := l.foldl dig 0
theorem fold_ge : ∀ (l : List UInt8) (n : Nat), n ≤ l.foldl dig n
  | [], n => Nat.le_refl _
  | b :: l, n => by
    have := fold_ge l (dig n b)
    simp only [List.foldl_cons]
    unfold dig at *
    omega
theorem val_snoc (l : List UInt8) (b : UInt8) : val (l ++ [b]) = 10 * val l + (b.toNat - 48) := by
  unfold val
  rw [List.foldl_append]
  rfl
theorem val_le_append (l m : List UInt8) : val l ≤ val (l ++ m) := by
  unfold val
  rw [List.foldl_append]
  exact fold_ge m _
theorem val_noughts (l : List UInt8) : ∀ k : Nat, val (List.replicate k 48 ++ l) = val l
  | 0 => by simp
  | k + 1 => by
    rw [List.replicate_succ, List.cons_append]
    show val (List.replicate k 48 ++ l) = val l
    exact val_noughts l k
/-! ### tokens -/
/-- A token: 1 Word, 2 Number, 3 Sign, 4 End (the program's own numbers are laid in place of these by kindI). -/
structure Tok where
  kind : Nat
  text : List UInt8
  n : Nat
  at' : Nat
deriving DecidableEq
/-- What is wrong of a text. -/
inductive Bad where
  | form
  | long
deriving DecidableEq
/-- What stands at the front. -/
inductive Nx where
  | skip (k : Nat)
  | tok (kind k n : Nat)
  | bad (e : Bad)
def not10 (b : UInt8) : Bool := b != 10
def nx (b : UInt8) (r : List UInt8) : Nx :=
  if blankB b then .skip 1
  else if b == 47 && r.head? == some 47 then .skip (run not10 (b :: r))
  else if letB b then .tok 1 (run alnB (b :: r)) 0
  else if digB b then
    (if val ((b :: r).take (run digB (b :: r))) ≤ top then .tok 2 (run digB (b :: r)) (val ((b :: r).take (run digB (b :: r)))) else .bad .long)
  else if b == 61 then (if r.head? == some 61 then .tok 3 2 0 else .tok 3 1 0)
  else if signB b then .tok 3 1 0
  else .bad .form
abbrev Out := Except (Bad × Nat) (List Tok)
def pre (ts : List Tok) : Out → Out
  | .ok us => .ok (ts ++ us)
  | .error e => .error e
theorem pre_nil (o : Out) : pre [] o = o := by cases o <;> rfl
theorem pre_pre (a b : List Tok) (o : Out) : pre a (pre b o) = pre (a ++ b) o := by
  cases o
  · rfl
  · simp [pre]
def lexL (pos : Nat) : List UInt8 → Out
  | [] => .ok [⟨4, [], 0, pos⟩]
  | b :: r => match nx b r with
    | .skip k => lexL (pos + k) (r.drop (k - 1))
    | .tok kind k n => pre [⟨kind, (b :: r).take k, n, pos⟩] (lexL (pos + k) (r.drop (k - 1)))
    | .bad e => .error (e, pos)
termination_by l => l.length
decreasing_by
  all_goals
    simp only [List.length_drop, List.length_cons]
    omega
theorem lex_nil (pos : Nat) : lexL pos [] = .ok [⟨4, [], 0, pos⟩] := by rw [lexL]
theorem lex_skip {pos : Nat} {b : UInt8} {r : List UInt8} {k : Nat} (h : nx b r = .skip (k + 1)) : lexL pos (b :: r) = lexL (pos + (k + 1)) ((b :: r).drop (k + 1)) := by
  rw [lexL, h]
  rfl
theorem lex_tok {pos : Nat} {b : UInt8} {r : List UInt8} {kind k n : Nat} (h : nx b r = .tok kind (k + 1) n) : lexL pos (b :: r) = pre [⟨kind, (b :: r).take (k + 1), n, pos⟩] (lexL (pos + (k + 1)) ((b :: r).drop (k + 1))) := by
  rw [lexL, h]
  rfl
theorem lex_bad {pos : Nat} {b : UInt8} {r : List UInt8} {e : Bad} (h : nx b r = .bad e) : lexL pos (b :: r) = .error (e, pos) := by
  rw [lexL, h]
/-! ### what stands at the front, case by case -/
theorem nx_blank {b : UInt8} {r : List UInt8} (h : blankB b = true) : nx b r = .skip 1 := by
  simp [nx, h]
theorem nx_remark {r : List UInt8} : nx 47 (47 :: r) = .skip (run not10 r + 2) := by
  have h0 : blankB 47 = false := by decide
  have h1 : run not10 (47 :: 47 :: r) = run not10 r + 2 := by
    rw [run_cons_pos _ (by decide), run_cons_pos _ (by decide)]
  simp [nx, h0, h1]
/-- What is so of each of the 256 bytes is so of every byte. -/
theorem all_bytes (P : UInt8 → Bool) (h : ((List.range 256).all fun n => P (UInt8.ofNat n)) = true) (b : UInt8) : P b = true := by
  have h1 := List.all_eq_true.1 h b.toNat (List.mem_range.2 b.toNat_lt)
  simpa using h1
theorem let_not {b : UInt8} (h : letB b = true) : blankB b = false ∧ (b == 47) = false ∧ digB b = false ∧ signB b = false ∧ (b == 61) = false := by
  have k := all_bytes (fun b => !letB b || (!blankB b && !(b == 47) && !digB b && !signB b && !(b == 61))) (by decide +kernel) b
  simp only [h, Bool.not_true, Bool.false_or, Bool.and_eq_true, Bool.not_eq_true'] at k
  simp only [k, and_self, and_true]
theorem dig_not {b : UInt8} (h : digB b = true) : blankB b = false ∧ (b == 47) = false ∧ letB b = false ∧ signB b = false ∧ (b == 61) = false := by
  have k := all_bytes (fun b => !digB b || (!blankB b && !(b == 47) && !letB b && !signB b && !(b == 61))) (by decide +kernel) b
  simp only [h, Bool.not_true, Bool.false_or, Bool.and_eq_true, Bool.not_eq_true'] at k
  simp only [k, and_self, and_true]
theorem sign_not {b : UInt8} (h : signB b = true) : blankB b = false ∧ (b == 47) = false ∧ letB b = false ∧ digB b = false := by
  have k := all_bytes (fun b => !signB b || (!blankB b && !(b == 47) && !letB b && !digB b)) (by decide +kernel) b
  simp only [h, Bool.not_true, Bool.false_or, Bool.and_eq_true, Bool.not_eq_true'] at k
  simp only [k, and_self, and_true]
theorem nx_word {b : UInt8} {r : List UInt8} (h : letB b = true) : nx b r = .tok 1 (run alnB r + 1) 0 := by
  obtain ⟨h1, h2, h3, h4, h5⟩ := let_not h
  have e : run alnB (b :: r) = run alnB r + 1 := run_cons_pos _ (by simp [alnB, h])
  simp [nx, h1, h2, h, e]
theorem nx_num {b : UInt8} {r : List UInt8} (h : digB b = true) (hv : val ((b :: r).take (run digB r + 1)) ≤ top) : nx b r = .tok 2 (run digB r + 1) (val ((b :: r).take (run digB r + 1))) := by
  obtain ⟨h1, h2, h3, h4, h5⟩ := dig_not h
  have e : run digB (b :: r) = run digB r + 1 := run_cons_pos _ h
  simp only [nx, h1, h2, h3, h, e, Bool.false_eq_true, if_false, if_true, Bool.false_and]
  rw [if_pos hv]
theorem nx_long {b : UInt8} {r : List UInt8} (h : digB b = true) (hv : ¬ val ((b :: r).take (run digB r + 1)) ≤ top) : nx b r = .bad .long := by
  obtain ⟨h1, h2, h3, h4, h5⟩ := dig_not h
  have e : run digB (b :: r) = run digB r + 1 := run_cons_pos _ h
  simp only [nx, h1, h2, h3, h, e, Bool.false_eq_true, if_false, if_true, Bool.false_and]
  rw [if_neg hv]
theorem nx_two {r : List UInt8} : nx 61 (61 :: r) = .tok 3 2 0 := by
  have h0 : blankB 61 = false := by decide
  have h1 : letB 61 = false := by decide
  have h2 : digB 61 = false := by decide
  simp [nx, h0, h1, h2]
theorem nx_sign {b : UInt8} {r : List UInt8} (h : signB b = true) (hn : b = 61 → r.head? ≠ some 61) : nx b r = .tok 3 1 0 := by
  obtain ⟨h1, h2, h3, h4⟩ := sign_not h
  by_cases he : b = 61
  · have := hn he
    subst he
    simp [nx, h1, h3, h4, this]
  · have he' : (b == 61) = false := by simpa using he
    simp [nx, h1, h2, h3, h4, he', h]
/-- A byte that begins nothing, whatever stands behind it. -/
def oddB (b : UInt8) : Bool := !(blankB b || letB b || digB b || signB b || b == 47)
theorem nx_form {b : UInt8} {r : List UInt8} (h1 : blankB b = false) (h2 : (b == 47 && r.head? == some 47) = false) (h3 : letB b = false) (h4 : digB b = false) (h5 : signB b = false) : nx b r = .bad .form := by
  have h6 : (b == 61) = false := by
    revert h5
    simp [signB]
  simp only [nx, h1, h2, h3, h4, h5, h6, Bool.false_eq_true, if_false]
theorem nx_odd {b : UInt8} {r : List UInt8} (h : oddB b = true) : nx b r = .bad .form := by
  simp only [oddB, Bool.not_eq_true', Bool.or_eq_false_iff] at h
  obtain ⟨⟨⟨⟨h1, h2⟩, h3⟩, h4⟩, h5⟩ := h
  exact nx_form h1 (by rw [h5]; rfl) h2 h3 h4
end Go.Proofs.Ytlnhhfmgciaaeaa.L
