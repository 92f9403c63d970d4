/-
  PLAIN MATHEMATICS of tokens: which ones a list of bytes has, or what is wrong of it; of no program. It proves nothing of Go.
-/
namespace Go.Proofs.YtchokfgffnomoaaDoor.L
set_option maxRecDepth 100000
set_option linter.unusedVariables false
set_option linter.unusedSimpArgs false
/-! ### kinds of bytes -/
def letB (b : UInt8) : Bool := (decide (97 ≤ b.toNat) && decide (b.toNat ≤ 122)) || (decide (65 ≤ b.toNat) && decide (b.toNat ≤ 90))
def digB (b : UInt8) : Bool := decide (48 ≤ b.toNat) && decide (b.toNat ≤ 57)
def blankB (b : UInt8) : Bool := b == 32 || b == 9 || b == 10 || b == 13
def alnB (b : UInt8) : Bool := letB b || digB b
/-- A sign of one byte, '=' too. -/
def signB (b : UInt8) : Bool := b == 123 || b == 125 || b == 40 || b == 41 || b == 59 || b == 44 || b == 58 || b == 60 || b == 43 || b == 45 || b == 61
/-- How many bytes from the front are so. -/
def run (p : UInt8 → Bool) (l : List UInt8) : Nat := (l.takeWhile p).length
theorem run_le (p : UInt8 → Bool) (l : List UInt8) : run p l ≤ l.length := by
  unfold run
  exact (List.takeWhile_prefix p).length_le
theorem run_nil (p : UInt8 → Bool) : run p [] = 0 := rfl
theorem run_cons_pos {p : UInt8 → Bool} {b : UInt8} (l : List UInt8) (h : p b = true) : run p (b :: l) = run p l + 1 := by
  simp [run, List.takeWhile_cons, h]
theorem run_cons_neg {p : UInt8 → Bool} {b : UInt8} (l : List UInt8) (h : p b = false) : run p (b :: l) = 0 := by
  simp [run, List.takeWhile_cons, h]
/-- All of a, and then none. -/
theorem run_append {p : UInt8 → Bool} : ∀ (a r : List UInt8), (∀ b ∈ a, p b = true) → run p (a ++ r) = a.length + run p r
  | [], r, _ => by simp
  | b :: a, r, h => by
    rw [List.cons_append, run_cons_pos _ (h b (List.mem_cons_self ..)), run_append a r (fun c hc => h c (List.mem_cons_of_mem _ hc)), List.length_cons]
    omega
/-- The next byte is one of them if there are more than so many. -/
theorem run_lt {p : UInt8 → Bool} : ∀ (l : List UInt8) (k : Nat), k < run p l → ∃ b, l[k]? = some b ∧ p b = true
  | [], k, h => by simp [run] at h
  | b :: l, k, h => by
    cases hb : p b
    · rw [run_cons_neg _ hb] at h
      omega
    · rw [run_cons_pos _ hb] at h
      cases k with
      | zero => exact ⟨b, rfl, hb⟩
      | succ k =>
        obtain ⟨c, hc, hp⟩ := run_lt (p := p) l k (by omega)
        exact ⟨c, by simpa using hc, hp⟩
theorem run_end {p : UInt8 → Bool} : ∀ (l : List UInt8) (b : UInt8), l[run p l]? = some b → p b = false
  | [], b, h => by simp at h
  | c :: l, b, h => by
    cases hc : p c
    · rw [run_cons_neg _ hc] at h
      simp at h
      rw [← h]
      exact hc
    · rw [run_cons_pos _ hc] at h
      exact run_end l b (by simpa using h)
/-- So many are so, and the next one is not: so many it is. -/
theorem run_is {p : UInt8 → Bool} (l : List UInt8) (k : Nat) (h : ∀ j, j < k → ∃ b, l[j]? = some b ∧ p b = true) (he : k = l.length ∨ ∃ b, l[k]? = some b ∧ p b = false) : run p l = k := by
  rcases Nat.lt_trichotomy (run p l) k with hlt | heq | hgt
  · obtain ⟨b, hb, hp⟩ := h _ hlt
    have := run_end l b hb
    rw [hp] at this
    cases this
  · exact heq
  · obtain ⟨b, hb, hp⟩ := run_lt l k hgt
    rcases he with he | ⟨c, hc, hn⟩
    · have := run_le p l
      omega
    · rw [hb] at hc
      cases hc
      rw [hp] at hn
      cases hn
/-! ### numbers -/
def top : Nat := 4611686018427387904
def dig (n : Nat) (b : UInt8) : Nat := 10 * n + (b.toNat - 48)
/-- What digits come to. -/
def val (l : List UInt8) : Nat := l.foldl dig 0
theorem fold_ge : ∀ (l : List UInt8) (n : Nat), n ≤ l.foldl dig n
  | [], n => Nat.le_refl _
  | b :: l, n => by
    have := fold_ge l (dig n b)
    simp only [List.foldl_cons]
    unfold dig at *
    omega
theorem val_snoc (l : List UInt8) (b : UInt8) : val (l ++ [b]) = 10 * val l + (b.toNat - 48) := by
  unfold val
  rw [List.foldl_append]
  rfl
theorem val_le_append (l m : List UInt8) : val l ≤ val (l ++ m) := by
  unfold val
  rw [List.foldl_append]
  exact fold_ge m _
theorem val_noughts (l : List UInt8) : ∀ k : Nat, val (List.replicate k 48 ++ l) = val l
  | 0 => by simp
  | k + 1 => by
    rw [List.replicate_succ, List.cons_append]
    show val (List.replicate k 48 ++ l) = val l
    exact val_noughts l k
/-! ### tokens -/
/-- A token: 1 Word, 2 Number, 3 Sign, 4 End (the program's own numbers are laid in place of these by kindI). -/
structure Tok where
  kind : Nat
  text : List UInt8
  n : Nat
  at' : Nat
deriving DecidableEq
/-- What is wrong of a text. -/
inductive Bad where
  | form
  | long
deriving DecidableEq
/-- What stands at the front. -/
inductive Nx where
  | skip (k : Nat)
  | tok (kind k n : Nat)
  | bad (e : Bad)
def not10 (b : UInt8) : Bool := b != 10
def nx (b : UInt8) (r : List UInt8) : Nx :=
  if blankB b then .skip 1
  else if b == 47 && r.head? == some 47 then .skip (run not10 (b :: r))
  else if letB b then .tok 1 (run alnB (b :: r)) 0
  else if digB b then
    (if val ((b :: r).take (run digB (b :: r))) ≤ top then .tok 2 (run digB (b :: r)) (val ((b :: r).take (run digB (b :: r)))) else .bad .long)
  else if b == 61 then (if r.head? == some 61 then .tok 3 2 0 else .tok 3 1 0)
  else if signB b then .tok 3 1 0
  else .bad .form
abbrev Out := Except (Bad × Nat) (List Tok)
def pre (ts : List Tok) : Out → Out
  | .ok us => .ok (ts ++ us)
  | .error e => .error e
theorem pre_nil (o : Out) : pre [] o = o := by cases o <;> rfl
theorem pre_pre (a b : List Tok) (o : Out) : pre a (pre b o) = pre (a ++ b) o := by
  cases o
  · rfl
  · simp [pre]
def lexL (pos : Nat) : List UInt8 → Out
  | [] => .ok [⟨4, [], 0, pos⟩]
  | b :: r => match nx b r with
    | .skip k => lexL (pos + k) (r.drop (k - 1))
    | .tok kind k n => pre [⟨kind, (b :: r).take k, n, pos⟩] (lexL (pos + k) (r.drop (k - 1)))
    | .bad e => .error (e, pos)
termination_by l => l.length
decreasing_by
  all_goals
    simp only [List.length_drop, List.length_cons]
    omega
theorem lex_nil (pos : Nat) : lexL pos [] = .ok [⟨4, [], 0, pos⟩] := by rw [lexL]
theorem lex_skip {pos : Nat} {b : UInt8} {r : List UInt8} {k : Nat} (h : nx b r = .skip (k + 1)) : lexL pos (b :: r) = lexL (pos + (k + 1)) ((b :: r).drop (k + 1)) := by
  rw [lexL, h]
  rfl
theorem lex_tok {pos : Nat} {b : UInt8} {r : List UInt8} {kind k n : Nat} (h : nx b r = .tok kind (k + 1) n) : lexL pos (b :: r) = pre [⟨kind, (b :: r).take (k + 1), n, pos⟩] (lexL (pos + (k + 1)) ((b :: r).drop (k + 1))) := by
  rw [lexL, h]
  rfl
theorem lex_bad {pos : Nat} {b : UInt8} {r : List UInt8} {e : Bad} (h : nx b r = .bad e) : lexL pos (b :: r) = .error (e, pos) := by
  rw [lexL, h]
/-! ### what stands at the front, case by case -/
theorem nx_blank {b : UInt8} {r : List UInt8} (h : blankB b = true) : nx b r = .skip 1 := by
  simp [nx, h]
theorem nx_remark {r : List UInt8} : nx 47 (47 :: r) = .skip (run not10 r + 2) := by
  have h0 : blankB 47 = false := by decide
  have h1 : run not10 (47 :: 47 :: r) = run not10 r + 2 := by
    rw [run_cons_pos _ (by decide), run_cons_pos _ (by decide)]
  simp [nx, h0, h1]
/-- What is so of each of the 256 bytes is so of every byte. -/
theorem all_bytes (P : UInt8 → Bool) (h : ((List.range 256).all fun n => P (UInt8.ofNat n)) = true) (b : UInt8) : P b = true := by
  have h1 := List.all_eq_true.1 h b.toNat (List.mem_range.2 b.toNat_lt)
  simpa using h1
theorem let_not {b : UInt8} (h : letB b = true) : blankB b = false ∧ (b == 47) = false ∧ digB b = false ∧ signB b = false ∧ (b == 61) = false := by
  have k := all_bytes (fun b => !letB b || (!blankB b && !(b == 47) && !digB b && !signB b && !(b == 61))) (by decide +kernel) b
  simp only [h, Bool.not_true, Bool.false_or, Bool.and_eq_true, Bool.not_eq_true'] at k
  simp only [k, and_self, and_true]
theorem dig_not {b : UInt8} (h : digB b = true) : blankB b = false ∧ (b == 47) = false ∧ letB b = false ∧ signB b = false ∧ (b == 61) = false := by
  have k := all_bytes (fun b => !digB b || (!blankB b && !(b == 47) && !letB b && !signB b && !(b == 61))) (by decide +kernel) b
  simp only [h, Bool.not_true, Bool.false_or, Bool.and_eq_true, Bool.not_eq_true'] at k
  simp only [k, and_self, and_true]
theorem sign_not {b : UInt8} (h : signB b = true) : blankB b = false ∧ (b == 47) = false ∧ letB b = false ∧ digB b = false := by
  have k := all_bytes (fun b => !signB b || (!blankB b && !(b == 47) && !letB b && !digB b)) (by decide +kernel) b
  simp only [h, Bool.not_true, Bool.false_or, Bool.and_eq_true, Bool.not_eq_true'] at k
  simp only [k, and_self, and_true]
theorem nx_word {b : UInt8} {r : List UInt8} (h : letB b = true) : nx b r = .tok 1 (run alnB r + 1) 0 := by
  obtain ⟨h1, h2, h3, h4, h5⟩ := let_not h
  have e : run alnB (b :: r) = run alnB r + 1 := run_cons_pos _ (by simp [alnB, h])
  simp [nx, h1, h2, h, e]
theorem nx_num {b : UInt8} {r : List UInt8} (h : digB b = true) (hv : val ((b :: r).take (run digB r + 1)) ≤ top) : nx b r = .tok 2 (run digB r + 1) (val ((b :: r).take (run digB r + 1))) := by
  obtain ⟨h1, h2, h3, h4, h5⟩ := dig_not h
  have e : run digB (b :: r) = run digB r + 1 := run_cons_pos _ h
  simp only [nx, h1, h2, h3, h, e, Bool.false_eq_true, if_false, if_true, Bool.false_and]
  rw [if_pos hv]
theorem nx_long {b : UInt8} {r : List UInt8} (h : digB b = true) (hv : ¬ val ((b :: r).take (run digB r + 1)) ≤ top) : nx b r = .bad .long := by
  obtain ⟨h1, h2, h3, h4, h5⟩ := dig_not h
  have e : run digB (b :: r) = run digB r + 1 := run_cons_pos _ h
  simp only [nx, h1, h2, h3, h, e, Bool.false_eq_true, if_false, if_true, Bool.false_and]
  rw [if_neg hv]
theorem nx_two {r : List UInt8} : nx 61 (61 :: r) = .tok 3 2 0 := by
  have h0 : blankB 61 = false := by decide
  have h1 : letB 61 = false := by decide
  have h2 : digB 61 = false := by decide
  simp [nx, h0, h1, h2]
theorem nx_sign {b : UInt8} {r : List UInt8} (h : signB b = true) (hn : b = 61 → r.head? ≠ some 61) : nx b r = .tok 3 1 0 := by
  obtain ⟨h1, h2, h3, h4⟩ := sign_not h
  by_cases he : b = 61
  · have := hn he
    subst he
    simp [nx, h1, h3, h4, this]
  · have he' : (b == 61) = false := by simpa using he
    simp [nx, h1, h2, h3, h4, he', h]
/-- A byte that begins nothing, whatever stands behind it. -/
def oddB (b : UInt8) : Bool := !(blankB b || letB b || digB b || signB b || b == 47)
theorem nx_form {b : UInt8} {r : List UInt8} (h1 : blankB b = false) (h2 : (b == 47 && r.head? == some 47) = false) (h3 : letB b = false) (h4 : digB b = false) (h5 : signB b = false) : nx b r = .bad .form := by
  have h6 : (b == 61) = false := by
    revert h5
    simp [signB]
  simp only [nx, h1, h2, h3, h4, h5, h6, Bool.false_eq_true, if_false]
theorem nx_odd {b : UInt8} {r : List UInt8} (h : oddB b = true) : nx b r = .bad .form := by
  simp only [oddB, Bool.not_eq_true', Bool.or_eq_false_iff] at h
  obtain ⟨⟨⟨⟨h1, h2⟩, h3⟩, h4⟩, h5⟩ := h
  exact nx_form h1 (by rw [h5]; rfl) h2 h3 h4
end Go.Proofs.YtchokfgffnomoaaDoor.L
/-
  PLAIN MATHEMATICS of tokens of texts that are put together; of no program. It proves nothing of Go.
-/
namespace Go.Proofs.YtchokfgffnomoaaDoor.L
set_option maxRecDepth 100000
set_option linter.unusedVariables false
set_option linter.unusedSimpArgs false
/-- A text that brings just these tokens, whatever stands behind it. -/
def Eats (a : List UInt8) (ts : Nat → List Tok) : Prop := ∀ pos r, lexL pos (a ++ r) = pre (ts pos) (lexL (pos + a.length) r)
/-- A text that only parts. -/
def Parts (a : List UInt8) : Prop := ∀ pos r, lexL pos (a ++ r) = lexL (pos + a.length) r
theorem Parts.eats {a : List UInt8} (h : Parts a) : Eats a fun _ => [] := fun pos r => by rw [h, pre_nil]
theorem eats_nil : Eats [] fun _ => [] := fun pos r => by rw [pre_nil]; rfl
theorem parts_nil : Parts [] := fun pos r => rfl
theorem Eats.append {a b : List UInt8} {s t : Nat → List Tok} (ha : Eats a s) (hb : Eats b t) : Eats (a ++ b) fun pos => s pos ++ t (pos + a.length) := fun pos r => by
  rw [List.append_assoc, ha, hb, pre_pre, List.length_append, Nat.add_assoc]
theorem Parts.append {a b : List UInt8} (ha : Parts a) (hb : Parts b) : Parts (a ++ b) := fun pos r => by
  rw [List.append_assoc, ha, hb, List.length_append, Nat.add_assoc]
theorem parts_blank {b : UInt8} (h : blankB b = true) : Parts [b] := fun pos r => by
  show lexL pos (b :: r) = _
  rw [lex_skip (k := 0) (nx_blank h)]
  rfl
/-- A remark with its line's end. -/
theorem parts_remark {m : List UInt8} (h : ∀ b ∈ m, not10 b = true) : Parts (47 :: 47 :: (m ++ [10])) := fun pos r => by
  have e : run not10 (m ++ [10] ++ r) = m.length := by
    rw [List.append_assoc, run_append m _ h, List.singleton_append, run_cons_neg _ (by decide)]
    rfl
  have hn : nx 47 (47 :: (m ++ [10] ++ r)) = .skip (m.length + 1 + 1) := by rw [nx_remark, e]
  show lexL pos (47 :: 47 :: (m ++ [10] ++ r)) = _
  rw [lex_skip hn]
  have hd : (47 :: 47 :: (m ++ [10] ++ r)).drop (m.length + 1 + 1) = 10 :: r := by
    simp
  rw [hd, lex_skip (k := 0) (nx_blank (by decide))]
  simp
  congr 1
/-- A remark to the text's end. -/
theorem lex_remark_end {m : List UInt8} (h : ∀ b ∈ m, not10 b = true) (pos : Nat) : lexL pos (47 :: 47 :: m) = .ok [⟨4, [], 0, pos + (m.length + 2)⟩] := by
  have e : run not10 m = m.length := by
    have := run_append m [] h
    simpa [run_nil] using this
  have hn : nx 47 (47 :: m) = .skip (m.length + 1 + 1) := by rw [nx_remark, e]
  rw [lex_skip hn]
  have hd : (47 :: 47 :: m).drop (m.length + 1 + 1) = [] := by simp
  rw [hd, lex_nil]
/-- What may stand behind a word or a number: nothing, or what is no part of it. -/
def Stops (p : UInt8 → Bool) (r : List UInt8) : Prop := r.head?.all (fun b => !p b) = true
theorem run_stops {p : UInt8 → Bool} {r : List UInt8} (h : Stops p r) : run p r = 0 := by
  cases r with
  | nil => rfl
  | cons b r =>
    have : p b = false := by simpa [Stops] using h
    exact run_cons_neg _ this
theorem take_front (a r : List UInt8) : (a ++ r).take a.length = a := by simp
theorem drop_front (a r : List UInt8) : (a ++ r).drop a.length = r := by simp
theorem lex_word {b : UInt8} {t r : List UInt8} (hb : letB b = true) (ht : ∀ c ∈ t, alnB c = true) (hr : Stops alnB r) (pos : Nat) : lexL pos ((b :: t) ++ r) = pre [⟨1, b :: t, 0, pos⟩] (lexL (pos + (b :: t).length) r) := by
  have hn : nx b (t ++ r) = .tok 1 (t.length + 1) 0 := by
    rw [nx_word hb, run_append t r ht, run_stops hr]
  have h1 := take_front (b :: t) r
  have h2 := drop_front (b :: t) r
  rw [List.length_cons] at h1 h2 ⊢
  show lexL pos (b :: (t ++ r)) = _
  rw [lex_tok hn]
  rw [List.cons_append] at h1 h2
  rw [h1, h2]
theorem lex_num {a r : List UInt8} (h0 : a ≠ []) (ha : ∀ c ∈ a, digB c = true) (hr : Stops digB r) (hv : val a ≤ top) (pos : Nat) : lexL pos (a ++ r) = pre [⟨2, a, val a, pos⟩] (lexL (pos + a.length) r) := by
  obtain ⟨b, t, rfl⟩ := List.exists_cons_of_ne_nil h0
  have e : run digB (t ++ r) + 1 = (b :: t).length := by
    rw [run_append t r (fun c hc => ha c (List.mem_cons_of_mem _ hc)), run_stops hr]
    rfl
  have h1 := take_front (b :: t) r
  have h2 := drop_front (b :: t) r
  have hn := nx_num (b := b) (r := t ++ r) (ha b (List.mem_cons_self ..)) (by rw [e]; rw [List.cons_append] at h1; rw [h1]; exact hv)
  rw [e] at hn
  rw [List.cons_append] at h1 h2 ⊢
  rw [h1] at hn
  rw [lex_tok (k := t.length) hn]
  rw [List.length_cons] at h1 h2 ⊢
  rw [h1, h2]
theorem lex_num_long {a r : List UInt8} (h0 : a ≠ []) (ha : ∀ c ∈ a, digB c = true) (hr : Stops digB r) (hv : ¬ val a ≤ top) (pos : Nat) : lexL pos (a ++ r) = .error (.long, pos) := by
  obtain ⟨b, t, rfl⟩ := List.exists_cons_of_ne_nil h0
  have e : run digB (t ++ r) + 1 = (b :: t).length := by
    rw [run_append t r (fun c hc => ha c (List.mem_cons_of_mem _ hc)), run_stops hr]
    rfl
  have h1 := take_front (b :: t) r
  have hn := nx_long (b := b) (r := t ++ r) (ha b (List.mem_cons_self ..)) (by rw [e]; rw [List.cons_append] at h1; rw [h1]; exact hv)
  rw [List.cons_append]
  exact lex_bad hn
theorem lex_sign {b : UInt8} {r : List UInt8} (hb : signB b = true) (hr : b = 61 → r.head? ≠ some 61) (pos : Nat) : lexL pos ([b] ++ r) = pre [⟨3, [b], 0, pos⟩] (lexL (pos + 1) r) := by
  show lexL pos (b :: r) = _
  rw [lex_tok (k := 0) (nx_sign hb hr)]
  rfl
theorem lex_two {r : List UInt8} (pos : Nat) : lexL pos ([61, 61] ++ r) = pre [⟨3, [61, 61], 0, pos⟩] (lexL (pos + 2) r) := by
  show lexL pos (61 :: 61 :: r) = _
  rw [lex_tok (k := 1) nx_two]
  rfl
theorem lex_odd {b : UInt8} {r : List UInt8} (h : oddB b = true) (pos : Nat) : lexL pos (b :: r) = .error (.form, pos) := lex_bad (nx_odd h)
/-- A piece: a token's kind, bytes and number, right if nothing goes on with it. -/
inductive Piece : Nat → List UInt8 → Nat → Prop where
  | word {b : UInt8} {t : List UInt8} (hb : letB b = true) (ht : ∀ c ∈ t, alnB c = true) : Piece 1 (b :: t) 0
  | num {a : List UInt8} (h0 : a ≠ []) (ha : ∀ c ∈ a, digB c = true) (hv : val a ≤ top) : Piece 2 a (val a)
  | sign {b : UInt8} (hb : signB b = true) : Piece 3 [b] 0
  | two : Piece 3 [61, 61] 0
theorem stops_mono {p q : UInt8 → Bool} {r : List UInt8} (h : ∀ b, q b = true → p b = true) (hr : Stops p r) : Stops q r := by
  cases r with
  | nil => exact rfl
  | cons b r =>
    have h1 : p b = false := by simpa [Stops] using hr
    have h2 : q b = false := by
      cases hq : q b
      · rfl
      · rw [h b hq] at h1
        cases h1
    simp [Stops, h2]
/-- What parts tokens: neither a letter, a digit, nor '='. -/
def goesB (b : UInt8) : Bool := alnB b || b == 61
theorem Piece.lex {k n : Nat} {a r : List UInt8} (h : Piece k a n) (hr : Stops goesB r) (pos : Nat) : lexL pos (a ++ r) = pre [⟨k, a, n, pos⟩] (lexL (pos + a.length) r) := by
  have hal : Stops alnB r := stops_mono (fun b hb => by simp [goesB, hb]) hr
  have hdg : Stops digB r := stops_mono (fun b hb => by simp [goesB, alnB, hb]) hr
  have h61 : r.head? ≠ some 61 := by
    intro e
    cases r with
    | nil => simp at e
    | cons b r =>
      have : goesB b = false := by simpa [Stops] using hr
      simp at e
      subst e
      revert this
      decide
  cases h with
  | word hb ht => exact lex_word hb ht hal pos
  | num h0 ha hv => exact lex_num h0 ha hdg hv pos
  | sign hb => exact lex_sign hb (fun _ => h61) pos
  | two => exact lex_two pos
/-- A piece and what parts it from the next one. -/
theorem Piece.eats {k n : Nat} {a s : List UInt8} (h : Piece k a n) (h0 : s ≠ []) (hs : Stops goesB s) (hp : Parts s) : Eats (a ++ s) fun pos => [⟨k, a, n, pos⟩] := fun pos r => by
  rw [List.append_assoc, h.lex (r := s ++ r) (by obtain ⟨b, t, rfl⟩ := List.exists_cons_of_ne_nil h0; simpa [Stops] using hs), hp, List.length_append, Nat.add_assoc]
theorem Eats.all {a : List UInt8} {ts : Nat → List Tok} (h : Eats a ts) (pos : Nat) : lexL pos a = .ok (ts pos ++ [⟨4, [], 0, pos + a.length⟩]) := by
  have := h pos []
  rw [List.append_nil, lex_nil] at this
  exact this
theorem Eats.odd {a : List UInt8} {ts : Nat → List Tok} (h : Eats a ts) {b : UInt8} (hb : oddB b = true) (r : List UInt8) (pos : Nat) : lexL pos (a ++ b :: r) = .error (.form, pos + a.length) := by
  rw [h, lex_odd hb]
  rfl
/-! ### a number's digits -/
def decL (n : Nat) : List UInt8 := if n < 10 then [UInt8.ofNat (48 + n)] else decL (n / 10) ++ [UInt8.ofNat (48 + n % 10)]
termination_by n
decreasing_by omega
theorem dec_small {n : Nat} (h : n < 10) : decL n = [UInt8.ofNat (48 + n)] := by rw [decL, if_pos h]
theorem dec_great {n : Nat} (h : ¬ n < 10) : decL n = decL (n / 10) ++ [UInt8.ofNat (48 + n % 10)] := by
  conv => lhs; rw [decL]
  rw [if_neg h]
theorem digit_nat {d : Nat} (h : d < 10) : (UInt8.ofNat (48 + d)).toNat = 48 + d := by
  rw [UInt8.toNat_ofNat']
  omega
theorem digit_is {d : Nat} (h : d < 10) : digB (UInt8.ofNat (48 + d)) = true := by
  simp only [digB, digit_nat h, Bool.and_eq_true, decide_eq_true_eq]
  omega
theorem dec_ne (n : Nat) : decL n ≠ [] := by
  by_cases h : n < 10
  · rw [dec_small h]
    simp
  · rw [dec_great h]
    simp
theorem dec_digits (n : Nat) : ∀ c ∈ decL n, digB c = true := by
  induction n using Nat.strongRecOn with
  | ind n ih =>
    by_cases h : n < 10
    · rw [dec_small h]
      intro c hc
      rw [List.mem_singleton.1 hc]
      exact digit_is h
    · rw [dec_great h]
      intro c hc
      rcases List.mem_append.1 hc with hc | hc
      · exact ih (n / 10) (by omega) c hc
      · rw [List.mem_singleton.1 hc]
        exact digit_is (by omega)
theorem dec_val (n : Nat) : val (decL n) = n := by
  induction n using Nat.strongRecOn with
  | ind n ih =>
    by_cases h : n < 10
    · rw [dec_small h]
      show 10 * 0 + ((UInt8.ofNat (48 + n)).toNat - 48) = n
      rw [digit_nat h]
      omega
    · rw [dec_great h, val_snoc, ih (n / 10) (by omega), digit_nat (by omega)]
      omega
theorem dec_len (n : Nat) : ∀ k, n < 10 ^ (k + 1) → (decL n).length ≤ k + 1 := by
  intro k
  induction k generalizing n with
  | zero =>
    intro h
    rw [dec_small (by omega)]
    simp
  | succ k ih =>
    intro h
    by_cases h0 : n < 10
    · rw [dec_small h0]
      simp
    · rw [dec_great h0, List.length_append]
      have := ih (n / 10) (by rw [Nat.pow_succ] at h; omega)
      simp
      omega
theorem dec_piece {n : Nat} (h : n ≤ top) : Piece 2 (decL n) n := by
  have := Piece.num (dec_ne n) (dec_digits n) (by rw [dec_val]; exact h)
  rw [dec_val] at this
  exact this
/-- Noughts ahead change nothing but the text. -/
theorem noughts_piece {n : Nat} (k : Nat) (h : n ≤ top) : Piece 2 (List.replicate k 48 ++ decL n) n := by
  have hd : ∀ c ∈ List.replicate k (48 : UInt8) ++ decL n, digB c = true := by
    intro c hc
    rcases List.mem_append.1 hc with hc | hc
    · rw [List.eq_of_mem_replicate hc]
      decide
    · exact dec_digits n c hc
  have := Piece.num (a := List.replicate k 48 ++ decL n) (by simp [dec_ne n]) hd (by rw [val_noughts, dec_val]; exact h)
  rw [val_noughts, dec_val] at this
  exact this
theorem noughts_long {n : Nat} (k : Nat) (h : ¬ n ≤ top) (pos : Nat) : lexL pos (List.replicate k 48 ++ decL n) = .error (.long, pos) := by
  have hd : ∀ c ∈ List.replicate k (48 : UInt8) ++ decL n, digB c = true := by
    intro c hc
    rcases List.mem_append.1 hc with hc | hc
    · rw [List.eq_of_mem_replicate hc]
      decide
    · exact dec_digits n c hc
  have := lex_num_long (a := List.replicate k 48 ++ decL n) (r := []) (by simp [dec_ne n]) hd rfl (by rw [val_noughts, dec_val]; exact h) pos
  rwa [List.append_nil] at this
end Go.Proofs.YtchokfgffnomoaaDoor.L
