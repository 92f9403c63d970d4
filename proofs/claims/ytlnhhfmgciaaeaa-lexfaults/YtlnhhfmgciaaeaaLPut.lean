/-
  PLAIN MATHEMATICS of tokens of texts that are put together; of no program. It proves nothing of Go.
-/
import Derived.Test.YtlnhhfmgciaaeaaLMath
namespace Go.Proofs.Ytlnhhfmgciaaeaa.L
set_option linter.unusedVariables false
set_option linter.unusedSimpArgs false
/-- A text that brings just these tokens, whatever stands behind it. -/
def Eats (a : List UInt8) (ts : Nat → List Tok) : Prop := ∀ pos r, lexL pos (a ++ r) = pre (ts pos) (lexL (pos + a.length) r)
/-- A text that only parts. -/
def Parts (a : List UInt8) : Prop := ∀ pos r, lexL pos (a ++ r) = lexL (pos + a.length) r
theorem Parts.eats {a : List UInt8} (h : Parts a) : Eats a fun _ => [] := fun pos r => by rw [h, pre_nil]
theorem eats_nil : Eats [] fun _ => [] := fun pos r => by rw [pre_nil]; rfl
theorem parts_nil : Parts [] := fun pos r => rfl
theorem Eats.append {a b : List UInt8} {s t : Nat → List Tok} (ha : Eats a s) (hb : Eats b t) : Eats (a ++ b) fun pos => s pos ++ t (pos + a.length) := fun pos r => by
  rw [List.append_assoc, ha, hb, pre_pre, List.length_append, Nat.add_assoc]
theorem Parts.append {a b : List UInt8} (ha : Parts a) (hb : Parts b) : Parts (a ++ b) := fun pos r => by
  rw [List.append_assoc, ha, hb, List.length_append, Nat.add_assoc]
theorem parts_blank {b : UInt8} (h : blankB b = true) : Parts [b] := fun pos r => by
  show lexL pos (b :: r) = _
  rw [lex_skip (k := 0) (nx_blank h)]
  rfl
/-- A remark with its line's end. -/
theorem parts_remark {m : List UInt8} (h : ∀ b ∈ m, not10 b = true) : Parts (47 :: 47 :: (m ++ [10])) := fun pos r => by
  have e : run not10 (m ++ [10] ++ r) = m.length := by
    rw [List.append_assoc, run_append m _ h, List.singleton_append, run_cons_neg _ (by decide)]
    rfl
  have hn : nx 47 (47 :: (m ++ [10] ++ r)) = .skip (m.length + 1 + 1) := by rw [nx_remark, e]
  show lexL pos (47 :: 47 :: (m ++ [10] ++ r)) = _
  rw [lex_skip hn]
  have hd : (47 :: 47 :: (m ++ [10] ++ r)).drop (m.length + 1 + 1) = 10 :: r := by
    simp
  rw [hd, lex_skip (k := 0) (nx_blank (by decide))]
  simp
  congr 1
/-- A remark to the text's end. -/
theorem lex_remark_end {m : List UInt8} (h : ∀ b ∈ m, not10 b = true) (pos : Nat) : lexL pos (47 :: 47 :: m) = .ok [⟨4, [], 0, pos + (m.length + 2)⟩] := by
  have e : run not10 m = m.length := by
    have := run_append m [] h
    simpa [run_nil] using this
  have hn : nx 47 (47 :: m) = .skip (m.length + 1 + 1) := by rw [nx_remark, e]
  rw [lex_skip hn]
  have hd : (47 :: 47 :: m).drop (m.length + 1 + 1) = [] := by simp
  rw [hd, lex_nil]
/-- What may stand behind a word or a number: nothing, or what is no part of it. -/
def Stops (p : UInt8 → Bool) (r : List UInt8) : Prop := r.head?.all (fun b => !p b) = true
theorem run_stops {p : UInt8 → Bool} {r : List UInt8} (h : Stops p r) : run p r = 0 := by
  cases r with
  | nil => rfl
  | cons b r =>
    have : p b = false := by simpa [Stops] using h
    exact run_cons_neg _ this
theorem take_front (a r : List UInt8) : (a ++ r).take a.length = a := by simp
theorem drop_front (a r : List UInt8) : (a ++ r).drop a.length = r := by simp
theorem lex_word {b : UInt8} {t r : List UInt8} (hb : letB b = true) (ht : ∀ c ∈ t, alnB c = true) (hr : Stops alnB r) (pos : Nat) : lexL pos ((b :: t) ++ r) = pre [⟨1, b :: t, 0, pos⟩] (lexL (pos + (b :: t).length) r) := by
  have hn : nx b (t ++ r) = .tok 1 (t.length + 1) 0 := by
    rw [nx_word hb, run_append t r ht, run_stops hr]
  have h1 := take_front (b :: t) r
  have h2 := drop_front (b :: t) r
  rw [List.length_cons] at h1 h2 ⊢
  show lexL pos (b :: (t ++ r)) = _
  rw [lex_tok hn]
  rw [List.cons_append] at h1 h2
  rw [h1, h2]
theorem lex_num {a r : List UInt8} (h0 : a ≠ []) (ha : ∀ c ∈ a, digB c = true) (hr : Stops digB r) (hv : val a ≤ top) (pos : Nat) : lexL pos (a ++ r) = pre [⟨2, a, val a, pos⟩] (lexL (pos + a.length) r) := by
  obtain ⟨b, t, rfl⟩ := List.exists_cons_of_ne_nil h0
  have e : run digB (t ++ r) + 1 = (b :: t).length := by
    rw [run_append t r (fun c hc => ha c (List.mem_cons_of_mem _ hc)), run_stops hr]
    rfl
  have h1 := take_front (b :: t) r
  have h2 := drop_front (b :: t) r
  have hn := nx_num (b := b) (r := t ++ r) (ha b (List.mem_cons_self ..)) (by rw [e]; rw [List.cons_append] at h1; rw [h1]; exact hv)
  rw [e] at hn
  rw [List.cons_append] at h1 h2 ⊢
  rw [h1] at hn
  rw [lex_tok (k := t.length) hn]
  rw [List.length_cons] at h1 h2 ⊢
  rw [h1, h2]
theorem lex_num_long {a r : List UInt8} (h0 : a ≠ []) (ha : ∀ c ∈ a, digB c = true) (hr : Stops digB r) (hv : ¬ val a ≤ top) (pos : Nat) : lexL pos (a ++ r) = .error (.long, pos) := by
  obtain ⟨b, t, rfl⟩ := List.exists_cons_of_ne_nil h0
  have e : run digB (t ++ r) + 1 = (b :: t).length := by
    rw [run_append t r (fun c hc => ha c (List.mem_cons_of_mem _ hc)), run_stops hr]
    rfl
  have h1 := take_front (b :: t) r
  have hn := nx_long (b := b) (r := t ++ r) (ha b (List.mem_cons_self ..)) (by rw [e]; rw [List.cons_append] at h1; rw [h1]; exact hv)
  rw [List.cons_append]
  exact lex_bad hn
theorem lex_sign {b : UInt8} {r : List UInt8} (hb : signB b = true) (hr : b = 61 → r.head? ≠ some 61) (pos : Nat) : lexL pos ([b] ++ r) = pre [⟨3, [b], 0, pos⟩] (lexL (pos + 1) r) := by
  show lexL pos (b :: r) = _
  rw [lex_tok (k := 0) (nx_sign hb hr)]
  rfl
theorem lex_two {r : List UInt8} (pos : Nat) : lexL pos ([61, 61] ++ r) = pre [⟨3, [61, 61], 0, pos⟩] (lexL (pos + 2) r) := by
  show lexL pos (61 :: 61 :: r) = _
  rw [lex_tok (k := 1) nx_two]
  rfl
theorem lex_odd {b : UInt8} {r : List UInt8} (h : oddB b = true) (pos : Nat) : lexL pos (b :: r) = .error (.form, pos) := lex_bad (nx_odd h)
/-- A piece: a token's kind, bytes and number, right if nothing goes on with it. -/
inductive Piece : Nat → List UInt8 → Nat → Prop where
  | word {b : UInt8} {t : List UInt8} (hb : letB b = true) (ht : ∀ c ∈ t, alnB c = true) : Piece 1 (b :: t) 0
  | num {a : List UInt8} (h0 : a ≠ []) (ha : ∀ c ∈ a, digB c = true) (hv : val a ≤ top) : Piece 2 a (val a)
  | sign {b : UInt8} (hb : signB b = true) : Piece 3 [b] 0
  | two : Piece 3 [61, 61] 0
theorem stops_mono {p q : UInt8 → Bool} {r : List UInt8} (h : ∀ b, q b = true → p b = true) (hr : Stops p r) : Stops q r := by
  cases r with
  | nil => exact rfl
  | cons b r =>
    have h1 : p b = false := by simpa [Stops] using hr
    have h2 : q b = false := by
      cases hq : q b
      · rfl
      · rw [h b hq] at h1
        cases h1
    simp [Stops, h2]
/-- What parts tokens: neither a letter, a digit, nor '='. -/
def goesB (b : UInt8) : Bool := alnB b || b == 61
theorem Piece.lex {k n : Nat} {a r : List UInt8} (h : Piece k a n) (hr : Stops goesB r) (pos : Nat) : lexL pos (a ++ r) = pre [⟨k, a, n, pos⟩] (lexL (pos + a.length) r) := by
  have hal : Stops alnB r := stops_mono (fun b hb => by simp [goesB, hb]) hr
  have hdg : Stops digB r := stops_mono (fun b hb => by simp [goesB, alnB, hb]) hr
  have h61 : r.head? ≠ some 61 := by
    intro e
    cases r with
    | nil => simp at e
    | cons b r =>
      have : goesB b = false := by simpa [Stops] using hr
      simp at e
      subst e
      revert this
      decide
  cases h with
  | word hb ht => exact lex_word hb ht hal pos
  | num h0 ha hv => exact lex_num h0 ha hdg hv pos
  | sign hb => exact lex_sign hb (fun _ => h61) pos
  | two => exact lex_two pos
/-- A piece and what parts it from the next one. -/
theorem Piece.eats {k n : Nat} {a s : List UInt8} (h : Piece k a n) (h0 : s ≠ []) (hs : Stops goesB s) (hp : Parts s) : Eats (a ++ s) fun pos => [⟨k, a, n, pos⟩] := fun pos r => by
  rw [List.append_assoc, h.lex (r := s ++ r) (by obtain ⟨b, t, rfl⟩ := List.exists_cons_of_ne_nil h0; simpa [Stops] using hs), hp, List.length_append, Nat.add_assoc]
theorem Eats.all {a : List UInt8} {ts : Nat → List Tok} (h : Eats a ts) (pos : Nat) : lexL pos a = .ok (ts pos ++ [⟨4, [], 0, pos + a.length⟩]) := by
  have := h pos []
  rw [List.append_nil, lex_nil] at this
  exact this
theorem Eats.odd {a : List UInt8} {ts : Nat → List Tok} (h : Eats a ts) {b : UInt8} (hb : oddB b = true) (r : List UInt8) (pos : Nat) : lexL pos (a ++ b :: r) = .error (.form, pos + a.length) := by
  rw [h, lex_odd hb]
  rfl
/-! ### a number's digits -/
def decL (n : Nat) : List UInt8 := if n < 10 then [UInt8.ofNat (48 + n)] else decL (n / 10) ++ [UInt8.ofNat (48 + n % 10)]
termination_by n
decreasing_by omega
theorem dec_small {n : Nat} (h : n < 10) : decL n = [UInt8.ofNat (48 + n)] := by rw [decL, if_pos h]
theorem dec_great {n : Nat} (h : ¬ n < 10) : decL n = decL (n / 10) ++ [UInt8.ofNat (48 + n % 10)] := by
  conv => lhs; rw [decL]
  rw [if_neg h]
theorem digit_nat {d : Nat} (h : d < 10) : (UInt8.ofNat (48 + d)).toNat = 48 + d := by
  rw [UInt8.toNat_ofNat']
  omega
theorem digit_is {d : Nat} (h : d < 10) : digB (UInt8.ofNat (48 + d)) = true := by
  simp only [digB, digit_nat h, Bool.and_eq_true, decide_eq_true_eq]
  omega
theorem dec_ne (n : Nat) : decL n ≠ [] := by
  by_cases h : n < 10
  · rw [dec_small h]
    simp
  · rw [dec_great h]
    simp
theorem dec_digits (n : Nat) : ∀ c ∈ decL n, digB c = true := by
  induction n using Nat.strongRecOn with
  | ind n ih =>
    by_cases h : n < 10
    · rw [dec_small h]
      intro c hc
      rw [List.mem_singleton.1 hc]
      exact digit_is h
    · rw [dec_great h]
      intro c hc
      rcases List.mem_append.1 hc with hc | hc
      · exact ih (n / 10) (by omega) c hc
      · rw [List.mem_singleton.1 hc]
        exact digit_is (by omega)
theorem dec_val (n : Nat) : val (decL n) = n := by
  induction n using Nat.strongRecOn with
  | ind n ih =>
    by_cases h : n < 10
    · rw [dec_small h]
      show 10 * 0 + ((UInt8.ofNat (48 + n)).toNat - 48) = n
      rw [digit_nat h]
      omega
    · rw [dec_great h, val_snoc, ih (n / 10) (by omega), digit_nat (by omega)]
      omega
theorem dec_len (n : Nat) : ∀ k, n < 10 ^ (k + 1) → (decL n).length ≤ k + 1 := by
  intro k
  induction k generalizing n with
  | zero =>
    intro h
    rw [dec_small (by omega)]
    simp
  | succ k ih =>
    intro h
    by_cases h0 : n < 10
    · rw [dec_small h0]
      simp
    · rw [dec_great h0, List.length_append]
      have := ih (n / 10) (by rw [Nat.pow_succ] at h; omega)
      simp
      omega
theorem dec_piece {n : Nat} (h : n ≤ top) : Piece 2 (decL n) n := by
  have := Piece.num (dec_ne n) (dec_digits n) (by rw [dec_val]; exact h)
  rw [dec_val] at this
  exact this
/-- Noughts ahead change nothing but the text. -/
theorem noughts_piece {n : Nat} (k : Nat) (h : n ≤ top) : Piece 2 (List.replicate k 48 ++ decL n) n := by
  have hd : ∀ c ∈ List.replicate k (48 : UInt8) ++ decL n, digB c = true := by
    intro c hc
    rcases List.mem_append.1 hc with hc | hc
    · rw [List.eq_of_mem_replicate hc]
      decide
    · exact dec_digits n c hc
  have := Piece.num (a := List.replicate k 48 ++ decL n) (by simp [dec_ne n]) hd (by rw [val_noughts, dec_val]; exact h)
  rw [val_noughts, dec_val] at this
  exact this
theorem noughts_long {n : Nat} (k : Nat) (h : ¬ n ≤ top) (pos : Nat) : lexL pos (List.replicate k 48 ++ decL n) = .error (.long, pos) := by
  have hd : ∀ c ∈ List.replicate k (48 : UInt8) ++ decL n, digB c = true := by
    intro c hc
    rcases List.mem_append.1 hc with hc | hc
    · rw [List.eq_of_mem_replicate hc]
      decide
    · exact dec_digits n c hc
  have := lex_num_long (a := List.replicate k 48 ++ decL n) (r := []) (by simp [dec_ne n]) hd rfl (by rw [val_noughts, dec_val]; exact h) pos
  rwa [List.append_nil] at this
end Go.Proofs.Ytlnhhfmgciaaeaa.L
