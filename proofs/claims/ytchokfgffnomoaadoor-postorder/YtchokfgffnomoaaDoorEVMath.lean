/-
  PLAIN MATHEMATICS of what expressions come to: by going in so many steps at most. It proves nothing of Go.
-/
import Derived.Test.YtchokfgffnomoaaDoorPA
import Derived.Test.YtchokfgffnomoaaDoorVMath
namespace Go.Proofs.YtchokfgffnomoaaDoor.P
set_option maxRecDepth 100000
set_option linter.unusedVariables false
set_option linter.unusedSimpArgs false
/-- The place of a name: of the first one; -1: none. -/
def plI (s : List UInt8) : List (List UInt8) → Int
  | [] => -1
  | r :: rs => if r = s then 0 else if plI s rs < 0 then -1 else plI s rs + 1
theorem plI_none {s : List UInt8} : ∀ {rs : List (List UInt8)}, (∀ i, i < rs.length → rs.getD i [] ≠ s) → plI s rs = -1
  | [], _ => rfl
  | r :: rs, h => by
    have h0 : r ≠ s := h 0 (by simp)
    have ih := plI_none (s := s) (rs := rs) (fun i hi => h (i + 1) (by simp; omega))
    rw [plI, if_neg h0, ih]
    rfl
theorem plI_at {s : List UInt8} : ∀ {rs : List (List UInt8)} {k : Nat}, k < rs.length → (∀ i, i < k → rs.getD i [] ≠ s) → rs.getD k [] = s → plI s rs = k
  | [], k, hk, _, _ => by simp at hk
  | r :: rs, 0, hk, _, h => by
    have h0 : r = s := h
    rw [plI, if_pos h0]
    rfl
  | r :: rs, k + 1, hk, hn, h => by
    have h0 : r ≠ s := hn 0 (by omega)
    have ih := plI_at (s := s) (rs := rs) (k := k) (by simp at hk; omega) (fun i hi => hn (i + 1) (by omega)) h
    rw [plI, if_neg h0, ih, if_neg (by omega)]
    omega
theorem plI_bd (s : List UInt8) : ∀ rs : List (List UInt8), -1 ≤ plI s rs ∧ plI s rs < rs.length
  | [] => by simp [plI]
  | r :: rs => by
    have ih := plI_bd s rs
    unfold plI
    simp only [List.length_cons]
    split
    · omega
    · split <;> omega
/-- What an Op makes of two. -/
def jn (o x y n : Int) : Int := if o = 3 then V.addI x y n else if o = 4 then V.subI x y n else if o = 5 then (if x = y then 1 else 0) else (if x < y then 1 else 0)
/-- What an expression comes to, by so many steps inwards at most. -/
def ev (rs : List (List UInt8)) (vs : List Int) (n : Int) : Nat → EX → Option Int
  | 0, _ => none
  | m + 1, .mk o k s ks =>
    if o = 1 then some (V.inI k n)
    else if o = 2 then (if plI s rs < 0 then none else some (V.inI (vs.getD (plI s rs).toNat 0) n))
    else if 3 ≤ o ∧ o ≤ 6 then
      (match ks with
      | [a, b] => (match ev rs vs n m a with
        | none => none
        | some x => (match ev rs vs n m b with
          | none => none
          | some y => some (jn o x y n)))
      | _ => none)
    else none
theorem jn_bd {o x y n : Int} (hn : 2 ≤ n ∧ n ≤ 4) : 0 ≤ jn o x y n ∧ jn o x y n < n := by
  have h1 := V.inI_bd (v := x + y) (n := n) (by omega)
  have h2 := V.inI_bd (v := x - y) (n := n) (by omega)
  unfold jn V.addI V.subI
  repeat (first | omega | split)
theorem ev_bd {rs : List (List UInt8)} {vs : List Int} {n : Int} (hn : 2 ≤ n ∧ n ≤ 4) : ∀ (m : Nat) (e : EX) (x : Int), ev rs vs n m e = some x → 0 ≤ x ∧ x < n
  | 0, _, x, h => by cases h
  | m + 1, .mk o k s ks, x, h => by
    unfold ev at h
    split at h
    · cases h
      exact V.inI_bd (by omega)
    split at h
    · split at h
      · cases h
      · cases h
        exact V.inI_bd (by omega)
    split at h
    · split at h
      · split at h
        · cases h
        · split at h
          · cases h
          · cases h
            exact jn_bd hn
      · cases h
    · cases h
theorem ev_num (rs : List (List UInt8)) (vs : List Int) (n : Int) (m : Nat) (k : Int) (s : List UInt8) (ks : List EX) : ev rs vs n (m + 1) (.mk 1 k s ks) = some (V.inI k n) := rfl
theorem ev_reg (rs : List (List UInt8)) (vs : List Int) (n : Int) (m : Nat) (k : Int) (s : List UInt8) (ks : List EX) : ev rs vs n (m + 1) (.mk 2 k s ks) = if plI s rs < 0 then none else some (V.inI (vs.getD (plI s rs).toNat 0) n) := rfl
/-- What two come to. -/
def ev2 (rs : List (List UInt8)) (vs : List Int) (n : Int) (m : Nat) (o : Int) (a b : EX) : Option Int :=
  match ev rs vs n m a with
  | none => none
  | some x => (match ev rs vs n m b with
    | none => none
    | some y => some (jn o x y n))
theorem ev_two {o : Int} (h : 3 ≤ o ∧ o ≤ 6) (rs : List (List UInt8)) (vs : List Int) (n : Int) (m : Nat) (k : Int) (s : List UInt8) (a b : EX) : ev rs vs n (m + 1) (.mk o k s [a, b]) = ev2 rs vs n m o a b := by
  unfold ev ev2
  rw [if_neg (by omega), if_neg (by omega), if_pos h]
theorem ev_kids {o : Int} (h : 3 ≤ o ∧ o ≤ 6) (rs : List (List UInt8)) (vs : List Int) (n : Int) (m : Nat) (k : Int) (s : List UInt8) (ks : List EX) (hk : ks.length ≠ 2) : ev rs vs n (m + 1) (.mk o k s ks) = none := by
  unfold ev
  rw [if_neg (by omega), if_neg (by omega), if_pos h]
  rcases ks with _ | ⟨a, _ | ⟨b, _ | ⟨c, r⟩⟩⟩
  · rfl
  · rfl
  · exact absurd rfl hk
  · rfl
theorem ev_odd {o : Int} (h1 : o ≠ 1) (h2 : o ≠ 2) (h : ¬ (3 ≤ o ∧ o ≤ 6)) (rs : List (List UInt8)) (vs : List Int) (n : Int) (m : Nat) (k : Int) (s : List UInt8) (ks : List EX) : ev rs vs n m (.mk o k s ks) = none := by
  cases m
  · rfl
  · unfold ev
    rw [if_neg h1, if_neg h2, if_neg h]
/-- What an expression comes to, where there are n values. -/
def evA (rs : List (List UInt8)) (vs : List Int) (n : Int) (e : EX) : Option Int := if 2 ≤ n ∧ n ≤ 4 ∧ vs.length = rs.length then ev rs vs n 6 e else none
mutual
/-- How many expressions within one another are asked. -/
def askD : EX → Nat
  | .mk o _ _ ks => if o = 1 ∨ o = 2 then 1 else askDs ks + 1
def askDs : List EX → Nat
  | [] => 0
  | e :: es => max (askD e) (askDs es)
end
theorem askL_mem : ∀ {es : List EX} {e : EX}, e ∈ es → askD e ≤ askDs es
  | x :: es, e, h => by
    unfold askDs
    rcases List.mem_cons.1 h with rfl | h
    · omega
    · have := askL_mem h
      omega
theorem ask_two {o k : Int} {s : List UInt8} {a b : EX} (h : 3 ≤ o ∧ o ≤ 6) : askD (.mk o k s [a, b]) = max (askD a) (askD b) + 1 := by
  have h0 : askD (.mk o k s [a, b]) = askDs [a, b] + 1 := by
    unfold askD
    rw [if_neg (by omega)]
  have h1 : askDs [a, b] = max (askD a) (askDs [b]) := by rw [askDs]
  have h2 : askDs [b] = max (askD b) 0 := by rw [askDs, askDs]
  rw [h0, h1, h2]
  omega
theorem ask_pos (e : EX) : 1 ≤ askD e := by
  cases e
  unfold askD
  split <;> omega
/-- What is deeper than the steps that may be gone comes to nothing. -/
theorem ev_deep {rs : List (List UInt8)} {vs : List Int} {n : Int} : ∀ (m : Nat) (e : EX), m < askD e → ev rs vs n m e = none
  | 0, _, _ => rfl
  | m + 1, .mk o k s ks, h => by
    by_cases h1 : o = 1
    · unfold askD at h
      rw [if_pos (.inl h1)] at h
      omega
    by_cases h2 : o = 2
    · unfold askD at h
      rw [if_pos (.inr h2)] at h
      omega
    by_cases ho : 3 ≤ o ∧ o ≤ 6
    · by_cases hk : ks.length = 2
      · rcases ks with _ | ⟨a, _ | ⟨b, _ | ⟨c, r⟩⟩⟩ <;> simp at hk
        rw [ask_two ho] at h
        rw [ev_two ho]
        unfold ev2
        by_cases ha : m < askD a
        · rw [ev_deep m a ha]
        · have hb : m < askD b := by omega
          rw [ev_deep m b hb]
          split <;> rfl
      · exact ev_kids ho rs vs n m k s ks hk
    · exact ev_odd h1 h2 ho rs vs n (m + 1) k s ks
/-- How many steps there are beyond what is asked plays no part. -/
theorem ev_more {rs : List (List UInt8)} {vs : List Int} {n : Int} : ∀ (m m' : Nat) (e : EX), askD e ≤ m → askD e ≤ m' → ev rs vs n m e = ev rs vs n m' e
  | 0, m', e, h, h' => by
    have := ask_pos e
    omega
  | m + 1, 0, e, h, h' => by
    have := ask_pos e
    omega
  | m + 1, m' + 1, .mk o k s ks, h, h' => by
    by_cases h1 : o = 1
    · subst h1
      rfl
    by_cases h2 : o = 2
    · subst h2
      rfl
    by_cases ho : 3 ≤ o ∧ o ≤ 6
    · by_cases hk : ks.length = 2
      · rcases ks with _ | ⟨a, _ | ⟨b, _ | ⟨c, r⟩⟩⟩ <;> simp at hk
        rw [ask_two ho] at h h'
        rw [ev_two ho, ev_two ho]
        unfold ev2
        rw [ev_more m m' a (by omega) (by omega), ev_more m m' b (by omega) (by omega)]
      · rw [ev_kids ho rs vs n m k s ks hk, ev_kids ho rs vs n m' k s ks hk]
    · rw [ev_odd h1 h2 ho, ev_odd h1 h2 ho]
/-- The most parts that are looked at. -/
def mostP : Nat := 300
mutual
/-- How many parts an expression has, as it is counted. -/
def szX : Nat → EX → Nat
  | d, .mk o k s ks => if 12 < d ∨ 20 < ks.length ∨ 40 < s.length then 301 else szL (d + 1) 1 ks
def szL : Nat → Nat → List EX → Nat
  | d, n, [] => n
  | d, n, e :: es => if 300 < n + szX d e then n + szX d e else szL d (n + szX d e) es
end
theorem szL_le : ∀ (d n : Nat) (es : List EX), n ≤ szL d n es
  | d, n, [] => by
    unfold szL
    exact Nat.le_refl _
  | d, n, e :: es => by
    unfold szL
    split
    · omega
    · have := szL_le d (n + szX d e) es
      omega
theorem szL_mem : ∀ {d n : Nat} {es : List EX}, szL d n es ≤ 300 → ∀ e ∈ es, szX d e ≤ 300
  | d, n, x :: es, h, e, he => by
    unfold szL at h
    split at h
    · omega
    · have h1 := szL_le d (n + szX d x) es
      rcases List.mem_cons.1 he with rfl | he
      · omega
      · exact szL_mem h e he
theorem szX_kids {d : Nat} {o k : Int} {s : List UInt8} {ks : List EX} (h : szX d (.mk o k s ks) ≤ 300) : d ≤ 12 ∧ ks.length ≤ 20 ∧ s.length ≤ 40 ∧ ∀ e ∈ ks, szX (d + 1) e ≤ 300 := by
  unfold szX at h
  split at h
  · omega
  · exact ⟨by omega, by omega, by omega, szL_mem h⟩
theorem askL_le {m : Nat} : ∀ {es : List EX}, (∀ e ∈ es, askD e ≤ m) → askDs es ≤ m
  | [], _ => by
    unfold askDs
    omega
  | e :: es, h => by
    unfold askDs
    have h1 := h e (.head _)
    have h2 := askL_le (m := m) (es := es) (fun x hx => h x (.tail _ hx))
    omega
/-- What is counted within bounds is not deep. -/
theorem ask_le : ∀ (j d : Nat) (e : EX), 13 - d = j → szX d e ≤ 300 → askD e ≤ j
  | 0, d, .mk o k s ks, hj, h => by
    have := szX_kids h
    omega
  | j + 1, d, .mk o k s ks, hj, h => by
    have ⟨h1, h2, h3, h4⟩ := szX_kids h
    unfold askD
    split
    · omega
    · have := askL_le (m := j) (es := ks) (fun e he => ask_le j (d + 1) e (by omega) (h4 e he))
      omega
theorem szX_bd : ∀ (j d : Nat) (e : EX), 13 - d = j → szX d e ≤ 301 + 300 * j
  | 0, d, .mk o k s ks, hj => by
    unfold szX
    rw [if_pos (by omega)]
    omega
  | j + 1, d, .mk o k s ks, hj => by
    unfold szX
    split
    · omega
    · have hl : ∀ (es : List EX) (n : Nat), n ≤ 300 → szL (d + 1) n es ≤ 301 + 300 * (j + 1) := by
        intro es
        induction es with
        | nil =>
          intro n hn
          unfold szL
          omega
        | cons e es ih =>
          intro n hn
          have h1 := szX_bd j (d + 1) e (by omega)
          unfold szL
          split
          · omega
          · exact ih _ (by omega)
      exact hl ks 1 (by omega)
theorem szX_le (d : Nat) (e : EX) : szX d e ≤ 5000 := by
  have := szX_bd (13 - d) d e rfl
  omega
end Go.Proofs.YtchokfgffnomoaaDoor.P
