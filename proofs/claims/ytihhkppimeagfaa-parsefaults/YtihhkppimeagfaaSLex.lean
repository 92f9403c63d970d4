/-
  PLAIN MATHEMATICS of tokens: they are pieces, they stand in the text at their places, which rise; and how many and long they are at most. It proves nothing of Go.
-/
import Derived.Test.YtihhkppimeagfaaDR
import Derived.Test.YtihhkppimeagfaaSA
namespace Go.Proofs.Ytihhkppimeagfaa.L
set_option maxRecDepth 100000
set_option linter.unusedVariables false
set_option linter.unusedSimpArgs false
theorem take_run (p : UInt8 → Bool) (l : List UInt8) : l.take (run p l) = l.takeWhile p := by
  have := List.prefix_iff_eq_take.1 (List.takeWhile_prefix (l := l) p)
  exact this.symm
theorem run_all (p : UInt8 → Bool) (l : List UInt8) : ∀ c ∈ l.take (run p l), p c = true := by
  rw [take_run]
  intro c hc
  exact List.all_eq_true.1 (List.all_takeWhile (p := p) (l := l)) c hc
/-- What stands at the front is a piece, of a byte at least, of the text. -/
theorem nx_piece {b : UInt8} {r : List UInt8} {kind k n : Nat} (h : nx b r = .tok kind k n) : Piece kind ((b :: r).take k) n ∧ 1 ≤ k ∧ k ≤ (b :: r).length := by
  unfold nx at h
  split at h
  · cases h
  · split at h
    · cases h
    · split at h
      · rename_i hl
        cases h
        have e : run alnB (b :: r) = run alnB r + 1 := run_cons_pos _ (by simp [alnB, hl])
        have ha := run_all alnB (b :: r)
        have hle := run_le alnB (b :: r)
        rw [e] at ha hle ⊢
        rw [List.take_succ_cons] at ha ⊢
        exact ⟨.word hl (fun c hc => ha c (List.mem_cons_of_mem _ hc)), by omega, hle⟩
      · split at h
        · rename_i hd
          split at h
          · rename_i hv
            cases h
            have e : run digB (b :: r) = run digB r + 1 := run_cons_pos _ hd
            have ha := run_all digB (b :: r)
            have hle := run_le digB (b :: r)
            exact ⟨.num (by rw [e, List.take_succ_cons]; simp) ha hv, by omega, hle⟩
          · cases h
        · split at h
          · rename_i h6
            have hb : b = 61 := by simpa using h6
            subst hb
            split at h
            · rename_i h7
              cases h
              cases r with
              | nil => simp at h7
              | cons c r =>
                have hc : c = 61 := by simpa using h7
                subst hc
                exact ⟨.two, by omega, by simp⟩
            · cases h
              exact ⟨.sign (by decide), by omega, by simp⟩
          · split at h
            · rename_i hs
              cases h
              exact ⟨.sign hs, by omega, by simp⟩
            · cases h
theorem nx_skip {b : UInt8} {r : List UInt8} {k : Nat} (h : nx b r = .skip k) : 1 ≤ k ∧ k ≤ (b :: r).length := by
  unfold nx at h
  split at h
  · cases h
    exact ⟨Nat.le_refl _, by simp⟩
  · split at h
    · rename_i h2
      cases h
      refine ⟨?_, run_le _ _⟩
      have hb : b = 47 := by
        simp only [Bool.and_eq_true, beq_iff_eq] at h2
        exact h2.1
      subst hb
      rw [run_cons_pos _ (by decide)]
      omega
    · split at h
      · cases h
      · split at h
        · split at h <;> cases h
        · split at h
          · split at h <;> cases h
          · split at h <;> cases h
theorem piece_ne {k n : Nat} {a : List UInt8} (h : Piece k a n) : a ≠ [] := by
  cases h with
  | word => simp
  | num h0 => exact h0
  | sign => simp
  | two => simp
theorem piece_top {k n : Nat} {a : List UInt8} (h : Piece k a n) : n ≤ top := by
  cases h with
  | word => exact Nat.zero_le _
  | num h0 ha hv => exact hv
  | sign => exact Nat.zero_le _
  | two => exact Nat.zero_le _
/-- A token that stands in a text. -/
structure In (pos : Nat) (l : List UInt8) (t : Tok) : Prop where
  piece : Piece t.kind t.text t.n
  from' : pos ≤ t.at'
  to : t.at' + t.text.length ≤ pos + l.length
  stands : t.text <+: l.drop (t.at' - pos)
/-- Tokens of a text: they stand in it, rising; the end stands at its end; they are no more and no longer than it. -/
structure Ins (pos : Nat) (l : List UInt8) (us : List Tok) : Prop where
  all : ∀ t ∈ us, In pos l t
  rise : us.Pairwise (fun a b => a.at' < b.at')
  count : us.length ≤ l.length
  long : (us.map (fun t => t.text.length)).sum ≤ l.length
theorem In.later {pos k : Nat} {l : List UInt8} {t : Tok} (hk : k ≤ l.length) (h : In (pos + k) (l.drop k) t) : In pos l t := by
  obtain ⟨h1, h2, h3, h4⟩ := h
  rw [List.length_drop] at h3
  refine ⟨h1, by omega, by omega, ?_⟩
  rw [List.drop_drop] at h4
  rw [show t.at' - pos = k + (t.at' - (pos + k)) by omega]
  exact h4
theorem lexF_ins : ∀ (f pos : Nat) (l : List UInt8) (ts : List Tok), l.length ≤ f → lexF f pos l = .ok ts → ∃ us, ts = us ++ [⟨4, [], 0, pos + l.length⟩] ∧ Ins pos l us
  | 0, pos, l, ts, hf, h => by
    cases h
    have : l = [] := List.eq_nil_of_length_eq_zero (by omega)
    subst this
    exact ⟨[], rfl, fun t ht => (by cases ht), .nil, by simp, by simp⟩
  | f + 1, pos, [], ts, hf, h => by
    cases h
    exact ⟨[], rfl, fun t ht => (by cases ht), .nil, by simp, by simp⟩
  | f + 1, pos, b :: r, ts, hf, h => by
    unfold lexF at h
    simp only [List.length_cons] at hf
    split at h
    · rename_i k hk
      obtain ⟨h1, h2⟩ := nx_skip hk
      have hd : r.drop (k - 1) = (b :: r).drop k := by
        obtain ⟨j, rfl⟩ : ∃ j, k = j + 1 := ⟨k - 1, by omega⟩
        simp
      rw [hd] at h
      obtain ⟨us, rfl, g1, g2, g3, g4⟩ := lexF_ins f _ _ _ (by simp only [List.length_drop, List.length_cons]; omega) h
      rw [List.length_drop] at g3 g4
      refine ⟨us, ?_, fun t ht => (g1 t ht).later h2, g2, by omega, by omega⟩
      rw [List.length_drop, show pos + k + ((b :: r).length - k) = pos + (b :: r).length by omega]
    · rename_i kind k n hk
      obtain ⟨hp, h1, h2⟩ := nx_piece hk
      have hd : r.drop (k - 1) = (b :: r).drop k := by
        obtain ⟨j, rfl⟩ : ∃ j, k = j + 1 := ⟨k - 1, by omega⟩
        simp
      rw [hd] at h
      cases e2 : lexF f (pos + k) ((b :: r).drop k) with
      | error e => rw [e2] at h; cases h
      | ok vs =>
        rw [e2] at h
        obtain ⟨us, rfl, g1, g2, g3, g4⟩ := lexF_ins f _ _ _ (by simp only [List.length_drop, List.length_cons]; omega) e2
        cases h
        have hlen : ((b :: r).take k).length = k := by rw [List.length_take]; omega
        rw [List.length_drop] at g3 g4
        refine ⟨⟨kind, (b :: r).take k, n, pos⟩ :: us, ?_, fun t ht => ?_, ?_, by simp only [List.length_cons] at *; omega, by simp only [List.map_cons, List.sum_cons, hlen]; omega⟩
        · rw [List.length_drop, show pos + k + ((b :: r).length - k) = pos + (b :: r).length by omega]
          rfl
        · rcases List.mem_cons.1 ht with rfl | ht
          · refine ⟨hp, Nat.le_refl _, ?_, ?_⟩
            · show pos + ((b :: r).take k).length ≤ _
              omega
            · show (b :: r).take k <+: (b :: r).drop (pos - pos)
              rw [Nat.sub_self, List.drop_zero]
              exact List.take_prefix _ _
          · exact (g1 t ht).later h2
        · refine List.Pairwise.cons (fun t ht => ?_) g2
          have := (g1 t ht).from'
          show pos < t.at'
          omega
    · cases h
theorem lexL_ins {pos : Nat} {l : List UInt8} {ts : List Tok} (h : lexL pos l = .ok ts) : ∃ us, ts = us ++ [⟨4, [], 0, pos + l.length⟩] ∧ Ins pos l us := by
  rw [← lexF_eq l.length pos l (Nat.le_refl _)] at h
  exact lexF_ins _ _ _ _ (Nat.le_refl _) h
end Go.Proofs.Ytihhkppimeagfaa.L
namespace Go.Proofs.Ytihhkppimeagfaa.P
open L (Tok Ins In Piece)
set_option maxRecDepth 100000
set_option linter.unusedVariables false
set_option linter.unusedSimpArgs false
/-! ### a text of tokens, each with what parts behind it -/
def joinW (btw : List UInt8) (ts : List Tok) : List UInt8 := (ts.map (fun t => t.text ++ btw)).flatten
theorem joinW_app (btw : List UInt8) (a b : List Tok) : joinW btw (a ++ b) = joinW btw a ++ joinW btw b := by simp [joinW]
theorem joinW_one (btw : List UInt8) (t : Tok) : joinW btw [t] = t.text ++ btw := by simp [joinW]
theorem joinW_cons (btw : List UInt8) (t : Tok) (a : List Tok) : joinW btw (t :: a) = (t.text ++ btw) ++ joinW btw a := by simp [joinW]
theorem un_piece {btw : List UInt8} (h0 : Un btw []) (hf : Front btw) {t : Tok} (h : Piece t.kind t.text t.n) : Un (t.text ++ btw) [body t] := (ea_piece h).un h0 hf
theorem un_join {btw : List UInt8} (h0 : Un btw []) (hf : Front btw) : ∀ (us : List Tok), (∀ t ∈ us, Piece t.kind t.text t.n) → Un (joinW btw us) (us.map body)
  | [], _ => un_nil
  | t :: us, h => by
    rw [joinW_cons, List.map_cons]
    exact (un_piece h0 hf (h t (by simp))).app (un_join h0 hf us (fun x hx => h x (by simp [hx])))
/-- The four things that may stand between. -/
def btwL : Nat → List UInt8
  | 0 => [10]
  | 1 => [32, 9, 32]
  | 2 => [32, 47, 47, 32, 125, 10]
  | _ => [13, 10, 10]
theorem btw_un : ∀ k, Un (btwL k) [] ∧ Front (btwL k)
  | 0 => ⟨un_nl, front_cons (by decide)⟩
  | 1 => ⟨un_sp.app ((un_blank (c := 9) (by decide)).app un_sp), front_cons (by decide)⟩
  | 2 => ⟨un_sp.app (⟨_, (L.parts_remark (m := [32, 125]) (by decide)).eats, fun _ => rfl⟩ : Un (47 :: 47 :: ([32, 125] ++ [10])) []), front_cons (by decide)⟩
  | k + 3 => ⟨(un_blank (c := 13) (by decide)).app (un_nl.app un_nl), front_cons (by decide)⟩
/-- A program's text: its tokens. -/
theorem TP.toks {p : PG} {t : List UInt8} {b : List Bo} {q1 q2 q3 : List Nat} (h : TP p t b q1 q2 q3) : ∃ us, L.lexL 0 t = .ok (us ++ [⟨4, [], 0, t.length⟩]) ∧ us.map body = b ∧ Ins 0 t us ∧ ∀ i ∈ q2, i < b.length ∧ ∃ off, 1 ≤ off ∧ off < t.length ∧ here (us.drop i) = off ∧ t[off - 1]? = some 32 := by
  obtain ⟨ts, h1, h2, h3⟩ := h.uq
  have e := h1.all 0
  rw [Nat.zero_add] at e
  obtain ⟨us, e2, hi⟩ := L.lexL_ins e
  obtain ⟨e3, _⟩ := List.append_inj' e2 rfl
  rw [e3] at e
  refine ⟨us, e, by rw [← e3]; exact h2 0, hi, fun i hi => ?_⟩
  obtain ⟨a1, off, a2, a3, a4, a5⟩ := h3 0 i hi
  rw [e3] at a4
  exact ⟨a1, off, a2, a3, by omega, a5⟩
/-- A program's tokens, parted otherwise, are read as that program. -/
theorem TP.wide {p : PG} {t : List UInt8} {b : List Bo} {q1 q2 q3 : List Nat} (h : TP p t b q1 q2 q3) {us : List Tok} {n : Nat} (e : L.lexL 0 t = .ok (us ++ [⟨4, [], 0, n⟩])) (k : Nat) : ∃ ts l, L.lexL 0 (joinW (btwL k) (us ++ [⟨4, [], 0, n⟩])) = .ok ts ∧ pProg ts = .ok (p, l) := by
  obtain ⟨vs, e2, hb, hi, _⟩ := h.toks
  rw [e] at e2
  obtain ⟨e3, _⟩ := List.append_inj' (Except.ok.inj e2) rfl
  subst e3
  obtain ⟨h0, hf⟩ := btw_un k
  have hu := (un_join h0 hf us (fun t ht => (hi.all t ht).piece)).app h0
  rw [hb, List.append_nil] at hu
  rw [joinW_app, joinW_one]
  exact h.any hu
end Go.Proofs.Ytihhkppimeagfaa.P
