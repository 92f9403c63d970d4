/-
  What Lex of the document's answer tells, as a contract.
-/
import Derived.Test.YtlnhhfmgciaaeaaLSign
import Derived.Test.YtlnhhfmgciaaeaaLLex
namespace Go.Proofs.Ytlnhhfmgciaaeaa.Lx
open Go.RowKit
set_option linter.unusedVariables false
set_option linter.unusedSimpArgs false
/-- What a round of the document's Lex leaves. -/
def RLexR (s : ByteArray) (w0 : World) (v t : Value) (wr : World) : Prop :=
  ∃ (m : Nat) (ts : List L.Tok), t = .int .i64 m ∧ m ≤ s.size ∧ L.lexL 0 (by' s) = L.pre ts (L.lexL m (rest s m)) ∧ ts.length ≤ m ∧ Own wr w0.heap.size v ts ∧ Blk wr w0.heap.size 26 #[.int .i64 0, .int .i64 0] ∧ Below w0.heap.size w0 wr
/-- All that is known at a round's start. -/
structure At (s : ByteArray) (w0 : World) (v : Value) (wr : World) (m : Nat) (ts : List L.Tok) : Prop where
  lt : m < s.size
  eq : L.lexL 0 (by' s) = L.pre ts (L.lexL m (rest s m))
  len : ts.length ≤ m
  own : Own wr w0.heap.size v ts
  blk : Blk wr w0.heap.size 26 #[.int .i64 0, .int .i64 0]
  bel : Below w0.heap.size w0 wr
theorem At.more {s : ByteArray} {w0 wr w1 w2 : World} {m T kind n v : Nat} {ts : List L.Tok} {val val' : Value} (h : At s w0 val wr m ts) (hm : m < s.size) (hT : m + n = T) (hn : L.nx s[m] (rest s (m + 1)) = .tok kind n v) (hb1 : Below wr.heap.size wr w1) (o : Obj) {ki vi : Int} (hki : (kind : Int) = ki) (hvi : (v : Int) = vi)
    (hown2 : w2.ownsRow w0.heap.size 37 4 val' (ts.length + 1) (flat ts ++ [.int .i64 ki, .string (s.extract m T), .int .i64 vi, .int .i64 m])) (hg : (w1.alloc o).grownBy w2 val.ownBlock) : RLexR s w0 val' (.int .i64 T) w2 := by
  obtain ⟨_, he, hl, hown, hB, hbel⟩ := h
  subst hT hki hvi
  have hin := nx_in hm hn
  have hsz := hbel.size
  have hsz1 := hb1.size
  have hB1 := hB.below hb1 hB.lt
  refine ⟨m + n, ts ++ [⟨kind, by' (s.extract m (m + n)), v, m⟩], rfl, hin.2, ?_, ?_, ?_, ?_, ?_⟩
  · rw [he, tok_at hm hn, L.pre_pre]
  · rw [List.length_append]
    show ts.length + 1 ≤ m + n
    omega
  · exact own_snoc hown2 rfl rfl rfl rfl
  · exact (hg.block _ (hB1.alloc o).lt (fun e => own_ne hown hB (by decide) e.symm)).trans (hB1.alloc o)
  · exact ((hbel.trans (hb1.mono hsz)).alloc (by omega) _).grown hg (by simp; omega) (fun k hk => (hown.lt k hk).1)
theorem At.skip {s : ByteArray} {w0 wr : World} {m T : Nat} {ts : List L.Tok} {val : Value} (h : At s w0 val wr m ts) (hT : m ≤ T) (hs : T ≤ s.size) (he : L.lexL m (rest s m) = L.lexL T (rest s T)) : RLexR s w0 val (.int .i64 T) wr :=
  ⟨T, ts, rfl, hs, by rw [h.eq, he], by have := h.len; omega, h.own, h.blk, h.bel⟩
theorem At.bad {s : ByteArray} {w0 wr w1 w2 : World} {m : Nat} {x : L.Bad} {ts : List L.Tok} {val : Value} (h : At s w0 val wr m ts) (hm : m < s.size) (hn : L.nx s[m] (rest s (m + 1)) = .bad x) (hb1 : Below wr.heap.size wr w1) (hb2 : Below w0.heap.size w1 w2) {ex : Int} (hx : ((eno x : Nat) : Int) = ex) :
    LexTo (L.lexL 0 (by' s)) w0 (.returned (.tuple #[.slice none 0 0, .agg #[.int .i64 ex, .int .i64 (m : Nat)]])) w2 := by
  have hsz := h.bel.size
  rw [h.eq, bad_at h.lt hn, ← hx]
  exact ⟨_, rfl, World.ownsRow_nil _ _ _ _, (h.bel.trans (hb1.mono hsz)).trans hb2⟩
/-! ### what stands at the front -/
theorem skip_blank {s : ByteArray} {m : Nat} (hm : m < s.size) (h : L.blankB s[m] = true) : L.lexL m (rest s m) = L.lexL (m + 1) (rest s (m + 1)) := by
  rw [rest_lt hm, L.lex_skip (k := 0) (L.nx_blank h)]
  rfl
theorem skip_line {s : ByteArray} {m : Nat} (h : [47, 47].isPrefixOf (rest s m) = true) : L.lexL m (rest s m) = L.lexL (m + L.run L.not10 (rest s m)) (rest s (m + L.run L.not10 (rest s m))) := by
  rw [← rest_drop]
  exact lex_line _ _ h
theorem nx_word_at {s : ByteArray} {m : Nat} (hm : m < s.size) (h : L.letB s[m] = true) : L.nx s[m] (rest s (m + 1)) = .tok 1 (L.run L.alnB (rest s m)) 0 := by
  rw [L.nx_word h, rest_lt hm, L.run_cons_pos _ (show L.alnB s[m] = true by simp [L.alnB, h])]
theorem nx_num_at {s : ByteArray} {m : Nat} (hm : m < s.size) (h : L.digB s[m] = true) (hv : L.val (by' (s.extract m (m + L.run L.digB (rest s m)))) ≤ L.top) : L.nx s[m] (rest s (m + 1)) = .tok 2 (L.run L.digB (rest s m)) (L.val (by' (s.extract m (m + L.run L.digB (rest s m))))) := by
  have e : L.run L.digB (rest s m) = L.run L.digB (rest s (m + 1)) + 1 := by rw [rest_lt hm, L.run_cons_pos _ h]
  rw [e, ext_take, rest_lt hm] at hv ⊢
  exact L.nx_num h hv
theorem nx_long_at {s : ByteArray} {m : Nat} (hm : m < s.size) (h : L.digB s[m] = true) (hv : ¬ L.val (by' (s.extract m (m + L.run L.digB (rest s m)))) ≤ L.top) : L.nx s[m] (rest s (m + 1)) = .bad .long := by
  have e : L.run L.digB (rest s m) = L.run L.digB (rest s (m + 1)) + 1 := by rw [rest_lt hm, L.run_cons_pos _ h]
  rw [e, ext_take, rest_lt hm] at hv
  exact L.nx_long h hv
theorem nx_sgn_at {s : ByteArray} {m n : Nat} (hm : m < s.size) (h1 : L.blankB s[m] = false) (h2 : [47, 47].isPrefixOf (rest s m) = false) (h3 : L.letB s[m] = false) (h4 : L.digB s[m] = false) (hn : sgn s[m] (rest s (m + 1)) = n + 1) : L.nx s[m] (rest s (m + 1)) = .tok 3 (n + 1) 0 := by
  rw [rest_lt hm, pre2] at h2
  unfold L.nx
  rw [h1, h2, h3, h4, ← hn]
  unfold sgn
  simp only [Bool.false_eq_true, if_false]
  unfold sgn at hn
  split
  · split <;> rfl
  · rename_i h5
    rw [if_neg h5] at hn
    split
    · rfl
    · rename_i h6
      rw [if_neg h6] at hn
      cases hn
theorem nx_form_at {s : ByteArray} {m : Nat} (hm : m < s.size) (h1 : L.blankB s[m] = false) (h2 : [47, 47].isPrefixOf (rest s m) = false) (h3 : L.letB s[m] = false) (h4 : L.digB s[m] = false) (hn : sgn s[m] (rest s (m + 1)) = 0) : L.nx s[m] (rest s (m + 1)) = .bad .form := by
  rw [rest_lt hm, pre2] at h2
  refine L.nx_form h1 h2 h3 h4 ?_
  unfold sgn at hn
  split at hn
  · split at hn <;> cases hn
  · split at hn
    · cases hn
    · rename_i h6
      simpa using h6
theorem sgn_in {s : ByteArray} {m : Nat} (hm : m < s.size) : m + sgn s[m] (rest s (m + 1)) ≤ s.size := by
  unfold sgn
  split
  · split
    · rename_i h
      have : m + 1 < s.size := by
        by_cases hlt : m + 1 < s.size
        · exact hlt
        · rw [rest_ge (by omega)] at h
          simp at h
      omega
    · omega
  · split <;> omega
/-- The test for a remark, as the walk meets it. -/
theorem remark_yes {s : ByteArray} {m : Nat} (hm : m < s.size) (h : [47, 47].isPrefixOf (rest s m) = true) : ∃ h1 : m + 1 < s.size, (s[m] == 47) = true ∧ (s[m + 1] == 47) = true := by
  rw [rest_lt hm, pre2] at h
  simp only [Bool.and_eq_true] at h
  obtain ⟨ha, hb⟩ := h
  have h1 : m + 1 < s.size := by
    by_cases hlt : m + 1 < s.size
    · exact hlt
    · rw [rest_ge (by omega)] at hb
      simp at hb
  refine ⟨h1, ha, ?_⟩
  rw [rest_lt h1] at hb
  simpa using hb
theorem remark_no {s : ByteArray} {m : Nat} (hm : m < s.size) (h : [47, 47].isPrefixOf (rest s m) = false) : (s[m] == 47) = false ∨ ((s[m] == 47) = true ∧ ¬ m + 1 < s.size) ∨ ((s[m] == 47) = true ∧ ∃ h1 : m + 1 < s.size, (s[m + 1] == 47) = false) := by
  cases ha : s[m] == 47
  · exact .inl rfl
  · refine .inr ?_
    by_cases h1 : m + 1 < s.size
    · refine .inr ⟨rfl, h1, ?_⟩
      rw [rest_lt hm, pre2, ha, rest_lt h1, Bool.true_and] at h
      simpa using h
    · exact .inl ⟨rfl, h1⟩
theorem byte_is {b c : UInt8} {x : Bool} (h : (b == c) = x) : (((b.toNat : Nat) : Int) == ((c.toNat : Nat) : Int)) = x := by rw [nat_beq, h]
end Go.Proofs.Ytlnhhfmgciaaeaa.Lx
