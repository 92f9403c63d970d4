/-
  What Name tells, of package lex and of the document's answer, as contracts.
-/
import Derived.Test.YtihhkppimeagfaaPA
import Derived.Test.YtihhkppimeagfaaLLex
namespace Go.Proofs.Ytihhkppimeagfaa.Lx
open Go.RowKit
set_option maxRecDepth 100000
set_option linter.unusedVariables false
set_option linter.unusedSimpArgs false
theorem Tells.call {F : Nat} {P : UInt8 → Bool} (h : Tells F P) (b : UInt8) (w : World) : Calls Try.prog F #[.int .u8 b.toNat] w fun e w' => e = .returned (.bool (P b)) ∧ w = w' := h b w
/-- A name: a letter ahead, letters and digits alone, at most 8 bytes, no keyword. -/
def nameB (l : List UInt8) : Bool := l.head?.any L.letB && decide (l.length ≤ 8) && !kwB l && l.all L.alnB
theorem run_all {p : UInt8 → Bool} : ∀ l : List UInt8, L.run p l = l.length → l.all p = true
  | [], _ => rfl
  | b :: l, h => by
    cases hb : p b
    · rw [L.run_cons_neg _ hb] at h
      simp at h
    · rw [L.run_cons_pos _ hb] at h
      rw [List.all_cons, hb, run_all l (by simpa using h)]
      rfl
theorem all_run {p : UInt8 → Bool} (l : List UInt8) (h : l.all p = true) : L.run p l = l.length := by
  have := L.run_append l [] (fun b hb => List.all_eq_true.1 h b hb)
  simpa [L.run_nil] using this
theorem name_no {s : ByteArray} (h : bat L.letB s 0 = false) : nameB (by' s) = false := by
  have h' : (by' s).head?.any L.letB = false := h
  rw [nameB, h']
  rfl
theorem name_is {s : ByteArray} (h : bat L.letB s 0 = true) : nameB (by' s) = (decide (L.run L.alnB (by' s) = s.size) && decide (s.size ≤ 8) && !kwB (by' s)) := by
  have h' : (by' s).head?.any L.letB = true := h
  rw [nameB, h', by_len, Bool.true_and]
  by_cases e : L.run L.alnB (by' s) = s.size
  · rw [run_all (by' s) (by rw [by_len]; exact e), decide_eq_true e, Bool.true_and, Bool.and_true]
  · have : (by' s).all L.alnB = false := by
      cases ha : (by' s).all L.alnB
      · rfl
      · exact absurd (by rw [all_run _ ha, by_len]) e
    rw [this, decide_eq_false e, Bool.and_false]
    rfl
theorem ext_not_word {s : ByteArray} (h : bat L.letB s 0 = false) : (ext (rest s 0)).1 ≠ 1 := by
  cases h1 : bat L.digB s 0
  · cases h2 : bat L.signB s 0
    · rw [ext_none h h1 h2]
      decide
    · rw [ext_sign h h1 h2]
      exact (by decide : (3 : Nat) ≠ 1)
  · rw [ext_num h h1]
    exact (by decide : (2 : Nat) ≠ 1)
theorem extent_zero (s : ByteArray) (c n : Nat) (ci : Int) (w : World) (hs : s.size ≤ maxLen) (he : ext (rest s 0) = (c, n)) (hci : (c : Int) = ci) :
    Calls Try.prog 63 #[.string s, .int .i64 0] w fun e w' => e = .returned (.tuple #[.int .i64 ci, .int .i64 (extEnd 0 (c, n) : Nat)]) ∧ w = w' := by
  refine (extent_any s 0 w hs (by omega)).mono ?_
  rintro e w' ⟨rfl, rfl⟩
  rw [he, hci]
  exact ⟨rfl, rfl⟩
/-! ### the document's answer -/
theorem not_nil {s : ByteArray} (h : 0 < s.size) : ¬ s.toList = [] := by
  intro e
  have := by_len s
  rw [← toList_by, e] at this
  simp at this
  omega
theorem nil_is {s : ByteArray} (h : ¬ 0 < s.size) : s = ⟨#[]⟩ := by
  apply by_inj
  have := by_len s
  have h0 : (by' s).length = 0 := by omega
  rw [List.eq_nil_of_length_eq_zero h0]
  rfl
end Go.Proofs.Ytihhkppimeagfaa.Lx
/-
  What sign of the document's answer tells, as a contract.
-/
namespace Go.Proofs.Ytihhkppimeagfaa.Lx
open Go.RowKit
set_option maxRecDepth 100000
set_option linter.unusedVariables false
set_option linter.unusedSimpArgs false
/-- How many bytes the sign at the front has; 0: none. -/
def sgn (b : UInt8) (r : List UInt8) : Nat := if b == 61 then (if r.head? == some 61 then 2 else 1) else if L.signB b then 1 else 0
theorem sgn_eq {b : UInt8} (c : UInt8) (r : List UInt8) (h : (b == 61) = true) : sgn b (c :: r) = if c == 61 then 2 else 1 := by
  rw [sgn, if_pos h]
  rfl
/-- Signs of one byte but '='. -/
def ones : List UInt8 := [123, 125, 40, 41, 59, 44, 58, 60, 43, 45]
theorem sign_ones {b : UInt8} (h : (b == 61) = false) : L.signB b = ones.any (· == b) := by
  have k := L.all_bytes (fun b => b == 61 || (L.signB b == ones.any (· == b))) (by decide +kernel) b
  simp only [h, Bool.false_or, beq_iff_eq] at k
  exact k
/-- A number is told; orders may be drawn. -/
def NumTo (v : Int) (w : World) (e : Ending) (w' : World) : Prop := e = .returned (.int .i64 v) ∧ ∃ n, w' = w.drewN n
/-- So many signs are not it. -/
def SgnR (S : ByteArray) (b : UInt8) (w : World) (t : Value) (wr : World) : Prop := ∃ j : Nat, t = .int .i64 j ∧ j ≤ S.size ∧ (∀ i, i < j → (by' S)[i]? ≠ some b) ∧ ∃ n, wr = w.drewN n
theorem sgnR_more {S : ByteArray} {b : UInt8} {w : World} {j n : Nat} (hj : j < S.size) (h : ∀ i, i < j → (by' S)[i]? ≠ some b) (h' : ¬ S[j] = b) : SgnR S b w (.int .i64 ((j : Int) + 1)) (w.drewN n) := by
  refine ⟨j + 1, by go_num, by omega, ?_, n, rfl⟩
  intro i hi
  by_cases e : i = j
  · subst e
    rw [List.getElem?_eq_getElem (by rw [by_len]; exact hj)]
    intro h2
    injection h2 with h2
    exact h' h2
  · exact h i (by omega)
theorem any_at {S : ByteArray} {b : UInt8} {j : Nat} (hj : j < S.size) (h : S[j] = b) : (by' S).any (· == b) = true := by
  rw [List.any_eq_true]
  exact ⟨S[j], List.getElem_mem (l := by' S) (by rw [by_len]; exact hj), by rw [h]; simp⟩
theorem any_not {S : ByteArray} {b : UInt8} (h : ∀ i, i < S.size → (by' S)[i]? ≠ some b) : (by' S).any (· == b) = false := by
  cases ha : (by' S).any (· == b)
  · rfl
  · exfalso
    rw [List.any_eq_true] at ha
    obtain ⟨x, hx, he⟩ := ha
    obtain ⟨j, hj, rfl⟩ := List.getElem_of_mem hx
    refine h j (by rw [← by_len]; exact hj) ?_
    rw [List.getElem?_eq_getElem hj]
    simpa using he
theorem nat_beq (a b : UInt8) : (((a.toNat : Nat) : Int) == ((b.toNat : Nat) : Int)) = (a == b) := by
  rw [beq_int, Bool.eq_iff_iff]
  simp
set_option maxHeartbeats 800000 in
theorem rsign_any (s : ByteArray) (k : Nat) (w : World) (hs : s.size ≤ maxLen) (hk : k < s.size) :
    Calls Try.prog 24 #[.string s, .int .i64 (k : Nat)] w (NumTo (sgn s[k] (rest s (k + 1)) : Nat) w) := by
  unfold maxLen at hs
  cases h61 : s[k] == 61
  · have hs0 := sign_ones h61
    have hi61 : (((s[k].toNat : Nat) : Int) == 61) = false := by
      have := nat_beq s[k] 61
      rw [h61] at this
      exact this
    have HSG := Lib.hid (show sgn s[k] (rest s (k + 1)) = if ones.any (· == s[k]) then 1 else 0 by rw [sgn, h61, hs0]; rfl)
    clear hs0
    generalize hb : s[k] = b at *
    have HB := Lib.hid hb
    have hsk : (s[k].toNat : Int) = (b.toNat : Int) := by rw [hb]
    clear h61 hb
    go_enter Try.func24, Try.ntmps24
    go_wp2_with fail
    have hz1 : (bs ones).size ≤ 10 := by decide
    have hz2 : 10 ≤ (bs ones).size := by decide
    have HO := Lib.hid (show by' (bs ones) = ones from rfl)
    have HBO := Lib.hid (show bs ones = ⟨#[123, 125, 40, 41, 59, 44, 58, 60, 43, 45]⟩ from rfl)
    rw [← HBO.out]
    clear HBO
    generalize bs ones = S at *
    go_loopw [6] (fun t wr => SgnR S b w t wr) (fun t _ => 10 - (intOf t).toNat)
    case atStart => exact ⟨0, rfl, by omega, fun i hi => absurd hi (by omega), 0, rfl⟩
    case round =>
      obtain ⟨j, rfl, hj, hno, n, rfl⟩ := hrel
      have HN := Lib.hid hno
      clear hno
      by_cases hlt : j < S.size
      · have d1 : (0 : Int) ≤ (j : Int) := by omega
        have d2 : (j : Int) < (S.size : Int) := by omega
        have d3 : (0 : Int) ≤ (k : Int) := by omega
        have d4 : (k : Int) < (s.size : Int) := by omega
        by_cases hq : S[j] = b
        · have h1 : (((S[j].toNat : Nat) : Int) == ((b.toNat : Nat) : Int)) = true := by rw [hq]; simp
          have h2 : (S[j].toNat == b.toNat) = true := by rw [hq]; simp
          have HA := Lib.hid (any_at hlt hq)
          clear hq
          go_wp2_with fail
          go_quiet (fail)
          go_wp2_with fail
          go_ret
          refine ⟨ret_int ?_, _, World.drewN_drewN _ _ _⟩
          rw [HSG.out, ← HO.out, HA.out]
          rfl
        · have hq' : (S[j] == b) = false := by simpa using hq
          have h1 : (((S[j].toNat : Nat) : Int) == ((b.toNat : Nat) : Int)) = false := by rw [nat_beq]; exact hq'
          have h2 : (S[j].toNat == b.toNat) = false := by
            rw [← hq', Bool.eq_iff_iff]
            simp [UInt8.toNat_inj]
          have HM := Lib.hid (fun n => sgnR_more (w := w) (n := n) hlt HN.out hq)
          clear hq hq'
          go_wp2_with fail
          go_quiet (fail)
          go_wp2_with fail
          go_roundw
          case rel => exact HM.out _
          case measure => simp [intOf]; omega
      · have HA := Lib.hid (any_not (S := S) (b := b) (fun i hi => HN.out i (by omega)))
        go_wp2_with fail
        go_ret
        refine ⟨ret_int ?_, _, rfl⟩
        rw [HSG.out, ← HO.out, HA.out]
        rfl
  · have hi61 : (((s[k].toNat : Nat) : Int) == 61) = true := by
      have := nat_beq s[k] 61
      rw [h61] at this
      exact this
    by_cases h1 : k + 1 < s.size
    · have hr := rest_lt h1
      cases h2 : s[k + 1] == 61
      · have HSG := Lib.hid (show sgn s[k] (rest s (k + 1)) = 1 by rw [hr, sgn_eq _ _ h61, h2]; rfl)
        have hi2 : (((s[k + 1].toNat : Nat) : Int) == 61) = false := by
          have := nat_beq s[k + 1] 61
          rw [h2] at this
          exact this
        clear h61 h2 hr
        go_enter Try.func24, Try.ntmps24
        go_wp2_with fail
        all_goals first | omega | skip
        go_ret
        refine ⟨ret_int ?_, 0, rfl⟩
        rw [HSG.out]
        rfl
      · have HSG := Lib.hid (show sgn s[k] (rest s (k + 1)) = 2 by rw [hr, sgn_eq _ _ h61, h2]; rfl)
        have hi2 : (((s[k + 1].toNat : Nat) : Int) == 61) = true := by
          have := nat_beq s[k + 1] 61
          rw [h2] at this
          exact this
        clear h61 h2 hr
        go_enter Try.func24, Try.ntmps24
        go_wp2_with fail
        all_goals first | omega | skip
        go_ret
        refine ⟨ret_int ?_, 0, rfl⟩
        rw [HSG.out]
        rfl
    · have HSG := Lib.hid (show sgn s[k] (rest s (k + 1)) = 1 by rw [sgn, h61, rest_ge (by omega)]; rfl)
      clear h61
      go_enter Try.func24, Try.ntmps24
      go_wp2_with fail
      all_goals first | omega | skip
      go_ret
      refine ⟨ret_int ?_, 0, rfl⟩
      rw [HSG.out]
      rfl
end Go.Proofs.Ytihhkppimeagfaa.Lx
/-
  What Lex of the document's answer tells, as a contract.
-/
namespace Go.Proofs.Ytihhkppimeagfaa.Lx
open Go.RowKit
set_option maxRecDepth 100000
set_option linter.unusedVariables false
set_option linter.unusedSimpArgs false
/-- What a round of the document's Lex leaves. -/
def RLexR (s : ByteArray) (w0 : World) (v t : Value) (wr : World) : Prop :=
  ∃ (m : Nat) (ts : List L.Tok), t = .int .i64 m ∧ m ≤ s.size ∧ L.lexL 0 (by' s) = L.pre ts (L.lexL m (rest s m)) ∧ ts.length ≤ m ∧ Own wr w0.heap.size v ts ∧ Blk wr w0.heap.size 38 #[.int .i64 0, .int .i64 0] ∧ Below w0.heap.size w0 wr
/-- All that is known at a round's start. -/
structure At (s : ByteArray) (w0 : World) (v : Value) (wr : World) (m : Nat) (ts : List L.Tok) : Prop where
  lt : m < s.size
  eq : L.lexL 0 (by' s) = L.pre ts (L.lexL m (rest s m))
  len : ts.length ≤ m
  own : Own wr w0.heap.size v ts
  blk : Blk wr w0.heap.size 38 #[.int .i64 0, .int .i64 0]
  bel : Below w0.heap.size w0 wr
theorem At.more {s : ByteArray} {w0 wr w1 w2 : World} {m T kind n v : Nat} {ts : List L.Tok} {val val' : Value} (h : At s w0 val wr m ts) (hm : m < s.size) (hT : m + n = T) (hn : L.nx s[m] (rest s (m + 1)) = .tok kind n v) (hb1 : Below wr.heap.size wr w1) (o : Obj) {ki vi : Int} (hki : (kind : Int) = ki) (hvi : (v : Int) = vi)
    (hown2 : w2.ownsRow w0.heap.size 45 4 val' (ts.length + 1) (flat ts ++ [.int .i64 ki, .string (s.extract m T), .int .i64 vi, .int .i64 m])) (hg : (w1.alloc o).grownBy w2 val.ownBlock) : RLexR s w0 val' (.int .i64 T) w2 := by
  obtain ⟨_, he, hl, hown, hB, hbel⟩ := h
  subst hT hki hvi
  have hin := nx_in hm hn
  have hsz := hbel.size
  have hsz1 := hb1.size
  have hB1 := hB.below hb1 hB.lt
  refine ⟨m + n, ts ++ [⟨kind, by' (s.extract m (m + n)), v, m⟩], rfl, hin.2, ?_, ?_, ?_, ?_, ?_⟩
  · rw [he, tok_at hm hn, L.pre_pre]
  · rw [List.length_append]
    show ts.length + 1 ≤ m + n
    omega
  · exact own_snoc hown2 rfl rfl rfl rfl
  · exact (hg.block _ (hB1.alloc o).lt (fun e => own_ne hown hB (by decide) e.symm)).trans (hB1.alloc o)
  · exact ((hbel.trans (hb1.mono hsz)).alloc (by omega) _).grown hg (by simp; omega) (fun k hk => (hown.lt k hk).1)
theorem At.skip {s : ByteArray} {w0 wr : World} {m T : Nat} {ts : List L.Tok} {val : Value} (h : At s w0 val wr m ts) (hT : m ≤ T) (hs : T ≤ s.size) (he : L.lexL m (rest s m) = L.lexL T (rest s T)) : RLexR s w0 val (.int .i64 T) wr :=
  ⟨T, ts, rfl, hs, by rw [h.eq, he], by have := h.len; omega, h.own, h.blk, h.bel⟩
theorem At.bad {s : ByteArray} {w0 wr w1 w2 : World} {m : Nat} {x : L.Bad} {ts : List L.Tok} {val : Value} (h : At s w0 val wr m ts) (hm : m < s.size) (hn : L.nx s[m] (rest s (m + 1)) = .bad x) (hb1 : Below wr.heap.size wr w1) (hb2 : Below w0.heap.size w1 w2) {ex : Int} (hx : ((eno x : Nat) : Int) = ex) :
    LexTo (L.lexL 0 (by' s)) w0 (.returned (.tuple #[.slice none 0 0, .agg #[.int .i64 ex, .int .i64 (m : Nat)]])) w2 := by
  have hsz := h.bel.size
  rw [h.eq, bad_at h.lt hn, ← hx]
  exact ⟨_, rfl, World.ownsRow_nil _ _ _ _, (h.bel.trans (hb1.mono hsz)).trans hb2⟩
/-! ### what stands at the front -/
theorem skip_blank {s : ByteArray} {m : Nat} (hm : m < s.size) (h : L.blankB s[m] = true) : L.lexL m (rest s m) = L.lexL (m + 1) (rest s (m + 1)) := by
  rw [rest_lt hm, L.lex_skip (k := 0) (L.nx_blank h)]
  rfl
theorem skip_line {s : ByteArray} {m : Nat} (h : [47, 47].isPrefixOf (rest s m) = true) : L.lexL m (rest s m) = L.lexL (m + L.run L.not10 (rest s m)) (rest s (m + L.run L.not10 (rest s m))) := by
  rw [← rest_drop]
  exact lex_line _ _ h
theorem nx_word_at {s : ByteArray} {m : Nat} (hm : m < s.size) (h : L.letB s[m] = true) : L.nx s[m] (rest s (m + 1)) = .tok 1 (L.run L.alnB (rest s m)) 0 := by
  rw [L.nx_word h, rest_lt hm, L.run_cons_pos _ (show L.alnB s[m] = true by simp [L.alnB, h])]
theorem nx_num_at {s : ByteArray} {m : Nat} (hm : m < s.size) (h : L.digB s[m] = true) (hv : L.val (by' (s.extract m (m + L.run L.digB (rest s m)))) ≤ L.top) : L.nx s[m] (rest s (m + 1)) = .tok 2 (L.run L.digB (rest s m)) (L.val (by' (s.extract m (m + L.run L.digB (rest s m))))) := by
  have e : L.run L.digB (rest s m) = L.run L.digB (rest s (m + 1)) + 1 := by rw [rest_lt hm, L.run_cons_pos _ h]
  rw [e, ext_take, rest_lt hm] at hv ⊢
  exact L.nx_num h hv
theorem nx_long_at {s : ByteArray} {m : Nat} (hm : m < s.size) (h : L.digB s[m] = true) (hv : ¬ L.val (by' (s.extract m (m + L.run L.digB (rest s m)))) ≤ L.top) : L.nx s[m] (rest s (m + 1)) = .bad .long := by
  have e : L.run L.digB (rest s m) = L.run L.digB (rest s (m + 1)) + 1 := by rw [rest_lt hm, L.run_cons_pos _ h]
  rw [e, ext_take, rest_lt hm] at hv
  exact L.nx_long h hv
theorem nx_sgn_at {s : ByteArray} {m n : Nat} (hm : m < s.size) (h1 : L.blankB s[m] = false) (h2 : [47, 47].isPrefixOf (rest s m) = false) (h3 : L.letB s[m] = false) (h4 : L.digB s[m] = false) (hn : sgn s[m] (rest s (m + 1)) = n + 1) : L.nx s[m] (rest s (m + 1)) = .tok 3 (n + 1) 0 := by
  rw [rest_lt hm, pre2] at h2
  unfold L.nx
  rw [h1, h2, h3, h4, ← hn]
  unfold sgn
  simp only [Bool.false_eq_true, if_false]
  unfold sgn at hn
  split
  · split <;> rfl
  · rename_i h5
    rw [if_neg h5] at hn
    split
    · rfl
    · rename_i h6
      rw [if_neg h6] at hn
      cases hn
theorem nx_form_at {s : ByteArray} {m : Nat} (hm : m < s.size) (h1 : L.blankB s[m] = false) (h2 : [47, 47].isPrefixOf (rest s m) = false) (h3 : L.letB s[m] = false) (h4 : L.digB s[m] = false) (hn : sgn s[m] (rest s (m + 1)) = 0) : L.nx s[m] (rest s (m + 1)) = .bad .form := by
  rw [rest_lt hm, pre2] at h2
  refine L.nx_form h1 h2 h3 h4 ?_
  unfold sgn at hn
  split at hn
  · split at hn <;> cases hn
  · split at hn
    · cases hn
    · rename_i h6
      simpa using h6
theorem sgn_in {s : ByteArray} {m : Nat} (hm : m < s.size) : m + sgn s[m] (rest s (m + 1)) ≤ s.size := by
  unfold sgn
  split
  · split
    · rename_i h
      have : m + 1 < s.size := by
        by_cases hlt : m + 1 < s.size
        · exact hlt
        · rw [rest_ge (by omega)] at h
          simp at h
      omega
    · omega
  · split <;> omega
/-- The test for a remark, as the walk meets it. -/
theorem remark_yes {s : ByteArray} {m : Nat} (hm : m < s.size) (h : [47, 47].isPrefixOf (rest s m) = true) : ∃ h1 : m + 1 < s.size, (s[m] == 47) = true ∧ (s[m + 1] == 47) = true := by
  rw [rest_lt hm, pre2] at h
  simp only [Bool.and_eq_true] at h
  obtain ⟨ha, hb⟩ := h
  have h1 : m + 1 < s.size := by
    by_cases hlt : m + 1 < s.size
    · exact hlt
    · rw [rest_ge (by omega)] at hb
      simp at hb
  refine ⟨h1, ha, ?_⟩
  rw [rest_lt h1] at hb
  simpa using hb
theorem remark_no {s : ByteArray} {m : Nat} (hm : m < s.size) (h : [47, 47].isPrefixOf (rest s m) = false) : (s[m] == 47) = false ∨ ((s[m] == 47) = true ∧ ¬ m + 1 < s.size) ∨ ((s[m] == 47) = true ∧ ∃ h1 : m + 1 < s.size, (s[m + 1] == 47) = false) := by
  cases ha : s[m] == 47
  · exact .inl rfl
  · refine .inr ?_
    by_cases h1 : m + 1 < s.size
    · refine .inr ⟨rfl, h1, ?_⟩
      rw [rest_lt hm, pre2, ha, rest_lt h1, Bool.true_and] at h
      simpa using h
    · exact .inl ⟨rfl, h1⟩
theorem byte_is {b c : UInt8} {x : Bool} (h : (b == c) = x) : (((b.toNat : Nat) : Int) == ((c.toNat : Nat) : Int)) = x := by rw [nat_beq, h]
end Go.Proofs.Ytihhkppimeagfaa.Lx
