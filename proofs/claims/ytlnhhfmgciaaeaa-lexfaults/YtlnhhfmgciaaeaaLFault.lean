/-
  LexFaults' walk: for any tokens and any byte it returns true, and nothing old turns.
-/
import Derived.Test.YtlnhhfmgciaaeaaLPartsWalk
namespace Go.Proofs.Ytlnhhfmgciaaeaa.Lx
open Go.RowKit
set_option linter.unusedVariables false
set_option linter.unusedSimpArgs false
/-- No line ends in it. -/
def Clean (T : ByteArray) : Prop := ∀ b ∈ by' T, L.not10 b = true
theorem Clean.app {A B : ByteArray} (ha : Clean A) (hb : Clean B) : Clean (A ++ B) := by
  intro b h
  rw [by_app, List.mem_append] at h
  rcases h with h | h
  · exact ha b h
  · exact hb b h
theorem blank1 : Sep (bs [32]) := sep_is 0 (by decide)
theorem clean1 : Clean (bs [32]) := by
  unfold Clean
  rw [by_bs]
  decide
theorem piece_clean {k n : Nat} {p : List UInt8} (hp : L.Piece k p n) : ∀ b ∈ p, L.not10 b = true := by
  intro b hb
  have key : ∀ b : UInt8, (L.alnB b || L.signB b) = true → L.not10 b = true := fun b h => by
    have := L.all_bytes (fun b => !(L.alnB b || L.signB b) || L.not10 b) (by decide +kernel) b
    rw [h] at this
    simpa using this
  cases hp with
  | word hb0 ht =>
    refine key b ?_
    rcases List.mem_cons.1 hb with rfl | h
    · simp [L.alnB, hb0]
    · simp [ht b h]
  | num h0 ha hv => exact key b (by simp [L.alnB, ha b hb])
  | sign hs => exact key b (by rw [List.mem_singleton.1 hb]; simp [hs])
  | two =>
    refine key b ?_
    simp at hb
    subst hb
    decide
theorem pc_clean (k n : Nat) (hn : n < 256) : Clean (bs (pcT k n)) := by
  unfold Clean
  rw [by_bs]
  exact piece_clean (pc_piece k n hn)
theorem odd_clean {o : UInt8} (h : L.oddB o = true) : Clean (bs [o]) := by
  intro b hb
  rw [by_bs, List.mem_singleton] at hb
  subst hb
  have := L.all_bytes (fun b => !L.oddB b || L.not10 b) (by decide +kernel) b
  rw [h] at this
  simpa using this
/-- It is refused at p, whatever stands behind it. -/
def Refused (T : ByteArray) (p : Nat) : Prop := ∀ r, L.lexL 0 (by' T ++ r) = .error (.form, p)
theorem Refused.app {T : ByteArray} {p : Nat} (h : Refused T p) (X : ByteArray) : Refused (T ++ X) p := fun r => by
  rw [by_app, List.append_assoc]
  exact h _
theorem Brings.odd {T : ByteArray} {ts : List L.Tok} {o : UInt8} (h : Brings T ts) (ho : L.oddB o = true) : Refused (T ++ bs [o]) T.size := fun r => by
  rw [by_app, by_bs, List.append_assoc, h, List.singleton_append, L.lex_odd ho]
  rfl
theorem Refused.all {T : ByteArray} {p : Nat} (h : Refused T p) (hl : T.size ≤ 4096) : lexA T = .error (.form, p) := by
  have := h []
  rw [List.append_nil] at this
  rw [lexA, if_pos hl, this]
theorem clean_all {T : ByteArray} (h : Clean T) (hl : T.size ≤ 4000) : lexA (⟨#[47, 47]⟩ ++ T) = .ok [⟨4, [], 0, 0 + (T.size + 2)⟩] := by
  have e : (⟨#[47, 47]⟩ : ByteArray) ++ T = bs (47 :: 47 :: by' T) := by
    rw [show (⟨#[47, 47]⟩ : ByteArray) = bs [47, 47] from rfl, ← bs_by T, bs_app]
    rfl
  rw [lexA, e, bs_size, List.length_cons, List.length_cons, by_len, if_pos (by omega), by_bs, L.lex_remark_end h, by_len]
/-- The twelve bytes that are passed by. -/
def twelve : List UInt8 := [123, 125, 40, 41, 59, 44, 58, 61, 60, 43, 45, 47]
theorem odd_of {o : UInt8} (h : ¬ ((48 ≤ (o.toNat : Int) ∧ (o.toNat : Int) ≤ 57) ∨ (65 ≤ (o.toNat : Int) ∧ (o.toNat : Int) ≤ 90) ∨ (97 ≤ (o.toNat : Int) ∧ (o.toNat : Int) ≤ 122) ∨ (o.toNat : Int) = 32 ∨ (o.toNat : Int) = 9 ∨ (o.toNat : Int) = 10 ∨ (o.toNat : Int) = 13)) (h12 : twelve.all (fun c => !(c == o)) = true) : L.oddB o = true := by
  have k := L.all_bytes (fun o => (L.digB o || L.letB o || L.blankB o) || (!(twelve.all fun c => !(c == o))) || L.oddB o) (by decide +kernel) o
  have h1 : L.digB o = false := by rw [dig_int]; simp only [decide_eq_false_iff_not]; omega
  have h2 : L.letB o = false := by rw [let_int]; simp only [decide_eq_false_iff_not]; omega
  have h3 : L.blankB o = false := by rw [blank_int]; simp only [decide_eq_false_iff_not]; omega
  simpa [h1, h2, h3, h12] using k
def tCells : Array Value := #[.int .u8 123, .int .u8 125, .int .u8 40, .int .u8 41, .int .u8 59, .int .u8 44, .int .u8 58, .int .u8 61, .int .u8 60, .int .u8 43, .int .u8 45, .int .u8 47]
def tAt (j : Nat) : UInt8 := twelve.getD j 0
theorem t_cell (j : Nat) (h : j < 12) : tCells[j]? = some (.int .u8 ((tAt j).toNat : Nat)) := by
  match j, h with
  | 0, _ => rfl
  | 1, _ => rfl
  | 2, _ => rfl
  | 3, _ => rfl
  | 4, _ => rfl
  | 5, _ => rfl
  | 6, _ => rfl
  | 7, _ => rfl
  | 8, _ => rfl
  | 9, _ => rfl
  | 10, _ => rfl
  | 11, _ => rfl
  | n + 12, h => exact absurd h (by omega)
theorem t_all {o : UInt8} (h : ∀ j, j < 12 → tAt j ≠ o) : twelve.all (fun c => !(c == o)) = true := by
  rw [List.all_eq_true]
  intro c hc
  obtain ⟨j, hj, rfl⟩ := List.getElem_of_mem hc
  have := h j hj
  unfold tAt at this
  rw [List.getD_eq_getElem?_getD, List.getElem?_eq_getElem hj] at this
  simpa using this
/-- So many of them are not it. -/
def TwR (o : UInt8) (t : Value) : Prop := ∃ j : Nat, t = .int .i64 j ∧ j ≤ 12 ∧ ∀ i, i < j → tAt i ≠ o
theorem twR_more {o : UInt8} {j : Nat} (hj : j < 12) (h : ∀ i, i < j → tAt i ≠ o) (h' : tAt j ≠ o) : TwR o (.int .i64 ((j : Int) + 1)) := by
  refine ⟨j + 1, by go_num, by omega, ?_⟩
  intro i hi
  by_cases e : i = j
  · subst e
    exact h'
  · exact h i (by omega)
/-- Whether the byte is in it yet. -/
def Phase (N i : Nat) (T : ByteArray) (pv : Value) : Prop := (pv = .int .i64 (-1) ∧ i / 2 ≤ N ∧ ∃ ts, Brings T ts) ∨ (N < i / 2 ∧ ∃ p : Nat, pv = .int .i64 p ∧ Refused T p)
/-- What a round leaves. -/
def FaultR (len N : Nat) (w0 : World) (tv pv iv : Value) (wr : World) : Prop :=
  ∃ (i : Nat) (T : ByteArray), tv = .string T ∧ iv = .int .i64 i ∧ i ≤ len + 1 ∧ T.size ≤ 2 + 20 * i ∧ Clean T ∧ Below w0.heap.size w0 wr ∧ Phase N i T pv
end Go.Proofs.Ytlnhhfmgciaaeaa.Lx
