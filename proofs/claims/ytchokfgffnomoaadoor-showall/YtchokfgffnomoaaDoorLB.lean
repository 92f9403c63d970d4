/-
  What the kinds of bytes of package lex and of the document's answer tell, as contracts: each returns what the plain function says, and leaves the world as it was.
-/
import Derived.Test.YtchokfgffnomoaaDoorRows
import Derived.Test.YtchokfgffnomoaaDoorLA
import Derived.WalkKit
import Derived.WalkSpells
import Derived.WalkLawsBesides
import Derived.IntWalk
import Derived.Lib.Hide
import Derived.Deep.Light
namespace Go.Proofs.YtchokfgffnomoaaDoor.Lx
open Go.RowKit
set_option maxRecDepth 100000
set_option linter.unusedVariables false
set_option linter.unusedSimpArgs false
theorem ret_int {k : IntKind} {a b : Int} (h : a = b) : Ending.returned (.int k a) = .returned (.int k b) := by rw [h]
theorem ret_bool {a b : Bool} (h : a = b) : Ending.returned (.bool a) = .returned (.bool b) := by rw [h]
theorem beq_int (b : UInt8) (n : UInt8) : (b == n) = decide ((b.toNat : Int) = (n.toNat : Int)) := by
  rw [Bool.eq_iff_iff]
  simp only [beq_iff_eq, decide_eq_true_eq]
  constructor
  · rintro rfl
    rfl
  · intro h
    exact UInt8.toNat_inj.1 (by omega)
theorem blank_int (b : UInt8) : L.blankB b = decide ((b.toNat : Int) = 32 ∨ (b.toNat : Int) = 9 ∨ (b.toNat : Int) = 10 ∨ (b.toNat : Int) = 13) := by
  simp only [L.blankB, beq_int, ← Bool.decide_or]
  simp [or_assoc]
theorem let_int (b : UInt8) : L.letB b = decide ((97 ≤ (b.toNat : Int) ∧ (b.toNat : Int) ≤ 122) ∨ (65 ≤ (b.toNat : Int) ∧ (b.toNat : Int) ≤ 90)) := by
  simp only [L.letB, ← Bool.decide_or, ← Bool.decide_and, decide_eq_decide]
  omega
theorem dig_int (b : UInt8) : L.digB b = decide (48 ≤ (b.toNat : Int) ∧ (b.toNat : Int) ≤ 57) := by
  simp only [L.digB, ← Bool.decide_or, ← Bool.decide_and, decide_eq_decide]
  omega
theorem not10_int (b : UInt8) : L.not10 b = decide (¬ (b.toNat : Int) = 10) := by
  simp only [L.not10, bne, beq_int, decide_not]
  rfl
theorem sign_int (b : UInt8) : L.signB b = decide ((b.toNat : Int) = 123 ∨ (b.toNat : Int) = 125 ∨ (b.toNat : Int) = 40 ∨ (b.toNat : Int) = 41 ∨ (b.toNat : Int) = 59 ∨ (b.toNat : Int) = 44 ∨ (b.toNat : Int) = 58 ∨ (b.toNat : Int) = 60 ∨ (b.toNat : Int) = 43 ∨ (b.toNat : Int) = 45 ∨ (b.toNat : Int) = 61) := by
  simp only [L.signB, beq_int, ← Bool.decide_or]
  simp [or_assoc]
/-- A function of a byte that tells a kind and does nothing else. -/
def Tells (F : Nat) (P : UInt8 → Bool) : Prop := ∀ (b : UInt8) (w : World), Calls Tryd.prog F #[.int .u8 b.toNat] w fun e w' => e = .returned (.bool (P b)) ∧ w = w'

/-! ### the document's answer -/
end Go.Proofs.YtchokfgffnomoaaDoor.Lx
/-
  Texts as lists of bytes, and what begins, past, next, pastSign, extent and worth of package lex tell of them, as contracts.
-/
namespace Go.Proofs.YtchokfgffnomoaaDoor.Lx
open Go.RowKit
set_option maxRecDepth 100000
set_option linter.unusedVariables false
set_option linter.unusedSimpArgs false
/-- A text's bytes. -/
def by' (s : ByteArray) : List UInt8 := s.data.toList
/-- Bytes as a text. -/
def bs (l : List UInt8) : ByteArray := ⟨l.toArray⟩
theorem by_bs (l : List UInt8) : by' (bs l) = l := rfl
theorem bs_by (s : ByteArray) : bs (by' s) = s := rfl
theorem by_len (s : ByteArray) : (by' s).length = s.size := by cases s; rfl
theorem toList_by (s : ByteArray) : s.toList = by' s := ByteArray.toList_eq s
theorem by_inj {s t : ByteArray} (h : by' s = by' t) : s = t := by rw [← bs_by s, h, bs_by]
theorem by_app (s t : ByteArray) : by' (s ++ t) = by' s ++ by' t := by
  simp [by', ByteArray.data_append]
theorem by_ext (s : ByteArray) (a b : Nat) : by' (s.extract a b) = ((by' s).drop a).take (b - a) := by
  have : s.extract a b = bs (((by' s).drop a).take (b - a)) := ByteArray.extract_mk (by' s) a b
  rw [this, by_bs]
theorem ext_bs (s : ByteArray) (a b : Nat) : s.extract a b = bs (((by' s).drop a).take (b - a)) := ByteArray.extract_mk (by' s) a b
/-- What stands from a place on. -/
def rest (s : ByteArray) (k : Nat) : List UInt8 := (by' s).drop k
theorem rest_zero (s : ByteArray) : rest s 0 = by' s := rfl
theorem rest_len (s : ByteArray) (k : Nat) : (rest s k).length = s.size - k := by
  rw [rest, List.length_drop, by_len]
theorem rest_drop (s : ByteArray) (k n : Nat) : (rest s k).drop n = rest s (k + n) := by rw [rest, rest, List.drop_drop]
theorem rest_lt {s : ByteArray} {k : Nat} (h : k < s.size) : rest s k = s[k] :: rest s (k + 1) := by
  have h' : k < (by' s).length := by rw [by_len]; exact h
  rw [rest, List.drop_eq_getElem_cons h']
  rfl
theorem rest_ge {s : ByteArray} {k : Nat} (h : s.size ≤ k) : rest s k = [] := List.drop_eq_nil_of_le (by rw [by_len]; exact h)
theorem ext_rest (s : ByteArray) (k : Nat) : by' (s.extract k s.size) = rest s k := by
  rw [by_ext, rest]
  exact List.take_of_length_le (by rw [List.length_drop, by_len]; omega)
/-- Does a byte of that kind stand there? -/
def bat (P : UInt8 → Bool) (s : ByteArray) (k : Nat) : Bool := (rest s k).head?.any P
theorem bat_lt {P : UInt8 → Bool} {s : ByteArray} {k : Nat} (h : k < s.size) : bat P s k = P s[k] := by rw [bat, rest_lt h]; rfl
theorem bat_ge {P : UInt8 → Bool} {s : ByteArray} {k : Nat} (h : s.size ≤ k) : bat P s k = false := by rw [bat, rest_ge h]; rfl
theorem bat_in {P : UInt8 → Bool} {s : ByteArray} {k : Nat} (h : bat P s k = true) : k < s.size := by
  by_cases hk : k < s.size
  · exact hk
  · rw [bat_ge (by omega)] at h
    cases h
theorem run_bat {P : UInt8 → Bool} {s : ByteArray} {k : Nat} (h : bat P s k = true) : L.run P (rest s k) = L.run P (rest s (k + 1)) + 1 := by
  have hk := bat_in h
  rw [bat_lt hk] at h
  rw [rest_lt hk, L.run_cons_pos _ h]
theorem run_nat {P : UInt8 → Bool} {s : ByteArray} {k : Nat} (h : bat P s k = false) : L.run P (rest s k) = 0 := by
  by_cases hk : k < s.size
  · rw [bat_lt hk] at h
    rw [rest_lt hk, L.run_cons_neg _ h]
  · rw [rest_ge (by omega), L.run_nil]
theorem run_in (P : UInt8 → Bool) (s : ByteArray) (k : Nat) (h : k ≤ s.size) : k + L.run P (rest s k) ≤ s.size := by
  have := L.run_le P (rest s k)
  rw [rest_len] at this
  omega
def Enters (F : Nat) : Prop := ∀ args w, (callFunc F args).run Tryd.prog w = .ok (.enter F args) w
theorem enters_of {F : Nat} {fn : Func} {c : Code} (hf : Tryd.prog.funcs[F]? = some fn) (hn : (fn.name == "runtime.NumGoroutine") = false) (hb : fn.body = some c) : Enters F := fun args w => by
  have h1 : fn.name ≠ "runtime.NumGoroutine" := by simpa using hn
  simp [callFunc, hf, h1, hb]
/-- A place on the way to the end of a run. -/
def PastR (s : ByteArray) (P : UInt8 → Bool) (T : Nat) (t : Value) : Prop := ∃ m : Nat, t = .int .i64 m ∧ m ≤ s.size ∧ m + L.run P (rest s m) = T
/-! ### fronts of texts -/
theorem prefix_ext {s p : ByteArray} (h : p.size ≤ s.size) : ((s.extract 0 p.size).toList == p.toList) = (by' p).isPrefixOf (by' s) := by
  rw [toList_by, toList_by, by_ext, Bool.eq_iff_iff, beq_iff_eq, List.isPrefixOf_iff_prefix, List.drop_zero, Nat.sub_zero, ← by_len p]
  constructor
  · intro e
    rw [← e]
    exact List.take_prefix _ _
  · intro e
    exact (List.prefix_iff_eq_take.1 e).symm
theorem prefix_no {s p : ByteArray} (h : ¬ p.size ≤ s.size) : (by' p).isPrefixOf (by' s) = false := by
  cases e : (by' p).isPrefixOf (by' s)
  · rfl
  · have := (List.isPrefixOf_iff_prefix.1 e).length_le
    rw [by_len, by_len] at this
    omega
set_option maxHeartbeats 400000 in
theorem slprefix_any (s p : ByteArray) (w : World) (hs : s.size ≤ maxLen) (hp : p.size ≤ maxLen) :
    Calls Tryd.prog 121 #[.string s, .string p] w fun e w' => e = .returned (.bool ((by' p).isPrefixOf (by' s))) ∧ w = w' := by
  unfold maxLen at hs hp
  by_cases h : p.size ≤ s.size
  · have HP := Lib.hid (prefix_ext h)
    have h0 : decide (p.size ≤ s.size) = true := by simpa using h
    go_enter Tryd.func121, Tryd.ntmps121
    go_wp2_with fail
    go_ret
    exact ⟨ret_bool HP.out, rfl⟩
  · have HP := Lib.hid (prefix_no h)
    have h0 : decide (p.size ≤ s.size) = false := by simpa using h
    go_enter Tryd.func121, Tryd.ntmps121
    go_wp2_with fail
    go_ret
    exact ⟨ret_bool HP.out.symm, rfl⟩
set_option maxHeartbeats 400000 in
theorem prefix_any (s p : ByteArray) (w : World) (hs : s.size ≤ maxLen) (hp : p.size ≤ maxLen) :
    Calls Tryd.prog 112 #[.string s, .string p] w fun e w' => e = .returned (.bool ((by' p).isPrefixOf (by' s))) ∧ w = w' := by
  go_enter Tryd.func112, Tryd.ntmps112
  go_wp2_with fail
  with_reducible refine (slprefix_any s p _ hs hp).mono ?_
  rintro e w' ⟨rfl, rfl⟩
  go_wp2_with fail
  go_ret
  exact ⟨rfl, rfl⟩
end Go.Proofs.YtchokfgffnomoaaDoor.Lx
/-
  What next, pastSign, extent and worth of package lex tell, as contracts.
-/
namespace Go.Proofs.YtchokfgffnomoaaDoor.Lx
open Go.RowKit
set_option maxRecDepth 100000
set_option linter.unusedVariables false
set_option linter.unusedSimpArgs false
/-! ### what stands between tokens -/
theorem lex_blanks : ∀ (l : List UInt8) (pos : Nat), L.lexL pos l = L.lexL (pos + L.run L.blankB l) (l.drop (L.run L.blankB l))
  | [], pos => by rw [L.run_nil]; rfl
  | b :: l, pos => by
    cases hb : L.blankB b
    · rw [L.run_cons_neg _ hb]
      rfl
    · rw [L.run_cons_pos _ hb, L.lex_skip (k := 0) (L.nx_blank hb)]
      show L.lexL (pos + 1) l = _
      rw [lex_blanks l (pos + 1), show pos + 1 + L.run L.blankB l = pos + (L.run L.blankB l + 1) by omega, List.drop_succ_cons]
theorem lex_line (l : List UInt8) (pos : Nat) (h : [47, 47].isPrefixOf l = true) : L.lexL pos l = L.lexL (pos + L.run L.not10 l) (l.drop (L.run L.not10 l)) := by
  obtain ⟨r, rfl⟩ := List.isPrefixOf_iff_prefix.1 h
  have e : L.run L.not10 (47 :: 47 :: r) = L.run L.not10 r + 1 + 1 := by
    rw [L.run_cons_pos _ (by decide), L.run_cons_pos _ (by decide)]
  show L.lexL pos (47 :: 47 :: r) = L.lexL (pos + L.run L.not10 (47 :: 47 :: r)) ((47 :: 47 :: r).drop (L.run L.not10 (47 :: 47 :: r)))
  rw [e]
  exact L.lex_skip (L.nx_remark)
theorem line_pos (l : List UInt8) (h : [47, 47].isPrefixOf l = true) : 0 < L.run L.not10 l := by
  obtain ⟨r, rfl⟩ := List.isPrefixOf_iff_prefix.1 h
  show 0 < L.run L.not10 (47 :: 47 :: r)
  rw [L.run_cons_pos _ (by decide)]
  omega
/-- Neither a blank nor a remark stands at the front. -/
def Front (l : List UInt8) : Prop := l.head?.any L.blankB = false ∧ [47, 47].isPrefixOf l = false
theorem run_no_blank (l : List UInt8) : (l.drop (L.run L.blankB l)).head?.any L.blankB = false := by
  cases h : (l.drop (L.run L.blankB l)).head? with
  | none => rfl
  | some b =>
    rw [List.head?_drop] at h
    exact L.run_end l b h
/-- Where the next token begins. -/
def NextTo (s : ByteArray) (k : Nat) (w : World) (e : Ending) (w' : World) : Prop :=
  ∃ m : Nat, e = .returned (.int .i64 m) ∧ k ≤ m ∧ m ≤ s.size ∧ L.lexL k (rest s k) = L.lexL m (rest s m) ∧ Front (rest s m) ∧ w = w'
/-- A place on the way there. -/
def NextR (s : ByteArray) (k : Nat) (t : Value) : Prop :=
  ∃ m : Nat, t = .int .i64 m ∧ k ≤ m ∧ m ≤ s.size ∧ L.lexL k (rest s k) = L.lexL m (rest s m) ∧ (rest s m).head?.any L.blankB = false
theorem next_first (s : ByteArray) (k : Nat) (h : k ≤ s.size) : NextR s k (.int .i64 ((k + L.run L.blankB (rest s k) : Nat) : Int)) := by
  refine ⟨_, rfl, by omega, run_in _ _ _ h, ?_, ?_⟩
  · rw [← rest_drop]
    exact lex_blanks _ _
  · rw [← rest_drop]
    exact run_no_blank _
theorem next_more {s : ByteArray} {k m : Nat} (hkm : k ≤ m) (hm : m ≤ s.size) (he : L.lexL k (rest s k) = L.lexL m (rest s m)) (hp : [47, 47].isPrefixOf (rest s m) = true) :
    NextR s k (.int .i64 ((m + L.run L.not10 (rest s m) + L.run L.blankB (rest s (m + L.run L.not10 (rest s m))) : Nat) : Int)) := by
  have h1 := run_in L.not10 s m hm
  obtain ⟨j, hj, h2, h3, h4, h5⟩ := next_first s (m + L.run L.not10 (rest s m)) h1
  refine ⟨j, hj, by omega, h3, ?_, h5⟩
  rw [he, ← h4, ← rest_drop]
  exact lex_line _ _ hp
/-! ### where a token ends -/
/-- The kind and the length of what stands at the front; 0, 0: no token. -/
def ext : List UInt8 → Nat × Nat
  | [] => (0, 0)
  | b :: r => if L.letB b then (1, L.run L.alnB (b :: r)) else if L.digB b then (2, L.run L.digB (b :: r)) else if L.signB b then (3, if [61, 61].isPrefixOf (b :: r) then 2 else 1) else (0, 0)
/-- The place behind it. -/
def extEnd (k : Nat) (x : Nat × Nat) : Nat := if x.1 = 0 then 0 else k + x.2
theorem two_in {s : ByteArray} {k : Nat} (h : [61, 61].isPrefixOf (rest s k) = true) : k + 2 ≤ s.size := by
  have := (List.isPrefixOf_iff_prefix.1 h).length_le
  rw [rest_len] at this
  simp at this
  omega
theorem ext_word {s : ByteArray} {k : Nat} (h : bat L.letB s k = true) : ext (rest s k) = (1, L.run L.alnB (rest s k)) := by
  have hk := bat_in h
  rw [bat_lt hk] at h
  rw [rest_lt hk, ext, if_pos h]
theorem ext_num {s : ByteArray} {k : Nat} (h0 : bat L.letB s k = false) (h : bat L.digB s k = true) : ext (rest s k) = (2, L.run L.digB (rest s k)) := by
  have hk := bat_in h
  rw [bat_lt hk] at h h0
  rw [rest_lt hk, ext, if_neg (by rw [h0]; decide), if_pos h]
theorem ext_sign {s : ByteArray} {k : Nat} (h0 : bat L.letB s k = false) (h1 : bat L.digB s k = false) (h : bat L.signB s k = true) : ext (rest s k) = (3, if [61, 61].isPrefixOf (rest s k) then 2 else 1) := by
  have hk := bat_in h
  rw [bat_lt hk] at h h0 h1
  rw [rest_lt hk, ext, if_neg (by rw [h0]; decide), if_neg (by rw [h1]; decide), if_pos h]
theorem ext_none {s : ByteArray} {k : Nat} (h0 : bat L.letB s k = false) (h1 : bat L.digB s k = false) (h : bat L.signB s k = false) : ext (rest s k) = (0, 0) := by
  by_cases hk : k < s.size
  · rw [bat_lt hk] at h h0 h1
    rw [rest_lt hk, ext, if_neg (by rw [h0]; decide), if_neg (by rw [h1]; decide), if_neg (by rw [h]; decide)]
  · rw [rest_ge (by omega)]
    rfl
theorem ret_two {a b c d : Int} (h : a = c) (h' : b = d) : Ending.returned (.tuple #[.int .i64 a, .int .i64 b]) = .returned (.tuple #[.int .i64 c, .int .i64 d]) := by rw [h, h']
end Go.Proofs.YtchokfgffnomoaaDoor.Lx
/-
  What worth of package lex, and number of the document's answer, tell of digits, as contracts.
-/
namespace Go.Proofs.YtchokfgffnomoaaDoor.Lx
open Go.RowKit
set_option maxRecDepth 100000
set_option linter.unusedVariables false
set_option linter.unusedSimpArgs false
theorem dig_bd {t : ByteArray} (h : ∀ c ∈ by' t, L.digB c = true) (i : Nat) (hi : i < t.size) : 48 ≤ t[i].toNat ∧ t[i].toNat ≤ 57 := by
  have h1 : i < (by' t).length := by rw [by_len]; exact hi
  have h2 : L.digB t[i] = true := h _ (List.getElem_mem h1)
  simp only [L.digB, Bool.and_eq_true, decide_eq_true_eq] at h2
  exact h2
theorem val_step (t : ByteArray) (i : Nat) (hi : i < t.size) : L.val ((by' t).take (i + 1)) = 10 * L.val ((by' t).take i) + (t[i].toNat - 48) := by
  have h1 : i < (by' t).length := by rw [by_len]; exact hi
  rw [List.take_succ_eq_append_getElem h1, L.val_snoc]
  rfl
theorem val_take_le (l : List UInt8) (i : Nat) : L.val (l.take i) ≤ L.val l := by
  conv => rhs; rw [← List.take_append_drop i l]
  exact L.val_le_append _ _
/-- What digits come to, or that it is too much. -/
def WorthTo (t : ByteArray) (w : World) (e : Ending) (w' : World) : Prop :=
  ((L.val (by' t) ≤ L.top ∧ e = .returned (.tuple #[.int .i64 (L.val (by' t) : Nat), .bool true])) ∨ (¬ L.val (by' t) ≤ L.top ∧ e = .returned (.tuple #[.int .i64 0, .bool false]))) ∧ w = w'
/-- So many digits are summed. -/
def WorthR (t : ByteArray) (nv iv : Value) : Prop := ∃ i v : Nat, nv = .int .i64 v ∧ iv = .int .i64 i ∧ i ≤ t.size ∧ v = L.val ((by' t).take i) ∧ (v : Int) ≤ 4611686018427387904
theorem worth_end {t : ByteArray} {i v : Nat} {w : World} (hi : ¬ i < t.size) (hv : v = L.val ((by' t).take i)) (ht : (v : Int) ≤ 4611686018427387904) : WorthTo t w (.returned (.tuple #[.int .i64 v, .bool true])) w := by
  rw [List.take_of_length_le (by rw [by_len]; omega)] at hv
  subst hv
  exact ⟨.inl ⟨by unfold L.top; omega, rfl⟩, rfl⟩
theorem worth_long {t : ByteArray} {i v : Nat} {w : World} (hi : i < t.size) (hv : v = L.val ((by' t).take i)) (hd : 48 ≤ t[i].toNat ∧ t[i].toNat ≤ 57) (h : (4611686018427387904 - ((t[i].toNat : Int) - 48)) / 10 < (v : Int)) : WorthTo t w (.returned (.tuple #[.int .i64 0, .bool false])) w := by
  refine ⟨.inr ⟨?_, rfl⟩, rfl⟩
  have h1 := val_step t i hi
  have h2 := val_take_le (by' t) (i + 1)
  rw [← hv] at h1
  unfold L.top
  omega
theorem worth_step {t : ByteArray} {i v : Nat} (hi : i < t.size) (hv : v = L.val ((by' t).take i)) (hd : 48 ≤ t[i].toNat ∧ t[i].toNat ≤ 57) (h : ¬ (4611686018427387904 - ((t[i].toNat : Int) - 48)) / 10 < (v : Int)) : WorthR t (.int .i64 (10 * (v : Int) + ((t[i].toNat : Int) - 48))) (.int .i64 ((i : Int) + 1)) := by
  have h1 := val_step t i hi
  rw [← hv] at h1
  refine ⟨i + 1, L.val ((by' t).take (i + 1)), ?_, by go_num, by omega, rfl, by omega⟩
  rw [h1]
  congr 1
  omega
end Go.Proofs.YtchokfgffnomoaaDoor.Lx
/-
  What token of package lex tells, as contracts.
-/
namespace Go.Proofs.YtchokfgffnomoaaDoor.Lx
open Go.RowKit
set_option maxRecDepth 100000
set_option linter.unusedVariables false
set_option linter.unusedSimpArgs false
theorem ret_two' {a b c d : Int} (h : a = c) (h' : b = d) : Ending.returned (.tuple #[.int .i64 a, .int .i64 b]) = .returned (.tuple #[.int .i64 c, .int .i64 d]) := by rw [h, h']
/-- A token and an error. -/
def TokTo (kind : Int) (t : ByteArray) (n at' err : Int) (w : World) (e : Ending) (w' : World) : Prop :=
  e = .returned (.tuple #[.agg #[.int .i64 kind, .string t, .int .i64 n, .int .i64 at'], .int .i64 err]) ∧ Below w.heap.size w w'
theorem dig_take (l : List UInt8) : ∀ c ∈ l.take (L.run L.digB l), L.digB c = true := by
  intro c hc
  obtain ⟨i, hi, rfl⟩ := List.getElem_of_mem hc
  have hi2 : i < L.run L.digB l := by
    have := hi
    rw [List.length_take] at this
    omega
  obtain ⟨b, hb, hp⟩ := L.run_lt l i hi2
  rw [List.getElem_take]
  rw [List.getElem?_eq_getElem (by have := L.run_le L.digB l; omega)] at hb
  injection hb with hb
  rw [hb]
  exact hp
theorem ext_take (s : ByteArray) (k n : Nat) : by' (s.extract k (k + n)) = (rest s k).take n := by
  rw [by_ext, rest, show k + n - k = n by omega]
theorem ext_size (s : ByteArray) (k n : Nat) (h : k + n ≤ s.size) : (s.extract k (k + n)).size = n := by
  rw [← by_len, ext_take, List.length_take, rest_len]
  omega
/-! ### what stands at the front, by both -/
theorem pre2 (x b : UInt8) (r : List UInt8) : [x, x].isPrefixOf (b :: r) = (b == x && r.head? == some x) := by
  rw [Bool.eq_iff_iff]
  cases r with
  | nil => simp [List.isPrefixOf]
  | cons c r =>
    simp [List.isPrefixOf]
    constructor
    · rintro ⟨rfl, rfl⟩
      exact ⟨rfl, rfl⟩
    · rintro ⟨rfl, rfl⟩
      exact ⟨rfl, rfl⟩
def eno : L.Bad → Nat
  | .form => 2
  | .long => 3
theorem eno_ne (e : L.Bad) : ((eno e : Nat) : Int) ≠ 0 := by cases e <;> decide
/-- What token tells, told by what stands at the front. -/
def TokOr (s : ByteArray) (k : Nat) : L.Nx → World → Ending → World → Prop
  | .tok kind n v, w, e, w' => TokTo kind (s.extract k (k + n)) v k 0 w e w'
  | .bad x, w, e, w' => TokTo 0 ⟨#[]⟩ 0 0 (eno x) w e w'
  | .skip _, _, _, _ => False
/-- A token has a length, and lies within. -/
theorem nx_in {s : ByteArray} {k kind n v : Nat} (hk : k < s.size) (h : L.nx s[k] (rest s (k + 1)) = .tok kind n v) : 0 < n ∧ k + n ≤ s.size := by
  have hr := rest_lt hk
  have e1 := run_in L.alnB s k (by omega)
  have e2 := run_in L.digB s k (by omega)
  rw [hr] at e1 e2
  unfold L.nx at h
  split at h
  · cases h
  split at h
  · cases h
  split at h
  · rename_i hl
    injection h with _ h _
    subst h
    have hal : L.alnB s[k] = true := by simp [L.alnB, hl]
    rw [L.run_cons_pos _ hal] at *
    omega
  split at h
  · rename_i hl
    split at h
    · injection h with _ h _
      subst h
      rw [L.run_cons_pos _ hl] at *
      omega
    · cases h
  split at h
  · split at h
    · rename_i hn
      injection h with _ h _
      subst h
      have : k + 1 < s.size := by
        by_cases hlt : k + 1 < s.size
        · exact hlt
        · rw [rest_ge (by omega)] at hn
          simp at hn
      omega
    · injection h with _ h _
      subst h
      omega
  split at h
  · injection h with _ h _
    subst h
    omega
  · cases h
end Go.Proofs.YtchokfgffnomoaaDoor.Lx
