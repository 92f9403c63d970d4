/-
  Plain parts of LexTight: signs side by side, digits and letters side by side.
-/
import Derived.Test.YtlnhhfmgciaaeaaLPartsWalk
namespace Go.Proofs.Ytlnhhfmgciaaeaa.Lx
open Go.RowKit
set_option linter.unusedVariables false
set_option linter.unusedSimpArgs false
/-- A sign by a number, with == for =. -/
def sgT (y : Nat) : List UInt8 := if signs12.getD (y % 12) [] = [61] ∨ signs12.getD (y % 12) [] = [61, 61] then [61, 61] else signs12.getD (y % 12) []
theorem sg_eats_at (j : Nat) (hj : j < 12) (pos : Nat) (r : List UInt8) : L.lexL pos ((if signs12.getD j [] = [61] ∨ signs12.getD j [] = [61, 61] then [61, 61] else signs12.getD j []) ++ r) = L.pre [⟨3, if signs12.getD j [] = [61] ∨ signs12.getD j [] = [61, 61] then [61, 61] else signs12.getD j [], 0, pos⟩] (L.lexL (pos + (if signs12.getD j [] = [61] ∨ signs12.getD j [] = [61, 61] then [61, 61] else signs12.getD j []).length) r) := by
  match j, hj with
  | 0, _ => exact L.lex_sign (b := 123) (by decide) (fun e => absurd e (by decide)) pos
  | 1, _ => exact L.lex_sign (b := 125) (by decide) (fun e => absurd e (by decide)) pos
  | 2, _ => exact L.lex_sign (b := 40) (by decide) (fun e => absurd e (by decide)) pos
  | 3, _ => exact L.lex_sign (b := 41) (by decide) (fun e => absurd e (by decide)) pos
  | 4, _ => exact L.lex_sign (b := 59) (by decide) (fun e => absurd e (by decide)) pos
  | 5, _ => exact L.lex_sign (b := 44) (by decide) (fun e => absurd e (by decide)) pos
  | 6, _ => exact L.lex_sign (b := 58) (by decide) (fun e => absurd e (by decide)) pos
  | 7, _ => exact L.lex_two pos
  | 8, _ => exact L.lex_two pos
  | 9, _ => exact L.lex_sign (b := 60) (by decide) (fun e => absurd e (by decide)) pos
  | 10, _ => exact L.lex_sign (b := 43) (by decide) (fun e => absurd e (by decide)) pos
  | 11, _ => exact L.lex_sign (b := 45) (by decide) (fun e => absurd e (by decide)) pos
  | n + 12, h => exact absurd h (by omega)
theorem sg_eats (y : Nat) (pos : Nat) (r : List UInt8) : L.lexL pos (sgT y ++ r) = L.pre [⟨3, sgT y, 0, pos⟩] (L.lexL (pos + (sgT y).length) r) := sg_eats_at (y % 12) (by omega) pos r
theorem sg_len (y : Nat) : (sgT y).length ≤ 2 := by
  have : ∀ j, j < 12 → (if signs12.getD j [] = [61] ∨ signs12.getD j [] = [61, 61] then [61, 61] else signs12.getD j []).length ≤ 2 := by decide
  exact this (y % 12) (by omega)
theorem Brings.sign {T P : ByteArray} {ts : List L.Tok} {y : Nat} (h : Brings T ts) (hP : bs (sgT y) = P) : Brings (T ++ P) (ts ++ [⟨3, sgT y, 0, T.size⟩]) := fun r => by
  subst hP
  rw [by_app, by_bs, List.append_assoc, h, sg_eats, L.pre_pre, ByteArray.size_append', bs_size]
/-- What the tests tell of the sign that piece tells. -/
theorem sg_test (y : Nat) : ((bs (signs12.getD (y % 12) [])).toList == [61]) = true ∧ sgT y = [61, 61] ∨ ((bs (signs12.getD (y % 12) [])).toList == [61]) = false ∧ ((bs (signs12.getD (y % 12) [])).toList == [61, 61]) = true ∧ sgT y = [61, 61] ∨ ((bs (signs12.getD (y % 12) [])).toList == [61]) = false ∧ ((bs (signs12.getD (y % 12) [])).toList == [61, 61]) = false ∧ sgT y = signs12.getD (y % 12) [] := by
  rw [toList_by, by_bs, sgT]
  generalize signs12.getD (y % 12) [] = t
  by_cases h1 : t = [61]
  · exact .inl ⟨by simp [h1], by simp [h1]⟩
  · by_cases h2 : t = [61, 61]
    · exact .inr (.inl ⟨by simp [h2], by simp [h2], by simp [h2]⟩)
    · exact .inr (.inr ⟨by simpa using h1, by simpa using h2, by simp [h1, h2]⟩)
/-- What a round leaves. -/
def TightR (len : Nat) (w0 : World) (tv vv iv : Value) (wr : World) : Prop :=
  ∃ (i : Nat) (T : ByteArray) (ts : List L.Tok), tv = .string T ∧ iv = .int .i64 i ∧ i ≤ len ∧ T.size ≤ 2 * i ∧ ts.length ≤ i ∧ Brings T ts ∧ Own wr w0.heap.size vv ts ∧ Below w0.heap.size w0 wr
theorem tight_step {len i y : Nat} {T P : ByteArray} {ts : List L.Tok} {w0 wr w7 w2 : World} {vv vv' : Value} (hlt : i < len) (hT : T.size ≤ 2 * i) (hts : ts.length ≤ i) (hBr : Brings T ts) (hP : bs (sgT y) = P)
    (hown : Own wr w0.heap.size vv ts) (hbel : Below w0.heap.size w0 wr) (hb7 : Below wr.heap.size wr w7) (o : Obj)
    (hown2 : w2.ownsRow w0.heap.size 37 4 vv' (ts.length + 1) (flat ts ++ [.int .i64 3, .string P, .int .i64 0, .int .i64 (T.size : Nat)])) (hg : (w7.alloc o).grownBy w2 vv.ownBlock) : TightR len w0 (.string (T ++ P)) vv' (.int .i64 ((i : Int) + 1)) w2 := by
  have hsz := hbel.size
  have hsz7 := hb7.size
  have hPz : P.size ≤ 2 := by rw [← hP, bs_size]; exact sg_len y
  refine ⟨i + 1, T ++ P, ts ++ [⟨3, sgT y, 0, T.size⟩], rfl, by go_num, by omega, ?_, ?_, hBr.sign hP, own_snoc hown2 rfl hP rfl rfl, ?_⟩
  · rw [ByteArray.size_append']
    omega
  · rw [List.length_append]
    show ts.length + 1 ≤ i + 1
    omega
  · exact ((hbel.trans (hb7.mono hsz)).alloc (by omega) _).grown hg (by simp; omega) (fun k hk => (hown.lt k hk).1)
/-! ### digits and letters side by side -/
theorem aln_dec (n : Nat) : ∀ c ∈ L.decL n, L.alnB c = true := fun c hc => by simp [L.alnB, L.dec_digits n c hc]
theorem x_is : (⟨#[120]⟩ : ByteArray) = bs [120] := rfl
theorem lexA_of {s : ByteArray} {o : L.Out} (hl : s.size ≤ 4096) (h : L.lexL 0 (by' s) = o) : lexA s = o := by rw [lexA, if_pos hl, h]
theorem word_toks (a b : Nat) (X Y : ByteArray) (hX : X = bs (L.decL a)) (hY : Y = bs (L.decL b)) (hz : X.size + Y.size ≤ 100) : lexA (⟨#[120]⟩ ++ X ++ Y) = .ok [⟨1, by' (⟨#[120]⟩ ++ X ++ Y), 0, 0⟩, ⟨4, [], 0, 0 + (⟨#[120]⟩ ++ X ++ Y : ByteArray).size⟩] := by
  have e : by' (⟨#[120]⟩ ++ X ++ Y) = 120 :: (L.decL a ++ L.decL b) := by
    rw [hX, hY, x_is, bs_app, bs_app, by_bs]
    rfl
  have hz1 : (⟨#[120]⟩ ++ X ++ Y : ByteArray).size = 1 + X.size + Y.size := by
    rw [ByteArray.size_append', ByteArray.size_append']
    rfl
  refine lexA_of (by omega) ?_
  have := L.lex_word (b := 120) (t := L.decL a ++ L.decL b) (r := []) (by decide) (fun c hc => (List.mem_append.1 hc).elim (aln_dec a c) (aln_dec b c)) rfl 0
  rw [List.append_nil, L.lex_nil, ← e, by_len] at this
  exact this
theorem num_toks (a b : Nat) (ha : a < 256) (hb : b < 256) (X Y : ByteArray) (hX : X = bs (L.decL a)) (hY : Y = bs (L.decL b)) (hz : X.size + Y.size ≤ 100) : ∃ v, lexA (X ++ Y) = .ok [⟨2, by' (X ++ Y), v, 0⟩, ⟨4, [], 0, 0 + (X ++ Y).size⟩] := by
  have e : by' (X ++ Y) = L.decL a ++ L.decL b := by
    rw [hX, hY, bs_app, by_bs]
  have hv : L.val (L.decL a ++ L.decL b) ≤ L.top := by
    have h3 : (L.decL b).length ≤ 3 := L.dec_len b 2 (by omega)
    have key : ∀ (l : List UInt8) (n : Nat), (∀ c ∈ l, L.digB c = true) → l.foldl L.dig n ≤ (n + 1) * 10 ^ l.length := by
      intro l
      induction l with
      | nil => intro n _; simp
      | cons c l ih =>
        intro n hc
        have h1 := ih (L.dig n c) (fun d hd => hc d (List.mem_cons_of_mem _ hd))
        have h2 := hc c (List.mem_cons_self ..)
        simp only [L.digB, Bool.and_eq_true, decide_eq_true_eq] at h2
        have h4 : L.dig n c + 1 ≤ (n + 1) * 10 := by unfold L.dig; omega
        rw [List.foldl_cons, List.length_cons, Nat.pow_succ]
        have h5 := Nat.mul_le_mul_right (10 ^ l.length) h4
        have h6 : (n + 1) * 10 * 10 ^ l.length = (n + 1) * (10 ^ l.length * 10) := by rw [Nat.mul_assoc, Nat.mul_comm 10]
        omega
    have h7 := key (L.decL b) (L.val (L.decL a)) (L.dec_digits b)
    have h8 : (10 : Nat) ^ (L.decL b).length ≤ 10 ^ 3 := Nat.pow_le_pow_right (by decide) h3
    have h9 : L.val (L.decL a ++ L.decL b) = (L.decL b).foldl L.dig (L.val (L.decL a)) := by
      unfold L.val
      rw [List.foldl_append]
    rw [h9]
    rw [L.dec_val] at h7 ⊢
    have h10 : (a + 1) * 10 ^ (L.decL b).length ≤ 256 * 10 ^ 3 := Nat.mul_le_mul (by omega) h8
    unfold L.top
    have h11 : (256 : Nat) * 10 ^ 3 = 256000 := by decide
    omega
  refine ⟨L.val (L.decL a ++ L.decL b), lexA_of (by rw [ByteArray.size_append']; omega) ?_⟩
  have := L.lex_num (a := L.decL a ++ L.decL b) (r := []) (by simp [L.dec_ne a]) (fun c hc => (List.mem_append.1 hc).elim (L.dec_digits a c) (L.dec_digits b c)) rfl hv 0
  rw [List.append_nil, L.lex_nil] at this
  rw [e, this, ← by_len, e]
  rfl
theorem pair_toks (a b : Nat) (ha : a < 256) (X Y : ByteArray) (hX : X = bs (L.decL a)) (hY : Y = bs (L.decL b)) (hz : X.size + Y.size ≤ 100) : lexA (X ++ ⟨#[120]⟩ ++ Y) = .ok [⟨2, by' X, a, 0⟩, ⟨1, by' (⟨#[120]⟩ ++ Y), 0, X.size⟩, ⟨4, [], 0, X.size + (⟨#[120]⟩ ++ Y : ByteArray).size⟩] := by
  have e : by' (X ++ ⟨#[120]⟩ ++ Y) = L.decL a ++ (120 :: L.decL b) := by
    rw [hX, hY, x_is, bs_app, bs_app, by_bs, List.append_assoc]
    rfl
  have e2 : by' (⟨#[120]⟩ ++ Y) = 120 :: L.decL b := by
    rw [hY, x_is, bs_app, by_bs]
    rfl
  have e3 : by' X = L.decL a := by rw [hX, by_bs]
  have hz1 : (X ++ ⟨#[120]⟩ ++ Y : ByteArray).size = X.size + 1 + Y.size := by
    rw [ByteArray.size_append', ByteArray.size_append']
    rfl
  refine lexA_of (by omega) ?_
  have h1 := L.lex_num (a := L.decL a) (r := 120 :: L.decL b) (L.dec_ne a) (L.dec_digits a) (by rfl) (by rw [L.dec_val]; unfold L.top; omega) 0
  have h2 := L.lex_word (b := 120) (t := L.decL b) (r := []) (by decide) (aln_dec b) rfl (0 + (L.decL a).length)
  rw [List.append_nil, L.lex_nil] at h2
  rw [e, h1, h2, L.dec_val, ← e2, ← e3, by_len, by_len, Nat.zero_add]
  rfl
/-- A token in memory that stays. -/
def Fr (w : World) (g o : Nat) (t : L.Tok) : Prop := Four w g o t ∧ g < w.heap.size
theorem Fr.below {w w' : World} {g o : Nat} {t : L.Tok} (h : Fr w g o t) (hb : Below w.heap.size w w') : Fr w' g o t := ⟨h.1.below hb h.2, by have := hb.size; have := h.2; omega⟩
theorem Blk.live {w w' : World} {g : Nat} {t : TypeId} {cs : Array Value} (h : Blk w g t cs) (hb : Below w.heap.size w w') : Blk w' g t cs := h.below hb h.lt
theorem piece_two (y : Nat) (w : World) (hy : y < 256) : Calls Try.prog 16 #[.int .u8 2, .int .u8 (y : Nat)] w (PieceTo (bs (signs12.getD (y % 12) [])) 3 w) := piece_sign 2 y w (by decide) hy rfl
end Go.Proofs.Ytlnhhfmgciaaeaa.Lx
