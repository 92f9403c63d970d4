/-
  What next, pastSign, extent and worth of package lex tell, as contracts.
-/
import Derived.Test.YtlnhhfmgciaaeaaLText
namespace Go.Proofs.Ytlnhhfmgciaaeaa.Lx
open Go.RowKit
set_option linter.unusedVariables false
set_option linter.unusedSimpArgs false
/-! ### what stands between tokens -/
theorem lex_blanks : ∀ (l : List UInt8) (pos : Nat), L.lexL pos l = L.lexL (pos + L.run L.blankB l) (l.drop (L.run L.blankB l))
  | [], pos => by rw [L.run_nil]; rfl
  | b :: l, pos => by
    cases hb : L.blankB b
    · rw [L.run_cons_neg _ hb]
      rfl
    · rw [L.run_cons_pos _ hb, L.lex_skip (k := 0) (L.nx_blank hb)]
      show L.lexL (pos + 1) l = _
      rw [lex_blanks l (pos + 1), show pos + 1 + L.run L.blankB l = pos + (L.run L.blankB l + 1) by omega, List.drop_succ_cons]
theorem lex_line (l : List UInt8) (pos : Nat) (h : [47, 47].isPrefixOf l = true) : L.lexL pos l = L.lexL (pos + L.run L.not10 l) (l.drop (L.run L.not10 l)) := by
  obtain ⟨r, rfl⟩ := List.isPrefixOf_iff_prefix.1 h
  have e : L.run L.not10 (47 :: 47 :: r) = L.run L.not10 r + 1 + 1 := by
    rw [L.run_cons_pos _ (by decide), L.run_cons_pos _ (by decide)]
  show L.lexL pos (47 :: 47 :: r) = L.lexL (pos + L.run L.not10 (47 :: 47 :: r)) ((47 :: 47 :: r).drop (L.run L.not10 (47 :: 47 :: r)))
  rw [e]
  exact L.lex_skip (L.nx_remark)
theorem line_pos (l : List UInt8) (h : [47, 47].isPrefixOf l = true) : 0 < L.run L.not10 l := by
  obtain ⟨r, rfl⟩ := List.isPrefixOf_iff_prefix.1 h
  show 0 < L.run L.not10 (47 :: 47 :: r)
  rw [L.run_cons_pos _ (by decide)]
  omega
/-- Neither a blank nor a remark stands at the front. -/
def Front (l : List UInt8) : Prop := l.head?.any L.blankB = false ∧ [47, 47].isPrefixOf l = false
theorem run_no_blank (l : List UInt8) : (l.drop (L.run L.blankB l)).head?.any L.blankB = false := by
  cases h : (l.drop (L.run L.blankB l)).head? with
  | none => rfl
  | some b =>
    rw [List.head?_drop] at h
    exact L.run_end l b h
/-- Where the next token begins. -/
def NextTo (s : ByteArray) (k : Nat) (w : World) (e : Ending) (w' : World) : Prop :=
  ∃ m : Nat, e = .returned (.int .i64 m) ∧ k ≤ m ∧ m ≤ s.size ∧ L.lexL k (rest s k) = L.lexL m (rest s m) ∧ Front (rest s m) ∧ w = w'
/-- A place on the way there. -/
def NextR (s : ByteArray) (k : Nat) (t : Value) : Prop :=
  ∃ m : Nat, t = .int .i64 m ∧ k ≤ m ∧ m ≤ s.size ∧ L.lexL k (rest s k) = L.lexL m (rest s m) ∧ (rest s m).head?.any L.blankB = false
theorem next_first (s : ByteArray) (k : Nat) (h : k ≤ s.size) : NextR s k (.int .i64 ((k + L.run L.blankB (rest s k) : Nat) : Int)) := by
  refine ⟨_, rfl, by omega, run_in _ _ _ h, ?_, ?_⟩
  · rw [← rest_drop]
    exact lex_blanks _ _
  · rw [← rest_drop]
    exact run_no_blank _
theorem next_more {s : ByteArray} {k m : Nat} (hkm : k ≤ m) (hm : m ≤ s.size) (he : L.lexL k (rest s k) = L.lexL m (rest s m)) (hp : [47, 47].isPrefixOf (rest s m) = true) :
    NextR s k (.int .i64 ((m + L.run L.not10 (rest s m) + L.run L.blankB (rest s (m + L.run L.not10 (rest s m))) : Nat) : Int)) := by
  have h1 := run_in L.not10 s m hm
  obtain ⟨j, hj, h2, h3, h4, h5⟩ := next_first s (m + L.run L.not10 (rest s m)) h1
  refine ⟨j, hj, by omega, h3, ?_, h5⟩
  rw [he, ← h4, ← rest_drop]
  exact lex_line _ _ hp
set_option maxHeartbeats 400000 in
theorem next_any (s : ByteArray) (k : Nat) (w : World) (hs : s.size ≤ maxLen) (hk : k ≤ s.size) :
    Calls Try.prog 18 #[.string s, .int .i64 (k : Nat)] w (NextTo s k w) := by
  have HS := Lib.hid hs
  unfold maxLen at hs
  have H0 := Lib.hid (next_first s k hk)
  have hr0 := run_in L.blankB s k hk
  have hz : (⟨#[47, 47]⟩ : ByteArray).size ≤ maxLen := by decide
  have HZ := Lib.hid hz
  clear hz
  go_enter Try.func18, Try.ntmps18
  go_wp2_with fail
  with_reducible refine (past_any _ _ enters_blank blank_any s k _ HS.out hk).mono ?_
  rintro e w' ⟨rfl, rfl⟩
  generalize hn : k + L.run L.blankB (rest s k) = n at *
  clear hn
  go_wp2_with fail
  go_loop [1] (fun t => NextR s k t) (fun t => s.size - (intOf t).toNat)
  case atStart => exact H0.out
  case round =>
    obtain ⟨m, rfl, hkm, hm, he, hf⟩ := hrel
    have HE := Lib.hid he
    have HF := Lib.hid hf
    clear he hf
    have HX := Lib.hid (ext_rest s m)
    have hxs : (s.extract m s.size).size ≤ maxLen := by
      have := by_len (s.extract m s.size)
      rw [HX.out, rest_len] at this
      have := HS.out
      omega
    have HXS := Lib.hid hxs
    clear hxs
    cases hp : [47, 47].isPrefixOf (rest s m)
    · have HP := Lib.hid hp
      clear hp
      go_wp2_with fail
      with_reducible refine (prefix_any _ _ _ HXS.out HZ.out).mono ?_
      rintro e w' ⟨rfl, rfl⟩
      rw [HX.out]
      rw [show List.isPrefixOf (by' (⟨#[47, 47]⟩ : ByteArray)) (rest s m) = false from HP.out]
      go_wp2_with fail
      go_ret
      exact ⟨m, rfl, hkm, hm, HE.out, ⟨HF.out, HP.out⟩, rfl⟩
    · have HP := Lib.hid hp
      have HN := Lib.hid (next_more hkm hm HE.out hp)
      have h1 := run_in L.not10 s m hm
      have h2 := run_in L.blankB s (m + L.run L.not10 (rest s m)) h1
      have h3 := line_pos _ hp
      clear hp
      generalize hn1 : m + L.run L.not10 (rest s m) = n1 at *
      have HN1 := Lib.hid hn1
      have hlt1 : m < n1 := by omega
      clear hn1 h3
      go_wp2_with fail
      with_reducible refine (prefix_any _ _ _ HXS.out HZ.out).mono ?_
      rintro e w' ⟨rfl, rfl⟩
      rw [HX.out]
      rw [show List.isPrefixOf (by' (⟨#[47, 47]⟩ : ByteArray)) (rest s m) = true from HP.out]
      go_wp2_with fail
      with_reducible refine (past_any _ _ enters_inLine inLine_any s m _ HS.out hm).mono ?_
      rintro e w' ⟨rfl, rfl⟩
      rw [HN1.out]
      go_wp2_with fail
      with_reducible refine (past_any _ _ enters_blank blank_any s _ _ HS.out h1).mono ?_
      rintro e w' ⟨rfl, rfl⟩
      generalize hn2 : n1 + L.run L.blankB (rest s n1) = n2 at *
      have hlt : m < n2 := by omega
      clear hn2 h1
      go_wp2_with fail
      go_round
      case rel => exact HN.out
      case measure => simp [intOf]; omega
/-! ### where a token ends -/
/-- The kind and the length of what stands at the front; 0, 0: no token. -/
def ext : List UInt8 → Nat × Nat
  | [] => (0, 0)
  | b :: r => if L.letB b then (1, L.run L.alnB (b :: r)) else if L.digB b then (2, L.run L.digB (b :: r)) else if L.signB b then (3, if [61, 61].isPrefixOf (b :: r) then 2 else 1) else (0, 0)
/-- The place behind it. -/
def extEnd (k : Nat) (x : Nat × Nat) : Nat := if x.1 = 0 then 0 else k + x.2
theorem two_in {s : ByteArray} {k : Nat} (h : [61, 61].isPrefixOf (rest s k) = true) : k + 2 ≤ s.size := by
  have := (List.isPrefixOf_iff_prefix.1 h).length_le
  rw [rest_len] at this
  simp at this
  omega
set_option maxHeartbeats 400000 in
theorem pastSign_any (s : ByteArray) (k : Nat) (w : World) (hs : s.size ≤ maxLen) (hk : k < s.size) :
    Calls Try.prog 37 #[.string s, .int .i64 (k : Nat)] w fun e w' => e = .returned (.int .i64 ((k + (if [61, 61].isPrefixOf (rest s k) then 2 else 1) : Nat) : Int)) ∧ w = w' := by
  have HS := Lib.hid hs
  unfold maxLen at hs
  have HZ := Lib.hid (show (⟨#[61, 61]⟩ : ByteArray).size ≤ maxLen by decide)
  have HX := Lib.hid (ext_rest s k)
  have hxs : (s.extract k s.size).size ≤ maxLen := by
    have := by_len (s.extract k s.size)
    rw [HX.out, rest_len] at this
    have := HS.out
    omega
  have HXS := Lib.hid hxs
  clear hxs
  cases hp : [61, 61].isPrefixOf (rest s k)
  all_goals
    have HP := Lib.hid hp
    first | have h2 := two_in hp | skip
    clear hp
    go_enter Try.func37, Try.ntmps37
    go_wp2_with fail
    with_reducible refine (prefix_any _ _ _ HXS.out HZ.out).mono ?_
    rintro e w' ⟨rfl, rfl⟩
    rw [HX.out]
    first | rw [show List.isPrefixOf (by' (⟨#[61, 61]⟩ : ByteArray)) (rest s k) = false from HP.out] | rw [show List.isPrefixOf (by' (⟨#[61, 61]⟩ : ByteArray)) (rest s k) = true from HP.out]
    go_wp2_with fail
    go_ret
    exact ⟨rfl, rfl⟩
theorem ext_word {s : ByteArray} {k : Nat} (h : bat L.letB s k = true) : ext (rest s k) = (1, L.run L.alnB (rest s k)) := by
  have hk := bat_in h
  rw [bat_lt hk] at h
  rw [rest_lt hk, ext, if_pos h]
theorem ext_num {s : ByteArray} {k : Nat} (h0 : bat L.letB s k = false) (h : bat L.digB s k = true) : ext (rest s k) = (2, L.run L.digB (rest s k)) := by
  have hk := bat_in h
  rw [bat_lt hk] at h h0
  rw [rest_lt hk, ext, if_neg (by rw [h0]; decide), if_pos h]
theorem ext_sign {s : ByteArray} {k : Nat} (h0 : bat L.letB s k = false) (h1 : bat L.digB s k = false) (h : bat L.signB s k = true) : ext (rest s k) = (3, if [61, 61].isPrefixOf (rest s k) then 2 else 1) := by
  have hk := bat_in h
  rw [bat_lt hk] at h h0 h1
  rw [rest_lt hk, ext, if_neg (by rw [h0]; decide), if_neg (by rw [h1]; decide), if_pos h]
theorem ext_none {s : ByteArray} {k : Nat} (h0 : bat L.letB s k = false) (h1 : bat L.digB s k = false) (h : bat L.signB s k = false) : ext (rest s k) = (0, 0) := by
  by_cases hk : k < s.size
  · rw [bat_lt hk] at h h0 h1
    rw [rest_lt hk, ext, if_neg (by rw [h0]; decide), if_neg (by rw [h1]; decide), if_neg (by rw [h]; decide)]
  · rw [rest_ge (by omega)]
    rfl
theorem ret_two {a b c d : Int} (h : a = c) (h' : b = d) : Ending.returned (.tuple #[.int .i64 a, .int .i64 b]) = .returned (.tuple #[.int .i64 c, .int .i64 d]) := by rw [h, h']
set_option maxHeartbeats 800000 in
theorem extent_any (s : ByteArray) (k : Nat) (w : World) (hs : s.size ≤ maxLen) (hk : k ≤ s.size) :
    Calls Try.prog 26 #[.string s, .int .i64 (k : Nat)] w fun e w' => e = .returned (.tuple #[.int .i64 ((ext (rest s k)).1 : Nat), .int .i64 (extEnd k (ext (rest s k)) : Nat)]) ∧ w = w' := by
  have HS := Lib.hid hs
  unfold maxLen at hs
  cases h0 : bat L.letB s k
  · cases h1 : bat L.digB s k
    · cases h2 : bat L.signB s k
      · have HE := Lib.hid (ext_none h0 h1 h2)
        have H0 := Lib.hid h0
        have H1 := Lib.hid h1
        have H2 := Lib.hid h2
        clear h0 h1 h2
        go_enter Try.func26, Try.ntmps26
        go_wp2_with fail
        with_reducible refine (begins_any _ _ enters_letter letter_any s k _ HS.out).mono ?_
        rintro e w' ⟨rfl, rfl⟩
        rw [H0.out]
        go_wp2_with fail
        with_reducible refine (begins_any _ _ enters_digit digit_any s k _ HS.out).mono ?_
        rintro e w' ⟨rfl, rfl⟩
        rw [H1.out]
        go_wp2_with fail
        with_reducible refine (begins_any _ _ enters_sign csign_any s k _ HS.out).mono ?_
        rintro e w' ⟨rfl, rfl⟩
        rw [H2.out]
        go_wp2_with fail
        go_ret2
        rw [HE.out]
        exact ⟨rfl, rfl⟩
      · have HE := Lib.hid (ext_sign h0 h1 h2)
        have H0 := Lib.hid h0
        have H1 := Lib.hid h1
        have H2 := Lib.hid h2
        have hlt := bat_in h2
        clear h0 h1 h2
        go_enter Try.func26, Try.ntmps26
        go_wp2_with fail
        with_reducible refine (begins_any _ _ enters_letter letter_any s k _ HS.out).mono ?_
        rintro e w' ⟨rfl, rfl⟩
        rw [H0.out]
        go_wp2_with fail
        with_reducible refine (begins_any _ _ enters_digit digit_any s k _ HS.out).mono ?_
        rintro e w' ⟨rfl, rfl⟩
        rw [H1.out]
        go_wp2_with fail
        with_reducible refine (begins_any _ _ enters_sign csign_any s k _ HS.out).mono ?_
        rintro e w' ⟨rfl, rfl⟩
        rw [H2.out]
        go_wp2_with fail
        with_reducible refine (pastSign_any s k _ HS.out hlt).mono ?_
        rintro e w' ⟨rfl, rfl⟩
        generalize hn : k + (if [61, 61].isPrefixOf (rest s k) = true then 2 else 1) = n at *
        have HN := Lib.hid hn
        clear hn
        go_wp2_with fail
        go_ret2
        rw [HE.out]
        refine ⟨ret_two rfl ?_, rfl⟩
        rw [← HN.out]
        rfl
    · have HE := Lib.hid (ext_num h0 h1)
      have H0 := Lib.hid h0
      have H1 := Lib.hid h1
      clear h0 h1
      go_enter Try.func26, Try.ntmps26
      go_wp2_with fail
      with_reducible refine (begins_any _ _ enters_letter letter_any s k _ HS.out).mono ?_
      rintro e w' ⟨rfl, rfl⟩
      rw [H0.out]
      go_wp2_with fail
      with_reducible refine (begins_any _ _ enters_digit digit_any s k _ HS.out).mono ?_
      rintro e w' ⟨rfl, rfl⟩
      rw [H1.out]
      go_wp2_with fail
      with_reducible refine (past_any _ _ enters_digit digit_any s k _ HS.out hk).mono ?_
      rintro e w' ⟨rfl, rfl⟩
      generalize hn : k + L.run L.digB (rest s k) = n at *
      have HN := Lib.hid hn
      clear hn
      go_wp2_with fail
      go_ret2
      rw [HE.out]
      refine ⟨ret_two rfl ?_, rfl⟩
      rw [← HN.out]
      rfl
  · have HE := Lib.hid (ext_word h0)
    have H0 := Lib.hid h0
    clear h0
    go_enter Try.func26, Try.ntmps26
    go_wp2_with fail
    with_reducible refine (begins_any _ _ enters_letter letter_any s k _ HS.out).mono ?_
    rintro e w' ⟨rfl, rfl⟩
    rw [H0.out]
    go_wp2_with fail
    with_reducible refine (past_any _ _ enters_inWord inWord_any s k _ HS.out hk).mono ?_
    rintro e w' ⟨rfl, rfl⟩
    generalize hn : k + L.run L.alnB (rest s k) = n at *
    have HN := Lib.hid hn
    clear hn
    go_wp2_with fail
    go_ret2
    rw [HE.out]
    refine ⟨ret_two rfl ?_, rfl⟩
    rw [← HN.out]
    rfl
end Go.Proofs.Ytlnhhfmgciaaeaa.Lx
