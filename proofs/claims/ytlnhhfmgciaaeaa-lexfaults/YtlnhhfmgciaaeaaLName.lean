/-
  What Name tells, of package lex and of the document's answer, as contracts.
-/
import Derived.Test.YtlnhhfmgciaaeaaLKey
namespace Go.Proofs.Ytlnhhfmgciaaeaa.Lx
open Go.RowKit
set_option linter.unusedVariables false
set_option linter.unusedSimpArgs false
theorem Tells.call {F : Nat} {P : UInt8 → Bool} (h : Tells F P) (b : UInt8) (w : World) : Calls Try.prog F #[.int .u8 b.toNat] w fun e w' => e = .returned (.bool (P b)) ∧ w = w' := h b w
/-- A name: a letter ahead, letters and digits alone, at most 8 bytes, no keyword. -/
def nameB (l : List UInt8) : Bool := l.head?.any L.letB && decide (l.length ≤ 8) && !kwB l && l.all L.alnB
theorem run_all {p : UInt8 → Bool} : ∀ l : List UInt8, L.run p l = l.length → l.all p = true
  | [], _ => rfl
  | b :: l, h => by
    cases hb : p b
    · rw [L.run_cons_neg _ hb] at h
      simp at h
    · rw [L.run_cons_pos _ hb] at h
      rw [List.all_cons, hb, run_all l (by simpa using h)]
      rfl
theorem all_run {p : UInt8 → Bool} (l : List UInt8) (h : l.all p = true) : L.run p l = l.length := by
  have := L.run_append l [] (fun b hb => List.all_eq_true.1 h b hb)
  simpa [L.run_nil] using this
theorem name_no {s : ByteArray} (h : bat L.letB s 0 = false) : nameB (by' s) = false := by
  have h' : (by' s).head?.any L.letB = false := h
  rw [nameB, h']
  rfl
theorem name_is {s : ByteArray} (h : bat L.letB s 0 = true) : nameB (by' s) = (decide (L.run L.alnB (by' s) = s.size) && decide (s.size ≤ 8) && !kwB (by' s)) := by
  have h' : (by' s).head?.any L.letB = true := h
  rw [nameB, h', by_len, Bool.true_and]
  by_cases e : L.run L.alnB (by' s) = s.size
  · rw [run_all (by' s) (by rw [by_len]; exact e), decide_eq_true e, Bool.true_and, Bool.and_true]
  · have : (by' s).all L.alnB = false := by
      cases ha : (by' s).all L.alnB
      · rfl
      · exact absurd (by rw [all_run _ ha, by_len]) e
    rw [this, decide_eq_false e, Bool.and_false]
    rfl
theorem ext_not_word {s : ByteArray} (h : bat L.letB s 0 = false) : (ext (rest s 0)).1 ≠ 1 := by
  cases h1 : bat L.digB s 0
  · cases h2 : bat L.signB s 0
    · rw [ext_none h h1 h2]
      decide
    · rw [ext_sign h h1 h2]
      exact (by decide : (3 : Nat) ≠ 1)
  · rw [ext_num h h1]
    exact (by decide : (2 : Nat) ≠ 1)
theorem extent_zero (s : ByteArray) (c n : Nat) (ci : Int) (w : World) (hs : s.size ≤ maxLen) (he : ext (rest s 0) = (c, n)) (hci : (c : Int) = ci) :
    Calls Try.prog 26 #[.string s, .int .i64 0] w fun e w' => e = .returned (.tuple #[.int .i64 ci, .int .i64 (extEnd 0 (c, n) : Nat)]) ∧ w = w' := by
  refine (extent_any s 0 w hs (by omega)).mono ?_
  rintro e w' ⟨rfl, rfl⟩
  rw [he, hci]
  exact ⟨rfl, rfl⟩
set_option maxHeartbeats 400000 in
theorem name_any (s : ByteArray) (w : World) (hs : s.size ≤ maxLen) : Calls Try.prog 14 #[.string s] w fun e w' => e = .returned (.bool (nameB (by' s))) ∧ w = w' := by
  have HS := Lib.hid hs
  unfold maxLen at hs
  cases h0 : bat L.letB s 0
  · have H := Lib.hid (name_no h0)
    have hc := ext_not_word h0
    obtain ⟨c, n, hcn⟩ : ∃ c n, ext (rest s 0) = (c, n) := ⟨_, _, rfl⟩
    rw [hcn] at hc
    have HC := Lib.hid hcn
    have h1 : (((c : Nat) : Int) == 1) = false := by
      have : c ≠ 1 := hc
      simp
      omega
    clear hcn hc h0
    go_enter Try.func14, Try.ntmps14
    go_wp2_with fail
    with_reducible refine (extent_zero s c n c _ HS.out HC.out rfl).mono ?_
    rintro e w' ⟨rfl, rfl⟩
    go_wp2_with fail
    go_ret
    exact ⟨ret_bool H.out.symm, rfl⟩
  · have H := Lib.hid (name_is h0)
    have HC := Lib.hid (ext_word h0)
    clear h0
    have hr : L.run L.alnB (rest s 0) = L.run L.alnB (by' s) := rfl
    generalize hn : L.run L.alnB (by' s) = n at *
    have HN := Lib.hid hr
    have hnl : (n : Int) ≤ s.size := by
      have := L.run_le L.alnB (by' s)
      rw [by_len] at this
      omega
    clear hr hn
    have he0 : extEnd 0 (1, n) = n := by simp [extEnd]
    have HE0 := Lib.hid he0
    clear he0
    go_enter Try.func14, Try.ntmps14
    go_wp2_with fail
    with_reducible refine (extent_zero s 1 n 1 _ HS.out (by rw [HC.out, HN.out]) rfl).mono ?_
    rintro e w' ⟨rfl, rfl⟩
    rw [HE0.out]
    cases hk : kwB (by' s)
    all_goals
      have HK := Lib.hid hk
      clear hk
      go_wp2_with (go_at_call 12; refine (keyword_any s _).mono ?_; rintro e w' ⟨rfl, rfl⟩; rw [HK.out])
      all_goals
        go_ret
        refine ⟨ret_bool ?_, rfl⟩
        rw [H.out, HK.out]
        clear H HK HC HN HE0
        (try simp at *) <;> omega
/-! ### the document's answer -/
theorem not_nil {s : ByteArray} (h : 0 < s.size) : ¬ s.toList = [] := by
  intro e
  have := by_len s
  rw [← toList_by, e] at this
  simp at this
  omega
theorem nil_is {s : ByteArray} (h : ¬ 0 < s.size) : s = ⟨#[]⟩ := by
  apply by_inj
  have := by_len s
  have h0 : (by' s).length = 0 := by omega
  rw [List.eq_nil_of_length_eq_zero h0]
  rfl
set_option maxHeartbeats 800000 in
theorem rname_any (s : ByteArray) (w : World) (hs : s.size ≤ maxLen) : Calls Try.prog 15 #[.string s] w (BoolTo (nameB (by' s)) w) := by
  unfold maxLen at hs
  by_cases hp : 0 < s.size
  · have n1 := not_nil hp
    have n2 : (s.toList == []) = false := by simpa using n1
    have n3 : s.toList.isEmpty = false := by simpa using n1
    by_cases h8 : s.size ≤ 8
    · have d8 : decide ((8 : Int) < (s.size : Int)) = false := by simp; omega
      cases hl : bat L.letB s 0
      · have H := Lib.hid (name_no hl)
        rw [bat_lt hp] at hl
        have HL := Lib.hid hl
        clear hl
        go_enter Try.func15, Try.ntmps15
        go_wp2_with fail
        with_reducible refine (rletter_any.call _ _).mono ?_
        rintro e w' ⟨rfl, rfl⟩
        rw [HL.out]
        go_wp2_with fail
        go_ret
        exact ⟨ret_bool H.out.symm, Below.refl _ _⟩
      · have H := Lib.hid (name_is hl)
        rw [bat_lt hp] at hl
        have HL := Lib.hid hl
        clear hl
        cases hk : kwB (by' s)
        · have HK := Lib.hid hk
          clear hk
          go_enter Try.func15, Try.ntmps15
          go_wp2_with fail
          with_reducible refine (rletter_any.call _ _).mono ?_
          rintro e w' ⟨rfl, rfl⟩
          rw [HL.out]
          go_wp2_with fail
          with_reducible refine (rkeyword_any _ _).mono ?_
          rintro e w1 ⟨rfl, hb1⟩
          rw [HK.out]
          go_wp2_with fail
          go_loop [3] (fun t => PastR s L.alnB (L.run L.alnB (by' s)) t) (fun t => s.size - (intOf t).toNat)
          case atStart => exact ⟨0, rfl, by omega, by rw [rest_zero]; omega⟩
          case round =>
            obtain ⟨m, rfl, hm, hT⟩ := hrel
            have HT := Lib.hid hT
            clear hT
            by_cases hlt : m < s.size
            · cases h1 : L.letB s[m]
              · cases h2 : L.digB s[m]
                · have hb : bat L.alnB s m = false := by rw [bat_lt hlt]; simp [L.alnB, h1, h2]
                  have HR := Lib.hid (run_nat hb)
                  have H1 := Lib.hid h1
                  have H2 := Lib.hid h2
                  clear h1 h2 hb
                  go_wp2_with fail
                  with_reducible refine (rletter_any.call _ _).mono ?_
                  rintro e w' ⟨rfl, rfl⟩
                  rw [H1.out]
                  go_wp2_with fail
                  with_reducible refine (rdigit_any.call _ _).mono ?_
                  rintro e w' ⟨rfl, rfl⟩
                  rw [H2.out]
                  go_wp2_with fail
                  go_ret
                  refine ⟨ret_bool ?_, hb1⟩
                  rw [H.out, ← HT.out, HR.out, decide_eq_false (by omega)]
                  rfl
                · have hb : bat L.alnB s m = true := by rw [bat_lt hlt]; simp [L.alnB, h1, h2]
                  have HR := Lib.hid (run_bat hb)
                  have H1 := Lib.hid h1
                  have H2 := Lib.hid h2
                  clear h1 h2 hb
                  go_wp2_with fail
                  with_reducible refine (rletter_any.call _ _).mono ?_
                  rintro e w' ⟨rfl, rfl⟩
                  rw [H1.out]
                  go_wp2_with fail
                  with_reducible refine (rdigit_any.call _ _).mono ?_
                  rintro e w' ⟨rfl, rfl⟩
                  rw [H2.out]
                  go_wp2_with fail
                  go_round
                  case rel => exact ⟨m + 1, by go_num, by omega, by have := HT.out; rw [HR.out] at this; omega⟩
                  case measure => simp [intOf]; omega
              · have hb : bat L.alnB s m = true := by rw [bat_lt hlt]; simp [L.alnB, h1]
                have HR := Lib.hid (run_bat hb)
                have H1 := Lib.hid h1
                clear h1 hb
                go_wp2_with fail
                with_reducible refine (rletter_any.call _ _).mono ?_
                rintro e w' ⟨rfl, rfl⟩
                rw [H1.out]
                go_wp2_with fail
                go_round
                case rel => exact ⟨m + 1, by go_num, by omega, by have := HT.out; rw [HR.out] at this; omega⟩
                case measure => simp [intOf]; omega
            · have HR := Lib.hid (rest_ge (s := s) (k := m) (by omega))
              go_wp2_with fail
              go_ret
              refine ⟨ret_bool ?_, hb1⟩
              rw [H.out, HK.out, ← HT.out, HR.out, L.run_nil, decide_eq_true (by omega), decide_eq_true h8]
              rfl
        · have HK := Lib.hid hk
          clear hk
          go_enter Try.func15, Try.ntmps15
          go_wp2_with fail
          with_reducible refine (rletter_any.call _ _).mono ?_
          rintro e w' ⟨rfl, rfl⟩
          rw [HL.out]
          go_wp2_with fail
          with_reducible refine (rkeyword_any _ _).mono ?_
          rintro e w1 ⟨rfl, hb1⟩
          rw [HK.out]
          go_wp2_with fail
          go_ret
          refine ⟨ret_bool ?_, hb1⟩
          rw [H.out, HK.out]
          simp
    · have d8 : decide ((8 : Int) < (s.size : Int)) = true := by simp; omega
      have H := Lib.hid (show nameB (by' s) = false by rw [nameB, by_len, decide_eq_false h8]; simp)
      go_enter Try.func15, Try.ntmps15
      go_wp2_with fail
      go_ret
      exact ⟨ret_bool H.out.symm, Below.refl _ _⟩
  · obtain rfl := nil_is hp
    clear hp hs
    go_enter Try.func15, Try.ntmps15
    go_wp2_with fail
    go_ret
    exact ⟨ret_bool rfl, Below.refl _ _⟩
end Go.Proofs.Ytlnhhfmgciaaeaa.Lx
