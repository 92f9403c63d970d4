/-
  LexNumbers' walk: for any number and any noughts it returns true, and nothing old turns.
-/
import Derived.Test.YtlnhhfmgciaaeaaLBegun
import Derived.Test.YtlnhhfmgciaaeaaLDig
namespace Go.Proofs.Ytlnhhfmgciaaeaa.Lx
open Go.RowKit
set_option linter.unusedVariables false
set_option linter.unusedSimpArgs false
theorem i64_of {n : Int} (h : (Lit.int .i64 n).wf = true) : -9223372036854775808 ≤ n ∧ n ≤ 9223372036854775807 := by
  simpa [Lit.wf, IntKind.min, IntKind.max, IntKind.signed, IntKind.bits] using h
/-- So many noughts are ahead of the digits. -/
def NoughtR (n m : Nat) (sv iv : Value) : Prop := ∃ j : Nat, j ≤ m ∧ iv = .int .i64 j ∧ sv = .string (bs (List.replicate j 48 ++ L.decL n))
theorem nought_more {n m j : Nat} (hj : j < m) (S : ByteArray) (hS : S = bs (List.replicate j 48 ++ L.decL n)) : NoughtR n m (.string (⟨#[48]⟩ ++ S)) (.int .i64 ((j : Int) + 1)) := by
  refine ⟨j + 1, by omega, by go_num, ?_⟩
  rw [hS, show (⟨#[48]⟩ : ByteArray) = bs [48] from rfl, bs_app]
  rfl
theorem num_ok {n j : Nat} (hj : j ≤ 30) (hn : n ≤ L.top) (h63 : (n : Int) ≤ 9223372036854775807) (S : ByteArray) (hS : S = bs (List.replicate j 48 ++ L.decL n)) :
    lexA (⟨#[32]⟩ ++ S) = .ok [⟨2, by' S, n, 1⟩, ⟨4, [], 0, 1 + S.size⟩] := by
  have hl := dec_max n h63
  have hz : S.size = j + (L.decL n).length := by rw [hS, bs_size, List.length_append, List.length_replicate]
  have e : (⟨#[32]⟩ : ByteArray) ++ S = bs (32 :: by' S) := by
    rw [show (⟨#[32]⟩ : ByteArray) = bs [32] from rfl, ← bs_by S, bs_app]
    rfl
  rw [lexA, e, bs_size, List.length_cons, by_len, if_pos (by omega), by_bs, L.lex_skip (k := 0) (L.nx_blank (by decide))]
  show L.lexL 1 (by' S) = _
  have hp := L.noughts_piece (n := n) j hn
  have hb : by' S = List.replicate j 48 ++ L.decL n := by rw [hS, by_bs]
  rw [← hb] at hp
  have := hp.lex (r := []) rfl 1
  rw [List.append_nil, L.lex_nil, by_len] at this
  exact this
theorem num_long {n j : Nat} (hj : j ≤ 30) (hn : ¬ n ≤ L.top) (h63 : (n : Int) ≤ 9223372036854775807) (S : ByteArray) (hS : S = bs (List.replicate j 48 ++ L.decL n)) :
    lexA (⟨#[32]⟩ ++ S) = .error (.long, 1) := by
  have hl := dec_max n h63
  have hz : S.size = j + (L.decL n).length := by rw [hS, bs_size, List.length_append, List.length_replicate]
  have e : (⟨#[32]⟩ : ByteArray) ++ S = bs (32 :: by' S) := by
    rw [show (⟨#[32]⟩ : ByteArray) = bs [32] from rfl, ← bs_by S, bs_app]
    rfl
  rw [lexA, e, bs_size, List.length_cons, by_len, if_pos (by omega), by_bs, L.lex_skip (k := 0) (L.nx_blank (by decide))]
  show L.lexL 1 (by' S) = _
  rw [hS, by_bs]
  exact L.noughts_long j hn 1
set_option maxHeartbeats 1600000 in
theorem numbers_law (n : Int) (k : Nat) (w : World) (wn : (Lit.int .i64 n).wf = true) (hk : k < 256) : Calls Try.prog 7 #[.int .i64 n, .int .u8 (k : Nat)] w (BoolTo true w) := by
  obtain ⟨n0, n1⟩ := i64_of wn
  clear wn
  by_cases hneg : n < 0
  · have e1 : decide (n < 0) = true := by simpa using hneg
    go_enter Try.func7, Try.ntmps7
    go_wp2_with fail
    with_reducible refine (begun_any _).mono ?_
    rintro e w0 ⟨rfl, hb0⟩
    go_wp2_with fail
    go_ret
    exact ⟨rfl, hb0⟩
  · have e1 : decide (n < 0) = false := by simpa using hneg
    obtain ⟨m, rfl⟩ : ∃ m : Nat, n = (m : Int) := ⟨n.toNat, by omega⟩
    clear hneg n0
    have HD := Lib.hid (fun w => digits_any m w n1)
    have hk30 : k % 30 < 30 := by omega
    have hdl := dec_max m n1
    go_enter Try.func7, Try.ntmps7
    go_wp2_with fail
    with_reducible refine (begun_any _).mono ?_
    rintro e w0 ⟨rfl, hb0⟩
    go_wp2_with fail
    with_reducible refine (HD.out _).mono ?_
    rintro e w1 ⟨rfl, hb1⟩
    have hsz0 := hb0.size
    have HE := Lib.hid (hb0.trans (hb1.mono hsz0))
    clear hb0 hb1
    go_wp2_with fail
    go_loop [5, 6] (fun sv iv => NoughtR m (k % 30) sv iv) (fun _ iv => 30 - (intOf iv).toNat)
    case atStart => exact ⟨0, by omega, rfl, rfl⟩
    case round =>
      obtain ⟨j, hj, rfl, rfl⟩ := hrel
      have hSz : (bs (List.replicate j 48 ++ L.decL m)).size ≤ 60 := by rw [bs_size, List.length_append, List.length_replicate]; omega
      generalize hS : bs (List.replicate j 48 ++ L.decL m) = S at *
      have HS := Lib.hid hS
      clear hS
      by_cases hjl : j < k % 30
      · have d1 : decide ((j : Int) < (k : Int) % 30) = true := by simp; omega
        have hsum : ¬ (⟨#[48]⟩ : ByteArray).size + S.size > 9223372036854775807 := by
          have : (⟨#[48]⟩ : ByteArray).size = 1 := rfl
          omega
        have HM := Lib.hid (nought_more hjl S HS.out.symm)
        go_wp2_with fail
        go_round
        case rel => exact HM.out
        case measure => simp [intOf]; omega
      · have d1 : decide ((j : Int) < (k : Int) % 30) = false := by simp; omega
        have hsum : ¬ (⟨#[32]⟩ : ByteArray).size + S.size > 9223372036854775807 := by
          have : (⟨#[32]⟩ : ByteArray).size = 1 := rfl
          omega
        by_cases hm : m ≤ L.top
        · have HO := Lib.hid (num_ok (by omega) hm n1 S HS.out.symm)
          have e2 : decide ((4611686018427387904 : Int) < (m : Int)) = false := by unfold L.top at hm; simp; omega
          have Q1 := Lib.hid (eqFlt_self 0 0)
          have Q2 := Lib.hid (eqTok_self 2 (m : Int) 1 S)
          have HBS := Lib.hid (bs_by S)
          clear hm
          go_wp2_with fail
          with_reducible refine (lex_row _ _ _ HO.out (Nat.zero_lt_succ _)).mono ?_
          rintro e w2 ⟨g, cap, rfl, hg0, hg1, hF, hb2⟩
          obtain ⟨z0, z1, z2, z3⟩ := hF 0 (Nat.zero_lt_succ _)
          have y0 : w2.cell? ⟨g, 0, none⟩ = some (.int .i64 2) := z0
          have y1 : w2.cell? ⟨g, 1, none⟩ = some (.string S) := by
            rw [← HBS.out]
            exact z1
          have y2 : w2.cell? ⟨g, 2, none⟩ = some (.int .i64 (m : Int)) := z2
          have y3 : w2.cell? ⟨g, 3, none⟩ = some (.int .i64 1) := z3
          have hsz1 := HE.out.size
          have HE2 := Lib.hid (HE.out.trans (hb2.mono hsz1))
          have hsz2 := HE2.out.size
          have q1 := Q1.out
          have q2 := Q2.out
          clear z0 z1 z2 z3 hF hb2
          go_wp2_with fail
          go_ret
          exact ⟨rfl, HE2.out.alloc hsz2 _⟩
        · have HO := Lib.hid (num_long (by omega) hm n1 S HS.out.symm)
          have e2 : decide ((4611686018427387904 : Int) < (m : Int)) = true := by unfold L.top at hm; simp; omega
          have Q1 := Lib.hid (eqFlt_self 3 1)
          clear hm
          go_wp2_with fail
          with_reducible refine (lex_no _ _ _ 3 1 _ HO.out rfl rfl).mono ?_
          rintro e w2 ⟨a2, cap, rfl, hb2⟩
          have hsz1 := HE.out.size
          have HE2 := Lib.hid (HE.out.trans (hb2.mono hsz1))
          have hsz2 := HE2.out.size
          have q1 := Q1.out
          clear hb2
          go_wp2_with fail
          go_ret
          exact ⟨rfl, HE2.out.alloc hsz2 _⟩
end Go.Proofs.Ytlnhhfmgciaaeaa.Lx
