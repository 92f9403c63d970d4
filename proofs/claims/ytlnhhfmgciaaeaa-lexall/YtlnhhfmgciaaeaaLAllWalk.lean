/-
  LexAll's walk: for any two texts it returns true, and nothing old turns.
-/
import Derived.Test.YtlnhhfmgciaaeaaLBegun
import Derived.Test.YtlnhhfmgciaaeaaLRefWalk
namespace Go.Proofs.Ytlnhhfmgciaaeaa.Lx
open Go.RowKit
set_option linter.unusedVariables false
set_option linter.unusedSimpArgs false
theorem flt_agg (o : L.Out) : ∃ a b : Int, flt o = .agg #[.int .i64 a, .int .i64 b] := by
  rcases o with ⟨x, p⟩ | ts
  · exact ⟨_, _, rfl⟩
  · exact ⟨_, _, rfl⟩
/-- Tokens and a fault by its two numbers. -/
def AsTo (ts : List L.Tok) (a b : Int) (w : World) (e : Ending) (w' : World) : Prop := ∃ v, e = .returned (.tuple #[v, .agg #[.int .i64 a, .int .i64 b]]) ∧ Own w' w.heap.size v ts ∧ Below w.heap.size w w'
theorem as_of {o : L.Out} {a b : Int} (h : flt o = .agg #[.int .i64 a, .int .i64 b]) {w w' : World} {e : Ending} (hl : LexTo o w e w') : AsTo (toks o) a b w e w' := by
  obtain ⟨v, rfl, ho, hb⟩ := hl
  exact ⟨v, by rw [h], ho, hb⟩
set_option maxHeartbeats 1600000 in
theorem all_law (s n : ByteArray) (w : World) (hs : s.size ≤ maxLen) (hn : n.size ≤ maxLen) : Calls Try.prog 3 #[.string s, .string n] w (BoolTo true w) := by
  have HS := Lib.hid hs
  have HN := Lib.hid hn
  unfold maxLen at hs hn
  by_cases hb : s.size ≤ 5000 ∧ n.size ≤ 5000
  · obtain ⟨hb1, hb2⟩ := hb
    have e1 : decide ((5000 : Int) < (s.size : Int)) = false := by simp; omega
    have e2 : decide ((5000 : Int) < (n.size : Int)) = false := by simp; omega
    obtain ⟨a, b, hf⟩ := flt_agg (lexA s)
    have HL := Lib.hid (fun w => (lex_any s w).mono fun e w' h => as_of hf h)
    have HR := Lib.hid (fun w => (rlex_any s w).mono fun e w' h => as_of hf h)
    have Q := Lib.hid (eqFlt_self a b)
    clear hf
    generalize toks (lexA s) = ts at *
    go_enter Try.func3, Try.ntmps3
    go_wp2_with fail
    with_reducible refine (begun_any _).mono ?_
    rintro e w0 ⟨rfl, hb0⟩
    go_wp2_with fail
    with_reducible refine (HL.out _).mono ?_
    rintro e w1 ⟨v1, rfl, ho1, hbl1⟩
    go_wp2_with fail
    with_reducible refine (HR.out _).mono ?_
    rintro e w2 ⟨v2, rfl, ho2, hbl2⟩
    have hall : Below w1.heap.size w1 w2 := (((Below.refl _ w1).alloc (Nat.le_refl _) _).trans (hbl2.mono (by simp)))
    have ho1' := own_below ho1 hall
    have hB : Blk w2 w1.heap.size 26 #[.int .i64 a, .int .i64 b] := (Blk.new w1 _ _).below hbl2 (by simp)
    obtain ⟨p0, p1, f0, f1⟩ := two_cells hB
    have hlt := hB.lt
    have hsz0 := hb0.size
    have hsz1 := hbl1.size
    have HE : Hid (Below w.heap.size w w2) := Lib.hid ((hb0.trans (hbl1.mono hsz0)).trans (hall.mono (by omega)))
    have hsz2 := HE.out.size
    have HO1 := Lib.hid ho1'
    have HO2 := Lib.hid ho2
    clear hB hall hbl2 hbl1 hb0 ho1 ho1' ho2 f0 f1
    go_wp2_with fail
    with_reducible refine (same_any v1 v2 _ _ ts _ (HO1.out.alloc _) (HO2.out.alloc _)).mono ?_
    rintro e w3 ⟨rfl, nd, rfl⟩
    have q := Q.out
    go_wp2_with fail
    with_reducible refine (keyword_any n _).mono ?_
    rintro e w' ⟨rfl, rfl⟩
    go_wp2_with fail
    with_reducible refine (rkeyword_any n _).mono ?_
    rintro e w4 ⟨rfl, hb4⟩
    have HB4 := Lib.hid hb4
    clear hb4
    generalize kwB (by' n) = k at *
    go_wp2_with fail
    with_reducible refine (name_any n _ HN.out).mono ?_
    rintro e w' ⟨rfl, rfl⟩
    go_wp2_with fail
    with_reducible refine (rname_any n _ HN.out).mono ?_
    rintro e w5 ⟨rfl, hb5⟩
    have HB5 := Lib.hid hb5
    clear hb5
    generalize nameB (by' n) = k2 at *
    go_wp2_with fail
    go_ret
    refine ⟨rfl, ?_⟩
    have h3 : Below w.heap.size w ((w2.alloc (.cells #[.int .i64 a, .int .i64 b] 26)).drewN nd) := below_drewN (HE.out.alloc hsz2 _) nd
    exact (h3.trans (HB4.out.mono h3.size)).trans (HB5.out.mono (Nat.le_trans h3.size HB4.out.size))
  · by_cases h1 : s.size ≤ 5000
    · have e1 : decide ((5000 : Int) < (s.size : Int)) = false := by simp; omega
      have e2 : decide ((5000 : Int) < (n.size : Int)) = true := by simp; omega
      clear hb
      go_enter Try.func3, Try.ntmps3
      go_wp2_with fail
      with_reducible refine (begun_any _).mono ?_
      rintro e w0 ⟨rfl, hb0⟩
      go_wp2_with fail
      go_ret
      exact ⟨rfl, hb0⟩
    · have e1 : decide ((5000 : Int) < (s.size : Int)) = true := by simp; omega
      clear hb
      go_enter Try.func3, Try.ntmps3
      go_wp2_with fail
      with_reducible refine (begun_any _).mono ?_
      rintro e w0 ⟨rfl, hb0⟩
      go_wp2_with fail
      go_ret
      exact ⟨rfl, hb0⟩
end Go.Proofs.Ytlnhhfmgciaaeaa.Lx
