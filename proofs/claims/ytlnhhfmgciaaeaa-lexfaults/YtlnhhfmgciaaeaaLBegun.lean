/-
  Lex by its tokens or its fault; and that lex does something: begun.
-/
import Derived.Test.YtlnhhfmgciaaeaaLSame
import Derived.Test.YtlnhhfmgciaaeaaLLex
import Derived.Test.YtlnhhfmgciaaeaaLName
namespace Go.Proofs.Ytlnhhfmgciaaeaa.Lx
open Go.RowKit
set_option linter.unusedVariables false
set_option linter.unusedSimpArgs false
theorem Four.below {w w' : World} {g o B : Nat} {t : L.Tok} (h : Four w g o t) (hb : Below B w w') (hg : g < B) : Four w' g o t := by
  obtain ⟨h0, h1, h2, h3⟩ := h
  exact ⟨(hb.cell (p := ⟨g, _, none⟩) hg).trans h0, (hb.cell (p := ⟨g, _, none⟩) hg).trans h1, (hb.cell (p := ⟨g, _, none⟩) hg).trans h2, (hb.cell (p := ⟨g, _, none⟩) hg).trans h3⟩
/-- Tokens are told, and no fault; nothing old turns. -/
def OkTo (ts : List L.Tok) (w : World) (e : Ending) (w' : World) : Prop := ∃ v, e = .returned (.tuple #[v, .agg #[.int .i64 0, .int .i64 0]]) ∧ Own w' w.heap.size v ts ∧ Below w.heap.size w w'
/-- Some tokens, by their cells. -/
def RowTo (ts : List L.Tok) (w : World) (e : Ending) (w' : World) : Prop := ∃ g cap, e = .returned (.tuple #[.slice (some ⟨g, 0, none⟩) ts.length cap, .agg #[.int .i64 0, .int .i64 0]]) ∧ w.heap.size ≤ g ∧ g < w'.heap.size ∧ (∀ i, i < ts.length → Four w' g (i * 4) (tat ts i)) ∧ Below w.heap.size w w'
/-- A fault is told, and no token. -/
def BadTo (ex p : Int) (w : World) (e : Ending) (w' : World) : Prop := ∃ a cap, e = .returned (.tuple #[.slice a 0 cap, .agg #[.int .i64 ex, .int .i64 p]]) ∧ Below w.heap.size w w'
theorem lex_ok (s : ByteArray) (ts : List L.Tok) (w : World) (h : lexA s = .ok ts) : Calls Try.prog 9 #[.string s] w (OkTo ts w) := by
  refine (lex_any s w).mono ?_
  rintro e w' ⟨v, rfl, ho, hb⟩
  rw [h] at ho ⊢
  exact ⟨v, rfl, ho, hb⟩
theorem lex_row (s : ByteArray) (ts : List L.Tok) (w : World) (h : lexA s = .ok ts) (h0 : 0 < ts.length) : Calls Try.prog 9 #[.string s] w (RowTo ts w) := by
  refine (lex_ok s ts w h).mono ?_
  rintro e w' ⟨v, rfl, ho, hb⟩
  obtain ⟨g, cap, rfl, h1, h2, h3⟩ := own_row ho h0
  exact ⟨g, cap, rfl, h1, h2, h3, hb⟩
theorem lex_no (s : ByteArray) (x : L.Bad) (p : Nat) (ex pi : Int) (w : World) (h : lexA s = .error (x, p)) (hx : ((eno x : Nat) : Int) = ex) (hp : (p : Int) = pi) : Calls Try.prog 9 #[.string s] w (BadTo ex pi w) := by
  refine (lex_any s w).mono ?_
  rintro e w' ⟨v, rfl, ho, hb⟩
  rw [h] at ho ⊢
  obtain ⟨a, c, rfl⟩ := slice_of_own ho
  subst hx hp
  exact ⟨a, c, rfl, hb⟩
theorem first_toks : lexA ⟨#[114, 49, 61, 48, 32, 47, 47, 32, 120]⟩ = .ok [⟨1, [114, 49], 0, 0⟩, ⟨3, [61], 0, 2⟩, ⟨2, [48], 0, 3⟩, ⟨4, [], 0, 9⟩] := by
  show L.lexL 0 [114, 49, 61, 48, 32, 47, 47, 32, 120] = _
  rw [L.lex_tok (k := 1) (kind := 1) (n := 0) rfl]
  show L.pre _ (L.lexL 2 [61, 48, 32, 47, 47, 32, 120]) = _
  rw [L.lex_tok (k := 0) (kind := 3) (n := 0) rfl]
  show L.pre _ (L.pre _ (L.lexL 3 [48, 32, 47, 47, 32, 120])) = _
  rw [L.lex_tok (k := 0) (kind := 2) (n := 0) rfl]
  show L.pre _ (L.pre _ (L.pre _ (L.lexL 4 [32, 47, 47, 32, 120]))) = _
  rw [L.lex_skip (k := 0) rfl]
  show L.pre _ (L.pre _ (L.pre _ (L.lexL 5 [47, 47, 32, 120]))) = _
  rw [L.lex_skip (k := 3) rfl]
  show L.pre _ (L.pre _ (L.pre _ (L.lexL 9 []))) = _
  rw [L.lex_nil]
  rfl
theorem second_bad : lexA ⟨#[97, 32, 63, 32, 98]⟩ = .error (.form, 2) := by
  show L.lexL 0 [97, 32, 63, 32, 98] = _
  rw [L.lex_tok (k := 0) (kind := 1) (n := 0) rfl]
  show L.pre _ (L.lexL 1 [32, 63, 32, 98]) = _
  rw [L.lex_skip (k := 0) rfl]
  show L.pre _ (L.lexL 2 [63, 32, 98]) = _
  rw [L.lex_bad (e := .form) rfl]
  rfl
theorem kw_at (s : ByteArray) (b : Bool) (w : World) (h : kwB (by' s) = b) : Calls Try.prog 12 #[.string s] w fun e w' => e = .returned (.bool b) ∧ w = w' := by
  subst h
  exact keyword_any s w
theorem name_at (s : ByteArray) (b : Bool) (w : World) (hs : s.size ≤ maxLen) (h : nameB (by' s) = b) : Calls Try.prog 14 #[.string s] w fun e w' => e = .returned (.bool b) ∧ w = w' := by
  subst h
  exact name_any s w hs
set_option maxHeartbeats 1600000 in
theorem begun_any (w : World) : Calls Try.prog 8 #[] w (BoolTo true w) := by
  have q1 := eqFlt_self 0 0
  have q2 := eqFlt_self 2 2
  have q3 := eqTok_self 1 0 0 ⟨#[114, 49]⟩
  have Q1 := Lib.hid q1
  have Q2 := Lib.hid q2
  have Q3 := Lib.hid q3
  clear q1 q2 q3
  go_enter Try.func8, Try.ntmps8
  go_wp2_with fail
  with_reducible refine (lex_row _ _ _ first_toks (by decide)).mono ?_
  rintro e w1 ⟨g, cap, rfl, hg0, hg1, hF, hb1⟩
  have k0 := hF 0 (by decide)
  have k2 := hF 2 (by decide)
  have k3 := hF 3 (by decide)
  clear hF
  go_wp2_with fail
  with_reducible refine (lex_no _ _ _ 2 2 _ second_bad rfl rfl).mono ?_
  rintro e w2 ⟨a2, cap2, rfl, hb2⟩
  have hsz1 := hb1.size
  have hsz2 := hb2.size
  have hall : Below w1.heap.size w1 w2 := (((Below.refl _ w1).alloc (Nat.le_refl _) _).trans (hb2.mono (by simp)))
  have r0 := k0.below hall hg1
  have r2 := k2.below hall hg1
  have r3 := k3.below hall hg1
  have hf1 : w2.cell? ⟨w1.heap.size, 0, none⟩ = some (.int .i64 0) ∧ w2.cell? ⟨w1.heap.size, 1, none⟩ = some (.int .i64 0) := by
    have hB : Blk w2 w1.heap.size 26 #[.int .i64 0, .int .i64 0] := (Blk.new w1 _ _).below hb2 (by simp)
    exact ⟨hB.cell 0, hB.cell 1⟩
  obtain ⟨p0, p1⟩ := hf1
  have z0 : w2.cell? ⟨g, 0, none⟩ = some (.int .i64 1) := r0.1
  have z1 : w2.cell? ⟨g, 1, none⟩ = some (.string ⟨#[114, 49]⟩) := r0.2.1
  have z2 : w2.cell? ⟨g, 2, none⟩ = some (.int .i64 0) := r0.2.2.1
  have z3 : w2.cell? ⟨g, 3, none⟩ = some (.int .i64 0) := r0.2.2.2
  have z8 : w2.cell? ⟨g, 8, none⟩ = some (.int .i64 2) := r2.1
  have z15 : w2.cell? ⟨g, 15, none⟩ = some (.int .i64 9) := r3.2.2.2
  have hend : Below w.heap.size w w2 := hb1.trans (hall.mono (by omega))
  have hend2 : w.heap.size ≤ w2.heap.size := hend.size
  have hlt : w1.heap.size < w2.heap.size := by simp at hsz2; omega
  have hg2 : g < w2.heap.size := by omega
  have HEND := Lib.hid hend
  clear k0 k2 k3 r0 r2 r3 hall hend hb1 hb2
  have q1 := Q1.out
  have q2 := Q2.out
  have q3 := Q3.out
  go_wp2_with fail
  with_reducible refine (kw_at _ true _ rfl).mono ?_
  rintro e w' ⟨rfl, rfl⟩
  go_wp2_with fail
  with_reducible refine (kw_at _ false _ rfl).mono ?_
  rintro e w' ⟨rfl, rfl⟩
  go_wp2_with fail
  with_reducible refine (name_at _ true _ (by decide) rfl).mono ?_
  rintro e w' ⟨rfl, rfl⟩
  go_wp2_with fail
  with_reducible refine (name_at _ false _ (by decide) rfl).mono ?_
  rintro e w' ⟨rfl, rfl⟩
  go_wp2_with fail
  with_reducible refine (name_at _ false _ (by decide) rfl).mono ?_
  rintro e w' ⟨rfl, rfl⟩
  go_wp2_with fail
  go_ret
  exact ⟨rfl, HEND.out.alloc hend2 _⟩
end Go.Proofs.Ytlnhhfmgciaaeaa.Lx
