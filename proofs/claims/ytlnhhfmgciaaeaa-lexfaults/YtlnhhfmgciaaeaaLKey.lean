/-
  What Keyword and Name tell, of package lex and of the document's answer, as contracts.
-/
import Derived.Test.YtlnhhfmgciaaeaaLMem
namespace Go.Proofs.Ytlnhhfmgciaaeaa.Lx
open Go.RowKit
set_option linter.unusedVariables false
set_option linter.unusedSimpArgs false
/-- All keywords. -/
def kws : List (List UInt8) := [[108, 105, 116, 109, 117, 115], [118, 97, 108, 117, 101, 115], [105, 110, 105, 116], [116, 104, 114, 101, 97, 100], [108, 111, 97, 100], [97, 100, 100], [99, 97, 115], [115, 116, 111, 114, 101], [102, 101, 110, 99, 101], [105, 102], [101, 108, 115, 101], [101, 120, 105, 115, 116, 115], [102, 111, 114, 97, 108, 108], [97, 110, 100], [111, 114], [110, 111, 116], [114, 108, 120], [97, 99, 113], [114, 101, 108], [97, 99, 113, 114, 101, 108], [115, 99]]
def kwB (l : List UInt8) : Bool := kws.any (l == ·)
theorem kw_or (l : List UInt8) : kwB l = decide (l = [108, 105, 116, 109, 117, 115] ∨ l = [118, 97, 108, 117, 101, 115] ∨ l = [105, 110, 105, 116] ∨ l = [116, 104, 114, 101, 97, 100] ∨ l = [108, 111, 97, 100] ∨ l = [97, 100, 100] ∨ l = [99, 97, 115] ∨ l = [115, 116, 111, 114, 101] ∨ l = [102, 101, 110, 99, 101] ∨ l = [105, 102] ∨ l = [101, 108, 115, 101] ∨ l = [101, 120, 105, 115, 116, 115] ∨ l = [102, 111, 114, 97, 108, 108] ∨ l = [97, 110, 100] ∨ l = [111, 114] ∨ l = [110, 111, 116] ∨ l = [114, 108, 120] ∨ l = [97, 99, 113] ∨ l = [114, 101, 108] ∨ l = [97, 99, 113, 114, 101, 108] ∨ l = [115, 99]) := by
  rw [Bool.eq_iff_iff]
  simp only [kwB, kws, List.any_cons, List.any_nil, Bool.or_eq_true, beq_iff_eq, Bool.false_eq_true, or_false, decide_eq_true_eq]
set_option maxHeartbeats 1600000 in
theorem keyword_any (s : ByteArray) (w : World) : Calls Try.prog 12 #[.string s] w fun e w' => e = .returned (.bool (kwB (by' s))) ∧ w = w' := by
  have H := Lib.hid (kw_or (by' s))
  have HT := Lib.hid (toList_by s)
  go_enter Try.func12, Try.ntmps12
  go_wp2_with fail
  all_goals
    go_ret
    refine ⟨ret_bool ?_, rfl⟩
    rw [H.out, ← HT.out]
    simp_all

/-! ### the document's answer -/
def kwAt (j : Nat) : List UInt8 := kws.getD j []
def kwCells : Array Value := #[.string ⟨#[108, 105, 116, 109, 117, 115]⟩, .string ⟨#[118, 97, 108, 117, 101, 115]⟩, .string ⟨#[105, 110, 105, 116]⟩, .string ⟨#[116, 104, 114, 101, 97, 100]⟩, .string ⟨#[108, 111, 97, 100]⟩, .string ⟨#[97, 100, 100]⟩, .string ⟨#[99, 97, 115]⟩, .string ⟨#[115, 116, 111, 114, 101]⟩, .string ⟨#[102, 101, 110, 99, 101]⟩, .string ⟨#[105, 102]⟩, .string ⟨#[101, 108, 115, 101]⟩, .string ⟨#[101, 120, 105, 115, 116, 115]⟩, .string ⟨#[102, 111, 114, 97, 108, 108]⟩, .string ⟨#[97, 110, 100]⟩, .string ⟨#[111, 114]⟩, .string ⟨#[110, 111, 116]⟩, .string ⟨#[114, 108, 120]⟩, .string ⟨#[97, 99, 113]⟩, .string ⟨#[114, 101, 108]⟩, .string ⟨#[97, 99, 113, 114, 101, 108]⟩, .string ⟨#[115, 99]⟩]
theorem kw_cell (j : Nat) (h : j < 21) : kwCells[j]? = some (.string (bs (kwAt j))) := by
  match j, h with
  | 0, _ => rfl
  | 1, _ => rfl
  | 2, _ => rfl
  | 3, _ => rfl
  | 4, _ => rfl
  | 5, _ => rfl
  | 6, _ => rfl
  | 7, _ => rfl
  | 8, _ => rfl
  | 9, _ => rfl
  | 10, _ => rfl
  | 11, _ => rfl
  | 12, _ => rfl
  | 13, _ => rfl
  | 14, _ => rfl
  | 15, _ => rfl
  | 16, _ => rfl
  | 17, _ => rfl
  | 18, _ => rfl
  | 19, _ => rfl
  | 20, _ => rfl
  | n + 21, h => exact absurd h (by omega)
theorem kw_yes {l : List UInt8} {j : Nat} (hj : j < 21) (h : kwAt j = l) : kwB l = true := by
  rw [kwB, List.any_eq_true]
  refine ⟨kwAt j, ?_, by rw [h]; simp⟩
  unfold kwAt
  rw [List.getD_eq_getElem?_getD, List.getElem?_eq_getElem (show j < kws.length from hj)]
  exact List.getElem_mem _
theorem kw_no {l : List UInt8} (h : ∀ j, j < 21 → kwAt j ≠ l) : kwB l = false := by
  cases hk : kwB l
  · rfl
  · exfalso
    rw [kwB, List.any_eq_true] at hk
    obtain ⟨x, hx, he⟩ := hk
    obtain ⟨j, hj, rfl⟩ := List.getElem_of_mem hx
    refine h j hj ?_
    unfold kwAt
    rw [List.getD_eq_getElem?_getD, List.getElem?_eq_getElem hj]
    exact (by simpa using he : l = _).symm
set_option maxHeartbeats 1600000 in
theorem words_any (w : World) : Calls Try.prog 25 #[] w fun e w' => e = .returned (.slice (some ⟨w.heap.size, 0, none⟩) 21 21) ∧ w' = w.alloc (.cells kwCells 9) := by
  go_enter Try.func25, Try.ntmps25
  go_wp2_with fail
  go_ret
  exact ⟨rfl, rfl⟩
/-- So many words are not it. -/
def KwR (l : List UInt8) (t : Value) : Prop := ∃ j : Nat, t = .int .i64 j ∧ j ≤ 21 ∧ ∀ i, i < j → kwAt i ≠ l
/-- A Bool is told, and nothing old turns. -/
def BoolTo (b : Bool) (w : World) (e : Ending) (w' : World) : Prop := e = .returned (.bool b) ∧ Below w.heap.size w w'
theorem kwR_more {l : List UInt8} {j : Nat} (hj : j < 21) (h : ∀ i, i < j → kwAt i ≠ l) (h' : kwAt j ≠ l) : KwR l (.int .i64 ((j : Int) + 1)) := by
  refine ⟨j + 1, by go_num, by omega, ?_⟩
  intro i hi
  by_cases e : i = j
  · subst e
    exact h'
  · exact h i (by omega)
set_option maxHeartbeats 800000 in
theorem rkeyword_any (s : ByteArray) (w : World) : Calls Try.prog 13 #[.string s] w (BoolTo (kwB (by' s)) w) := by
  go_enter Try.func13, Try.ntmps13
  go_wp2_with fail
  with_reducible refine (words_any _).mono ?_
  rintro e w' ⟨rfl, rfl⟩
  have hb : Blk (w.alloc (.cells kwCells 9)) w.heap.size 9 kwCells := Blk.new _ _ _
  have hbel : Below w.heap.size w (w.alloc (.cells kwCells 9)) := (Below.refl _ _).alloc (Nat.le_refl _) _
  have HB := Lib.hid hb
  clear hb
  generalize hw1 : w.alloc (.cells kwCells 9) = w1 at *
  clear hw1
  go_wp2_with fail
  go_loop [4] (fun t => KwR (by' s) t) (fun t => 21 - (intOf t).toNat)
  case atStart => exact ⟨0, rfl, by omega, fun i hi => absurd hi (by omega)⟩
  case round =>
    obtain ⟨j, rfl, hj, hno⟩ := hrel
    have HN := Lib.hid hno
    clear hno
    by_cases hlt : j < 21
    · have hc : w1.cell? ⟨w.heap.size, j, none⟩ = some (.string (bs (kwAt j))) := by
        rw [HB.out.cell, kw_cell j hlt]
      by_cases hq : kwAt j = by' s
      · have h1 : ((bs (kwAt j)).toList == s.toList) = true := by
          rw [toList_by, toList_by, by_bs, hq]
          simp
        have HY := Lib.hid (kw_yes hlt hq)
        clear hq
        generalize bs (kwAt j) = K at *
        go_wp2_with fail
        go_ret
        exact ⟨ret_bool HY.out.symm, hbel⟩
      · have h1 : ((bs (kwAt j)).toList == s.toList) = false := by
          rw [toList_by, toList_by, by_bs]
          simpa using hq
        have HY := Lib.hid (kwR_more hlt HN.out hq)
        clear hq
        generalize bs (kwAt j) = K at *
        go_wp2_with fail
        go_round
        case rel => exact HY.out
        case measure => simp [intOf]; omega
    · have HY := Lib.hid (kw_no (l := by' s) (fun i hi => HN.out i (by omega)))
      go_wp2_with fail
      go_ret
      exact ⟨ret_bool HY.out.symm, hbel⟩

end Go.Proofs.Ytlnhhfmgciaaeaa.Lx
