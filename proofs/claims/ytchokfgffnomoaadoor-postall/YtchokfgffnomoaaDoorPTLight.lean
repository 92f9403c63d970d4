/-
  What light tells, as a contract: whether an outcome is small.
-/
import Derived.Test.YtchokfgffnomoaaDoorPTBegun
namespace Go.Proofs.YtchokfgffnomoaaDoor.Lx
open Go.RowKit
open P (CO)
set_option maxRecDepth 100000
set_option linter.unusedVariables false
set_option linter.unusedSimpArgs false
/-- An outcome is small. -/
def LightP (rv : List (List Int)) (mv : List Int) : Prop := rv.length ≤ 6 ∧ mv.length ≤ 8 ∧ ∀ i, i < rv.length → (rv.getD i []).length ≤ 8
/-- A bool is told; true says that it is small. -/
def LightTo (rv : List (List Int)) (mv : List Int) (w : World) (e : Ending) (w' : World) : Prop := ∃ b : Bool, e = .returned (.bool b) ∧ (b = true → LightP rv mv) ∧ Below w.heap.size w w'
set_option maxHeartbeats 3200000 in
theorem light_any {w : World} {ra ma : Option Addr} {rv : List (List Int)} {mv : List Int} {rc mc : Nat} (h : OutIn w ra ma rv mv mc) : Calls Tryd.prog 21 #[.agg #[.slice ra rv.length rc, .slice ma mv.length mc]] w (LightTo rv mv w) := by
  have HB := Lib.hid (one_belowC w (.cells #[.slice ra rv.length rc, .slice ma mv.length mc] 46))
  have HQ := Lib.hid (Blk.new w 46 #[.slice ra rv.length rc, .slice ma mv.length mc])
  have HO := Lib.hid (h.low HB.out)
  have hr := h.rok.1
  have hm := h.mok.1
  have HRL := Lib.hid h.rok.2
  unfold maxLen at hr hm
  clear h
  by_cases h1 : 6 < rv.length
  · have d1 : decide ((6 : Int) < (rv.length : Int)) = true := decide_eq_true (by omega)
    have d2 : decide (6 < rv.length) = true := decide_eq_true h1
    go_enter Tryd.func21, Tryd.ntmps21
    go_wp2_with fail
    go_ret
    exact ⟨false, rfl, (fun h => by cases h), HB.out⟩
  have d1 : decide ((6 : Int) < (rv.length : Int)) = false := decide_eq_false (by omega)
  have d2 : decide (6 < rv.length) = false := decide_eq_false h1
  by_cases h2 : 8 < mv.length
  · have d3 : decide ((8 : Int) < (mv.length : Int)) = true := decide_eq_true (by omega)
    have d4 : decide (8 < mv.length) = true := decide_eq_true h2
    go_enter Tryd.func21, Tryd.ntmps21
    go_wp2_with fail
    go_ret
    exact ⟨false, rfl, (fun h => by cases h), HB.out⟩
  have d3 : decide ((8 : Int) < (mv.length : Int)) = false := decide_eq_false (by omega)
  have d4 : decide (8 < mv.length) = false := decide_eq_false h2
  go_enter Tryd.func21, Tryd.ntmps21
  go_wp2_with fail
  generalize hW : w.alloc (.cells #[.slice ra rv.length rc, .slice ma mv.length mc] 46) = W at *
  clear hW
  obtain ⟨q0, q1⟩ := two_freeP HQ.out
  go_loop [3] (fun t => ∃ j : Nat, t = .int .i64 j ∧ j ≤ rv.length ∧ Hid (∀ i, i < j → (rv.getD i []).length ≤ 8)) (fun t => rv.length - (intOf t).toNat)
  case atStart => exact ⟨0, rfl, Nat.zero_le _, Lib.hid (fun i hi => by omega)⟩
  case round =>
    obtain ⟨j, rfl, hj, HS⟩ := hrel
    by_cases hlt : j < rv.length
    · obtain ⟨g, off, va, vc, rfl, hcj, _⟩ := vss_at HO.out.regs hlt
      have e1 : (0 : Int) ≤ (j : Int) := by omega
      have e2 : (j : Int) < (rv.length : Int) := by omega
      have hl := (HRL.out j).1
      unfold maxLen at hl
      have HS2 := Lib.hid (show (rv.getD j []).length ≤ 8 → ∀ i, i < j + 1 → (rv.getD i []).length ≤ 8 from fun h i hi => by
        by_cases e : i = j
        · rw [e]; exact h
        · exact HS.out i (by omega))
      generalize rv.getD j [] = RJ at *
      by_cases h8 : 8 < RJ.length
      · have e3 : decide ((8 : Int) < (RJ.length : Int)) = true := decide_eq_true (by omega)
        have e4 : decide (8 < RJ.length) = true := decide_eq_true h8
        go_wp2_with fail
        go_ret
        exact ⟨false, rfl, (fun h => by cases h), HB.out⟩
      · have e3 : decide ((8 : Int) < (RJ.length : Int)) = false := decide_eq_false (by omega)
        have e4 : decide (8 < RJ.length) = false := decide_eq_false h8
        have HS3 := Lib.hid (HS2.out (by omega))
        go_wp2_with fail
        go_round
        case rel => exact ⟨j + 1, by go_num, by omega, HS3⟩
        case measure => simp [intOf]; omega
    · obtain rfl : j = rv.length := by omega
      have HLP := Lib.hid (show LightP rv mv from ⟨by omega, by omega, HS.out⟩)
      clear hlt hj
      have e3 : decide ((rv.length : Int) < (rv.length : Int)) = false := by simp
      go_wp2_with fail
      go_ret
      exact ⟨true, rfl, fun _ => HLP.out, HB.out⟩
theorem LightP.all {rv : List (List Int)} {mv : List Int} (h : LightP rv mv) : ∀ i, (rv.getD i []).length ≤ 8 := by
  intro i
  by_cases hi : i < rv.length
  · exact h.2.2 i hi
  · rw [List.getD_eq_getElem?_getD, List.getElem?_eq_none (by omega)]
    exact Nat.zero_le _
end Go.Proofs.YtchokfgffnomoaaDoor.Lx
