/-
  What eval.Expr and eval.True tell of any expression, any registers, any number of values, as contracts.
-/
import Derived.Test.YtlgnagmmljdkiacEVal2

namespace Go.Proofs.Ytlgnagmmljdkiac.Lx
open Go.RowKit
open P (EX ev ev2 plI jn evA askD askDs szX szL)
set_option maxRecDepth 100000
set_option linter.unusedVariables false
set_option linter.unusedSimpArgs false

/-- Registers and values as they came in. -/
structure RvIn (w : World) (ar av : Option Addr) (cr cv : Nat) (rs : List (List UInt8)) (vs : List Int) : Prop where
  nms : Nms (fun _ => True) w (.slice ar rs.length cr) rs
  ivs : Ivs (fun _ => True) w (.slice av vs.length cv) vs
  maxr : rs.length ≤ 1000
  maxv : vs.length ≤ 1000
  i64 : ∀ i, W64 (vs.getD i 0)
theorem RvIn.below {w w' : World} {ar av : Option Addr} {cr cv : Nat} {rs : List (List UInt8)} {vs : List Int} (h : RvIn w ar av cr cv rs vs) (hb : Below w.heap.size w w') : RvIn w' ar av cr cv rs vs :=
  ⟨h.nms.keep (Keeps.below hb (Nat.le_refl _)), h.ivs.keep (Keeps.below hb (Nat.le_refl _)), h.maxr, h.maxv, h.i64⟩
theorem RvIn.evIn {w : World} {ar av : Option Addr} {cr cv : Nat} {rs : List (List UInt8)} {vs : List Int} {n : Int} (h : RvIn w ar av cr cv rs vs) (hl : vs.length = rs.length) (h2 : 2 ≤ n) (h4 : n ≤ 4) : EvIn w ar av cr cv rs vs n := ⟨h.nms, h.ivs, hl, h.maxr, h.i64, h2, h4⟩
theorem one_below (w : World) (o : Obj) : Below w.heap.size w (w.alloc o) := (Below.refl _ _).alloc (Nat.le_refl _) _
theorem lens_ne {a b : Nat} (h : b ≠ a) : ((a : Int) != (b : Int)) = true ∧ ((a : Int) == (b : Int)) = false ∧ (a == b) = false ∧ (a != b) = true := by
  refine ⟨by simp; omega, by simp; omega, by simp; omega, by simp; omega⟩
theorem lens_eq {a b : Nat} (h : b = a) : ((a : Int) != (b : Int)) = false ∧ ((a : Int) == (b : Int)) = true ∧ (a == b) = true ∧ (a != b) = false := by
  subst h
  refine ⟨by simp, by simp, by simp, by simp⟩
theorem evA_yes {rs : List (List UInt8)} {vs : List Int} {n : Int} (e : EX) (h : 2 ≤ n ∧ n ≤ 4 ∧ vs.length = rs.length) : evA rs vs n e = ev rs vs n 6 e := by unfold P.evA; rw [if_pos h]
theorem evA_no {rs : List (List UInt8)} {vs : List Int} {n : Int} (e : EX) (h : ¬ (2 ≤ n ∧ n ≤ 4 ∧ vs.length = rs.length)) : evA rs vs n e = none := by unfold P.evA; rw [if_neg h]

set_option maxHeartbeats 3200000 in
theorem evalExpr_any {w : World} {ar av : Option Addr} {cr cv : Nat} {rs : List (List UInt8)} {vs : List Int} (h : RvIn w ar av cr cv rs vs) (n : Int) (e : EX) (v : Value) (hv : LX (fun _ => True) w v e) (hw : wfX e) :
    Calls Try.prog 7 #[v, .slice ar rs.length cr, .slice av vs.length cv, .int .i64 n] w (EvTo (evA rs vs n e) w) := by
  obtain ⟨op, k, s, ks⟩ := e
  have hv0 := hv
  unfold LX at hv0
  obtain ⟨a, cap, rfl, _, _⟩ := hv0
  have hb := one_below w (.cells #[.int .i64 op, .int .i64 k, .string (bs s), .slice a ks.length cap] 27)
  have HB := Lib.hid hb
  by_cases h2 : n < 2
  · rw [evA_no _ (by omega)]
    clear h hv hw hb
    generalize bs s = S at *
    go_enter Try.func7, Try.ntmps7
    go_wp2_with fail
    go_ret2
    exact ⟨rfl, HB.out⟩
  by_cases h4 : 4 < n
  · rw [evA_no _ (by omega)]
    clear h hv hw hb
    generalize bs s = S at *
    go_enter Try.func7, Try.ntmps7
    go_wp2_with fail
    go_ret2
    exact ⟨rfl, HB.out⟩
  by_cases hl : vs.length = rs.length
  · rw [evA_yes _ ⟨by omega, by omega, hl⟩]
    obtain ⟨t1, t2, t3, t4⟩ := lens_eq hl
    have hA := evexpr_any 6 (by omega) _ _ ar av cr cv _ ((h.below hb).evIn hl (n := n) (by omega) (by omega)) (hv.low hb) hw
    rw [show ((6 : Nat) : Int) = 6 from rfl] at hA
    have HA := Lib.hid hA
    clear h hv hw hb hl hA
    generalize ev rs vs n 6 (.mk op k s ks) = R at *
    generalize bs s = S at *
    go_enter Try.func7, Try.ntmps7
    go_wp2_with fail
    with_reducible refine HA.out.mono ?_
    rintro e w2 ⟨rfl, hb2⟩
    unfold evR
    go_wp2_with fail
    go_ret2
    exact ⟨rfl, HB.out.trans (hb2.mono HB.out.size)⟩
  · rw [evA_no _ (fun hh => hl hh.2.2)]
    obtain ⟨t1, t2, t3, t4⟩ := lens_ne hl
    clear h hv hw hb hl
    generalize bs s = S at *
    go_enter Try.func7, Try.ntmps7
    go_wp2_with fail
    go_ret2
    exact ⟨rfl, HB.out⟩

def evT (r : Option Int) : Value := .tuple #[.bool (r.getD 0 != 0), .bool r.isSome]
set_option maxHeartbeats 1600000 in
theorem evalTrue_any {w : World} {ar av : Option Addr} {cr cv : Nat} {rs : List (List UInt8)} {vs : List Int} (h : RvIn w ar av cr cv rs vs) (n : Int) (e : EX) (v : Value) (hv : LX (fun _ => True) w v e) (hw : wfX e) :
    Calls Try.prog 8 #[v, .slice ar rs.length cr, .slice av vs.length cv, .int .i64 n] w (fun e' w' => e' = .returned (evT (evA rs vs n e)) ∧ Below w.heap.size w w') := by
  obtain ⟨op, k, s, ks⟩ := e
  have hv0 := hv
  unfold LX at hv0
  obtain ⟨a, cap, rfl, _, _⟩ := hv0
  have hb := one_below w (.cells #[.int .i64 op, .int .i64 k, .string (bs s), .slice a ks.length cap] 27)
  have HB := Lib.hid hb
  have HA := Lib.hid (evalExpr_any (h.below hb) n _ _ (hv.low hb) hw)
  clear h hv hw hb
  generalize evA rs vs n (.mk op k s ks) = R at *
  generalize bs s = S at *
  unfold EvTo evR at HA
  unfold evT
  generalize R.getD 0 = X at *
  generalize R.isSome = Y at *
  cases hx : (X != 0)
  all_goals
    go_enter Try.func8, Try.ntmps8
    go_wp2_with fail
    with_reducible refine HA.out.mono ?_
    rintro e w2 ⟨rfl, hb2⟩
    go_wp2_with fail
    go_ret2
    exact ⟨rfl, HB.out.trans (hb2.mono HB.out.size)⟩
end Go.Proofs.Ytlgnagmmljdkiac.Lx
