/-
  EvalAll's walk: for every expression, names, values and number of values the call returns true.
-/
import Derived.Test.YtlgnagmmljdkiabEVBegun

namespace Go.Proofs.Ytlgnagmmljdkiab.Lx
open Go.RowKit
open P (EX ev ev2 plI jn evA askD askDs szX szL)
set_option maxRecDepth 100000
set_option linter.unusedVariables false
set_option linter.unusedSimpArgs false


set_option maxHeartbeats 12800000 in
theorem evalall_walk (v : Value) (ar : Option Addr) (lr cr : Nat) (av : Option Addr) (lv cv : Nat) (n : Int) (w : World) (he : ∃ e, LX (fun _ => True) w v e ∧ wfX e) (hr : ∃ rs, Nms (fun _ => True) w (.slice ar lr cr) rs ∧ rs.length ≤ maxLen) (hi : ∃ vs, Ivs (fun _ => True) w (.slice av lv cv) vs ∧ vs.length ≤ maxLen ∧ ∀ i, W64 (vs.getD i 0)) (hn : (Lit.int .i64 n).wf = true) :
    Calls Try.prog 7 #[v, .slice ar lr cr, .slice av lv cv, .int .i64 n] w fun e w' => e = .returned (.bool true) ∧ Below w.heap.size w w' := by
  obtain ⟨⟨op, k, s, ks⟩, hv, hw⟩ := he
  obtain ⟨rs, hnm, hrl⟩ := hr
  obtain ⟨vs, hiv, hvl, h64⟩ := hi
  have hnm0 := hnm
  have hiv0 := hiv
  obtain ⟨a', c', he1, _⟩ := hnm0
  obtain ⟨a'', c'', he2, _⟩ := hiv0
  injection he1 with e1 e2 e3
  subst e1 e2 e3
  injection he2 with e1 e2 e3
  subst e1 e2 e3
  unfold maxLen at hrl hvl
  have hv0 := hv
  unfold LX at hv0
  obtain ⟨a, cap, rfl, _, _⟩ := hv0
  have hb := one_below w (.cells #[.int .i64 op, .int .i64 k, .string (bs s), .slice a ks.length cap] 47)
  have HB := Lib.hid hb
  have HQ := Lib.hid (Blk.new w 47 #[.int .i64 op, .int .i64 k, .string (bs s), .slice a ks.length cap])
  have HV := Lib.hid hv
  have HW := Lib.hid hw
  have HN := Lib.hid hnm
  have HI := Lib.hid hiv
  have H64 := Lib.hid h64
  have HS := Lib.hid (fun w' (hb' : Below w.heap.size w w') => size_any 13 0 (.mk op k s ks) (by omega) (by omega) 0 _ w' rfl (hv.low hb') hw)
  have HSZ := Lib.hid (P.ask_le 13 0 (.mk op k s ks) rfl)
  clear hv hw hnm hiv h64 hb
  generalize hE : EX.mk op k s ks = E at *
  have HEe := Lib.hid hE
  clear hE
  generalize bs s = S at *
  go_enter Try.func7, Try.ntmps7
  go_wp2_with fail
  generalize hW : w.alloc (.cells #[.int .i64 op, .int .i64 k, .string S, .slice a ks.length cap] 47) = W at *
  clear hW
  with_reducible refine (begun10_any W).mono ?_
  rintro e w1 ⟨rfl, hb1⟩
  have HB1 := Lib.hid (HB.out.trans (hb1.mono HB.out.size))
  obtain ⟨s0, s1, s2, s3, _, _, _, _⟩ := four_free (HQ.out.live' hb1)
  have HQ1 := Lib.hid (HQ.out.live' hb1)
  have HSA := Lib.hid (HS.out w1 HB1.out)
  clear hb1 HS HB HQ
  go_wp2_with fail
  with_reducible refine HSA.out.mono ?_
  rintro e w2 ⟨rfl, hb2⟩
  have HB2 := Lib.hid (HB1.out.trans (hb2.mono HB1.out.size))
  have HQ2 := Lib.hid (HQ1.out.live' hb2)
  clear s0 s1 s2 s3 hb2 HSA HQ1 HB1
  generalize hZ : szX 0 E = Z at *
  clear hZ
  by_cases hz : 300 < Z
  · have d1 : decide ((300 : Int) < (Z : Int)) = true := decide_eq_true (by omega)
    have d2 : decide (300 < Z) = true := decide_eq_true (by omega)
    go_wp2_with fail
    go_ret
    exact ⟨rfl, HB2.out⟩
  have d1 : decide ((300 : Int) < (Z : Int)) = false := decide_eq_false (by omega)
  have d2 : decide (300 < Z) = false := decide_eq_false (by omega)
  have HD := Lib.hid (HSZ.out (by omega))
  by_cases hr8 : 8 < rs.length
  · have d3 : decide ((8 : Int) < (rs.length : Int)) = true := decide_eq_true (by omega)
    have d4 : decide (8 < rs.length) = true := decide_eq_true (by omega)
    go_wp2_with fail
    go_ret
    exact ⟨rfl, HB2.out⟩
  have d3 : decide ((8 : Int) < (rs.length : Int)) = false := decide_eq_false (by omega)
  have d4 : decide (8 < rs.length) = false := decide_eq_false (by omega)
  by_cases hv8 : 8 < vs.length
  · have d5 : decide ((8 : Int) < (vs.length : Int)) = true := decide_eq_true (by omega)
    have d6 : decide (8 < vs.length) = true := decide_eq_true (by omega)
    go_wp2_with fail
    go_ret
    exact ⟨rfl, HB2.out⟩
  have d5 : decide ((8 : Int) < (vs.length : Int)) = false := decide_eq_false (by omega)
  have d6 : decide (8 < vs.length) = false := decide_eq_false (by omega)
  have HRV := Lib.hid (show ∀ w', Below w.heap.size w w' → RvIn w' ar av cr cv rs vs from fun w' hb => ⟨HN.out.keep (Keeps.below hb (Nat.le_refl _)), HI.out.keep (Keeps.below hb (Nat.le_refl _)), by omega, by omega, H64.out⟩)
  go_wp2_with fail
  go_loop [9] (fun t => ∃ j : Nat, t = .int .i64 j ∧ j ≤ rs.length) (fun t => rs.length - (intOf t).toNat)
  case atStart => exact ⟨0, rfl, Nat.zero_le _⟩
  case round =>
    obtain ⟨j, rfl, hj⟩ := hrel
    by_cases hlt : j < rs.length
    · obtain ⟨g, off, hg, _, hcell⟩ : ∃ g off, ar = some ⟨g, off, none⟩ ∧ True ∧ ∀ i, i < rs.length → w2.cell? ⟨g, off + i, none⟩ = some (.string (bs (rs.getD i []))) := by
        obtain ⟨a', c', he, h0⟩ := (HRV.out w2 HB2.out).nms
        injection he with h1 h2 h3
        subst h1
        rcases h0 with h0 | h0
        · rw [h0] at hlt
          simp at hlt
        · exact h0
      subst hg
      have hcj := hcell j hlt
      have e1 : (0 : Int) ≤ (j : Int) := by omega
      have e2 : (j : Int) < (rs.length : Int) := by omega
      clear hcell
      generalize bs (rs.getD j []) = X at *
      by_cases h40 : 40 < X.size
      · have e3 : decide ((40 : Int) < (X.size : Int)) = true := decide_eq_true (by omega)
        have e4 : decide (40 < X.size) = true := decide_eq_true (by omega)
        go_wp2_with fail
        go_ret
        exact ⟨rfl, HB2.out⟩
      · have e3 : decide ((40 : Int) < (X.size : Int)) = false := decide_eq_false (by omega)
        have e4 : decide (40 < X.size) = false := decide_eq_false (by omega)
        go_wp2_with fail
        go_round
        case rel => exact ⟨j + 1, by go_num, by omega⟩
        case measure => simp [intOf]; omega
    · obtain rfl : j = rs.length := by omega
      clear hlt hj
      have HL2 := Lib.hid (show LX (fun _ => True) w2 (.agg #[.int .i64 op, .int .i64 k, .string S, .slice a ks.length cap]) E from HV.out.low HB2.out)
      obtain ⟨s0, s1, s2, s3, _, _, _, _⟩ := four_free HQ2.out
      have HA := Lib.hid (evalExpr_any (HRV.out w2 HB2.out) n E _ HL2.out HW.out)
      cases hev : evA rs vs n E with
      | none =>
        rw [hev] at HA
        have hev0 := hev
        have HEV := Lib.hid hev0
        clear hev hev0
        unfold EvTo evR at HA
        go_wp2_with fail
        with_reducible refine HA.out.mono ?_
        rintro e w3 ⟨rfl, hb3⟩
        have HB3 := Lib.hid (HB2.out.trans (hb3.mono HB2.out.size))
        have HQ3 := Lib.hid (HQ2.out.live' hb3)
        have HL3 := Lib.hid (HL2.out.low hb3)
        clear s0 s1 s2 s3 hb3 HA
        obtain ⟨s0, s1, s2, s3, _, _, _, _⟩ := four_free HQ3.out
        have hA := rExpr_any (HRV.out w3 HB3.out) n E _ HL3.out HW.out (by have := HD.out; omega)
        rw [HEV.out] at hA
        have HA := Lib.hid hA
        clear hA
        unfold EvTo evR at HA
        go_wp2_with fail
        with_reducible refine HA.out.mono ?_
        rintro e w4 ⟨rfl, hb4⟩
        have HB4 := Lib.hid (HB3.out.trans (hb4.mono HB3.out.size))
        have HQ4 := Lib.hid (HQ3.out.live' hb4)
        have HL4 := Lib.hid (HL3.out.low hb4)
        clear s0 s1 s2 s3 hb4 HA
        obtain ⟨s0, s1, s2, s3, _, _, _, _⟩ := four_free HQ4.out
        have hA := evalTrue_any (HRV.out w4 HB4.out) n E _ HL4.out HW.out
        rw [HEV.out] at hA
        have HA := Lib.hid hA
        clear hA
        unfold evT at HA
        go_wp2_with fail
        with_reducible refine HA.out.mono ?_
        rintro e w5 ⟨rfl, hb5⟩
        have HB5 := Lib.hid (HB4.out.trans (hb5.mono HB4.out.size))
        clear s0 s1 s2 s3 hb5 HA
        go_wp2_with fail
        go_ret
        exact ⟨rfl, HB5.out⟩
      | some x =>
        rw [hev] at HA
        have hev0 := hev
        have HEV := Lib.hid hev0
        clear hev hev0
        unfold EvTo evR at HA
        have HX : Hid ((some x).getD 0 = x) := Lib.hid rfl
        go_wp2_with fail
        with_reducible refine HA.out.mono ?_
        rintro e w3 ⟨rfl, hb3⟩
        have HB3 := Lib.hid (HB2.out.trans (hb3.mono HB2.out.size))
        have HQ3 := Lib.hid (HQ2.out.live' hb3)
        have HL3 := Lib.hid (HL2.out.low hb3)
        clear s0 s1 s2 s3 hb3 HA
        obtain ⟨s0, s1, s2, s3, _, _, _, _⟩ := four_free HQ3.out
        have hA := rExpr_any (HRV.out w3 HB3.out) n E _ HL3.out HW.out (by have := HD.out; omega)
        rw [HEV.out] at hA
        have HA := Lib.hid hA
        clear hA
        unfold EvTo evR at HA
        go_wp2_with fail
        with_reducible refine HA.out.mono ?_
        rintro e w4 ⟨rfl, hb4⟩
        have HB4 := Lib.hid (HB3.out.trans (hb4.mono HB3.out.size))
        have HQ4 := Lib.hid (HQ3.out.live' hb4)
        have HL4 := Lib.hid (HL3.out.low hb4)
        clear s0 s1 s2 s3 hb4 HA
        obtain ⟨s0, s1, s2, s3, _, _, _, _⟩ := four_free HQ4.out
        have hA := evalTrue_any (HRV.out w4 HB4.out) n E _ HL4.out HW.out
        rw [HEV.out] at hA
        have HA := Lib.hid hA
        clear hA
        unfold evT at HA
        cases hx0 : (x != 0)
        all_goals
          have hA := HA.out
          rw [show (some x).getD 0 = x from rfl, hx0] at hA
          have HA2 := Lib.hid hA
          clear hA
          go_wp2_with fail
          with_reducible refine HA2.out.mono ?_
          rintro e w5 ⟨rfl, hb5⟩
          have HB5 := Lib.hid (HB4.out.trans (hb5.mono HB4.out.size))
          clear s0 s1 s2 s3 hb5
          go_wp2_with fail
          go_ret
          exact ⟨rfl, HB5.out⟩
end Go.Proofs.Ytlgnagmmljdkiab.Lx
