/-
  What the document's Holds tells, as a contract.
-/
import Derived.Test.YtchokfgffnomoaaDoorPTHoldR2
import Derived.Test.YtchokfgffnomoaaDoorPTHoldR3
namespace Go.Proofs.YtchokfgffnomoaaDoor.Lx
open Go.RowKit
open P (CO plI hasP hd cdp cdps)
set_option maxRecDepth 100000
set_option linter.unusedVariables false
set_option linter.unusedSimpArgs false
set_option maxHeartbeats 6400000 in
theorem rh_odd {la ga ra ma : Option Addr} {lc gc rc mc : Nat} {locs : List (List UInt8)} {regs : List (List (List UInt8))} {rv : List (List Int)} {mv : List Int} (m : Nat) (w : World) (h : AkIn w la ga ra ma lc mc locs regs rv mv) (v : Value) (o t n : Int) (s : List UInt8) (ks : List CO) (hc : LC (fun _ => True) w v (.mk o t s n ks)) (h1 : o ≠ 1) (h2 : o ≠ 2) (h3 : o ≠ 3) (h4 : o ≠ 4) (h5 : o ≠ 5) :
    Calls Tryd.prog 43 #[v, .slice la locs.length lc, .slice ga regs.length gc, .agg #[.slice ra rv.length rc, .slice ma mv.length mc]] w (HoTo (hd locs regs rv mv (m + 1) (.mk o t s n ks)) w) := by
  rw [P.hd_odd h1 h2 h3 h4 h5]
  unfold LC at hc
  obtain ⟨a, cap, rfl, _, _⟩ := hc
  obtain ⟨hb2, hA, hC⟩ := two_newC w #[.int .i64 o, .int .i64 t, .string (bs s), .int .i64 n, .slice a ks.length cap] #[.slice ra rv.length rc, .slice ma mv.length mc] 26 46
  have HB := Lib.hid hb2
  have e1 : (o == 1) = false := by simpa using h1
  have e2 : (o == 2) = false := by simpa using h2
  have e3 : (o == 3) = false := by simpa using h3
  have e4 : (o == 4) = false := by simpa using h4
  have e5 : (o == 5) = false := by simpa using h5
  clear h h1 h2 h3 h4 h5 hb2 hA hC
  generalize bs s = S at *
  go_enter Tryd.func43, Tryd.ntmps43
  go_wp2_with fail
  go_ret2
  exact ⟨rfl, HB.out⟩
theorem rholds_any {locs : List (List UInt8)} {regs : List (List (List UInt8))} {rv : List (List Int)} {mv : List Int} : ∀ (m : Nat), m ≤ 50 → RhIn locs regs rv mv m
  | 0, _ => fun e w la ga ra ma lc gc rc mc v h hc hdp => by
    obtain ⟨o, t, s, n, ks⟩ := e
    rw [P.cdp] at hdp
    omega
  | m + 1, hm => fun e w la ga ra ma lc gc rc mc v h hc hdp => by
    have IH := rholds_any (locs := locs) (regs := regs) (rv := rv) (mv := mv) m (by omega)
    obtain ⟨o, t, s, n, ks⟩ := e
    rw [P.cdp] at hdp
    have hdp' : cdps ks ≤ m := by omega
    by_cases h1 : o = 1
    · subst h1
      rw [P.hd_one rfl]
      exact rh_one w h v t n s ks hc
    by_cases h2 : o = 2
    · subst h2
      rw [P.hd_two rfl]
      exact rh_two w h v t n s ks hc
    by_cases h3 : o = 3
    · subst h3
      exact rh_not m IH w h v t n s ks hc hdp'
    by_cases h4 : o = 4
    · subst h4
      exact rh_and m IH w h v t n s ks hc hdp'
    by_cases h5 : o = 5
    · subst h5
      exact rh_or m IH w h v t n s ks hc hdp'
    exact rh_odd m w h v o t n s ks hc h1 h2 h3 h4 h5
set_option maxHeartbeats 3200000 in
theorem rHolds_any {la ga ra ma : Option Addr} {lc gc rc mc : Nat} {locs : List (List UInt8)} {regs : List (List (List UInt8))} {rv : List (List Int)} {mv : List Int} (e : CO) (w : World) (v : Value) (h : AkIn w la ga ra ma lc mc locs regs rv mv) (hc : LC (fun _ => True) w v e) (hdm : cdp e ≤ 1000) :
    Calls Tryd.prog 23 #[v, .slice la locs.length lc, .slice ga regs.length gc, .agg #[.slice ra rv.length rc, .slice ma mv.length mc]] w (HoTo (hd locs regs rv mv 6 e) w) := by
  have HD := Lib.hid (fun w' (hb : Below w.heap.size w w') => rdeepC_any (cdp e) e hdm (Nat.le_refl _) v w' (hc.low hb))
  have HH := Lib.hid (fun (hd6 : cdp e ≤ 6) w' (hb : Below w.heap.size w w') => rholds_any 6 (by decide) e w' la ga ra ma lc gc rc mc v (h.low hb) (hc.low hb) hd6)
  obtain ⟨o, t, s, n, ks⟩ := e
  have hc0 := hc
  unfold LC at hc0
  obtain ⟨a, cap, rfl, _, _⟩ := hc0
  obtain ⟨hb2, hA, hC⟩ := two_newC w #[.int .i64 o, .int .i64 t, .string (bs s), .int .i64 n, .slice a ks.length cap] #[.slice ra rv.length rc, .slice ma mv.length mc] 26 46
  have HB := Lib.hid hb2
  have HA := Lib.hid hA
  have HC := Lib.hid hC
  by_cases h6 : 6 < cdp (.mk o t s n ks)
  · rw [P.hd_deep 6 _ h6]
    generalize cdp (.mk o t s n ks) = D at *
    have d1 : decide ((6 : Int) < (D : Int)) = true := decide_eq_true (by omega)
    have d2 : decide (6 < D) = true := decide_eq_true h6
    clear hc h hb2 hA hC h6
    generalize bs s = S at *
    go_enter Tryd.func23, Tryd.ntmps23
    go_wp2_with fail
    with_reducible refine (HD.out _ HB.out).mono ?_
    rintro e w3 ⟨rfl, hb3⟩
    go_wp2_with fail
    go_ret2
    exact ⟨rfl, HB.out.trans (hb3.mono HB.out.size)⟩
  · have HH2 := Lib.hid (HH.out (by omega))
    generalize cdp (.mk o t s n ks) = D at *
    have d1 : decide ((6 : Int) < (D : Int)) = false := decide_eq_false (by omega)
    have d2 : decide (6 < D) = false := decide_eq_false h6
    generalize hd locs regs rv mv 6 (.mk o t s n ks) = R at *
    clear hc h hb2 hA hC h6 HH
    generalize bs s = S at *
    cases R
    all_goals
      go_enter Tryd.func23, Tryd.ntmps23
      go_wp2_with fail
      with_reducible refine (HD.out _ HB.out).mono ?_
      rintro e w3 ⟨rfl, hb3⟩
      obtain ⟨q0, q1, q2, q3, q4⟩ := five_freeC (HA.out.live' hb3)
      obtain ⟨p0, p1⟩ := two_freeP (HC.out.live' hb3)
      have HB3 := Lib.hid (HB.out.trans (hb3.mono HB.out.size))
      clear hb3
      go_wp2_with fail
      with_reducible refine (HH2.out w3 HB3.out).mono ?_
      rintro e w4 ⟨rfl, hb4⟩
      unfold holdR
      go_wp2_with fail
      go_ret2
      exact ⟨rfl, HB3.out.trans (hb4.mono HB3.out.size)⟩
end Go.Proofs.YtchokfgffnomoaaDoor.Lx
