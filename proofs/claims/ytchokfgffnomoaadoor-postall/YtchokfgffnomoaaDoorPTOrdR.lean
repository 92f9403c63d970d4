/-
  What the document's order of outcomes tells, as contracts.
-/
import Derived.Test.YtchokfgffnomoaaDoorPTOrd
namespace Go.Proofs.YtchokfgffnomoaaDoor.Lx
open Go.RowKit
open P (ordI ordR ordO)
set_option maxRecDepth 100000
set_option linter.unusedVariables false
set_option linter.unusedSimpArgs false
theorem Ivs.drewN {Q : Nat → Prop} {w : World} {v : Value} {vs : List Int} (h : Ivs Q w v vs) (n : Nat) : Ivs Q (w.drewN n) v vs := h.keep (fun _ _ _ => rfl)
theorem Nms.drewN {Q : Nat → Prop} {w : World} {v : Value} {vs : List (List UInt8)} (h : Nms Q w v vs) (n : Nat) : Nms Q (w.drewN n) v vs := h.keep (fun _ _ _ => rfl)
/-- A number is told, nothing but draws is done. -/
def NumDr (z : Int) (w : World) (e : Ending) (w' : World) : Prop := e = .returned (.int .i64 z) ∧ ∃ n, w' = w.drewN n
set_option maxHeartbeats 3200000 in
theorem rorder_any (xs ys : List Int) (xa ya : Option Addr) (xc yc : Nat) (w : World) (hx : Ivs (fun _ => True) w (.slice xa xs.length xc) xs) (hy : Ivs (fun _ => True) w (.slice ya ys.length yc) ys) (hl : xs.length ≤ 1000) (hl' : ys.length ≤ 1000) :
    Calls Tryd.prog 45 #[.slice xa xs.length xc, .slice ya ys.length yc] w (NumDr (ordI xs ys) w) := by
  have HX := Lib.hid hx
  have HY := Lib.hid hy
  clear hx hy
  generalize hO : ordI xs ys = O at *
  have HO := Lib.hid hO
  clear hO
  go_enter Tryd.func45, Tryd.ntmps45
  go_wp2_with fail
  go_loopw [5] (fun t wr => (∃ j : Nat, t = .int .i64 j ∧ j ≤ xs.length ∧ j ≤ ys.length ∧ EqTo xs ys j) ∧ ∃ n, wr = w.drewN n) (fun t _ => xs.length - (intOf t).toNat)
  case atStart => exact ⟨⟨0, rfl, Nat.zero_le _, Nat.zero_le _, fun i hi => by omega⟩, 0, rfl⟩
  case round =>
    obtain ⟨⟨j, rfl, hj, hj', heq⟩, n, rfl⟩ := hrel
    have HE := Lib.hid heq
    clear heq
    by_cases hlt : j < xs.length
    · have d2 : decide ((j : Int) < (xs.length : Int)) = true := decide_eq_true (by omega)
      have d2' : decide (j < xs.length) = true := decide_eq_true hlt
      by_cases hlt' : j < ys.length
      · obtain ⟨g, off, rfl, hcj⟩ := ivs_at HX.out hlt
        obtain ⟨g', off', rfl, hcj'⟩ := ivs_at HY.out hlt'
        have d1 : (0 : Int) ≤ (j : Int) := by omega
        have d4 : decide ((j : Int) < (ys.length : Int)) = true := decide_eq_true (by omega)
        have d5 : decide (j < ys.length) = true := decide_eq_true hlt'
        have d6 : (j : Int) < (ys.length : Int) := by omega
        have d7 : (j : Int) < (xs.length : Int) := by omega
        have hat := P.ordI_at hlt hlt' HE.out
        have HS := Lib.hid (fun h => EqTo.step (j := j) HE.out h)
        generalize xs.getD j 0 = X at *
        generalize ys.getD j 0 = Y at *
        have HAT := Lib.hid (hat.symm.trans HO.out)
        clear hat
        by_cases h1 : X < Y
        · have e1 : decide (X < Y) = true := decide_eq_true h1
          have HR := Lib.hid (show O = -1 by rw [← HAT.out, if_pos h1])
          clear h1
          go_wp2_with fail
          go_quiet (fail)
          go_wp2_with fail
          go_ret
          exact ⟨by rw [HR.out]; rfl, n + nq, by rw [World.drewN_drewN]⟩
        have e1 : decide (X < Y) = false := decide_eq_false h1
        by_cases h2 : Y < X
        · have e2 : decide (Y < X) = true := decide_eq_true h2
          have HR := Lib.hid (show O = 1 by rw [← HAT.out, if_neg h1, if_pos h2])
          clear h1 h2
          go_wp2_with fail
          go_quiet (fail)
          go_wp2_with fail
          rename_i n1
          rw [World.drewN_drewN]
          go_quiet (fail)
          go_wp2_with fail
          go_ret
          exact ⟨by rw [HR.out]; rfl, _, by first | rfl | rw [World.drewN_drewN]⟩
        · have e2 : decide (Y < X) = false := decide_eq_false h2
          have hXY : X = Y := by omega
          have HS2 := Lib.hid (HS.out hXY)
          clear h1 h2 hXY
          go_wp2_with fail
          go_quiet (fail)
          go_wp2_with fail
          rename_i n1
          rw [World.drewN_drewN]
          go_quiet (fail)
          go_wp2_with fail
          go_roundw
          case rel => exact ⟨⟨j + 1, by go_num, by omega, by omega, HS2.out⟩, _, by first | rfl | rw [World.drewN_drewN]⟩
          case measure => simp [intOf]; omega
      · obtain rfl : j = ys.length := by omega
        have d4 : decide ((ys.length : Int) < (ys.length : Int)) = false := by simp
        have d5 : decide (ys.length < ys.length) = false := by simp
        have HR := Lib.hid (show O = 1 by rw [← HO.out]; exact P.ordI_right hlt rfl HE.out)
        have e1 : decide ((xs.length : Int) < (ys.length : Int)) = false := decide_eq_false (by omega)
        have e2 : decide (xs.length < ys.length) = false := decide_eq_false (by omega)
        clear hlt' hj'
        go_wp2_with fail
        go_ret
        exact ⟨by rw [HR.out]; rfl, n, rfl⟩
    · obtain rfl : j = xs.length := by omega
      have d1 : decide ((xs.length : Int) < (xs.length : Int)) = false := by simp
      have d2 : decide (xs.length < xs.length) = false := by simp
      clear hlt hj
      by_cases hlt' : xs.length < ys.length
      · have d3 : decide ((xs.length : Int) < (ys.length : Int)) = true := decide_eq_true (by omega)
        have d4 : decide (xs.length < ys.length) = true := decide_eq_true (by omega)
        have HR := Lib.hid (show O = -1 by rw [← HO.out]; exact P.ordI_left rfl hlt' HE.out)
        go_wp2_with fail
        go_ret
        exact ⟨by rw [HR.out]; rfl, n, rfl⟩
      · have d3 : decide ((xs.length : Int) < (ys.length : Int)) = false := decide_eq_false (by omega)
        have d4 : decide (xs.length < ys.length) = false := decide_eq_false (by omega)
        have d5 : decide ((ys.length : Int) < (xs.length : Int)) = false := decide_eq_false (by omega)
        have d6 : decide (ys.length < xs.length) = false := decide_eq_false (by omega)
        have HR := Lib.hid (show O = 0 by rw [← HO.out]; exact P.ordI_same rfl (by omega) HE.out)
        clear hlt' hj'
        go_wp2_with fail
        go_ret
        exact ⟨by rw [HR.out]; rfl, n, rfl⟩
section
variable {w : World} {ra ma ra' ma' : Option Addr} {rc mc rc' mc' : Nat} {rv rv' : List (List Int)} {mv mv' : List Int}
set_option maxHeartbeats 6400000 in
theorem rOrder_any (h : OutIn w ra ma rv mv mc) (h' : OutIn w ra' ma' rv' mv' mc') (hs : SmO rv mv) (hs' : SmO rv' mv') :
    Calls Tryd.prog 25 #[.agg #[.slice ra rv.length rc, .slice ma mv.length mc], .agg #[.slice ra' rv'.length rc', .slice ma' mv'.length mc']] w (NumTo (ordO rv mv rv' mv') w) := by
  obtain ⟨hb2, hA, hC⟩ := two_newC w #[.slice ra rv.length rc, .slice ma mv.length mc] #[.slice ra' rv'.length rc', .slice ma' mv'.length mc'] 46 46
  have HB := Lib.hid hb2
  have HRG := Lib.hid (h.low hb2).regs
  have HRG' := Lib.hid (h'.low hb2).regs
  have HM := Lib.hid (fun w' hb => rorder_any mv mv' ma ma' mc mc' w' ((h.low hb2).low hb).mem ((h'.low hb2).low hb).mem hs.m hs'.m)
  have hrl := hs.r
  have hrl' := hs'.r
  have HS := Lib.hid hs.rs
  have HS' := Lib.hid hs'.rs
  have HA := Lib.hid hA
  have HC' := Lib.hid hC
  have HO : Hid (ordO rv mv rv' mv' = if ordR rv rv' = 0 then ordI mv mv' else ordR rv rv') := Lib.hid rfl
  generalize ordO rv mv rv' mv' = O at *
  generalize hZ : ordR rv rv' = Z at *
  generalize ordI mv mv' = Y at *
  have HZ := Lib.hid hZ
  have hwl := hA.lt
  clear h h' hb2 hs hs' hA hC hZ
  go_enter Tryd.func25, Tryd.ntmps25
  go_wp2_with fail
  generalize (w.alloc (.cells #[.slice ra rv.length rc, .slice ma mv.length mc] 46)).alloc (.cells #[.slice ra' rv'.length rc', .slice ma' mv'.length mc'] 46) = W at *
  go_loopw [5] (fun t wr => (∃ j : Nat, t = .int .i64 j ∧ j ≤ rv.length ∧ j ≤ rv'.length ∧ EqToR rv rv' j) ∧ Below W.heap.size W wr) (fun t _ => rv.length - (intOf t).toNat)
  case atStart => exact ⟨⟨0, rfl, Nat.zero_le _, Nat.zero_le _, fun i hi => by omega⟩, Below.refl _ _⟩
  case round =>
    obtain ⟨⟨j, rfl, hj, hj', heq⟩, hbr⟩ := hrel
    have HBR := Lib.hid hbr
    obtain ⟨p0, p1⟩ := two_freeP (HA.out.live' hbr)
    obtain ⟨q0, q1⟩ := two_freeP (HC'.out.live' hbr)
    clear hbr
    have HE := Lib.hid heq
    clear heq
    by_cases hlt : j < rv.length
    · have d2 : decide ((j : Int) < (rv.length : Int)) = true := decide_eq_true (by omega)
      have d2' : decide (j < rv.length) = true := decide_eq_true hlt
      by_cases hlt' : j < rv'.length
      · obtain ⟨g, off, xa, xc, rfl, hcj, hn⟩ := vss_at (HRG.out.low HBR.out) hlt
        obtain ⟨g', off', ya, yc, rfl, hcj', hn'⟩ := vss_at (HRG'.out.low HBR.out) hlt'
        have d1 : (0 : Int) ≤ (j : Int) := by omega
        have d4 : decide ((j : Int) < (rv'.length : Int)) = true := decide_eq_true (by omega)
        have d5 : decide (j < rv'.length) = true := decide_eq_true hlt'
        have d6 : (j : Int) < (rv'.length : Int) := by omega
        have d7 : (j : Int) < (rv.length : Int) := by omega
        have hat := P.ordR_at hlt hlt' HE.out
        have HSS := Lib.hid (fun h => EqToR.step (j := j) HE.out h)
        have h1 := HS.out j
        have h2 := HS'.out j
        generalize rv.getD j [] = X at *
        generalize rv'.getD j [] = Y' at *
        have HC := Lib.hid (show ∀ k, Calls Tryd.prog 45 #[.slice xa X.length xc, .slice ya Y'.length yc] (wr.drewN k) (fun e w' => e = .returned (.int .i64 (ordI X Y')) ∧ ∃ m, w' = wr.drewN m) from fun k => (rorder_any X Y' xa ya xc yc (wr.drewN k) (hn.drewN k) (hn'.drewN k) h1 h2).mono fun e w' ⟨he, m, hm⟩ => ⟨he, k + m, by rw [hm, World.drewN_drewN]⟩)
        have HAT := Lib.hid (hat.symm.trans HZ.out)
        clear hat hn hn' h1 h2
        generalize ordI X Y' = z at *
        by_cases hz : z = 0
        · subst hz
          have HS2 := Lib.hid (HSS.out rfl)
          go_wp2_with fail
          go_quiet ((go_at_call 45; exact HC.out _))
          go_wp2_with fail
          go_roundw
          case rel => exact ⟨⟨j + 1, by go_num, by omega, by omega, HS2.out⟩, HBR.out.trans ((bel_drewN wr _).mono HBR.out.size)⟩
          case measure => simp [intOf]; omega
        · have d8 : (z != 0) = true := by simpa using hz
          have d9 : (z == 0) = false := by simpa using hz
          have HR := Lib.hid (show Z = z by rw [← HAT.out, if_neg hz])
          have HR2 := Lib.hid (show O = z by rw [HO.out, HR.out, if_neg hz])
          clear hz
          go_wp2_with fail
          go_quiet ((go_at_call 45; exact HC.out _))
          go_wp2_with fail
          go_ret
          exact ⟨by rw [HR2.out]; rfl, HB.out.trans ((HBR.out.trans (by first | exact Below.refl _ _ | exact (bel_drewN wr _).mono HBR.out.size)).mono HB.out.size)⟩
      · obtain rfl : j = rv'.length := by omega
        have d4 : decide ((rv'.length : Int) < (rv'.length : Int)) = false := by simp
        have d5 : decide (rv'.length < rv'.length) = false := by simp
        have HR := Lib.hid (show O = 1 by
          have hz : Z = 1 := by rw [← HZ.out]; exact P.ordR_right hlt rfl HE.out
          rw [HO.out, hz]
          rfl)
        have e1 : decide ((rv.length : Int) < (rv'.length : Int)) = false := decide_eq_false (by omega)
        have e2 : decide (rv.length < rv'.length) = false := decide_eq_false (by omega)
        clear hlt' hj'
        go_wp2_with fail
        go_ret
        exact ⟨by rw [HR.out]; rfl, HB.out.trans ((HBR.out.trans (by first | exact Below.refl _ _ | exact (bel_drewN wr _).mono HBR.out.size)).mono HB.out.size)⟩
    · obtain rfl : j = rv.length := by omega
      have d1 : decide ((rv.length : Int) < (rv.length : Int)) = false := by simp
      have d2 : decide (rv.length < rv.length) = false := by simp
      clear hlt hj
      by_cases hlt' : rv.length < rv'.length
      · have d3 : decide ((rv.length : Int) < (rv'.length : Int)) = true := decide_eq_true (by omega)
        have d4 : decide (rv.length < rv'.length) = true := decide_eq_true (by omega)
        have HR := Lib.hid (show O = -1 by
          have hz : Z = -1 := by rw [← HZ.out]; exact P.ordR_left rfl hlt' HE.out
          rw [HO.out, hz]
          rfl)
        go_wp2_with fail
        go_ret
        exact ⟨by rw [HR.out]; rfl, HB.out.trans ((HBR.out.trans (by first | exact Below.refl _ _ | exact (bel_drewN wr _).mono HBR.out.size)).mono HB.out.size)⟩
      · have d3 : decide ((rv.length : Int) < (rv'.length : Int)) = false := decide_eq_false (by omega)
        have d4 : decide (rv.length < rv'.length) = false := decide_eq_false (by omega)
        have d5 : decide ((rv'.length : Int) < (rv.length : Int)) = false := decide_eq_false (by omega)
        have d6 : decide (rv'.length < rv.length) = false := decide_eq_false (by omega)
        have HR := Lib.hid (show O = Y by
          have hz : Z = 0 := by rw [← HZ.out]; exact P.ordR_same rfl (by omega) HE.out
          rw [HO.out, hz, if_pos rfl])
        clear hlt' hj'
        go_wp2_with fail
        with_reducible refine (HM.out wr HBR.out).mono ?_
        rintro e w2 ⟨rfl, n2, rfl⟩
        go_wp2_with fail
        go_ret
        exact ⟨by rw [HR.out]; rfl, HB.out.trans ((HBR.out.trans (by first | exact Below.refl _ _ | exact (bel_drewN wr _).mono HBR.out.size)).mono HB.out.size)⟩
end
end Go.Proofs.YtchokfgffnomoaaDoor.Lx
