/-
  What Same and Less of post tell, and what they stand on, as contracts.
-/
import Derived.Test.YtchokfgffnomoaaDoorPTHold
namespace Go.Proofs.YtchokfgffnomoaaDoor.Lx
open Go.RowKit
open P (ordI ordR ordO)
set_option maxRecDepth 100000
set_option linter.unusedVariables false
set_option linter.unusedSimpArgs false
/-- A number is told, nothing turns. -/
def NumIs (z : Int) (w : World) (e : Ending) (w' : World) : Prop := e = .returned (.int .i64 z) ∧ w = w'
def cmpZ (x y : Int) : Int := if x < y then -1 else if y < x then 1 else 0
set_option maxHeartbeats 800000 in
theorem isNaN_any (x : Int) (w : World) : Calls Tryd.prog 92 #[.int .i64 x] w (fun e w' => e = .returned (.bool false) ∧ w = w') := by
  have d1 : (x != x) = false := by simp
  go_enter Tryd.func92, Tryd.ntmps92
  go_wp2_with fail
  go_ret
  exact ⟨rfl, rfl⟩
set_option maxHeartbeats 1600000 in
theorem cmpInt_any (x y : Int) (w : World) : Calls Tryd.prog 81 #[.int .i64 x, .int .i64 y] w (NumIs (cmpZ x y) w) := by
  by_cases h1 : x < y
  · have d1 : decide (x < y) = true := decide_eq_true h1
    have hv : cmpZ x y = -1 := by
      unfold cmpZ
      rw [if_pos h1]
    rw [hv]
    clear hv h1
    go_enter Tryd.func81, Tryd.ntmps81
    go_wp2_with fail
    with_reducible refine (isNaN_any _ _).mono ?_
    rintro e w2 ⟨rfl, rfl⟩
    go_wp2_with fail
    with_reducible refine (isNaN_any _ _).mono ?_
    rintro e w2 ⟨rfl, rfl⟩
    go_wp2_with fail
    go_ret
    exact ⟨rfl, rfl⟩
  have d1 : decide (x < y) = false := decide_eq_false h1
  by_cases h2 : y < x
  · have d2 : decide (y < x) = true := decide_eq_true h2
    have hv : cmpZ x y = 1 := by
      unfold cmpZ
      rw [if_neg h1, if_pos h2]
    rw [hv]
    clear hv h1 h2
    go_enter Tryd.func81, Tryd.ntmps81
    go_wp2_with fail
    with_reducible refine (isNaN_any _ _).mono ?_
    rintro e w2 ⟨rfl, rfl⟩
    go_wp2_with fail
    with_reducible refine (isNaN_any _ _).mono ?_
    rintro e w2 ⟨rfl, rfl⟩
    go_wp2_with fail
    go_ret
    exact ⟨rfl, rfl⟩
  · have d2 : decide (y < x) = false := decide_eq_false h2
    have hv : cmpZ x y = 0 := by
      unfold cmpZ
      rw [if_neg h1, if_neg h2]
    rw [hv]
    clear hv h1 h2
    go_enter Tryd.func81, Tryd.ntmps81
    go_wp2_with fail
    with_reducible refine (isNaN_any _ _).mono ?_
    rintro e w2 ⟨rfl, rfl⟩
    go_wp2_with fail
    with_reducible refine (isNaN_any _ _).mono ?_
    rintro e w2 ⟨rfl, rfl⟩
    go_wp2_with fail
    go_ret
    exact ⟨rfl, rfl⟩
/-- So far two lists are alike. -/
def EqTo (xs ys : List Int) (j : Nat) : Prop := ∀ i, i < j → xs.getD i 0 = ys.getD i 0
theorem EqTo.step {xs ys : List Int} {j : Nat} (h : EqTo xs ys j) (hj : xs.getD j 0 = ys.getD j 0) : EqTo xs ys (j + 1) := fun i hi => by
  by_cases e : i = j
  · rw [e]
    exact hj
  · exact h i (by omega)
set_option maxHeartbeats 3200000 in
theorem scompare_any (xs ys : List Int) (xa ya : Option Addr) (xc yc : Nat) (w : World) (hx : Ivs (fun _ => True) w (.slice xa xs.length xc) xs) (hy : Ivs (fun _ => True) w (.slice ya ys.length yc) ys) (hl : xs.length ≤ 1000) (hl' : ys.length ≤ 1000) :
    Calls Tryd.prog 60 #[.slice xa xs.length xc, .slice ya ys.length yc] w (NumIs (ordI xs ys) w) := by
  have HX := Lib.hid hx
  have HY := Lib.hid hy
  clear hx hy
  generalize hO : ordI xs ys = O at *
  have HO := Lib.hid hO
  clear hO
  go_enter Tryd.func60, Tryd.ntmps60
  go_wp2_with fail
  go_loop [11] (fun t => ∃ j : Nat, t = .int .i64 j ∧ j ≤ xs.length ∧ j ≤ ys.length ∧ EqTo xs ys j) (fun t => xs.length - (intOf t).toNat)
  case atStart => exact ⟨0, rfl, Nat.zero_le _, Nat.zero_le _, fun i hi => by omega⟩
  case round =>
    obtain ⟨j, rfl, hj, hj', heq⟩ := hrel
    have HE := Lib.hid heq
    clear heq
    by_cases hlt : j < xs.length
    · obtain ⟨g, off, rfl, hcj⟩ := ivs_at HX.out hlt
      have d1 : (0 : Int) ≤ (j : Int) := by omega
      have d2 : (j : Int) < (xs.length : Int) := by omega
      by_cases hlt' : j < ys.length
      · obtain ⟨g', off', rfl, hcj'⟩ := ivs_at HY.out hlt'
        have d3 : (j : Int) < (ys.length : Int) := by omega
        have d4 : decide ((ys.length : Int) ≤ (j : Int)) = false := decide_eq_false (by omega)
        have d5 : decide (ys.length ≤ j) = false := decide_eq_false (by omega)
        have hat := P.ordI_at hlt hlt' HE.out
        have HS := Lib.hid (fun h => EqTo.step (j := j) HE.out h)
        generalize xs.getD j 0 = X at *
        generalize ys.getD j 0 = Y at *
        have HAT := Lib.hid (hat.symm.trans HO.out)
        clear hat
        go_wp2_with fail
        with_reducible refine (cmpInt_any X Y _).mono ?_
        rintro e w2 ⟨rfl, rfl⟩
        by_cases h1 : X < Y
        · have hv : cmpZ X Y = -1 := by
            unfold cmpZ
            rw [if_pos h1]
          have HR := Lib.hid (show O = -1 by rw [← HAT.out, if_pos h1])
          rw [hv]
          clear hv h1
          go_wp2_with fail
          go_ret
          exact ⟨by rw [HR.out]; rfl, rfl⟩
        by_cases h2 : Y < X
        · have hv : cmpZ X Y = 1 := by
            unfold cmpZ
            rw [if_neg h1, if_pos h2]
          have HR := Lib.hid (show O = 1 by rw [← HAT.out, if_neg h1, if_pos h2])
          rw [hv]
          clear hv h1 h2
          go_wp2_with fail
          go_ret
          exact ⟨by rw [HR.out]; rfl, rfl⟩
        · have hv : cmpZ X Y = 0 := by
            unfold cmpZ
            rw [if_neg h1, if_neg h2]
          have hXY : X = Y := by omega
          have HS2 := Lib.hid (HS.out hXY)
          rw [hv]
          clear hv h1 h2 hXY
          go_wp2_with fail
          go_round
          case rel => exact ⟨j + 1, by go_num, by omega, by omega, HS2.out⟩
          case measure => simp [intOf]; omega
      · obtain rfl : j = ys.length := by omega
        have d4 : decide ((ys.length : Int) ≤ (ys.length : Int)) = true := by simp
        have d5 : decide (ys.length ≤ ys.length) = true := by simp
        have HR := Lib.hid (show O = 1 by rw [← HO.out]; exact P.ordI_right hlt rfl HE.out)
        clear hlt'
        go_wp2_with fail
        go_ret
        exact ⟨by rw [HR.out]; rfl, rfl⟩
    · obtain rfl : j = xs.length := by omega
      have d1 : decide ((xs.length : Int) < (xs.length : Int)) = false := by simp
      clear hlt hj
      by_cases hlt' : xs.length < ys.length
      · have d3 : decide ((xs.length : Int) < (ys.length : Int)) = true := decide_eq_true (by omega)
        have d4 : decide (xs.length < ys.length) = true := decide_eq_true (by omega)
        have HR := Lib.hid (show O = -1 by rw [← HO.out]; exact P.ordI_left rfl hlt' HE.out)
        go_wp2_with fail
        go_ret
        exact ⟨by rw [HR.out]; rfl, rfl⟩
      · have d3 : decide ((xs.length : Int) < (ys.length : Int)) = false := decide_eq_false (by omega)
        have d4 : decide (xs.length < ys.length) = false := decide_eq_false (by omega)
        have HR := Lib.hid (show O = 0 by rw [← HO.out]; exact P.ordI_same rfl (by omega) HE.out)
        go_wp2_with fail
        go_ret
        exact ⟨by rw [HR.out]; rfl, rfl⟩
def EqToR (xs ys : List (List Int)) (j : Nat) : Prop := ∀ i, i < j → ordI (xs.getD i []) (ys.getD i []) = 0
theorem EqToR.step {xs ys : List (List Int)} {j : Nat} (h : EqToR xs ys j) (hj : ordI (xs.getD j []) (ys.getD j []) = 0) : EqToR xs ys (j + 1) := fun i hi => by
  by_cases e : i = j
  · rw [e]
    exact hj
  · exact h i (by omega)
set_option maxHeartbeats 3200000 in
theorem scompareF_any (xs ys : List (List Int)) (xa ya : Option Addr) (xc yc : Nat) (w : World) (hx : VssA w xa xs) (hy : VssA w ya ys) (hl : xs.length ≤ 1000) (hl' : ys.length ≤ 1000) (hs : ∀ i, (xs.getD i []).length ≤ 1000) (hs' : ∀ i, (ys.getD i []).length ≤ 1000) :
    Calls Tryd.prog 59 #[.slice xa xs.length xc, .slice ya ys.length yc, .func (.func 60) #[] #[]] w (NumIs (ordR xs ys) w) := by
  have HX := Lib.hid hx
  have HY := Lib.hid hy
  have HL := Lib.hid hs
  have HL' := Lib.hid hs'
  clear hx hy hs hs'
  generalize hO : ordR xs ys = O at *
  have HO := Lib.hid hO
  clear hO
  go_enter Tryd.func59, Tryd.ntmps59
  go_wp2_with fail
  go_loop [13] (fun t => ∃ j : Nat, t = .int .i64 j ∧ j ≤ xs.length ∧ j ≤ ys.length ∧ EqToR xs ys j) (fun t => xs.length - (intOf t).toNat)
  case atStart => exact ⟨0, rfl, Nat.zero_le _, Nat.zero_le _, fun i hi => by omega⟩
  case round =>
    obtain ⟨j, rfl, hj, hj', heq⟩ := hrel
    have HE := Lib.hid heq
    clear heq
    by_cases hlt : j < xs.length
    · obtain ⟨g, off, ra, rc, rfl, hcj, hn⟩ := vss_at HX.out hlt
      have d1 : (0 : Int) ≤ (j : Int) := by omega
      have d2 : (j : Int) < (xs.length : Int) := by omega
      by_cases hlt' : j < ys.length
      · obtain ⟨g', off', ra', rc', rfl, hcj', hn'⟩ := vss_at HY.out hlt'
        have d3 : (j : Int) < (ys.length : Int) := by omega
        have d4 : decide ((ys.length : Int) ≤ (j : Int)) = false := decide_eq_false (by omega)
        have d5 : decide (ys.length ≤ j) = false := decide_eq_false (by omega)
        have hat := P.ordR_at hlt hlt' HE.out
        have HS := Lib.hid (fun h => EqToR.step (j := j) HE.out h)
        have h1 := HL.out j
        have h2 := HL'.out j
        generalize xs.getD j [] = X at *
        generalize ys.getD j [] = Y at *
        have HC := Lib.hid (scompare_any X Y ra ra' rc rc' w hn hn' h1 h2)
        have HAT := Lib.hid (hat.symm.trans HO.out)
        clear hat hn hn' h1 h2
        generalize hZ : ordI X Y = Z at *
        clear hZ
        by_cases hz : Z = 0
        · subst hz
          have HS2 := Lib.hid (HS.out rfl)
          go_wp2_with fail
          with_reducible refine HC.out.mono ?_
          rintro e w2 ⟨rfl, rfl⟩
          go_wp2_with fail
          go_round
          case rel => exact ⟨j + 1, by go_num, by omega, by omega, HS2.out⟩
          case measure => simp [intOf]; omega
        · have d6 : (Z != 0) = true := by simpa using hz
          have d7 : (Z == 0) = false := by simpa using hz
          have HR := Lib.hid (show O = Z by rw [← HAT.out, if_neg hz])
          clear hz
          go_wp2_with fail
          with_reducible refine HC.out.mono ?_
          rintro e w2 ⟨rfl, rfl⟩
          go_wp2_with fail
          go_ret
          exact ⟨by rw [HR.out]; rfl, rfl⟩
      · obtain rfl : j = ys.length := by omega
        have d4 : decide ((ys.length : Int) ≤ (ys.length : Int)) = true := by simp
        have d5 : decide (ys.length ≤ ys.length) = true := by simp
        have HR := Lib.hid (show O = 1 by rw [← HO.out]; exact P.ordR_right hlt rfl HE.out)
        clear hlt'
        go_wp2_with fail
        go_ret
        exact ⟨by rw [HR.out]; rfl, rfl⟩
    · obtain rfl : j = xs.length := by omega
      have d1 : decide ((xs.length : Int) < (xs.length : Int)) = false := by simp
      clear hlt hj
      by_cases hlt' : xs.length < ys.length
      · have d3 : decide ((xs.length : Int) < (ys.length : Int)) = true := decide_eq_true (by omega)
        have d4 : decide (xs.length < ys.length) = true := decide_eq_true (by omega)
        have HR := Lib.hid (show O = -1 by rw [← HO.out]; exact P.ordR_left rfl hlt' HE.out)
        go_wp2_with fail
        go_ret
        exact ⟨by rw [HR.out]; rfl, rfl⟩
      · have d3 : decide ((xs.length : Int) < (ys.length : Int)) = false := decide_eq_false (by omega)
        have d4 : decide (xs.length < ys.length) = false := decide_eq_false (by omega)
        have HR := Lib.hid (show O = 0 by rw [← HO.out]; exact P.ordR_same rfl (by omega) HE.out)
        go_wp2_with fail
        go_ret
        exact ⟨by rw [HR.out]; rfl, rfl⟩
/-- An outcome is small. -/
structure SmO (rv : List (List Int)) (mv : List Int) : Prop where
  r : rv.length ≤ 1000
  rs : ∀ i, (rv.getD i []).length ≤ 1000
  m : mv.length ≤ 1000
/-- A number is told, nothing old turns. -/
def NumTo (z : Int) (w : World) (e : Ending) (w' : World) : Prop := e = .returned (.int .i64 z) ∧ Below w.heap.size w w'
theorem two_freeP {w : World} {g : Nat} {t : TypeId} {a b : Value} (h : Blk w g t #[a, b]) : w.cell? ⟨g, 0, none⟩ = some a ∧ w.cell? ⟨g, 1, none⟩ = some b := ⟨h.cell 0, h.cell 1⟩
section
variable {w : World} {ra ma ra' ma' : Option Addr} {rc mc rc' mc' : Nat} {rv rv' : List (List Int)} {mv mv' : List Int}
set_option maxHeartbeats 3200000 in
theorem compare_any (h : OutIn w ra ma rv mv mc) (h' : OutIn w ra' ma' rv' mv' mc') (hs : SmO rv mv) (hs' : SmO rv' mv') :
    Calls Tryd.prog 44 #[.agg #[.slice ra rv.length rc, .slice ma mv.length mc], .agg #[.slice ra' rv'.length rc', .slice ma' mv'.length mc']] w (NumTo (ordO rv mv rv' mv') w) := by
  obtain ⟨hb2, hA, hC⟩ := two_newC w #[.slice ra rv.length rc, .slice ma mv.length mc] #[.slice ra' rv'.length rc', .slice ma' mv'.length mc'] 46 46
  have HB := Lib.hid hb2
  have HR := Lib.hid (scompareF_any rv rv' ra ra' rc rc' _ (h.low hb2).regs (h'.low hb2).regs hs.r hs'.r hs.rs hs'.rs)
  have HM := Lib.hid (scompare_any mv mv' ma ma' mc mc' _ (h.low hb2).mem (h'.low hb2).mem hs.m hs'.m)
  obtain ⟨p0, p1⟩ := two_freeP hA
  obtain ⟨q0, q1⟩ := two_freeP hC
  have HO : Hid (ordO rv mv rv' mv' = if ordR rv rv' = 0 then ordI mv mv' else ordR rv rv') := Lib.hid rfl
  generalize ordO rv mv rv' mv' = O at *
  clear h h' hb2 hs hs' hA hC
  generalize ordR rv rv' = Z at *
  generalize ordI mv mv' = Y at *
  by_cases hz : Z = 0
  · subst hz
    have HO2 := Lib.hid (show O = Y by rw [HO.out, if_pos rfl])
    clear HO
    go_enter Tryd.func44, Tryd.ntmps44
    go_wp2_with fail
    with_reducible refine HR.out.mono ?_
    rintro e w2 ⟨rfl, rfl⟩
    go_wp2_with fail
    with_reducible refine HM.out.mono ?_
    rintro e w2 ⟨rfl, rfl⟩
    go_wp2_with fail
    go_ret
    exact ⟨by rw [HO2.out]; rfl, HB.out⟩
  · have d6 : (Z != 0) = true := by simpa using hz
    have d7 : (Z == 0) = false := by simpa using hz
    have HO2 := Lib.hid (show O = Z by rw [HO.out, if_neg hz])
    clear HO hz
    go_enter Tryd.func44, Tryd.ntmps44
    go_wp2_with fail
    with_reducible refine HR.out.mono ?_
    rintro e w2 ⟨rfl, rfl⟩
    go_wp2_with fail
    go_ret
    exact ⟨by rw [HO2.out]; rfl, HB.out⟩
set_option maxHeartbeats 1600000 in
theorem postSame_any (b : Bool) (h : OutIn w ra ma rv mv mc) (h' : OutIn w ra' ma' rv' mv' mc') (hs : SmO rv mv) (hs' : SmO rv' mv') (hb : (ordO rv mv rv' mv' == 0) = b) :
    Calls Tryd.prog 24 #[.agg #[.slice ra rv.length rc, .slice ma mv.length mc], .agg #[.slice ra' rv'.length rc', .slice ma' mv'.length mc']] w (BoolTo b w) := by
  obtain ⟨hb2, hA, hC⟩ := two_newC w #[.slice ra rv.length rc, .slice ma mv.length mc] #[.slice ra' rv'.length rc', .slice ma' mv'.length mc'] 46 46
  have HB := Lib.hid hb2
  have HR := Lib.hid (compare_any (rc := rc) (rc' := rc') (h.low hb2) (h'.low hb2) hs hs')
  generalize ordO rv mv rv' mv' = O at *
  clear h h' hb2 hs hs' hA hC
  cases b
  all_goals
    go_enter Tryd.func24, Tryd.ntmps24
    go_wp2_with fail
    with_reducible refine HR.out.mono ?_
    rintro e w2 ⟨rfl, hb3⟩
    go_wp2_with fail
    go_ret
    exact ⟨rfl, HB.out.trans (hb3.mono HB.out.size)⟩
set_option maxHeartbeats 1600000 in
theorem postLess_any (b : Bool) (h : OutIn w ra ma rv mv mc) (h' : OutIn w ra' ma' rv' mv' mc') (hs : SmO rv mv) (hs' : SmO rv' mv') (hb : decide (ordO rv mv rv' mv' < 0) = b) :
    Calls Tryd.prog 26 #[.agg #[.slice ra rv.length rc, .slice ma mv.length mc], .agg #[.slice ra' rv'.length rc', .slice ma' mv'.length mc']] w (BoolTo b w) := by
  obtain ⟨hb2, hA, hC⟩ := two_newC w #[.slice ra rv.length rc, .slice ma mv.length mc] #[.slice ra' rv'.length rc', .slice ma' mv'.length mc'] 46 46
  have HB := Lib.hid hb2
  have HR := Lib.hid (compare_any (rc := rc) (rc' := rc') (h.low hb2) (h'.low hb2) hs hs')
  generalize ordO rv mv rv' mv' = O at *
  clear h h' hb2 hs hs' hA hC
  cases b
  all_goals
    go_enter Tryd.func26, Tryd.ntmps26
    go_wp2_with fail
    with_reducible refine HR.out.mono ?_
    rintro e w2 ⟨rfl, hb3⟩
    go_wp2_with fail
    go_ret
    exact ⟨rfl, HB.out.trans (hb3.mono HB.out.size)⟩
end
end Go.Proofs.YtchokfgffnomoaaDoor.Lx
