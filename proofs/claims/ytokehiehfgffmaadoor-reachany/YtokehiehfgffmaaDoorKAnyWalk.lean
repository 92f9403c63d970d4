/-
  The statement ReachAny's own call returns true, whatever the arguments, and leaves what was there as it was.
-/
import Derived.Test.YtokehiehfgffmaaDoorKBegun
import Derived.Test.YtokehiehfgffmaaDoorThenWalk
namespace Go.Proofs.YtokehiehfgffmaaDoor
open Go.RowKit
set_option linter.unusedVariables false
set_option linter.unusedSimpArgs false

set_option maxHeartbeats 2000000 in
set_option maxRecDepth 100000 in
theorem kany_walk (a0 : Option Addr) (l0 c0 : Nat) (x0 : List Nat) (s : Nat) (w : World)
    (hg : 0 < w.heap.size) (hT : Tab w) (h0 : IsWords w a0 l0 x0) (hs : s < 2 ^ 64) :
    Calls Tryd.prog 4 #[.slice a0 l0 c0, .int .u64 (s : Nat)] w (Good w) := by
  have hTb : Tb w := ⟨hT, hg⟩
  have m0 := h0.2.1
  have hw := h0.2.2.1
  go_enter Tryd.func4, Tryd.ntmps4
  go_wp2_with fail
  refine (begun3_any w hTb).mono ?_
  rintro e w1 ⟨rfl, hB⟩
  by_cases q0 : 12 < l0
  · go_wp2
    go_ret
    exact ⟨rfl, hB⟩
  have HMR := rmay_any a0 l0 c0 x0 w1 (h0.below hB)
  cases hm : R.mayR x0
  · rw [hm] at HMR
    have HMR := Lib.hid HMR
    have eO : ordOk x0 = false := by simp [ordOk, hm]
    have eOL := ord_no eO
    have eA : acyB x0 = false := by simp [acyB, hm]
    have eAL := deep_no eA
    have eP : plusR x0 = [] := by simp [plusR, hm]
    have eS : starR x0 = [] := by simp [starR, eP, R.tab]
    have eT : totB x0 s = false := by simp [totB, hm]
    have eU : upR x0 s = 0 := by simp [upR, hm]
    have eD : downR x0 s = 0 := by
      have : R.backR x0 = [] := by simp [R.backR, hm]
      unfold downR upN
      rw [this]
      have e0 : R.things ([] : List Nat).length = 0 := by decide
      rw [e0, Nat.and_zero]
      rfl
    have hno : R.mayR x0 = true → 0 < l0 := fun h => by
      rw [hm] at h
      cases h
    have HE := Lib.hid (show ordOk x0 = false ∧ ordL x0 = [] ∧ acyB x0 = false ∧ deepL x0 = [] ∧ plusR x0 = [] ∧ starR x0 = [] ∧ totB x0 s = false ∧ upR x0 s = 0 ∧ downR x0 s = 0 from ⟨eO, eOL, eA, eAL, eP, eS, eT, eU, eD⟩)
    have HNO := Lib.hid hno
    clear eO eOL eA eAL eP eS eT eU eD hno hm
    go_wp2_with fail
    refine HMR.out.mono ?_
    rintro e w2 ⟨rfl, hb⟩
    replace hB := hB.trans (hb.mono hB.size)
    clear hb
    go_wp2_with fail
    refine (order_any a0 l0 c0 x0 _ (h0.below hB) (hTb.below hB)).mono ?_
    rw [HE.out.1, HE.out.2.1]
    rintro e w3 ⟨a3, c3, rfl, _, hb⟩
    replace hB := hB.trans (hb.mono hB.size)
    clear hb
    rw [List.length_nil]
    go_wp2_with fail
    refine (deep_any a0 l0 c0 x0 _ (h0.below hB) (hTb.below hB)).mono ?_
    rw [HE.out.2.2.1, HE.out.2.2.2.1]
    rintro e w4 ⟨a4, c4, rfl, _, hb⟩
    replace hB := hB.trans (hb.mono hB.size)
    clear hb
    rw [List.length_nil]
    go_wp2_with fail
    refine (plusR_gives a0 l0 c0 x0 _ (h0.below hB) (hTb.below hB) HNO.out).mono ?_
    rw [HE.out.2.2.2.2.1]
    rintro e w5 ⟨a5, c5, rfl, _, hb⟩
    replace hB := hB.trans (hb.mono hB.size)
    clear hb
    rw [List.length_nil]
    go_wp2_with fail
    refine (starR_gives a0 l0 c0 x0 _ (h0.below hB) (hTb.below hB) HNO.out).mono ?_
    rw [HE.out.2.2.2.2.2.1]
    rintro e w6 ⟨a6, c6, rfl, _, hb⟩
    replace hB := hB.trans (hb.mono hB.size)
    clear hb
    rw [List.length_nil]
    go_wp2_with fail
    refine (acyclic_any a0 l0 c0 x0 _ (h0.below hB) (hTb.below hB)).mono ?_
    rw [HE.out.2.2.1]
    rintro e w7 ⟨rfl, hb⟩
    replace hB := hB.trans (hb.mono hB.size)
    clear hb
    go_wp2_with fail
    refine (total_any a0 l0 c0 s x0 _ (h0.below hB) (hTb.below hB) hs).mono ?_
    rw [HE.out.2.2.2.2.2.2.1]
    rintro e w8 ⟨rfl, hb⟩
    replace hB := hB.trans (hb.mono hB.size)
    clear hb
    go_wp2_with fail
    refine (down_any a0 l0 c0 s x0 _ (h0.below hB) (hTb.below hB) hs).mono ?_
    rw [HE.out.2.2.2.2.2.2.2.2]
    rintro e w9 ⟨rfl, hb⟩
    replace hB := hB.trans (hb.mono hB.size)
    clear hb
    go_wp2_with fail
    refine (up_any a0 l0 c0 s x0 _ (h0.below hB) (hTb.below hB) hs).mono ?_
    rw [HE.out.2.2.2.2.2.2.2.1]
    rintro e w10 ⟨rfl, hb⟩
    replace hB := hB.trans (hb.mono hB.size)
    clear hb
    go_wp2
    go_ret
    exact ⟨rfl, hB⟩
  · rw [hm] at HMR
    have HMR := Lib.hid HMR
    go_wp2_with fail
    refine HMR.out.mono ?_
    rintro e w2 ⟨rfl, hb⟩
    replace hB := hB.trans (hb.mono hB.size)
    go_wp2
    go_ret
    exact ⟨rfl, hB⟩
end Go.Proofs.YtokehiehfgffmaaDoor
