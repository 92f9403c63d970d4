/-
  The statement ReachTurned's own call returns true, whatever the arguments, and leaves what was there as it was.
-/
import Derived.Test.YtokehiehfgffmaaDoorKBegun
import Derived.Test.YtokehiehfgffmaaDoorKAlg
import Derived.Test.YtokehiehfgffmaaDoorThenWalk
namespace Go.Proofs.YtokehiehfgffmaaDoor
open Go.RowKit
set_option linter.unusedVariables false
set_option linter.unusedSimpArgs false

theorem things_below (n : Nat) : R.things n = M.belowN (n : Nat) := by
  refine M.ext _ _ (R.things_lt n) (M.belowN_lt _) fun j hj => ?_
  rw [R.things_bit n j hj, M.belowN_testBit _ _ hj]
  simp
theorem things_num (n : Nat) (h0 : 1 ≤ n) (h1 : n ≤ 16) : IntKind.u64.wrap (IntKind.u64.wrap (2 ^ n) - 1) = (R.things n : Nat) := by
  have := below_pos (n : Nat) (by omega) (by omega)
  rw [Int.toNat_natCast] at this
  rw [this, things_below]
set_option maxHeartbeats 4000000 in
set_option maxRecDepth 100000 in
theorem kturn_walk (a0 : Option Addr) (l0 c0 : Nat) (b0 : List Nat) (m s : Nat) (w : World)
    (hg : 0 < w.heap.size) (hT : Tab w) (h0 : IsBytes w a0 l0 b0) (hm : m < 256) (hs : s < 2 ^ 64) :
    Calls Tryd.prog 7 #[.slice a0 l0 c0, .int .u8 (m : Nat), .int .u64 (s : Nat)] w (Good w) := by
  have hTb : Tb w := ⟨hT, hg⟩
  have m0 := h0.2.1
  obtain ⟨n, hn⟩ : ∃ n, n = m % 16 + 1 := ⟨_, rfl⟩
  have hn16 : n ≤ 16 := by omega
  have hn1 : 1 ≤ n := by omega
  have HN := Lib.hid hn
  clear hn
  go_enter Tryd.func7, Tryd.ntmps7
  go_wp2_with fail
  refine (begun3_any w hTb).mono ?_
  rintro e w1 ⟨rfl, hB⟩
  by_cases q0 : 60 < l0
  · go_wp2
    go_ret
    exact ⟨rfl, hB⟩
  go_wp2_with fail
  with_reducible refine (ksome_any a0 l0 c0 m n false b0 _ HN.out (h0.below hB) hm (by omega)).mono ?_
  rintro e w2 ⟨x, ax, cx, hR, _, rfl, hx, hb⟩
  replace hB := hB.trans (hb.mono hB.size)
  clear hb
  have hI : s &&& R.things n < 2 ^ 64 := Nat.lt_of_le_of_lt Nat.and_le_left hs
  have hD := down_lt hR s hs
  have hU := up_lt hR s hs
  have hJ := intoR_lt hR.2.1 (s &&& R.things n)
  have f1 : IntKind.u64.wrap (n : Int) = (n : Int) := by rw [IntKind.wrap_u64]; omega
  have f2 : (n : Int).toNat = n := by omega
  have f3 : (0 : Int) ≤ (n : Int) := by omega
  have f4 : (n : Int) < 64 := by omega
  have e1 := things_num n hn1 hn16
  have e2 := bits_and_u64_nat s (R.things n) hs (R.things_lt _)
  have HE := Lib.hid (show downR x s &&& (s &&& R.things n) = s &&& R.things n ∧ upR x s &&& (s &&& R.things n) = s &&& R.things n ∧ downR (R.backR x) s = upR x s ∧ downR x (downR x s) = downR x s ∧ upR x (upR x s) = upR x s ∧ downR x (s &&& R.things n) = downR x s from ⟨down_has hR s hs, up_has hR s hs, down_back hR s, down_down hR s hs, up_up hR s hs, down_in hR s hs⟩)
  have HS := Lib.hid (up_stays hR s hs)
  have e3 := bits_and_u64_nat (downR x s) (s &&& R.things n) hD hI
  rw [HE.out.1] at e3
  have e4 := bits_and_u64_nat (upR x s) (s &&& R.things n) hU hI
  rw [HE.out.2.1] at e4
  have e5 : bits .andNot .u64 (R.intoR x (s &&& R.things n) : Nat) (s &&& R.things n : Nat) = (M.lessN (R.intoR x (s &&& R.things n)) (s &&& R.things n) : Nat) := u64_andNot_nat _ _ hJ hI
  clear hR
  go_wp2_with fail
  with_reducible refine (down_any ax n cx s x _ hx (hTb.below hB) hs).mono ?_
  rintro e w3 ⟨rfl, hb⟩
  replace hB := hB.trans (hb.mono hB.size)
  replace hx := hx.below hb
  clear hb
  go_wp2_with fail
  with_reducible refine (up_any ax n cx s x _ hx (hTb.below hB) hs).mono ?_
  rintro e w4 ⟨rfl, hb⟩
  replace hB := hB.trans (hb.mono hB.size)
  replace hx := hx.below hb
  clear hb
  go_wp2_with fail
  with_reducible refine (backR_any ax n cx x _ hx (hTb.below hB)).mono ?_
  rintro e w5 ⟨ay, cy, rfl, hy, hb⟩
  replace hB := hB.trans (hb.mono hB.size)
  replace hx := hx.below hb
  clear hb
  go_wp2_with fail
  with_reducible refine (down_any _ _ _ s (R.backR x) _ hy (hTb.below hB) hs).mono ?_
  rw [HE.out.2.2.1]
  rintro e w6 ⟨rfl, hb⟩
  replace hB := hB.trans (hb.mono hB.size)
  replace hx := hx.below hb
  replace hy := hy.below hb
  clear hb
  clear hy
  go_wp2_with fail
  with_reducible refine (down_any ax n cx (downR x s) x _ hx (hTb.below hB) hD).mono ?_
  rw [HE.out.2.2.2.1]
  rintro e w7 ⟨rfl, hb⟩
  replace hB := hB.trans (hb.mono hB.size)
  replace hx := hx.below hb
  clear hb
  go_wp2_with fail
  with_reducible refine (up_any ax n cx (upR x s) x _ hx (hTb.below hB) hU).mono ?_
  rw [HE.out.2.2.2.2.1]
  rintro e w8 ⟨rfl, hb⟩
  replace hB := hB.trans (hb.mono hB.size)
  replace hx := hx.below hb
  clear hb
  go_wp2_with fail
  with_reducible refine (down_any ax n cx (s &&& R.things n) x _ hx (hTb.below hB) hI).mono ?_
  rw [HE.out.2.2.2.2.2]
  rintro e w9 ⟨rfl, hb⟩
  replace hB := hB.trans (hb.mono hB.size)
  replace hx := hx.below hb
  clear hb
  go_wp2_with fail
  with_reducible refine (intoR_any ax n cx (s &&& R.things n) x _ hx (hTb.below hB) hI).mono ?_
  rintro e w10 ⟨rfl, hb⟩
  replace hB := hB.trans (hb.mono hB.size)
  replace hx := hx.below hb
  clear hb
  generalize M.lessN (R.intoR x (s &&& R.things n)) (s &&& R.things n) = V at *
  generalize upR x s = U at *
  generalize s &&& R.things n = I at *
  by_cases hq : U = I
  · have hv : V = 0 := HS.out.1 hq
    subst hv
    subst hq
    go_wp2
    go_ret
    exact ⟨rfl, hB⟩
  · have hv : ¬ V = 0 := fun h => hq (HS.out.2 h)
    have g1 : ((U : Int) == (I : Int)) = false := by simp; omega
    have g2 : ((V : Int) == 0) = false := by simp; omega
    go_wp2
    go_ret
    exact ⟨rfl, hB⟩
end Go.Proofs.YtokehiehfgffmaaDoor
