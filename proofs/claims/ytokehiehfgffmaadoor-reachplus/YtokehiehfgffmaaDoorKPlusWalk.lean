/-
  The statement ReachPlus's own call returns true, whatever the arguments, and leaves what was there as it was.
-/
import Derived.Test.YtokehiehfgffmaaDoorKBegun
import Derived.Test.YtokehiehfgffmaaDoorKAlg
import Derived.Test.YtokehiehfgffmaaDoorThenWalk
namespace Go.Proofs.YtokehiehfgffmaaDoor
open Go.RowKit
set_option linter.unusedVariables false
set_option linter.unusedSimpArgs false

set_option maxHeartbeats 4000000 in
set_option maxRecDepth 100000 in
theorem kplus_walk (a0 : Option Addr) (l0 c0 : Nat) (b0 : List Nat) (m : Nat) (w : World)
    (hg : 0 < w.heap.size) (hT : Tab w) (h0 : IsBytes w a0 l0 b0) (hm : m < 256) :
    Calls Tryd.prog 5 #[.slice a0 l0 c0, .int .u8 (m : Nat)] w (Good w) := by
  have hTb : Tb w := ⟨hT, hg⟩
  have m0 := h0.2.1
  obtain ⟨n, hn⟩ : ∃ n, n = m % 16 + 1 := ⟨_, rfl⟩
  have hn16 : n ≤ 16 := by omega
  have hn1 : 1 ≤ n := by omega
  have HN := Lib.hid hn
  clear hn
  go_enter Tryd.func5, Tryd.ntmps5
  go_wp2_with fail
  refine (begun3_any w hTb).mono ?_
  rintro e w1 ⟨rfl, hB⟩
  by_cases q0 : 60 < l0
  · go_wp2
    go_ret
    exact ⟨rfl, hB⟩
  go_wp2_with fail
  with_reducible refine (ksome_any a0 l0 c0 m n false b0 _ HN.out (h0.below hB) hm (by omega)).mono ?_
  rintro e w2 ⟨x, ax, cx, hR, _, rfl, hx, hb⟩
  replace hB := hB.trans (hb.mono hB.size)
  clear hb
  have hpr := plus_rel hR
  have hpl : (plusR x).length = n := hpr.1
  have HP0 : Hid (R.mayR x = true → 0 < n) := fun _ => by omega
  have HP1 : Hid (R.mayR (plusR x) = true → 0 < (plusR x).length) := fun _ => by omega
  have HP2 : Hid (R.mayR (R.backR x) = true → 0 < (R.backR x).length) := fun _ => by rw [(back_rel hR).1]; omega
  have HP3 : Hid (R.mayR (starR x) = true → 0 < (starR x).length) := fun _ => by rw [(star_rel hR).1]; omega
  have HE := Lib.hid (show plusR x = R.orR x (R.thenR x (plusR x)) ∧ plusR x = R.orR x (R.thenR (plusR x) x) ∧ plusR (plusR x) = plusR x ∧ R.countR (R.lessR (R.thenR (plusR x) (plusR x)) (plusR x)) = 0 ∧ R.backR (plusR x) = plusR (R.backR x) ∧ starR (starR x) = starR x from ⟨plus_first hR, plus_last hR, plus_plus hR, plus_less hR, plus_back hR, star_star hR⟩)
  clear hpr hpl hR
  go_wp2_with fail
  with_reducible refine (plusR_gives ax n cx x _ hx (hTb.below hB) HP0.out).mono ?_
  rintro e w3 ⟨ap, cp, rfl, hp, hb⟩
  replace hB := hB.trans (hb.mono hB.size)
  replace hx := hx.below hb
  clear hb
  go_wp2_with fail
  with_reducible refine (thenR_any _ _ _ _ _ _ x (plusR x) _ hx hp (hTb.below hB)).mono ?_
  rintro e w4 ⟨ay, cy, rfl, hy, hb⟩
  replace hB := hB.trans (hb.mono hB.size)
  replace hx := hx.below hb
  replace hp := hp.below hb
  clear hb
  go_wp2_with fail
  with_reducible refine (orR_any _ _ _ _ _ _ x _ _ hx hy (hTb.below hB)).mono ?_
  rintro e w5 ⟨az, cz, rfl, hz, hb⟩
  replace hB := hB.trans (hb.mono hB.size)
  replace hx := hx.below hb
  replace hp := hp.below hb
  replace hy := hy.below hb
  clear hb
  clear hy
  go_wp2_with fail
  with_reducible refine (sameR_any _ _ _ _ _ _ _ _ _ hp hz).mono ?_
  rw [decide_eq_true (HE.out.1)]
  rintro e w6 ⟨rfl, hb⟩
  replace hB := hB.trans (hb.mono hB.size)
  replace hx := hx.below hb
  replace hp := hp.below hb
  replace hz := hz.below hb
  clear hb
  clear hz
  go_wp2_with fail
  with_reducible refine (thenR_any _ _ _ _ _ _ (plusR x) x _ hp hx (hTb.below hB)).mono ?_
  rintro e w7 ⟨ay, cy, rfl, hy, hb⟩
  replace hB := hB.trans (hb.mono hB.size)
  replace hx := hx.below hb
  replace hp := hp.below hb
  clear hb
  go_wp2_with fail
  with_reducible refine (orR_any _ _ _ _ _ _ x _ _ hx hy (hTb.below hB)).mono ?_
  rintro e w8 ⟨az, cz, rfl, hz, hb⟩
  replace hB := hB.trans (hb.mono hB.size)
  replace hx := hx.below hb
  replace hp := hp.below hb
  replace hy := hy.below hb
  clear hb
  clear hy
  go_wp2_with fail
  with_reducible refine (sameR_any _ _ _ _ _ _ _ _ _ hp hz).mono ?_
  rw [decide_eq_true (HE.out.2.1)]
  rintro e w9 ⟨rfl, hb⟩
  replace hB := hB.trans (hb.mono hB.size)
  replace hx := hx.below hb
  replace hp := hp.below hb
  replace hz := hz.below hb
  clear hb
  clear hz
  go_wp2_with fail
  with_reducible refine (plusR_gives _ _ _ (plusR x) _ hp (hTb.below hB) HP1.out).mono ?_
  rintro e w10 ⟨ay, cy, rfl, hy, hb⟩
  replace hB := hB.trans (hb.mono hB.size)
  replace hx := hx.below hb
  replace hp := hp.below hb
  clear hb
  go_wp2_with fail
  with_reducible refine (sameR_any _ _ _ _ _ _ _ _ _ hy hp).mono ?_
  rw [decide_eq_true (HE.out.2.2.1)]
  rintro e w11 ⟨rfl, hb⟩
  replace hB := hB.trans (hb.mono hB.size)
  replace hx := hx.below hb
  replace hp := hp.below hb
  replace hy := hy.below hb
  clear hb
  clear hy
  go_wp2_with fail
  with_reducible refine (thenR_any _ _ _ _ _ _ (plusR x) (plusR x) _ hp hp (hTb.below hB)).mono ?_
  rintro e w12 ⟨ay, cy, rfl, hy, hb⟩
  replace hB := hB.trans (hb.mono hB.size)
  replace hx := hx.below hb
  replace hp := hp.below hb
  clear hb
  go_wp2_with fail
  with_reducible refine (lessR_any _ _ _ _ _ _ _ (plusR x) _ hy hp (hTb.below hB)).mono ?_
  rintro e w13 ⟨az, cz, rfl, hz, hb⟩
  replace hB := hB.trans (hb.mono hB.size)
  replace hx := hx.below hb
  replace hp := hp.below hb
  replace hy := hy.below hb
  clear hb
  clear hy
  go_wp2_with fail
  with_reducible refine (countR_any _ _ _ _ _ hz (hTb.below hB)).mono ?_
  rw [HE.out.2.2.2.1]
  rintro e w14 ⟨rfl, hb⟩
  replace hB := hB.trans (hb.mono hB.size)
  replace hx := hx.below hb
  replace hp := hp.below hb
  replace hz := hz.below hb
  clear hb
  clear hz
  go_wp2_with fail
  with_reducible refine (backR_any _ _ _ (plusR x) _ hp (hTb.below hB)).mono ?_
  rintro e w15 ⟨ay, cy, rfl, hy, hb⟩
  replace hB := hB.trans (hb.mono hB.size)
  replace hx := hx.below hb
  replace hp := hp.below hb
  clear hb
  clear hp
  go_wp2_with fail
  with_reducible refine (backR_any _ _ _ x _ hx (hTb.below hB)).mono ?_
  rintro e w16 ⟨az, cz, rfl, hz, hb⟩
  replace hB := hB.trans (hb.mono hB.size)
  replace hx := hx.below hb
  replace hy := hy.below hb
  clear hb
  go_wp2_with fail
  with_reducible refine (plusR_gives _ _ _ (R.backR x) _ hz (hTb.below hB) HP2.out).mono ?_
  rintro e w17 ⟨au, cu, rfl, hu, hb⟩
  replace hB := hB.trans (hb.mono hB.size)
  replace hx := hx.below hb
  replace hy := hy.below hb
  replace hz := hz.below hb
  clear hb
  clear hz
  go_wp2_with fail
  with_reducible refine (sameR_any _ _ _ _ _ _ _ _ _ hy hu).mono ?_
  rw [decide_eq_true (HE.out.2.2.2.2.1)]
  rintro e w18 ⟨rfl, hb⟩
  replace hB := hB.trans (hb.mono hB.size)
  replace hx := hx.below hb
  replace hy := hy.below hb
  replace hu := hu.below hb
  clear hb
  clear hy
  clear hu
  go_wp2_with fail
  with_reducible refine (starR_gives _ n _ x _ hx (hTb.below hB) HP0.out).mono ?_
  rintro e w19 ⟨ay, cy, rfl, hy, hb⟩
  replace hB := hB.trans (hb.mono hB.size)
  replace hx := hx.below hb
  clear hb
  go_wp2_with fail
  with_reducible refine (starR_gives _ _ _ (starR x) _ hy (hTb.below hB) HP3.out).mono ?_
  rintro e w20 ⟨az, cz, rfl, hz, hb⟩
  replace hB := hB.trans (hb.mono hB.size)
  replace hx := hx.below hb
  replace hy := hy.below hb
  clear hb
  clear hy
  go_wp2_with fail
  with_reducible refine (starR_gives _ n _ x _ hx (hTb.below hB) HP0.out).mono ?_
  rintro e w21 ⟨au, cu, rfl, hu, hb⟩
  replace hB := hB.trans (hb.mono hB.size)
  replace hx := hx.below hb
  replace hz := hz.below hb
  clear hb
  go_wp2_with fail
  with_reducible refine (sameR_any _ _ _ _ _ _ _ _ _ hz hu).mono ?_
  rw [decide_eq_true (HE.out.2.2.2.2.2)]
  rintro e w22 ⟨rfl, hb⟩
  replace hB := hB.trans (hb.mono hB.size)
  replace hx := hx.below hb
  replace hz := hz.below hb
  replace hu := hu.below hb
  clear hb
  go_wp2
  go_ret
  exact ⟨rfl, hB⟩
end Go.Proofs.YtokehiehfgffmaaDoor
