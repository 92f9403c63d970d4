/-
  The statement RelAny's own call returns true, whatever the arguments, and leaves what was there as it was.
-/
import Derived.Test.YtafdbocepepcgaaDoorAMath
namespace Go.Proofs.YtafdbocepepcgaaDoor
open Go.RowKit
set_option linter.unusedVariables false
set_option linter.unusedSimpArgs false

set_option maxHeartbeats 8000000 in
set_option maxRecDepth 100000 in
theorem any_walk (a : Option Addr) (la ca : Nat) (xs : List Nat) (b : Option Addr) (lb cb : Nat) (ys : List Nat) (s : Nat) (x y : Int) (w : World)
    (hg : 0 < w.heap.size) (hT : Tab w) (hx0 : IsWords w a la xs) (hy0 : IsWords w b lb ys) (hs : s < 2 ^ 64) (wx : (Lit.int .i64 x).wf = true) (wy : (Lit.int .i64 y).wf = true) :
    Calls Tryd.prog 3 #[.slice a la ca, .slice b lb cb, .int .u64 (s : Nat), .int .i64 x, .int .i64 y] w (Good w) := by
  obtain rfl : xs.length = la := hx0.1
  obtain rfl : ys.length = lb := hy0.1
  have hTb : Tb w := ⟨hT, hg⟩
  have m0 := hx0.2.1
  have m1 := hy0.2.1
  have hwx := hx0.2.2.1
  have HCP := Lib.hid (count_pairs xs)
  obtain ⟨i0, hi, hz0, hz1, hz2⟩ := info_parts Tryd.infoP
  have HI := Lib.hid hi
  have HZ0 := Lib.hid hz0
  have HZ1 := Lib.hid hz1
  have HZ2 := Lib.hid hz2
  have hdd : (decide (xs = ys) != decide (xs = ys)) = false := by simp
  clear hi hz0 hz1 hz2 wx wy
  go_enter Tryd.func3, Tryd.ntmps3
  go_wp2_with fail
  with_reducible refine (begun2_any w hTb).mono ?_
  rintro e w1 ⟨rfl, hB⟩
  by_cases q0 : 70 < xs.length
  · go_wp2
    go_ret
    exact ⟨rfl, hB⟩
  by_cases q1 : 70 < ys.length
  · go_wp2
    go_ret
    exact ⟨rfl, hB⟩
  go_wp2_with fail
  with_reducible refine (rmay_any _ _ _ xs _ (hx0.below hB)).mono ?_
  cases hm : R.mayR xs
  · have HM := Lib.hid hm
    have HH : Hid (R.hasR xs x y = false) := show _ = _ by simp [R.hasR, hm]
    have HP : Hid (ipairs (R.pairsR xs) = []) := show _ = _ by simp [R.pairsR, hm, ipairs]
    have HIN : Hid (R.intoR xs s = 0) := show _ = _ by simp [R.intoR, hm]
    rw [HP.out, List.length_nil] at HCP
    clear hm
    rintro e w2 ⟨rfl, hb⟩
    replace hB := hB.trans (hb.mono hB.size)
    clear hb
    go_wp2_with fail
    with_reducible refine (rmay_any _ _ _ xs _ (hx0.below hB)).mono ?_
    rw [HM.out]
    rintro e w3 ⟨rfl, hb⟩
    replace hB := hB.trans (hb.mono hB.size)
    clear hb
    have hp : IsPairs w3 none 0 (ipairs (R.pairsR xs)) := by rw [HP.out]; exact ⟨rfl, by decide, .inl rfl⟩
    go_wp2_with fail
    with_reducible refine (may_any' _ _ _ xs _ (hx0.below hB) (hTb.below hB)).mono ?_
    rw [HM.out]
    rintro e w51 ⟨rfl, hb⟩
    replace hB := hB.trans (hb.mono hB.size)
    replace hp := hp.below hb
    clear hb
    go_wp2_with fail
    with_reducible refine (rmay_any _ _ _ xs _ (hx0.below hB)).mono ?_
    rw [HM.out]
    rintro e w52 ⟨rfl, hb⟩
    replace hB := hB.trans (hb.mono hB.size)
    replace hp := hp.below hb
    clear hb
    go_wp2_with fail
    with_reducible refine (pairsR_any _ _ _ xs _ (hx0.below hB) (hTb.below hB)).mono ?_
    rintro e w53 ⟨aq, cq, rfl, hq, hb⟩
    replace hB := hB.trans (hb.mono hB.size)
    replace hp := hp.below hb
    clear hb
    go_wp2_with fail
    rw [HP.out] at hq hp ⊢
    rw [List.length_nil] at hq ⊢
    with_reducible refine (same_any _ _ _ _ _ [] _ hq hp).mono ?_
    rintro e w54 ⟨rfl, hb⟩
    replace hB := hB.trans (hb.mono hB.size)
    replace hp := hp.below hb
    replace hq := hq.below hb
    clear hb
    clear hq
    go_wp2_with fail
    with_reducible refine (hasR_any _ _ _ x y xs _ (hx0.below hB) (hTb.below hB)).mono ?_
    rw [HH.out]
    rintro e w55 ⟨rfl, hb⟩
    replace hB := hB.trans (hb.mono hB.size)
    replace hp := hp.below hb
    clear hb
    go_wp2_with fail
    with_reducible refine (countR_any _ _ _ xs _ (hx0.below hB) (hTb.below hB)).mono ?_
    rw [HCP.out]
    rintro e w56 ⟨rfl, hb⟩
    replace hB := hB.trans (hb.mono hB.size)
    replace hp := hp.below hb
    clear hb
    clear hp
    go_wp2_with fail
    with_reducible refine (sameR_any _ _ _ _ _ _ xs ys _ (hx0.below hB) (hy0.below hB)).mono ?_
    rintro e w57 ⟨rfl, hb⟩
    replace hB := hB.trans (hb.mono hB.size)
    clear hb
    go_wp2_with fail
    with_reducible refine (rsameR_any _ _ _ _ _ _ xs ys _ (hx0.below hB) (hy0.below hB)).mono ?_
    rintro e w58 ⟨rfl, hb⟩
    replace hB := hB.trans (hb.mono hB.size)
    clear hb
    go_wp2_with fail
    with_reducible refine (intoR_any _ _ _ s xs _ (hx0.below hB) (hTb.below hB) hs).mono ?_
    rw [HIN.out]
    rintro e w59 ⟨rfl, hb⟩
    replace hB := hB.trans (hb.mono hB.size)
    clear hb
    go_wp2_with fail
    with_reducible refine (andR_any _ _ _ _ _ _ xs ys _ (hx0.below hB) (hy0.below hB) (hTb.below hB)).mono ?_
    rintro e w60 ⟨amand, cmand, rfl, hmand, hb⟩
    replace hB := hB.trans (hb.mono hB.size)
    clear hb
    go_wp2_with fail
    with_reducible refine (rand_any _ _ _ _ _ _ xs ys _ (hx0.below hB) (hy0.below hB)).mono ?_
    rintro e w61 ⟨anand, cnand, rfl, hnand, hb⟩
    replace hB := hB.trans (hb.mono hB.size)
    replace hmand := hmand.below hb
    clear hb
    go_wp2_with fail
    with_reducible refine (rsameR_any _ _ _ _ _ _ _ _ _ hmand hnand).mono ?_
    rw [decide_eq_true rfl]
    rintro e w62 ⟨rfl, hb⟩
    replace hB := hB.trans (hb.mono hB.size)
    replace hmand := hmand.below hb
    replace hnand := hnand.below hb
    clear hb
    clear hmand
    clear hnand
    go_wp2_with fail
    with_reducible refine (orR_any _ _ _ _ _ _ xs ys _ (hx0.below hB) (hy0.below hB) (hTb.below hB)).mono ?_
    rintro e w63 ⟨amor, cmor, rfl, hmor, hb⟩
    replace hB := hB.trans (hb.mono hB.size)
    clear hb
    go_wp2_with fail
    with_reducible refine (ror_any _ _ _ _ _ _ xs ys _ (hx0.below hB) (hy0.below hB)).mono ?_
    rintro e w64 ⟨anor, cnor, rfl, hnor, hb⟩
    replace hB := hB.trans (hb.mono hB.size)
    replace hmor := hmor.below hb
    clear hb
    go_wp2_with fail
    with_reducible refine (rsameR_any _ _ _ _ _ _ _ _ _ hmor hnor).mono ?_
    rw [decide_eq_true rfl]
    rintro e w65 ⟨rfl, hb⟩
    replace hB := hB.trans (hb.mono hB.size)
    replace hmor := hmor.below hb
    replace hnor := hnor.below hb
    clear hb
    clear hmor
    clear hnor
    go_wp2_with fail
    with_reducible refine (lessR_any _ _ _ _ _ _ xs ys _ (hx0.below hB) (hy0.below hB) (hTb.below hB)).mono ?_
    rintro e w66 ⟨amless, cmless, rfl, hmless, hb⟩
    replace hB := hB.trans (hb.mono hB.size)
    clear hb
    go_wp2_with fail
    with_reducible refine (rless_any _ _ _ _ _ _ xs ys _ (hx0.below hB) (hy0.below hB)).mono ?_
    rintro e w67 ⟨anless, cnless, rfl, hnless, hb⟩
    replace hB := hB.trans (hb.mono hB.size)
    replace hmless := hmless.below hb
    clear hb
    go_wp2_with fail
    with_reducible refine (rsameR_any _ _ _ _ _ _ _ _ _ hmless hnless).mono ?_
    rw [decide_eq_true rfl]
    rintro e w68 ⟨rfl, hb⟩
    replace hB := hB.trans (hb.mono hB.size)
    replace hmless := hmless.below hb
    replace hnless := hnless.below hb
    clear hb
    clear hmless
    clear hnless
    go_wp2_with fail
    with_reducible refine (backR_any _ _ _ xs _ (hx0.below hB) (hTb.below hB)).mono ?_
    rintro e w69 ⟨amb, cmb, rfl, hmb, hb⟩
    replace hB := hB.trans (hb.mono hB.size)
    clear hb
    go_wp2_with fail
    with_reducible refine (rback_any _ _ _ xs _ (hx0.below hB)).mono ?_
    rintro e w70 ⟨anb, cnb, rfl, hnb, hb⟩
    replace hB := hB.trans (hb.mono hB.size)
    replace hmb := hmb.below hb
    clear hb
    go_wp2_with fail
    with_reducible refine (rsameR_any _ _ _ _ _ _ _ _ _ hmb hnb).mono ?_
    rw [decide_eq_true rfl]
    rintro e w71 ⟨rfl, hb⟩
    replace hB := hB.trans (hb.mono hB.size)
    replace hmb := hmb.below hb
    replace hnb := hnb.below hb
    clear hb
    clear hmb
    clear hnb
    go_wp2_with fail
    with_reducible refine (keepR_any _ _ _ s xs _ (hx0.below hB) (hTb.below hB) hs).mono ?_
    rintro e w72 ⟨amk, cmk, rfl, hmk, hb⟩
    replace hB := hB.trans (hb.mono hB.size)
    clear hb
    go_wp2_with fail
    with_reducible refine (rkeep_any _ _ _ s xs _ (hx0.below hB) hs).mono ?_
    rintro e w73 ⟨ank, cnk, rfl, hnk, hb⟩
    replace hB := hB.trans (hb.mono hB.size)
    replace hmk := hmk.below hb
    clear hb
    go_wp2_with fail
    with_reducible refine (rsameR_any _ _ _ _ _ _ _ _ _ hmk hnk).mono ?_
    rw [decide_eq_true rfl]
    rintro e w74 ⟨rfl, hb⟩
    replace hB := hB.trans (hb.mono hB.size)
    replace hmk := hmk.below hb
    replace hnk := hnk.below hb
    clear hb
    clear hmk
    clear hnk
    go_wp2
    go_ret
    exact ⟨rfl, hB⟩
  · have hR : Rel xs.length xs := ⟨rfl, hwx, hm⟩
    have hl : xs.length ≤ 64 := hR.le
    have HM := Lib.hid hm
    clear hm
    rintro e w2 ⟨rfl, hb⟩
    replace hB := hB.trans (hb.mono hB.size)
    clear hb
    go_wp2
    go_loopw [11, 12, 13] (fun v u k wr => ∃ i : Nat, i ≤ xs.length ∧ k = .int .i64 i ∧ u = .int .u64 (intoOf s (pairsTo xs i 0) : Nat) ∧ AnyAt w w2 (pairsTo xs i 0) v wr) (fun _ _ k _ => xs.length - (intOf k).toNat)
    case atStart => exact ⟨0, Nat.zero_le _, rfl, rfl, World.ownsRow_nil _ _ _ _, Below.refl _ _, hB⟩
    case round =>
      obtain ⟨i, hi, rfl, rfl, hW⟩ := hrel
      by_cases hil : i < xs.length
      · go_wp2
        go_loopw [11, 12, 14] (fun v u k wr => ∃ j : Nat, j ≤ xs.length ∧ k = .int .i64 j ∧ u = .int .u64 (intoOf s (pairsTo xs i j) : Nat) ∧ AnyAt w w2 (pairsTo xs i j) v wr) (fun _ _ k _ => xs.length - (intOf k).toNat)
        case atStart => exact ⟨0, Nat.zero_le _, rfl, rfl, hW⟩
        case round =>
          obtain ⟨j, hj, rfl, rfl, hW⟩ := hrel
          by_cases hjl : j < xs.length
          · have hxr := (hx0.below hB).below hW.2.1
            have hat := at_any a xs.length ca i j xs wr hxr hil hl
            have hlen := pairsTo_len xs i j (by omega) (by omega)
            have hlt := intoOf_lt s (pairsTo xs i j)
            cases hp : (R.row xs i).testBit j
            · rw [hp] at hat
              have HAT := Lib.hid hat
              have HNX := Lib.hid (pairsTo_miss xs i j hp)
              clear hat hp hxr
              go_wp2_with fail
              refine HAT.out.mono ?_
              rintro e w4 ⟨rfl, rfl⟩
              go_wp2
              go_roundw
              case rel => exact ⟨j + 1, by omega, by go_num, by rw [HNX.out], by rw [HNX.out]; exact hW⟩
              case measure => simp [intOf]; omega
            · rw [hp] at hat
              have HAT := Lib.hid hat
              have HNX := Lib.hid (pairsTo_hit xs i j hp)
              have HSN := Lib.hid (intoOf_snoc s (pairsTo xs i j) (i, j))
              have hown := hW.1
              have hszr := hW.2.1.size
              have hil2 := ipairs_len (pairsTo xs i j)
              have hile : (ipairs (pairsTo xs i j)).length ≤ 4160 := by omega
              clear hat hp hxr hil2
              cases hsb : s.testBit i
              · have hhs := rhas_any s i
                rw [M.hasB_nat s i hs, hsb] at hhs
                have HHS := Lib.hid hhs
                have HU : Hid (intoOf s (pairsTo xs i (j + 1)) = intoOf s (pairsTo xs i j)) := show _ = _ by rw [HNX.out, HSN.out]; simp [hsb]
                clear hhs hsb
                go_wp2_with fail
                refine HAT.out.mono ?_
                rintro e w4 ⟨rfl, rfl⟩
                go_wp2_with (at_builtin; refine wpList_append_own _ rfl (.tmp 44) (.tmp 48) 25 rfl w2.heap.size 28 i0 (.agg #[.int .i64 0, .int .i64 0]) 2 16 Tryd.underlying25 HI.out HZ0.out HZ1.out HZ2.out rfl (by decide) _ _ _ rfl (hown.alloc _) ⟨wr.heap.size, 0, none⟩ 1 1 [.int .i64 (i : Nat), .int .i64 (j : Nat)] rfl rfl (cell_two_new _ _ _ _) (by intro u hu; simp at hu; rcases hu with rfl | rfl <;> rfl) (by unfold maxLen; omega) (by omega) (by simp; omega) ?_; intro v' w3 hown2 hgrow2 _)
                refine (HHS.out _ hs).mono ?_
                rintro e w4 ⟨rfl, rfl⟩
                go_wp2
                go_roundw
                case rel => exact ⟨j + 1, by omega, by go_num, by rw [HU.out], by rw [HNX.out]; exact hW.next hown2 hgrow2⟩
                case measure => simp [intOf]; omega
              · have hhs := rhas_any s i
                rw [M.hasB_nat s i hs, hsb] at hhs
                have HHS := Lib.hid hhs
                have HU : Hid (intoOf s (pairsTo xs i (j + 1)) = M.putN (intoOf s (pairsTo xs i j)) (j : Int)) := show _ = _ by rw [HNX.out, HSN.out]; simp [hsb]
                clear hhs hsb
                go_wp2_with fail
                refine HAT.out.mono ?_
                rintro e w4 ⟨rfl, rfl⟩
                go_wp2_with (at_builtin; refine wpList_append_own _ rfl (.tmp 44) (.tmp 48) 25 rfl w2.heap.size 28 i0 (.agg #[.int .i64 0, .int .i64 0]) 2 16 Tryd.underlying25 HI.out HZ0.out HZ1.out HZ2.out rfl (by decide) _ _ _ rfl (hown.alloc _) ⟨wr.heap.size, 0, none⟩ 1 1 [.int .i64 (i : Nat), .int .i64 (j : Nat)] rfl rfl (cell_two_new _ _ _ _) (by intro u hu; simp at hu; rcases hu with rfl | rfl <;> rfl) (by unfold maxLen; omega) (by omega) (by simp; omega) ?_; intro v' w3 hown2 hgrow2 _)
                refine (HHS.out _ hs).mono ?_
                rintro e w4 ⟨rfl, rfl⟩
                go_wp2_with fail
                refine (rput_any _ _ _ hlt).mono ?_
                rintro e w4 ⟨rfl, rfl⟩
                go_wp2
                go_roundw
                case rel => exact ⟨j + 1, by omega, by go_num, by rw [HU.out], by rw [HNX.out]; exact hW.next hown2 hgrow2⟩
                case measure => simp [intOf]; omega
          · obtain rfl : j = xs.length := by omega
            have HNX := Lib.hid (pairsTo_row hR i)
            go_wp2
            go_roundw
            case rel => exact ⟨i + 1, by omega, by go_num, by rw [HNX.out], by rw [HNX.out]; exact hW⟩
            case measure => simp [intOf]; omega
      · obtain rfl : i = xs.length := by omega
        have HPF := Lib.hid (pairsTo_full hR)
        have HIN := Lib.hid (into_pairs hR s)
        rw [HPF.out] at hW ⊢
        rw [HIN.out]
        obtain ⟨hown, hb, _⟩ := hW
        obtain ⟨ap, cp, rfl, hp⟩ := pairs_of_own hown (by rw [← count_pairs]; have := count_le hR; omega)
        replace hB := hB.trans (hb.mono hB.size)
        clear hb hown
        by_cases x0 : 0 ≤ x
        · by_cases x1 : x < (xs.length : Int)
          · obtain ⟨k, rfl⟩ : ∃ k : Nat, x = (k : Int) := ⟨x.toNat, by omega⟩
            have hkl : k < xs.length := by omega
            have hwk := hwx k
            have HH : Hid (R.hasR xs (k : Int) y = M.hasB (R.row xs k) y) := show _ = _ by
              unfold R.hasR
              rw [HM.out, decide_eq_true ⟨x0, x1⟩, Int.toNat_natCast]
              simp
            have hbb : (M.hasB (R.row xs k) y != M.hasB (R.row xs k) y) = false := by simp
            go_wp2_with fail
            with_reducible refine (rmay_any _ _ _ xs _ (hx0.below hB)).mono ?_
            rw [HM.out]
            rintro e w4 ⟨rfl, hb⟩
            replace hB := hB.trans (hb.mono hB.size)
            replace hp := hp.below hb
            clear hb
            have hxr := hx0.below hB
            obtain ⟨bb, off, rfl, hc⟩ := hxr.at (by omega)
            have hck := hc k hkl
            have HX0 := Lib.hid hx0
            clear hc hxr
            go_wp2_with fail
            refine (rhas_any _ _ _ hwk).mono ?_
            rintro e w5 ⟨rfl, rfl⟩
            clear hck
            go_wp2_with fail
            with_reducible refine (may_any' _ _ _ xs _ (HX0.out.below hB) (hTb.below hB)).mono ?_
            rw [HM.out]
            rintro e w51 ⟨rfl, hb⟩
            replace hB := hB.trans (hb.mono hB.size)
            replace hp := hp.below hb
            clear hb
            go_wp2_with fail
            with_reducible refine (rmay_any _ _ _ xs _ (HX0.out.below hB)).mono ?_
            rw [HM.out]
            rintro e w52 ⟨rfl, hb⟩
            replace hB := hB.trans (hb.mono hB.size)
            replace hp := hp.below hb
            clear hb
            go_wp2_with fail
            with_reducible refine (pairsR_any _ _ _ xs _ (HX0.out.below hB) (hTb.below hB)).mono ?_
            rintro e w53 ⟨aq, cq, rfl, hq, hb⟩
            replace hB := hB.trans (hb.mono hB.size)
            replace hp := hp.below hb
            clear hb
            go_wp2_with fail
            with_reducible refine (same_any _ _ _ _ _ _ _ hq hp).mono ?_
            rintro e w54 ⟨rfl, hb⟩
            replace hB := hB.trans (hb.mono hB.size)
            replace hp := hp.below hb
            replace hq := hq.below hb
            clear hb
            clear hq
            go_wp2_with fail
            with_reducible refine (hasR_any _ _ _ (k : Nat) y xs _ (HX0.out.below hB) (hTb.below hB)).mono ?_
            rw [HH.out]
            rintro e w55 ⟨rfl, hb⟩
            replace hB := hB.trans (hb.mono hB.size)
            replace hp := hp.below hb
            clear hb
            go_wp2_with fail
            with_reducible refine (countR_any _ _ _ xs _ (HX0.out.below hB) (hTb.below hB)).mono ?_
            rw [HCP.out]
            rintro e w56 ⟨rfl, hb⟩
            replace hB := hB.trans (hb.mono hB.size)
            replace hp := hp.below hb
            clear hb
            clear hp
            go_wp2_with fail
            with_reducible refine (sameR_any _ _ _ _ _ _ xs ys _ (HX0.out.below hB) (hy0.below hB)).mono ?_
            rintro e w57 ⟨rfl, hb⟩
            replace hB := hB.trans (hb.mono hB.size)
            clear hb
            go_wp2_with fail
            with_reducible refine (rsameR_any _ _ _ _ _ _ xs ys _ (HX0.out.below hB) (hy0.below hB)).mono ?_
            rintro e w58 ⟨rfl, hb⟩
            replace hB := hB.trans (hb.mono hB.size)
            clear hb
            go_wp2_with fail
            with_reducible refine (intoR_any _ _ _ s xs _ (HX0.out.below hB) (hTb.below hB) hs).mono ?_
            rintro e w59 ⟨rfl, hb⟩
            replace hB := hB.trans (hb.mono hB.size)
            clear hb
            go_wp2_with fail
            with_reducible refine (andR_any _ _ _ _ _ _ xs ys _ (HX0.out.below hB) (hy0.below hB) (hTb.below hB)).mono ?_
            rintro e w60 ⟨amand, cmand, rfl, hmand, hb⟩
            replace hB := hB.trans (hb.mono hB.size)
            clear hb
            go_wp2_with fail
            with_reducible refine (rand_any _ _ _ _ _ _ xs ys _ (HX0.out.below hB) (hy0.below hB)).mono ?_
            rintro e w61 ⟨anand, cnand, rfl, hnand, hb⟩
            replace hB := hB.trans (hb.mono hB.size)
            replace hmand := hmand.below hb
            clear hb
            go_wp2_with fail
            with_reducible refine (rsameR_any _ _ _ _ _ _ _ _ _ hmand hnand).mono ?_
            rw [decide_eq_true rfl]
            rintro e w62 ⟨rfl, hb⟩
            replace hB := hB.trans (hb.mono hB.size)
            replace hmand := hmand.below hb
            replace hnand := hnand.below hb
            clear hb
            clear hmand
            clear hnand
            go_wp2_with fail
            with_reducible refine (orR_any _ _ _ _ _ _ xs ys _ (HX0.out.below hB) (hy0.below hB) (hTb.below hB)).mono ?_
            rintro e w63 ⟨amor, cmor, rfl, hmor, hb⟩
            replace hB := hB.trans (hb.mono hB.size)
            clear hb
            go_wp2_with fail
            with_reducible refine (ror_any _ _ _ _ _ _ xs ys _ (HX0.out.below hB) (hy0.below hB)).mono ?_
            rintro e w64 ⟨anor, cnor, rfl, hnor, hb⟩
            replace hB := hB.trans (hb.mono hB.size)
            replace hmor := hmor.below hb
            clear hb
            go_wp2_with fail
            with_reducible refine (rsameR_any _ _ _ _ _ _ _ _ _ hmor hnor).mono ?_
            rw [decide_eq_true rfl]
            rintro e w65 ⟨rfl, hb⟩
            replace hB := hB.trans (hb.mono hB.size)
            replace hmor := hmor.below hb
            replace hnor := hnor.below hb
            clear hb
            clear hmor
            clear hnor
            go_wp2_with fail
            with_reducible refine (lessR_any _ _ _ _ _ _ xs ys _ (HX0.out.below hB) (hy0.below hB) (hTb.below hB)).mono ?_
            rintro e w66 ⟨amless, cmless, rfl, hmless, hb⟩
            replace hB := hB.trans (hb.mono hB.size)
            clear hb
            go_wp2_with fail
            with_reducible refine (rless_any _ _ _ _ _ _ xs ys _ (HX0.out.below hB) (hy0.below hB)).mono ?_
            rintro e w67 ⟨anless, cnless, rfl, hnless, hb⟩
            replace hB := hB.trans (hb.mono hB.size)
            replace hmless := hmless.below hb
            clear hb
            go_wp2_with fail
            with_reducible refine (rsameR_any _ _ _ _ _ _ _ _ _ hmless hnless).mono ?_
            rw [decide_eq_true rfl]
            rintro e w68 ⟨rfl, hb⟩
            replace hB := hB.trans (hb.mono hB.size)
            replace hmless := hmless.below hb
            replace hnless := hnless.below hb
            clear hb
            clear hmless
            clear hnless
            go_wp2_with fail
            with_reducible refine (backR_any _ _ _ xs _ (HX0.out.below hB) (hTb.below hB)).mono ?_
            rintro e w69 ⟨amb, cmb, rfl, hmb, hb⟩
            replace hB := hB.trans (hb.mono hB.size)
            clear hb
            go_wp2_with fail
            with_reducible refine (rback_any _ _ _ xs _ (HX0.out.below hB)).mono ?_
            rintro e w70 ⟨anb, cnb, rfl, hnb, hb⟩
            replace hB := hB.trans (hb.mono hB.size)
            replace hmb := hmb.below hb
            clear hb
            go_wp2_with fail
            with_reducible refine (rsameR_any _ _ _ _ _ _ _ _ _ hmb hnb).mono ?_
            rw [decide_eq_true rfl]
            rintro e w71 ⟨rfl, hb⟩
            replace hB := hB.trans (hb.mono hB.size)
            replace hmb := hmb.below hb
            replace hnb := hnb.below hb
            clear hb
            clear hmb
            clear hnb
            go_wp2_with fail
            with_reducible refine (keepR_any _ _ _ s xs _ (HX0.out.below hB) (hTb.below hB) hs).mono ?_
            rintro e w72 ⟨amk, cmk, rfl, hmk, hb⟩
            replace hB := hB.trans (hb.mono hB.size)
            clear hb
            go_wp2_with fail
            with_reducible refine (rkeep_any _ _ _ s xs _ (HX0.out.below hB) hs).mono ?_
            rintro e w73 ⟨ank, cnk, rfl, hnk, hb⟩
            replace hB := hB.trans (hb.mono hB.size)
            replace hmk := hmk.below hb
            clear hb
            go_wp2_with fail
            with_reducible refine (rsameR_any _ _ _ _ _ _ _ _ _ hmk hnk).mono ?_
            rw [decide_eq_true rfl]
            rintro e w74 ⟨rfl, hb⟩
            replace hB := hB.trans (hb.mono hB.size)
            replace hmk := hmk.below hb
            replace hnk := hnk.below hb
            clear hb
            clear hmk
            clear hnk
            go_wp2
            go_ret
            exact ⟨rfl, hB⟩
          · have HH : Hid (R.hasR xs x y = false) := show _ = _ by simp [R.hasR, x1]
            go_wp2_with fail
            with_reducible refine (rmay_any _ _ _ xs _ (hx0.below hB)).mono ?_
            rw [HM.out]
            rintro e w4 ⟨rfl, hb⟩
            replace hB := hB.trans (hb.mono hB.size)
            replace hp := hp.below hb
            clear hb
            go_wp2_with fail
            with_reducible refine (may_any' _ _ _ xs _ (hx0.below hB) (hTb.below hB)).mono ?_
            rw [HM.out]
            rintro e w51 ⟨rfl, hb⟩
            replace hB := hB.trans (hb.mono hB.size)
            replace hp := hp.below hb
            clear hb
            go_wp2_with fail
            with_reducible refine (rmay_any _ _ _ xs _ (hx0.below hB)).mono ?_
            rw [HM.out]
            rintro e w52 ⟨rfl, hb⟩
            replace hB := hB.trans (hb.mono hB.size)
            replace hp := hp.below hb
            clear hb
            go_wp2_with fail
            with_reducible refine (pairsR_any _ _ _ xs _ (hx0.below hB) (hTb.below hB)).mono ?_
            rintro e w53 ⟨aq, cq, rfl, hq, hb⟩
            replace hB := hB.trans (hb.mono hB.size)
            replace hp := hp.below hb
            clear hb
            go_wp2_with fail
            with_reducible refine (same_any _ _ _ _ _ _ _ hq hp).mono ?_
            rintro e w54 ⟨rfl, hb⟩
            replace hB := hB.trans (hb.mono hB.size)
            replace hp := hp.below hb
            replace hq := hq.below hb
            clear hb
            clear hq
            go_wp2_with fail
            with_reducible refine (hasR_any _ _ _ x y xs _ (hx0.below hB) (hTb.below hB)).mono ?_
            rw [HH.out]
            rintro e w55 ⟨rfl, hb⟩
            replace hB := hB.trans (hb.mono hB.size)
            replace hp := hp.below hb
            clear hb
            go_wp2_with fail
            with_reducible refine (countR_any _ _ _ xs _ (hx0.below hB) (hTb.below hB)).mono ?_
            rw [HCP.out]
            rintro e w56 ⟨rfl, hb⟩
            replace hB := hB.trans (hb.mono hB.size)
            replace hp := hp.below hb
            clear hb
            clear hp
            go_wp2_with fail
            with_reducible refine (sameR_any _ _ _ _ _ _ xs ys _ (hx0.below hB) (hy0.below hB)).mono ?_
            rintro e w57 ⟨rfl, hb⟩
            replace hB := hB.trans (hb.mono hB.size)
            clear hb
            go_wp2_with fail
            with_reducible refine (rsameR_any _ _ _ _ _ _ xs ys _ (hx0.below hB) (hy0.below hB)).mono ?_
            rintro e w58 ⟨rfl, hb⟩
            replace hB := hB.trans (hb.mono hB.size)
            clear hb
            go_wp2_with fail
            with_reducible refine (intoR_any _ _ _ s xs _ (hx0.below hB) (hTb.below hB) hs).mono ?_
            rintro e w59 ⟨rfl, hb⟩
            replace hB := hB.trans (hb.mono hB.size)
            clear hb
            go_wp2_with fail
            with_reducible refine (andR_any _ _ _ _ _ _ xs ys _ (hx0.below hB) (hy0.below hB) (hTb.below hB)).mono ?_
            rintro e w60 ⟨amand, cmand, rfl, hmand, hb⟩
            replace hB := hB.trans (hb.mono hB.size)
            clear hb
            go_wp2_with fail
            with_reducible refine (rand_any _ _ _ _ _ _ xs ys _ (hx0.below hB) (hy0.below hB)).mono ?_
            rintro e w61 ⟨anand, cnand, rfl, hnand, hb⟩
            replace hB := hB.trans (hb.mono hB.size)
            replace hmand := hmand.below hb
            clear hb
            go_wp2_with fail
            with_reducible refine (rsameR_any _ _ _ _ _ _ _ _ _ hmand hnand).mono ?_
            rw [decide_eq_true rfl]
            rintro e w62 ⟨rfl, hb⟩
            replace hB := hB.trans (hb.mono hB.size)
            replace hmand := hmand.below hb
            replace hnand := hnand.below hb
            clear hb
            clear hmand
            clear hnand
            go_wp2_with fail
            with_reducible refine (orR_any _ _ _ _ _ _ xs ys _ (hx0.below hB) (hy0.below hB) (hTb.below hB)).mono ?_
            rintro e w63 ⟨amor, cmor, rfl, hmor, hb⟩
            replace hB := hB.trans (hb.mono hB.size)
            clear hb
            go_wp2_with fail
            with_reducible refine (ror_any _ _ _ _ _ _ xs ys _ (hx0.below hB) (hy0.below hB)).mono ?_
            rintro e w64 ⟨anor, cnor, rfl, hnor, hb⟩
            replace hB := hB.trans (hb.mono hB.size)
            replace hmor := hmor.below hb
            clear hb
            go_wp2_with fail
            with_reducible refine (rsameR_any _ _ _ _ _ _ _ _ _ hmor hnor).mono ?_
            rw [decide_eq_true rfl]
            rintro e w65 ⟨rfl, hb⟩
            replace hB := hB.trans (hb.mono hB.size)
            replace hmor := hmor.below hb
            replace hnor := hnor.below hb
            clear hb
            clear hmor
            clear hnor
            go_wp2_with fail
            with_reducible refine (lessR_any _ _ _ _ _ _ xs ys _ (hx0.below hB) (hy0.below hB) (hTb.below hB)).mono ?_
            rintro e w66 ⟨amless, cmless, rfl, hmless, hb⟩
            replace hB := hB.trans (hb.mono hB.size)
            clear hb
            go_wp2_with fail
            with_reducible refine (rless_any _ _ _ _ _ _ xs ys _ (hx0.below hB) (hy0.below hB)).mono ?_
            rintro e w67 ⟨anless, cnless, rfl, hnless, hb⟩
            replace hB := hB.trans (hb.mono hB.size)
            replace hmless := hmless.below hb
            clear hb
            go_wp2_with fail
            with_reducible refine (rsameR_any _ _ _ _ _ _ _ _ _ hmless hnless).mono ?_
            rw [decide_eq_true rfl]
            rintro e w68 ⟨rfl, hb⟩
            replace hB := hB.trans (hb.mono hB.size)
            replace hmless := hmless.below hb
            replace hnless := hnless.below hb
            clear hb
            clear hmless
            clear hnless
            go_wp2_with fail
            with_reducible refine (backR_any _ _ _ xs _ (hx0.below hB) (hTb.below hB)).mono ?_
            rintro e w69 ⟨amb, cmb, rfl, hmb, hb⟩
            replace hB := hB.trans (hb.mono hB.size)
            clear hb
            go_wp2_with fail
            with_reducible refine (rback_any _ _ _ xs _ (hx0.below hB)).mono ?_
            rintro e w70 ⟨anb, cnb, rfl, hnb, hb⟩
            replace hB := hB.trans (hb.mono hB.size)
            replace hmb := hmb.below hb
            clear hb
            go_wp2_with fail
            with_reducible refine (rsameR_any _ _ _ _ _ _ _ _ _ hmb hnb).mono ?_
            rw [decide_eq_true rfl]
            rintro e w71 ⟨rfl, hb⟩
            replace hB := hB.trans (hb.mono hB.size)
            replace hmb := hmb.below hb
            replace hnb := hnb.below hb
            clear hb
            clear hmb
            clear hnb
            go_wp2_with fail
            with_reducible refine (keepR_any _ _ _ s xs _ (hx0.below hB) (hTb.below hB) hs).mono ?_
            rintro e w72 ⟨amk, cmk, rfl, hmk, hb⟩
            replace hB := hB.trans (hb.mono hB.size)
            clear hb
            go_wp2_with fail
            with_reducible refine (rkeep_any _ _ _ s xs _ (hx0.below hB) hs).mono ?_
            rintro e w73 ⟨ank, cnk, rfl, hnk, hb⟩
            replace hB := hB.trans (hb.mono hB.size)
            replace hmk := hmk.below hb
            clear hb
            go_wp2_with fail
            with_reducible refine (rsameR_any _ _ _ _ _ _ _ _ _ hmk hnk).mono ?_
            rw [decide_eq_true rfl]
            rintro e w74 ⟨rfl, hb⟩
            replace hB := hB.trans (hb.mono hB.size)
            replace hmk := hmk.below hb
            replace hnk := hnk.below hb
            clear hb
            clear hmk
            clear hnk
            go_wp2
            go_ret
            exact ⟨rfl, hB⟩
        · have HH : Hid (R.hasR xs x y = false) := show _ = _ by simp [R.hasR, x0]
          go_wp2_with fail
          with_reducible refine (rmay_any _ _ _ xs _ (hx0.below hB)).mono ?_
          rw [HM.out]
          rintro e w4 ⟨rfl, hb⟩
          replace hB := hB.trans (hb.mono hB.size)
          replace hp := hp.below hb
          clear hb
          go_wp2_with fail
          with_reducible refine (may_any' _ _ _ xs _ (hx0.below hB) (hTb.below hB)).mono ?_
          rw [HM.out]
          rintro e w51 ⟨rfl, hb⟩
          replace hB := hB.trans (hb.mono hB.size)
          replace hp := hp.below hb
          clear hb
          go_wp2_with fail
          with_reducible refine (rmay_any _ _ _ xs _ (hx0.below hB)).mono ?_
          rw [HM.out]
          rintro e w52 ⟨rfl, hb⟩
          replace hB := hB.trans (hb.mono hB.size)
          replace hp := hp.below hb
          clear hb
          go_wp2_with fail
          with_reducible refine (pairsR_any _ _ _ xs _ (hx0.below hB) (hTb.below hB)).mono ?_
          rintro e w53 ⟨aq, cq, rfl, hq, hb⟩
          replace hB := hB.trans (hb.mono hB.size)
          replace hp := hp.below hb
          clear hb
          go_wp2_with fail
          with_reducible refine (same_any _ _ _ _ _ _ _ hq hp).mono ?_
          rintro e w54 ⟨rfl, hb⟩
          replace hB := hB.trans (hb.mono hB.size)
          replace hp := hp.below hb
          replace hq := hq.below hb
          clear hb
          clear hq
          go_wp2_with fail
          with_reducible refine (hasR_any _ _ _ x y xs _ (hx0.below hB) (hTb.below hB)).mono ?_
          rw [HH.out]
          rintro e w55 ⟨rfl, hb⟩
          replace hB := hB.trans (hb.mono hB.size)
          replace hp := hp.below hb
          clear hb
          go_wp2_with fail
          with_reducible refine (countR_any _ _ _ xs _ (hx0.below hB) (hTb.below hB)).mono ?_
          rw [HCP.out]
          rintro e w56 ⟨rfl, hb⟩
          replace hB := hB.trans (hb.mono hB.size)
          replace hp := hp.below hb
          clear hb
          clear hp
          go_wp2_with fail
          with_reducible refine (sameR_any _ _ _ _ _ _ xs ys _ (hx0.below hB) (hy0.below hB)).mono ?_
          rintro e w57 ⟨rfl, hb⟩
          replace hB := hB.trans (hb.mono hB.size)
          clear hb
          go_wp2_with fail
          with_reducible refine (rsameR_any _ _ _ _ _ _ xs ys _ (hx0.below hB) (hy0.below hB)).mono ?_
          rintro e w58 ⟨rfl, hb⟩
          replace hB := hB.trans (hb.mono hB.size)
          clear hb
          go_wp2_with fail
          with_reducible refine (intoR_any _ _ _ s xs _ (hx0.below hB) (hTb.below hB) hs).mono ?_
          rintro e w59 ⟨rfl, hb⟩
          replace hB := hB.trans (hb.mono hB.size)
          clear hb
          go_wp2_with fail
          with_reducible refine (andR_any _ _ _ _ _ _ xs ys _ (hx0.below hB) (hy0.below hB) (hTb.below hB)).mono ?_
          rintro e w60 ⟨amand, cmand, rfl, hmand, hb⟩
          replace hB := hB.trans (hb.mono hB.size)
          clear hb
          go_wp2_with fail
          with_reducible refine (rand_any _ _ _ _ _ _ xs ys _ (hx0.below hB) (hy0.below hB)).mono ?_
          rintro e w61 ⟨anand, cnand, rfl, hnand, hb⟩
          replace hB := hB.trans (hb.mono hB.size)
          replace hmand := hmand.below hb
          clear hb
          go_wp2_with fail
          with_reducible refine (rsameR_any _ _ _ _ _ _ _ _ _ hmand hnand).mono ?_
          rw [decide_eq_true rfl]
          rintro e w62 ⟨rfl, hb⟩
          replace hB := hB.trans (hb.mono hB.size)
          replace hmand := hmand.below hb
          replace hnand := hnand.below hb
          clear hb
          clear hmand
          clear hnand
          go_wp2_with fail
          with_reducible refine (orR_any _ _ _ _ _ _ xs ys _ (hx0.below hB) (hy0.below hB) (hTb.below hB)).mono ?_
          rintro e w63 ⟨amor, cmor, rfl, hmor, hb⟩
          replace hB := hB.trans (hb.mono hB.size)
          clear hb
          go_wp2_with fail
          with_reducible refine (ror_any _ _ _ _ _ _ xs ys _ (hx0.below hB) (hy0.below hB)).mono ?_
          rintro e w64 ⟨anor, cnor, rfl, hnor, hb⟩
          replace hB := hB.trans (hb.mono hB.size)
          replace hmor := hmor.below hb
          clear hb
          go_wp2_with fail
          with_reducible refine (rsameR_any _ _ _ _ _ _ _ _ _ hmor hnor).mono ?_
          rw [decide_eq_true rfl]
          rintro e w65 ⟨rfl, hb⟩
          replace hB := hB.trans (hb.mono hB.size)
          replace hmor := hmor.below hb
          replace hnor := hnor.below hb
          clear hb
          clear hmor
          clear hnor
          go_wp2_with fail
          with_reducible refine (lessR_any _ _ _ _ _ _ xs ys _ (hx0.below hB) (hy0.below hB) (hTb.below hB)).mono ?_
          rintro e w66 ⟨amless, cmless, rfl, hmless, hb⟩
          replace hB := hB.trans (hb.mono hB.size)
          clear hb
          go_wp2_with fail
          with_reducible refine (rless_any _ _ _ _ _ _ xs ys _ (hx0.below hB) (hy0.below hB)).mono ?_
          rintro e w67 ⟨anless, cnless, rfl, hnless, hb⟩
          replace hB := hB.trans (hb.mono hB.size)
          replace hmless := hmless.below hb
          clear hb
          go_wp2_with fail
          with_reducible refine (rsameR_any _ _ _ _ _ _ _ _ _ hmless hnless).mono ?_
          rw [decide_eq_true rfl]
          rintro e w68 ⟨rfl, hb⟩
          replace hB := hB.trans (hb.mono hB.size)
          replace hmless := hmless.below hb
          replace hnless := hnless.below hb
          clear hb
          clear hmless
          clear hnless
          go_wp2_with fail
          with_reducible refine (backR_any _ _ _ xs _ (hx0.below hB) (hTb.below hB)).mono ?_
          rintro e w69 ⟨amb, cmb, rfl, hmb, hb⟩
          replace hB := hB.trans (hb.mono hB.size)
          clear hb
          go_wp2_with fail
          with_reducible refine (rback_any _ _ _ xs _ (hx0.below hB)).mono ?_
          rintro e w70 ⟨anb, cnb, rfl, hnb, hb⟩
          replace hB := hB.trans (hb.mono hB.size)
          replace hmb := hmb.below hb
          clear hb
          go_wp2_with fail
          with_reducible refine (rsameR_any _ _ _ _ _ _ _ _ _ hmb hnb).mono ?_
          rw [decide_eq_true rfl]
          rintro e w71 ⟨rfl, hb⟩
          replace hB := hB.trans (hb.mono hB.size)
          replace hmb := hmb.below hb
          replace hnb := hnb.below hb
          clear hb
          clear hmb
          clear hnb
          go_wp2_with fail
          with_reducible refine (keepR_any _ _ _ s xs _ (hx0.below hB) (hTb.below hB) hs).mono ?_
          rintro e w72 ⟨amk, cmk, rfl, hmk, hb⟩
          replace hB := hB.trans (hb.mono hB.size)
          clear hb
          go_wp2_with fail
          with_reducible refine (rkeep_any _ _ _ s xs _ (hx0.below hB) hs).mono ?_
          rintro e w73 ⟨ank, cnk, rfl, hnk, hb⟩
          replace hB := hB.trans (hb.mono hB.size)
          replace hmk := hmk.below hb
          clear hb
          go_wp2_with fail
          with_reducible refine (rsameR_any _ _ _ _ _ _ _ _ _ hmk hnk).mono ?_
          rw [decide_eq_true rfl]
          rintro e w74 ⟨rfl, hb⟩
          replace hB := hB.trans (hb.mono hB.size)
          replace hmk := hmk.below hb
          replace hnk := hnk.below hb
          clear hb
          clear hmk
          clear hnk
          go_wp2
          go_ret
          exact ⟨rfl, hB⟩
end Go.Proofs.YtafdbocepepcgaaDoor
