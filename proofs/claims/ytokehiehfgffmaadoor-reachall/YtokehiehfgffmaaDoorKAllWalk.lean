/-
  The statement ReachAll's own call returns true, whatever the arguments, and leaves what was there as it was.
-/
import Derived.Test.YtokehiehfgffmaaDoorKBegun
import Derived.Test.YtokehiehfgffmaaDoorKAllMath
import Derived.Test.YtokehiehfgffmaaDoorThenWalk
namespace Go.Proofs.YtokehiehfgffmaaDoor
open Go.RowKit
set_option linter.unusedVariables false
set_option linter.unusedSimpArgs false

theorem row_of_blk {w : World} {g n : Nat} {xs : List Nat} (h : Blk w g 23 (words xs)) (hl : xs.length = n) (hn : n ≤ 64) (hw : R.Words xs) : IsWords w (some ⟨g, 0, none⟩) n xs := h.words hl (by omega) hw
def KPutR (n : Nat) (ps : List Nat) (w w2 : World) (gp : Nat) (k : Value) (wr : World) : Prop :=
  ∃ j : Nat, j ≤ n ∧ k = .int .i64 j ∧ Blk wr gp 23 (words (starTo ps j)) ∧ Below w.heap.size w wr ∧ Below w2.heap.size w2 wr
def KOutR (n : Nat) (x : List Nat) (s : Nat) (wo : World) (t l u k : Value) (wr : World) : Prop :=
  ∃ (i : Nat) (b : Bool) (lo up : Nat), t = .bool b ∧ l = .int .u64 (lo : Nat) ∧ u = .int .u64 (up : Nat) ∧ k = .int .i64 i ∧ i ≤ n ∧ AllS n x s i 0 b lo up ∧ wr = wo
def KInR (n : Nat) (x : List Nat) (s i : Nat) (wo : World) (t l u k : Value) (wr : World) : Prop :=
  ∃ (j : Nat) (b : Bool) (lo up : Nat), t = .bool b ∧ l = .int .u64 (lo : Nat) ∧ u = .int .u64 (up : Nat) ∧ k = .int .i64 j ∧ j ≤ n ∧ AllS n x s i j b lo up ∧ wr = wo
set_option maxHeartbeats 8000000 in
set_option maxRecDepth 100000 in
theorem kall_walk (a0 : Option Addr) (l0 c0 : Nat) (b0 : List Nat) (m : Nat) (down : Bool) (s : Nat) (w : World)
    (hg : 0 < w.heap.size) (hT : Tab w) (h0 : IsBytes w a0 l0 b0) (hm : m < 256) (hs : s < 2 ^ 64) :
    Calls Tryd.prog 3 #[.slice a0 l0 c0, .int .u8 (m : Nat), .bool down, .int .u64 (s : Nat)] w (Good w) := by
  have hTb : Tb w := ⟨hT, hg⟩
  have m0 := h0.2.1
  obtain ⟨n, hn⟩ : ∃ n, n = m % 16 + 1 := ⟨_, rfl⟩
  have hn16 : n ≤ 16 := by omega
  have hn1 : 1 ≤ n := by omega
  have HN := Lib.hid hn
  clear hn
  go_enter Tryd.func3, Tryd.ntmps3
  go_wp2_with fail
  refine (begun3_any w hTb).mono ?_
  rintro e w1 ⟨rfl, hB⟩
  by_cases q0 : 60 < l0
  · go_wp2
    go_ret
    exact ⟨rfl, hB⟩
  go_wp2_with fail
  with_reducible refine (ksome_any a0 l0 c0 m n down b0 _ HN.out (h0.below hB) hm (by omega)).mono ?_
  rintro e w2 ⟨x, ax, cx, hR, _, rfl, hx, hb⟩
  replace hB := hB.trans (hb.mono hB.size)
  clear hb
  have hX := Below.refl w2.heap.size w2
  have hmay := hR.2.2
  have hxl : x.length = n := hR.1
  have hpl : (plusR x).length = n := (plus_rel hR).1
  have hpw := (plus_rel hR).2.1
  have hsl : (starR x).length = n := (star_rel hR).1
  have hsw := (star_rel hR).2.1
  have HFULL : Hid (starTo (plusR x) n = starR x) := show starTo (plusR x) n = starR x by rw [← hpl]; exact starTo_full x
  have HP0 : Hid (R.mayR x = true → 0 < n) := fun _ => by omega
  have HOA := Lib.hid (ord_acy hR)
  have HR := Lib.hid hR
  have hw2 := hB.size
  have HPL := Lib.hid hpl
  have HSL := Lib.hid hsl
  clear hR hpl hsl
  go_wp2_with fail
  with_reducible refine (rplus_may ax n cx x _ (hx.below hX) hmay).mono ?_
  rintro e w3 ⟨gp, rfl, hgp, hP, hb⟩
  rw [hxl]
  clear hxl
  replace hB := hB.trans (hb.mono hB.size)
  replace hX := hX.trans (hb.mono hX.size)
  clear hb
  go_wp2_with fail
  with_reducible refine (lorder_may ax n cx x _ (hx.below hX) hmay).mono ?_
  rw [HOA.out]
  rintro e w4 ⟨a1, c1, rfl, h1, hb⟩
  replace hP := hP.below hb hP.lt
  replace hB := hB.trans (hb.mono hB.size)
  replace hX := hX.trans (hb.mono hX.size)
  clear hb
  go_wp2_with fail
  with_reducible refine (order_any ax n cx x _ (hx.below hX) (hTb.below hB)).mono ?_
  rw [HOA.out]
  rintro e w5 ⟨a2, c2, rfl, h2, hb⟩
  replace hP := hP.below hb hP.lt
  replace h1 := h1.below hb
  replace hB := hB.trans (hb.mono hB.size)
  replace hX := hX.trans (hb.mono hX.size)
  clear hb
  go_wp2_with fail
  with_reducible refine (ldeep_may ax n cx x _ (hx.below hX) hmay (by omega)).mono ?_
  rintro e w6 ⟨a3, c3, rfl, h3, hb⟩
  replace hP := hP.below hb hP.lt
  replace h1 := h1.below hb
  replace h2 := h2.below hb
  replace hB := hB.trans (hb.mono hB.size)
  replace hX := hX.trans (hb.mono hX.size)
  clear hb
  go_wp2_with fail
  with_reducible refine (deep_any ax n cx x _ (hx.below hX) (hTb.below hB)).mono ?_
  rintro e w7 ⟨a4, c4, rfl, h4, hb⟩
  replace hP := hP.below hb hP.lt
  replace h1 := h1.below hb
  replace h2 := h2.below hb
  replace h3 := h3.below hb
  replace hB := hB.trans (hb.mono hB.size)
  replace hX := hX.trans (hb.mono hX.size)
  clear hb
  go_wp2_with fail
  with_reducible refine (plusR_gives ax n cx x _ (hx.below hX) (hTb.below hB) HP0.out).mono ?_
  rintro e w8 ⟨a5, c5, rfl, h5, hb⟩
  replace hP := hP.below hb hP.lt
  replace h1 := h1.below hb
  replace h2 := h2.below hb
  replace h3 := h3.below hb
  replace h4 := h4.below hb
  replace hB := hB.trans (hb.mono hB.size)
  replace hX := hX.trans (hb.mono hX.size)
  clear hb
  go_wp2_with fail
  with_reducible refine (rsameR_any _ _ _ _ _ _ (plusR x) (plusR x) _ h5 (row_of_blk hP HPL.out (by omega) hpw)).mono ?_
  rw [decide_eq_true rfl]
  rintro e w9 ⟨rfl, hb⟩
  replace hP := hP.below hb hP.lt
  replace h1 := h1.below hb
  replace h2 := h2.below hb
  replace h3 := h3.below hb
  replace h4 := h4.below hb
  replace h5 := h5.below hb
  replace hB := hB.trans (hb.mono hB.size)
  replace hX := hX.trans (hb.mono hX.size)
  clear hb
  clear h5
  go_wp2_with fail
  with_reducible refine (acyclic_any ax n cx x _ (hx.below hX) (hTb.below hB)).mono ?_
  rintro e w10 ⟨rfl, hb⟩
  replace hP := hP.below hb hP.lt
  replace h1 := h1.below hb
  replace h2 := h2.below hb
  replace h3 := h3.below hb
  replace h4 := h4.below hb
  replace hB := hB.trans (hb.mono hB.size)
  replace hX := hX.trans (hb.mono hX.size)
  clear hb
  go_wp2_with fail
  with_reducible refine (racyclic_may ax n cx x _ (hx.below hX) hmay).mono ?_
  rintro e w11 ⟨rfl, hb⟩
  replace hP := hP.below hb hP.lt
  replace h1 := h1.below hb
  replace h2 := h2.below hb
  replace h3 := h3.below hb
  replace h4 := h4.below hb
  replace hB := hB.trans (hb.mono hB.size)
  replace hX := hX.trans (hb.mono hX.size)
  clear hb
  have hbb : (acyB x != acyB x) = false := by simp
  go_wp2_with fail
  with_reducible refine (rsame_any _ _ _ _ _ _ _ h1 h2).mono ?_
  rintro e w12 ⟨rfl, hb, _⟩
  replace hP := hP.below hb hP.lt
  replace h1 := h1.below hb
  replace h2 := h2.below hb
  replace h3 := h3.below hb
  replace h4 := h4.below hb
  replace hB := hB.trans (hb.mono hB.size)
  replace hX := hX.trans (hb.mono hX.size)
  clear hb
  clear h1
  clear h2
  go_wp2_with fail
  with_reducible refine (rsame_any _ _ _ _ _ _ _ h3 h4).mono ?_
  rintro e w13 ⟨rfl, hb, _⟩
  replace hP := hP.below hb hP.lt
  replace h3 := h3.below hb
  replace h4 := h4.below hb
  replace hB := hB.trans (hb.mono hB.size)
  replace hX := hX.trans (hb.mono hX.size)
  clear hb
  clear h3
  clear h4
  clear hbb
  have hgpw : w.heap.size ≤ gp := by omega
  go_wp2
  go_loopw [22] (fun k wr => KPutR n (plusR x) w w2 gp k wr) (fun k _ => n - (intOf k).toNat)
  case atStart => exact ⟨0, Nat.zero_le _, rfl, by rw [starTo_zero]; exact hP, hB, hX⟩
  case round =>
    clear hB hX hP
    obtain ⟨j, hj, rfl, hP, hB, hX⟩ := hrel
    by_cases hjn : j < n
    · have cj : wr.cell? ⟨gp, j, none⟩ = some (.int .u64 (R.row (plusR x) j : Nat)) := by rw [hP.cell, words_at _ _ (by rw [starTo_len, HPL.out]; exact hjn), starTo_j _ _ (by rw [HPL.out]; exact hjn)]
      have fj := hP.free j
      have hwj := hpw j
      have hst := hP.set j (.int .u64 (M.putN (R.row (plusR x) j) (j : Int) : Nat))
      rw [words_set, starTo_next _ _ (by rw [HPL.out]; exact hjn)] at hst
      have HST := Lib.hid hst
      have HB1 := Lib.hid (hB.setCell (p := ⟨gp, j, none⟩) hgpw (.int .u64 (M.putN (R.row (plusR x) j) (j : Int) : Nat)))
      have HX1 := Lib.hid (hX.setCell (p := ⟨gp, j, none⟩) hgp (.int .u64 (M.putN (R.row (plusR x) j) (j : Int) : Nat)))
      have i1 : (0 : Int) ≤ (j : Int) := by omega
      have i2 : (j : Int) < (n : Int) := by omega
      clear hst hP hB hX
      go_wp2_with fail
      refine (rput_any _ _ _ hwj).mono ?_
      rintro e w' ⟨rfl, rfl⟩
      go_wp2
      go_roundw
      case rel => exact ⟨j + 1, by omega, by go_num, HST.out, HB1.out, HX1.out⟩
      case measure => simp [intOf]; omega
    · obtain rfl : j = n := by omega
      rw [HFULL.out] at hP
      have HBo := Lib.hid hB
      have HXo := Lib.hid hX
      have HPo := Lib.hid hP
      have hxr := hx.below hX
      have hpr := row_of_blk hP HSL.out (by omega) hsw
      clear hB hX hP
      go_wp2
      go_loopw [19, 20, 21, 23] (fun t l u k w' => KOutR j x s wr t l u k w') (fun _ _ _ k _ => j - (intOf k).toNat)
      case atStart => exact ⟨0, true, 0, 0, rfl, rfl, rfl, rfl, Nat.zero_le _, AllS.start _ _ _, rfl⟩
      case round =>
        obtain ⟨i, b, lo, up, rfl, rfl, rfl, rfl, hi, hS, rfl⟩ := hrel
        have HS := Lib.hid hS
        clear hS
        by_cases hin : i < j
        · go_wp2
          go_loopw [19, 20, 21, 24] (fun t l u k w' => KInR j x s i wr t l u k w') (fun _ _ _ k _ => j - (intOf k).toNat)
          case atStart => exact ⟨0, b, lo, up, rfl, rfl, rfl, rfl, Nat.zero_le _, HS.out, rfl⟩
          case round =>
            clear HS
            obtain ⟨k, b, lo, up, rfl, rfl, rfl, rfl, hk, hS, rfl⟩ := hrel
            have hlo := hS.ll
            have hup := hS.ul
            have HS := Lib.hid hS
            clear hS
            by_cases hkn : k < j
            · have HSI := rhas_any s (i : Int) wr hs
              rw [M.hasB_nat s i hs] at HSI
              have HSK := rhas_any s (k : Int) wr hs
              rw [M.hasB_nat s k hs] at HSK
              have HA := at_any ax j cx i k x wr hxr hin (by omega)
              have HC := at_any ax j cx k i x wr hxr hkn (by omega)
              have HP := at_any (some ⟨gp, 0, none⟩) j j i k (starR x) wr hpr hin (by omega)
              have HLO := Lib.hid (rput_any lo (i : Int) wr hlo)
              have HUP := Lib.hid (rput_any up (k : Int) wr hup)
              have hi64 : i < 64 := by omega
              have hk64 : k < 64 := by omega
              by_cases hik : i = k
              · have hq : decide (i = k) = true := by simpa using hik
                have hne : ((i : Int) != (k : Int)) = false := by simp; omega
                clear hik
                cases hp : (R.row (starR x) i).testBit k
                · rw [hp] at HP
                  clear HSI
                  clear HSK
                  clear HA
                  clear HC
                  have Dp := Lib.hid HP
                  clear HP
                  have HNX : Hid (AllS j x s i (k + 1) b lo up) := show AllS j x s i (k + 1) b lo up from HS.out.step hi64 hk64 true _ _ _ _ false hq rfl rfl rfl rfl hp
                  clear hq hp
                  go_wp2_with fail
                  with_reducible refine Dp.out.mono ?_
                  rintro e w' ⟨rfl, rfl⟩
                  go_wp2_with fail
                  with_reducible refine Dp.out.mono ?_
                  rintro e w' ⟨rfl, rfl⟩
                  go_wp2
                  go_roundw
                  case rel => exact ⟨k + 1, b, lo, up, rfl, rfl, rfl, by go_num, by omega, HNX.out, rfl⟩
                  case measure => simp [intOf]; omega
                · rw [hp] at HP
                  cases hsk : s.testBit k
                  · rw [hsk] at HSK
                    cases hsi : s.testBit i
                    · rw [hsi] at HSI
                      have Dsi := Lib.hid HSI
                      clear HSI
                      have Dsk := Lib.hid HSK
                      clear HSK
                      clear HA
                      clear HC
                      have Dp := Lib.hid HP
                      clear HP
                      have HNX : Hid (AllS j x s i (k + 1) b lo up) := show AllS j x s i (k + 1) b lo up from HS.out.step hi64 hk64 true false false _ _ true hq hsi hsk rfl rfl hp
                      clear hq hsi hsk hp
                      go_wp2_with fail
                      with_reducible refine Dp.out.mono ?_
                      rintro e w' ⟨rfl, rfl⟩
                      go_wp2_with fail
                      with_reducible refine Dsk.out.mono ?_
                      rintro e w' ⟨rfl, rfl⟩
                      go_wp2_with fail
                      with_reducible refine Dp.out.mono ?_
                      rintro e w' ⟨rfl, rfl⟩
                      go_wp2_with fail
                      with_reducible refine Dsi.out.mono ?_
                      rintro e w' ⟨rfl, rfl⟩
                      go_wp2
                      go_roundw
                      case rel => exact ⟨k + 1, b, lo, up, rfl, rfl, rfl, by go_num, by omega, HNX.out, rfl⟩
                      case measure => simp [intOf]; omega
                    · rw [hsi] at HSI
                      have Dsi := Lib.hid HSI
                      clear HSI
                      have Dsk := Lib.hid HSK
                      clear HSK
                      clear HA
                      clear HC
                      have Dp := Lib.hid HP
                      clear HP
                      have HNX : Hid (AllS j x s i (k + 1) b lo (M.putN up (k : Nat))) := show AllS j x s i (k + 1) b lo (M.putN up (k : Nat)) from HS.out.step hi64 hk64 true true false _ _ true hq hsi hsk rfl rfl hp
                      clear hq hsi hsk hp
                      go_wp2_with fail
                      with_reducible refine Dp.out.mono ?_
                      rintro e w' ⟨rfl, rfl⟩
                      go_wp2_with fail
                      with_reducible refine Dsk.out.mono ?_
                      rintro e w' ⟨rfl, rfl⟩
                      go_wp2_with fail
                      with_reducible refine Dp.out.mono ?_
                      rintro e w' ⟨rfl, rfl⟩
                      go_wp2_with fail
                      with_reducible refine Dsi.out.mono ?_
                      rintro e w' ⟨rfl, rfl⟩
                      go_wp2_with fail
                      with_reducible refine HUP.out.mono ?_
                      rintro e w' ⟨rfl, rfl⟩
                      go_wp2
                      go_roundw
                      case rel => exact ⟨k + 1, b, lo, (M.putN up (k : Nat)), rfl, rfl, rfl, by go_num, by omega, HNX.out, rfl⟩
                      case measure => simp [intOf]; omega
                  · rw [hsk] at HSK
                    cases hsi : s.testBit i
                    · rw [hsi] at HSI
                      have Dsi := Lib.hid HSI
                      clear HSI
                      have Dsk := Lib.hid HSK
                      clear HSK
                      clear HA
                      clear HC
                      have Dp := Lib.hid HP
                      clear HP
                      have HNX : Hid (AllS j x s i (k + 1) b (M.putN lo (i : Nat)) up) := show AllS j x s i (k + 1) b (M.putN lo (i : Nat)) up from HS.out.step hi64 hk64 true false true _ _ true hq hsi hsk rfl rfl hp
                      clear hq hsi hsk hp
                      go_wp2_with fail
                      with_reducible refine Dp.out.mono ?_
                      rintro e w' ⟨rfl, rfl⟩
                      go_wp2_with fail
                      with_reducible refine Dsk.out.mono ?_
                      rintro e w' ⟨rfl, rfl⟩
                      go_wp2_with fail
                      with_reducible refine HLO.out.mono ?_
                      rintro e w' ⟨rfl, rfl⟩
                      go_wp2_with fail
                      with_reducible refine Dp.out.mono ?_
                      rintro e w' ⟨rfl, rfl⟩
                      go_wp2_with fail
                      with_reducible refine Dsi.out.mono ?_
                      rintro e w' ⟨rfl, rfl⟩
                      go_wp2
                      go_roundw
                      case rel => exact ⟨k + 1, b, (M.putN lo (i : Nat)), up, rfl, rfl, rfl, by go_num, by omega, HNX.out, rfl⟩
                      case measure => simp [intOf]; omega
                    · rw [hsi] at HSI
                      have Dsi := Lib.hid HSI
                      clear HSI
                      have Dsk := Lib.hid HSK
                      clear HSK
                      clear HA
                      clear HC
                      have Dp := Lib.hid HP
                      clear HP
                      have HNX : Hid (AllS j x s i (k + 1) b (M.putN lo (i : Nat)) (M.putN up (k : Nat))) := show AllS j x s i (k + 1) b (M.putN lo (i : Nat)) (M.putN up (k : Nat)) from HS.out.step hi64 hk64 true true true _ _ true hq hsi hsk rfl rfl hp
                      clear hq hsi hsk hp
                      go_wp2_with fail
                      with_reducible refine Dp.out.mono ?_
                      rintro e w' ⟨rfl, rfl⟩
                      go_wp2_with fail
                      with_reducible refine Dsk.out.mono ?_
                      rintro e w' ⟨rfl, rfl⟩
                      go_wp2_with fail
                      with_reducible refine HLO.out.mono ?_
                      rintro e w' ⟨rfl, rfl⟩
                      go_wp2_with fail
                      with_reducible refine Dp.out.mono ?_
                      rintro e w' ⟨rfl, rfl⟩
                      go_wp2_with fail
                      with_reducible refine Dsi.out.mono ?_
                      rintro e w' ⟨rfl, rfl⟩
                      go_wp2_with fail
                      with_reducible refine HUP.out.mono ?_
                      rintro e w' ⟨rfl, rfl⟩
                      go_wp2
                      go_roundw
                      case rel => exact ⟨k + 1, b, (M.putN lo (i : Nat)), (M.putN up (k : Nat)), rfl, rfl, rfl, by go_num, by omega, HNX.out, rfl⟩
                      case measure => simp [intOf]; omega
              · have hq : decide (i = k) = false := by simpa using hik
                have hne : ((i : Int) != (k : Int)) = true := by simp; omega
                clear hik
                cases hsi : s.testBit i
                · rw [hsi] at HSI
                  cases hp : (R.row (starR x) i).testBit k
                  · rw [hp] at HP
                    have Dsi := Lib.hid HSI
                    clear HSI
                    clear HSK
                    clear HA
                    clear HC
                    have Dp := Lib.hid HP
                    clear HP
                    have HNX : Hid (AllS j x s i (k + 1) b lo up) := show AllS j x s i (k + 1) b lo up from HS.out.step hi64 hk64 false false _ _ _ false hq hsi rfl rfl rfl hp
                    clear hq hsi hp
                    go_wp2_with fail
                    with_reducible refine Dsi.out.mono ?_
                    rintro e w' ⟨rfl, rfl⟩
                    go_wp2_with fail
                    with_reducible refine Dp.out.mono ?_
                    rintro e w' ⟨rfl, rfl⟩
                    go_wp2_with fail
                    with_reducible refine Dp.out.mono ?_
                    rintro e w' ⟨rfl, rfl⟩
                    go_wp2
                    go_roundw
                    case rel => exact ⟨k + 1, b, lo, up, rfl, rfl, rfl, by go_num, by omega, HNX.out, rfl⟩
                    case measure => simp [intOf]; omega
                  · rw [hp] at HP
                    cases hsk : s.testBit k
                    · rw [hsk] at HSK
                      have Dsi := Lib.hid HSI
                      clear HSI
                      have Dsk := Lib.hid HSK
                      clear HSK
                      clear HA
                      clear HC
                      have Dp := Lib.hid HP
                      clear HP
                      have HNX : Hid (AllS j x s i (k + 1) b lo up) := show AllS j x s i (k + 1) b lo up from HS.out.step hi64 hk64 false false false _ _ true hq hsi hsk rfl rfl hp
                      clear hq hsi hsk hp
                      go_wp2_with fail
                      with_reducible refine Dsi.out.mono ?_
                      rintro e w' ⟨rfl, rfl⟩
                      go_wp2_with fail
                      with_reducible refine Dp.out.mono ?_
                      rintro e w' ⟨rfl, rfl⟩
                      go_wp2_with fail
                      with_reducible refine Dsk.out.mono ?_
                      rintro e w' ⟨rfl, rfl⟩
                      go_wp2_with fail
                      with_reducible refine Dp.out.mono ?_
                      rintro e w' ⟨rfl, rfl⟩
                      go_wp2_with fail
                      with_reducible refine Dsi.out.mono ?_
                      rintro e w' ⟨rfl, rfl⟩
                      go_wp2
                      go_roundw
                      case rel => exact ⟨k + 1, b, lo, up, rfl, rfl, rfl, by go_num, by omega, HNX.out, rfl⟩
                      case measure => simp [intOf]; omega
                    · rw [hsk] at HSK
                      have Dsi := Lib.hid HSI
                      clear HSI
                      have Dsk := Lib.hid HSK
                      clear HSK
                      clear HA
                      clear HC
                      have Dp := Lib.hid HP
                      clear HP
                      have HNX : Hid (AllS j x s i (k + 1) b (M.putN lo (i : Nat)) up) := show AllS j x s i (k + 1) b (M.putN lo (i : Nat)) up from HS.out.step hi64 hk64 false false true _ _ true hq hsi hsk rfl rfl hp
                      clear hq hsi hsk hp
                      go_wp2_with fail
                      with_reducible refine Dsi.out.mono ?_
                      rintro e w' ⟨rfl, rfl⟩
                      go_wp2_with fail
                      with_reducible refine Dp.out.mono ?_
                      rintro e w' ⟨rfl, rfl⟩
                      go_wp2_with fail
                      with_reducible refine Dsk.out.mono ?_
                      rintro e w' ⟨rfl, rfl⟩
                      go_wp2_with fail
                      with_reducible refine HLO.out.mono ?_
                      rintro e w' ⟨rfl, rfl⟩
                      go_wp2_with fail
                      with_reducible refine Dp.out.mono ?_
                      rintro e w' ⟨rfl, rfl⟩
                      go_wp2_with fail
                      with_reducible refine Dsi.out.mono ?_
                      rintro e w' ⟨rfl, rfl⟩
                      go_wp2
                      go_roundw
                      case rel => exact ⟨k + 1, b, (M.putN lo (i : Nat)), up, rfl, rfl, rfl, by go_num, by omega, HNX.out, rfl⟩
                      case measure => simp [intOf]; omega
                · rw [hsi] at HSI
                  cases hsk : s.testBit k
                  · rw [hsk] at HSK
                    cases hp : (R.row (starR x) i).testBit k
                    · rw [hp] at HP
                      have Dsi := Lib.hid HSI
                      clear HSI
                      have Dsk := Lib.hid HSK
                      clear HSK
                      clear HA
                      clear HC
                      have Dp := Lib.hid HP
                      clear HP
                      have HNX : Hid (AllS j x s i (k + 1) b lo up) := show AllS j x s i (k + 1) b lo up from HS.out.step hi64 hk64 false true false _ _ false hq hsi hsk rfl rfl hp
                      clear hq hsi hsk hp
                      go_wp2_with fail
                      with_reducible refine Dsi.out.mono ?_
                      rintro e w' ⟨rfl, rfl⟩
                      go_wp2_with fail
                      with_reducible refine Dsk.out.mono ?_
                      rintro e w' ⟨rfl, rfl⟩
                      go_wp2_with fail
                      with_reducible refine Dp.out.mono ?_
                      rintro e w' ⟨rfl, rfl⟩
                      go_wp2_with fail
                      with_reducible refine Dp.out.mono ?_
                      rintro e w' ⟨rfl, rfl⟩
                      go_wp2
                      go_roundw
                      case rel => exact ⟨k + 1, b, lo, up, rfl, rfl, rfl, by go_num, by omega, HNX.out, rfl⟩
                      case measure => simp [intOf]; omega
                    · rw [hp] at HP
                      have Dsi := Lib.hid HSI
                      clear HSI
                      have Dsk := Lib.hid HSK
                      clear HSK
                      clear HA
                      clear HC
                      have Dp := Lib.hid HP
                      clear HP
                      have HNX : Hid (AllS j x s i (k + 1) b lo (M.putN up (k : Nat))) := show AllS j x s i (k + 1) b lo (M.putN up (k : Nat)) from HS.out.step hi64 hk64 false true false _ _ true hq hsi hsk rfl rfl hp
                      clear hq hsi hsk hp
                      go_wp2_with fail
                      with_reducible refine Dsi.out.mono ?_
                      rintro e w' ⟨rfl, rfl⟩
                      go_wp2_with fail
                      with_reducible refine Dsk.out.mono ?_
                      rintro e w' ⟨rfl, rfl⟩
                      go_wp2_with fail
                      with_reducible refine Dp.out.mono ?_
                      rintro e w' ⟨rfl, rfl⟩
                      go_wp2_with fail
                      with_reducible refine Dsk.out.mono ?_
                      rintro e w' ⟨rfl, rfl⟩
                      go_wp2_with fail
                      with_reducible refine Dp.out.mono ?_
                      rintro e w' ⟨rfl, rfl⟩
                      go_wp2_with fail
                      with_reducible refine Dsi.out.mono ?_
                      rintro e w' ⟨rfl, rfl⟩
                      go_wp2_with fail
                      with_reducible refine HUP.out.mono ?_
                      rintro e w' ⟨rfl, rfl⟩
                      go_wp2
                      go_roundw
                      case rel => exact ⟨k + 1, b, lo, (M.putN up (k : Nat)), rfl, rfl, rfl, by go_num, by omega, HNX.out, rfl⟩
                      case measure => simp [intOf]; omega
                  · rw [hsk] at HSK
                    cases ha : (R.row x i).testBit k
                    · rw [ha] at HA
                      cases hc : (R.row x k).testBit i
                      · rw [hc] at HC
                        cases hp : (R.row (starR x) i).testBit k
                        · rw [hp] at HP
                          have Dsi := Lib.hid HSI
                          clear HSI
                          have Dsk := Lib.hid HSK
                          clear HSK
                          have Da := Lib.hid HA
                          clear HA
                          have Dc := Lib.hid HC
                          clear HC
                          have Dp := Lib.hid HP
                          clear HP
                          have HNX : Hid (AllS j x s i (k + 1) false lo up) := show AllS j x s i (k + 1) false lo up from HS.out.step hi64 hk64 false true true false false false hq hsi hsk ha hc hp
                          clear hq hsi hsk ha hc hp
                          go_wp2_with fail
                          with_reducible refine Dsi.out.mono ?_
                          rintro e w' ⟨rfl, rfl⟩
                          go_wp2_with fail
                          with_reducible refine Dsk.out.mono ?_
                          rintro e w' ⟨rfl, rfl⟩
                          go_wp2_with fail
                          with_reducible refine Da.out.mono ?_
                          rintro e w' ⟨rfl, rfl⟩
                          go_wp2_with fail
                          with_reducible refine Dc.out.mono ?_
                          rintro e w' ⟨rfl, rfl⟩
                          go_wp2_with fail
                          with_reducible refine Dp.out.mono ?_
                          rintro e w' ⟨rfl, rfl⟩
                          go_wp2_with fail
                          with_reducible refine Dp.out.mono ?_
                          rintro e w' ⟨rfl, rfl⟩
                          go_wp2
                          go_roundw
                          case rel => exact ⟨k + 1, false, lo, up, rfl, rfl, rfl, by go_num, by omega, HNX.out, rfl⟩
                          case measure => simp [intOf]; omega
                        · rw [hp] at HP
                          have Dsi := Lib.hid HSI
                          clear HSI
                          have Dsk := Lib.hid HSK
                          clear HSK
                          have Da := Lib.hid HA
                          clear HA
                          have Dc := Lib.hid HC
                          clear HC
                          have Dp := Lib.hid HP
                          clear HP
                          have HNX : Hid (AllS j x s i (k + 1) false (M.putN lo (i : Nat)) (M.putN up (k : Nat))) := show AllS j x s i (k + 1) false (M.putN lo (i : Nat)) (M.putN up (k : Nat)) from HS.out.step hi64 hk64 false true true false false true hq hsi hsk ha hc hp
                          clear hq hsi hsk ha hc hp
                          go_wp2_with fail
                          with_reducible refine Dsi.out.mono ?_
                          rintro e w' ⟨rfl, rfl⟩
                          go_wp2_with fail
                          with_reducible refine Dsk.out.mono ?_
                          rintro e w' ⟨rfl, rfl⟩
                          go_wp2_with fail
                          with_reducible refine Da.out.mono ?_
                          rintro e w' ⟨rfl, rfl⟩
                          go_wp2_with fail
                          with_reducible refine Dc.out.mono ?_
                          rintro e w' ⟨rfl, rfl⟩
                          go_wp2_with fail
                          with_reducible refine Dp.out.mono ?_
                          rintro e w' ⟨rfl, rfl⟩
                          go_wp2_with fail
                          with_reducible refine Dsk.out.mono ?_
                          rintro e w' ⟨rfl, rfl⟩
                          go_wp2_with fail
                          with_reducible refine HLO.out.mono ?_
                          rintro e w' ⟨rfl, rfl⟩
                          go_wp2_with fail
                          with_reducible refine Dp.out.mono ?_
                          rintro e w' ⟨rfl, rfl⟩
                          go_wp2_with fail
                          with_reducible refine Dsi.out.mono ?_
                          rintro e w' ⟨rfl, rfl⟩
                          go_wp2_with fail
                          with_reducible refine HUP.out.mono ?_
                          rintro e w' ⟨rfl, rfl⟩
                          go_wp2
                          go_roundw
                          case rel => exact ⟨k + 1, false, (M.putN lo (i : Nat)), (M.putN up (k : Nat)), rfl, rfl, rfl, by go_num, by omega, HNX.out, rfl⟩
                          case measure => simp [intOf]; omega
                      · rw [hc] at HC
                        cases hp : (R.row (starR x) i).testBit k
                        · rw [hp] at HP
                          have Dsi := Lib.hid HSI
                          clear HSI
                          have Dsk := Lib.hid HSK
                          clear HSK
                          have Da := Lib.hid HA
                          clear HA
                          have Dc := Lib.hid HC
                          clear HC
                          have Dp := Lib.hid HP
                          clear HP
                          have HNX : Hid (AllS j x s i (k + 1) b lo up) := show AllS j x s i (k + 1) b lo up from HS.out.step hi64 hk64 false true true false true false hq hsi hsk ha hc hp
                          clear hq hsi hsk ha hc hp
                          go_wp2_with fail
                          with_reducible refine Dsi.out.mono ?_
                          rintro e w' ⟨rfl, rfl⟩
                          go_wp2_with fail
                          with_reducible refine Dsk.out.mono ?_
                          rintro e w' ⟨rfl, rfl⟩
                          go_wp2_with fail
                          with_reducible refine Da.out.mono ?_
                          rintro e w' ⟨rfl, rfl⟩
                          go_wp2_with fail
                          with_reducible refine Dc.out.mono ?_
                          rintro e w' ⟨rfl, rfl⟩
                          go_wp2_with fail
                          with_reducible refine Dp.out.mono ?_
                          rintro e w' ⟨rfl, rfl⟩
                          go_wp2_with fail
                          with_reducible refine Dp.out.mono ?_
                          rintro e w' ⟨rfl, rfl⟩
                          go_wp2
                          go_roundw
                          case rel => exact ⟨k + 1, b, lo, up, rfl, rfl, rfl, by go_num, by omega, HNX.out, rfl⟩
                          case measure => simp [intOf]; omega
                        · rw [hp] at HP
                          have Dsi := Lib.hid HSI
                          clear HSI
                          have Dsk := Lib.hid HSK
                          clear HSK
                          have Da := Lib.hid HA
                          clear HA
                          have Dc := Lib.hid HC
                          clear HC
                          have Dp := Lib.hid HP
                          clear HP
                          have HNX : Hid (AllS j x s i (k + 1) b (M.putN lo (i : Nat)) (M.putN up (k : Nat))) := show AllS j x s i (k + 1) b (M.putN lo (i : Nat)) (M.putN up (k : Nat)) from HS.out.step hi64 hk64 false true true false true true hq hsi hsk ha hc hp
                          clear hq hsi hsk ha hc hp
                          go_wp2_with fail
                          with_reducible refine Dsi.out.mono ?_
                          rintro e w' ⟨rfl, rfl⟩
                          go_wp2_with fail
                          with_reducible refine Dsk.out.mono ?_
                          rintro e w' ⟨rfl, rfl⟩
                          go_wp2_with fail
                          with_reducible refine Da.out.mono ?_
                          rintro e w' ⟨rfl, rfl⟩
                          go_wp2_with fail
                          with_reducible refine Dc.out.mono ?_
                          rintro e w' ⟨rfl, rfl⟩
                          go_wp2_with fail
                          with_reducible refine Dp.out.mono ?_
                          rintro e w' ⟨rfl, rfl⟩
                          go_wp2_with fail
                          with_reducible refine Dsk.out.mono ?_
                          rintro e w' ⟨rfl, rfl⟩
                          go_wp2_with fail
                          with_reducible refine HLO.out.mono ?_
                          rintro e w' ⟨rfl, rfl⟩
                          go_wp2_with fail
                          with_reducible refine Dp.out.mono ?_
                          rintro e w' ⟨rfl, rfl⟩
                          go_wp2_with fail
                          with_reducible refine Dsi.out.mono ?_
                          rintro e w' ⟨rfl, rfl⟩
                          go_wp2_with fail
                          with_reducible refine HUP.out.mono ?_
                          rintro e w' ⟨rfl, rfl⟩
                          go_wp2
                          go_roundw
                          case rel => exact ⟨k + 1, b, (M.putN lo (i : Nat)), (M.putN up (k : Nat)), rfl, rfl, rfl, by go_num, by omega, HNX.out, rfl⟩
                          case measure => simp [intOf]; omega
                    · rw [ha] at HA
                      cases hp : (R.row (starR x) i).testBit k
                      · rw [hp] at HP
                        have Dsi := Lib.hid HSI
                        clear HSI
                        have Dsk := Lib.hid HSK
                        clear HSK
                        have Da := Lib.hid HA
                        clear HA
                        clear HC
                        have Dp := Lib.hid HP
                        clear HP
                        have HNX : Hid (AllS j x s i (k + 1) b lo up) := show AllS j x s i (k + 1) b lo up from HS.out.step hi64 hk64 false true true true _ false hq hsi hsk ha rfl hp
                        clear hq hsi hsk ha hp
                        go_wp2_with fail
                        with_reducible refine Dsi.out.mono ?_
                        rintro e w' ⟨rfl, rfl⟩
                        go_wp2_with fail
                        with_reducible refine Dsk.out.mono ?_
                        rintro e w' ⟨rfl, rfl⟩
                        go_wp2_with fail
                        with_reducible refine Da.out.mono ?_
                        rintro e w' ⟨rfl, rfl⟩
                        go_wp2_with fail
                        with_reducible refine Dp.out.mono ?_
                        rintro e w' ⟨rfl, rfl⟩
                        go_wp2_with fail
                        with_reducible refine Dp.out.mono ?_
                        rintro e w' ⟨rfl, rfl⟩
                        go_wp2
                        go_roundw
                        case rel => exact ⟨k + 1, b, lo, up, rfl, rfl, rfl, by go_num, by omega, HNX.out, rfl⟩
                        case measure => simp [intOf]; omega
                      · rw [hp] at HP
                        have Dsi := Lib.hid HSI
                        clear HSI
                        have Dsk := Lib.hid HSK
                        clear HSK
                        have Da := Lib.hid HA
                        clear HA
                        clear HC
                        have Dp := Lib.hid HP
                        clear HP
                        have HNX : Hid (AllS j x s i (k + 1) b (M.putN lo (i : Nat)) (M.putN up (k : Nat))) := show AllS j x s i (k + 1) b (M.putN lo (i : Nat)) (M.putN up (k : Nat)) from HS.out.step hi64 hk64 false true true true _ true hq hsi hsk ha rfl hp
                        clear hq hsi hsk ha hp
                        go_wp2_with fail
                        with_reducible refine Dsi.out.mono ?_
                        rintro e w' ⟨rfl, rfl⟩
                        go_wp2_with fail
                        with_reducible refine Dsk.out.mono ?_
                        rintro e w' ⟨rfl, rfl⟩
                        go_wp2_with fail
                        with_reducible refine Da.out.mono ?_
                        rintro e w' ⟨rfl, rfl⟩
                        go_wp2_with fail
                        with_reducible refine Dp.out.mono ?_
                        rintro e w' ⟨rfl, rfl⟩
                        go_wp2_with fail
                        with_reducible refine Dsk.out.mono ?_
                        rintro e w' ⟨rfl, rfl⟩
                        go_wp2_with fail
                        with_reducible refine HLO.out.mono ?_
                        rintro e w' ⟨rfl, rfl⟩
                        go_wp2_with fail
                        with_reducible refine Dp.out.mono ?_
                        rintro e w' ⟨rfl, rfl⟩
                        go_wp2_with fail
                        with_reducible refine Dsi.out.mono ?_
                        rintro e w' ⟨rfl, rfl⟩
                        go_wp2_with fail
                        with_reducible refine HUP.out.mono ?_
                        rintro e w' ⟨rfl, rfl⟩
                        go_wp2
                        go_roundw
                        case rel => exact ⟨k + 1, b, (M.putN lo (i : Nat)), (M.putN up (k : Nat)), rfl, rfl, rfl, by go_num, by omega, HNX.out, rfl⟩
                        case measure => simp [intOf]; omega
            · obtain rfl : k = j := by omega
              have HNX := Lib.hid HS.out.row
              go_wp2
              go_roundw
              case rel => exact ⟨i + 1, b, lo, up, rfl, rfl, rfl, by go_num, by omega, HNX.out, rfl⟩
              case measure => simp [intOf]; omega
        · obtain rfl : i = j := by omega
          obtain ⟨rfl, rfl, rfl⟩ := HS.out.done HR.out hs
          have hB := HBo.out
          have hX := HXo.out
          have hP := HPo.out
          clear hxr hpr
          go_wp2_with fail
          with_reducible refine (starR_gives ax i cx x _ (hx.below hX) (hTb.below hB) HP0.out).mono ?_
          rintro e w14 ⟨a6, c6, rfl, h6, hb⟩
          replace hP := hP.below hb hP.lt
          replace hB := hB.trans (hb.mono hB.size)
          replace hX := hX.trans (hb.mono hX.size)
          clear hb
          go_wp2_with fail
          with_reducible refine (rsameR_any _ _ _ _ _ _ (starR x) (starR x) _ h6 (row_of_blk hP HSL.out (by omega) hsw)).mono ?_
          rw [decide_eq_true rfl]
          rintro e w15 ⟨rfl, hb⟩
          replace hP := hP.below hb hP.lt
          replace hB := hB.trans (hb.mono hB.size)
          replace hX := hX.trans (hb.mono hX.size)
          clear hb h6
          have hbt : (totB x s == totB x s) = true := by simp
          go_wp2_with fail
          with_reducible refine (total_any ax i cx s x _ (hx.below hX) (hTb.below hB) hs).mono ?_
          rintro e w16 ⟨rfl, hb⟩
          replace hP := hP.below hb hP.lt
          replace hB := hB.trans (hb.mono hB.size)
          replace hX := hX.trans (hb.mono hX.size)
          clear hb
          go_wp2_with fail
          with_reducible refine (down_any ax i cx s x _ (hx.below hX) (hTb.below hB) hs).mono ?_
          rintro e w17 ⟨rfl, hb⟩
          replace hP := hP.below hb hP.lt
          replace hB := hB.trans (hb.mono hB.size)
          replace hX := hX.trans (hb.mono hX.size)
          clear hb
          go_wp2_with fail
          with_reducible refine (up_any ax i cx s x _ (hx.below hX) (hTb.below hB) hs).mono ?_
          rintro e w18 ⟨rfl, hb⟩
          replace hP := hP.below hb hP.lt
          replace hB := hB.trans (hb.mono hB.size)
          replace hX := hX.trans (hb.mono hX.size)
          clear hb
          go_wp2
          go_ret
          exact ⟨rfl, hB⟩
end Go.Proofs.YtokehiehfgffmaaDoor
