/-
  The statement RelFrom's own call returns true, whatever the number and the pairs, and leaves what was there as it was.
-/
import Derived.Test.YtafdbocepepcgaaDoorFMath
namespace Go.Proofs.YtafdbocepepcgaaDoor
open Go.RowKit
set_option linter.unusedVariables false
set_option linter.unusedSimpArgs false

/-- A list of rows and a yes. -/
def FromYes (xs : List Nat) (k : Nat) (w : World) (e : Ending) (w' : World) : Prop := ∃ a cap, e = .returned (.tuple #[.slice a k cap, .bool true]) ∧ IsWords w' a k xs ∧ Below w.heap.size w w'
theorem from_yes {k : Nat} {ps : List (Int × Int)} {xs : List Nat} (a : Option Addr) (len cap : Nat) (w : World) (hl : IsPairs w a len ps) (h : fromOk k ps = true) (hx : fromR k ps = xs) :
    Calls Tryd.prog 29 #[.int .i64 (k : Nat), .slice a len cap] w (FromYes xs k w) := by
  refine (from_any k a len cap ps w hl).mono ?_
  rintro e w' ⟨a', cap', rfl, hx', hb⟩
  have hlen : (fromR k ps).length = k := (from_rel h).1.1
  rw [hlen] at hx' ⊢
  rw [h]
  rw [hx] at hx'
  exact ⟨a', cap', rfl, hx', hb⟩
set_option maxHeartbeats 4000000 in
set_option maxRecDepth 100000 in
theorem from_walk_fit (k : Nat) (a : Option Addr) (len cap : Nat) (ps : List (Int × Int)) (w : World) (hTb : Tb w) (hp : IsPairs w a len ps) (hk : k ≤ 64) :
    Calls Tryd.prog 4 #[.int .i64 (k : Nat), .slice a len cap] w (Good w) := by
  obtain rfl : ps.length = len := hp.1
  have hm := hp.2.1
  have hf : R.fitsB (k : Int) = true := by simp [R.fitsB]; omega
  have HF := Lib.hid hf
  have HZ : Hid (mayTo k ps 0 = true) := show _ = _ by rw [mayTo_zero, hf]
  have i1 : (0 : Int) ≤ (k : Int) := by omega
  have i2 : (k : Int) ≤ 64 := by omega
  clear hf
  go_enter Tryd.func4, Tryd.ntmps4
  go_wp2_with fail
  with_reducible refine (begun2_any w hTb).mono ?_
  rintro e w1 ⟨rfl, hB⟩
  by_cases q0 : 60 < ps.length
  · go_wp2
    go_ret
    exact ⟨rfl, hB⟩
  go_wp2
  have hp1 := hp.below hB
  go_loop [5, 6] (fun v c => ∃ j : Nat, j ≤ ps.length ∧ c = .int .i64 j ∧ v = .bool (mayTo k ps j)) (fun _ c => ps.length - (intOf c).toNat)
  case atStart => exact ⟨0, Nat.zero_le _, rfl, by rw [HZ.out]⟩
  case round =>
    obtain ⟨j, hj, rfl, rfl⟩ := hrel
    by_cases hjl : j < ps.length
    · have hnx := mayTo_next k ps j hjl
      have j1 : (0 : Int) ≤ (j : Int) := by omega
      have j2 : (j : Int) < (ps.length : Int) := by omega
      cases hmt : mayTo k ps j
      · have HNX : Hid (mayTo k ps (j + 1) = false) := show _ = _ by rw [hnx, hmt]; rfl
        clear hnx hmt
        go_wp2
        go_round
        case rel => exact ⟨j + 1, by omega, by go_num, by rw [HNX.out]⟩
        case measure => simp [intOf]; omega
      · obtain ⟨b, off, rfl, hc⟩ := hp1.at (by omega)
        obtain ⟨c0, c1⟩ := hc j hjl
        have HNX : Hid (mayTo k ps (j + 1) = okP k (ps.getD j (0, 0))) := show _ = _ by rw [hnx, hmt]; rfl
        clear hnx hmt hc hp1
        generalize ps.getD j (0, 0) = p at *
        obtain ⟨x, y⟩ := p
        simp only at c0 c1
        have HO : Hid (okP k (x, y) = (decide (0 ≤ x ∧ x < k) && decide (0 ≤ y ∧ y < k))) := rfl
        by_cases x0 : 0 ≤ x
        · by_cases x1 : x < (k : Int)
          · by_cases y0 : 0 ≤ y
            · have HE : Hid (decide (y < (k : Int)) = mayTo k ps (j + 1)) := show _ = _ by rw [HNX.out, HO.out]; simp [x0, x1, y0]
              go_wp2
              go_round
              case rel => exact ⟨j + 1, by omega, by go_num, by rw [← HE.out]⟩
              case measure => simp [intOf]; omega
            · have HE : Hid (false = mayTo k ps (j + 1)) := show _ = _ by rw [HNX.out, HO.out]; simp [y0]
              go_wp2
              go_round
              case rel => exact ⟨j + 1, by omega, by go_num, by rw [← HE.out]⟩
              case measure => simp [intOf]; omega
          · have HE : Hid (false = mayTo k ps (j + 1)) := show _ = _ by rw [HNX.out, HO.out]; simp [x1]
            go_wp2
            go_round
            case rel => exact ⟨j + 1, by omega, by go_num, by rw [← HE.out]⟩
            case measure => simp [intOf]; omega
        · have HE : Hid (false = mayTo k ps (j + 1)) := show _ = _ by rw [HNX.out, HO.out]; simp [x0]
          go_wp2
          go_round
          case rel => exact ⟨j + 1, by omega, by go_num, by rw [← HE.out]⟩
          case measure => simp [intOf]; omega
    · obtain rfl : j = ps.length := by omega
      rw [mayTo_all]
      cases hok : fromOk k ps
      · have HNO := Lib.hid hok
        clear hok
        go_wp2_with fail
        with_reducible refine (from_none _ _ _ _ hp1 HNO.out).mono ?_
        rintro e w2 ⟨a2, c2, rfl, hb⟩
        replace hB := hB.trans (hb.mono hB.size)
        go_wp2
        go_ret
        exact ⟨rfl, hB⟩
      · have HOK := Lib.hid hok
        obtain ⟨hR, hmem⟩ := from_rel hok
        have HALL : Hid (∀ i j, isTo ps i j ps.length = (R.row (fromR k ps) i).testBit j) := fun i j => isTo_all hok i j
        obtain ⟨xs, hxs⟩ : ∃ xs, fromR k ps = xs := ⟨_, rfl⟩
        have HXS := Lib.hid hxs
        rw [hxs] at hR HALL
        clear hok hxs hmem
        go_wp2_with fail
        with_reducible refine (from_yes _ _ _ _ hp1 HOK.out HXS.out).mono ?_
        rintro e w2 ⟨ar, cr, rfl, hxw, hb⟩
        have hp2 := hp1.below hb
        replace hB := hB.trans (hb.mono hB.size)
        clear hb hp1
        have hat : FromAt w k ar xs w2 := ⟨hxw, hB⟩
        clear hxw hB hp2
        go_wp2
        go_loopw [9, 10] (fun c i wr => ∃ A : Nat, A ≤ k ∧ i = .int .i64 A ∧ c = .int .i64 (cntTo xs A 0 : Nat) ∧ FromAt w k ar xs wr) (fun _ i _ => k - (intOf i).toNat)
        case atStart => exact ⟨0, Nat.zero_le _, rfl, rfl, hat⟩
        case round =>
          obtain ⟨A, hA, rfl, rfl, hW⟩ := hrel
          by_cases hAk : A < k
          · go_wp2
            go_loopw [9, 11] (fun c i wr => ∃ B : Nat, B ≤ k ∧ i = .int .i64 B ∧ c = .int .i64 (cntTo xs A B : Nat) ∧ FromAt w k ar xs wr) (fun _ i _ => k - (intOf i).toNat)
            case atStart => exact ⟨0, Nat.zero_le _, rfl, rfl, hW⟩
            case round =>
              obtain ⟨B, hBk', rfl, rfl, hW⟩ := hrel
              by_cases hBk : B < k
              · have hpw := hp.below hW.2
                have hcle := cntTo_le hR A B (by omega) (by omega)
                go_wp2
                go_loop [12, 13] (fun v i => ∃ t : Nat, t ≤ ps.length ∧ i = .int .i64 t ∧ v = .bool (isTo ps A B t)) (fun _ i => ps.length - (intOf i).toNat)
                case atStart => exact ⟨0, Nat.zero_le _, rfl, by simp [isTo]⟩
                case round =>
                  obtain ⟨t, ht, rfl, rfl⟩ := hrel
                  by_cases htl : t < ps.length
                  · have hnx := isTo_next ps A B t htl
                    have j1 : (0 : Int) ≤ (t : Int) := by omega
                    have j2 : (t : Int) < (ps.length : Int) := by omega
                    cases his : isTo ps A B t
                    · obtain ⟨b, off, rfl, hc⟩ := hpw.at (by omega)
                      obtain ⟨c0, c1⟩ := hc t htl
                      rw [his, Bool.false_or] at hnx
                      generalize ps.getD t (0, 0) = p at *
                      obtain ⟨x, y⟩ := p
                      simp only at c0 c1 hnx
                      have heq := eqPair x y A B wr
                      rw [← hnx] at heq
                      clear his hc hnx
                      go_wp2
                      go_round
                      case rel => exact ⟨t + 1, by omega, by go_num, rfl⟩
                      case measure => simp [intOf]; omega
                    · rw [his, Bool.true_or] at hnx
                      have HNX := Lib.hid hnx
                      clear his hnx
                      go_wp2
                      go_round
                      case rel => exact ⟨t + 1, by omega, by go_num, by rw [HNX.out]⟩
                      case measure => simp [intOf]; omega
                  · obtain rfl : t = ps.length := by omega
                    obtain ⟨hxw, hBw⟩ := hW
                    have hhas := has_rel hR A B hAk
                    rw [HALL.out A B]
                    cases hbit : (R.row xs A).testBit B
                    · have HNX := Lib.hid (cntTo_miss xs A B hbit)
                      rw [hbit] at hhas
                      have HH := Lib.hid hhas
                      clear hbit hhas
                      go_wp2_with fail
                      with_reducible refine (hasR_any _ _ _ (A : Nat) (B : Nat) xs _ hxw (hTb.below hBw)).mono ?_
                      rw [HH.out]
                      rintro e w5 ⟨rfl, hb⟩
                      go_wp2
                      go_roundw
                      case rel => exact ⟨B + 1, by omega, by go_num, by rw [HNX.out], hxw.below hb, hBw.trans (hb.mono hBw.size)⟩
                      case measure => simp [intOf]; omega
                    · have HNX := Lib.hid (cntTo_hit xs A B hbit)
                      rw [hbit] at hhas
                      have HH := Lib.hid hhas
                      clear hbit hhas
                      go_wp2_with fail
                      with_reducible refine (hasR_any _ _ _ (A : Nat) (B : Nat) xs _ hxw (hTb.below hBw)).mono ?_
                      rw [HH.out]
                      rintro e w5 ⟨rfl, hb⟩
                      go_wp2
                      go_roundw
                      case rel => exact ⟨B + 1, by omega, by go_num, by rw [HNX.out]; go_num, hxw.below hb, hBw.trans (hb.mono hBw.size)⟩
                      case measure => simp [intOf]; omega
              · obtain rfl : B = k := by omega
                have HNX := Lib.hid (cntTo_row hR A)
                go_wp2
                go_roundw
                case rel => exact ⟨A + 1, by omega, by go_num, by rw [HNX.out], hW⟩
                case measure => simp [intOf]; omega
          · obtain rfl : A = k := by omega
            obtain ⟨hxw, hBw⟩ := hW
            have HC := Lib.hid (cntTo_full hR)
            obtain ⟨hok2, hfp⟩ := from_pairs hR
            have HOK2 := Lib.hid hok2
            have HFP := Lib.hid hfp
            have HN0 := Lib.hid (new_zero A hk)
            have HC0 := Lib.hid (count_zero A)
            rw [HC.out]
            clear hok2 hfp
            go_wp2_with fail
            with_reducible refine (pairsR_any _ _ _ xs _ hxw (hTb.below hBw)).mono ?_
            rintro e w6 ⟨a6, c6, rfl, hp6, hb⟩
            replace hxw := hxw.below hb
            replace hBw := hBw.trans (hb.mono hBw.size)
            clear hb
            go_wp2_with fail
            with_reducible refine (from_yes _ _ _ _ hp6 HOK2.out HFP.out).mono ?_
            rintro e w7 ⟨a7, c7, rfl, hx7, hb⟩
            replace hxw := hxw.below hb
            replace hBw := hBw.trans (hb.mono hBw.size)
            clear hb hp6
            go_wp2_with fail
            with_reducible refine (countR_any _ _ _ xs _ hxw (hTb.below hBw)).mono ?_
            rintro e w8 ⟨rfl, hb⟩
            replace hxw := hxw.below hb
            replace hx7 := hx7.below hb
            replace hBw := hBw.trans (hb.mono hBw.size)
            clear hb
            go_wp2_with fail
            with_reducible refine (sameR_any _ _ _ _ _ _ xs xs _ hx7 hxw).mono ?_
            rw [decide_eq_true rfl]
            rintro e w9 ⟨rfl, hb⟩
            replace hBw := hBw.trans (hb.mono hBw.size)
            clear hb hx7 hxw
            go_wp2_with fail
            with_reducible refine (new_gives (A : Nat) _).mono ?_
            rw [HN0.out]
            rintro e w10 ⟨a10, c10, rfl, hx10, hb⟩
            rw [List.length_replicate]
            replace hBw := hBw.trans (hb.mono hBw.size)
            clear hb hx10
            go_wp2_with fail
            with_reducible refine (new_gives (A : Nat) _).mono ?_
            rw [HN0.out]
            rintro e w11 ⟨a11, c11, rfl, hx11, hb⟩
            rw [List.length_replicate] at hx11 ⊢
            replace hBw := hBw.trans (hb.mono hBw.size)
            clear hb
            go_wp2_with fail
            with_reducible refine (countR_any _ _ _ _ _ hx11 (hTb.below hBw)).mono ?_
            rw [HC0.out]
            rintro e w12 ⟨rfl, hb⟩
            replace hBw := hBw.trans (hb.mono hBw.size)
            go_wp2
            go_ret
            exact ⟨rfl, hBw⟩
theorem from_walk (n : Int) (a : Option Addr) (len cap : Nat) (ps : List (Int × Int)) (w : World) (hg : 0 < w.heap.size) (hT : Tab w) (hw : (Lit.int .i64 n).wf = true) (hp : IsPairs w a len ps) :
    Calls Tryd.prog 4 #[.int .i64 n, .slice a len cap] w (Good w) := by
  cases hf : R.fitsB n
  · exact from_walk_unfit n a len cap ps w ⟨hT, hg⟩ hp hf
  · have h : 0 ≤ n ∧ n ≤ 64 := by simpa [R.fitsB] using hf
    obtain ⟨k, rfl⟩ : ∃ k : Nat, n = (k : Int) := ⟨n.toNat, by omega⟩
    exact from_walk_fit k a len cap ps w ⟨hT, hg⟩ hp (by omega)
end Go.Proofs.YtafdbocepepcgaaDoor
