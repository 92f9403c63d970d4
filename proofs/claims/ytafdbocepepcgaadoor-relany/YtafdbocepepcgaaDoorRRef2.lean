/-
  What the reference's Keep and Back answers, as a contract: the same list of rows as that of package rel.
-/
import Derived.Test.YtafdbocepepcgaaDoorRRef
namespace Go.Proofs.YtafdbocepepcgaaDoor
open Go.RowKit
set_option linter.unusedVariables false
set_option linter.unusedSimpArgs false

theorem rback_bits (xs : List Nat) (hw : R.Words xs) (hm : R.mayR xs = true) : Bits xs.length (R.backR xs) (fun i j => (R.row xs j).testBit i = true) := by
  have hl := R.may_len hm
  unfold R.backR
  rw [if_pos hm]
  refine Bits.tab (fun i _ => R.backN_lt _ _ _) fun i j hi hj => ?_
  rw [R.backN_bit _ _ _ _ hj, List.mem_range]
  exact ⟨fun h => h.2, fun h => ⟨(R.may_bit hw hm h).1, h⟩⟩
set_option maxHeartbeats 1000000 in
theorem rback_any (a : Option Addr) (len cap : Nat) (xs : List Nat) (w : World) (hx : IsWords w a len xs) :
    Calls Tryd.prog 26 #[.slice a len cap] w (Gives (R.backR xs) w) := by
  obtain rfl : xs.length = len := hx.1
  have HM := rmay_any a xs.length cap xs w hx
  cases hm : R.mayR xs
  · have e0 : R.backR xs = [] := by simp [R.backR, hm]
    rw [e0]
    rw [hm] at HM
    have HM := Lib.hid HM
    clear e0
    go_enter Tryd.func26, Tryd.ntmps26
    go_wp2_with fail
    refine HM.out.mono ?_
    rintro e w' ⟨rfl, hb⟩
    go_wp2
    go_ret
    exact ⟨none, 0, rfl, IsWords.nil _ _, hb⟩
  · obtain ⟨i0, hi, hz0, hz1, hz2⟩ := info_parts Tryd.infoW
    have hl := R.may_len hm
    have hw := hx.2.2.1
    have HBITS := Lib.hid (rback_bits xs hw hm)
    have HC : Hid (∀ i j, (R.row xs i).testBit j = true → i < xs.length ∧ j < xs.length ∧ j < 64) := fun i j h => R.may_bit hw hm h
    rw [hm] at HM
    have HM := Lib.hid HM
    have HZ := Lib.hid hz0
    have HZ1 := Lib.hid hz1
    have HZ2 := Lib.hid hz2
    have HI := Lib.hid hi
    clear hz0 hz1 hz2 hi
    go_enter Tryd.func26, Tryd.ntmps26
    go_wp2_with fail
    refine HM.out.mono ?_
    rintro e w1 ⟨rfl, hb1⟩
    go_wp2_with (at_make; refine wpList_make_full _ rfl (.tmp 10) (.tmp 10) 22 rfl w1.heap.size 23 i0 (.int .u64 0) 1 Tryd.underlying22 HI.out HZ.out HZ1.out .i64 .i64 (xs.length : Int) (xs.length : Int) xs.length rfl rfl rfl rfl (by rw [HZ2.out]; omega) (by unfold maxLen; omega) (Nat.le_refl _) ?_; intro w2 hown2 hgrow2)
    rw [made_words] at hown2
    obtain ⟨hg, hB⟩ := blk_of_own hown2
    have hb2 : Below w.heap.size w w2 := hb1.grown hgrow2 hb1.size (fun k hk => by cases hk)
    have hstart : RFil w w1.heap.size xs.length (done2b (fun i j => (R.row xs j).testBit i = true) 0 0) w2 := ⟨_, hB, Bits.zero _ (fun i j h => by unfold done2b at h; omega), hb2, hb1.size⟩
    clear hown2 hgrow2 hB
    generalize w1.heap.size = g at *
    go_loopw [4] (fun k wr => ∃ x : Nat, x ≤ xs.length ∧ k = .int .i64 x ∧ RFil w g xs.length (done2b (fun i j => (R.row xs j).testBit i = true) x 0) wr) (fun k _ => xs.length - (intOf k).toNat)
    case atStart => exact ⟨0, Nat.zero_le _, rfl, hstart⟩
    case round =>
      obtain ⟨x, hx', rfl, hR⟩ := hrel
      by_cases hxl : x < xs.length
      · go_wp2
        go_loopw [5] (fun k wr => ∃ y : Nat, y ≤ xs.length ∧ k = .int .i64 y ∧ RFil w g xs.length (done2b (fun i j => (R.row xs j).testBit i = true) x y) wr) (fun k _ => xs.length - (intOf k).toNat)
        case atStart => exact ⟨0, Nat.zero_le _, rfl, hR⟩
        case round =>
          obtain ⟨y, hy', rfl, hR⟩ := hrel
          by_cases hyl : y < xs.length
          · obtain ⟨ms, hBm, hbits, hbel, hwg⟩ := hR
            have hxr := hx.below hbel
            have hat := at_any a xs.length cap x y xs wr hxr hxl hl
            cases hp : (R.row xs x).testBit y
            · rw [hp] at hat
              have HAT := Lib.hid hat
              clear hat
              have HNX := Lib.hid (RFil.miss (⟨ms, hBm, hbits, hbel, hwg⟩ : RFil w g xs.length (done2b (fun i j => (R.row xs j).testBit i = true) x y) wr) (fun i j hi hj => done2b_miss (C := fun i j => (R.row xs j).testBit i = true) (by rw [hp]; decide) i j))
              clear hBm hbits hxr
              go_wp2_with fail
              refine HAT.out.mono ?_
              rintro e w3 ⟨rfl, rfl⟩
              go_wp2
              go_roundw
              case rel => exact ⟨y + 1, by omega, by go_num, HNX.out⟩
              case measure => simp [intOf]; omega
            · rw [hp] at hat
              have HAT := Lib.hid hat
              clear hat
              have c0 : wr.cell? ⟨g, y, none⟩ = some (.int .u64 (R.row ms y : Nat)) := by rw [hBm.cell, words_at _ _ (by rw [hbits.1]; omega)]
              have cf := hBm.free y
              have hcur := hbits.2.1 y
              have HNX := Lib.hid (RFil.hit hBm hbits hbel hwg y x (by omega) (fun i j hi hj => done2b_hit (C := fun i j => (R.row xs j).testBit i = true) hp i j))
              have i1 : (0 : Int) ≤ (y : Int) := by omega
              have i2 : (y : Int) < (xs.length : Int) := by omega
              clear hBm hbits hxr
              go_wp2_with fail
              refine HAT.out.mono ?_
              rintro e w3 ⟨rfl, rfl⟩
              go_wp2_with fail
              refine (rput_any _ _ _ hcur).mono ?_
              rintro e w3 ⟨rfl, rfl⟩
              go_wp2
              go_roundw
              case rel => exact ⟨y + 1, by omega, by go_num, HNX.out⟩
              case measure => simp [intOf]; omega
          · obtain rfl : y = xs.length := by omega
            go_wp2
            go_roundw
            case rel => exact ⟨x + 1, by omega, by go_num, hR.miss fun i j hi hj => done2b_next hi⟩
            case measure => simp [intOf]; omega
      · obtain rfl : x = xs.length := by omega
        go_wp2
        go_ret
        exact (hR.miss fun i j hi hj => done2b_all (C := fun i j => (R.row xs j).testBit i = true) (fun i j h => (HC.out j i h).1) i j).gives HBITS.out hl

theorem rkeep_bits (xs : List Nat) (s : Nat) (hw : R.Words xs) (hm : R.mayR xs = true) (hs : s < 2 ^ 64) : Bits xs.length (R.keepR xs s) (fun i j => (R.row xs i).testBit j = true ∧ s.testBit i = true ∧ s.testBit j = true) := by
  have hl := R.may_len hm
  unfold R.keepR
  rw [if_pos hm]
  refine Bits.tab (fun i _ => ?_) fun i j hi hj => ?_
  · split
    · exact Nat.lt_of_le_of_lt Nat.and_le_left (hw i)
    · decide
  · by_cases h : s.testBit i = true
    · rw [if_pos h, Nat.testBit_and, Bool.and_eq_true]
      exact ⟨fun h' => ⟨h'.1, h, h'.2⟩, fun h' => ⟨h'.1, h'.2.2⟩⟩
    · rw [if_neg h]
      simp [h]
set_option maxHeartbeats 1000000 in
theorem rkeep_any (a : Option Addr) (len cap s : Nat) (xs : List Nat) (w : World) (hx : IsWords w a len xs) (hs : s < 2 ^ 64) :
    Calls Tryd.prog 28 #[.slice a len cap, .int .u64 s] w (Gives (R.keepR xs s) w) := by
  obtain rfl : xs.length = len := hx.1
  have HM := rmay_any a xs.length cap xs w hx
  cases hm : R.mayR xs
  · have e0 : R.keepR xs s = [] := by simp [R.keepR, hm]
    rw [e0]
    rw [hm] at HM
    have HM := Lib.hid HM
    clear e0
    go_enter Tryd.func28, Tryd.ntmps28
    go_wp2_with fail
    refine HM.out.mono ?_
    rintro e w' ⟨rfl, hb⟩
    go_wp2
    go_ret
    exact ⟨none, 0, rfl, IsWords.nil _ _, hb⟩
  · obtain ⟨i0, hi, hz0, hz1, hz2⟩ := info_parts Tryd.infoW
    have hl := R.may_len hm
    have hw := hx.2.2.1
    have HBITS := Lib.hid (rkeep_bits xs s hw hm hs)
    have HC : Hid (∀ i j, (R.row xs i).testBit j = true → i < xs.length ∧ j < xs.length ∧ j < 64) := fun i j h => R.may_bit hw hm h
    rw [hm] at HM
    have HM := Lib.hid HM
    have HZ := Lib.hid hz0
    have HZ1 := Lib.hid hz1
    have HZ2 := Lib.hid hz2
    have HI := Lib.hid hi
    clear hz0 hz1 hz2 hi
    go_enter Tryd.func28, Tryd.ntmps28
    go_wp2_with fail
    refine HM.out.mono ?_
    rintro e w1 ⟨rfl, hb1⟩
    go_wp2_with (at_make; refine wpList_make_full _ rfl (.tmp 12) (.tmp 12) 22 rfl w1.heap.size 23 i0 (.int .u64 0) 1 Tryd.underlying22 HI.out HZ.out HZ1.out .i64 .i64 (xs.length : Int) (xs.length : Int) xs.length rfl rfl rfl rfl (by rw [HZ2.out]; omega) (by unfold maxLen; omega) (Nat.le_refl _) ?_; intro w2 hown2 hgrow2)
    rw [made_words] at hown2
    obtain ⟨hg, hB⟩ := blk_of_own hown2
    have hb2 : Below w.heap.size w w2 := hb1.grown hgrow2 hb1.size (fun k hk => by cases hk)
    have hstart : RFil w w1.heap.size xs.length (done2 (fun i j => (R.row xs i).testBit j = true ∧ s.testBit i = true ∧ s.testBit j = true) 0 0) w2 := ⟨_, hB, Bits.zero _ (fun i j h => by unfold done2 at h; omega), hb2, hb1.size⟩
    clear hown2 hgrow2 hB
    generalize w1.heap.size = g at *
    go_loopw [6] (fun k wr => ∃ x : Nat, x ≤ xs.length ∧ k = .int .i64 x ∧ RFil w g xs.length (done2 (fun i j => (R.row xs i).testBit j = true ∧ s.testBit i = true ∧ s.testBit j = true) x 0) wr) (fun k _ => xs.length - (intOf k).toNat)
    case atStart => exact ⟨0, Nat.zero_le _, rfl, hstart⟩
    case round =>
      obtain ⟨x, hx', rfl, hR⟩ := hrel
      by_cases hxl : x < xs.length
      · go_wp2
        go_loopw [7] (fun k wr => ∃ y : Nat, y ≤ xs.length ∧ k = .int .i64 y ∧ RFil w g xs.length (done2 (fun i j => (R.row xs i).testBit j = true ∧ s.testBit i = true ∧ s.testBit j = true) x y) wr) (fun k _ => xs.length - (intOf k).toNat)
        case atStart => exact ⟨0, Nat.zero_le _, rfl, hR⟩
        case round =>
          obtain ⟨y, hy', rfl, hR⟩ := hrel
          by_cases hyl : y < xs.length
          · obtain ⟨ms, hBm, hbits, hbel, hwg⟩ := hR
            have hxr := hx.below hbel
            have hat := at_any a xs.length cap x y xs wr hxr hxl hl
            have ha1 := rhas_any s x wr hs
            have ha2 := rhas_any s y wr hs
            rw [M.hasB_nat s x hs] at ha1
            rw [M.hasB_nat s y hs] at ha2
            cases hp : (R.row xs x).testBit y
            · rw [hp] at hat
              have HAT := Lib.hid hat
              clear hat ha1 ha2
              have HNX := Lib.hid (RFil.miss (⟨ms, hBm, hbits, hbel, hwg⟩ : RFil w g xs.length (done2 (fun i j => (R.row xs i).testBit j = true ∧ s.testBit i = true ∧ s.testBit j = true) x y) wr) (fun i j hi hj => done2_miss (C := fun i j => (R.row xs i).testBit j = true ∧ s.testBit i = true ∧ s.testBit j = true) (by rw [hp]; simp) i j))
              clear hBm hbits hxr
              go_wp2_with fail
              refine HAT.out.mono ?_
              rintro e w3 ⟨rfl, rfl⟩
              go_wp2
              go_roundw
              case rel => exact ⟨y + 1, by omega, by go_num, HNX.out⟩
              case measure => simp [intOf]; omega
            · rw [hp] at hat
              have HAT := Lib.hid hat
              clear hat
              cases hp1 : s.testBit x
              · rw [hp1] at ha1
                have HA1 := Lib.hid ha1
                clear ha1 ha2
                have HNX := Lib.hid (RFil.miss (⟨ms, hBm, hbits, hbel, hwg⟩ : RFil w g xs.length (done2 (fun i j => (R.row xs i).testBit j = true ∧ s.testBit i = true ∧ s.testBit j = true) x y) wr) (fun i j hi hj => done2_miss (C := fun i j => (R.row xs i).testBit j = true ∧ s.testBit i = true ∧ s.testBit j = true) (by rw [hp1]; simp) i j))
                clear hBm hbits hxr
                go_wp2_with fail
                refine HAT.out.mono ?_
                rintro e w3 ⟨rfl, rfl⟩
                go_wp2_with fail
                refine HA1.out.mono ?_
                rintro e w3 ⟨rfl, rfl⟩
                go_wp2
                go_roundw
                case rel => exact ⟨y + 1, by omega, by go_num, HNX.out⟩
                case measure => simp [intOf]; omega
              · rw [hp1] at ha1
                have HA1 := Lib.hid ha1
                clear ha1
                cases hp2 : s.testBit y
                · rw [hp2] at ha2
                  have HA2 := Lib.hid ha2
                  clear ha2
                  have HNX := Lib.hid (RFil.miss (⟨ms, hBm, hbits, hbel, hwg⟩ : RFil w g xs.length (done2 (fun i j => (R.row xs i).testBit j = true ∧ s.testBit i = true ∧ s.testBit j = true) x y) wr) (fun i j hi hj => done2_miss (C := fun i j => (R.row xs i).testBit j = true ∧ s.testBit i = true ∧ s.testBit j = true) (by rw [hp2]; simp) i j))
                  clear hBm hbits hxr
                  go_wp2_with fail
                  refine HAT.out.mono ?_
                  rintro e w3 ⟨rfl, rfl⟩
                  go_wp2_with fail
                  refine HA1.out.mono ?_
                  rintro e w3 ⟨rfl, rfl⟩
                  go_wp2_with fail
                  refine HA2.out.mono ?_
                  rintro e w3 ⟨rfl, rfl⟩
                  go_wp2
                  go_roundw
                  case rel => exact ⟨y + 1, by omega, by go_num, HNX.out⟩
                  case measure => simp [intOf]; omega
                · rw [hp2] at ha2
                  have HA2 := Lib.hid ha2
                  clear ha2
                  have c0 : wr.cell? ⟨g, x, none⟩ = some (.int .u64 (R.row ms x : Nat)) := by rw [hBm.cell, words_at _ _ (by rw [hbits.1]; omega)]
                  have cf := hBm.free x
                  have hcur := hbits.2.1 x
                  have HNX := Lib.hid (RFil.hit hBm hbits hbel hwg x y (by omega) (fun i j hi hj => done2_hit (C := fun i j => (R.row xs i).testBit j = true ∧ s.testBit i = true ∧ s.testBit j = true) ⟨hp, hp1, hp2⟩ i j))
                  have i1 : (0 : Int) ≤ (x : Int) := by omega
                  have i2 : (x : Int) < (xs.length : Int) := by omega
                  clear hBm hbits hxr
                  go_wp2_with fail
                  refine HAT.out.mono ?_
                  rintro e w3 ⟨rfl, rfl⟩
                  go_wp2_with fail
                  refine HA1.out.mono ?_
                  rintro e w3 ⟨rfl, rfl⟩
                  go_wp2_with fail
                  refine HA2.out.mono ?_
                  rintro e w3 ⟨rfl, rfl⟩
                  go_wp2_with fail
                  refine (rput_any _ _ _ hcur).mono ?_
                  rintro e w3 ⟨rfl, rfl⟩
                  go_wp2
                  go_roundw
                  case rel => exact ⟨y + 1, by omega, by go_num, HNX.out⟩
                  case measure => simp [intOf]; omega
          · obtain rfl : y = xs.length := by omega
            go_wp2
            go_roundw
            case rel => exact ⟨x + 1, by omega, by go_num, hR.miss fun i j hi hj => done2_next (C := fun i j => (R.row xs i).testBit j = true ∧ s.testBit i = true ∧ s.testBit j = true) (fun i j h => (HC.out i j h.1).2.1) i j⟩
            case measure => simp [intOf]; omega
      · obtain rfl : x = xs.length := by omega
        go_wp2
        go_ret
        exact (hR.miss fun i j hi hj => done2_all i j hi).gives HBITS.out hl
end Go.Proofs.YtafdbocepepcgaaDoor
