/-
  What the reference's Two answers, as a contract: the same list of rows as that of package rel.
-/
import Derived.Test.YtafdbocepepcgaaDoorRRef
namespace Go.Proofs.YtafdbocepepcgaaDoor
open Go.RowKit
set_option linter.unusedVariables false
set_option linter.unusedSimpArgs false

theorem rand_bits (xs ys : List Nat) (hwx : R.Words xs) (hwy : R.Words ys) (hal : R.alikeR xs ys = true) : Bits xs.length (R.andR xs ys) (fun i j => (R.row xs i).testBit j = true ∧ (R.row ys i).testBit j = true) := by
  unfold R.andR
  rw [if_pos hal]
  refine Bits.tab (fun i _ => Nat.lt_of_le_of_lt Nat.and_le_left (hwx i)) fun i j hi hj => ?_
  rw [Nat.testBit_and, Bool.and_eq_true]

set_option maxHeartbeats 2000000 in
theorem rand_any (a b : Option Addr) (la lb ca cb : Nat) (xs ys : List Nat) (w : World) (hx : IsWords w a la xs) (hy : IsWords w b lb ys) :
    Calls Tryd.prog 22 #[.slice a la ca, .slice b lb cb, .int .i64 0] w (Gives (R.andR xs ys) w) := by
  obtain rfl : xs.length = la := hx.1
  obtain rfl : ys.length = lb := hy.1
  have hxm := hx.2.1
  have hym := hy.2.1
  have HM := rmay_any a xs.length ca xs w hx
  cases hm1 : R.mayR xs
  · have e0 : R.andR xs ys = [] := by simp [R.andR, R.alikeR, hm1]
    rw [e0]
    rw [hm1] at HM
    have HM := Lib.hid HM
    clear e0
    go_enter Tryd.func22, Tryd.ntmps22
    go_wp2_with fail
    refine HM.out.mono ?_
    rintro e w' ⟨rfl, hb⟩
    go_wp2
    go_ret
    exact ⟨none, 0, rfl, IsWords.nil _ _, hb⟩
  · rw [hm1] at HM
    have HM := Lib.hid HM
    cases hm2 : R.mayR ys
    · have e0 : R.andR xs ys = [] := by simp [R.andR, R.alikeR, hm2]
      rw [e0]
      clear e0
      go_enter Tryd.func22, Tryd.ntmps22
      go_wp2_with fail
      refine HM.out.mono ?_
      rintro e w1 ⟨rfl, hb⟩
      have HM2 := rmay_any b ys.length cb ys w1 (hy.below hb)
      rw [hm2] at HM2
      have HM2 := Lib.hid HM2
      go_wp2_with fail
      refine HM2.out.mono ?_
      rintro e w2 ⟨rfl, hb2⟩
      go_wp2
      go_ret
      exact ⟨none, 0, rfl, IsWords.nil _ _, hb.trans (hb2.mono hb.size)⟩
    · by_cases hll : xs.length = ys.length
      · have hal : R.alikeR xs ys = true := R.alike_iff.2 ⟨hll, hm1, hm2⟩
        obtain ⟨i0, hi, hz0, hz1, hz2⟩ := info_parts Tryd.infoW
        have hl := R.may_len hm1
        have hwx := hx.2.2.1
        have hwy := hy.2.2.1
        have HBITS := Lib.hid (rand_bits xs ys hwx hwy hal)
        have HC : Hid (∀ i j, (R.row xs i).testBit j = true → i < xs.length ∧ j < xs.length ∧ j < 64) := fun i j h => R.may_bit hwx hm1 h
        have HD : Hid (∀ i j, (R.row ys i).testBit j = true → i < xs.length ∧ j < xs.length ∧ j < 64) := fun i j h => by rw [hll]; exact R.may_bit hwy hm2 h
        have hl1 : ((xs.length : Int) == (ys.length : Int)) = true := by rw [hll]; simp
        have hl2 : ((xs.length : Int) != (ys.length : Int)) = false := by rw [hll]; simp
        have HLL := Lib.hid hll
        have HZ := Lib.hid hz0
        have HZ1 := Lib.hid hz1
        have HZ2 := Lib.hid hz2
        have HI := Lib.hid hi
        clear hz0 hz1 hz2 hi hll hal
        go_enter Tryd.func22, Tryd.ntmps22
        go_wp2_with fail
        refine HM.out.mono ?_
        rintro e w1 ⟨rfl, hb1⟩
        have HM2 := rmay_any b ys.length cb ys w1 (hy.below hb1)
        rw [hm2] at HM2
        have HM2 := Lib.hid HM2
        go_wp2_with fail
        refine HM2.out.mono ?_
        rintro e w2 ⟨rfl, hb2⟩
        have hb12 : Below w.heap.size w w2 := hb1.trans (hb2.mono hb1.size)
        clear hb1 hb2 HM2
        go_wp2_with (at_make; refine wpList_make_full _ rfl (.tmp 28) (.tmp 28) 22 rfl w2.heap.size 23 i0 (.int .u64 0) 1 Tryd.underlying22 HI.out HZ.out HZ1.out .i64 .i64 (xs.length : Int) (xs.length : Int) xs.length rfl rfl rfl rfl (by rw [HZ2.out]; omega) (by unfold maxLen; omega) (Nat.le_refl _) ?_; intro w3 hown3 hgrow3)
        rw [made_words] at hown3
        obtain ⟨hg, hB⟩ := blk_of_own hown3
        have hb3 : Below w.heap.size w w3 := hb12.grown hgrow3 hb12.size (fun k hk => by cases hk)
        have hstart : RFil w w2.heap.size xs.length (done2 (fun i j => (R.row xs i).testBit j = true ∧ (R.row ys i).testBit j = true) 0 0) w3 := ⟨_, hB, Bits.zero _ (fun i j h => by unfold done2 at h; omega), hb3, hb12.size⟩
        have hyl : IsWords w b xs.length ys := by rw [HLL.out]; exact hy
        have hl1 : ys.length = xs.length := HLL.out.symm
        have HL1 := Lib.hid hl1
        clear hown3 hgrow3 hB hl1
        go_loopw [8] (fun k wr => ∃ x : Nat, x ≤ xs.length ∧ k = .int .i64 x ∧ RFil w w2.heap.size xs.length (done2 (fun i j => (R.row xs i).testBit j = true ∧ (R.row ys i).testBit j = true) x 0) wr) (fun k _ => xs.length - (intOf k).toNat)
        case atStart => exact ⟨0, Nat.zero_le _, rfl, hstart⟩
        case round =>
          obtain ⟨x, hx', rfl, hR⟩ := hrel
          by_cases hxl : x < xs.length
          · go_wp2
            go_loopw [9, 10, 11] (fun k _ _ wr => ∃ y : Nat, y ≤ xs.length ∧ k = .int .i64 y ∧ RFil w w2.heap.size xs.length (done2 (fun i j => (R.row xs i).testBit j = true ∧ (R.row ys i).testBit j = true) x y) wr) (fun k _ _ _ => xs.length - (intOf k).toNat)
            case atStart => exact ⟨0, Nat.zero_le _, rfl, hR⟩
            case round =>
              obtain ⟨y, hy', rfl, hR⟩ := hrel
              by_cases hyl' : y < xs.length
              · obtain ⟨ms, hBm, hbits, hbel, hwg⟩ := hR
                have ha1 := at_any a xs.length ca x y xs wr (hx.below hbel) hxl hl
                have ha2 := at_any b ys.length cb x y ys wr (hy.below hbel) (by rw [HL1.out]; exact hxl) (by rw [HL1.out]; exact hl)
                cases hp : (R.row xs x).testBit y <;> cases hq : (R.row ys x).testBit y
                · rw [hp] at ha1
                  rw [hq] at ha2
                  have HA1 := Lib.hid ha1
                  have HA2 := Lib.hid ha2
                  clear ha1 ha2
                  have HNX := Lib.hid (RFil.miss (⟨ms, hBm, hbits, hbel, hwg⟩ : RFil w w2.heap.size xs.length (done2 (fun i j => (R.row xs i).testBit j = true ∧ (R.row ys i).testBit j = true) x y) wr) (fun i j hi hj => done2_miss (C := fun i j => (R.row xs i).testBit j = true ∧ (R.row ys i).testBit j = true) (by simp [hp, hq]) i j))
                  clear hBm hbits hp hq
                  go_wp2_with fail
                  refine HA1.out.mono ?_
                  rintro e w4 ⟨rfl, rfl⟩
                  go_wp2_with fail
                  refine HA2.out.mono ?_
                  rintro e w4 ⟨rfl, rfl⟩
                  go_wp2
                  go_roundw
                  case rel => exact ⟨y + 1, by omega, by go_num, HNX.out⟩
                  case measure => simp [intOf]; omega
                · rw [hp] at ha1
                  rw [hq] at ha2
                  have HA1 := Lib.hid ha1
                  have HA2 := Lib.hid ha2
                  clear ha1 ha2
                  have HNX := Lib.hid (RFil.miss (⟨ms, hBm, hbits, hbel, hwg⟩ : RFil w w2.heap.size xs.length (done2 (fun i j => (R.row xs i).testBit j = true ∧ (R.row ys i).testBit j = true) x y) wr) (fun i j hi hj => done2_miss (C := fun i j => (R.row xs i).testBit j = true ∧ (R.row ys i).testBit j = true) (by simp [hp, hq]) i j))
                  clear hBm hbits hp hq
                  go_wp2_with fail
                  refine HA1.out.mono ?_
                  rintro e w4 ⟨rfl, rfl⟩
                  go_wp2_with fail
                  refine HA2.out.mono ?_
                  rintro e w4 ⟨rfl, rfl⟩
                  go_wp2
                  go_roundw
                  case rel => exact ⟨y + 1, by omega, by go_num, HNX.out⟩
                  case measure => simp [intOf]; omega
                · rw [hp] at ha1
                  rw [hq] at ha2
                  have HA1 := Lib.hid ha1
                  have HA2 := Lib.hid ha2
                  clear ha1 ha2
                  have HNX := Lib.hid (RFil.miss (⟨ms, hBm, hbits, hbel, hwg⟩ : RFil w w2.heap.size xs.length (done2 (fun i j => (R.row xs i).testBit j = true ∧ (R.row ys i).testBit j = true) x y) wr) (fun i j hi hj => done2_miss (C := fun i j => (R.row xs i).testBit j = true ∧ (R.row ys i).testBit j = true) (by simp [hp, hq]) i j))
                  clear hBm hbits hp hq
                  go_wp2_with fail
                  refine HA1.out.mono ?_
                  rintro e w4 ⟨rfl, rfl⟩
                  go_wp2_with fail
                  refine HA2.out.mono ?_
                  rintro e w4 ⟨rfl, rfl⟩
                  go_wp2
                  go_roundw
                  case rel => exact ⟨y + 1, by omega, by go_num, HNX.out⟩
                  case measure => simp [intOf]; omega
                · rw [hp] at ha1
                  rw [hq] at ha2
                  have HA1 := Lib.hid ha1
                  have HA2 := Lib.hid ha2
                  clear ha1 ha2
                  have c0 : wr.cell? ⟨w2.heap.size, x, none⟩ = some (.int .u64 (R.row ms x : Nat)) := by rw [hBm.cell, words_at _ _ (by rw [hbits.1]; omega)]
                  have cf := hBm.free x
                  have hcur := hbits.2.1 x
                  have HNX := Lib.hid (RFil.hit hBm hbits hbel hwg x y (by omega) (fun i j hi hj => done2_hit (C := fun i j => (R.row xs i).testBit j = true ∧ (R.row ys i).testBit j = true) (by simp [hp, hq]) i j))
                  have i1 : (0 : Int) ≤ (x : Int) := by omega
                  have i2 : (x : Int) < (xs.length : Int) := by omega
                  clear hBm hbits hp hq
                  go_wp2_with fail
                  refine HA1.out.mono ?_
                  rintro e w4 ⟨rfl, rfl⟩
                  go_wp2_with fail
                  refine HA2.out.mono ?_
                  rintro e w4 ⟨rfl, rfl⟩
                  go_wp2_with fail
                  refine (rput_any _ _ _ hcur).mono ?_
                  rintro e w4 ⟨rfl, rfl⟩
                  go_wp2
                  go_roundw
                  case rel => exact ⟨y + 1, by omega, by go_num, HNX.out⟩
                  case measure => simp [intOf]; omega
              · obtain rfl : y = xs.length := by omega
                go_wp2
                go_roundw
                case rel => exact ⟨x + 1, by omega, by go_num, hR.miss fun i j hi hj => done2_next (C := fun i j => (R.row xs i).testBit j = true ∧ (R.row ys i).testBit j = true) (fun i j h => (HC.out i j h.1).2.1) i j⟩
                case measure => simp [intOf]; omega
          · obtain rfl : x = xs.length := by omega
            go_wp2
            go_ret
            exact (hR.miss fun i j hi hj => done2_all i j hi).gives HBITS.out hl
      · have e0 : R.andR xs ys = [] := by simp [R.andR, R.alikeR, hll]
        rw [e0]
        have hl1 : ((xs.length : Int) == (ys.length : Int)) = false := by simp; omega
        have hl2 : ((xs.length : Int) != (ys.length : Int)) = true := by simp; omega
        have hl3 : decide (xs.length = ys.length) = false := by simp; omega
        clear e0 hll
        go_enter Tryd.func22, Tryd.ntmps22
        go_wp2_with fail
        refine HM.out.mono ?_
        rintro e w1 ⟨rfl, hb⟩
        have HM2 := rmay_any b ys.length cb ys w1 (hy.below hb)
        rw [hm2] at HM2
        have HM2 := Lib.hid HM2
        go_wp2_with fail
        refine HM2.out.mono ?_
        rintro e w2 ⟨rfl, hb2⟩
        go_wp2
        go_ret
        exact ⟨none, 0, rfl, IsWords.nil _ _, hb.trans (hb2.mono hb.size)⟩

theorem ror_bits (xs ys : List Nat) (hwx : R.Words xs) (hwy : R.Words ys) (hal : R.alikeR xs ys = true) : Bits xs.length (R.orR xs ys) (fun i j => (R.row xs i).testBit j = true ∨ (R.row ys i).testBit j = true) := by
  unfold R.orR
  rw [if_pos hal]
  refine Bits.tab (fun i _ => Nat.or_lt_two_pow (hwx i) (hwy i)) fun i j hi hj => ?_
  rw [Nat.testBit_or, Bool.or_eq_true]

set_option maxHeartbeats 2000000 in
theorem ror_any (a b : Option Addr) (la lb ca cb : Nat) (xs ys : List Nat) (w : World) (hx : IsWords w a la xs) (hy : IsWords w b lb ys) :
    Calls Tryd.prog 22 #[.slice a la ca, .slice b lb cb, .int .i64 1] w (Gives (R.orR xs ys) w) := by
  obtain rfl : xs.length = la := hx.1
  obtain rfl : ys.length = lb := hy.1
  have hxm := hx.2.1
  have hym := hy.2.1
  have HM := rmay_any a xs.length ca xs w hx
  cases hm1 : R.mayR xs
  · have e0 : R.orR xs ys = [] := by simp [R.orR, R.alikeR, hm1]
    rw [e0]
    rw [hm1] at HM
    have HM := Lib.hid HM
    clear e0
    go_enter Tryd.func22, Tryd.ntmps22
    go_wp2_with fail
    refine HM.out.mono ?_
    rintro e w' ⟨rfl, hb⟩
    go_wp2
    go_ret
    exact ⟨none, 0, rfl, IsWords.nil _ _, hb⟩
  · rw [hm1] at HM
    have HM := Lib.hid HM
    cases hm2 : R.mayR ys
    · have e0 : R.orR xs ys = [] := by simp [R.orR, R.alikeR, hm2]
      rw [e0]
      clear e0
      go_enter Tryd.func22, Tryd.ntmps22
      go_wp2_with fail
      refine HM.out.mono ?_
      rintro e w1 ⟨rfl, hb⟩
      have HM2 := rmay_any b ys.length cb ys w1 (hy.below hb)
      rw [hm2] at HM2
      have HM2 := Lib.hid HM2
      go_wp2_with fail
      refine HM2.out.mono ?_
      rintro e w2 ⟨rfl, hb2⟩
      go_wp2
      go_ret
      exact ⟨none, 0, rfl, IsWords.nil _ _, hb.trans (hb2.mono hb.size)⟩
    · by_cases hll : xs.length = ys.length
      · have hal : R.alikeR xs ys = true := R.alike_iff.2 ⟨hll, hm1, hm2⟩
        obtain ⟨i0, hi, hz0, hz1, hz2⟩ := info_parts Tryd.infoW
        have hl := R.may_len hm1
        have hwx := hx.2.2.1
        have hwy := hy.2.2.1
        have HBITS := Lib.hid (ror_bits xs ys hwx hwy hal)
        have HC : Hid (∀ i j, (R.row xs i).testBit j = true → i < xs.length ∧ j < xs.length ∧ j < 64) := fun i j h => R.may_bit hwx hm1 h
        have HD : Hid (∀ i j, (R.row ys i).testBit j = true → i < xs.length ∧ j < xs.length ∧ j < 64) := fun i j h => by rw [hll]; exact R.may_bit hwy hm2 h
        have hl1 : ((xs.length : Int) == (ys.length : Int)) = true := by rw [hll]; simp
        have hl2 : ((xs.length : Int) != (ys.length : Int)) = false := by rw [hll]; simp
        have HLL := Lib.hid hll
        have HZ := Lib.hid hz0
        have HZ1 := Lib.hid hz1
        have HZ2 := Lib.hid hz2
        have HI := Lib.hid hi
        clear hz0 hz1 hz2 hi hll hal
        go_enter Tryd.func22, Tryd.ntmps22
        go_wp2_with fail
        refine HM.out.mono ?_
        rintro e w1 ⟨rfl, hb1⟩
        have HM2 := rmay_any b ys.length cb ys w1 (hy.below hb1)
        rw [hm2] at HM2
        have HM2 := Lib.hid HM2
        go_wp2_with fail
        refine HM2.out.mono ?_
        rintro e w2 ⟨rfl, hb2⟩
        have hb12 : Below w.heap.size w w2 := hb1.trans (hb2.mono hb1.size)
        clear hb1 hb2 HM2
        go_wp2_with (at_make; refine wpList_make_full _ rfl (.tmp 28) (.tmp 28) 22 rfl w2.heap.size 23 i0 (.int .u64 0) 1 Tryd.underlying22 HI.out HZ.out HZ1.out .i64 .i64 (xs.length : Int) (xs.length : Int) xs.length rfl rfl rfl rfl (by rw [HZ2.out]; omega) (by unfold maxLen; omega) (Nat.le_refl _) ?_; intro w3 hown3 hgrow3)
        rw [made_words] at hown3
        obtain ⟨hg, hB⟩ := blk_of_own hown3
        have hb3 : Below w.heap.size w w3 := hb12.grown hgrow3 hb12.size (fun k hk => by cases hk)
        have hstart : RFil w w2.heap.size xs.length (done2 (fun i j => (R.row xs i).testBit j = true ∨ (R.row ys i).testBit j = true) 0 0) w3 := ⟨_, hB, Bits.zero _ (fun i j h => by unfold done2 at h; omega), hb3, hb12.size⟩
        have hyl : IsWords w b xs.length ys := by rw [HLL.out]; exact hy
        have hl1 : ys.length = xs.length := HLL.out.symm
        have HL1 := Lib.hid hl1
        clear hown3 hgrow3 hB hl1
        go_loopw [8] (fun k wr => ∃ x : Nat, x ≤ xs.length ∧ k = .int .i64 x ∧ RFil w w2.heap.size xs.length (done2 (fun i j => (R.row xs i).testBit j = true ∨ (R.row ys i).testBit j = true) x 0) wr) (fun k _ => xs.length - (intOf k).toNat)
        case atStart => exact ⟨0, Nat.zero_le _, rfl, hstart⟩
        case round =>
          obtain ⟨x, hx', rfl, hR⟩ := hrel
          by_cases hxl : x < xs.length
          · go_wp2
            go_loopw [9, 10, 11] (fun k _ _ wr => ∃ y : Nat, y ≤ xs.length ∧ k = .int .i64 y ∧ RFil w w2.heap.size xs.length (done2 (fun i j => (R.row xs i).testBit j = true ∨ (R.row ys i).testBit j = true) x y) wr) (fun k _ _ _ => xs.length - (intOf k).toNat)
            case atStart => exact ⟨0, Nat.zero_le _, rfl, hR⟩
            case round =>
              obtain ⟨y, hy', rfl, hR⟩ := hrel
              by_cases hyl' : y < xs.length
              · obtain ⟨ms, hBm, hbits, hbel, hwg⟩ := hR
                have ha1 := at_any a xs.length ca x y xs wr (hx.below hbel) hxl hl
                have ha2 := at_any b ys.length cb x y ys wr (hy.below hbel) (by rw [HL1.out]; exact hxl) (by rw [HL1.out]; exact hl)
                cases hp : (R.row xs x).testBit y <;> cases hq : (R.row ys x).testBit y
                · rw [hp] at ha1
                  rw [hq] at ha2
                  have HA1 := Lib.hid ha1
                  have HA2 := Lib.hid ha2
                  clear ha1 ha2
                  have HNX := Lib.hid (RFil.miss (⟨ms, hBm, hbits, hbel, hwg⟩ : RFil w w2.heap.size xs.length (done2 (fun i j => (R.row xs i).testBit j = true ∨ (R.row ys i).testBit j = true) x y) wr) (fun i j hi hj => done2_miss (C := fun i j => (R.row xs i).testBit j = true ∨ (R.row ys i).testBit j = true) (by simp [hp, hq]) i j))
                  clear hBm hbits hp hq
                  go_wp2_with fail
                  refine HA1.out.mono ?_
                  rintro e w4 ⟨rfl, rfl⟩
                  go_wp2_with fail
                  refine HA2.out.mono ?_
                  rintro e w4 ⟨rfl, rfl⟩
                  go_wp2
                  go_roundw
                  case rel => exact ⟨y + 1, by omega, by go_num, HNX.out⟩
                  case measure => simp [intOf]; omega
                · rw [hp] at ha1
                  rw [hq] at ha2
                  have HA1 := Lib.hid ha1
                  have HA2 := Lib.hid ha2
                  clear ha1 ha2
                  have c0 : wr.cell? ⟨w2.heap.size, x, none⟩ = some (.int .u64 (R.row ms x : Nat)) := by rw [hBm.cell, words_at _ _ (by rw [hbits.1]; omega)]
                  have cf := hBm.free x
                  have hcur := hbits.2.1 x
                  have HNX := Lib.hid (RFil.hit hBm hbits hbel hwg x y (by omega) (fun i j hi hj => done2_hit (C := fun i j => (R.row xs i).testBit j = true ∨ (R.row ys i).testBit j = true) (by simp [hp, hq]) i j))
                  have i1 : (0 : Int) ≤ (x : Int) := by omega
                  have i2 : (x : Int) < (xs.length : Int) := by omega
                  clear hBm hbits hp hq
                  go_wp2_with fail
                  refine HA1.out.mono ?_
                  rintro e w4 ⟨rfl, rfl⟩
                  go_wp2_with fail
                  refine HA2.out.mono ?_
                  rintro e w4 ⟨rfl, rfl⟩
                  go_wp2_with fail
                  refine (rput_any _ _ _ hcur).mono ?_
                  rintro e w4 ⟨rfl, rfl⟩
                  go_wp2
                  go_roundw
                  case rel => exact ⟨y + 1, by omega, by go_num, HNX.out⟩
                  case measure => simp [intOf]; omega
                · rw [hp] at ha1
                  rw [hq] at ha2
                  have HA1 := Lib.hid ha1
                  have HA2 := Lib.hid ha2
                  clear ha1 ha2
                  have c0 : wr.cell? ⟨w2.heap.size, x, none⟩ = some (.int .u64 (R.row ms x : Nat)) := by rw [hBm.cell, words_at _ _ (by rw [hbits.1]; omega)]
                  have cf := hBm.free x
                  have hcur := hbits.2.1 x
                  have HNX := Lib.hid (RFil.hit hBm hbits hbel hwg x y (by omega) (fun i j hi hj => done2_hit (C := fun i j => (R.row xs i).testBit j = true ∨ (R.row ys i).testBit j = true) (by simp [hp, hq]) i j))
                  have i1 : (0 : Int) ≤ (x : Int) := by omega
                  have i2 : (x : Int) < (xs.length : Int) := by omega
                  clear hBm hbits hp hq
                  go_wp2_with fail
                  refine HA1.out.mono ?_
                  rintro e w4 ⟨rfl, rfl⟩
                  go_wp2_with fail
                  refine HA2.out.mono ?_
                  rintro e w4 ⟨rfl, rfl⟩
                  go_wp2_with fail
                  refine (rput_any _ _ _ hcur).mono ?_
                  rintro e w4 ⟨rfl, rfl⟩
                  go_wp2
                  go_roundw
                  case rel => exact ⟨y + 1, by omega, by go_num, HNX.out⟩
                  case measure => simp [intOf]; omega
                · rw [hp] at ha1
                  rw [hq] at ha2
                  have HA1 := Lib.hid ha1
                  have HA2 := Lib.hid ha2
                  clear ha1 ha2
                  have c0 : wr.cell? ⟨w2.heap.size, x, none⟩ = some (.int .u64 (R.row ms x : Nat)) := by rw [hBm.cell, words_at _ _ (by rw [hbits.1]; omega)]
                  have cf := hBm.free x
                  have hcur := hbits.2.1 x
                  have HNX := Lib.hid (RFil.hit hBm hbits hbel hwg x y (by omega) (fun i j hi hj => done2_hit (C := fun i j => (R.row xs i).testBit j = true ∨ (R.row ys i).testBit j = true) (by simp [hp, hq]) i j))
                  have i1 : (0 : Int) ≤ (x : Int) := by omega
                  have i2 : (x : Int) < (xs.length : Int) := by omega
                  clear hBm hbits hp hq
                  go_wp2_with fail
                  refine HA1.out.mono ?_
                  rintro e w4 ⟨rfl, rfl⟩
                  go_wp2_with fail
                  refine HA2.out.mono ?_
                  rintro e w4 ⟨rfl, rfl⟩
                  go_wp2_with fail
                  refine (rput_any _ _ _ hcur).mono ?_
                  rintro e w4 ⟨rfl, rfl⟩
                  go_wp2
                  go_roundw
                  case rel => exact ⟨y + 1, by omega, by go_num, HNX.out⟩
                  case measure => simp [intOf]; omega
              · obtain rfl : y = xs.length := by omega
                go_wp2
                go_roundw
                case rel => exact ⟨x + 1, by omega, by go_num, hR.miss fun i j hi hj => done2_next (C := fun i j => (R.row xs i).testBit j = true ∨ (R.row ys i).testBit j = true) (fun i j h => h.elim (fun h => (HC.out i j h).2.1) (fun h => (HD.out i j h).2.1)) i j⟩
                case measure => simp [intOf]; omega
          · obtain rfl : x = xs.length := by omega
            go_wp2
            go_ret
            exact (hR.miss fun i j hi hj => done2_all i j hi).gives HBITS.out hl
      · have e0 : R.orR xs ys = [] := by simp [R.orR, R.alikeR, hll]
        rw [e0]
        have hl1 : ((xs.length : Int) == (ys.length : Int)) = false := by simp; omega
        have hl2 : ((xs.length : Int) != (ys.length : Int)) = true := by simp; omega
        have hl3 : decide (xs.length = ys.length) = false := by simp; omega
        clear e0 hll
        go_enter Tryd.func22, Tryd.ntmps22
        go_wp2_with fail
        refine HM.out.mono ?_
        rintro e w1 ⟨rfl, hb⟩
        have HM2 := rmay_any b ys.length cb ys w1 (hy.below hb)
        rw [hm2] at HM2
        have HM2 := Lib.hid HM2
        go_wp2_with fail
        refine HM2.out.mono ?_
        rintro e w2 ⟨rfl, hb2⟩
        go_wp2
        go_ret
        exact ⟨none, 0, rfl, IsWords.nil _ _, hb.trans (hb2.mono hb.size)⟩

theorem rless_bits (xs ys : List Nat) (hwx : R.Words xs) (hwy : R.Words ys) (hal : R.alikeR xs ys = true) : Bits xs.length (R.lessR xs ys) (fun i j => (R.row xs i).testBit j = true ∧ ¬ (R.row ys i).testBit j = true) := by
  unfold R.lessR
  rw [if_pos hal]
  refine Bits.tab (fun i _ => M.lessN_lt _ _ (hwx i)) fun i j hi hj => ?_
  rw [M.lessN_testBit _ _ _ (hwx i) (hwy i)]
  simp

set_option maxHeartbeats 2000000 in
theorem rless_any (a b : Option Addr) (la lb ca cb : Nat) (xs ys : List Nat) (w : World) (hx : IsWords w a la xs) (hy : IsWords w b lb ys) :
    Calls Tryd.prog 22 #[.slice a la ca, .slice b lb cb, .int .i64 2] w (Gives (R.lessR xs ys) w) := by
  obtain rfl : xs.length = la := hx.1
  obtain rfl : ys.length = lb := hy.1
  have hxm := hx.2.1
  have hym := hy.2.1
  have HM := rmay_any a xs.length ca xs w hx
  cases hm1 : R.mayR xs
  · have e0 : R.lessR xs ys = [] := by simp [R.lessR, R.alikeR, hm1]
    rw [e0]
    rw [hm1] at HM
    have HM := Lib.hid HM
    clear e0
    go_enter Tryd.func22, Tryd.ntmps22
    go_wp2_with fail
    refine HM.out.mono ?_
    rintro e w' ⟨rfl, hb⟩
    go_wp2
    go_ret
    exact ⟨none, 0, rfl, IsWords.nil _ _, hb⟩
  · rw [hm1] at HM
    have HM := Lib.hid HM
    cases hm2 : R.mayR ys
    · have e0 : R.lessR xs ys = [] := by simp [R.lessR, R.alikeR, hm2]
      rw [e0]
      clear e0
      go_enter Tryd.func22, Tryd.ntmps22
      go_wp2_with fail
      refine HM.out.mono ?_
      rintro e w1 ⟨rfl, hb⟩
      have HM2 := rmay_any b ys.length cb ys w1 (hy.below hb)
      rw [hm2] at HM2
      have HM2 := Lib.hid HM2
      go_wp2_with fail
      refine HM2.out.mono ?_
      rintro e w2 ⟨rfl, hb2⟩
      go_wp2
      go_ret
      exact ⟨none, 0, rfl, IsWords.nil _ _, hb.trans (hb2.mono hb.size)⟩
    · by_cases hll : xs.length = ys.length
      · have hal : R.alikeR xs ys = true := R.alike_iff.2 ⟨hll, hm1, hm2⟩
        obtain ⟨i0, hi, hz0, hz1, hz2⟩ := info_parts Tryd.infoW
        have hl := R.may_len hm1
        have hwx := hx.2.2.1
        have hwy := hy.2.2.1
        have HBITS := Lib.hid (rless_bits xs ys hwx hwy hal)
        have HC : Hid (∀ i j, (R.row xs i).testBit j = true → i < xs.length ∧ j < xs.length ∧ j < 64) := fun i j h => R.may_bit hwx hm1 h
        have HD : Hid (∀ i j, (R.row ys i).testBit j = true → i < xs.length ∧ j < xs.length ∧ j < 64) := fun i j h => by rw [hll]; exact R.may_bit hwy hm2 h
        have hl1 : ((xs.length : Int) == (ys.length : Int)) = true := by rw [hll]; simp
        have hl2 : ((xs.length : Int) != (ys.length : Int)) = false := by rw [hll]; simp
        have HLL := Lib.hid hll
        have HZ := Lib.hid hz0
        have HZ1 := Lib.hid hz1
        have HZ2 := Lib.hid hz2
        have HI := Lib.hid hi
        clear hz0 hz1 hz2 hi hll hal
        go_enter Tryd.func22, Tryd.ntmps22
        go_wp2_with fail
        refine HM.out.mono ?_
        rintro e w1 ⟨rfl, hb1⟩
        have HM2 := rmay_any b ys.length cb ys w1 (hy.below hb1)
        rw [hm2] at HM2
        have HM2 := Lib.hid HM2
        go_wp2_with fail
        refine HM2.out.mono ?_
        rintro e w2 ⟨rfl, hb2⟩
        have hb12 : Below w.heap.size w w2 := hb1.trans (hb2.mono hb1.size)
        clear hb1 hb2 HM2
        go_wp2_with (at_make; refine wpList_make_full _ rfl (.tmp 28) (.tmp 28) 22 rfl w2.heap.size 23 i0 (.int .u64 0) 1 Tryd.underlying22 HI.out HZ.out HZ1.out .i64 .i64 (xs.length : Int) (xs.length : Int) xs.length rfl rfl rfl rfl (by rw [HZ2.out]; omega) (by unfold maxLen; omega) (Nat.le_refl _) ?_; intro w3 hown3 hgrow3)
        rw [made_words] at hown3
        obtain ⟨hg, hB⟩ := blk_of_own hown3
        have hb3 : Below w.heap.size w w3 := hb12.grown hgrow3 hb12.size (fun k hk => by cases hk)
        have hstart : RFil w w2.heap.size xs.length (done2 (fun i j => (R.row xs i).testBit j = true ∧ ¬ (R.row ys i).testBit j = true) 0 0) w3 := ⟨_, hB, Bits.zero _ (fun i j h => by unfold done2 at h; omega), hb3, hb12.size⟩
        have hyl : IsWords w b xs.length ys := by rw [HLL.out]; exact hy
        have hl1 : ys.length = xs.length := HLL.out.symm
        have HL1 := Lib.hid hl1
        clear hown3 hgrow3 hB hl1
        go_loopw [8] (fun k wr => ∃ x : Nat, x ≤ xs.length ∧ k = .int .i64 x ∧ RFil w w2.heap.size xs.length (done2 (fun i j => (R.row xs i).testBit j = true ∧ ¬ (R.row ys i).testBit j = true) x 0) wr) (fun k _ => xs.length - (intOf k).toNat)
        case atStart => exact ⟨0, Nat.zero_le _, rfl, hstart⟩
        case round =>
          obtain ⟨x, hx', rfl, hR⟩ := hrel
          by_cases hxl : x < xs.length
          · go_wp2
            go_loopw [9, 10, 11] (fun k _ _ wr => ∃ y : Nat, y ≤ xs.length ∧ k = .int .i64 y ∧ RFil w w2.heap.size xs.length (done2 (fun i j => (R.row xs i).testBit j = true ∧ ¬ (R.row ys i).testBit j = true) x y) wr) (fun k _ _ _ => xs.length - (intOf k).toNat)
            case atStart => exact ⟨0, Nat.zero_le _, rfl, hR⟩
            case round =>
              obtain ⟨y, hy', rfl, hR⟩ := hrel
              by_cases hyl' : y < xs.length
              · obtain ⟨ms, hBm, hbits, hbel, hwg⟩ := hR
                have ha1 := at_any a xs.length ca x y xs wr (hx.below hbel) hxl hl
                have ha2 := at_any b ys.length cb x y ys wr (hy.below hbel) (by rw [HL1.out]; exact hxl) (by rw [HL1.out]; exact hl)
                cases hp : (R.row xs x).testBit y <;> cases hq : (R.row ys x).testBit y
                · rw [hp] at ha1
                  rw [hq] at ha2
                  have HA1 := Lib.hid ha1
                  have HA2 := Lib.hid ha2
                  clear ha1 ha2
                  have HNX := Lib.hid (RFil.miss (⟨ms, hBm, hbits, hbel, hwg⟩ : RFil w w2.heap.size xs.length (done2 (fun i j => (R.row xs i).testBit j = true ∧ ¬ (R.row ys i).testBit j = true) x y) wr) (fun i j hi hj => done2_miss (C := fun i j => (R.row xs i).testBit j = true ∧ ¬ (R.row ys i).testBit j = true) (by simp [hp, hq]) i j))
                  clear hBm hbits hp hq
                  go_wp2_with fail
                  refine HA1.out.mono ?_
                  rintro e w4 ⟨rfl, rfl⟩
                  go_wp2_with fail
                  refine HA2.out.mono ?_
                  rintro e w4 ⟨rfl, rfl⟩
                  go_wp2
                  go_roundw
                  case rel => exact ⟨y + 1, by omega, by go_num, HNX.out⟩
                  case measure => simp [intOf]; omega
                · rw [hp] at ha1
                  rw [hq] at ha2
                  have HA1 := Lib.hid ha1
                  have HA2 := Lib.hid ha2
                  clear ha1 ha2
                  have HNX := Lib.hid (RFil.miss (⟨ms, hBm, hbits, hbel, hwg⟩ : RFil w w2.heap.size xs.length (done2 (fun i j => (R.row xs i).testBit j = true ∧ ¬ (R.row ys i).testBit j = true) x y) wr) (fun i j hi hj => done2_miss (C := fun i j => (R.row xs i).testBit j = true ∧ ¬ (R.row ys i).testBit j = true) (by simp [hp, hq]) i j))
                  clear hBm hbits hp hq
                  go_wp2_with fail
                  refine HA1.out.mono ?_
                  rintro e w4 ⟨rfl, rfl⟩
                  go_wp2_with fail
                  refine HA2.out.mono ?_
                  rintro e w4 ⟨rfl, rfl⟩
                  go_wp2
                  go_roundw
                  case rel => exact ⟨y + 1, by omega, by go_num, HNX.out⟩
                  case measure => simp [intOf]; omega
                · rw [hp] at ha1
                  rw [hq] at ha2
                  have HA1 := Lib.hid ha1
                  have HA2 := Lib.hid ha2
                  clear ha1 ha2
                  have c0 : wr.cell? ⟨w2.heap.size, x, none⟩ = some (.int .u64 (R.row ms x : Nat)) := by rw [hBm.cell, words_at _ _ (by rw [hbits.1]; omega)]
                  have cf := hBm.free x
                  have hcur := hbits.2.1 x
                  have HNX := Lib.hid (RFil.hit hBm hbits hbel hwg x y (by omega) (fun i j hi hj => done2_hit (C := fun i j => (R.row xs i).testBit j = true ∧ ¬ (R.row ys i).testBit j = true) (by simp [hp, hq]) i j))
                  have i1 : (0 : Int) ≤ (x : Int) := by omega
                  have i2 : (x : Int) < (xs.length : Int) := by omega
                  clear hBm hbits hp hq
                  go_wp2_with fail
                  refine HA1.out.mono ?_
                  rintro e w4 ⟨rfl, rfl⟩
                  go_wp2_with fail
                  refine HA2.out.mono ?_
                  rintro e w4 ⟨rfl, rfl⟩
                  go_wp2_with fail
                  refine (rput_any _ _ _ hcur).mono ?_
                  rintro e w4 ⟨rfl, rfl⟩
                  go_wp2
                  go_roundw
                  case rel => exact ⟨y + 1, by omega, by go_num, HNX.out⟩
                  case measure => simp [intOf]; omega
                · rw [hp] at ha1
                  rw [hq] at ha2
                  have HA1 := Lib.hid ha1
                  have HA2 := Lib.hid ha2
                  clear ha1 ha2
                  have HNX := Lib.hid (RFil.miss (⟨ms, hBm, hbits, hbel, hwg⟩ : RFil w w2.heap.size xs.length (done2 (fun i j => (R.row xs i).testBit j = true ∧ ¬ (R.row ys i).testBit j = true) x y) wr) (fun i j hi hj => done2_miss (C := fun i j => (R.row xs i).testBit j = true ∧ ¬ (R.row ys i).testBit j = true) (by simp [hp, hq]) i j))
                  clear hBm hbits hp hq
                  go_wp2_with fail
                  refine HA1.out.mono ?_
                  rintro e w4 ⟨rfl, rfl⟩
                  go_wp2_with fail
                  refine HA2.out.mono ?_
                  rintro e w4 ⟨rfl, rfl⟩
                  go_wp2
                  go_roundw
                  case rel => exact ⟨y + 1, by omega, by go_num, HNX.out⟩
                  case measure => simp [intOf]; omega
              · obtain rfl : y = xs.length := by omega
                go_wp2
                go_roundw
                case rel => exact ⟨x + 1, by omega, by go_num, hR.miss fun i j hi hj => done2_next (C := fun i j => (R.row xs i).testBit j = true ∧ ¬ (R.row ys i).testBit j = true) (fun i j h => (HC.out i j h.1).2.1) i j⟩
                case measure => simp [intOf]; omega
          · obtain rfl : x = xs.length := by omega
            go_wp2
            go_ret
            exact (hR.miss fun i j hi hj => done2_all i j hi).gives HBITS.out hl
      · have e0 : R.lessR xs ys = [] := by simp [R.lessR, R.alikeR, hll]
        rw [e0]
        have hl1 : ((xs.length : Int) == (ys.length : Int)) = false := by simp; omega
        have hl2 : ((xs.length : Int) != (ys.length : Int)) = true := by simp; omega
        have hl3 : decide (xs.length = ys.length) = false := by simp; omega
        clear e0 hll
        go_enter Tryd.func22, Tryd.ntmps22
        go_wp2_with fail
        refine HM.out.mono ?_
        rintro e w1 ⟨rfl, hb⟩
        have HM2 := rmay_any b ys.length cb ys w1 (hy.below hb)
        rw [hm2] at HM2
        have HM2 := Lib.hid HM2
        go_wp2_with fail
        refine HM2.out.mono ?_
        rintro e w2 ⟨rfl, hb2⟩
        go_wp2
        go_ret
        exact ⟨none, 0, rfl, IsWords.nil _ _, hb.trans (hb2.mono hb.size)⟩
end Go.Proofs.YtafdbocepepcgaaDoor
