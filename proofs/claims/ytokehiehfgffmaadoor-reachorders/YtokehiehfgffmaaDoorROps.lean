/-
  What rel.alike, Or, And, Less, Then and Same answer, as contracts.
-/
import Derived.Test.YtokehiehfgffmaaDoorRFill
namespace Go.Proofs.YtokehiehfgffmaaDoor
open Go.RowKit
set_option linter.unusedVariables false
set_option linter.unusedSimpArgs false

set_option maxHeartbeats 400000 in
theorem alike_any (a b : Option Addr) (la lb ca cb : Nat) (xs ys : List Nat) (w : World) (hx : IsWords w a la xs) (hy : IsWords w b lb ys) (hT : Tb w) :
    Calls Tryd.prog 58 #[.slice a la ca, .slice b lb cb] w (Ans (.bool (R.alikeR xs ys)) w) := by
  obtain rfl : xs.length = la := hx.1
  obtain rfl : ys.length = lb := hy.1
  have hm1 := hx.2.1
  have hm2 := hy.2.1
  have HX := Lib.hid (may_any' a xs.length ca xs w hx hT)
  by_cases hl : xs.length = ys.length
  · have hl1 : ((xs.length : Int) == (ys.length : Int)) = true := by rw [hl]; simp
    cases hm : R.mayR xs
    · have H : Hid (false = R.alikeR xs ys) := show false = R.alikeR xs ys by simp [R.alikeR, hm]
      rw [hm] at HX
      have HL := Lib.hid hl
      clear hl
      go_enter Tryd.func58, Tryd.ntmps58
      go_wp2_with fail
      refine HX.out.mono ?_
      rintro e w1 ⟨rfl, hb1⟩
      go_wp2
      go_ret
      exact ⟨ret_bool H.out, hb1⟩
    · have H : Hid (R.mayR ys = R.alikeR xs ys) := show R.mayR ys = R.alikeR xs ys by simp [R.alikeR, hm, hl]
      rw [hm] at HX
      have HL := Lib.hid hl
      clear hl
      go_enter Tryd.func58, Tryd.ntmps58
      go_wp2_with fail
      refine HX.out.mono ?_
      rintro e w1 ⟨rfl, hb1⟩
      go_wp2_with fail
      refine (may_any' b ys.length cb ys w1 (hy.below hb1) (hT.below hb1)).mono ?_
      rintro e w2 ⟨rfl, hb2⟩
      go_wp2
      go_ret
      exact ⟨ret_bool H.out, hb1.trans (hb2.mono hb1.size)⟩
  · have hl1 : ((xs.length : Int) == (ys.length : Int)) = false := by simp; omega
    have hl2 : decide (xs.length = ys.length) = false := by simp; omega
    have H : Hid (false = R.alikeR xs ys) := show false = R.alikeR xs ys by simp [R.alikeR, hl]
    go_enter Tryd.func58, Tryd.ntmps58
    go_wp2
    go_ret
    exact ⟨ret_bool H.out, Below.refl _ _⟩
theorem in_all {n : Nat} (h : n ≤ 64) : ∀ x ∈ M.bl (R.things n), x < n := fun x hx => by rw [R.bl_things _ h] at hx; exact List.mem_range.1 hx
theorem may_in {xs : List Nat} (hw : R.Words xs) (hm : R.mayR xs = true) (x : Nat) : ∀ y ∈ M.bl (R.row xs x), y < xs.length := fun y hy => (R.may_bit hw hm ((M.mem_bl _ _).1 hy).2).2.1

set_option maxHeartbeats 400000 in
theorem orR_any (a b : Option Addr) (la lb ca cb : Nat) (xs ys : List Nat) (w : World) (hx : IsWords w a la xs) (hy : IsWords w b lb ys) (hT : Tb w) :
    Calls Tryd.prog 29 #[.slice a la ca, .slice b lb cb] w (Gives (R.orR xs ys) w) := by
  obtain rfl : xs.length = la := hx.1
  obtain rfl : ys.length = lb := hy.1
  have HM := alike_any a b xs.length ys.length ca cb xs ys w hx hy hT
  cases hm : R.alikeR xs ys
  · have e0 : R.orR xs ys = [] := by simp [R.orR, hm]
    rw [e0]
    rw [hm] at HM
    have HM := Lib.hid HM
    clear e0
    go_enter Tryd.func29, Tryd.ntmps29
    go_wp2_with fail
    refine HM.out.mono ?_
    rintro e w' ⟨rfl, hb⟩
    go_wp2
    go_ret
    exact ⟨none, 0, rfl, IsWords.nil _ _, hb⟩
  · obtain ⟨hll, hm1, hm2⟩ := R.alike_iff.1 hm
    have hl := R.may_len hm1
    have hwx := hx.2.2.1
    have hwy := hy.2.2.1
    have hk : R.part xs.length (fun x => R.row xs x ||| R.row ys x) (M.bl (R.things xs.length)) = R.orR xs ys := by
      rw [R.bl_things _ hl, R.part_full]
      simp [R.orR, hm]
    have hlen : (R.orR xs ys).length = xs.length := by rw [← hk, R.part_len]
    have HK := Lib.hid hk
    have HLEN := Lib.hid hlen
    have HW : Hid (R.Words (R.orR xs ys)) := R.orR_words hwx hwy
    rw [hm] at HM
    have HM := Lib.hid HM
    have HIN := Lib.hid (in_all hl)
    have HLL := Lib.hid hll
    clear hk hlen hll
    go_enter Tryd.func29, Tryd.ntmps29
    go_wp2_with fail
    refine HM.out.mono ?_
    rintro e w1 ⟨rfl, hb1⟩
    go_wp2_with fail
    refine (new_any xs.length w1 hl).mono ?_
    rintro e w2 ⟨g, rfl, hg, hB, hb2⟩
    rw [List.length_replicate]
    go_wp2_with fail
    refine (things_any _ _ _ _).mono ?_
    rintro e w3 ⟨rfl, rfl⟩
    go_wp2_with fail
    have hb12 : Below w.heap.size w w2 := hb1.trans (hb2.mono hb1.size)
    have hne : w2.heap.size ≠ g := by have := hB.lt; omega
    refine (reach_each _ enters_or _ (fun l w' => Filling w w2.heap.size g 70 #[.slice b ys.length cb, .slice (some ⟨g, 0, none⟩) xs.length xs.length] (R.part xs.length (fun x => R.row xs x ||| R.row ys x) l) w') a xs.length ca _ xs _ (R.things_lt _) HIN.out ⟨Blk.new _ _ _, by rw [R.part_nil]; exact hB.alloc _, hb12.alloc hb12.size _, hb12.size, Nat.le_trans hb1.size hg, hne⟩ (fun l w' hI => ⟨hx.below hI.2.2.1, hT.below hI.2.2.1⟩) ?_).mono ?_
    · rintro l x w' ⟨r, hr⟩ hI
      have hxn : x < xs.length := HIN.out x (by rw [← hr]; simp)
      have hB1 := hI.1
      rw [← HLL.out] at hB1
      have hy1 := hy.below hI.2.2.1
      rw [← HLL.out] at hy1
      refine (both_or_any _ _ _ _ _ _ _ ys w' (hwx x) _ hB1 hI.2.1 (R.part_len _ _ _) hxn hl hy1).mono ?_
      rintro e w3 ⟨rfl, n, rfl⟩
      refine ⟨rfl, ?_⟩
      have := hI.store x (R.row xs x ||| R.row ys x) n
      rw [R.part_snoc (f := fun x => R.row xs x ||| R.row ys x)] at this
      exact this
    · rintro e w3 ⟨rfl, hI⟩
      rw [HK.out] at hI
      have c1 : w3.cell? ⟨w2.heap.size, 1, none⟩ = some (.slice (some ⟨g, 0, none⟩) xs.length xs.length) := hI.1.cell 1
      go_wp2
      go_ret
      refine ⟨some ⟨g, 0, none⟩, xs.length, by rw [HLEN.out]; rfl, ?_, hI.2.2.1⟩
      exact hI.2.1.words rfl (by rw [HLEN.out]; omega) HW.out

set_option maxHeartbeats 400000 in
theorem lessR_any (a b : Option Addr) (la lb ca cb : Nat) (xs ys : List Nat) (w : World) (hx : IsWords w a la xs) (hy : IsWords w b lb ys) (hT : Tb w) :
    Calls Tryd.prog 32 #[.slice a la ca, .slice b lb cb] w (Gives (R.lessR xs ys) w) := by
  obtain rfl : xs.length = la := hx.1
  obtain rfl : ys.length = lb := hy.1
  have HM := alike_any a b xs.length ys.length ca cb xs ys w hx hy hT
  cases hm : R.alikeR xs ys
  · have e0 : R.lessR xs ys = [] := by simp [R.lessR, hm]
    rw [e0]
    rw [hm] at HM
    have HM := Lib.hid HM
    clear e0
    go_enter Tryd.func32, Tryd.ntmps32
    go_wp2_with fail
    refine HM.out.mono ?_
    rintro e w' ⟨rfl, hb⟩
    go_wp2
    go_ret
    exact ⟨none, 0, rfl, IsWords.nil _ _, hb⟩
  · obtain ⟨hll, hm1, hm2⟩ := R.alike_iff.1 hm
    have hl := R.may_len hm1
    have hwx := hx.2.2.1
    have hwy := hy.2.2.1
    have hk : R.part xs.length (fun x => M.lessN (R.row xs x) (R.row ys x)) (M.bl (R.things xs.length)) = R.lessR xs ys := by
      rw [R.bl_things _ hl, R.part_full]
      simp [R.lessR, hm]
    have hlen : (R.lessR xs ys).length = xs.length := by rw [← hk, R.part_len]
    have HK := Lib.hid hk
    have HLEN := Lib.hid hlen
    have HW : Hid (R.Words (R.lessR xs ys)) := R.lessR_words hwx
    rw [hm] at HM
    have HM := Lib.hid HM
    have HIN := Lib.hid (in_all hl)
    have HLL := Lib.hid hll
    clear hk hlen hll
    go_enter Tryd.func32, Tryd.ntmps32
    go_wp2_with fail
    refine HM.out.mono ?_
    rintro e w1 ⟨rfl, hb1⟩
    go_wp2_with fail
    refine (new_any xs.length w1 hl).mono ?_
    rintro e w2 ⟨g, rfl, hg, hB, hb2⟩
    rw [List.length_replicate]
    go_wp2_with fail
    refine (things_any _ _ _ _).mono ?_
    rintro e w3 ⟨rfl, rfl⟩
    go_wp2_with fail
    have hb12 : Below w.heap.size w w2 := hb1.trans (hb2.mono hb1.size)
    have hne : w2.heap.size ≠ g := by have := hB.lt; omega
    refine (reach_each _ enters_less _ (fun l w' => Filling w w2.heap.size g 70 #[.slice b ys.length cb, .slice (some ⟨g, 0, none⟩) xs.length xs.length] (R.part xs.length (fun x => M.lessN (R.row xs x) (R.row ys x)) l) w') a xs.length ca _ xs _ (R.things_lt _) HIN.out ⟨Blk.new _ _ _, by rw [R.part_nil]; exact hB.alloc _, hb12.alloc hb12.size _, hb12.size, Nat.le_trans hb1.size hg, hne⟩ (fun l w' hI => ⟨hx.below hI.2.2.1, hT.below hI.2.2.1⟩) ?_).mono ?_
    · rintro l x w' ⟨r, hr⟩ hI
      have hxn : x < xs.length := HIN.out x (by rw [← hr]; simp)
      have hB1 := hI.1
      rw [← HLL.out] at hB1
      have hy1 := hy.below hI.2.2.1
      rw [← HLL.out] at hy1
      refine (both_less_any _ _ _ _ _ _ _ ys w' (hwx x) _ hB1 hI.2.1 (R.part_len _ _ _) hxn hl hy1).mono ?_
      rintro e w3 ⟨rfl, n, rfl⟩
      refine ⟨rfl, ?_⟩
      have := hI.store x (M.lessN (R.row xs x) (R.row ys x)) n
      rw [R.part_snoc (f := fun x => M.lessN (R.row xs x) (R.row ys x))] at this
      exact this
    · rintro e w3 ⟨rfl, hI⟩
      rw [HK.out] at hI
      have c1 : w3.cell? ⟨w2.heap.size, 1, none⟩ = some (.slice (some ⟨g, 0, none⟩) xs.length xs.length) := hI.1.cell 1
      go_wp2
      go_ret
      refine ⟨some ⟨g, 0, none⟩, xs.length, by rw [HLEN.out]; rfl, ?_, hI.2.2.1⟩
      exact hI.2.1.words rfl (by rw [HLEN.out]; omega) HW.out

set_option maxHeartbeats 400000 in
theorem thenR_any (a b : Option Addr) (la lb ca cb : Nat) (xs ys : List Nat) (w : World) (hx : IsWords w a la xs) (hy : IsWords w b lb ys) (hT : Tb w) :
    Calls Tryd.prog 30 #[.slice a la ca, .slice b lb cb] w (Gives (R.thenR xs ys) w) := by
  obtain rfl : xs.length = la := hx.1
  obtain rfl : ys.length = lb := hy.1
  have HM := alike_any a b xs.length ys.length ca cb xs ys w hx hy hT
  cases hm : R.alikeR xs ys
  · have e0 : R.thenR xs ys = [] := by simp [R.thenR, hm]
    rw [e0]
    rw [hm] at HM
    have HM := Lib.hid HM
    clear e0
    go_enter Tryd.func30, Tryd.ntmps30
    go_wp2_with fail
    refine HM.out.mono ?_
    rintro e w' ⟨rfl, hb⟩
    go_wp2
    go_ret
    exact ⟨none, 0, rfl, IsWords.nil _ _, hb⟩
  · obtain ⟨hll, hm1, hm2⟩ := R.alike_iff.1 hm
    have hl := R.may_len hm1
    have hwx := hx.2.2.1
    have hwy := hy.2.2.1
    have hk : R.part xs.length (fun x => R.intoN ys (R.row xs x)) (M.bl (R.things xs.length)) = R.thenR xs ys := by
      rw [R.bl_things _ hl, R.part_full]
      simp [R.thenR, hm]
    have hlen : (R.thenR xs ys).length = xs.length := by rw [← hk, R.part_len]
    have HK := Lib.hid hk
    have HLEN := Lib.hid hlen
    have HW : Hid (R.Words (R.thenR xs ys)) := R.thenR_words hwy
    rw [hm] at HM
    have HM := Lib.hid HM
    have HIN := Lib.hid (in_all hl)
    have HLL := Lib.hid hll
    clear hk hlen hll
    go_enter Tryd.func30, Tryd.ntmps30
    go_wp2_with fail
    refine HM.out.mono ?_
    rintro e w1 ⟨rfl, hb1⟩
    go_wp2_with fail
    refine (new_any xs.length w1 hl).mono ?_
    rintro e w2 ⟨g, rfl, hg, hB, hb2⟩
    rw [List.length_replicate]
    go_wp2_with fail
    refine (things_any _ _ _ _).mono ?_
    rintro e w3 ⟨rfl, rfl⟩
    go_wp2_with fail
    have hb12 : Below w.heap.size w w2 := hb1.trans (hb2.mono hb1.size)
    have hne : w2.heap.size ≠ g := by have := hB.lt; omega
    refine (reach_each _ enters_then _ (fun l w' => Filling w w2.heap.size g 70 #[.slice b ys.length cb, .slice (some ⟨g, 0, none⟩) xs.length xs.length] (R.part xs.length (fun x => R.intoN ys (R.row xs x)) l) w') a xs.length ca _ xs _ (R.things_lt _) HIN.out ⟨Blk.new _ _ _, by rw [R.part_nil]; exact hB.alloc _, hb12.alloc hb12.size _, hb12.size, Nat.le_trans hb1.size hg, hne⟩ (fun l w' hI => ⟨hx.below hI.2.2.1, hT.below hI.2.2.1⟩) ?_).mono ?_
    · rintro l x w' ⟨r, hr⟩ hI
      have hxn : x < xs.length := HIN.out x (by rw [← hr]; simp)
      have hB1 := hI.1
      rw [← HLL.out] at hB1
      have hy1 := hy.below hI.2.2.1
      rw [← HLL.out] at hy1
      refine (both_then_any _ _ _ _ _ _ _ ys w' (hwx x) _ hB1 hI.2.1 (R.part_len _ _ _) hxn hl hy1 (hT.below hI.2.2.1) (may_in hwx hm1 x)).mono ?_
      rintro e w3 ⟨rfl, w4, n, hb4, rfl⟩
      refine ⟨rfl, ?_⟩
      have := (hI.below hb4).store x (R.intoN ys (R.row xs x)) n
      rw [R.part_snoc (f := fun x => R.intoN ys (R.row xs x))] at this
      exact this
    · rintro e w3 ⟨rfl, hI⟩
      rw [HK.out] at hI
      have c1 : w3.cell? ⟨w2.heap.size, 1, none⟩ = some (.slice (some ⟨g, 0, none⟩) xs.length xs.length) := hI.1.cell 1
      go_wp2
      go_ret
      refine ⟨some ⟨g, 0, none⟩, xs.length, by rw [HLEN.out]; rfl, ?_, hI.2.2.1⟩
      exact hI.2.1.words rfl (by rw [HLEN.out]; omega) HW.out

set_option maxHeartbeats 800000 in
theorem equal_len (a b : Option Addr) (la lb ca cb : Nat) (w : World) (hl : la ≠ lb) (h1 : la ≤ 4611686018427387904) (h2 : lb ≤ 4611686018427387904) :
    Calls Tryd.prog 57 #[.slice a la ca, .slice b lb cb] w fun e w' => e = .returned (.bool false) ∧ w = w' := by
  have hl1 : ((la : Int) == (lb : Int)) = false := by simp; omega
  have hl2 : ((la : Int) != (lb : Int)) = true := by simp; omega
  go_enter Tryd.func57, Tryd.ntmps57
  go_wp2
  go_ret
  exact ⟨rfl, rfl⟩
set_option maxHeartbeats 800000 in
theorem equal_alike (a b : Option Addr) (len ca cb : Nat) (xs ys : List Nat) (w : World) (hx : IsWords w a len xs) (hy : IsWords w b len ys) :
    Calls Tryd.prog 57 #[.slice a len ca, .slice b len cb] w (Ans (.bool (decide (xs = ys))) w) := by
  have hm := hx.2.1
  have HX := Lib.hid hx
  have HY := Lib.hid hy
  clear hx hy
  go_enter Tryd.func57, Tryd.ntmps57
  go_wp2
  go_loopw [5, 13] (fun _ k wr => ∃ j : Nat, j ≤ len ∧ k = .int .i64 j ∧ (∀ i, i < j → R.row xs i = R.row ys i) ∧ ∃ nq, wr = w.drewN nq) (fun _ k _ => len - (intOf k).toNat)
  case atStart => exact ⟨0, Nat.zero_le _, rfl, fun i hi => absurd hi (by omega), 0, rfl⟩
  case round =>
    obtain ⟨j, hj, rfl, heq, nq, rfl⟩ := hrel
    have HE := Lib.hid heq
    clear heq
    by_cases hjl : j < len
    · obtain ⟨b1, o1, rfl, hc1⟩ := HX.out.at (by omega)
      obtain ⟨b2, o2, rfl, hc2⟩ := HY.out.at (by omega)
      have a1 := hc1 j hjl
      have a2 := hc2 j hjl
      clear hc1 hc2
      have d1 : (0 : Int) ≤ (j : Int) := by omega
      have d2 : (j : Int) < (len : Int) := by omega
      by_cases he : R.row xs j = R.row ys j
      · have hjj : ∀ i, i < j + 1 → R.row xs i = R.row ys i := fun i hi => by
          rcases Nat.lt_or_ge i j with h | h
          · exact HE.out i h
          · obtain rfl : i = j := by omega
            exact he
        have HJ := Lib.hid hjj
        rw [← he] at a2
        clear he hjj
        generalize R.row xs j = x at *
        go_wp2_with fail
        go_quiet (fail)
        go_wp2
        go_roundw
        case rel =>
          exact ⟨j + 1, by omega, by go_num, HJ.out, _, rfl⟩
        case measure => simp [intOf]; omega
      · have hn1 : ((R.row xs j : Int) == (R.row ys j : Int)) = false := by simp; omega
        have hn2 : ((R.row xs j : Int) != (R.row ys j : Int)) = true := by simp; omega
        have HN : Hid (decide (xs = ys) = false) := show decide (xs = ys) = false by
          simp
          rintro rfl
          exact he rfl
        clear he
        generalize R.row xs j = x at *
        generalize R.row ys j = y at *
        go_wp2_with fail
        go_quiet (fail)
        go_wp2
        go_ret
        exact ⟨ret_bool HN.out.symm, below_drewN (below_drewN (Below.refl _ _) _) _⟩
    · obtain rfl : j = len := by omega
      have HN : Hid (decide (xs = ys) = true) := show decide (xs = ys) = true by
        simp
        exact R.rows_ext (by rw [HX.out.1, HY.out.1]) (fun i hi => HE.out i (by rw [HX.out.1] at hi; exact hi))
      go_wp2
      go_ret
      exact ⟨ret_bool HN.out.symm, below_drewN (Below.refl _ _) _⟩
theorem equal_any (a b : Option Addr) (la lb ca cb : Nat) (xs ys : List Nat) (w : World) (hx : IsWords w a la xs) (hy : IsWords w b lb ys) :
    Calls Tryd.prog 57 #[.slice a la ca, .slice b lb cb] w (Ans (.bool (decide (xs = ys))) w) := by
  by_cases hl : la = lb
  · subst hl
    exact equal_alike a b la ca cb xs ys w hx hy
  · refine (equal_len a b la lb ca cb w hl hx.2.1 hy.2.1).mono ?_
    rintro e w' ⟨rfl, rfl⟩
    have : decide (xs = ys) = false := by
      simp
      rintro rfl
      exact hl (hx.1.symm.trans hy.1)
    exact ⟨by rw [this], Below.refl _ _⟩

set_option maxHeartbeats 400000 in
theorem sameR_any (a b : Option Addr) (la lb ca cb : Nat) (xs ys : List Nat) (w : World) (hx : IsWords w a la xs) (hy : IsWords w b lb ys) :
    Calls Tryd.prog 28 #[.slice a la ca, .slice b lb cb] w (Ans (.bool (decide (xs = ys))) w) := by
  have HE := Lib.hid (equal_any a b la lb ca cb xs ys w hx hy)
  go_enter Tryd.func28, Tryd.ntmps28
  go_wp2_with fail
  refine HE.out.mono ?_
  rintro e w' ⟨rfl, hb⟩
  go_wp2
  go_ret
  exact ⟨rfl, hb⟩
end Go.Proofs.YtokehiehfgffmaaDoor
