/-
  What rel.into, Into, Count, Same, Has and alike answer, as contracts.
-/
import Derived.Test.YtokehiehfgffmaaDoorRMay
import Derived.BigRegion
import Derived.Deep.RegionWith
namespace Go.Proofs.YtokehiehfgffmaaDoor
open Go.RowKit
set_option linter.unusedVariables false
set_option linter.unusedSimpArgs false

theorem enters_union : Enters 81 := enters_of Tryd.func81 (by kernel_rfl) rfl
set_option maxHeartbeats 400000 in
theorem union_any (B u r : Nat) (x : Int) (w : World) (hr : r < 2 ^ 64) (hu : u < 2 ^ 64) (h : Blk w B 96 #[.int .u64 u]) :
    Calls Tryd.prog 81 #[.pointer (some ⟨B, 0, none⟩), .int .i64 x, .int .u64 r] w fun e w' => e = .returned (.tuple #[]) ∧ w.setCell ⟨B, 0, none⟩ (.int .u64 (u ||| r : Nat)) = w' := by
  have c0 : w.cell? ⟨B, 0, none⟩ = some (.int .u64 u) := h.cell 0
  have f0 := h.free 0
  have hb := bits_or_u64_nat u r hu hr
  clear h
  go_enter Tryd.func81, Tryd.ntmps81
  go_wp2
  go_end0
  exact ⟨rfl, rfl⟩
set_option maxHeartbeats 400000 in
theorem into_any (a : Option Addr) (len cap s : Nat) (xs : List Nat) (w : World) (hx : IsWords w a len xs) (hT : Tb w) (hs : s < 2 ^ 64) (hin : ∀ x ∈ M.bl s, x < len) :
    Calls Tryd.prog 68 #[.slice a len cap, .int .u64 s] w (Ans (.int .u64 (R.intoN xs s : Nat)) w) := by
  have HIN := Lib.hid hin
  clear hin
  go_enter Tryd.func68, Tryd.ntmps68
  go_wp2_with fail
  refine (reach_each _ enters_union _ (fun l w' => Blk w' w.heap.size 96 #[.int .u64 (l.foldl (fun u x => u ||| R.row xs x) 0 : Nat)] ∧ Below w.heap.size w w') a len cap _ xs _ hs HIN.out ⟨Blk.new _ _ _, (Below.refl _ _).alloc (Nat.le_refl _) _⟩ (fun l w' hI => ⟨hx.below hI.2, hT.below hI.2⟩) ?_).mono ?_
  · rintro l x w' ⟨r, hr⟩ ⟨hB, hb⟩
    refine (union_any _ _ _ _ w' (hx.2.2.1 x) (R.foldl_or_lt xs hx.2.2.1 l 0 (by decide)) hB).mono ?_
    rintro e w2 ⟨rfl, rfl⟩
    refine ⟨rfl, ?_, hb.setCell (Nat.le_refl _) _⟩
    rw [R.intoN_snoc]
    exact hB.set 0 _
  · rintro e w2 ⟨rfl, hB, hb⟩
    have c2 : w2.cell? ⟨w.heap.size, 0, none⟩ = some (.int .u64 (R.intoN xs s : Nat)) := hB.cell 0
    clear hB
    go_wp2
    go_ret
    exact ⟨rfl, hb⟩
theorem in_things {s len : Nat} : ∀ x ∈ M.bl (s &&& R.things len), x < len := by
  intro x hx
  obtain ⟨h1, h2⟩ := (M.mem_bl _ _).1 hx
  rw [Nat.testBit_and, R.things_bit _ _ h1] at h2
  simp at h2
  exact h2.2
set_option maxHeartbeats 400000 in
theorem intoR_any (a : Option Addr) (len cap s : Nat) (xs : List Nat) (w : World) (hx : IsWords w a len xs) (hT : Tb w) (hs : s < 2 ^ 64) :
    Calls Tryd.prog 36 #[.slice a len cap, .int .u64 s] w (Ans (.int .u64 (R.intoR xs s : Nat)) w) := by
  cases hm : R.mayR xs
  · have H : Hid ((0 : Int) = (R.intoR xs s : Nat)) := show (0 : Int) = (R.intoR xs s : Nat) by simp [R.intoR, hm]
    have HM := may_any' a len cap xs w hx hT
    rw [hm] at HM
    have HM := Lib.hid HM
    go_enter Tryd.func36, Tryd.ntmps36
    go_wp2_with fail
    refine HM.out.mono ?_
    rintro e w' ⟨rfl, hb⟩
    go_wp2
    go_ret
    exact ⟨ret_int H.out, hb⟩
  · have e0 : R.intoR xs s = R.intoN xs (s &&& R.things len) := by rw [← hx.1]; simp [R.intoR, hm]
    rw [e0]
    have HM := may_any' a len cap xs w hx hT
    rw [hm] at HM
    have HM := Lib.hid HM
    have hand := bits_and_u64_nat s (R.things len) hs (R.things_lt _)
    have hlt : s &&& R.things len < 2 ^ 64 := Nat.lt_of_le_of_lt Nat.and_le_left hs
    clear e0
    go_enter Tryd.func36, Tryd.ntmps36
    go_wp2_with fail
    refine HM.out.mono ?_
    rintro e w' ⟨rfl, hb⟩
    go_wp2_with fail
    refine (things_any _ _ _ _).mono ?_
    rintro e w2 ⟨rfl, rfl⟩
    go_wp2_with fail
    refine (into_any a len cap _ xs _ (hx.below hb) (hT.below hb) hlt in_things).mono ?_
    rintro e w2 ⟨rfl, hb2⟩
    go_wp2
    go_ret
    exact ⟨rfl, hb.trans (hb2.mono hb.size)⟩

/-- A method that writes one cell, and answers nothing. -/
def Wrote (a : Addr) (v : Value) (w : World) (e : Ending) (w' : World) : Prop := e = .returned (.tuple #[]) ∧ ∃ n, w' = (w.setCell a v).drewN n
theorem enters_tally : Enters 64 := enters_of Tryd.func64 (by kernel_rfl) rfl
set_option maxHeartbeats 400000 in
theorem tally_any (B u r : Nat) (x : Int) (w : World) (hr : r < 2 ^ 64) (hu : u ≤ 1000000) (h : Blk w B 74 #[.int .i64 u]) :
    Calls Tryd.prog 64 #[.pointer (some ⟨B, 0, none⟩), .int .i64 x, .int .u64 r] w (Wrote ⟨B, 0, none⟩ (.int .i64 (u + M.cnt r : Nat)) w) := by
  have c0 : w.cell? ⟨B, 0, none⟩ = some (.int .i64 u) := h.cell 0
  have f0 := h.free 0
  have hc := M.cnt_le r
  have hs : IntKind.i64.wrap ((u : Int) + (M.cnt r : Int)) = ((u + M.cnt r : Nat) : Int) := by
    rw [IntKind.wrap_i64]
    omega
  clear h
  go_enter Tryd.func64, Tryd.ntmps64
  go_wp2
  go_region_with ((go_at_call 75; refine (count_any _ _ hr).mono ?_; rintro e w' ⟨rfl, rfl⟩))
  all_goals (go_end0; exact ⟨rfl, 1, rfl⟩)
theorem sum_le (xs : List Nat) : ∀ (l : List Nat), (l.map fun x => M.cnt (R.row xs x)).sum ≤ 64 * l.length
  | [] => by simp
  | x :: l => by
    have := sum_le xs l
    have := M.cnt_le (R.row xs x)
    simp only [List.map_cons, List.sum_cons, List.length_cons]
    omega
theorem count_rows (xs : List Nat) : ((List.range xs.length).map fun x => M.cnt (R.row xs x)).sum = (xs.map M.cnt).sum := by
  congr 1
  apply List.ext_getElem (by simp)
  intro i h1 h2
  have h3 : i < xs.length := by simpa using h1
  simp [R.row, List.getD, h3]
set_option maxHeartbeats 400000 in
theorem countR_any (a : Option Addr) (len cap : Nat) (xs : List Nat) (w : World) (hx : IsWords w a len xs) (hT : Tb w) :
    Calls Tryd.prog 31 #[.slice a len cap] w (Ans (.int .i64 (R.countR xs : Nat)) w) := by
  obtain rfl : xs.length = len := hx.1
  cases hm : R.mayR xs
  · have H : Hid ((0 : Int) = (R.countR xs : Nat)) := show (0 : Int) = (R.countR xs : Nat) by simp [R.countR, hm]
    have HM := may_any' a xs.length cap xs w hx hT
    rw [hm] at HM
    have HM := Lib.hid HM
    go_enter Tryd.func31, Tryd.ntmps31
    go_wp2_with fail
    refine HM.out.mono ?_
    rintro e w' ⟨rfl, hb⟩
    go_wp2
    go_ret
    exact ⟨ret_int H.out, hb⟩
  · have hl := R.may_len hm
    have e0 : R.countR xs = ((M.bl (R.things xs.length)).map fun x => M.cnt (R.row xs x)).sum := by rw [R.bl_things _ hl, count_rows]; simp [R.countR, hm]
    rw [e0]
    have HM := may_any' a xs.length cap xs w hx hT
    rw [hm] at HM
    have HM := Lib.hid HM
    have hin : ∀ x ∈ M.bl (R.things xs.length), x < xs.length := fun x hx => by rw [R.bl_things _ hl] at hx; exact List.mem_range.1 hx
    have HIN := Lib.hid hin
    have HL : Hid ((M.bl (R.things xs.length)).length ≤ 64) := M.bl_len _
    clear e0 hin
    go_enter Tryd.func31, Tryd.ntmps31
    go_wp2_with fail
    refine HM.out.mono ?_
    rintro e w1 ⟨rfl, hb⟩
    go_wp2_with fail
    refine (things_any _ _ _ _).mono ?_
    rintro e w2 ⟨rfl, rfl⟩
    go_wp2_with fail
    refine (reach_each _ enters_tally _ (fun l w' => Blk w' w1.heap.size 74 #[.int .i64 ((l.map fun x => M.cnt (R.row xs x)).sum : Nat)] ∧ Below w1.heap.size w1 w') a xs.length cap _ xs _ (R.things_lt _) HIN.out ⟨Blk.new _ _ _, (Below.refl _ _).alloc (Nat.le_refl _) _⟩ (fun l w' hI => ⟨(hx.below hb).below hI.2, (hT.below hb).below hI.2⟩) ?_).mono ?_
    · rintro l x w' ⟨r, hr⟩ ⟨hB, hb'⟩
      have hll : l.length ≤ 64 := by
        have := HL.out
        rw [← hr] at this
        simp at this
        omega
      have hsum := sum_le xs l
      refine (tally_any _ _ _ _ w' (hx.2.2.1 x) (by omega) hB).mono ?_
      rintro e w2 ⟨rfl, n, rfl⟩
      refine ⟨rfl, ?_, below_drewN (hb'.setCell (Nat.le_refl _) _) _⟩
      have e1 : ((l ++ [x]).map fun x => M.cnt (R.row xs x)).sum = (l.map fun x => M.cnt (R.row xs x)).sum + M.cnt (R.row xs x) := by simp
      rw [e1]
      exact (hB.set 0 _).drewN n
    · rintro e w2 ⟨rfl, hB, hb2⟩
      have c2 : w2.cell? ⟨w1.heap.size, 0, none⟩ = some (.int .i64 (((M.bl (R.things xs.length)).map fun x => M.cnt (R.row xs x)).sum : Nat)) := hB.cell 0
      clear hB
      go_wp2
      go_ret
      exact ⟨rfl, hb.trans (hb2.mono hb.size)⟩

set_option maxHeartbeats 400000 in
theorem hasR_any (a : Option Addr) (len cap : Nat) (x y : Int) (xs : List Nat) (w : World) (hx : IsWords w a len xs) (hT : Tb w) :
    Calls Tryd.prog 35 #[.slice a len cap, .int .i64 x, .int .i64 y] w (Ans (.bool (R.hasR xs x y)) w) := by
  obtain rfl : xs.length = len := hx.1
  cases hm : R.mayR xs
  · have H : Hid (false = R.hasR xs x y) := show false = R.hasR xs x y by simp [R.hasR, hm]
    have HM := may_any' a xs.length cap xs w hx hT
    rw [hm] at HM
    have HM := Lib.hid HM
    go_enter Tryd.func35, Tryd.ntmps35
    go_wp2_with fail
    refine HM.out.mono ?_
    rintro e w' ⟨rfl, hb⟩
    go_wp2
    go_ret
    exact ⟨ret_bool H.out, hb⟩
  · have hl := R.may_len hm
    have HM := may_any' a xs.length cap xs w hx hT
    rw [hm] at HM
    have HM := Lib.hid HM
    by_cases hin : 0 ≤ x ∧ x < xs.length
    · obtain ⟨k, rfl⟩ : ∃ k : Nat, x = (k : Int) := ⟨x.toNat, by omega⟩
      have hk : k < xs.length := by omega
      have hh : M.hasB (R.things xs.length) (k : Int) = true := by
        rw [M.hasB_nat _ _ (R.things_lt _), R.things_bit _ _ (by omega)]
        simpa using hk
      have H : Hid (M.hasB (R.row xs k) y = R.hasR xs k y) := show M.hasB (R.row xs k) y = R.hasR xs k y by
        simp [R.hasR, hm, hin]
      have hw := hx.2.2.1 k
      obtain ⟨b, off, rfl, hc⟩ := hx.at (by omega)
      have hc0 := hc k hk
      have HX := Lib.hid hx
      clear hc hx
      have hi1 : (0 : Int) ≤ (k : Int) := by omega
      have hi2 : (k : Int) < (xs.length : Int) := by omega
      clear hin
      go_enter Tryd.func35, Tryd.ntmps35
      go_wp2_with fail
      refine HM.out.mono ?_
      rintro e w1 ⟨rfl, hb⟩
      have hc1 : w1.cell? ⟨b, off + k, none⟩ = some (.int .u64 (R.row xs k : Nat)) := by
        rw [hb.cell (p := ⟨b, off + k, none⟩) (World.block_lt_of_cell? w _ hc0)]
        exact hc0
      clear hc0
      go_wp2_with fail
      refine (things_any _ _ _ _).mono ?_
      rintro e w2 ⟨rfl, rfl⟩
      go_wp2_with fail
      refine (has_any _ _ _ (R.things_lt _)).mono ?_
      rintro e w2 ⟨rfl, rfl⟩
      go_wp2_with fail
      refine (has_any _ _ _ hw).mono ?_
      rintro e w2 ⟨rfl, rfl⟩
      go_wp2
      go_ret
      exact ⟨ret_bool H.out, hb⟩
    · have hh : M.hasB (R.things xs.length) x = false := by
        rw [M.hasB_eq _ _ (R.things_lt _)]
        by_cases h0 : 0 ≤ x
        · by_cases h64 : x.toNat < 64
          · rw [R.things_bit _ _ h64]
            simp
            omega
          · rw [M.high _ _ (R.things_lt _) (by omega)]
            simp
        · simp [h0]
      have H : Hid (false = R.hasR xs x y) := show false = R.hasR xs x y by simp [R.hasR, hin]
      clear hin
      go_enter Tryd.func35, Tryd.ntmps35
      go_wp2_with fail
      refine HM.out.mono ?_
      rintro e w1 ⟨rfl, hb⟩
      go_wp2_with fail
      refine (things_any _ _ _ _).mono ?_
      rintro e w2 ⟨rfl, rfl⟩
      go_wp2_with fail
      refine (has_any _ _ _ (R.things_lt _)).mono ?_
      rintro e w2 ⟨rfl, rfl⟩
      go_wp2
      go_ret
      exact ⟨ret_bool H.out, hb⟩
end Go.Proofs.YtokehiehfgffmaaDoor
