/-
  What reach.Total answers, as a contract.
-/
import Derived.Test.YtokehiehfgffmaaDoorKOrd
namespace Go.Proofs.YtokehiehfgffmaaDoor
open Go.RowKit
set_option linter.unusedVariables false
set_option linter.unusedSimpArgs false

/-- What a round of Total leaves. -/
def TotR (w0 : World) (a : Option Addr) (ys : List Nat) (S g2 : Nat) (k : Value) (w : World) : Prop :=
  ∃ j : Nat, j ≤ M.cnt S ∧ k = .int .i64 j ∧ (∀ x ∈ (M.bl S).take j, M.withinB (M.dropN S (x : Nat)) (R.row ys x) = true) ∧ IsWords w a ys.length ys ∧ (∀ i, i < M.cnt S → w.cell? ⟨g2, 0 + i, none⟩ = some (.int .i64 ((M.bi S).getD i 0))) ∧ Below w0.heap.size w0 w
set_option maxHeartbeats 1000000 in
theorem total_any (a : Option Addr) (len cap s : Nat) (xs : List Nat) (w : World) (hx : IsWords w a len xs) (hT : Tb w) (hs : s < 2 ^ 64) :
    Calls Tryd.prog 24 #[.slice a len cap, .int .u64 s] w (Ans (.bool (totB xs s)) w) := by
  have HM := may_any' a len cap xs w hx hT
  cases hm : R.mayR xs
  · rw [hm] at HM
    have HM := Lib.hid HM
    have HE : Hid (false = totB xs s) := show false = totB xs s by simp [totB, hm]
    go_enter Tryd.func24, Tryd.ntmps24
    go_wp2_with fail
    refine HM.out.mono ?_
    rintro e w' ⟨rfl, hb⟩
    go_wp2
    go_ret
    exact ⟨ret_bool HE.out, hb⟩
  · have hr : Rel len xs := ⟨hx.1, hx.2.2.1, hm⟩
    have hl := hr.le
    rw [hm] at HM
    have HM := Lib.hid HM
    have HE : Hid (totB xs s = (M.bl (s &&& R.things len)).all fun x => M.withinB (M.dropN (s &&& R.things len) (x : Nat)) (R.row (R.orR xs (R.backR xs)) x)) := show totB xs s = _ by
      unfold totB
      rw [hm, hx.1]
      rfl
    have hor := or_rel hr (back_rel hr)
    have hol := hor.1
    have how := hor.2.1
    have hand := bits_and_u64_nat s (R.things len) hs (R.things_lt _)
    have hlt : s &&& R.things len < 2 ^ 64 := Nat.lt_of_le_of_lt Nat.and_le_left hs
    have HIN : Hid (∀ x ∈ M.bl (s &&& R.things len), x < len) := in_things
    clear hr hor
    go_enter Tryd.func24, Tryd.ntmps24
    go_wp2_with fail
    refine HM.out.mono ?_
    rintro e w1 ⟨rfl, hb1⟩
    have hx1 := hx.below hb1
    have hT1 := hT.below hb1
    go_wp2_with fail
    refine (kthings_any _ _ _ _).mono ?_
    rintro e w' ⟨rfl, rfl⟩
    go_wp2_with fail
    refine (backR_any a len cap xs w1 hx1 hT1).mono ?_
    rintro e w2 ⟨a2, cap2, rfl, hx2, hb2⟩
    go_wp2_with fail
    refine (orR_any a a2 len _ cap cap2 xs _ w2 (hx1.below hb2) hx2 (hT1.below hb2)).mono ?_
    rintro e w3 ⟨a3, cap3, rfl, hx3, hb3⟩
    have hb13 : Below w.heap.size w w3 := hb1.trans ((hb2.trans (hb3.mono hb2.size)).mono hb1.size)
    have hT3 := hT.below hb13
    have HLI := Lib.hid (list_any (s &&& R.things len) w3 hlt hT3.2 hT3.1)
    generalize R.orR xs (R.backR xs) = ys at *
    generalize s &&& R.things len = S at *
    clear hx1 hT1 hx2 hb2 hb1
    have hc64 := M.cnt_le S
    go_wp2_with fail
    refine HLI.out.mono ?_
    rintro e w4 ⟨g2, cap4, rfl, hown, hb4, hT4⟩
    have hlist : ∀ i, i < M.cnt S → w4.cell? ⟨g2, 0 + i, none⟩ = some (.int .i64 ((M.bi S).getD i 0)) := fun i hi => own_cells hown i (by rw [M.bi_len]; exact hi)
    have HLIST := Lib.hid hlist
    have HB4 := Lib.hid (hb13.trans (hb4.mono hb13.size))
    have HX4 := Lib.hid (hx3.below hb4)
    clear hlist hown hb4 hx3 hT4 hb3 hb13
    go_wp2
    go_loopw [7, 22] (fun _ k wr => TotR w a3 ys S g2 k wr) (fun _ k _ => M.cnt S - (intOf k).toNat)
    case atStart => exact ⟨0, Nat.zero_le _, rfl, fun x hx => by simp at hx, HX4.out, HLIST.out, HB4.out⟩
    case round =>
      obtain ⟨j, hj, rfl, hall, hxr, hL, hbr⟩ := hrel
      have HA := Lib.hid hall
      have HXR := Lib.hid hxr
      have HLR := Lib.hid hL
      have HBR := Lib.hid hbr
      clear hall hbr
      by_cases hjl : j < M.cnt S
      · obtain ⟨y, hy1, hy2, hy3, hy4⟩ := M.bi_getD S j hjl
        have hc0 := hL j hjl
        rw [hy1, Nat.zero_add] at hc0
        have HTK := Lib.hid (bl_take S j y hy2)
        have hyn : y < len := HIN.out y ((M.mem_bl _ _).2 ⟨hy3, hy4⟩)
        rw [hol] at hxr
        obtain ⟨b, off, rfl, hc⟩ := hxr.at (by omega)
        have cy := hc y hyn
        have hwy := how y
        have hdl := M.dropN_lt S (y : Nat) hlt
        have C1 : ∀ nq, Calls Tryd.prog 54 #[.int .u64 S, .int .i64 (y : Nat)] (wr.drewN nq) fun e w' => e = .returned (.int .u64 (M.dropN S (y : Nat) : Nat)) ∧ w' = wr.drewN nq := fun nq => quiet_of (drop_any S _ _ hlt)
        have C2 : ∀ nq, Calls Tryd.prog 53 #[.int .u64 (M.dropN S (y : Nat) : Nat), .int .u64 (R.row ys y : Nat)] (wr.drewN nq) fun e w' => e = .returned (.bool (M.withinB (M.dropN S (y : Nat)) (R.row ys y))) ∧ w' = wr.drewN nq := fun nq => quiet_of (within_any _ _ _ hdl hwy)
        have D1 := Lib.hid C1
        have i1 : (0 : Int) ≤ (y : Int) := by omega
        have i2 : (y : Int) < (len : Int) := by omega
        have i3 : (y : Int) < (ys.length : Int) := by omega
        have HIY := Lib.hid ((M.mem_bl S y).2 ⟨hy3, hy4⟩)
        clear C1 hc hxr hL hy1 hy2 hy4
        cases hmw : M.withinB (M.dropN S (y : Nat)) (R.row ys y)
        · have HN : Hid (false = totB xs s) := show false = totB xs s by
            rw [HE.out]
            symm
            rw [List.all_eq_false]
            exact ⟨y, HIY.out, by rw [hmw]; decide⟩
          rw [hmw] at C2
          have D2 := Lib.hid C2
          clear C2 hmw
          go_wp2_with fail
          go_quiet (first | (go_at_call 54; exact Calls.quiet_of_same (D1.out _)) | (go_at_call 53; exact Calls.quiet_of_same (D2.out _)))
          go_wp2
          go_ret
          exact ⟨ret_bool HN.out, below_drewN HBR.out _⟩
        · have hnext : ∀ x ∈ (M.bl S).take (j + 1), M.withinB (M.dropN S (x : Nat)) (R.row ys x) = true := by
            intro x hx
            rw [HTK.out] at hx
            rcases List.mem_append.1 hx with h | h
            · exact HA.out x h
            · obtain rfl : x = y := by simpa using h
              exact hmw
          have HNX := Lib.hid hnext
          rw [hmw] at C2
          have D2 := Lib.hid C2
          clear C2 hmw hnext
          go_wp2_with fail
          go_quiet (first | (go_at_call 54; exact Calls.quiet_of_same (D1.out _)) | (go_at_call 53; exact Calls.quiet_of_same (D2.out _)))
          go_wp2
          go_roundw
          case rel => exact ⟨j + 1, by omega, by go_num, HNX.out, HXR.out.drewN _, HLR.out, below_drewN HBR.out _⟩
          case measure => simp [intOf]; omega
      · obtain rfl : j = M.cnt S := by omega
        have HN : Hid (true = totB xs s) := show true = totB xs s by
          rw [HE.out]
          symm
          rw [List.all_eq_true]
          have := HA.out
          rwa [show (M.bl S).take (M.cnt S) = M.bl S from List.take_of_length_le (Nat.le_refl _)] at this
        clear hL hxr
        go_wp2
        go_ret
        exact ⟨ret_bool HN.out, HBR.out⟩
end Go.Proofs.YtokehiehfgffmaaDoor
