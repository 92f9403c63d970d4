/-
  What reach.Plus, Star and what they call answer, as contracts.
-/
import Derived.Test.YtokehiehfgffmaaDoorKRun
namespace Go.Proofs.YtokehiehfgffmaaDoor
open Go.RowKit
set_option linter.unusedVariables false
set_option linter.unusedSimpArgs false

/-! ### rows with spare cells behind them -/
def wz (xs : List Nat) (zs : Array Value) : Array Value := words xs ++ zs
theorem wz_at (xs : List Nat) (zs : Array Value) (i : Nat) (hi : i < xs.length) : (wz xs zs)[i]? = some (.int .u64 (R.row xs i : Nat)) := by
  unfold wz
  rw [Array.getElem?_append_left (by simpa [words] using hi), words_at xs i hi]
theorem wz_set (xs : List Nat) (zs : Array Value) (i v : Nat) (hi : i < xs.length) : (wz xs zs).setIfInBounds i (.int .u64 (v : Nat)) = wz (xs.set i v) zs := by
  unfold wz
  rw [← words_set]
  apply Array.ext'
  simp [Array.toList_append, List.set_append, words, hi]
theorem Blk.wcell {w : World} {g : Nat} {zs : Array Value} {xs : List Nat} (h : Blk w g 23 (wz xs zs)) (i : Nat) (hi : i < xs.length) : w.cell? ⟨g, i, none⟩ = some (.int .u64 (R.row xs i : Nat)) := by
  rw [h.cell, wz_at xs zs i hi]
theorem Blk.wset {w : World} {g : Nat} {zs : Array Value} {xs : List Nat} (h : Blk w g 23 (wz xs zs)) (i v : Nat) (hi : i < xs.length) : Blk (w.setCell ⟨g, i, none⟩ (.int .u64 (v : Nat))) g 23 (wz (xs.set i v) zs) := by
  have h1 := h.set i (.int .u64 (v : Nat))
  rwa [wz_set xs zs i v hi] at h1
theorem Blk.wwords {w : World} {g n : Nat} {zs : Array Value} {xs : List Nat} (h : Blk w g 23 (wz xs zs)) (hl : xs.length = n) (hm : n ≤ 4611686018427387904) (hw : R.Words xs) : IsWords w (some ⟨g, 0, none⟩) n xs :=
  ⟨hl, hm, hw, .inr ⟨g, 0, rfl, fun i hi => by rw [Nat.zero_add, h.wcell i (by omega)]⟩⟩

set_option maxHeartbeats 400000 in
theorem kthings_any (a : Option Addr) (len cap : Nat) (w : World) :
    Calls Tryd.prog 46 #[.slice a len cap] w fun e w' => e = .returned (.int .u64 (R.things len : Nat)) ∧ w = w' := by
  go_enter Tryd.func46, Tryd.ntmps46
  go_wp2_with (go_at_call 73; refine (range_any _ _ _).mono ?_; rintro e w' ⟨rfl, rfl⟩)
  go_ret
  exact ⟨rfl, rfl⟩

/-! ### ways led through one thing -/
def thruTo (rs : List Nat) (k j : Nat) : List Nat := R.tab rs.length fun x => if x < j ∧ (R.row rs x).testBit k = true then R.row rs x ||| R.row rs k else R.row rs x
theorem thruTo_len (rs : List Nat) (k j : Nat) : (thruTo rs k j).length = rs.length := R.tab_len _ _
theorem thruTo_zero (rs : List Nat) (k : Nat) : thruTo rs k 0 = rs := by
  conv => rhs; rw [R.tab_eq rs]
  unfold thruTo
  apply R.tab_congr
  intro i _
  simp
theorem thruTo_full (rs : List Nat) (k : Nat) : thruTo rs k rs.length = thru rs k := by
  unfold thruTo thru
  apply R.tab_congr
  intro i hi
  simp [hi]
theorem thruTo_k (rs : List Nat) (k j : Nat) (hk : k < rs.length) : R.row (thruTo rs k j) k = R.row rs k := by
  unfold thruTo
  rw [R.tab_row, if_pos hk]
  split
  · exact Nat.or_self _
  · rfl
theorem thruTo_j (rs : List Nat) (k j : Nat) (hj : j < rs.length) : R.row (thruTo rs k j) j = R.row rs j := by
  unfold thruTo
  rw [R.tab_row, if_pos hj]
  simp
theorem thruTo_hit (rs : List Nat) (k j : Nat) (hj : j < rs.length) (hb : (R.row rs j).testBit k = true) : (thruTo rs k j).set j (R.row rs j ||| R.row rs k) = thruTo rs k (j + 1) := by
  apply R.rows_ext (by simp [thruTo_len])
  intro i hi
  have hi' : i < rs.length := by simpa [thruTo_len] using hi
  rw [set_row _ _ _ _ (by rw [thruTo_len]; exact hj)]
  unfold thruTo
  rw [R.tab_row, R.tab_row, if_pos hi', if_pos hi']
  by_cases h : j = i
  · subst h
    simp [hb]
  · rw [if_neg h]
    have e : (i < j + 1) ↔ i < j := by omega
    simp only [e]
theorem thruTo_miss (rs : List Nat) (k j : Nat) (hb : (R.row rs j).testBit k = false) : thruTo rs k j = thruTo rs k (j + 1) := by
  unfold thruTo
  apply R.tab_congr
  intro i _
  by_cases h : i = j
  · subst h
    simp [hb]
  · have e : (i < j + 1) ↔ i < j := by omega
    simp only [e]

/-- What is there while ways are led: the receiver at block B, its rows at block g. -/
def Clo (w0 : World) (B g n cap : Nat) (zs : Array Value) (L : Nat) (rs : List Nat) (w : World) : Prop :=
  Blk w B 60 #[.slice (some ⟨g, 0, none⟩) n cap, .int .u64 (L : Nat)] ∧ Blk w g 23 (wz rs zs) ∧ Below w0.heap.size w0 w ∧ w0.heap.size ≤ B ∧ w0.heap.size ≤ g ∧ B ≠ g
theorem Clo.store {w0 w : World} {B g n cap : Nat} {zs : Array Value} {L : Nat} {rs : List Nat} (h : Clo w0 B g n cap zs L rs w) (i v m : Nat) (hi : i < rs.length) : Clo w0 B g n cap zs L (rs.set i v) ((w.setCell ⟨g, i, none⟩ (.int .u64 (v : Nat))).drewN m) := by
  obtain ⟨h1, h2, h3, h4, h5, h6⟩ := h
  exact ⟨(h1.far (p := ⟨g, i, none⟩) h6 _).drewN m, (h2.wset i v hi).drewN m, below_drewN (h3.setCell h5 _) m, h4, h5, h6⟩
theorem Clo.left {w0 w : World} {B g n cap : Nat} {zs : Array Value} {L : Nat} {rs : List Nat} (h : Clo w0 B g n cap zs L rs w) (L' : Nat) : Clo w0 B g n cap zs L' rs (w.setCell ⟨B, 1, none⟩ (.int .u64 (L' : Nat))) := by
  obtain ⟨h1, h2, h3, h4, h5, h6⟩ := h
  exact ⟨h1.set 1 _, h2.far (p := ⟨B, 1, none⟩) (Ne.symm h6) _, h3.setCell h4 _, h4, h5, h6⟩
/-- What a round of through leaves. -/
def ThruR (w0 : World) (B g n cap : Nat) (zs : Array Value) (L : Nat) (rs : List Nat) (k : Nat) (i : Value) (w : World) : Prop :=
  ∃ j : Nat, j ≤ n ∧ i = .int .i64 j ∧ Clo w0 B g n cap zs L (thruTo rs k j) w
/-- What through leaves. -/
def CloTo (w0 : World) (B g n cap : Nat) (zs : Array Value) (L : Nat) (rs : List Nat) (e : Ending) (w : World) : Prop := e = .returned (.tuple #[]) ∧ Clo w0 B g n cap zs L rs w
set_option maxHeartbeats 1000000 in
theorem through_any (w0 w : World) (B g n cap L k : Nat) (zs : Array Value) (rs : List Nat) (hk : k = Lib.ctz 64 L) (hL0 : L ≠ 0) (hL : L < 2 ^ 64) (h : Clo w0 B g n cap zs L rs w) (hn : rs.length = n) (hn64 : n ≤ 64) (hw : R.Words rs) (hT : Tb w0) (hkn : k < n) :
    Calls Tryd.prog 49 #[.pointer (some ⟨B, 0, none⟩)] w (CloTo w0 B g n cap zs (M.dropN L (k : Nat)) (thru rs k)) := by
  have c0 : w.cell? ⟨B, 0, none⟩ = some (.slice (some ⟨g, 0, none⟩) n cap) := h.1.cell 0
  have c1 : w.cell? ⟨B, 1, none⟩ = some (.int .u64 (L : Nat)) := h.1.cell 1
  have hfirst := first_any L w hL (hT.below h.2.2.1).1
  have hf : M.firstI L = (k : Nat) := by simp [M.firstI, hL0, hk]
  rw [hf] at hfirst
  have HFI := Lib.hid hfirst
  have HN := Lib.hid hn
  have HK := Lib.hid hk
  have H0 := Lib.hid h
  clear hfirst hf hn hk h
  go_enter Tryd.func49, Tryd.ntmps49
  go_wp2_with fail
  refine HFI.out.mono ?_
  rintro e w' ⟨rfl, rfl⟩
  go_wp2
  go_loopw [3, 4, 15] (fun _ _ i wr => ThruR w0 B g n cap zs L rs k i wr) (fun _ _ i _ => n - (intOf i).toNat)
  case atStart => exact ⟨0, Nat.zero_le _, rfl, by rw [thruTo_zero]; exact H0.out⟩
  case round =>
    obtain ⟨j, hj, rfl, hF⟩ := hrel
    by_cases hjn : j < n
    · have l1 := thruTo_len rs k j
      have hjr : j < rs.length := by rw [HN.out]; exact hjn
      have cj : wr.cell? ⟨g, j, none⟩ = some (.int .u64 (R.row rs j : Nat)) := by rw [hF.2.1.wcell j (by omega), thruTo_j rs k j hjr]
      have ck : wr.cell? ⟨g, k, none⟩ = some (.int .u64 (R.row rs k : Nat)) := by rw [hF.2.1.wcell k (by rw [l1, HN.out]; exact hkn), thruTo_k rs k j (by rw [HN.out]; exact hkn)]
      have fj := hF.2.1.free j
      have b0 : wr.cell? ⟨B, 0, none⟩ = some (.slice (some ⟨g, 0, none⟩) n cap) := hF.1.cell 0
      have hwj := hw j
      have hwk := hw k
      have hor := bits_or_u64_nat (R.row rs j) (R.row rs k) hwj hwk
      have hhas := M.hasB_nat (R.row rs j) k hwj
      have i1 : (0 : Int) ≤ (j : Int) := by omega
      have i2 : (j : Int) < (n : Int) := by omega
      have i3 : (0 : Int) ≤ (k : Int) := by omega
      have i4 : (k : Int) < (n : Int) := by omega
      cases hb : (R.row rs j).testBit k
      · have HNX : Hid (thruTo rs k j = thruTo rs k (j + 1)) := thruTo_miss rs k j hb
        rw [hb] at hhas
        have HH := Lib.hid (has_any (R.row rs j) (k : Int) wr hwj)
        rw [hhas] at HH
        clear hhas hb l1 hjr
        go_wp2_with fail
        refine HH.out.mono ?_
        rintro e w' ⟨rfl, rfl⟩
        go_wp2
        go_roundw
        case rel => exact ⟨j + 1, by omega, by go_num, by rw [← HNX.out]; exact hF⟩
        case measure =>
          simp [intOf]
          omega
      · have hst := hF.store j (R.row rs j ||| R.row rs k) 1 (by rw [l1]; exact hjr)
        rw [thruTo_hit rs k j hjr hb] at hst
        have HNEXT : Hid (ThruR w0 B g n cap zs L rs k (.int .i64 ((j : Int) + 1)) ((wr.setCell ⟨g, j, none⟩ (.int .u64 (R.row rs j ||| R.row rs k : Nat))).drewN 1)) := show ThruR w0 B g n cap zs L rs k (.int .i64 ((j : Int) + 1)) ((wr.setCell ⟨g, j, none⟩ (.int .u64 (R.row rs j ||| R.row rs k : Nat))).drewN 1) from ⟨j + 1, by omega, by go_num, hst⟩
        rw [hb] at hhas
        have HH := Lib.hid (has_any (R.row rs j) (k : Int) wr hwj)
        rw [hhas] at HH
        clear hhas hb l1 hjr hst hF
        go_wp2_with fail
        refine HH.out.mono ?_
        rintro e w' ⟨rfl, rfl⟩
        go_wp2_with fail
        go_region
        all_goals (go_wp2; go_roundw)
        all_goals first | exact HNEXT.out | (simp [intOf]; omega)
    · obtain rfl : j = n := by omega
      have b1 : wr.cell? ⟨B, 1, none⟩ = some (.int .u64 (L : Nat)) := hF.1.cell 1
      have f1 := hF.1.free 1
      have HE : Hid (thruTo rs k j = thru rs k) := show thruTo rs k j = thru rs k by rw [← HN.out, thruTo_full]
      have HL := Lib.hid (hF.left (M.dropN L (k : Nat)))
      clear hF
      go_wp2_with fail
      refine (drop_any L _ _ hL).mono ?_
      rintro e w' ⟨rfl, rfl⟩
      go_wp2
      go_end0
      refine ⟨rfl, ?_⟩
      rw [← HE.out]
      exact HL.out
set_option maxHeartbeats 400000 in
theorem closing_more (w : World) (B L : Nat) (v : Value) (h : Blk w B 60 #[v, .int .u64 (L : Nat)]) :
    Calls Tryd.prog 48 #[.pointer (some ⟨B, 0, none⟩)] w fun e w' => e = .returned (.bool (L != 0)) ∧ w = w' := by
  have c1 : w.cell? ⟨B, 1, none⟩ = some (.int .u64 (L : Nat)) := h.cell 1
  have HE : Hid (((L : Int) != 0) = (L != 0)) := show ((L : Int) != 0) = (L != 0) by
    rw [Bool.eq_iff_iff, bne_iff_ne, bne_iff_ne]
    omega
  clear h
  go_enter Tryd.func48, Tryd.ntmps48
  go_wp2
  go_ret
  exact ⟨ret_bool HE.out, rfl⟩
theorem enters_cmore : Enters 48 := enters_of Tryd.func48 (by kernel_rfl) rfl
theorem enters_cthru : Enters 49 := enters_of Tryd.func49 (by kernel_rfl) rfl
end Go.Proofs.YtokehiehfgffmaaDoor
