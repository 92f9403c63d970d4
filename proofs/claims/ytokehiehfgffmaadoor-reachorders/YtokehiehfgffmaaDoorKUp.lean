/-
  What reach.Star, Up and Down answer, as contracts.
-/
import Derived.Test.YtokehiehfgffmaaDoorKPlus2
namespace Go.Proofs.YtokehiehfgffmaaDoor
open Go.RowKit
set_option linter.unusedVariables false
set_option linter.unusedSimpArgs false

theorem kplus_gives {xs : List Nat} {w w' : World} {e : Ending} (hw : R.Words xs) (h : KPlusTo xs w e w') : Gives (plusR xs) w e w' := by
  rcases h with ⟨h1, rfl, hb⟩ | ⟨hm, g, cap, zs, rfl, hg, hB, hb⟩
  · rw [h1]
    exact ⟨none, 0, rfl, IsWords.nil _ _, hb⟩
  · have hr : Rel xs.length xs := ⟨rfl, hw, hm⟩
    have hl := (plus_rel hr).1
    have := R.may_len hm
    exact ⟨_, cap, by rw [hl], hB.wwords rfl (by rw [hl]; omega) (plus_rel hr).2.1, hb⟩
theorem plusR_gives (a : Option Addr) (len cap : Nat) (xs : List Nat) (w : World) (hx : IsWords w a len xs) (hT : Tb w) (h0 : R.mayR xs = true → 0 < len) :
    Calls Tryd.prog 16 #[.slice a len cap] w (Gives (plusR xs) w) := (kplus_any a len cap xs w hx hT h0).mono fun _ _ h => kplus_gives hx.2.2.1 h

def starTo (ps : List Nat) (j : Nat) : List Nat := R.tab ps.length fun x => if x < j then M.putN (R.row ps x) (x : Int) else R.row ps x
theorem starTo_len (ps : List Nat) (j : Nat) : (starTo ps j).length = ps.length := R.tab_len _ _
theorem starTo_zero (ps : List Nat) : starTo ps 0 = ps := by
  conv => rhs; rw [R.tab_eq ps]
  unfold starTo
  apply R.tab_congr
  intro i _
  simp
theorem starTo_full (xs : List Nat) : starTo (plusR xs) (plusR xs).length = starR xs := by
  unfold starTo starR
  apply R.tab_congr
  intro i hi
  simp [hi]
theorem starTo_j (ps : List Nat) (j : Nat) (hj : j < ps.length) : R.row (starTo ps j) j = R.row ps j := by
  unfold starTo
  rw [R.tab_row, if_pos hj]
  simp
theorem starTo_next (ps : List Nat) (j : Nat) (hj : j < ps.length) : (starTo ps j).set j (M.putN (R.row ps j) (j : Int)) = starTo ps (j + 1) := by
  apply R.rows_ext (by simp [starTo_len])
  intro i hi
  have hi' : i < ps.length := by simpa [starTo_len] using hi
  rw [set_row _ _ _ _ (by rw [starTo_len]; exact hj)]
  unfold starTo
  rw [R.tab_row, R.tab_row, if_pos hi', if_pos hi']
  by_cases h : j = i
  · subst h
    simp
  · rw [if_neg h]
    have e : (i < j + 1) ↔ i < j := by omega
    simp only [e]
/-- What a round of Star leaves. -/
def StarR (w0 : World) (g : Nat) (zs : Array Value) (ps : List Nat) (i : Value) (w : World) : Prop :=
  ∃ j : Nat, j ≤ ps.length ∧ i = .int .i64 j ∧ Blk w g 23 (wz (starTo ps j) zs) ∧ Below w0.heap.size w0 w
set_option maxHeartbeats 400000 in
theorem starR_gives (a : Option Addr) (len cap : Nat) (xs : List Nat) (w : World) (hx : IsWords w a len xs) (hT : Tb w) (h0 : R.mayR xs = true → 0 < len) :
    Calls Tryd.prog 23 #[.slice a len cap] w (Gives (starR xs) w) := by
  have HP := Lib.hid (kplus_any a len cap xs w hx hT h0)
  have hw := hx.2.2.1
  have HW := Lib.hid (starR_words hw)
  have hl : xs.length = len := hx.1
  have HX := Lib.hid hw
  clear hx h0 hw
  go_enter Tryd.func23, Tryd.ntmps23
  go_wp2_with fail
  refine HP.out.mono ?_
  rintro e w1 h
  rcases h with ⟨h1, rfl, hb⟩ | ⟨hm, g, cap1, zs, rfl, hg, hB, hb⟩
  · have HE : Hid (starR xs = []) := show starR xs = [] by unfold starR; rw [h1]; rfl
    go_wp2
    go_loopw [4, 5, 10] (fun _ _ i wr => i = .int .i64 0 ∧ wr = w1) (fun _ _ i _ => 0)
    case atStart => exact ⟨rfl, rfl⟩
    case round =>
      obtain ⟨rfl, rfl⟩ := hrel
      go_wp2
      go_ret
      rw [HE.out]
      exact ⟨none, 0, rfl, IsWords.nil _ _, hb⟩
  · have hr : Rel xs.length xs := ⟨rfl, HX.out, hm⟩
    have hpl : (plusR xs).length = xs.length := (plus_rel hr).1
    have hpw := (plus_rel hr).2.1
    have h64 := R.may_len hm
    have HF := Lib.hid (starTo_full xs)
    have HSL := Lib.hid (star_len xs)
    rw [← hpl]
    rw [← hpl] at h64
    clear hpl hr
    generalize plusR xs = ps at *
    go_wp2
    go_loopw [4, 5, 10] (fun _ _ i wr => StarR w g zs ps i wr) (fun _ _ i _ => ps.length - (intOf i).toNat)
    case atStart => exact ⟨0, Nat.zero_le _, rfl, by rw [starTo_zero]; exact hB, hb⟩
    case round =>
      obtain ⟨j, hj, rfl, hBr, hbr⟩ := hrel
      by_cases hjl : j < ps.length
      · have cj : wr.cell? ⟨g, j, none⟩ = some (.int .u64 (R.row ps j : Nat)) := by rw [hBr.wcell j (by rw [starTo_len]; exact hjl), starTo_j ps j hjl]
        have fj := hBr.free j
        have hwj := hpw j
        have hst := hBr.wset j (M.putN (R.row ps j) (j : Int)) (by rw [starTo_len]; exact hjl)
        rw [starTo_next ps j hjl] at hst
        have HST := Lib.hid hst
        have HB := Lib.hid (hbr.setCell (p := ⟨g, j, none⟩) hg (.int .u64 (M.putN (R.row ps j) (j : Int) : Nat)))
        have i1 : (0 : Int) ≤ (j : Int) := by omega
        have i2 : (j : Int) < (ps.length : Int) := by omega
        clear hst hBr hbr
        go_wp2_with fail
        refine (put_any _ _ _ hwj).mono ?_
        rintro e w' ⟨rfl, rfl⟩
        go_wp2
        go_roundw
        case rel => exact ⟨j + 1, by omega, by go_num, HST.out, HB.out⟩
        case measure =>
          simp [intOf]
          omega
      · obtain rfl : j = ps.length := by omega
        go_wp2
        go_ret
        rw [HF.out] at hBr
        refine ⟨_, cap1, by rw [HSL.out]; rfl, ?_, hbr⟩
        exact hBr.wwords rfl (by rw [HSL.out]; omega) HW.out

/-! ### walks -/
/-- What is there during a walk: the receiver at block B, rows that came in. -/
def Wlk (w0 : World) (B : Nat) (a : Option Addr) (len cap met left : Nat) (w : World) : Prop :=
  Blk w B 87 #[.slice a len cap, .int .u64 (met : Nat), .int .u64 (left : Nat)] ∧ Below w0.heap.size w0 w ∧ w0.heap.size ≤ B
def WlkTo (w0 : World) (B : Nat) (a : Option Addr) (len cap met left : Nat) (e : Ending) (w : World) : Prop := e = .returned (.tuple #[]) ∧ Wlk w0 B a len cap met left w
set_option maxHeartbeats 400000 in
theorem walk_more (w0 w : World) (B : Nat) (a : Option Addr) (len cap met left : Nat) (h : Wlk w0 B a len cap met left w) :
    Calls Tryd.prog 79 #[.pointer (some ⟨B, 0, none⟩)] w fun e w' => e = .returned (.bool (left != 0)) ∧ w = w' := by
  have c1 : w.cell? ⟨B, 2, none⟩ = some (.int .u64 (left : Nat)) := h.1.cell 2
  have HE : Hid (((left : Int) != 0) = (left != 0)) := show ((left : Int) != 0) = (left != 0) by
    rw [Bool.eq_iff_iff, bne_iff_ne, bne_iff_ne]
    omega
  clear h
  go_enter Tryd.func79, Tryd.ntmps79
  go_wp2
  go_ret
  exact ⟨ret_bool HE.out, rfl⟩
set_option maxHeartbeats 800000 in
theorem walk_onward (w0 w : World) (B : Nat) (a : Option Addr) (len cap met left x : Nat) (xs : List Nat) (h : Wlk w0 B a len cap met left w) (hx : IsWords w0 a len xs) (hT : Tb w0) (hm : met < 2 ^ 64) (hL : left < 2 ^ 64) (hL0 : left ≠ 0) (hk : x = Lib.ctz 64 left) (hxn : x < len) :
    Calls Tryd.prog 80 #[.pointer (some ⟨B, 0, none⟩)] w (WlkTo w0 B a len cap (met ||| M.lessN (R.row xs x) met) (M.dropN left (x : Nat) ||| M.lessN (R.row xs x) met)) := by
  have c0 : w.cell? ⟨B, 0, none⟩ = some (.slice a len cap) := h.1.cell 0
  have c1 : w.cell? ⟨B, 1, none⟩ = some (.int .u64 (met : Nat)) := h.1.cell 1
  have c2 : w.cell? ⟨B, 2, none⟩ = some (.int .u64 (left : Nat)) := h.1.cell 2
  have f1 := h.1.free 1
  have f2 := h.1.free 2
  have hfirst := first_any left w hL (hT.below h.2.1).1
  have hf : M.firstI left = (x : Nat) := by simp [M.firstI, hL0, hk]
  rw [hf] at hfirst
  have HFI := Lib.hid hfirst
  have hX := hx.below h.2.1
  obtain ⟨b, off, rfl, hc⟩ := hX.at (by omega)
  have cx := hc x hxn
  have hrow := hx.2.2.1 x
  have e1 : bits .andNot .u64 (R.row xs x : Nat) (met : Nat) = (M.lessN (R.row xs x) met : Nat) := u64_andNot_nat (R.row xs x) met hrow hm
  have hfr : M.lessN (R.row xs x) met < 2 ^ 64 := M.lessN_lt _ _ hrow
  have e2 := bits_or_u64_nat met (M.lessN (R.row xs x) met) hm hfr
  have e3 := bits_or_u64_nat (M.dropN left (x : Nat)) (M.lessN (R.row xs x) met) (M.dropN_lt _ _ hL) hfr
  have H := Lib.hid h
  have HE2 := Lib.hid e2
  have HE3 := Lib.hid e3
  have i1 : (0 : Int) ≤ (x : Int) := by omega
  have i2 : (x : Int) < (len : Int) := by omega
  clear hfirst hf hk hX hc h e2 e3
  go_enter Tryd.func80, Tryd.ntmps80
  go_wp2_with fail
  refine HFI.out.mono ?_
  rintro e w' ⟨rfl, rfl⟩
  go_wp2_with fail
  go_quiet (fail)
  have e2 := HE2.out
  have e3 := HE3.out
  have hdl := M.dropN_lt left (x : Nat) hL
  go_wp2_with fail
  refine (drop_any left _ _ hL).mono ?_
  rintro e w' ⟨rfl, rfl⟩
  go_wp2
  go_end0
  refine ⟨rfl, ?_, ?_, H.out.2.2⟩
  · exact ((H.out.1.drewN nq).set 1 _).set 2 _
  · exact ((below_drewN H.out.2.1 nq).setCell H.out.2.2 _).setCell H.out.2.2 _
theorem enters_wmore : Enters 79 := enters_of Tryd.func79 (by kernel_rfl) rfl
theorem enters_won : Enters 80 := enters_of Tryd.func80 (by kernel_rfl) rfl

/-- The state of a walk: what was met, and from which of it the walk has not gone on. -/
structure WInv (n : Nat) (xs : List Nat) (s met left : Nat) : Prop where
  mlt : met < 2 ^ 64
  llt : left < 2 ^ 64
  sub : ∀ j, left.testBit j = true → met.testBit j = true
  why : ∀ j, met.testBit j = true → (j < n ∧ s.testBit j = true) ∨ ∃ i, i < n ∧ s.testBit i = true ∧ Way xs i j
  beg : ∀ j, j < n → s.testBit j = true → met.testBit j = true
  on : ∀ i j, met.testBit i = true → left.testBit i = false → bf xs i j → met.testBit j = true
theorem WInv.ins {n : Nat} {xs : List Nat} {s met left : Nat} (hr : Rel n xs) (h : WInv n xs s met left) (j : Nat) (hj : met.testBit j = true) : j < n := by
  rcases h.why j hj with h1 | ⟨i, _, _, h1⟩
  · exact h1.1
  · exact (h1.lt hr).2
theorem WInv.step {n : Nat} {xs : List Nat} {s met left : Nat} (hr : Rel n xs) (h : WInv n xs s met left) (h0 : left ≠ 0) : WInv n xs s (met ||| M.lessN (R.row xs (Lib.ctz 64 left)) met) (M.dropN left (Lib.ctz 64 left : Nat) ||| M.lessN (R.row xs (Lib.ctz 64 left)) met) := by
  obtain ⟨hx1, hx2, _⟩ := M.ctz_bits left h0 h.llt
  generalize Lib.ctz 64 left = x at *
  have hw := hr.2.1 x
  have hfl : M.lessN (R.row xs x) met < 2 ^ 64 := M.lessN_lt _ _ hw
  have hm' : ∀ j, (met ||| M.lessN (R.row xs x) met).testBit j = true ↔ met.testBit j = true ∨ bf xs x j := fun j => by
    rw [Nat.testBit_or, M.lessN_testBit _ _ _ hw h.mlt]
    cases met.testBit j <;> simp [bf]
  have hl' : ∀ j, (M.dropN left (x : Nat) ||| M.lessN (R.row xs x) met).testBit j = true ↔ (left.testBit j = true ∧ j ≠ x) ∨ (bf xs x j ∧ met.testBit j = false) := fun j => by
    by_cases hj : j < 64
    · rw [Nat.testBit_or, M.lessN_testBit _ _ _ hw h.mlt, M.dropN_testBit _ _ _ hj h.llt]
      simp only [Bool.or_eq_true, Bool.and_eq_true, Bool.not_eq_true', decide_eq_false_iff_not, bf]
      refine or_congr (and_congr_right fun _ => ?_) Iff.rfl
      omega
    · rw [M.high _ j (Nat.or_lt_two_pow (M.dropN_lt _ _ h.llt) hfl) (by omega)]
      have e1 := M.high left j h.llt (by omega)
      have e2 := M.high _ j hw (by omega)
      simp [e1, bf, e2]
  refine ⟨Nat.or_lt_two_pow h.mlt hfl, Nat.or_lt_two_pow (M.dropN_lt _ _ h.llt) hfl, fun j hj => ?_, fun j hj => ?_, fun j hj hs => (hm' j).2 (.inl (h.beg j hj hs)), fun i j hi hl hb => ?_⟩
  · rcases (hl' j).1 hj with h1 | h1
    · exact (hm' j).2 (.inl (h.sub j h1.1))
    · exact (hm' j).2 (.inr h1.1)
  · rcases (hm' j).1 hj with h1 | h1
    · exact h.why j h1
    · right
      rcases h.why x (h.sub x hx2) with h2 | ⟨i, h2, h3, h4⟩
      · exact ⟨x, h2.1, h2.2, .one h1⟩
      · exact ⟨i, h2, h3, h4.snoc h1⟩
  · rw [Bool.eq_false_iff, Ne, hl'] at hl
    have hmi : met.testBit i = true := by
      apply Classical.byContradiction
      intro hc
      rcases (hm' i).1 hi with h1 | h1
      · exact hc h1
      · exact hl (.inr ⟨h1, by simpa using hc⟩)
    by_cases hix : i = x
    · subst hix
      exact (hm' j).2 (.inr hb)
    · refine (hm' j).2 (.inl (h.on i j hmi ?_ hb))
      rw [Bool.eq_false_iff]
      intro hc
      exact hl (.inl ⟨hc, hix⟩)
theorem WInv.done {n : Nat} {xs : List Nat} {s met left : Nat} (hr : Rel n xs) (h : WInv n xs s met left) (h0 : left ≠ 0) : 64 - M.cnt (M.lessN (met ||| M.lessN (R.row xs (Lib.ctz 64 left)) met) (M.dropN left (Lib.ctz 64 left : Nat) ||| M.lessN (R.row xs (Lib.ctz 64 left)) met)) < 64 - M.cnt (M.lessN met left) := by
  have h' := h.step hr h0
  obtain ⟨hx1, hx2, _⟩ := M.ctz_bits left h0 h.llt
  generalize Lib.ctz 64 left = x at *
  have hw := hr.2.1 x
  have hbit : ∀ j, j < 64 → (M.lessN (met ||| M.lessN (R.row xs x) met) (M.dropN left (x : Nat) ||| M.lessN (R.row xs x) met)).testBit j = ((M.lessN met left).testBit j || decide (x = j)) := by
    intro j hj
    rw [M.lessN_testBit _ _ _ h'.mlt h'.llt, M.lessN_testBit _ _ _ h.mlt h.llt, Nat.testBit_or, Nat.testBit_or, M.lessN_testBit _ _ _ hw h.mlt, M.dropN_testBit _ _ _ hj h.llt]
    by_cases hxj : x = j
    · subst hxj
      simp [h.sub x hx2, hx2]
    · have : ¬ (x : Int) = (j : Int) := by omega
      simp only [this, hxj, decide_false, Bool.not_false, Bool.and_true, Bool.or_false]
      cases met.testBit j <;> cases left.testBit j <;> cases (R.row xs x).testBit j <;> rfl
  have hlt : M.cnt (M.lessN met left) < M.cnt (M.lessN (met ||| M.lessN (R.row xs x) met) (M.dropN left (x : Nat) ||| M.lessN (R.row xs x) met)) := by
    unfold M.cnt M.bl
    apply filter_lt
    · intro j hj hb
      rw [hbit j (List.mem_range.1 hj), hb]
      rfl
    · refine ⟨x, List.mem_range.2 hx1, by rw [hbit x hx1]; simp, ?_⟩
      rw [M.lessN_testBit _ _ _ h.mlt h.llt, hx2]
      simp
  have := M.cnt_le (M.lessN (met ||| M.lessN (R.row xs x) met) (M.dropN left (x : Nat) ||| M.lessN (R.row xs x) met))
  omega

def WlkI (w0 : World) (B : Nat) (a : Option Addr) (len cap n : Nat) (xs : List Nat) (s : Nat) (t : Nat × Nat) (w : World) : Prop := Wlk w0 B a len cap t.1 t.2 w ∧ WInv n xs s t.1 t.2
def doneAt (B : Nat) (w : World) : Nat := 64 - M.cnt (M.lessN (((w.cell? ⟨B, 1, none⟩).map fun v => (intOf v).toNat).getD 0) (((w.cell? ⟨B, 2, none⟩).map fun v => (intOf v).toNat).getD 0))
theorem doneAt_of {w0 w : World} {B : Nat} {a : Option Addr} {len cap met left : Nat} (h : Wlk w0 B a len cap met left w) : doneAt B w = 64 - M.cnt (M.lessN met left) := by
  have c1 : w.cell? ⟨B, 1, none⟩ = some (.int .u64 (met : Nat)) := h.1.cell 1
  have c2 : w.cell? ⟨B, 2, none⟩ = some (.int .u64 (left : Nat)) := h.1.cell 2
  simp [doneAt, c1, c2, intOf]
theorem WInv.start {n : Nat} {xs : List Nat} (hr : Rel n xs) (s : Nat) (hs : s < 2 ^ 64) : WInv n xs s (s &&& R.things n) (s &&& R.things n) := by
  have hlt : s &&& R.things n < 2 ^ 64 := Nat.lt_of_le_of_lt Nat.and_le_left hs
  have hn := hr.le
  have hbit : ∀ j, (s &&& R.things n).testBit j = true ↔ j < n ∧ s.testBit j = true := fun j => by
    by_cases hj : j < 64
    · rw [Nat.testBit_and, R.things_bit _ _ hj]
      simp
      exact And.comm
    · rw [M.high _ j hlt (by omega)]
      simp
      omega
  refine ⟨hlt, hlt, fun j h => h, fun j h => .inl ((hbit j).1 h), fun j h1 h2 => (hbit j).2 ⟨h1, h2⟩, fun i j h1 h2 => ?_⟩
  rw [h1] at h2
  cases h2
set_option maxHeartbeats 400000 in
theorem spread_any (a : Option Addr) (len cap s : Nat) (xs : List Nat) (w : World) (hx : IsWords w a len xs) (hT : Tb w) (hm : R.mayR xs = true) (hs : s < 2 ^ 64) :
    Calls Tryd.prog 55 #[.slice a len cap, .int .u64 s] w (Ans (.int .u64 (upN xs s : Nat)) w) := by
  have hr : Rel len xs := ⟨hx.1, hx.2.2.1, hm⟩
  have hand := bits_and_u64_nat s (R.things len) hs (R.things_lt _)
  have hlt : s &&& R.things len < 2 ^ 64 := Nat.lt_of_le_of_lt Nat.and_le_left hs
  have HR := Lib.hid hr
  clear hr
  go_enter Tryd.func55, Tryd.ntmps55
  go_wp2_with fail
  refine (kthings_any _ _ _ _).mono ?_
  rintro e w1 ⟨rfl, rfl⟩
  go_wp2_with fail
  refine (run_walk _ _ enters_wmore enters_won _ (WlkI w w.heap.size a len cap len xs s) (fun t => t.2 != 0) (doneAt w.heap.size) ?_ ?_ (s &&& R.things len, s &&& R.things len) _ ?_).mono ?_
  · rintro ⟨met, left⟩ w' hI
    refine (walk_more w w' _ _ _ _ _ _ hI.1).mono ?_
    rintro e w'' ⟨rfl, rfl⟩
    exact ⟨rfl, hI, rfl⟩
  · rintro ⟨met, left⟩ w' ⟨hI, hW⟩ hb
    have hL0 : left ≠ 0 := by simpa using hb
    have hkn : Lib.ctz 64 left < len := hW.ins HR.out _ (hW.sub _ (M.ctz_bits left hL0 hW.llt).2.1)
    refine (walk_onward w w' _ a len cap met left _ xs hI hx hT hW.mlt hW.llt hL0 rfl hkn).mono ?_
    rintro e w'' ⟨rfl, hC⟩
    refine ⟨rfl, ⟨(_, _), hC, hW.step HR.out hL0⟩, ?_⟩
    rw [doneAt_of hC, doneAt_of hI]
    exact hW.done HR.out hL0
  · exact ⟨⟨Blk.new _ _ _, (Below.refl _ _).alloc (Nat.le_refl _) _, Nat.le_refl _⟩, WInv.start HR.out s hs⟩
  · rintro e w3 ⟨rfl, ⟨met, left⟩, ⟨hI, hW⟩, hb⟩
    obtain rfl : left = 0 := by simpa using hb
    have HE : Hid (met = upN xs s) := up_of HR.out s met hs hW.mlt hW.why hW.beg (fun i j hi hb => hW.on i j hi (Nat.zero_testBit i) hb)
    have c1 : w3.cell? ⟨w.heap.size, 1, none⟩ = some (.int .u64 (met : Nat)) := hI.1.cell 1
    have HB := Lib.hid hI.2.1
    clear hI hW
    go_wp2
    go_ret
    rw [HE.out]
    exact ⟨rfl, HB.out⟩
set_option maxHeartbeats 400000 in
theorem up_any (a : Option Addr) (len cap s : Nat) (xs : List Nat) (w : World) (hx : IsWords w a len xs) (hT : Tb w) (hs : s < 2 ^ 64) :
    Calls Tryd.prog 26 #[.slice a len cap, .int .u64 s] w (Ans (.int .u64 (upR xs s : Nat)) w) := by
  have HM := may_any' a len cap xs w hx hT
  cases hm : R.mayR xs
  · rw [hm] at HM
    have HM := Lib.hid HM
    have HE : Hid ((0 : Int) = (upR xs s : Nat)) := show (0 : Int) = (upR xs s : Nat) by simp [upR, hm]
    go_enter Tryd.func26, Tryd.ntmps26
    go_wp2_with fail
    refine HM.out.mono ?_
    rintro e w' ⟨rfl, hb⟩
    go_wp2
    go_ret
    exact ⟨ret_int HE.out, hb⟩
  · rw [hm] at HM
    have HM := Lib.hid HM
    have HE : Hid (upN xs s = upR xs s) := show upN xs s = upR xs s by simp [upR, hm]
    go_enter Tryd.func26, Tryd.ntmps26
    go_wp2_with fail
    refine HM.out.mono ?_
    rintro e w1 ⟨rfl, hb1⟩
    go_wp2_with fail
    refine (spread_any a len cap s xs w1 (hx.below hb1) (hT.below hb1) hm hs).mono ?_
    rintro e w2 ⟨rfl, hb2⟩
    go_wp2
    go_ret
    rw [HE.out]
    exact ⟨rfl, hb1.trans (hb2.mono hb1.size)⟩
theorem back_may {xs : List Nat} (hw : R.Words xs) : R.mayR (R.backR xs) = true := by
  cases hm : R.mayR xs
  · have : R.backR xs = [] := by simp [R.backR, hm]
    rw [this]
    rfl
  · exact (back_rel (⟨rfl, hw, hm⟩ : Rel xs.length xs)).2.2
set_option maxHeartbeats 400000 in
theorem down_any (a : Option Addr) (len cap s : Nat) (xs : List Nat) (w : World) (hx : IsWords w a len xs) (hT : Tb w) (hs : s < 2 ^ 64) :
    Calls Tryd.prog 25 #[.slice a len cap, .int .u64 s] w (Ans (.int .u64 (downR xs s : Nat)) w) := by
  have HB := Lib.hid (back_may hx.2.2.1)
  go_enter Tryd.func25, Tryd.ntmps25
  go_wp2_with fail
  refine (backR_any a len cap xs w hx hT).mono ?_
  rintro e w1 ⟨a1, cap1, rfl, hx1, hb1⟩
  go_wp2_with fail
  refine (spread_any a1 _ cap1 s _ w1 hx1 (hT.below hb1) HB.out hs).mono ?_
  rintro e w2 ⟨rfl, hb2⟩
  go_wp2
  go_ret
  exact ⟨rfl, hb1.trans (hb2.mono hb1.size)⟩
end Go.Proofs.YtokehiehfgffmaaDoor
