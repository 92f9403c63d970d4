/-
  The statement BitsAll's own call returns true, whatever the words, the list and the numbers, and leaves what was there as it was.
-/
import Derived.Test.YtkkkidilopeogaaDoorBBegun
import Derived.Test.YtkkkidilopeogaaDoorBRef
namespace Go.Proofs.YtkkkidilopeogaaDoor
open Go.RowKit
set_option linter.unusedVariables false
set_option linter.unusedSimpArgs false

set_option maxHeartbeats 2000000 in
theorem all_long (s t : Nat) (a : Option Addr) (len cap : Nat) (xs : List Int) (i lo hi : Int) (w : World) (hg : 0 < w.heap.size) (hT : Tab w) (hlong : 60 < len) :
    Calls Tryd.prog 3 #[.int .u64 s, .int .u64 t, .slice a len cap, .int .i64 i, .int .i64 lo, .int .i64 hi] w fun e w' => e = .returned (.bool true) ∧ Below w.heap.size w w' := by
  go_enter Tryd.func3, Tryd.ntmps3
  go_wp2_with (go_at_call 8; refine (begun_any _ hg hT).mono ?_; rintro e w1 ⟨rfl, hb1, hT1⟩)
  go_ret
  exact ⟨rfl, by assumption⟩

set_option maxHeartbeats 4000000 in
theorem all_zero (s t : Nat) (a : Option Addr) (len cap : Nat) (xs : List Int) (i lo hi : Int) (w : World) (hg : 0 < w.heap.size) (hT : Tab w) (hs : s < 2 ^ 64) (ht : t < 2 ^ 64) (hx : IsInts w a len xs) (hlong : len ≤ 60) (h0 : (M.cnt s : Int) ≤ 0) (hF : M.firstI s = -1) (hL : M.lastI s = -1) :
    Calls Tryd.prog 3 #[.int .u64 s, .int .u64 t, .slice a len cap, .int .i64 i, .int .i64 lo, .int .i64 hi] w fun e w' => e = .returned (.bool true) ∧ Below w.heap.size w w' := by
  have hc64 := M.cnt_le s
  go_enter Tryd.func3, Tryd.ntmps3
  go_wp2_with fail
  refine (begun_any _ hg hT).mono ?_
  rintro e w1 ⟨rfl, hb1, hT1⟩
  have hx1 := hx.below hb1
  have hg1 : 0 < w1.heap.size := Nat.lt_of_lt_of_le hg hb1.size
  go_wp2_with fail
  refine (rlist_any s w1 hs).mono ?_
  rintro e w2 ⟨a2, cap2, rfl, hi2, hne2, hb2⟩
  have hx2 := hx1.below hb2
  have hT2 := hT1.below hg1 hb2
  have hg2 : 0 < w2.heap.size := Nat.lt_of_lt_of_le hg1 hb2.size
  have hbb : Below w.heap.size w w2 := hb1.trans (hb2.mono hb1.size)
  have hi3 := hi2
  have hx3 := hx2
  have hT3 := hT2
  have hg3 := hg2
  have hb3 := hbb
  clear hi2 hx2 hT2 hg2 hbb hx1 hT1 hg1 hb1 hb2 hne2
  go_wp2_with fail
  refine (of_any a len cap xs _ hx3).mono ?_
  rintro e w4 ⟨rfl, rfl⟩
  go_wp2_with fail
  refine (rof_any a len cap xs _ hx3).mono ?_
  rintro e w4 ⟨rfl, rfl⟩
  go_wp2_with fail
  refine (list_any s _ hs hg3 hT3).mono ?_
  rintro e w4 ⟨g4, cap4, rfl, hown4, hb4, hT4⟩
  have hi4 : IsInts w4 (some ⟨g4, 0, none⟩) (M.cnt s) (M.bi s) := ⟨M.bi_len s, by omega, .inr ⟨g4, 0, rfl, fun i hi => own_cells hown4 i (by rw [M.bi_len]; exact hi)⟩⟩
  have hj4 := hi3.below hb4
  go_wp2_with fail
  refine (rsame_any _ _ _ _ _ (M.bi s) w4 hi4 hj4).mono ?_
  rintro e w5 ⟨rfl, hb5, nq5, rfl⟩
  have hT5 : Tab (w4.drewN nq5) := hT4
  have hfin : Below w.heap.size w (w4.drewN nq5) := below_drewN (hb3.trans (hb4.mono hb3.size)) nq5
  clear hx hi3 hx3 hi4 hj4 hT4 hT3 hT hown4 hb5
  go_wp2_with (first | (go_at_call 14; refine (range_any _ _ _).mono ?_; rintro e w6 ⟨rfl, rfl⟩) | (go_at_call 15; refine (rrange_any _ _ _).mono ?_; rintro e w6 ⟨rfl, rfl⟩) | (go_at_call 16; refine (has_any _ _ _ hs).mono ?_; rintro e w6 ⟨rfl, rfl⟩) | (go_at_call 17; refine (rhas_any _ _ _ hs).mono ?_; rintro e w6 ⟨rfl, rfl⟩) | (go_at_call 18; refine (put_any _ _ _ hs).mono ?_; rintro e w6 ⟨rfl, rfl⟩) | (go_at_call 19; refine (rput_any _ _ _ hs).mono ?_; rintro e w6 ⟨rfl, rfl⟩) | (go_at_call 20; refine (drop_any _ _ _ hs).mono ?_; rintro e w6 ⟨rfl, rfl⟩) | (go_at_call 21; refine (rdrop_any _ _ _ hs).mono ?_; rintro e w6 ⟨rfl, rfl⟩) | (go_at_call 22; refine (count_any _ _ hs).mono ?_; rintro e w6 ⟨rfl, rfl⟩) | (go_at_call 23; refine (first_any _ _ hs hT5).mono ?_; rintro e w6 ⟨rfl, rfl⟩) | (go_at_call 24; refine (last_any _ _ hs).mono ?_; rintro e w6 ⟨rfl, rfl⟩) | (go_at_call 25; refine (within_any _ _ _ hs ht).mono ?_; rintro e w6 ⟨rfl, rfl⟩) | (go_at_call 26; refine (rwithin_any _ _ _ hs ht).mono ?_; rintro e w6 ⟨rfl, rfl⟩))
  go_ret
  exact ⟨ret_bool (by simp), hfin⟩

set_option maxHeartbeats 4000000 in
theorem all_some (s t : Nat) (a : Option Addr) (len cap : Nat) (xs : List Int) (i lo hi : Int) (w : World) (hg : 0 < w.heap.size) (hT : Tab w) (x0 x1 : Int) (hs : s < 2 ^ 64) (ht : t < 2 ^ 64) (hx : IsInts w a len xs) (hlong : len ≤ 60) (h0 : (0 : Int) < (M.cnt s : Int)) (hF : M.firstI s = x0) (hL : M.lastI s = x1) (y0 : (M.bi s).getD 0 0 = x0) (y1 : (M.bi s).getD (M.cnt s - 1) 0 = x1) :
    Calls Tryd.prog 3 #[.int .u64 s, .int .u64 t, .slice a len cap, .int .i64 i, .int .i64 lo, .int .i64 hi] w fun e w' => e = .returned (.bool true) ∧ Below w.heap.size w w' := by
  have hc64 := M.cnt_le s
  go_enter Tryd.func3, Tryd.ntmps3
  go_wp2_with fail
  refine (begun_any _ hg hT).mono ?_
  rintro e w1 ⟨rfl, hb1, hT1⟩
  have hx1 := hx.below hb1
  have hg1 : 0 < w1.heap.size := Nat.lt_of_lt_of_le hg hb1.size
  go_wp2_with fail
  refine (rlist_any s w1 hs).mono ?_
  rintro e w2 ⟨a2, cap2, rfl, hi2, hne2, hb2⟩
  have hx2 := hx1.below hb2
  have hT2 := hT1.below hg1 hb2
  have hg2 : 0 < w2.heap.size := Nat.lt_of_lt_of_le hg1 hb2.size
  have hbb : Below w.heap.size w w2 := hb1.trans (hb2.mono hb1.size)
  obtain ⟨b2, rfl, hblt⟩ := hne2 (by omega)
  have hcells : ∀ i, i < M.cnt s → w2.cell? ⟨b2, 0 + i, none⟩ = some (.int .i64 ((M.bi s).getD i 0)) := by
    obtain ⟨_, _, hz | ⟨b, off, he, hc⟩⟩ := hi2
    · omega
    · cases he
      exact hc
  have q0 := hcells 0 (by omega)
  have q1 := hcells (M.cnt s - 1) (by omega)
  rw [y0] at q0
  rw [y1] at q1
  rw [Nat.zero_add] at q0 q1
  clear hcells y0 y1
  have r1 : IntKind.i64.wrap ((M.cnt s : Int) - 1) = (M.cnt s : Int) - 1 := by rw [IntKind.wrap_i64]; omega
  have r2 : (0 : Int) ≤ (M.cnt s : Int) - 1 := by omega
  have r3 : (M.cnt s : Int) - 1 < (M.cnt s : Int) := by omega
  have r4 : ((M.cnt s : Int) - 1).toNat = M.cnt s - 1 := by omega
  go_wp2_with fail
  go_quiet (fail)
  clear r1 r2 r3 r4 q0 q1
  have hi3 := hi2.below (below_drewN (Below.refl w2.heap.size w2) nq)
  have hx3 := hx2.below (below_drewN (Below.refl w2.heap.size w2) nq)
  have hT3 : Tab (w2.drewN nq) := hT2
  have hg3 : 0 < (w2.drewN nq).heap.size := hg2
  have hb3 := below_drewN hbb nq
  clear hi2 hx2 hT2 hg2 hbb hx1 hT1 hg1 hb1 hb2
  go_wp2_with fail
  refine (of_any a len cap xs _ hx3).mono ?_
  rintro e w4 ⟨rfl, rfl⟩
  go_wp2_with fail
  refine (rof_any a len cap xs _ hx3).mono ?_
  rintro e w4 ⟨rfl, rfl⟩
  go_wp2_with fail
  refine (list_any s _ hs hg3 hT3).mono ?_
  rintro e w4 ⟨g4, cap4, rfl, hown4, hb4, hT4⟩
  have hi4 : IsInts w4 (some ⟨g4, 0, none⟩) (M.cnt s) (M.bi s) := ⟨M.bi_len s, by omega, .inr ⟨g4, 0, rfl, fun i hi => own_cells hown4 i (by rw [M.bi_len]; exact hi)⟩⟩
  have hj4 := hi3.below hb4
  go_wp2_with fail
  refine (rsame_any _ _ _ _ _ (M.bi s) w4 hi4 hj4).mono ?_
  rintro e w5 ⟨rfl, hb5, nq5, rfl⟩
  have hT5 : Tab (w4.drewN nq5) := hT4
  have hfin : Below w.heap.size w (w4.drewN nq5) := below_drewN (hb3.trans (hb4.mono hb3.size)) nq5
  clear hx hi3 hx3 hi4 hj4 hT4 hT3 hT hown4 hb5
  go_wp2_with (first | (go_at_call 14; refine (range_any _ _ _).mono ?_; rintro e w6 ⟨rfl, rfl⟩) | (go_at_call 15; refine (rrange_any _ _ _).mono ?_; rintro e w6 ⟨rfl, rfl⟩) | (go_at_call 16; refine (has_any _ _ _ hs).mono ?_; rintro e w6 ⟨rfl, rfl⟩) | (go_at_call 17; refine (rhas_any _ _ _ hs).mono ?_; rintro e w6 ⟨rfl, rfl⟩) | (go_at_call 18; refine (put_any _ _ _ hs).mono ?_; rintro e w6 ⟨rfl, rfl⟩) | (go_at_call 19; refine (rput_any _ _ _ hs).mono ?_; rintro e w6 ⟨rfl, rfl⟩) | (go_at_call 20; refine (drop_any _ _ _ hs).mono ?_; rintro e w6 ⟨rfl, rfl⟩) | (go_at_call 21; refine (rdrop_any _ _ _ hs).mono ?_; rintro e w6 ⟨rfl, rfl⟩) | (go_at_call 22; refine (count_any _ _ hs).mono ?_; rintro e w6 ⟨rfl, rfl⟩) | (go_at_call 23; refine (first_any _ _ hs hT5).mono ?_; rintro e w6 ⟨rfl, rfl⟩) | (go_at_call 24; refine (last_any _ _ hs).mono ?_; rintro e w6 ⟨rfl, rfl⟩) | (go_at_call 25; refine (within_any _ _ _ hs ht).mono ?_; rintro e w6 ⟨rfl, rfl⟩) | (go_at_call 26; refine (rwithin_any _ _ _ hs ht).mono ?_; rintro e w6 ⟨rfl, rfl⟩))
  go_ret
  exact ⟨ret_bool (by simp), hfin⟩

theorem all_walk (s t : Nat) (a : Option Addr) (len cap : Nat) (xs : List Int) (i lo hi : Int) (w : World) (hg : 0 < w.heap.size) (hT : Tab w) (hs : s < 2 ^ 64) (ht : t < 2 ^ 64) (hx : IsInts w a len xs) (_ : (Lit.int .i64 i).wf = true) (_ : (Lit.int .i64 lo).wf = true) (_ : (Lit.int .i64 hi).wf = true) :
    Calls Tryd.prog 3 #[.int .u64 s, .int .u64 t, .slice a len cap, .int .i64 i, .int .i64 lo, .int .i64 hi] w fun e w' => e = .returned (.bool true) ∧ Below w.heap.size w w' := by
  by_cases hl : 60 < len
  · exact all_long s t a len cap xs i lo hi w hg hT hl
  · by_cases h0 : s = 0
    · subst h0
      exact all_zero 0 t a len cap xs i lo hi w hg hT hs ht hx (by omega) (by decide) (by decide) (by decide)
    · have hp := M.cnt_pos s h0 hs
      exact all_some s t a len cap xs i lo hi w hg hT _ _ hs ht hx (by omega) (by omega) rfl rfl (M.bi_first s h0 hs) (M.bi_last s h0 hs)
end Go.Proofs.YtkkkidilopeogaaDoor
