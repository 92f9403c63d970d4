/-
  What the reference's functions on sets answer, as contracts: the same plain functions as those of package bits.
-/
import Derived.Test.YtokehiehfgffmaaDoorBList
import Derived.Deep.QuietTactic
import Derived.BigQuiet
namespace Go.Proofs.YtokehiehfgffmaaDoor
open Go.RowKit
set_option linter.unusedVariables false
set_option linter.unusedSimpArgs false

theorem dbl (j : Nat) (h : j < 63) : IntKind.u64.wrap (((2 ^ j : Nat) : Int) + ((2 ^ j : Nat) : Int)) = ((2 ^ (j + 1) : Nat) : Int) := by
  have hp : 2 ^ (j + 1) < 2 ^ 64 := Nat.pow_lt_pow_right (by decide) (by omega)
  rw [IntKind.wrap_u64, Nat.pow_succ]
  rw [Nat.pow_succ] at hp
  omega
/-- 2 to i, behind a name. -/
def pow2 (i : Nat) : Nat := 2 ^ i
set_option maxHeartbeats 400000 in
theorem rpower_any (i : Nat) (w : World) (hi : i < 64) :
    Calls Tryd.prog 50 #[.int .i64 i] w fun e w' => e = .returned (.int .u64 (pow2 i)) ∧ w = w' := by
  go_enter Tryd.func50, Tryd.ntmps50
  go_wp2
  go_loop [3, 4] (fun p k => ∃ j : Nat, j ≤ i ∧ k = .int .i64 j ∧ p = .int .u64 (pow2 j)) (fun _ k => i - (intOf k).toNat)
  case atStart => exact ⟨0, Nat.zero_le _, rfl, rfl⟩
  case round =>
    obtain ⟨j, hj, rfl, rfl⟩ := hrel
    by_cases hjl : j < i
    · have HD : Hid (IntKind.u64.wrap ((pow2 j : Int) + (pow2 j : Int)) = (pow2 (j + 1) : Int)) := dbl j (by omega)
      go_wp2
      go_round
      case rel => exact ⟨j + 1, by omega, by go_num, by rw [HD.out]⟩
      case measure => simp [intOf]; omega
    · obtain rfl : j = i := by omega
      go_wp2
      go_ret
      exact ⟨rfl, rfl⟩

theorem rhas_num (s i : Nat) (hs : s < 2 ^ 64) : (((s : Int) / 2 ^ i).tmod 2 == 1) = M.hasB s (i : Int) := by
  have e : ((s : Int) / 2 ^ i) = ((s / 2 ^ i : Nat) : Int) := by simp
  rw [M.hasB_nat s i hs, Nat.testBit_eq_decide_div_mod_eq, e, Int.tmod_eq_emod_of_nonneg (Int.natCast_nonneg _), Bool.eq_iff_iff]
  simp only [beq_iff_eq, decide_eq_true_eq]
  generalize s / 2 ^ i = q
  omega
set_option maxHeartbeats 400000 in
theorem rhas_any (s : Nat) (i : Int) (w : World) (hs : s < 2 ^ 64) :
    Calls Tryd.prog 21 #[.int .u64 s, .int .i64 i] w fun e w' => e = .returned (.bool (M.hasB s i)) ∧ w = w' := by
  by_cases h0 : i < 0
  · have H : Hid (false = M.hasB s i) := show false = M.hasB s i by rw [M.hasB_eq s i hs]; simp; omega
    go_enter Tryd.func21, Tryd.ntmps21
    go_wp2
    go_ret
    exact ⟨ret_bool H.out, rfl⟩
  · by_cases h1 : 63 < i
    · have H : Hid (false = M.hasB s i) := show false = M.hasB s i by
        rw [M.hasB_eq s i hs, M.high s i.toNat hs (by omega)]
        simp
      go_enter Tryd.func21, Tryd.ntmps21
      go_wp2
      go_ret
      exact ⟨ret_bool H.out, rfl⟩
    · obtain ⟨j, rfl⟩ : ∃ j : Nat, i = (j : Int) := ⟨i.toNat, by omega⟩
      have H : Hid ((((s : Int) / 2 ^ j).tmod 2 == 1) = M.hasB s (j : Int)) := rhas_num s j hs
      go_enter Tryd.func21, Tryd.ntmps21
      go_wp2
      go_ret
      exact ⟨ret_bool H.out, rfl⟩

theorem put_out (s : Nat) (i : Int) (h : i < 0 ∨ 63 < i) : M.putN s i = s := by
  have : ¬ (0 ≤ i ∧ i < 64) := by omega
  simp [M.putN, M.onlyN, this]
theorem put_in (s : Nat) (i : Int) (hs : s < 2 ^ 64) (h : M.hasB s i = true) : M.putN s i = s := by
  rw [M.hasB_eq s i hs] at h
  simp only [Bool.and_eq_true, decide_eq_true_eq] at h
  refine M.ext _ _ (M.putN_lt s i hs) hs (fun j hj => ?_)
  rw [M.putN_testBit s i j hj]
  by_cases e : i = (j : Int)
  · subst e
    have := h.2
    simp at this
    simp [this]
  · simp [e]
theorem put_add (s i : Nat) (hi : i < 64) (hs : s < 2 ^ 64) (h : s.testBit i = false) : (s + pow2 i) % 2 ^ 64 = M.putN s (i : Int) := by
  have e : M.onlyN (i : Int) = 2 ^ i := by simp [M.onlyN]; omega
  have hp : 2 ^ i < 2 ^ 64 := Nat.pow_lt_pow_right (by decide) hi
  have hz : (BitVec.ofNat 64 s &&& BitVec.ofNat 64 (2 ^ i)) = 0#64 := by
    apply BitVec.eq_of_toNat_eq
    rw [BitVec.toNat_and, BitVec.toNat_ofNat, BitVec.toNat_ofNat, Nat.mod_eq_of_lt hs, Nat.mod_eq_of_lt hp]
    apply Nat.eq_of_testBit_eq
    intro j
    rw [Nat.testBit_and, Nat.testBit_two_pow]
    by_cases hij : i = j
    · subst hij
      simp [h]
    · simp [hij]
  have hb := congrArg BitVec.toNat (BitVec.add_eq_or_of_and_eq_zero _ _ hz)
  rw [BitVec.toNat_add, BitVec.toNat_or, BitVec.toNat_ofNat, BitVec.toNat_ofNat, Nat.mod_eq_of_lt hs, Nat.mod_eq_of_lt hp] at hb
  unfold M.putN pow2
  rw [e]
  exact hb
theorem has_no (s i : Nat) (hs : s < 2 ^ 64) (h : M.hasB s (i : Int) = false) : s.testBit i = false := by
  rwa [M.hasB_nat s i hs] at h
set_option maxHeartbeats 400000 in
theorem rput_any (s : Nat) (i : Int) (w : World) (hs : s < 2 ^ 64) :
    Calls Tryd.prog 20 #[.int .u64 s, .int .i64 i] w fun e w' => e = .returned (.int .u64 (M.putN s i)) ∧ w = w' := by
  by_cases h0 : i < 0
  · have H : Hid ((s : Int) = (M.putN s i : Int)) := show (s : Int) = (M.putN s i : Int) by rw [put_out s i (.inl h0)]
    go_enter Tryd.func20, Tryd.ntmps20
    go_wp2
    go_ret
    exact ⟨ret_int H.out, rfl⟩
  · by_cases h1 : 63 < i
    · have H : Hid ((s : Int) = (M.putN s i : Int)) := show (s : Int) = (M.putN s i : Int) by rw [put_out s i (.inr h1)]
      go_enter Tryd.func20, Tryd.ntmps20
      go_wp2
      go_ret
      exact ⟨ret_int H.out, rfl⟩
    · obtain ⟨j, rfl⟩ : ∃ j : Nat, i = (j : Int) := ⟨i.toNat, by omega⟩
      have hj : j < 64 := by omega
      cases hm : M.hasB s (j : Int)
      · have H : Hid (IntKind.u64.wrap ((s : Int) + (pow2 j : Int)) = (M.putN s (j : Int) : Int)) := show IntKind.u64.wrap ((s : Int) + (pow2 j : Int)) = (M.putN s (j : Int) : Int) by
          rw [← put_add s j hj hs (has_no s j hs hm), IntKind.wrap_u64]
          omega
        go_enter Tryd.func20, Tryd.ntmps20
        go_wp2_with (first | (go_at_call 21; refine (rhas_any _ _ _ hs).mono ?_; rintro e w2 ⟨rfl, rfl⟩) | (go_at_call 50; refine (rpower_any _ _ hj).mono ?_; rintro e w2 ⟨rfl, rfl⟩))
        go_ret
        exact ⟨ret_int H.out, rfl⟩
      · have H : Hid ((s : Int) = (M.putN s (j : Int) : Int)) := show (s : Int) = (M.putN s (j : Int) : Int) by rw [put_in s j hs hm]
        go_enter Tryd.func20, Tryd.ntmps20
        go_wp2_with (first | (go_at_call 21; refine (rhas_any _ _ _ hs).mono ?_; rintro e w2 ⟨rfl, rfl⟩))
        go_ret
        exact ⟨ret_int H.out, rfl⟩
theorem drop_none (s : Nat) (i : Int) (hs : s < 2 ^ 64) (h : M.hasB s i = false) : M.dropN s i = s := by
  rw [M.hasB_eq s i hs] at h
  refine M.ext _ _ (M.dropN_lt s i hs) hs (fun j hj => ?_)
  rw [M.dropN_testBit s i j hj hs]
  by_cases e : i = (j : Int)
  · subst e
    simp at h
    simp [h]
  · simp [e]
theorem drop_sub (s i : Nat) (hi : i < 64) (hs : s < 2 ^ 64) (h : s.testBit i = true) : IntKind.u64.wrap ((s : Int) - (pow2 i : Int)) = (M.dropN s (i : Int) : Int) := by
  have hd := M.dropN_lt s (i : Int) hs
  have hb : (M.dropN s (i : Int)).testBit i = false := by
    rw [M.dropN_testBit s _ i hi hs]
    simp
  have hp := put_add (M.dropN s (i : Int)) i hi hd hb
  have e : M.putN (M.dropN s (i : Int)) (i : Int) = s := by
    refine M.ext _ _ (M.putN_lt _ _ hd) hs (fun j hj => ?_)
    rw [M.putN_testBit _ _ j hj, M.dropN_testBit s _ j hj hs]
    by_cases e : i = j
    · subst e
      simp [h]
    · have : ¬ ((i : Nat) : Int) = (j : Int) := by omega
      simp [this]
  rw [e] at hp
  rw [IntKind.wrap_u64]
  generalize M.dropN s (i : Int) = d at *
  generalize pow2 i = q at *
  omega
theorem rwithin_num (s t : Nat) (hs : s < 2 ^ 64) (ht : t < 2 ^ 64) : (bits BinOp.or IntKind.u64 (s : Int) (t : Int) == (t : Int)) = M.withinB s t := by
  rw [bits_or_u64_nat s t hs ht, Bool.eq_iff_iff, M.withinB_iff s t hs ht]
  simp only [beq_iff_eq]
  constructor
  · intro h j _ hj
    have h' : s ||| t = t := by omega
    rw [← h', Nat.testBit_or, hj]
    rfl
  · intro h
    have : s ||| t = t := M.ext _ _ (Nat.or_lt_two_pow hs ht) ht (fun j hj => by
      rw [Nat.testBit_or]
      cases hsj : s.testBit j
      · rfl
      · rw [h j hj hsj]
        rfl)
    rw [this]
set_option maxHeartbeats 400000 in
theorem rwithin_any (s t : Nat) (w : World) (hs : s < 2 ^ 64) (ht : t < 2 ^ 64) :
    Calls Tryd.prog 38 #[.int .u64 s, .int .u64 t] w fun e w' => e = .returned (.bool (M.withinB s t)) ∧ w = w' := by
  have H : Hid ((bits BinOp.or IntKind.u64 (s : Int) (t : Int) == (t : Int)) = M.withinB s t) := rwithin_num s t hs ht
  go_enter Tryd.func38, Tryd.ntmps38
  go_wp2
  go_ret
  exact ⟨ret_bool H.out, rfl⟩

/-- The range's numbers below j. -/
def rangeTo (lo hi : Int) (j : Nat) : Nat := M.rangeN lo hi &&& M.belowN (j : Int)
theorem rangeN_lt (lo hi : Int) : M.rangeN lo hi < 2 ^ 64 := M.lessN_lt _ _ (M.belowN_lt hi)
theorem rangeN_testBit (lo hi : Int) (j : Nat) (hj : j < 64) : (M.rangeN lo hi).testBit j = (decide ((j : Int) < hi) && !decide ((j : Int) < lo)) := by
  unfold M.rangeN
  rw [M.lessN_testBit _ _ _ (M.belowN_lt hi) (M.belowN_lt lo), M.belowN_testBit _ _ hj, M.belowN_testBit _ _ hj]
theorem rangeTo_lt (lo hi : Int) (j : Nat) : rangeTo lo hi j < 2 ^ 64 := Nat.and_lt_two_pow _ (M.belowN_lt _)
theorem rangeTo_zero (lo hi : Int) : rangeTo lo hi 0 = 0 := by simp [rangeTo, M.belowN]
theorem rangeTo_testBit (lo hi : Int) (j i : Nat) (hi' : i < 64) : (rangeTo lo hi j).testBit i = ((decide ((i : Int) < hi) && !decide ((i : Int) < lo)) && decide ((i : Int) < (j : Int))) := by
  unfold rangeTo
  rw [Nat.testBit_and, rangeN_testBit _ _ _ hi', M.belowN_testBit _ _ hi']
theorem rangeTo_full (lo hi : Int) : rangeTo lo hi 64 = M.rangeN lo hi := by
  refine M.ext _ _ (rangeTo_lt _ _ _) (rangeN_lt _ _) (fun i hi' => ?_)
  rw [rangeTo_testBit _ _ _ _ hi', rangeN_testBit _ _ _ hi']
  have : decide ((i : Int) < ((64 : Nat) : Int)) = true := by simp; omega
  rw [this]
  simp
theorem rangeTo_hit (lo hi : Int) (j : Nat) (hj : j < 64) (h : lo ≤ (j : Int) ∧ (j : Int) < hi) : M.putN (rangeTo lo hi j) (j : Int) = rangeTo lo hi (j + 1) := by
  refine M.ext _ _ (M.putN_lt _ _ (rangeTo_lt _ _ _)) (rangeTo_lt _ _ _) (fun i hi' => ?_)
  rw [M.putN_testBit _ _ _ hi', rangeTo_testBit _ _ _ _ hi', rangeTo_testBit _ _ _ _ hi', Bool.eq_iff_iff]
  simp
  omega
theorem rangeTo_miss (lo hi : Int) (j : Nat) (hj : j < 64) (h : ¬ (lo ≤ (j : Int) ∧ (j : Int) < hi)) : rangeTo lo hi j = rangeTo lo hi (j + 1) := by
  refine M.ext _ _ (rangeTo_lt _ _ _) (rangeTo_lt _ _ _) (fun i hi' => ?_)
  rw [rangeTo_testBit _ _ _ _ hi', rangeTo_testBit _ _ _ _ hi', Bool.eq_iff_iff]
  simp
  omega
set_option maxHeartbeats 800000 in
theorem rrange_any (lo hi : Int) (w : World) :
    Calls Tryd.prog 56 #[.int .i64 lo, .int .i64 hi] w fun e w' => e = .returned (.int .u64 (M.rangeN lo hi)) ∧ w = w' := by
  go_enter Tryd.func56, Tryd.ntmps56
  go_wp2
  go_loop [5, 6] (fun s k => ∃ j : Nat, j ≤ 64 ∧ k = .int .i64 j ∧ s = .int .u64 (rangeTo lo hi j)) (fun _ k => 64 - (intOf k).toNat)
  case atStart => exact ⟨0, Nat.zero_le _, rfl, by rw [rangeTo_zero]; rfl⟩
  case round =>
    obtain ⟨j, hj, rfl, rfl⟩ := hrel
    have hlt := rangeTo_lt lo hi j
    by_cases hjl : j < 64
    · by_cases h1 : lo ≤ (j : Int)
      · by_cases h2 : (j : Int) < hi
        · have HH := Lib.hid (rangeTo_hit lo hi j hjl ⟨h1, h2⟩)
          go_wp2_with (go_at_call 20; refine (rput_any _ _ _ hlt).mono ?_; rintro e w' ⟨rfl, rfl⟩)
          go_round
          case rel => exact ⟨j + 1, by omega, by go_num, by rw [HH.out]⟩
          case measure => simp [intOf]; omega
        · have HH := Lib.hid (rangeTo_miss lo hi j hjl (fun h => h2 h.2))
          go_wp2
          go_round
          case rel => exact ⟨j + 1, by omega, by go_num, by rw [HH.out]⟩
          case measure => simp [intOf]; omega
      · have HH := Lib.hid (rangeTo_miss lo hi j hjl (fun h => h1 h.1))
        go_wp2
        go_round
        case rel => exact ⟨j + 1, by omega, by go_num, by rw [HH.out]⟩
        case measure => simp [intOf]; omega
    · obtain rfl : j = 64 := by omega
      have HF := Lib.hid (rangeTo_full lo hi)
      go_wp2
      go_ret
      exact ⟨ret_int (by rw [HF.out]), rfl⟩

/-- The numbers of s below j. -/
def biTo (s j : Nat) : List Int := ((List.range j).filter fun i => s.testBit i).map Int.ofNat
theorem biTo_full (s : Nat) : biTo s 64 = M.bi s := rfl
theorem biTo_hit (s j : Nat) (h : s.testBit j = true) : biTo s j ++ [(j : Int)] = biTo s (j + 1) := by
  unfold biTo
  rw [List.range_succ, List.filter_append, List.map_append]
  simp [h]
theorem biTo_miss (s j : Nat) (h : s.testBit j = false) : biTo s j = biTo s (j + 1) := by
  unfold biTo
  rw [List.range_succ, List.filter_append, List.map_append]
  simp [h]
theorem biTo_len (s j : Nat) : (biTo s j).length ≤ j := by
  unfold biTo
  have := List.length_filter_le (fun i => s.testBit i) (List.range j)
  simpa using this
/-- What a round of the reference's List leaves. -/
def RList (s : Nat) (w : World) (v i : Value) (wr : World) : Prop :=
  ∃ j : Nat, j ≤ 64 ∧ i = .int .i64 j ∧ wr.ownsRow w.heap.size 3 1 v (biTo s j).length (ints (biTo s j)) ∧ Below w.heap.size w wr
/-- What the reference's List leaves. -/
def RListed (s : Nat) (w : World) (e : Ending) (w' : World) : Prop :=
  ∃ a cap, e = .returned (.slice a (M.cnt s) cap) ∧ IsInts w' a (M.cnt s) (M.bi s) ∧ (M.cnt s ≠ 0 → ∃ b, a = some ⟨b, 0, none⟩ ∧ b < w'.heap.size) ∧ Below w.heap.size w w'
theorem rlisted_of {s : Nat} {w w' : World} {v : Value} (h : w'.ownsRow w.heap.size 3 1 v (M.bi s).length (ints (M.bi s))) (hb : Below w.heap.size w w') : RListed s w (.returned v) w' := by
  have hc := M.cnt_le s
  have hlen := M.bi_len s
  rcases h.2 with ⟨rfl, h0⟩ | ⟨g, cap, cur, rfl, hg, hh, r⟩
  · rw [hlen] at h0
    refine ⟨none, 0, by rw [h0], ⟨by rw [hlen], by omega, .inl h0⟩, fun hne => absurd h0 hne, hb⟩
  · refine ⟨some ⟨g, 0, none⟩, cap, by rw [hlen], ⟨by rw [hlen], by omega, .inr ⟨g, 0, rfl, fun i hi => own_cells h i (by rw [hlen]; exact hi)⟩⟩, fun _ => ⟨g, rfl, lt_of_block hh⟩, hb⟩
/-- What comparing two lists that are alike leaves. -/
def Alike2 (w : World) (e : Ending) (w' : World) : Prop := e = .returned (.bool true) ∧ Below w.heap.size w w' ∧ ∃ nq, w' = w.drewN nq
set_option maxHeartbeats 800000 in
theorem rsame_some (b1 o1 b2 o2 len c1 c2 : Nat) (xs : List Int) (w : World) (hlm : len ≤ 4611686018427387904) (h1 : ∀ i, i < len → w.cell? ⟨b1, o1 + i, none⟩ = some (.int .i64 (xs.getD i 0))) (h2 : ∀ i, i < len → w.cell? ⟨b2, o2 + i, none⟩ = some (.int .i64 (xs.getD i 0))) :
    Calls Tryd.prog 19 #[.slice (some ⟨b1, o1, none⟩) len c1, .slice (some ⟨b2, o2, none⟩) len c2] w (Alike2 w) := by
  have H1 := Lib.hid h1
  have H2 := Lib.hid h2
  clear h1 h2
  go_enter Tryd.func19, Tryd.ntmps19
  go_wp2
  go_loopw [5] (fun i wr => ∃ j : Nat, j ≤ len ∧ i = .int .i64 j ∧ ∃ nq, wr = w.drewN nq) (fun i _ => len - (intOf i).toNat)
  case atStart => exact ⟨0, Nat.zero_le _, rfl, 0, rfl⟩
  case round =>
    obtain ⟨j, hj, rfl, nq, rfl⟩ := hrel
    by_cases hjl : j < len
    · have a1 := H1.out j hjl
      have a2 := H2.out j hjl
      have d1 : (0 : Int) ≤ (j : Int) := by omega
      have d2 : (j : Int) < (len : Int) := by omega
      generalize xs.getD j 0 = x at *
      go_wp2_with fail
      go_quiet (fail)
      go_wp2
      go_roundw
      case rel => exact ⟨j + 1, by omega, by go_num, _, rfl⟩
      case measure => simp [intOf]; omega
    · go_wp2
      go_ret
      exact ⟨rfl, below_drewN (Below.refl _ _) _, _, rfl⟩
set_option maxHeartbeats 400000 in
theorem rsame_none (a1 a2 : Option Addr) (c1 c2 : Nat) (w : World) :
    Calls Tryd.prog 19 #[.slice a1 0 c1, .slice a2 0 c2] w (Alike2 w) := by
  go_enter Tryd.func19, Tryd.ntmps19
  go_wp2
  refine wp_loop_rounds 1 ?_
  rw [rounds_succ]
  go_wp2
  go_ret
  exact ⟨rfl, Below.refl _ _, 0, rfl⟩
theorem rsame_any (a1 a2 : Option Addr) (len c1 c2 : Nat) (xs : List Int) (w : World) (h1 : IsInts w a1 len xs) (h2 : IsInts w a2 len xs) :
    Calls Tryd.prog 19 #[.slice a1 len c1, .slice a2 len c2] w (Alike2 w) := by
  obtain ⟨hl, hm, h1 | ⟨b1, o1, rfl, hc1⟩⟩ := h1
  · subst h1
    exact rsame_none a1 a2 c1 c2 w
  · obtain ⟨_, _, h2 | ⟨b2, o2, rfl, hc2⟩⟩ := h2
    · subst h2
      exact rsame_none _ a2 c1 c2 w
    · exact rsame_some b1 o1 b2 o2 len c1 c2 xs w hm hc1 hc2
end Go.Proofs.YtokehiehfgffmaaDoor
