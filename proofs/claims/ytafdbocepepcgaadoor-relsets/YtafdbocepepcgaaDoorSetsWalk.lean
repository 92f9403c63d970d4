/-
  The statement RelSets's own call returns true, whatever the arguments, and leaves what was there as it was.
-/
import Derived.Test.YtafdbocepepcgaaDoorRAlg
import Derived.Test.YtafdbocepepcgaaDoorThenWalk
namespace Go.Proofs.YtafdbocepepcgaaDoor
open Go.RowKit
set_option linter.unusedVariables false
set_option linter.unusedSimpArgs false

/-- What is there while the pairs are gone through. -/
def SetsAt (w : World) (x y : List Nat) (s n : Nat) (ax ay ao an al ak ab : Option Addr) (wr : World) : Prop :=
  IsWords wr ax n x ∧ IsWords wr ay n y ∧ IsWords wr ao n (R.orR x y) ∧ IsWords wr an n (R.andR x y) ∧ IsWords wr al n (R.lessR x y) ∧ IsWords wr ak n (R.keepR x s) ∧ IsWords wr ab n (R.backR x) ∧ Below w.heap.size w wr
theorem sh_and (s i : Nat) (hs : s < 2 ^ 64) (hi : i < 64) : (bits BinOp.and IntKind.u64 ((s : Int) / 2 ^ i) 1 == 1) = s.testBit i := by
  have e : ((s : Int) / 2 ^ i) = ((s / 2 ^ i : Nat) : Int) := by simp
  have h1 : s / 2 ^ i < 2 ^ 64 := Nat.lt_of_le_of_lt (Nat.div_le_self _ _) hs
  have := bits_and_u64_nat (s / 2 ^ i) 1 h1 (by decide)
  rw [e, show (1 : Int) = ((1 : Nat) : Int) from rfl, this, Nat.and_one_is_mod, Nat.testBit_eq_decide_div_mod_eq, Bool.eq_iff_iff]
  simp only [beq_iff_eq, decide_eq_true_eq]
  omega
section
variable {n : Nat} {a b : List Nat} (ha : Rel n a) (hb : Rel n b) (i j : Nat)
include ha
theorem has_keep (s : Nat) (hs : s < 2 ^ 64) (i j : Nat) (hi : i < n) : R.hasR (R.keepR a s) i j = ((R.row a i).testBit j && (s.testBit i && s.testBit j)) := by
  rw [has_rel (keep_rel ha s hs) i j hi, Bool.eq_iff_iff, Bool.and_eq_true, Bool.and_eq_true]
  exact keep_iff ha s hs i j
theorem has_back (hj : j < n) : R.hasR (R.backR a) j i = (R.row a i).testBit j := by
  rw [has_rel (back_rel ha) j i hj, Bool.eq_iff_iff]
  exact back_iff ha j i
include hb
theorem has_or (hi : i < n) : R.hasR (R.orR a b) i j = ((R.row a i).testBit j || (R.row b i).testBit j) := by
  rw [has_rel (or_rel ha hb) i j hi, Bool.eq_iff_iff, Bool.or_eq_true]
  exact or_iff' ha hb i j
theorem has_and (hi : i < n) : R.hasR (R.andR a b) i j = ((R.row a i).testBit j && (R.row b i).testBit j) := by
  rw [has_rel (and_rel ha hb) i j hi, Bool.eq_iff_iff, Bool.and_eq_true]
  exact and_iff' ha hb i j
theorem has_less (hi : i < n) : R.hasR (R.lessR a b) i j = ((R.row a i).testBit j && !(R.row b i).testBit j) := by
  rw [has_rel (less_rel ha hb) i j hi, Bool.eq_iff_iff, Bool.and_eq_true, Bool.not_eq_true']
  refine (less_iff ha hb i j).trans (and_congr_right fun _ => ?_)
  simp
end
theorem beq_of {b c : Bool} {P : Prop} (h : b = true ↔ P) (h' : P ↔ c = true) : b = c := by
  rw [Bool.eq_iff_iff]
  exact h.trans h'
set_option maxHeartbeats 8000000 in
set_option maxRecDepth 100000 in
theorem sets_walk (a0 : Option Addr) (l0 c0 : Nat) (b0 : List Nat) (a1 : Option Addr) (l1 c1 : Nat) (b1 : List Nat) (m s : Nat) (w : World)
    (hg : 0 < w.heap.size) (hT : Tab w) (h0 : IsBytes w a0 l0 b0) (h1 : IsBytes w a1 l1 b1) (hm : m < 256) (hs : s < 2 ^ 64) :
    Calls Tryd.prog 7 #[.slice a0 l0 c0, .slice a1 l1 c1, .int .u8 (m : Nat), .int .u64 (s : Nat)] w (Good w) := by
  have hTb : Tb w := ⟨hT, hg⟩
  have m0 := h0.2.1
  have m1 := h1.2.1
  obtain ⟨n, hn⟩ : ∃ n, n = m % 20 + 1 := ⟨_, rfl⟩
  have hn20 : n ≤ 20 := by omega
  have hn1 : 1 ≤ n := by omega
  have HN := Lib.hid hn
  clear hn
  go_enter Tryd.func7, Tryd.ntmps7
  go_wp2_with fail
  refine (begun2_any w hTb).mono ?_
  rintro e w1 ⟨rfl, hB⟩
  by_cases q0 : 60 < l0
  · go_wp2
    go_ret
    exact ⟨rfl, hB⟩
  by_cases q1 : 60 < l1
  · go_wp2
    go_ret
    exact ⟨rfl, hB⟩
  go_wp2_with fail
  with_reducible refine (some_n a0 l0 c0 m n b0 _ HN.out (h0.below hB) hm (by omega)).mono ?_
  rintro e w2 ⟨x, ax, cx, hRx, rfl, hx, hb⟩
  replace hB := hB.trans (hb.mono hB.size)
  clear hb
  go_wp2_with fail
  with_reducible refine (some_n a1 l1 c1 m n b1 _ HN.out (h1.below hB) hm (by omega)).mono ?_
  rintro e w3 ⟨y, ay, cy, hRy, rfl, hy, hb⟩
  replace hB := hB.trans (hb.mono hB.size)
  replace hx := hx.below hb
  clear hb
  go_wp2_with fail
  with_reducible refine (orR_any _ _ _ _ _ _ x y _ hx hy (hTb.below hB)).mono ?_
  rintro e w4 ⟨ao, co, rfl, ho, hb⟩
  replace hB := hB.trans (hb.mono hB.size)
  replace hx := hx.below hb
  replace hy := hy.below hb
  clear hb
  go_wp2_with fail
  with_reducible refine (andR_any _ _ _ _ _ _ x y _ hx hy (hTb.below hB)).mono ?_
  rintro e w5 ⟨an, cn, rfl, hn, hb⟩
  replace hB := hB.trans (hb.mono hB.size)
  replace hx := hx.below hb
  replace hy := hy.below hb
  replace ho := ho.below hb
  clear hb
  go_wp2_with fail
  with_reducible refine (lessR_any _ _ _ _ _ _ x y _ hx hy (hTb.below hB)).mono ?_
  rintro e w6 ⟨al, cl, rfl, hl, hb⟩
  replace hB := hB.trans (hb.mono hB.size)
  replace hx := hx.below hb
  replace hy := hy.below hb
  replace ho := ho.below hb
  replace hn := hn.below hb
  clear hb
  go_wp2_with fail
  with_reducible refine (keepR_any _ _ _ s x _ hx (hTb.below hB) hs).mono ?_
  rintro e w7 ⟨ak, ck, rfl, hk, hb⟩
  replace hB := hB.trans (hb.mono hB.size)
  replace hx := hx.below hb
  replace hy := hy.below hb
  replace ho := ho.below hb
  replace hn := hn.below hb
  replace hl := hl.below hb
  clear hb
  go_wp2_with fail
  with_reducible refine (backR_any _ _ _ x _ hx (hTb.below hB)).mono ?_
  rintro e w8 ⟨ab, cb, rfl, hb', hb⟩
  replace hB := hB.trans (hb.mono hB.size)
  replace hx := hx.below hb
  replace hy := hy.below hb
  replace ho := ho.below hb
  replace hn := hn.below hb
  replace hl := hl.below hb
  replace hk := hk.below hb
  clear hb
  have RO := Lib.hid (or_rel hRx hRy)
  have RN := Lib.hid (and_rel hRx hRy)
  have RL := Lib.hid (less_rel hRx hRy)
  have RK := Lib.hid (keep_rel hRx s hs)
  have RB := Lib.hid (back_rel hRx)
  rw [RO.out.1] at ho
  rw [RN.out.1] at hn
  rw [RL.out.1] at hl
  rw [RK.out.1] at hk
  rw [RB.out.1] at hb'
  have hw : SetsAt w x y s n ax ay ao an al ak ab w8 := ⟨hx, hy, ho, hn, hl, hk, hb', hB⟩
  rw [RO.out.1, RN.out.1, RL.out.1, RK.out.1, RB.out.1]
  clear hx hy ho hn hl hk hb' hB
  go_wp2
  go_loopw [16] (fun k wr => ∃ i : Nat, i ≤ n ∧ k = .int .i64 i ∧ SetsAt w x y s n ax ay ao an al ak ab wr) (fun k _ => n - (intOf k).toNat)
  case atStart => exact ⟨0, Nat.zero_le _, rfl, hw⟩
  case round =>
    obtain ⟨i, hi, rfl, hW⟩ := hrel
    by_cases hil : i < n
    · go_wp2
      go_loopw [17, 18, 19, 20] (fun k _ _ _ wr => ∃ j : Nat, j ≤ n ∧ k = .int .i64 j ∧ SetsAt w x y s n ax ay ao an al ak ab wr) (fun k _ _ _ _ => n - (intOf k).toNat)
      case atStart => exact ⟨0, Nat.zero_le _, rfl, hW⟩
      case round =>
        obtain ⟨j, hj, rfl, hW⟩ := hrel
        by_cases hjl : j < n
        · obtain ⟨hx, hy, ho, hn, hl, hk, hb', hB⟩ := hW
          have A1 := has_rel hRx i j hil
          have A2 := has_rel hRy i j hil
          have A3 := has_or hRx hRy i j hil
          have A4 := has_and hRx hRy i j hil
          have A5 := has_less hRx hRy i j hil
          have A6 := has_keep hRx s hs i j hil
          have A7 := has_back hRx i j hjl
          have hsh1 := sh_and s i hs (by omega)
          have hsh2 := sh_and s j hs (by omega)
          have hi64 : i < 64 := by omega
          have hj64 : j < 64 := by omega
          cases p : (R.row x i).testBit j <;> cases q : (R.row y i).testBit j <;> cases si : s.testBit i <;> cases sj : s.testBit j
          all_goals (
            rw [p] at A1
            rw [q] at A2
            rw [p, q] at A3
            rw [p, q] at A4
            rw [p, q] at A5
            rw [p, si, sj] at A6
            rw [p] at A7
            rw [si] at hsh1
            rw [sj] at hsh2
            simp only [Bool.or_false, Bool.or_true, Bool.false_or, Bool.true_or, Bool.and_false, Bool.and_true, Bool.false_and, Bool.true_and, Bool.not_false, Bool.not_true] at A3 A4 A5 A6
            replace A1 := Lib.hid A1
            replace A2 := Lib.hid A2
            replace A3 := Lib.hid A3
            replace A4 := Lib.hid A4
            replace A5 := Lib.hid A5
            replace A6 := Lib.hid A6
            replace A7 := Lib.hid A7
            clear p q si sj
            go_wp2_with fail
            with_reducible refine (hasR_any _ _ _ (i : Nat) (j : Nat) x _ hx (hTb.below hB)).mono ?_
            rw [A1.out]
            rintro e w21 ⟨rfl, hb⟩
            replace hB := hB.trans (hb.mono hB.size)
            replace hx := hx.below hb
            replace hy := hy.below hb
            replace ho := ho.below hb
            replace hn := hn.below hb
            replace hl := hl.below hb
            replace hk := hk.below hb
            replace hb' := hb'.below hb
            clear hb
            go_wp2_with fail
            with_reducible refine (hasR_any _ _ _ (i : Nat) (j : Nat) y _ hy (hTb.below hB)).mono ?_
            rw [A2.out]
            rintro e w22 ⟨rfl, hb⟩
            replace hB := hB.trans (hb.mono hB.size)
            replace hx := hx.below hb
            replace hy := hy.below hb
            replace ho := ho.below hb
            replace hn := hn.below hb
            replace hl := hl.below hb
            replace hk := hk.below hb
            replace hb' := hb'.below hb
            clear hb
            go_wp2_with fail
            with_reducible refine (hasR_any _ _ _ (i : Nat) (j : Nat) _ _ ho (hTb.below hB)).mono ?_
            rw [A3.out]
            rintro e w23 ⟨rfl, hb⟩
            replace hB := hB.trans (hb.mono hB.size)
            replace hx := hx.below hb
            replace hy := hy.below hb
            replace ho := ho.below hb
            replace hn := hn.below hb
            replace hl := hl.below hb
            replace hk := hk.below hb
            replace hb' := hb'.below hb
            clear hb
            go_wp2_with fail
            with_reducible refine (hasR_any _ _ _ (i : Nat) (j : Nat) _ _ hn (hTb.below hB)).mono ?_
            rw [A4.out]
            rintro e w24 ⟨rfl, hb⟩
            replace hB := hB.trans (hb.mono hB.size)
            replace hx := hx.below hb
            replace hy := hy.below hb
            replace ho := ho.below hb
            replace hn := hn.below hb
            replace hl := hl.below hb
            replace hk := hk.below hb
            replace hb' := hb'.below hb
            clear hb
            go_wp2_with fail
            with_reducible refine (hasR_any _ _ _ (i : Nat) (j : Nat) _ _ hl (hTb.below hB)).mono ?_
            rw [A5.out]
            rintro e w25 ⟨rfl, hb⟩
            replace hB := hB.trans (hb.mono hB.size)
            replace hx := hx.below hb
            replace hy := hy.below hb
            replace ho := ho.below hb
            replace hn := hn.below hb
            replace hl := hl.below hb
            replace hk := hk.below hb
            replace hb' := hb'.below hb
            clear hb
            go_wp2_with fail
            with_reducible refine (hasR_any _ _ _ (i : Nat) (j : Nat) _ _ hk (hTb.below hB)).mono ?_
            rw [A6.out]
            rintro e w26 ⟨rfl, hb⟩
            replace hB := hB.trans (hb.mono hB.size)
            replace hx := hx.below hb
            replace hy := hy.below hb
            replace ho := ho.below hb
            replace hn := hn.below hb
            replace hl := hl.below hb
            replace hk := hk.below hb
            replace hb' := hb'.below hb
            clear hb
            go_wp2_with fail
            with_reducible refine (hasR_any _ _ _ (j : Nat) (i : Nat) _ _ hb' (hTb.below hB)).mono ?_
            rw [A7.out]
            rintro e w27 ⟨rfl, hb⟩
            replace hB := hB.trans (hb.mono hB.size)
            replace hx := hx.below hb
            replace hy := hy.below hb
            replace ho := ho.below hb
            replace hn := hn.below hb
            replace hl := hl.below hb
            replace hk := hk.below hb
            replace hb' := hb'.below hb
            clear hb
            go_wp2
            go_roundw)
          all_goals first | exact ⟨j + 1, by omega, by go_num, hx, hy, ho, hn, hl, hk, hb', hB⟩ | (simp [intOf]; omega)
        · obtain rfl : j = n := by omega
          go_wp2
          go_roundw
          case rel => exact ⟨i + 1, by omega, by go_num, hW⟩
          case measure => simp [intOf]; omega
    · obtain rfl : i = n := by omega
      obtain ⟨hx, hy, ho, hn, hl, hk, hb', hB⟩ := hW
      have K1 := count_or_and hRx hRy
      have k1 := count_le hRx
      have k2 := count_le hRy
      have k3 := count_le RO.out
      have k4 := count_le RN.out
      have KE : ((R.countR (R.orR x y) : Int) + (R.countR (R.andR x y) : Int) == (R.countR x : Int) + (R.countR y : Int)) = true := by
        rw [beq_iff_eq]
        omega
      have KL := Lib.hid (less_and hRx hRy)
      have KM := Lib.hid RO.out.2.2
      replace K1 := Lib.hid K1
      have KE := Lib.hid KE
      go_wp2_with fail
      with_reducible refine (countR_any _ _ _ _ _ ho (hTb.below hB)).mono ?_
      rintro e w41 ⟨rfl, hb⟩
      replace hB := hB.trans (hb.mono hB.size)
      replace hx := hx.below hb
      replace hy := hy.below hb
      replace ho := ho.below hb
      replace hn := hn.below hb
      replace hl := hl.below hb
      replace hk := hk.below hb
      replace hb' := hb'.below hb
      clear hb
      go_wp2_with fail
      with_reducible refine (countR_any _ _ _ _ _ hn (hTb.below hB)).mono ?_
      rintro e w42 ⟨rfl, hb⟩
      replace hB := hB.trans (hb.mono hB.size)
      replace hx := hx.below hb
      replace hy := hy.below hb
      replace ho := ho.below hb
      replace hn := hn.below hb
      replace hl := hl.below hb
      replace hk := hk.below hb
      replace hb' := hb'.below hb
      clear hb
      go_wp2_with fail
      with_reducible refine (countR_any _ _ _ x _ hx (hTb.below hB)).mono ?_
      rintro e w43 ⟨rfl, hb⟩
      replace hB := hB.trans (hb.mono hB.size)
      replace hx := hx.below hb
      replace hy := hy.below hb
      replace ho := ho.below hb
      replace hn := hn.below hb
      replace hl := hl.below hb
      replace hk := hk.below hb
      replace hb' := hb'.below hb
      clear hb
      go_wp2_with fail
      with_reducible refine (countR_any _ _ _ y _ hy (hTb.below hB)).mono ?_
      rintro e w44 ⟨rfl, hb⟩
      replace hB := hB.trans (hb.mono hB.size)
      replace hx := hx.below hb
      replace hy := hy.below hb
      replace ho := ho.below hb
      replace hn := hn.below hb
      replace hl := hl.below hb
      replace hk := hk.below hb
      replace hb' := hb'.below hb
      clear hb
      have KE2 := KE.out
      go_wp2_with fail
      with_reducible refine (orR_any _ _ _ _ _ _ _ _ _ hl hn (hTb.below hB)).mono ?_
      rintro e w45 ⟨ala, cla, rfl, hla, hb⟩
      replace hB := hB.trans (hb.mono hB.size)
      replace hx := hx.below hb
      replace hy := hy.below hb
      replace ho := ho.below hb
      replace hn := hn.below hb
      replace hl := hl.below hb
      replace hk := hk.below hb
      replace hb' := hb'.below hb
      clear hb
      clear KE2
      rw [KL.out] at hla ⊢
      go_wp2_with fail
      with_reducible refine (sameR_any _ _ _ _ _ _ x x _ hla hx).mono ?_
      rw [decide_eq_true rfl]
      rintro e w46 ⟨rfl, hb⟩
      replace hB := hB.trans (hb.mono hB.size)
      replace hx := hx.below hb
      replace hy := hy.below hb
      replace ho := ho.below hb
      replace hn := hn.below hb
      replace hl := hl.below hb
      replace hk := hk.below hb
      replace hb' := hb'.below hb
      replace hla := hla.below hb
      clear hb
      go_wp2_with fail
      with_reducible refine (may_any' _ _ _ _ _ ho (hTb.below hB)).mono ?_
      rw [KM.out]
      rintro e w47 ⟨rfl, hb⟩
      replace hB := hB.trans (hb.mono hB.size)
      replace hx := hx.below hb
      replace hy := hy.below hb
      replace ho := ho.below hb
      replace hn := hn.below hb
      replace hl := hl.below hb
      replace hk := hk.below hb
      replace hb' := hb'.below hb
      replace hla := hla.below hb
      clear hb
      go_wp2
      go_ret
      exact ⟨rfl, hB⟩
end Go.Proofs.YtafdbocepepcgaaDoor
