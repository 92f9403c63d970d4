/-
  What Acyclic of the documents' answers, and 'some' and 'hasLoop' of the statements of layer 3 tell, as contracts.
-/
import Derived.Test.YtokehiehfgffmaaDoorKRef
namespace Go.Proofs.YtokehiehfgffmaaDoor
open Go.RowKit
set_option linter.unusedVariables false
set_option linter.unusedSimpArgs false

/-- What a round of Acyclic leaves. -/
def RAcyR (xs : List Nat) (w0 : World) (k : Value) (w : World) : Prop := ∃ j : Nat, j ≤ xs.length ∧ k = .int .i64 j ∧ (∀ i, i < j → ¬ bf (plusR xs) i i) ∧ w = w0
set_option maxHeartbeats 800000 in
theorem racyclic_may (a : Option Addr) (len cap : Nat) (xs : List Nat) (w : World) (hx : IsWords w a len xs) (hm : R.mayR xs = true) :
    Calls Tryd.prog 18 #[.slice a len cap] w (Ans (.bool (acyB xs)) w) := by
  obtain rfl : xs.length = len := hx.1
  have HM := rmay_any a xs.length cap xs w hx
  have hr : Rel xs.length xs := ⟨rfl, hx.2.2.1, hm⟩
  have HR := Lib.hid hr
  have hl := hr.le
  have hpl := (plus_rel hr).1
  have hpw := (plus_rel hr).2.1
  rw [hm] at HM
  have HM := Lib.hid HM
  clear hr
  go_enter Tryd.func18, Tryd.ntmps18
  go_wp2_with fail
  refine HM.out.mono ?_
  rintro e w1 ⟨rfl, hb1⟩
  go_wp2_with fail
  refine (rplus_may a xs.length cap xs w1 (hx.below hb1) hm).mono ?_
  rintro e w2 ⟨g, rfl, hg, hB, hb2⟩
  have hb12 : Below w.heap.size w w2 := hb1.trans (hb2.mono hb1.size)
  go_wp2
  go_loopw [4] (fun k wr => RAcyR xs w2 k wr) (fun k _ => xs.length - (intOf k).toNat)
  case atStart => exact ⟨0, Nat.zero_le _, rfl, fun i hi => by omega, rfl⟩
  case round =>
    obtain ⟨j, hj, rfl, hall, rfl⟩ := hrel
    have HA := Lib.hid hall
    clear hall
    by_cases hjl : j < xs.length
    · have cj : wr.cell? ⟨g, j, none⟩ = some (.int .u64 (R.row (plusR xs) j : Nat)) := by rw [hB.cell, words_at _ _ (by omega)]
      have hwj := hpw j
      have i1 : (0 : Int) ≤ (j : Int) := by omega
      have i2 : (j : Int) < (xs.length : Int) := by omega
      have hhas := M.hasB_nat (R.row (plusR xs) j) j hwj
      have HH := Lib.hid (rhas_any (R.row (plusR xs) j) (j : Int) wr hwj)
      rw [hhas] at HH
      cases hb : (R.row (plusR xs) j).testBit j
      · rw [hb] at HH
        have HNX : Hid (∀ i, i < j + 1 → ¬ bf (plusR xs) i i) := fun i hi h => by
          rcases Nat.lt_or_ge i j with h1 | h1
          · exact HA.out i h1 h
          · obtain rfl : i = j := by omega
            rw [bf, hb] at h
            cases h
        clear hb hhas
        go_wp2_with fail
        refine HH.out.mono ?_
        rintro e w' ⟨rfl, rfl⟩
        go_wp2
        go_roundw
        case rel => exact ⟨j + 1, by omega, by go_num, HNX.out, rfl⟩
        case measure => simp [intOf]; omega
      · rw [hb] at HH
        have HN : Hid (false = acyB xs) := show false = acyB xs by
          symm
          rw [Bool.eq_false_iff]
          intro h
          exact (acy_iff HR.out).1 h j ((plus_iff HR.out j j).1 hb)
        clear hb hhas
        go_wp2_with fail
        refine HH.out.mono ?_
        rintro e w' ⟨rfl, rfl⟩
        go_wp2
        go_ret
        exact ⟨ret_bool HN.out, hb12⟩
    · obtain rfl : j = xs.length := by omega
      have HN : Hid (true = acyB xs) := show true = acyB xs by
        symm
        refine (acy_iff HR.out).2 fun i hw => ?_
        exact HA.out i (hw.lt HR.out).1 ((plus_iff HR.out i i).2 hw)
      go_wp2
      go_ret
      exact ⟨ret_bool HN.out, hb12⟩

/-- What some gives: a relation over n things, only from lesser to greater ones, if down. -/
def GivesS (n : Nat) (down : Bool) (w : World) (e : Ending) (w' : World) : Prop := ∃ xs a cap, Rel n xs ∧ (down = true → ∀ i j, bf xs i j → i < j) ∧ e = .returned (.slice a n cap) ∧ IsWords w' a n xs ∧ Below w.heap.size w w'
/-- What a round of some leaves. -/
def KSomeR (w0 : World) (g n len : Nat) (down : Bool) (k : Value) (w : World) : Prop :=
  ∃ j : Nat, j ≤ len + 1 ∧ k = .int .i64 j ∧ ∃ xs, Rel n xs ∧ (down = true → ∀ i j, bf xs i j → i < j) ∧ Blk w g 23 (words xs) ∧ Below w0.heap.size w0 w ∧ w0.heap.size ≤ g
theorem down_put {n : Nat} {xs : List Nat} {down : Bool} (hr : Rel n xs) (h : down = true → ∀ i j, bf xs i j → i < j) (x y : Nat) (hx : x < n) (hy : y < 64) (hxy : down = true → x < y) : down = true → ∀ i j, bf (xs.set x (M.putN (R.row xs x) (y : Int))) i j → i < j := by
  intro hd i j hb
  unfold bf at hb
  rw [set_row _ _ _ _ (by rw [hr.1]; exact hx)] at hb
  split at hb
  · rename_i e
    subst e
    by_cases hj : j < 64
    · rw [M.putN_testBit _ _ _ hj] at hb
      simp only [Bool.or_eq_true, decide_eq_true_eq] at hb
      rcases hb with hb | hb
      · exact h hd _ _ hb
      · have := hxy hd
        omega
    · rw [M.high _ _ (M.putN_lt _ _ (hr.2.1 x)) (by omega)] at hb
      cases hb
  · exact h hd _ _ hb
set_option maxRecDepth 4000 in
set_option maxHeartbeats 2000000 in
theorem ksome_any (a : Option Addr) (len cap m n : Nat) (down : Bool) (bs : List Nat) (w : World) (hn : n = m % 16 + 1) (hb : IsBytes w a len bs) (hm : m < 256) (hl : len ≤ 60) :
    Calls Tryd.prog 9 #[.slice a len cap, .int .u8 (m : Nat), .bool down] w (GivesS n down w) := by
  obtain ⟨i0, hi, hz0, hz1, hz2⟩ := info_parts Tryd.infoW
  have HZ := Lib.hid hz0
  have HZ1 := Lib.hid hz1
  have HZ2 := Lib.hid hz2
  have HI := Lib.hid hi
  have hn20 : n ≤ 16 := by omega
  have hn1 : 1 ≤ n := by omega
  have k1 : (m : Int) % 16 + 1 = (n : Int) := by omega
  have HN := Lib.hid hn
  clear hz0 hz1 hz2 hi hn
  go_enter Tryd.func9, Tryd.ntmps9
  go_wp2_with (at_make; refine wpList_make_full _ rfl (.tmp 14) (.tmp 14) 25 rfl w.heap.size 23 i0 (.int .u64 0) 1 Tryd.underlying25 HI.out HZ.out HZ1.out .i64 .i64 (n : Int) (n : Int) n rfl rfl rfl rfl (by rw [HZ2.out]; omega) (by unfold maxLen; omega) (Nat.le_refl _) ?_; intro w2 hown2 hgrow2)
  rw [made_words] at hown2
  obtain ⟨hg, hB⟩ := blk_of_own hown2
  have hb2 : Below w.heap.size w w2 := (Below.refl _ _).grown hgrow2 (Nat.le_refl _) (fun k hk => by cases hk)
  clear hown2 hgrow2 k1
  go_loopw [8, 9, 10] (fun k _ _ wr => KSomeR w w.heap.size n len down k wr) (fun k _ _ _ => len + 1 - (intOf k).toNat)
  case atStart => exact ⟨0, by omega, rfl, _, rel_zero (by omega), fun _ i j h => absurd h (zero_bf n i j), hB, hb2, Nat.le_refl _⟩
  case round =>
    obtain ⟨j, hj, rfl, xs, hR, hdn, hBm, hbel, _⟩ := hrel
    have HDN := Lib.hid hdn
    clear hdn
    by_cases hjl : j + 1 < len
    · have hB1 := hb.below hbel
      obtain ⟨b, off, rfl, hc⟩ := hB1.at (by omega)
      have c1 := hc j (by omega)
      have c2 := hc (j + 1) hjl
      have l1 := hB1.2.2.1 j
      have l2 := hB1.2.2.1 (j + 1)
      generalize bs.getD j 0 = p at *
      generalize bs.getD (j + 1) 0 = q at *
      obtain ⟨x, hx⟩ : ∃ x, x = p % n := ⟨_, rfl⟩
      obtain ⟨y, hy⟩ : ∃ y, y = q % n := ⟨_, rfl⟩
      have hxn : x < n := by rw [hx]; exact Nat.mod_lt _ (by omega)
      have hyn : y < n := by rw [hy]; exact Nat.mod_lt _ (by omega)
      have e1 : (p : Int).tmod (n : Int) = (x : Int) := by rw [hx]; rfl
      have e2 : (q : Int).tmod (n : Int) = (y : Int) := by rw [hy]; rfl
      have c0 : wr.cell? ⟨w.heap.size, x, none⟩ = some (.int .u64 (R.row xs x : Nat)) := by rw [hBm.cell, words_at _ _ (by rw [hR.1]; exact hxn)]
      have cf := hBm.free x
      have hcur := hR.2.1 x
      have e3 := orput (R.row xs x) y hcur (by omega)
      have d1 : (0 : Int) ≤ (j : Int) := by omega
      have d2 : (j : Int) < (len : Int) := by omega
      have d3 : (0 : Int) ≤ (j : Int) + 1 := by omega
      have d4 : (j : Int) + 1 < (len : Int) := by omega
      have d5 : ((j : Int) + 1).toNat = j + 1 := by omega
      have d6 : ((n : Int) == 0) = false := by simp; omega
      have d7 : IntKind.i64.wrap ((j : Int) + 1) = (j : Int) + 1 := by rw [IntKind.wrap_i64]; omega
      have d8 : IntKind.i64.wrap (p : Int) = (p : Int) := by rw [IntKind.wrap_i64]; omega
      have d9 : IntKind.i64.wrap (q : Int) = (q : Int) := by rw [IntKind.wrap_i64]; omega
      have d10 : IntKind.i64.wrap (x : Int) = (x : Int) := by rw [IntKind.wrap_i64]; omega
      have d11 : IntKind.i64.wrap (y : Int) = (y : Int) := by rw [IntKind.wrap_i64]; omega
      have d12 : ¬ ((n : Int) = 0) := by omega
      have d13 : ¬ (n = 0) := by omega
      clear hx hy hc hB1
      cases hd : down
      · go_wp2_with fail
        go_quiet (fail)
        have f1 : IntKind.u64.wrap (y : Int) = (y : Int) := by rw [IntKind.wrap_u64]; omega
        have f2 : (y : Int).toNat = y := by omega
        have f3 : (0 : Int) ≤ (y : Int) := by omega
        have f4 : (y : Int) < 64 := by omega
        have f5 : (0 : Int) ≤ (x : Int) := by omega
        have f6 : (x : Int) < (n : Int) := by omega
        go_wp2
        refine ⟨⟨j + 2, by omega, by go_num, _, rel_put hR x y hxn hyn, (fun h => by cases h), ?_, (below_drewN hbel _).setCell (Nat.le_refl _) _, Nat.le_refl _⟩, by simp [intOf]; omega⟩
        have := (hBm.drewN nq).set x (.int .u64 (M.putN (R.row xs x) (y : Int) : Nat))
        rw [words_set] at this
        exact this
      · by_cases hxy : x < y
        · have g1 : ¬ ((y : Int) ≤ (x : Int)) := by omega
          have g2 : decide ((y : Int) ≤ (x : Int)) = false := by simp; omega
          go_wp2_with fail
          go_quiet (fail)
          have f1 : IntKind.u64.wrap (y : Int) = (y : Int) := by rw [IntKind.wrap_u64]; omega
          have f2 : (y : Int).toNat = y := by omega
          have f3 : (0 : Int) ≤ (y : Int) := by omega
          have f4 : (y : Int) < 64 := by omega
          have f5 : (0 : Int) ≤ (x : Int) := by omega
          have f6 : (x : Int) < (n : Int) := by omega
          go_wp2
          refine ⟨⟨j + 2, by omega, by go_num, _, rel_put hR x y hxn hyn, down_put hR (fun _ => HDN.out hd) x y hxn (by omega) (fun _ => hxy), ?_, (below_drewN hbel _).setCell (Nat.le_refl _) _, Nat.le_refl _⟩, by simp [intOf]; omega⟩
          have := (hBm.drewN nq).set x (.int .u64 (M.putN (R.row xs x) (y : Int) : Nat))
          rw [words_set] at this
          exact this
        · have g1 : (y : Int) ≤ (x : Int) := by omega
          have g2 : decide ((y : Int) ≤ (x : Int)) = true := by simp; omega
          go_wp2_with fail
          go_quiet (fail)
          go_wp2
          exact ⟨⟨j + 2, by omega, by go_num, xs, hR, (fun _ => HDN.out hd), hBm.drewN _, below_drewN hbel _, Nat.le_refl _⟩, by simp [intOf]; omega⟩
    · go_wp2
      go_ret
      exact ⟨xs, _, _, hR, HDN.out, rfl, hBm.words hR.1 (by omega) hR.2.1, hbel⟩
end Go.Proofs.YtokehiehfgffmaaDoor
