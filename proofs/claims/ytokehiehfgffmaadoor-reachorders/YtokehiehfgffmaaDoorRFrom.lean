/-
  What rel.From answers, as a contract.
-/
import Derived.Test.YtokehiehfgffmaaDoorRPairs
import Derived.Test.YtokehiehfgffmaaDoorRBack
namespace Go.Proofs.YtokehiehfgffmaaDoor
open Go.RowKit
set_option linter.unusedVariables false
set_option linter.unusedSimpArgs false

/-- Are both of a pair things? -/
def okP (n : Int) (p : Int × Int) : Bool := decide (0 ≤ p.1 ∧ p.1 < n) && decide (0 ≤ p.2 ∧ p.2 < n)
def fromOk (n : Int) (ps : List (Int × Int)) : Bool := R.fitsB n && ps.all (okP n)
/-- The rows that have just these pairs. -/
def fromN (n : Nat) (ps : List (Int × Int)) : List Nat := ps.foldl (fun r p => r.set p.1.toNat (M.putN (R.row r p.1.toNat) p.2)) (List.replicate n 0)
def fromR (n : Int) (ps : List (Int × Int)) : List Nat := if fromOk n ps then fromN n.toNat ps else []
theorem fromN_snoc (n : Nat) (ps : List (Int × Int)) (p : Int × Int) : fromN n (ps ++ [p]) = (fromN n ps).set p.1.toNat (M.putN (R.row (fromN n ps) p.1.toNat) p.2) := by simp [fromN, List.foldl_append]
theorem from_fold_len : ∀ (ps : List (Int × Int)) (r : List Nat), (ps.foldl (fun r p => r.set p.1.toNat (M.putN (R.row r p.1.toNat) p.2)) r).length = r.length
  | [], r => rfl
  | p :: ps, r => by
    simp only [List.foldl_cons]
    rw [from_fold_len ps]
    simp
theorem fromN_len (n : Nat) (ps : List (Int × Int)) : (fromN n ps).length = n := by
  unfold fromN
  rw [from_fold_len]
  simp
theorem set_words {r : List Nat} (h : R.Words r) (y v : Nat) (hv : v < 2 ^ 64) : R.Words (r.set y v) := by
  intro i
  by_cases hy : y < r.length
  · rw [set_row _ _ _ _ hy]
    split
    · exact hv
    · exact h i
  · rw [List.set_eq_of_length_le (by omega)]
    exact h i
theorem from_fold_words : ∀ (ps : List (Int × Int)) (r : List Nat), R.Words r → R.Words (ps.foldl (fun r p => r.set p.1.toNat (M.putN (R.row r p.1.toNat) p.2)) r)
  | [], r, h => h
  | p :: ps, r, h => from_fold_words ps _ (set_words h _ _ (M.putN_lt _ _ (h _)))
theorem zero_words (n : Nat) : R.Words (List.replicate n 0) := R.words_of fun x hx => by rw [List.eq_of_mem_replicate hx]; decide
theorem fromN_words (n : Nat) (ps : List (Int × Int)) : R.Words (fromN n ps) := from_fold_words ps _ (zero_words n)
theorem fromR_words (n : Int) (ps : List (Int × Int)) : R.Words (fromR n ps) := by
  unfold fromR
  split
  · exact fromN_words _ _
  · exact R.words_of (by simp)
/-- Which pairs the rows have. -/
theorem from_fold_bit (i j : Nat) (hj : j < 64) : ∀ (ps : List (Int × Int)) (r : List Nat), (∀ p ∈ ps, okP r.length p = true) → ((R.row (ps.foldl (fun r p => r.set p.1.toNat (M.putN (R.row r p.1.toNat) p.2)) r) i).testBit j = true ↔ (R.row r i).testBit j = true ∨ ((i : Int), (j : Int)) ∈ ps)
  | [], r, _ => by simp
  | p :: ps, r, h => by
    simp only [List.foldl_cons]
    have hp : okP r.length p = true := h p (by simp)
    simp only [okP, Bool.and_eq_true, decide_eq_true_eq] at hp
    have hl : (r.set p.1.toNat (M.putN (R.row r p.1.toNat) p.2)).length = r.length := by simp
    rw [from_fold_bit i j hj ps _ (fun q hq => by rw [hl]; exact h q (by simp [hq])), set_row _ _ _ _ (by omega)]
    by_cases hi : p.1.toNat = i
    · rw [if_pos hi, M.putN_testBit _ _ _ hj, hi]
      simp only [Bool.or_eq_true, decide_eq_true_eq, List.mem_cons]
      constructor
      · rintro ((h1 | h1) | h1)
        · exact .inl h1
        · refine .inr (.inl ?_)
          rw [Prod.ext_iff]
          exact ⟨by show (i : Int) = p.1; omega, h1.symm⟩
        · exact .inr (.inr h1)
      · rintro (h1 | h1 | h1)
        · exact .inl (.inl h1)
        · rw [← h1]
          exact .inl (.inr rfl)
        · exact .inr h1
    · rw [if_neg hi]
      simp only [List.mem_cons]
      constructor
      · rintro (h1 | h1)
        · exact .inl h1
        · exact .inr (.inr h1)
      · rintro (h1 | h1 | h1)
        · exact .inl h1
        · exfalso
          rw [← h1] at hi
          simp at hi
        · exact .inr h1
theorem fromN_bit (n : Nat) (ps : List (Int × Int)) (i j : Nat) (hj : j < 64) (h : ∀ p ∈ ps, okP n p = true) : (R.row (fromN n ps) i).testBit j = true ↔ ((i : Int), (j : Int)) ∈ ps := by
  unfold fromN
  rw [from_fold_bit i j hj ps _ (by simpa using h)]
  have : R.row (List.replicate n 0) i = 0 := by
    by_cases hi : i < n
    · simp [R.row, List.getD, hi]
    · rw [R.row_out (by simp; omega)]
  rw [this]
  simp

/-- What From leaves. -/
def FromTo (n : Int) (ps : List (Int × Int)) (w : World) (e : Ending) (w' : World) : Prop :=
  ∃ a cap, e = .returned (.tuple #[.slice a (fromR n ps).length cap, .bool (fromOk n ps)]) ∧ IsWords w' a (fromR n ps).length (fromR n ps) ∧ Below w.heap.size w w'
theorem from_no {n : Int} {ps : List (Int × Int)} {w w' : World} (h : fromOk n ps = false) (hb : Below w.heap.size w w') : FromTo n ps w (.returned (.tuple #[.slice none 0 0, .bool false])) w' := by
  have e : fromR n ps = [] := by simp [fromR, h]
  exact ⟨none, 0, by rw [e, h]; rfl, by rw [e]; exact IsWords.nil _ _, hb⟩
set_option maxHeartbeats 400000 in
theorem from_unfit (n : Int) (a : Option Addr) (len cap : Nat) (w : World) (hf : R.fitsB n = false) :
    Calls Tryd.prog 37 #[.int .i64 n, .slice a len cap] w fun e w' => e = .returned (.tuple #[.slice none 0 0, .bool false]) ∧ w = w' := by
  go_enter Tryd.func37, Tryd.ntmps37
  go_wp2_with (go_at_call 69; refine (fits_any _ _).mono ?_; rintro e w' ⟨rfl, rfl⟩)
  go_ret2
  exact ⟨rfl, rfl⟩
/-- What a round of From leaves. -/
def FromRd (n : Nat) (ps : List (Int × Int)) (w : World) (g : Nat) (k : Value) (wr : World) : Prop :=
  ∃ j : Nat, j ≤ ps.length ∧ k = .int .i64 j ∧ Blk wr g 23 (words (fromN n (ps.take j))) ∧ Below w.heap.size w wr ∧ (ps.take j).all (okP n) = true
theorem has_things (n : Nat) (x : Int) (hn : n ≤ 64) : M.hasB (R.things n) x = decide (0 ≤ x ∧ x < n) := by
  rw [M.hasB_eq _ _ (R.things_lt _)]
  by_cases h0 : 0 ≤ x
  · by_cases h64 : x.toNat < 64
    · rw [R.things_bit _ _ h64, Bool.eq_iff_iff]
      simp only [Bool.and_eq_true, decide_eq_true_eq]
      omega
    · rw [M.high _ _ (R.things_lt _) (by omega), Bool.eq_iff_iff]
      simp only [Bool.and_false, decide_eq_true_eq]
      constructor
      · intro h; cases h
      · omega
  · simp [h0]
theorem take_snocP (ps : List (Int × Int)) (j : Nat) (h : j < ps.length) : ps.take (j + 1) = ps.take j ++ [ps.getD j (0, 0)] := by
  rw [List.take_succ_eq_append_getElem h]
  simp [List.getD, h]
theorem not_ok {n : Int} {ps : List (Int × Int)} {j : Nat} (h : j < ps.length) (hp : okP n (ps.getD j (0, 0)) = false) : fromOk n ps = false := by
  unfold fromOk
  have : ps.all (okP n) = false := by
    rw [List.all_eq_false]
    refine ⟨ps.getD j (0, 0), ?_, by rw [hp]; decide⟩
    simp [List.getD, h]
  rw [this]
  simp
set_option maxHeartbeats 1000000 in
theorem from_fit (n : Nat) (a : Option Addr) (len cap : Nat) (ps : List (Int × Int)) (w : World) (hl : IsPairs w a len ps) (hn : n ≤ 64) :
    Calls Tryd.prog 37 #[.int .i64 (n : Nat), .slice a len cap] w (FromTo n ps w) := by
  obtain rfl : ps.length = len := hl.1
  have hlm := hl.2.1
  have hf : R.fitsB (n : Int) = true := by simp [R.fitsB]; omega
  have HP := Lib.hid hl
  clear hl
  go_enter Tryd.func37, Tryd.ntmps37
  go_wp2_with fail
  refine (fits_any _ _).mono ?_
  rintro e w1 ⟨rfl, rfl⟩
  go_wp2_with fail
  refine (new_any n w hn).mono ?_
  rintro e w1 ⟨g, rfl, hg, hB, hb1⟩
  rw [List.length_replicate]
  go_wp2_with fail
  refine (things_any _ _ _ _).mono ?_
  rintro e w3 ⟨rfl, rfl⟩
  go_wp2
  go_loopw [9, 19] (fun _ k wr => FromRd n ps w g k wr) (fun _ k _ => ps.length - (intOf k).toNat)
  case atStart => exact ⟨0, Nat.zero_le _, rfl, hB, hb1, rfl⟩
  case round =>
    obtain ⟨j, hj, rfl, hBr, hbr, hok⟩ := hrel
    have HOK := Lib.hid hok
    clear hok
    by_cases hjl : j < ps.length
    · have hP := HP.out.below hbr
      obtain ⟨b, off, rfl, hc⟩ := hP.at (by omega)
      obtain ⟨c0, c1⟩ := hc j hjl
      have HTS := Lib.hid (take_snocP ps j hjl)
      have HNO := Lib.hid (fun h => not_ok (n := n) hjl h)
      generalize ps.getD j (0, 0) = xy at *
      obtain ⟨x, y⟩ := xy
      simp only at c0 c1
      clear hc hP
      have hh1 := has_things n x hn
      have hh2 := has_things n y hn
      have lg := hBr.lt
      cases h1 : M.hasB (R.things n) x
      · have HBAD := Lib.hid (HNO.out (by rw [h1] at hh1; simp only [okP, ← hh1]; rfl))
        clear hh1 hh2
        go_wp2_with fail
        refine (has_any _ _ _ (R.things_lt _)).mono ?_
        rintro e w3 ⟨rfl, rfl⟩
        go_wp2
        go_ret2
        exact from_no HBAD.out (hbr.alloc hbr.size _)
      · cases h2 : M.hasB (R.things n) y
        · have HBAD := Lib.hid (HNO.out (by rw [h1] at hh1; rw [h2] at hh2; simp only [okP, ← hh1, ← hh2]; rfl))
          clear hh1 hh2
          go_wp2_with fail
          refine (has_any _ _ _ (R.things_lt _)).mono ?_
          rintro e w3 ⟨rfl, rfl⟩
          go_wp2_with fail
          refine (has_any _ _ _ (R.things_lt _)).mono ?_
          rintro e w3 ⟨rfl, rfl⟩
          go_wp2
          go_ret2
          exact from_no HBAD.out (hbr.alloc hbr.size _)
        · rw [h1] at hh1
          rw [h2] at hh2
          have hx := of_decide_eq_true hh1.symm
          have hy := of_decide_eq_true hh2.symm
          obtain ⟨x, rfl⟩ : ∃ m : Nat, x = (m : Int) := ⟨x.toNat, by omega⟩
          have hxn : x < n := by omega
          have hok : okP n ((x : Int), y) = true := by simp only [okP, ← hh1, ← hh2]; rfl
          have hcur := fromN_words n (ps.take j) x
          have hnext : FromRd n ps w g (.int .i64 ((j : Int) + 1)) (((wr.setCell ⟨g, x, none⟩ (.int .u64 (M.putN (R.row (fromN n (ps.take j)) x) y : Nat))).alloc (.cells #[.int .i64 (x : Nat), .int .i64 y] 48)).drewN 1) := by
            refine ⟨j + 1, by omega, by go_num, ?_, ?_, ?_⟩
            · have := ((hBr.set x (.int .u64 (M.putN (R.row (fromN n (ps.take j)) x) y : Nat))).alloc (.cells #[.int .i64 (x : Nat), .int .i64 y] 48)).drewN 1
              rw [words_set] at this
              rw [HTS.out, fromN_snoc]
              exact this
            · exact below_drewN ((hbr.setCell hg _).alloc (hbr.setCell hg _).size _) 1
            · rw [HTS.out, List.all_append, HOK.out]
              simp [hok]
          have HNEXT := Lib.hid hnext
          have k0 : wr.cell? ⟨g, x, none⟩ = some (.int .u64 (R.row (fromN n (ps.take j)) x : Nat)) := by rw [hBr.cell, words_at _ x (by rw [fromN_len]; exact hxn)]
          have kf := hBr.free x
          have i1 : (0 : Int) ≤ (x : Int) := by omega
          have i2 : (x : Int) < (n : Int) := by omega
          have hng : g ≠ wr.heap.size := by omega
          clear hh1 hh2 hx hy hok hnext
          go_wp2_with fail
          refine (has_any _ _ _ (R.things_lt _)).mono ?_
          rintro e w3 ⟨rfl, rfl⟩
          go_wp2_with fail
          refine (has_any _ _ _ (R.things_lt _)).mono ?_
          rintro e w3 ⟨rfl, rfl⟩
          go_wp2_with fail
          go_region_with ((go_at_call 51; refine (put_any _ _ _ hcur).mono ?_; rintro e w' ⟨rfl, rfl⟩))
          all_goals (go_wp2; go_roundw)
          all_goals first | exact HNEXT.out | (simp [intOf]; omega)
    · obtain rfl : j = ps.length := by omega
      have HOK2 : Hid (fromOk n ps = true) := show fromOk n ps = true by
        have := HOK.out
        rw [List.take_of_length_le (Nat.le_refl _)] at this
        simp only [fromOk, hf, this]
        rfl
      have HR : Hid (fromR n ps = fromN n ps) := show fromR n ps = fromN n ps by
        simp [fromR, HOK2.out]
      rw [List.take_of_length_le (Nat.le_refl _)] at hBr
      go_wp2
      go_ret2
      refine ⟨some ⟨g, 0, none⟩, n, by rw [HR.out, HOK2.out, fromN_len]; rfl, ?_, hbr⟩
      rw [HR.out]
      exact hBr.words rfl (by rw [fromN_len]; omega) (fromN_words _ _)
theorem from_any (n : Int) (a : Option Addr) (len cap : Nat) (ps : List (Int × Int)) (w : World) (hl : IsPairs w a len ps) :
    Calls Tryd.prog 37 #[.int .i64 n, .slice a len cap] w (FromTo n ps w) := by
  cases hf : R.fitsB n
  · refine (from_unfit n a len cap w hf).mono ?_
    rintro e w' ⟨rfl, rfl⟩
    exact from_no (by simp [fromOk, hf]) (Below.refl _ _)
  · have h : 0 ≤ n ∧ n ≤ 64 := by simpa [R.fitsB] using hf
    obtain ⟨m, rfl⟩ : ∃ m : Nat, n = (m : Int) := ⟨n.toNat, by omega⟩
    exact from_fit m a len cap ps w hl (by omega)
end Go.Proofs.YtokehiehfgffmaaDoor
