/-
  What rel.May, New, into, Into, Count, Same, Has answer, as contracts: what the plain functions on lists of rows say; nothing that was there is turned.
-/
import Derived.Test.YtokehiehfgffmaaDoorRMem
import Derived.StillTailTactics
namespace Go.Proofs.YtokehiehfgffmaaDoor
open Go.RowKit
set_option linter.unusedVariables false
set_option linter.unusedSimpArgs false

theorem ret_tuple : Ending.returned (.tuple #[]) = .returned (.tuple #[]) := rfl
theorem enters_look : Enters 70 := enters_of Tryd.func70 (by kernel_rfl) rfl
set_option maxHeartbeats 400000 in
theorem look_any (B t r : Nat) (br : Bool) (x : Int) (w : World) (hr : r < 2 ^ 64) (ht : t < 2 ^ 64) (h : Blk w B 79 #[.int .u64 t, .bool br]) :
    Calls Tryd.prog 70 #[.pointer (some ⟨B, 0, none⟩), .int .i64 x, .int .u64 r] w fun e w' => e = .returned (.tuple #[]) ∧ w.setCell ⟨B, 1, none⟩ (.bool (br || !M.withinB r t)) = w' := by
  have c0 : w.cell? ⟨B, 0, none⟩ = some (.int .u64 t) := h.cell 0
  have c1 : w.cell? ⟨B, 1, none⟩ = some (.bool br) := h.cell 1
  have f1 := h.free 1
  clear h
  cases br
  · go_enter Tryd.func70, Tryd.ntmps70
    go_wp2_with (go_at_call 53; refine (within_any _ _ _ hr ht).mono ?_; rintro e w' ⟨rfl, rfl⟩)
    go_end0
    exact ⟨rfl, rfl⟩
  · go_enter Tryd.func70, Tryd.ntmps70
    go_wp2
    go_end0
    exact ⟨rfl, rfl⟩

/-- What May has found broken, of the rows l. -/
def broken (xs : List Nat) (l : List Nat) : Bool := l.any fun x => !M.withinB (R.row xs x) (R.things xs.length)
theorem broken_snoc (xs l : List Nat) (x : Nat) : (broken xs l || !M.withinB (R.row xs x) (R.things xs.length)) = broken xs (l ++ [x]) := by simp [broken]
theorem broken_all (xs : List Nat) (h : xs.length ≤ 64) : (!broken xs (M.bl (R.things xs.length))) = R.mayR xs := by
  rw [R.bl_things _ h, Bool.eq_iff_iff]
  simp only [broken, R.mayR, Bool.not_eq_true', List.any_eq_false, Bool.and_eq_true, decide_eq_true_eq, List.all_eq_true, List.mem_range]
  constructor
  · intro h1
    refine ⟨h, fun r hr => ?_⟩
    obtain ⟨i, hi, rfl⟩ := List.getElem_of_mem hr
    have := h1 i hi
    simp [R.row, List.getD, hi] at this
    exact this
  · rintro ⟨_, h1⟩ i hi
    simp [h1 _ (R.row_mem hi)]
set_option maxHeartbeats 400000 in
theorem may_big (a : Option Addr) (len cap : Nat) (w : World) (h : 64 < len) (hm : len ≤ 4611686018427387904) : Calls Tryd.prog 39 #[.slice a len cap] w fun e w' => e = .returned (.bool false) ∧ w = w' := by
  have hf : R.fitsB (len : Int) = false := by simp [R.fitsB]; omega
  go_enter Tryd.func39, Tryd.ntmps39
  go_wp2_with (go_at_call 69; refine (fits_any _ _).mono ?_; rintro e w' ⟨rfl, rfl⟩)
  go_ret
  exact ⟨rfl, rfl⟩
set_option maxHeartbeats 400000 in
theorem may_small (a : Option Addr) (len cap : Nat) (xs : List Nat) (w : World) (hx : IsWords w a len xs) (hT : Tb w) (h : len ≤ 64) :
    Calls Tryd.prog 39 #[.slice a len cap] w (Ans (.bool (R.mayR xs)) w) := by
  have hl : xs.length = len := hx.1
  subst hl
  have hf : R.fitsB (xs.length : Int) = true := by simp [R.fitsB]; omega
  have hin : ∀ x ∈ M.bl (R.things xs.length), x < xs.length := fun x hx => by rw [R.bl_things _ h] at hx; exact List.mem_range.1 hx
  have HA := Lib.hid (broken_all xs h)
  have HIN := Lib.hid hin
  clear hin
  go_enter Tryd.func39, Tryd.ntmps39
  go_wp2_with (first | (go_at_call 69; refine (fits_any _ _).mono ?_; rintro e w' ⟨rfl, rfl⟩) | (go_at_call 61; refine (things_any _ _ _ _).mono ?_; rintro e w' ⟨rfl, rfl⟩))
  refine (reach_each _ enters_look _ (fun l w' => Blk w' w.heap.size 79 #[.int .u64 (R.things xs.length : Nat), .bool (broken xs l)] ∧ Below w.heap.size w w') a xs.length cap _ xs _ (R.things_lt _) HIN.out ⟨Blk.new _ _ _, (Below.refl _ _).alloc (Nat.le_refl _) _⟩ (fun l w' hI => ⟨hx.below hI.2, hT.below hI.2⟩) ?_).mono ?_
  · rintro l x w' ⟨r, hr⟩ ⟨hB, hb⟩
    refine (look_any _ _ _ _ _ w' (hx.2.2.1 x) (R.things_lt _) hB).mono ?_
    rintro e w2 ⟨rfl, rfl⟩
    refine ⟨rfl, ?_, hb.setCell (Nat.le_refl _) _⟩
    have := hB.set 1 (.bool (broken xs l || !M.withinB (R.row xs x) (R.things xs.length)))
    rw [broken_snoc] at this ⊢
    exact this
  · rintro e w2 ⟨rfl, hB, hb⟩
    have c1 := hB.cell 1
    have c2 : w2.cell? ⟨w.heap.size, 1, none⟩ = some (.bool (broken xs (M.bl (R.things xs.length)))) := c1
    clear c1
    go_wp2
    go_ret
    exact ⟨ret_bool HA.out, hb⟩
theorem may_any' (a : Option Addr) (len cap : Nat) (xs : List Nat) (w : World) (hx : IsWords w a len xs) (hT : Tb w) :
    Calls Tryd.prog 39 #[.slice a len cap] w (Ans (.bool (R.mayR xs)) w) := by
  by_cases h : len ≤ 64
  · exact may_small a len cap xs w hx hT h
  · refine (may_big a len cap w (by omega) hx.2.1).mono ?_
    rintro e w' ⟨rfl, rfl⟩
    have : R.mayR xs = false := by
      have := hx.1
      simp [R.mayR]
      omega
    exact ⟨by rw [this], Below.refl _ _⟩

theorem Tryd.infoW : (Tryd.prog.info? 23).map (fun i => (i.zero, i.size, i.bytes)) = some (some (.int .u64 0), 1, 8) := by kernel_rfl
theorem made_words (n : Nat) : (madeCells (Value.int .u64 0).cells (n * 1)).toList = (words (List.replicate n 0)).toList := by
  apply List.ext_getElem
  · simp [madeCells, words]
  · intro i h1 h2
    simp [madeCells, words, Value.cells, Nat.mod_one]
theorem blk_of_own {w : World} {base t g n : Nat} {xs : List Value} (h : w.ownsRow base t 1 (.slice (some ⟨g, 0, none⟩) n n) n xs) : base ≤ g ∧ Blk w g t xs.toArray := by
  rcases h.2 with ⟨h0, _⟩ | ⟨g', cap, cur, hv, hg, hh, hn, hm, hs, ht⟩
  · cases h0
  · cases hv
    refine ⟨hg, ?_⟩
    have : cur = xs.toArray := by
      rw [← ht, List.take_of_length_le (by simp; omega)]
    unfold Blk
    rw [hh, this]
/-- A call that answers a row of its own, of n words with room for no more, and turns nothing that was there. -/
def Makes (xs : List Nat) (w : World) (e : Ending) (w' : World) : Prop :=
  ∃ g, e = .returned (.slice (some ⟨g, 0, none⟩) xs.length xs.length) ∧ w.heap.size ≤ g ∧ Blk w' g 23 (words xs) ∧ Below w.heap.size w w'
theorem Makes.gives {xs : List Nat} {w w' : World} {e : Ending} (h : Makes xs w e w') (hw : R.Words xs) (hl : xs.length ≤ 4611686018427387904) : Gives xs w e w' := by
  obtain ⟨g, rfl, hg, hB, hb⟩ := h
  exact ⟨_, _, rfl, hB.words rfl hl hw, hb⟩
set_option maxHeartbeats 400000 in
theorem new_any (n : Nat) (w : World) (hn : n ≤ 64) :
    Calls Tryd.prog 59 #[.int .i64 n] w (Makes (List.replicate n 0) w) := by
  obtain ⟨i0, hi, hz0, hz1, hz2⟩ := info_parts Tryd.infoW
  have hf : R.fitsB (n : Int) = true := by simp [R.fitsB]; omega
  have HZ := Lib.hid hz0
  have HZ1 := Lib.hid hz1
  have HZ2 := Lib.hid hz2
  have HI := Lib.hid hi
  clear hz0 hz1 hz2 hi
  go_enter Tryd.func59, Tryd.ntmps59
  go_wp2_with (first | (go_at_call 69; refine (fits_any _ _).mono ?_; rintro e w' ⟨rfl, rfl⟩) | (at_make; refine wpList_make_full _ rfl (.tmp 6) (.tmp 6) 25 rfl w.heap.size 23 i0 (.int .u64 0) 1 Tryd.underlying25 HI.out HZ.out HZ1.out .i64 .i64 (n : Int) (n : Int) n rfl rfl rfl rfl (by rw [HZ2.out]; omega) (by unfold maxLen; omega) (Nat.le_refl _) ?_; intro w1 hown1 hgrow1))
  go_ret
  rw [made_words] at hown1
  obtain ⟨hg, hB⟩ := blk_of_own hown1
  exact ⟨w.heap.size, by rw [List.length_replicate]; rfl, hg, hB, (Below.refl w.heap.size w).grown hgrow1 (Nat.le_refl _) (fun k hk => by cases hk)⟩
set_option maxHeartbeats 400000 in
theorem new_none (n : Int) (w : World) (hf : R.fitsB n = false) :
    Calls Tryd.prog 59 #[.int .i64 n] w fun e w' => e = .returned (.slice none 0 0) ∧ w = w' := by
  go_enter Tryd.func59, Tryd.ntmps59
  go_wp2_with (go_at_call 69; refine (fits_any _ _).mono ?_; rintro e w' ⟨rfl, rfl⟩)
  go_ret
  exact ⟨rfl, rfl⟩
theorem new_gives (n : Int) (w : World) : Calls Tryd.prog 59 #[.int .i64 n] w (Gives (R.newR n) w) := by
  by_cases hf : R.fitsB n = true
  · have h : 0 ≤ n ∧ n ≤ 64 := by simpa [R.fitsB] using hf
    obtain ⟨m, rfl⟩ : ∃ m : Nat, n = (m : Int) := ⟨n.toNat, by omega⟩
    have e : R.newR (m : Int) = List.replicate m 0 := by simp [R.newR, hf]
    rw [e]
    refine (new_any m w (by omega)).mono fun e' w' h' => h'.gives ?_ (by rw [List.length_replicate]; omega)
    rw [← e]
    exact R.newR_words _
  · have hf' : R.fitsB n = false := by simpa using hf
    have e : R.newR n = [] := by simp [R.newR, hf']
    rw [e]
    refine (new_none n w hf').mono ?_
    rintro e' w' ⟨rfl, rfl⟩
    exact ⟨none, 0, rfl, IsWords.nil _ _, Below.refl _ _⟩
end Go.Proofs.YtokehiehfgffmaaDoor
