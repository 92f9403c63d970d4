/-
  What the functions of package bits that make or read lists answer, as contracts: add appends one number to what the receiver holds; each hands the numbers of a set on, rising; List makes the list of them; Of makes the set of a list.
-/
import Derived.Test.YtokehiehfgffmaaDoorBLeaf
import Derived.Deep.DeepAppendRoom
import Derived.Lib.Hide
namespace Go.Proofs.YtokehiehfgffmaaDoor
open Go.RowKit

theorem Tryd.info3 : (Tryd.prog.info? 3).map (fun i => (i.zero, i.size, i.bytes)) = some (some (.int .i64 0), 1, 8) := by kernel_rfl

def ints (xs : List Int) : List Value := xs.map (Value.int .i64)

/-- What a receiver at block B holds while it is filled: the numbers xs, in a row of the call's own at block g, with room for cap. -/
structure Fill (base g B cap : Nat) (xs : List Int) (w : World) : Prop where
  cell : w.heap[B]? = some (.cells #[.slice (some ⟨g, 0, none⟩) xs.length cap] 83 (0, 0))
  own : w.ownsRow base 3 1 (.slice (some ⟨g, 0, none⟩) xs.length cap) xs.length (ints xs)

theorem Fill.ne {base g B cap : Nat} {xs : List Int} {w : World} (h : Fill base g B cap xs w) : g ≠ B := by
  rintro rfl
  rcases h.own.2 with ⟨h0, _⟩ | ⟨g', cap', cur, hv, hg, hh, r⟩
  · cases h0
  · cases hv
    rw [h.cell] at hh
    simp at hh

set_option maxHeartbeats 400000 in
theorem add_any (base g B cap : Nat) (xs : List Int) (i : Int) (w : World) (hB : base ≤ B) (hbase : base ≤ w.heap.size) (h : Fill base g B cap xs w) (hroom : xs.length + 1 ≤ cap) :
    Calls Tryd.prog 77 #[.pointer (some ⟨B, 0, none⟩), .int .i64 i] w fun e w' => e = .returned (.tuple #[]) ∧ Fill base g B cap (xs ++ [i]) w' ∧ Below base w w' := by
  obtain ⟨i0, hi, hz0, hz1, hz2⟩ := info_parts Tryd.info3
  have hBlt : B < w.heap.size := lt_of_block h.cell
  have hc := cell_of_one h.cell
  have hne := h.ne
  go_enter Tryd.func77, Tryd.ntmps77
  go_wp2_with (at_builtin; refine wpList_append_own_spare _ rfl (.tmp 8) (.tmp 10) 28 rfl base 3 i0 1 Tryd.underlying28 hi hz1 g xs.length cap _ rfl (h.own.alloc _) ⟨w.heap.size, 0, none⟩ 1 1 [.int .i64 i] rfl rfl (cell_one_new _ _ _) (by intro u hu; simp at hu; subst hu; rfl) hroom ?_; intro w1 hown1 hgrow1; have hb1 : w1.heap[B]? = some (.cells #[.slice (some ⟨g, 0, none⟩) xs.length cap] 83 (0, 0)) := (by rw [hgrow1.block B (by simp; omega) (by simp; omega), Below.heap_alloc _ _ _ hBlt]; exact h.cell); have hc1 := cell_of_one hb1; have hf1 := free_of_one hb1)
  go_end0
  have hl : (xs ++ [i]).length = xs.length + 1 := by simp
  refine ⟨rfl, ⟨?_, ?_⟩, ?_⟩
  · rw [hl]
    exact one_setCell hb1
  · rw [hl]
    refine ownsRow_setCell_other (a := ⟨B, 0, none⟩) ?_ (by simp [Value.ownBlock]; omega) _
    simpa [ints] using hown1
  · exact (((Below.refl base w).alloc hbase _).grown hgrow1 (by simp; omega) (fun k hk => by
      cases hk
      exact (h.own.lt g rfl).1)).setCell hB _

/-- What a round of each leaves. -/
def Each (base g B cap s : Nat) (w0 : World) (t : Value) (w : World) : Prop :=
  ∃ (r : Nat) (xs : List Int), t = .int .u64 r ∧ r < 2 ^ 64 ∧ xs ++ M.bi r = M.bi s ∧ Fill base g B cap xs w ∧ Below base w0 w ∧ Tab w

set_option maxHeartbeats 400000 in
theorem each_any (base g B cap s : Nat) (w : World) (hs : s < 2 ^ 64) (hB : base ≤ B) (hbase : base ≤ w.heap.size) (hg : 0 < base) (h : Fill base g B cap [] w) (hcap : M.cnt s ≤ cap) (hT : Tab w) :
    Calls Tryd.prog 76 #[.int .u64 s, .func (.func 77) #[.pointer (some ⟨B, 0, none⟩)] #[]] w fun e w' => e = .returned (.tuple #[]) ∧ Fill base g B cap (M.bi s) w' ∧ Below base w w' ∧ Tab w' := by
  go_enter Tryd.func76, Tryd.ntmps76
  go_wp2
  go_loopw [0] (fun t wr => Each base g B cap s w t wr) (fun t _ => (intOf t).toNat)
  case atStart => exact ⟨s, [], rfl, hs, rfl, h, Below.refl _ _, hT⟩
  case round =>
    obtain ⟨r, xs, rfl, hr, hx, hF, hbel, hTr⟩ := hrel
    have HX := Lib.hid hx
    clear hx
    by_cases h0 : r = 0
    · subst h0
      go_wp2
      go_end0
      have e : xs = M.bi s := by
        have := HX.out
        rw [M.bi_zero, List.append_nil] at this
        exact this
      subst e
      exact ⟨rfl, hF, hbel, hTr⟩
    · have hb : ((r : Int) == 0) = false := by simp; omega
      have hb2 : ((r : Int) != 0) = true := by simp; omega
      have hroom : xs.length + 1 ≤ cap := by
        have e := congrArg List.length HX.out
        rw [M.bi_cons r h0 hr, M.bi_len] at e
        simp at e
        omega
      have hsz : base ≤ wr.heap.size := Nat.le_trans hbase hbel.size
      go_wp2_with fail
      refine (tz_any r _ h0 hr hTr).mono ?_
      rintro e w' ⟨rfl, rfl⟩
      go_wp2_with fail
      refine (add_any base g B cap xs _ _ hB hsz hF hroom).mono ?_
      rintro e w1 ⟨rfl, hF1, hb1⟩
      go_wp2_with fail
      refine (drop_any r _ _ hr).mono ?_
      rintro e w2 ⟨rfl, rfl⟩
      go_wp2
      go_roundw
      case rel =>
        refine ⟨M.dropN r (Lib.ctz 64 r : Nat), xs ++ [(Lib.ctz 64 r : Int)], rfl, M.dropN_lt _ _ hr, ?_, hF1, hbel.trans hb1, fun j hj => ?_⟩
        · rw [← HX.out, M.bi_cons r h0 hr]
          simp
        · rw [hb1.cell (p := ⟨0, j, none⟩) hg]
          exact hTr j hj
      case measure =>
        have := M.dropN_less r h0 hr
        simp only [intOf]
        omega

/-- What List leaves: a new list of the set's numbers, rising. -/
def Listed (s : Nat) (w : World) (e : Ending) (w' : World) : Prop :=
  ∃ g cap, e = .returned (.slice (some ⟨g, 0, none⟩) (M.cnt s) cap) ∧ w'.ownsRow w.heap.size 3 1 (.slice (some ⟨g, 0, none⟩) (M.cnt s) cap) (M.cnt s) (ints (M.bi s)) ∧ Below w.heap.size w w' ∧ Tab w'

set_option maxHeartbeats 400000 in
theorem list_any (s : Nat) (w : World) (hs : s < 2 ^ 64) (hg : 0 < w.heap.size) (hT : Tab w) :
    Calls Tryd.prog 52 #[.int .u64 s] w (Listed s w) := by
  obtain ⟨i0, hi, hz0, hz1, hz2⟩ := info_parts Tryd.info3
  have hc64 := M.cnt_le s
  go_enter Tryd.func52, Tryd.ntmps52
  go_wp2_with fail
  refine (count_any s _ hs).mono ?_
  rintro e w' ⟨rfl, rfl⟩
  go_wp2_with (at_make; refine wpList_make_own _ rfl (.const (.int .i64 0)) (.tmp 5) 28 rfl w.heap.size 3 i0 (.int .i64 0) 1 Tryd.underlying28 hi hz0 hz1 .i64 .i64 (M.cnt s : Int) (M.cnt s) rfl rfl rfl (by rw [hz2]; omega) (by unfold maxLen; omega) (Nat.le_refl _) ?_; intro w1 hown1 hgrow1)
  have hb1 : Below w.heap.size w (w1.alloc (.cells #[.slice (some ⟨w.heap.size, 0, none⟩) 0 (M.cnt s)] 83)) :=
    ((Below.refl w.heap.size w).grown hgrow1 (Nat.le_refl _) (fun k hk => by cases hk)).alloc hgrow1.size _
  have hF : Fill w.heap.size w.heap.size w1.heap.size (M.cnt s) [] (w1.alloc (.cells #[.slice (some ⟨w.heap.size, 0, none⟩) 0 (M.cnt s)] 83)) :=
    ⟨heap_alloc_new _ _, hown1.alloc _⟩
  refine (each_any w.heap.size w.heap.size w1.heap.size (M.cnt s) s _ hs hgrow1.size hb1.size hg hF (Nat.le_refl _) (hT.below hg hb1)).mono ?_
  rintro e w2 ⟨rfl, hF2, hb2, hT2⟩
  have hc2 := cell_of_one hF2.cell
  rw [M.bi_len] at hc2
  have hown2 := hF2.own
  rw [M.bi_len] at hown2
  go_wp2
  go_ret
  exact ⟨w.heap.size, M.cnt s, rfl, hown2, hb1.trans hb2, hT2⟩

/-- The numbers of a row of the call's own, cell by cell. -/
theorem own_cells {w : World} {base g n cap : Nat} {xs : List Int} (h : w.ownsRow base 3 1 (.slice (some ⟨g, 0, none⟩) n cap) n (ints xs)) (i : Nat) (hi : i < xs.length) : w.cell? ⟨g, 0 + i, none⟩ = some (.int .i64 (xs.getD i 0)) := by
  have h := h.cells (g := g) rfl i (.int .i64 (xs.getD i 0)) (by simp [ints, List.getD, hi])
  by_cases h0 : i = 0
  · subst h0
    simpa [Addr.add] using h
  · simpa [Addr.add, h0] using h
/-- A slice of ints that came in, or was made: its numbers are xs. Of an empty one's address nothing is known. -/
def IsInts (w : World) (a : Option Addr) (len : Nat) (xs : List Int) : Prop :=
  xs.length = len ∧ len ≤ 4611686018427387904 ∧ (len = 0 ∨ ∃ b off, a = some ⟨b, off, none⟩ ∧ ∀ i, i < len → w.cell? ⟨b, off + i, none⟩ = some (.int .i64 (xs.getD i 0)))

theorem IsInts.below {w w' : World} {a : Option Addr} {len : Nat} {xs : List Int} (h : IsInts w a len xs) (hb : Below w.heap.size w w') : IsInts w' a len xs := by
  obtain ⟨hl, hm, h | ⟨b, off, rfl, hc⟩⟩ := h
  · exact ⟨hl, hm, .inl h⟩
  · refine ⟨hl, hm, .inr ⟨b, off, rfl, fun i hi => ?_⟩⟩
    have h0 := hc i hi
    rw [hb.cell (p := ⟨b, off + i, none⟩) (World.block_lt_of_cell? w _ h0)]
    exact h0

/-- The set of the numbers of a list. -/
def ofN (xs : List Int) : Nat := xs.foldl M.putN 0
theorem ofN_lt (xs : List Int) : ofN xs < 2 ^ 64 := by
  have : ∀ (xs : List Int) (s : Nat), s < 2 ^ 64 → xs.foldl M.putN s < 2 ^ 64 := by
    intro xs
    induction xs with
    | nil => intro s h; exact h
    | cons x xs ih => intro s h; exact ih _ (M.putN_lt s x h)
  exact this xs 0 (by decide)
theorem ofN_snoc (xs : List Int) (i : Int) : ofN (xs ++ [i]) = M.putN (ofN xs) i := by simp [ofN, List.foldl_append]

theorem take_succ_getD (xs : List Int) (j : Nat) (h : j < xs.length) : xs.take (j + 1) = xs.take j ++ [xs[j]?.getD 0] := by
  rw [List.take_succ_eq_append_getElem h]
  simp [h]
end Go.Proofs.YtokehiehfgffmaaDoor
