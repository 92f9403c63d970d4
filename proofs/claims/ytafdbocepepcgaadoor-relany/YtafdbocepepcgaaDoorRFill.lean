/-
  What rel.Keep, Or, And, Less, Then and Back answer, as contracts.
-/
import Derived.Test.YtafdbocepepcgaaDoorRInto
import Derived.Deep.RegionHeld3
namespace Go.Proofs.YtafdbocepepcgaaDoor
open Go.RowKit
set_option linter.unusedVariables false
set_option linter.unusedSimpArgs false

/-- What is there while rows are filled: the receiver at block B, the rows made at block g; nothing that was there before has turned. -/
def Filling (w0 : World) (B g : Nat) (t : TypeId) (cs : Array Value) (xs : List Nat) (w : World) : Prop :=
  Blk w B t cs ∧ Blk w g 23 (words xs) ∧ Below w0.heap.size w0 w ∧ w0.heap.size ≤ B ∧ w0.heap.size ≤ g ∧ B ≠ g
theorem Filling.store {w0 w : World} {B g : Nat} {t : TypeId} {cs : Array Value} {xs : List Nat} (h : Filling w0 B g t cs xs w) (i v n : Nat) : Filling w0 B g t cs (xs.set i v) ((w.setCell ⟨g, i, none⟩ (.int .u64 (v : Nat))).drewN n) := by
  obtain ⟨h1, h2, h3, h4, h5, h6⟩ := h
  refine ⟨(h1.far (p := ⟨g, i, none⟩) h6 _).drewN n, ?_, below_drewN (h3.setCell h5 _) n, h4, h5, h6⟩
  have := h2.set i (.int .u64 (v : Nat))
  rw [words_set] at this
  exact this.drewN n

theorem enters_kept : Enters 51 := enters_of Tryd.func51 (by kernel_rfl) rfl
set_option maxHeartbeats 400000 in
theorem kept_any (B g x s r n : Nat) (w : World) (hr : r < 2 ^ 64) (hs : s < 2 ^ 64) (xs : List Nat) (h : Blk w B 69 #[.int .u64 s, .slice (some ⟨g, 0, none⟩) n n]) (hg : Blk w g 23 (words xs)) (hn : xs.length = n) (hx : x < n) (hn64 : n ≤ 64) :
    Calls Tryd.prog 51 #[.pointer (some ⟨B, 0, none⟩), .int .i64 (x : Nat), .int .u64 r] w (Wrote ⟨g, x, none⟩ (.int .u64 (r &&& s : Nat)) w) := by
  have c0 : w.cell? ⟨B, 0, none⟩ = some (.int .u64 s) := h.cell 0
  have c1 : w.cell? ⟨B, 1, none⟩ = some (.slice (some ⟨g, 0, none⟩) n n) := h.cell 1
  have c2 : w.cell? ⟨g, x, none⟩ = some (.int .u64 (R.row xs x : Nat)) := by rw [hg.cell, words_at xs x (by omega)]
  have f2 := hg.free x
  have hb := bits_and_u64_nat r s hr hs
  have i1 : (0 : Int) ≤ (x : Int) := by omega
  have i2 : (x : Int) < (n : Int) := by omega
  clear h hg hn
  go_enter Tryd.func51, Tryd.ntmps51
  go_wp2
  go_region
  all_goals (go_end0; exact ⟨rfl, 1, rfl⟩)

theorem keep_full (xs : List Nat) (s : Nat) (h : xs.length ≤ 64) (hm : R.mayR xs = true) : R.part xs.length (fun x => R.row xs x &&& s) (M.bl (s &&& R.things xs.length)) = R.keepR xs s := by
  unfold R.keepR R.part
  rw [if_pos hm]
  apply R.tab_congr
  intro i hi
  have e : i ∈ M.bl (s &&& R.things xs.length) ↔ s.testBit i = true := by
    rw [M.mem_bl, Nat.testBit_and, R.things_bit _ _ (by omega)]
    simp [hi]
    intro _
    omega
  by_cases hb : s.testBit i = true
  · rw [if_pos (e.2 hb), if_pos hb]
  · rw [if_neg (fun h => hb (e.1 h)), if_neg hb]
set_option maxHeartbeats 400000 in
theorem keepR_any (a : Option Addr) (len cap s : Nat) (xs : List Nat) (w : World) (hx : IsWords w a len xs) (hT : Tb w) (hs : s < 2 ^ 64) :
    Calls Tryd.prog 27 #[.slice a len cap, .int .u64 s] w (Gives (R.keepR xs s) w) := by
  obtain rfl : xs.length = len := hx.1
  have HM := may_any' a xs.length cap xs w hx hT
  cases hm : R.mayR xs
  · have e0 : R.keepR xs s = [] := by simp [R.keepR, hm]
    rw [e0]
    rw [hm] at HM
    have HM := Lib.hid HM
    go_enter Tryd.func27, Tryd.ntmps27
    go_wp2_with fail
    refine HM.out.mono ?_
    rintro e w' ⟨rfl, hb⟩
    go_wp2
    go_ret
    exact ⟨none, 0, rfl, IsWords.nil _ _, hb⟩
  · have hl := R.may_len hm
    have HK := Lib.hid (keep_full xs s hl hm)
    have hw := hx.2.2.1
    have HW := Lib.hid (R.keepR_words (s := s) hw)
    rw [hm] at HM
    have HM := Lib.hid HM
    have hand := bits_and_u64_nat s (R.things xs.length) hs (R.things_lt _)
    have hlt : s &&& R.things xs.length < 2 ^ 64 := Nat.lt_of_le_of_lt Nat.and_le_left hs
    go_enter Tryd.func27, Tryd.ntmps27
    go_wp2_with fail
    refine HM.out.mono ?_
    rintro e w1 ⟨rfl, hb1⟩
    go_wp2_with fail
    refine (new_any xs.length w1 hl).mono ?_
    rintro e w2 ⟨g, rfl, hg, hB, hb2⟩
    rw [List.length_replicate]
    go_wp2_with fail
    refine (things_any _ _ _ _).mono ?_
    rintro e w3 ⟨rfl, rfl⟩
    go_wp2_with fail
    have hb12 : Below w.heap.size w w2 := hb1.trans (hb2.mono hb1.size)
    have hne : w2.heap.size ≠ g := by have := hB.lt; omega
    refine (reach_each _ enters_kept _ (fun l w' => Filling w w2.heap.size g 69 #[.int .u64 s, .slice (some ⟨g, 0, none⟩) xs.length xs.length] (R.part xs.length (fun x => R.row xs x &&& s) l) w') a xs.length cap _ xs _ hlt in_things ⟨Blk.new _ _ _, by rw [R.part_nil]; exact hB.alloc _, hb12.alloc hb12.size _, hb12.size, Nat.le_trans hb1.size hg, hne⟩ (fun l w' hI => ⟨hx.below hI.2.2.1, hT.below hI.2.2.1⟩) ?_).mono ?_
    · rintro l x w' ⟨r, hr⟩ hI
      have hxn : x < xs.length := in_things x (by rw [← hr]; simp)
      refine (kept_any _ _ _ _ _ _ w' (hw x) hs _ hI.1 hI.2.1 (R.part_len _ _ _) hxn hl).mono ?_
      rintro e w3 ⟨rfl, n, rfl⟩
      refine ⟨rfl, ?_⟩
      have := hI.store x (R.row xs x &&& s) n
      rw [R.part_snoc (f := fun x => R.row xs x &&& s)] at this
      exact this
    · rintro e w3 ⟨rfl, hI⟩
      rw [HK.out] at hI
      have c1 : w3.cell? ⟨w2.heap.size, 1, none⟩ = some (.slice (some ⟨g, 0, none⟩) xs.length xs.length) := hI.1.cell 1
      have hlen : (R.keepR xs s).length = xs.length := by simp [R.keepR, hm, R.tab_len]
      have HLEN := Lib.hid hlen
      clear hlen
      go_wp2
      go_ret
      refine ⟨some ⟨g, 0, none⟩, xs.length, by rw [HLEN.out]; rfl, ?_, hI.2.2.1⟩
      exact hI.2.1.words rfl (by rw [HLEN.out]; omega) HW.out

/-- A method that makes memory, then writes one cell, and answers nothing. -/
def WroteB (a : Addr) (v : Value) (w : World) (e : Ending) (w' : World) : Prop := e = .returned (.tuple #[]) ∧ ∃ w1 n, Below w.heap.size w w1 ∧ w' = (w1.setCell a v).drewN n
theorem Wrote.b {a : Addr} {v : Value} {w : World} {e : Ending} {w' : World} (h : Wrote a v w e w') : WroteB a v w e w' := by
  obtain ⟨he, n, hw⟩ := h
  exact ⟨he, w, n, Below.refl _ _, hw⟩
theorem Filling.below {w0 w w1 : World} {B g : Nat} {t : TypeId} {cs : Array Value} {xs : List Nat} (h : Filling w0 B g t cs xs w) (hb : Below w.heap.size w w1) : Filling w0 B g t cs xs w1 := by
  obtain ⟨h1, h2, h3, h4, h5, h6⟩ := h
  exact ⟨h1.below hb h1.lt, h2.below hb h2.lt, h3.trans (hb.mono h3.size), h4, h5, h6⟩

theorem enters_or : Enters 48 := enters_of Tryd.func48 (by kernel_rfl) rfl
set_option maxHeartbeats 400000 in
theorem both_or_any (B g x r n co : Nat) (o : Option Addr) (ys : List Nat) (w : World) (hr : r < 2 ^ 64) (xs : List Nat) (h : Blk w B 65 #[.slice o n co, .slice (some ⟨g, 0, none⟩) n n]) (hg : Blk w g 23 (words xs)) (hn : xs.length = n) (hx : x < n) (hn64 : n ≤ 64) (hy : IsWords w o n ys) :
    Calls Tryd.prog 48 #[.pointer (some ⟨B, 0, none⟩), .int .i64 (x : Nat), .int .u64 r] w (Wrote ⟨g, x, none⟩ (.int .u64 (r ||| R.row ys x : Nat)) w) := by
  have c0 : w.cell? ⟨B, 0, none⟩ = some (.slice o n co) := h.cell 0
  have c1 : w.cell? ⟨B, 1, none⟩ = some (.slice (some ⟨g, 0, none⟩) n n) := h.cell 1
  have c2 : w.cell? ⟨g, x, none⟩ = some (.int .u64 (R.row xs x : Nat)) := by rw [hg.cell, words_at xs x (by omega)]
  have f2 := hg.free x
  have hb := bits_or_u64_nat r (R.row ys x) hr (hy.2.2.1 x)
  obtain ⟨b, off, rfl, hc⟩ := hy.at (by omega)
  have c3 := hc x hx
  have i1 : (0 : Int) ≤ (x : Int) := by omega
  have i2 : (x : Int) < (n : Int) := by omega
  clear h hg hn hc hy
  go_enter Tryd.func48, Tryd.ntmps48
  go_wp2
  go_region
  all_goals (go_end0; exact ⟨rfl, 1, rfl⟩)

theorem enters_and : Enters 47 := enters_of Tryd.func47 (by kernel_rfl) rfl
set_option maxHeartbeats 400000 in
theorem both_and_any (B g x r n co : Nat) (o : Option Addr) (ys : List Nat) (w : World) (hr : r < 2 ^ 64) (xs : List Nat) (h : Blk w B 65 #[.slice o n co, .slice (some ⟨g, 0, none⟩) n n]) (hg : Blk w g 23 (words xs)) (hn : xs.length = n) (hx : x < n) (hn64 : n ≤ 64) (hy : IsWords w o n ys) :
    Calls Tryd.prog 47 #[.pointer (some ⟨B, 0, none⟩), .int .i64 (x : Nat), .int .u64 r] w (Wrote ⟨g, x, none⟩ (.int .u64 (r &&& R.row ys x : Nat)) w) := by
  have c0 : w.cell? ⟨B, 0, none⟩ = some (.slice o n co) := h.cell 0
  have c1 : w.cell? ⟨B, 1, none⟩ = some (.slice (some ⟨g, 0, none⟩) n n) := h.cell 1
  have c2 : w.cell? ⟨g, x, none⟩ = some (.int .u64 (R.row xs x : Nat)) := by rw [hg.cell, words_at xs x (by omega)]
  have f2 := hg.free x
  have hb := bits_and_u64_nat r (R.row ys x) hr (hy.2.2.1 x)
  obtain ⟨b, off, rfl, hc⟩ := hy.at (by omega)
  have c3 := hc x hx
  have i1 : (0 : Int) ≤ (x : Int) := by omega
  have i2 : (x : Int) < (n : Int) := by omega
  clear h hg hn hc hy
  go_enter Tryd.func47, Tryd.ntmps47
  go_wp2
  go_region
  all_goals (go_end0; exact ⟨rfl, 1, rfl⟩)

theorem enters_less : Enters 49 := enters_of Tryd.func49 (by kernel_rfl) rfl
set_option maxHeartbeats 400000 in
theorem both_less_any (B g x r n co : Nat) (o : Option Addr) (ys : List Nat) (w : World) (hr : r < 2 ^ 64) (xs : List Nat) (h : Blk w B 65 #[.slice o n co, .slice (some ⟨g, 0, none⟩) n n]) (hg : Blk w g 23 (words xs)) (hn : xs.length = n) (hx : x < n) (hn64 : n ≤ 64) (hy : IsWords w o n ys) :
    Calls Tryd.prog 49 #[.pointer (some ⟨B, 0, none⟩), .int .i64 (x : Nat), .int .u64 r] w (Wrote ⟨g, x, none⟩ (.int .u64 (M.lessN r (R.row ys x) : Nat)) w) := by
  have c0 : w.cell? ⟨B, 0, none⟩ = some (.slice o n co) := h.cell 0
  have c1 : w.cell? ⟨B, 1, none⟩ = some (.slice (some ⟨g, 0, none⟩) n n) := h.cell 1
  have c2 : w.cell? ⟨g, x, none⟩ = some (.int .u64 (R.row xs x : Nat)) := by rw [hg.cell, words_at xs x (by omega)]
  have f2 := hg.free x
  have hb := u64_andNot_nat r (R.row ys x) hr (hy.2.2.1 x)
  obtain ⟨b, off, rfl, hc⟩ := hy.at (by omega)
  have c3 := hc x hx
  have i1 : (0 : Int) ≤ (x : Int) := by omega
  have i2 : (x : Int) < (n : Int) := by omega
  clear h hg hn hc hy
  go_enter Tryd.func49, Tryd.ntmps49
  go_wp2
  go_region
  all_goals (go_end0; exact ⟨rfl, 1, rfl⟩)

theorem enters_then : Enters 53 := enters_of Tryd.func53 (by kernel_rfl) rfl
set_option maxHeartbeats 400000 in
theorem both_then_any (B g x r n co : Nat) (o : Option Addr) (ys : List Nat) (w : World) (hr : r < 2 ^ 64) (xs : List Nat) (h : Blk w B 65 #[.slice o n co, .slice (some ⟨g, 0, none⟩) n n]) (hg : Blk w g 23 (words xs)) (hn : xs.length = n) (hx : x < n) (hn64 : n ≤ 64) (hy : IsWords w o n ys) (hT : Tb w) (hin : ∀ y ∈ M.bl r, y < n) :
    Calls Tryd.prog 53 #[.pointer (some ⟨B, 0, none⟩), .int .i64 (x : Nat), .int .u64 r] w (WroteB ⟨g, x, none⟩ (.int .u64 (R.intoN ys r : Nat)) w) := by
  have c0 : w.cell? ⟨B, 0, none⟩ = some (.slice o n co) := h.cell 0
  have c1 : w.cell? ⟨B, 1, none⟩ = some (.slice (some ⟨g, 0, none⟩) n n) := h.cell 1
  have c2 : w.cell? ⟨g, x, none⟩ = some (.int .u64 (R.row xs x : Nat)) := by rw [hg.cell, words_at xs x (by omega)]
  have f2 := hg.free x
  have i1 : (0 : Int) ≤ (x : Int) := by omega
  have i2 : (x : Int) < (n : Int) := by omega
  have lB := h.lt
  have lg := hg.lt
  have HIN := Lib.hid hin
  clear h hg hn hin
  go_enter Tryd.func53, Tryd.ntmps53
  go_wp2
  go_region_with ((go_at_call 45; refine (into_any o n co r ys _ (hy.drewN 1) (hT.drewN 1) hr HIN.out).mono ?_; rintro e w1 ⟨rfl, hb1⟩; have hb1 : Below w.heap.size w w1 := (below_drewN (Below.refl _ _) 1).trans hb1; have k1 := (hb1.cell (p := ⟨B, 1, none⟩) lB).trans c1; have k2 := (hb1.cell (p := ⟨g, x, none⟩) lg).trans c2; have k3 := (hb1.frozen (p := ⟨g, x, none⟩) lg).trans f2))
  all_goals (go_end0; exact ⟨rfl, _, 0, hb1, rfl⟩)
end Go.Proofs.YtafdbocepepcgaaDoor
