/-
  What rel.Keep, Or, And, Less, Then and Back answer, as contracts.
-/
import Derived.Test.YtokehiehfgffmaaDoorRInto
import Derived.Deep.RegionHeld3
namespace Go.Proofs.YtokehiehfgffmaaDoor
open Go.RowKit
set_option linter.unusedVariables false
set_option linter.unusedSimpArgs false

/-- What is there while rows are filled: the receiver at block B, the rows made at block g; nothing that was there before has turned. -/
def Filling (w0 : World) (B g : Nat) (t : TypeId) (cs : Array Value) (xs : List Nat) (w : World) : Prop :=
  Blk w B t cs ∧ Blk w g 23 (words xs) ∧ Below w0.heap.size w0 w ∧ w0.heap.size ≤ B ∧ w0.heap.size ≤ g ∧ B ≠ g
theorem Filling.store {w0 w : World} {B g : Nat} {t : TypeId} {cs : Array Value} {xs : List Nat} (h : Filling w0 B g t cs xs w) (i v n : Nat) : Filling w0 B g t cs (xs.set i v) ((w.setCell ⟨g, i, none⟩ (.int .u64 (v : Nat))).drewN n) := by
  obtain ⟨h1, h2, h3, h4, h5, h6⟩ := h
  refine ⟨(h1.far (p := ⟨g, i, none⟩) h6 _).drewN n, ?_, below_drewN (h3.setCell h5 _) n, h4, h5, h6⟩
  have := h2.set i (.int .u64 (v : Nat))
  rw [words_set] at this
  exact this.drewN n

theorem keep_full (xs : List Nat) (s : Nat) (h : xs.length ≤ 64) (hm : R.mayR xs = true) : R.part xs.length (fun x => R.row xs x &&& s) (M.bl (s &&& R.things xs.length)) = R.keepR xs s := by
  unfold R.keepR R.part
  rw [if_pos hm]
  apply R.tab_congr
  intro i hi
  have e : i ∈ M.bl (s &&& R.things xs.length) ↔ s.testBit i = true := by
    rw [M.mem_bl, Nat.testBit_and, R.things_bit _ _ (by omega)]
    simp [hi]
    intro _
    omega
  by_cases hb : s.testBit i = true
  · rw [if_pos (e.2 hb), if_pos hb]
  · rw [if_neg (fun h => hb (e.1 h)), if_neg hb]
/-- A method that makes memory, then writes one cell, and answers nothing. -/
def WroteB (a : Addr) (v : Value) (w : World) (e : Ending) (w' : World) : Prop := e = .returned (.tuple #[]) ∧ ∃ w1 n, Below w.heap.size w w1 ∧ w' = (w1.setCell a v).drewN n
theorem Wrote.b {a : Addr} {v : Value} {w : World} {e : Ending} {w' : World} (h : Wrote a v w e w') : WroteB a v w e w' := by
  obtain ⟨he, n, hw⟩ := h
  exact ⟨he, w, n, Below.refl _ _, hw⟩
theorem Filling.below {w0 w w1 : World} {B g : Nat} {t : TypeId} {cs : Array Value} {xs : List Nat} (h : Filling w0 B g t cs xs w) (hb : Below w.heap.size w w1) : Filling w0 B g t cs xs w1 := by
  obtain ⟨h1, h2, h3, h4, h5, h6⟩ := h
  exact ⟨h1.below hb h1.lt, h2.below hb h2.lt, h3.trans (hb.mono h3.size), h4, h5, h6⟩

theorem enters_or : Enters 62 := enters_of Tryd.func62 (by kernel_rfl) rfl
set_option maxHeartbeats 400000 in
theorem both_or_any (B g x r n co : Nat) (o : Option Addr) (ys : List Nat) (w : World) (hr : r < 2 ^ 64) (xs : List Nat) (h : Blk w B 70 #[.slice o n co, .slice (some ⟨g, 0, none⟩) n n]) (hg : Blk w g 23 (words xs)) (hn : xs.length = n) (hx : x < n) (hn64 : n ≤ 64) (hy : IsWords w o n ys) :
    Calls Tryd.prog 62 #[.pointer (some ⟨B, 0, none⟩), .int .i64 (x : Nat), .int .u64 r] w (Wrote ⟨g, x, none⟩ (.int .u64 (r ||| R.row ys x : Nat)) w) := by
  have c0 : w.cell? ⟨B, 0, none⟩ = some (.slice o n co) := h.cell 0
  have c1 : w.cell? ⟨B, 1, none⟩ = some (.slice (some ⟨g, 0, none⟩) n n) := h.cell 1
  have c2 : w.cell? ⟨g, x, none⟩ = some (.int .u64 (R.row xs x : Nat)) := by rw [hg.cell, words_at xs x (by omega)]
  have f2 := hg.free x
  have hb := bits_or_u64_nat r (R.row ys x) hr (hy.2.2.1 x)
  obtain ⟨b, off, rfl, hc⟩ := hy.at (by omega)
  have c3 := hc x hx
  have i1 : (0 : Int) ≤ (x : Int) := by omega
  have i2 : (x : Int) < (n : Int) := by omega
  clear h hg hn hc hy
  go_enter Tryd.func62, Tryd.ntmps62
  go_wp2
  go_region
  all_goals (go_end0; exact ⟨rfl, 1, rfl⟩)

theorem enters_less : Enters 65 := enters_of Tryd.func65 (by kernel_rfl) rfl
set_option maxHeartbeats 400000 in
theorem both_less_any (B g x r n co : Nat) (o : Option Addr) (ys : List Nat) (w : World) (hr : r < 2 ^ 64) (xs : List Nat) (h : Blk w B 70 #[.slice o n co, .slice (some ⟨g, 0, none⟩) n n]) (hg : Blk w g 23 (words xs)) (hn : xs.length = n) (hx : x < n) (hn64 : n ≤ 64) (hy : IsWords w o n ys) :
    Calls Tryd.prog 65 #[.pointer (some ⟨B, 0, none⟩), .int .i64 (x : Nat), .int .u64 r] w (Wrote ⟨g, x, none⟩ (.int .u64 (M.lessN r (R.row ys x) : Nat)) w) := by
  have c0 : w.cell? ⟨B, 0, none⟩ = some (.slice o n co) := h.cell 0
  have c1 : w.cell? ⟨B, 1, none⟩ = some (.slice (some ⟨g, 0, none⟩) n n) := h.cell 1
  have c2 : w.cell? ⟨g, x, none⟩ = some (.int .u64 (R.row xs x : Nat)) := by rw [hg.cell, words_at xs x (by omega)]
  have f2 := hg.free x
  have hb := u64_andNot_nat r (R.row ys x) hr (hy.2.2.1 x)
  obtain ⟨b, off, rfl, hc⟩ := hy.at (by omega)
  have c3 := hc x hx
  have i1 : (0 : Int) ≤ (x : Int) := by omega
  have i2 : (x : Int) < (n : Int) := by omega
  clear h hg hn hc hy
  go_enter Tryd.func65, Tryd.ntmps65
  go_wp2
  go_region
  all_goals (go_end0; exact ⟨rfl, 1, rfl⟩)

theorem enters_then : Enters 63 := enters_of Tryd.func63 (by kernel_rfl) rfl
set_option maxHeartbeats 400000 in
theorem both_then_any (B g x r n co : Nat) (o : Option Addr) (ys : List Nat) (w : World) (hr : r < 2 ^ 64) (xs : List Nat) (h : Blk w B 70 #[.slice o n co, .slice (some ⟨g, 0, none⟩) n n]) (hg : Blk w g 23 (words xs)) (hn : xs.length = n) (hx : x < n) (hn64 : n ≤ 64) (hy : IsWords w o n ys) (hT : Tb w) (hin : ∀ y ∈ M.bl r, y < n) :
    Calls Tryd.prog 63 #[.pointer (some ⟨B, 0, none⟩), .int .i64 (x : Nat), .int .u64 r] w (WroteB ⟨g, x, none⟩ (.int .u64 (R.intoN ys r : Nat)) w) := by
  have c0 : w.cell? ⟨B, 0, none⟩ = some (.slice o n co) := h.cell 0
  have c1 : w.cell? ⟨B, 1, none⟩ = some (.slice (some ⟨g, 0, none⟩) n n) := h.cell 1
  have c2 : w.cell? ⟨g, x, none⟩ = some (.int .u64 (R.row xs x : Nat)) := by rw [hg.cell, words_at xs x (by omega)]
  have f2 := hg.free x
  have i1 : (0 : Int) ≤ (x : Int) := by omega
  have i2 : (x : Int) < (n : Int) := by omega
  have lB := h.lt
  have lg := hg.lt
  have HIN := Lib.hid hin
  clear h hg hn hin
  go_enter Tryd.func63, Tryd.ntmps63
  go_wp2
  go_region_with ((go_at_call 68; refine (into_any o n co r ys _ (hy.drewN 1) (hT.drewN 1) hr HIN.out).mono ?_; rintro e w1 ⟨rfl, hb1⟩; have hb1 : Below w.heap.size w w1 := (below_drewN (Below.refl _ _) 1).trans hb1; have k1 := (hb1.cell (p := ⟨B, 1, none⟩) lB).trans c1; have k2 := (hb1.cell (p := ⟨g, x, none⟩) lg).trans c2; have k3 := (hb1.frozen (p := ⟨g, x, none⟩) lg).trans f2))
  all_goals (go_end0; exact ⟨rfl, _, 0, hb1, rfl⟩)
end Go.Proofs.YtokehiehfgffmaaDoor
