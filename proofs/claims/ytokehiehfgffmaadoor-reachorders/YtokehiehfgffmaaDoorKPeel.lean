/-
  What reach.start and the methods of reach.peel answer, as contracts.
-/
import Derived.Test.YtokehiehfgffmaaDoorKUp
import Derived.Lib.JoinLaws
import Derived.Deep.OwnRows
namespace Go.Proofs.YtokehiehfgffmaaDoor
open Go.RowKit
set_option linter.unusedVariables false
set_option linter.unusedSimpArgs false

/-- A list of numbers as cells. -/
def icells (ds : List Nat) : Array Value := (ds.map fun x => Value.int .i64 (x : Nat)).toArray
theorem icells_set (ds : List Nat) (i v : Nat) : (icells ds).setIfInBounds i (.int .i64 (v : Nat)) = icells (ds.set i v) := by
  apply Array.ext'
  simp [icells]
theorem icells_at (ds : List Nat) (i : Nat) (h : i < ds.length) : (icells ds)[i]? = some (.int .i64 (R.row ds i : Nat)) := by
  simp [icells, R.row, List.getD, h]
theorem made_icells (n : Nat) : madeCells #[Value.int .i64 0] n = icells (List.replicate n 0) := by
  apply Array.ext
  · simp [madeCells, icells]
  · intro i h1 h2
    simp [madeCells, icells, Nat.mod_one]
/-- What start leaves: a peel of which nothing is taken. -/
def StartTo (a : Option Addr) (len cap : Nat) (w : World) (e : Ending) (w' : World) : Prop :=
  ∃ go gd, e = .returned (.agg #[.slice a len cap, .int .u64 (R.things len : Nat), .slice (some ⟨go, 0, none⟩) 0 len, .slice (some ⟨gd, 0, none⟩) len len, .int .i64 0]) ∧ w.heap.size ≤ go ∧ w.heap.size ≤ gd ∧ go ≠ gd ∧ Blk w' go 3 (madeCells #[Value.int .i64 0] len) ∧ Blk w' gd 3 (madeCells #[Value.int .i64 0] len) ∧ Below w.heap.size w w'
theorem start_end (a : Option Addr) (len cap go gd : Nat) (w : World) (o : Obj) (h : (go = w.heap.size + 1 ∧ gd = w.heap.size + 1 + 1) ∨ (gd = w.heap.size + 1 ∧ go = w.heap.size + 1 + 1)) :
    StartTo a len cap w (.returned (.agg #[.slice a len cap, .int .u64 (R.things len : Nat), .slice (some ⟨go, 0, none⟩) 0 len, .slice (some ⟨gd, 0, none⟩) len len, .int .i64 0])) (((w.alloc o).alloc (.cells (madeCells #[Value.int .i64 0] len) 3)).alloc (.cells (madeCells #[Value.int .i64 0] len) 3)).drew := by
  have s1 : (w.alloc o).heap.size = w.heap.size + 1 := by simp
  have s2 : ((w.alloc o).alloc (.cells (madeCells #[Value.int .i64 0] len) 3)).heap.size = w.heap.size + 1 + 1 := by simp
  have b1 : Blk (((w.alloc o).alloc (.cells (madeCells #[Value.int .i64 0] len) 3)).alloc (.cells (madeCells #[Value.int .i64 0] len) 3)).drew (w.heap.size + 1) 3 (madeCells #[Value.int .i64 0] len) := by
    have := (Blk.new (w.alloc o) 3 (madeCells #[Value.int .i64 0] len)).alloc (.cells (madeCells #[Value.int .i64 0] len) 3)
    rw [s1] at this
    exact this.drewN 1
  have b2 : Blk (((w.alloc o).alloc (.cells (madeCells #[Value.int .i64 0] len) 3)).alloc (.cells (madeCells #[Value.int .i64 0] len) 3)).drew (w.heap.size + 1 + 1) 3 (madeCells #[Value.int .i64 0] len) := by
    have := Blk.new ((w.alloc o).alloc (.cells (madeCells #[Value.int .i64 0] len) 3)) 3 (madeCells #[Value.int .i64 0] len)
    rw [s2] at this
    exact this.drewN 1
  have hb : Below w.heap.size w (((w.alloc o).alloc (.cells (madeCells #[Value.int .i64 0] len) 3)).alloc (.cells (madeCells #[Value.int .i64 0] len) 3)).drew :=
    below_drewN ((((Below.refl w.heap.size w).alloc (Nat.le_refl _) _).alloc (by omega) _).alloc (by omega) _) 1
  rcases h with ⟨rfl, rfl⟩ | ⟨rfl, rfl⟩
  · exact ⟨_, _, rfl, by omega, by omega, by omega, b1, b2, hb⟩
  · exact ⟨_, _, rfl, by omega, by omega, by omega, b2, b1, hb⟩
set_option maxHeartbeats 2000000 in
theorem start_any (a : Option Addr) (len cap : Nat) (w : World) (hl : len ≤ 64) :
    Calls Tryd.prog 40 #[.slice a len cap] w (StartTo a len cap w) := by
  have hmk := run_make_row' (P := Tryd.prog) 28 3 (.int .i64 0) 8 Tryd.underlying28 Tryd.info3 rfl .i64 .i64 len (by omega) (by omega)
  have hmk2 := run_make_room (P := Tryd.prog) 28 3 (.int .i64 0) 8 Tryd.underlying28 Tryd.info3 rfl .i64 .i64 len (by omega) (by omega)
  go_enter Tryd.func40, Tryd.ntmps40
  go_wp2
  go_region_with ((go_at_call 46; refine (kthings_any _ _ _ _).mono ?_; rintro e w' ⟨rfl, rfl⟩))
  all_goals (go_wp2; (try simp only [Exit.inBlock, Exit.then]); refine bodyPost_ret (results_cell_row rfl _ _ w.heap.size 52 _ (0, 0) _ rfl ((((Blk.new w 52 _).alloc _).alloc _).drewN 1) Tryd.underlying52 rfl (by kernel_rfl)) rfl ?_; first | exact start_end _ _ _ _ _ _ _ (.inl ⟨rfl, rfl⟩) | exact start_end _ _ _ _ _ _ _ (.inr ⟨rfl, rfl⟩))
end Go.Proofs.YtokehiehfgffmaaDoor
