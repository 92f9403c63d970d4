/-
  What names and modes of a maker are, as contracts: Loc, Reg, mode, with.
-/
import Derived.Test.YtlgnagmmljdkiabMPick
import Derived.Test.YtlgnagmmljdkiabMMath
import Derived.Deep.AppendLies
namespace Go.Proofs.Ytlgnagmmljdkiab.Lx
open Go.RowKit
open P (locB regB wth)
set_option maxRecDepth 100000
set_option linter.unusedVariables false
set_option linter.unusedSimpArgs false
set_option maxHeartbeats 800000 in
theorem loc_any (i : Nat) (hi : i < 4) (w : World) : Calls Try.prog 36 #[.int .i64 (i : Nat)] w (fun e w' => e = .returned (.string (bs [locB i])) ∧ w = w') := by
  rcases i with _ | _ | _ | _ | i
  · show Calls Try.prog 36 #[.int .i64 0] w (fun e w' => e = .returned (.string ⟨#[120]⟩) ∧ w = w')
    go_enter Try.func36, Try.ntmps36
    go_wp2
    go_ret
    exact ⟨rfl, rfl⟩
  · show Calls Try.prog 36 #[.int .i64 1] w (fun e w' => e = .returned (.string ⟨#[121]⟩) ∧ w = w')
    go_enter Try.func36, Try.ntmps36
    go_wp2
    go_ret
    exact ⟨rfl, rfl⟩
  · show Calls Try.prog 36 #[.int .i64 2] w (fun e w' => e = .returned (.string ⟨#[122]⟩) ∧ w = w')
    go_enter Try.func36, Try.ntmps36
    go_wp2
    go_ret
    exact ⟨rfl, rfl⟩
  · show Calls Try.prog 36 #[.int .i64 3] w (fun e w' => e = .returned (.string ⟨#[119]⟩) ∧ w = w')
    go_enter Try.func36, Try.ntmps36
    go_wp2
    go_ret
    exact ⟨rfl, rfl⟩
  · omega
set_option maxHeartbeats 800000 in
theorem reg_any (i : Nat) (hi : i < 4) (w : World) : Calls Try.prog 52 #[.int .i64 (i : Nat)] w (fun e w' => e = .returned (.string (bs [regB i])) ∧ w = w') := by
  rcases i with _ | _ | _ | _ | i
  · show Calls Try.prog 52 #[.int .i64 0] w (fun e w' => e = .returned (.string ⟨#[97]⟩) ∧ w = w')
    go_enter Try.func52, Try.ntmps52
    go_wp2
    go_ret
    exact ⟨rfl, rfl⟩
  · show Calls Try.prog 52 #[.int .i64 1] w (fun e w' => e = .returned (.string ⟨#[98]⟩) ∧ w = w')
    go_enter Try.func52, Try.ntmps52
    go_wp2
    go_ret
    exact ⟨rfl, rfl⟩
  · show Calls Try.prog 52 #[.int .i64 2] w (fun e w' => e = .returned (.string ⟨#[99]⟩) ∧ w = w')
    go_enter Try.func52, Try.ntmps52
    go_wp2
    go_ret
    exact ⟨rfl, rfl⟩
  · show Calls Try.prog 52 #[.int .i64 3] w (fun e w' => e = .returned (.string ⟨#[100]⟩) ∧ w = w')
    go_enter Try.func52, Try.ntmps52
    go_wp2
    go_ret
    exact ⟨rfl, rfl⟩
  · omega
/-- One of the modes of a row. -/
def ModeTo (B M : Nat) (ms : List Nat) (w : World) (e : Ending) (w' : World) : Prop := ∃ r : Nat, e = .returned (.int .i64 (r : Nat)) ∧ r ∈ ms ∧ Mk B w' M ∧ Only (· = M) w w'
/-- A row of numbers. -/
def Ints (w : World) (g : Nat) (ms : List Nat) : Prop := ∀ i, i < ms.length → w.cell? ⟨g, 0 + i, none⟩ = some (.int .i64 (ms.getD i 0 : Nat))
theorem getD_mem {ms : List Nat} {i : Nat} (h : i < ms.length) : ms.getD i 0 ∈ ms := by
  rw [List.getD_eq_getElem?_getD, List.getElem?_eq_getElem h]
  exact List.getElem_mem h
set_option maxHeartbeats 1600000 in
/-- A mode of a shape that is neither sc nor plain. -/
theorem mode_any (B M v k g cap : Nat) (ms : List Nat) (w : World) (h : Mk B w M) (hg : B ≤ g) (hms : Ints w g ms) (h1 : 1 ≤ ms.length) (h9 : ms.length ≤ 9) :
    Calls Try.prog 53 #[.pointer (some ⟨M, 0, none⟩), .agg #[.int .i64 (v : Nat), .int .i64 (k : Nat), .bool false, .bool false], .slice (some ⟨g, 0, none⟩) ms.length cap] w (ModeTo B M ms w) := by
  have HM := Lib.hid h
  have HG := Lib.hid hms
  have hMB := h.le
  have gl : g < w.heap.size := World.block_lt_of_cell? w _ (hms 0 (by omega))
  generalize hn : ms.length = n at *
  have HN := Lib.hid hn
  clear h hms hn
  go_enter Try.func53, Try.ntmps53
  go_wp2_with fail
  have hb0 : Below w.heap.size w (w.alloc (.cells #[.int .i64 (v : Nat), .int .i64 (k : Nat), .bool false, .bool false] 69)) := (Below.refl _ _).alloc (Nat.le_refl _) _
  have HS := Lib.hid (Blk.new w 69 #[.int .i64 (v : Nat), .int .i64 (k : Nat), .bool false, .bool false])
  have HB0 := Lib.hid hb0
  clear hb0
  generalize w.alloc (.cells #[.int .i64 (v : Nat), .int .i64 (k : Nat), .bool false, .bool false] 69) = w0 at *
  with_reducible refine (pick_any B M n w0 (HM.out.below HB0.out) (by omega) (by omega)).mono ?_
  rintro e w1 ⟨r, rfl, hr, hm1, ho1⟩
  have c3 : w1.cell? ⟨w.heap.size, 3, none⟩ = some (.bool false) := (HS.out.only ho1 (by omega)).cell 3
  have cr : w1.cell? ⟨g, 0 + r, none⟩ = some (.int .i64 (ms.getD r 0 : Nat)) := ho1.cell (by
    have h1 := HG.out r (by rw [HN.out]; exact hr)
    exact (HB0.out.cell (p := ⟨g, 0 + r, none⟩) gl).trans h1) (by show g ≠ M; omega)
  have HM1 := Lib.hid hm1
  have HO1 := Lib.hid ho1
  have HR := Lib.hid (getD_mem (ms := ms) (i := r) (by rw [HN.out]; exact hr))
  clear hm1 ho1
  generalize ms.getD r 0 = x at *
  have d1 : (0 : Int) ≤ (r : Int) := by omega
  have d2 : (r : Int) < (n : Int) := by omega
  rw [Nat.zero_add] at cr
  go_wp2_with fail
  go_ret
  exact ⟨x, rfl, HR.out, HM1.out, (Only.of_below HB0.out).trans HO1.out⟩
theorem mode_at (B M v k g cap n : Nat) (ms : List Nat) (w : World) (h : Mk B w M) (hg : B ≤ g) (hms : Ints w g ms) (hn : n = ms.length) (h1 : 1 ≤ ms.length) (h9 : ms.length ≤ 9) :
    Calls Try.prog 53 #[.pointer (some ⟨M, 0, none⟩), .agg #[.int .i64 (v : Nat), .int .i64 (k : Nat), .bool false, .bool false], .slice (some ⟨g, 0, none⟩) n cap] w (ModeTo B M ms w) := by
  subst hn
  exact mode_any B M v k g cap ms w h hg hms h1 h9
/-- A row of numbers that was just made. -/
theorem ints_new {w : World} {t : TypeId} {ms : List Nat} {g : Nat} (h : Blk w g t (ms.map fun m => Value.int .i64 (m : Nat)).toArray) : Ints w g ms := by
  intro i hi
  rw [Nat.zero_add, h.cell]
  simp [hi]
/-- A slice of names. -/
def Nms (Q : Nat → Prop) (w : World) (v : Value) (rs : List (List UInt8)) : Prop := ∃ a cap, v = .slice a rs.length cap ∧ (rs = [] ∨ ∃ g off, a = some ⟨g, off, none⟩ ∧ Q g ∧ ∀ i, i < rs.length → w.cell? ⟨g, off + i, none⟩ = some (.string (bs (rs.getD i []))))
theorem Nms.keep {Q : Nat → Prop} {w w' : World} {v : Value} {rs : List (List UInt8)} (h : Nms Q w v rs) (hk : Keeps Q w w') : Nms Q w' v rs := by
  obtain ⟨a, cap, rfl, h⟩ := h
  refine ⟨a, cap, rfl, ?_⟩
  rcases h with h | ⟨g, off, ha, hg, hc⟩
  · exact .inl h
  · exact .inr ⟨g, off, ha, hg, fun i hi => hk.cell hg (hc i hi)⟩
theorem Nms.mono {Q Q' : Nat → Prop} {w : World} {v : Value} {rs : List (List UInt8)} (h : Nms Q w v rs) (hq : ∀ g, Q g → g < w.heap.size → Q' g) : Nms Q' w v rs := by
  obtain ⟨a, cap, rfl, h⟩ := h
  refine ⟨a, cap, rfl, ?_⟩
  rcases h with h | ⟨g, off, ha, hg, hc⟩
  · exact .inl h
  · by_cases h0 : rs = []
    · exact .inl h0
    · have hl : 0 < rs.length := List.length_pos_iff.2 h0
      exact .inr ⟨g, off, ha, hq g hg (World.block_lt_of_cell? w _ (hc 0 hl)), hc⟩
theorem nms_nil (Q : Nat → Prop) (w : World) : Nms Q w (.slice none 0 0) [] := ⟨none, 0, rfl, .inl rfl⟩
end Go.Proofs.Ytlgnagmmljdkiab.Lx
