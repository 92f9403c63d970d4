/-
  What a maker of programs out of numbers tells: Made, Pick, names of locations and registers, as contracts.
-/
import Derived.Test.YtlgnagmmljdkiabLBytes
import Derived.Test.YtlgnagmmljdkiabTA
import Derived.Deep.QuietTactic
import Derived.BigQuiet
namespace Go.Proofs.Ytlgnagmmljdkiab.Lx
open Go.RowKit
set_option maxRecDepth 100000
set_option linter.unusedVariables false
set_option linter.unusedSimpArgs false
/-- A maker at block M over bytes that came in; both lie below B. -/
def Mk (B : Nat) (w : World) (M : Nat) : Prop := ∃ (a : Option Addr) (len cap k : Nat), Blk w M 66 #[.slice a len cap, .int .i64 k] ∧ M < B ∧ B ≤ w.heap.size ∧ k ≤ len ∧ len ≤ 4611686018427387904 ∧
  ∀ i, i < len → ∃ (b off x : Nat), a = some ⟨b, off, none⟩ ∧ b ≠ M ∧ b < B ∧ x < 256 ∧ w.cell? ⟨b, off + i, none⟩ = some (.int .u8 (x : Nat))
theorem Mk.only {B M : Nat} {w w' : World} {S : Nat → Prop} (h : Mk B w M) (ho : Only S w w') (hS : ∀ g, g < B → ¬ S g) : Mk B w' M := by
  obtain ⟨a, len, cap, k, hb, hM, hB, hk, hl, hc⟩ := h
  refine ⟨a, len, cap, k, hb.only ho (hS M hM), hM, Nat.le_trans hB ho.size, hk, hl, fun i hi => ?_⟩
  obtain ⟨b, off, x, ha, hbM, hbB, hx, hcc⟩ := hc i hi
  exact ⟨b, off, x, ha, hbM, hbB, hx, ho.cell hcc (hS b hbB)⟩
theorem Mk.below {B M : Nat} {w w' : World} (h : Mk B w M) (hb : Below w.heap.size w w') : Mk B w' M := h.only (S := fun _ => False) (.of_below hb) (fun _ _ => id)
theorem Mk.le {B M : Nat} {w : World} (h : Mk B w M) : M < B ∧ B ≤ w.heap.size := by
  obtain ⟨a, len, cap, k, hb, hM, hB, _⟩ := h
  exact ⟨hM, hB⟩
theorem Mk.drewN {B M : Nat} {w : World} (h : Mk B w M) (n : Nat) : Mk B (w.drewN n) M := h.below (below_drewN (Below.refl _ _) n)
theorem Mk.drew {B M : Nat} {w : World} (h : Mk B w M) : Mk B w.drew M := h.below (below_one w)
/-- A number below n is told; only the maker goes on. -/
def PickTo (B M n : Nat) (w : World) (e : Ending) (w' : World) : Prop := ∃ r : Nat, e = .returned (.int .i64 (r : Nat)) ∧ r < n ∧ Mk B w' M ∧ Only (· = M) w w'
set_option maxHeartbeats 1600000 in
theorem pick_any (B M n : Nat) (w : World) (h : Mk B w M) (h1 : 1 ≤ n) (hn : n ≤ 1000) : Calls Try.prog 23 #[.pointer (some ⟨M, 0, none⟩), .int .i64 (n : Nat)] w (PickTo B M n w) := by
  have HM := Lib.hid h
  obtain ⟨a, len, cap, k, hb, hMB, hBs, hk, hl, hc⟩ := h
  have hlt := hb.lt
  have c0 := hb.cell 0
  have c1 := hb.cell 1
  have f1 := hb.free 1
  have c0' : w.cell? ⟨M, 0, none⟩ = some (.slice a len cap) := c0
  have c1' : w.cell? ⟨M, 1, none⟩ = some (.int .i64 (k : Nat)) := c1
  have HB := Lib.hid hb
  have HC := Lib.hid hc
  clear c0 c1 hb hc
  by_cases hkl : k < len
  · obtain ⟨b, off, x, rfl, hbM, hbB, hx, hcx⟩ := HC.out k hkl
    have d1 : decide ((len : Int) ≤ (k : Int)) = false := by simp; omega
    have d1' : decide (len ≤ k) = false := by simp; omega
    have d2 : decide ((n : Int) < 1) = false := by simp; omega
    have d2' : decide (n < 1) = false := by simp; omega
    have d2'' : decide (n = 0) = false := by simp; omega
    have m1 : (0 : Int) ≤ (k : Int) := by omega
    have m2 : (k : Int) < (len : Int) := by omega
    have m3 : IntKind.i64.wrap (k : Int) = (k : Int) := IntWalk.i64_in _ (by omega)
    have HR := Lib.hid (show (x : Int).tmod (n : Int) = ((x % n : Nat) : Int) from rfl)
    have hrn : x % n < n := Nat.mod_lt _ (by omega)
    have e0 : ¬ ((n : Int) = 0) := by omega
    have e0' : ¬ (n = 0) := by omega
    go_enter Try.func23, Try.ntmps23
    go_wp2_with fail
    go_quiet (fail)
    go_wp2_with fail
    have hW := (show Blk (w.drewN nq) M _ _ from HB.out).set 1 (.int .i64 ((k : Int) + 1))
    have hO := (Only.drewN (Only.refl (· = M) w) nq).setCell (p := ⟨M, 1, none⟩) (.inl rfl) (.int .i64 ((k : Int) + 1))
    generalize (w.drewN nq).setCell ⟨M, 1, none⟩ (.int .i64 ((k : Int) + 1)) = w2 at *
    have b0 : w2.cell? ⟨M, 0, none⟩ = some (.slice (some ⟨b, off, none⟩) len cap) := hW.cell 0
    have b1 : w2.cell? ⟨M, 1, none⟩ = some (.int .i64 ((k : Int) + 1)) := hW.cell 1
    have bx : w2.cell? ⟨b, off + k, none⟩ = some (.int .u8 (x : Nat)) := hO.cell hcx hbM
    have HW := Lib.hid hW
    have HO := Lib.hid hO
    clear hW hO c0' c1' f1 hcx
    have s1 : IntKind.i64.wrap ((k : Int) + 1 - 1) = (k : Int) := by rw [show (k : Int) + 1 - 1 = (k : Int) by omega]; exact m3
    have s2 : (k : Int) + 1 - 1 = (k : Int) := by omega
    have s3 : (k : Int).toNat = k := rfl
    go_quiet (fail)
    go_wp2_with fail
    go_ret
    refine ⟨x % n, rfl, hrn, ?_, Only.drewN HO.out _⟩
    refine Mk.drewN (w := w2) ⟨some ⟨b, off, none⟩, len, cap, k + 1, by simpa using HW.out, hMB, Nat.le_trans hBs HO.out.size, by omega, hl, fun i hi => ?_⟩ _
    obtain ⟨b', off', x', hbe, hb1, hb2, hx', hc'⟩ := HC.out i hi
    exact ⟨b', off', x', hbe, hb1, hb2, hx', HO.out.cell hc' hb1⟩
  · have d1 : decide ((len : Int) ≤ (k : Int)) = true := by simp; omega
    have d1' : decide (len ≤ k) = true := by simp; omega
    go_enter Try.func23, Try.ntmps23
    go_wp2_with fail
    go_quiet (fail)
    go_wp2_with fail
    go_ret
    exact ⟨0, rfl, by omega, HM.out.drewN _, Only.drewN (Only.refl _ _) _⟩
theorem pick_at (B M n : Nat) (z : Int) (w : World) (h : Mk B w M) (h1 : 1 ≤ n) (hn : n ≤ 1000) (hz : z = (n : Int)) : Calls Try.prog 23 #[.pointer (some ⟨M, 0, none⟩), .int .i64 z] w (PickTo B M n w) := by
  subst hz
  exact pick_any B M n w h h1 hn
end Go.Proofs.Ytlgnagmmljdkiab.Lx
