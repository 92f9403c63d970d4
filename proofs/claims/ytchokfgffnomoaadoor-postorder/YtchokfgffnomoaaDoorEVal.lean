/-
  What package eval tells of any expression over any registers, as contracts.
-/
import Derived.Test.YtchokfgffnomoaaDoorOX
import Derived.Test.YtchokfgffnomoaaDoorEVMath
import Derived.Test.YtchokfgffnomoaaDoorVLeaf
import Derived.Test.YtchokfgffnomoaaDoorPSame
import Derived.Test.YtchokfgffnomoaaDoorMWith
import Derived.Deep.RegionHeld3
import Derived.Deep.QuietTactic
import Derived.BigQuiet
namespace Go.Proofs.YtchokfgffnomoaaDoor.Lx
open Go.RowKit
open P (EX ev ev2 plI jn)
set_option maxRecDepth 100000
set_option linter.unusedVariables false
set_option linter.unusedSimpArgs false
/-- A slice of ints. -/
def Ivs (Q : Nat → Prop) (w : World) (v : Value) (vs : List Int) : Prop := ∃ a cap, v = .slice a vs.length cap ∧ (vs = [] ∨ ∃ g off, a = some ⟨g, off, none⟩ ∧ Q g ∧ ∀ i, i < vs.length → w.cell? ⟨g, off + i, none⟩ = some (.int .i64 (vs.getD i 0)))
theorem Ivs.keep {Q : Nat → Prop} {w w' : World} {v : Value} {vs : List Int} (h : Ivs Q w v vs) (hk : Keeps Q w w') : Ivs Q w' v vs := by
  obtain ⟨a, c, rfl, h⟩ := h
  refine ⟨a, c, rfl, ?_⟩
  rcases h with h | ⟨g, off, ha, hg, hc⟩
  · exact .inl h
  · exact .inr ⟨g, off, ha, hg, fun i hi => hk.cell hg (hc i hi)⟩
/-- Registers and their values, how many values there are. -/
structure EvIn (w : World) (ar av : Option Addr) (cr cv : Nat) (rs : List (List UInt8)) (vs : List Int) (n : Int) : Prop where
  nms : Nms (fun _ => True) w (.slice ar rs.length cr) rs
  ivs : Ivs (fun _ => True) w (.slice av vs.length cv) vs
  len : vs.length = rs.length
  max : rs.length ≤ 1000
  i64 : ∀ i, W64 (vs.getD i 0)
  n2 : 2 ≤ n
  n4 : n ≤ 4
theorem EvIn.below {w w' : World} {ar av : Option Addr} {cr cv : Nat} {rs : List (List UInt8)} {vs : List Int} {n : Int} (h : EvIn w ar av cr cv rs vs n) (hb : Below w.heap.size w w') : EvIn w' ar av cr cv rs vs n :=
  ⟨h.nms.keep (Keeps.below hb (Nat.le_refl _)), h.ivs.keep (Keeps.below hb (Nat.le_refl _)), h.len, h.max, h.i64, h.n2, h.n4⟩
/-- What is told of what an expression comes to. -/
def evR (r : Option Int) : Value := .tuple #[.int .i64 (r.getD 0), .bool r.isSome]
def EvTo (r : Option Int) (w : World) (e : Ending) (w' : World) : Prop := e = .returned (evR r) ∧ Below w.heap.size w w'
theorem wi64 {n : Int} (h : W64 n) : Wr.I64 n := Wr.I64.mk h.1 h.2
theorem LX.low {w w' : World} {v : Value} {e : EX} (h : LX (fun _ => True) w v e) (hb : Below w.heap.size w w') : LX (fun _ => True) w' v e := LX.keep (Keeps.below hb (Nat.le_refl _)) e h

set_option maxHeartbeats 1600000 in
theorem sindex_any (rs : List (List UInt8)) (s : List UInt8) (Q : Nat → Prop) (v : Value) (w : World) (hv : Nms Q w v rs) (hm : rs.length ≤ 1000000) :
    Calls Tryd.prog 99 #[v, .string (bs s)] w (fun e w' => e = .returned (.int .i64 (plI s rs)) ∧ w = w') := by
  obtain ⟨a, cap, rfl, hc⟩ := hv
  have HC := Lib.hid hc
  have HR : Hid (∀ k : Int, plI s rs = k → plI s rs = k) := Lib.hid (fun k h => h)
  clear hc
  generalize hP : plI s rs = PL at *
  have HP := Lib.hid hP
  clear hP
  generalize hS : bs s = S at *
  have HS := Lib.hid hS
  clear hS
  go_enter Tryd.func99, Tryd.ntmps99
  go_wp2_with fail
  go_loop [8] (fun t => ∃ j : Nat, t = .int .i64 j ∧ j ≤ rs.length ∧ NotYet rs s j) (fun t => rs.length - (intOf t).toNat)
  case atStart => exact ⟨0, rfl, Nat.zero_le _, fun i hi => by omega⟩
  case round =>
    obtain ⟨j, rfl, hj, hny⟩ := hrel
    have HNY := Lib.hid hny
    clear hny
    by_cases hlt : j < rs.length
    · obtain ⟨g, off, hg, hq, hcell⟩ : ∃ g off, a = some ⟨g, off, none⟩ ∧ Q g ∧ ∀ i, i < rs.length → w.cell? ⟨g, off + i, none⟩ = some (.string (bs (rs.getD i []))) := by
        rcases HC.out with h0 | h0
        · rw [h0] at hlt
          simp at hlt
        · exact h0
      subst hg
      have hcj := hcell j hlt
      have d1 : (0 : Int) ≤ (j : Int) := by omega
      have d2 : (j : Int) < (rs.length : Int) := by omega
      have ht : (S.toList == (bs (rs.getD j [])).toList) = (rs.getD j [] == s) := by
        rw [toList_by, toList_by, ← HS.out, by_bs, by_bs]
        exact Bool.eq_iff_iff.2 ⟨fun h => by rw [eq_of_beq h]; exact beq_self_eq_true _, fun h => by rw [eq_of_beq h]; exact beq_self_eq_true _⟩
      have HJ := Lib.hid (show ∀ b, (rs.getD j [] == s) = b → (b = true → rs.getD j [] = s) ∧ (b = false → rs.getD j [] ≠ s) from fun b hb => ⟨fun h => eq_of_beq (hb.trans h), fun h e => by rw [e, beq_self_eq_true] at hb; rw [← hb] at h; cases h⟩)
      clear hcell
      generalize bs (rs.getD j []) = X at *
      cases hb : (rs.getD j [] == s)
      all_goals
        rw [hb] at ht
        have HB := Lib.hid hb
        clear hb
      · go_wp2
        go_round
        case rel => exact ⟨j + 1, by go_num, by omega, fun i hi => (by
          by_cases e : i = j
          · subst e
            exact (HJ.out _ HB.out).2 rfl
          · exact HNY.out i (by omega))⟩
        case measure => simp [intOf]; omega
      · go_wp2
        go_ret
        have hk := P.plI_at (s := s) hlt HNY.out ((HJ.out _ HB.out).1 rfl)
        exact ⟨congrArg (fun z => Ending.returned (.int .i64 z)) (hk.symm.trans HP.out), rfl⟩
    · obtain rfl : j = rs.length := by omega
      have hk := Lib.hid (P.plI_none (s := s) (rs := rs) HNY.out)
      clear hlt
      go_wp2
      go_ret
      exact ⟨congrArg (fun z => Ending.returned (.int .i64 z)) (hk.out.symm.trans HP.out), rfl⟩

set_option maxHeartbeats 1600000 in
theorem rplace_any (rs : List (List UInt8)) (s : List UInt8) (Q : Nat → Prop) (v : Value) (w : World) (hv : Nms Q w v rs) (hm : rs.length ≤ 1000000) :
    Calls Tryd.prog 58 #[v, .string (bs s)] w (fun e w' => e = .returned (.int .i64 (plI s rs)) ∧ w = w') := by
  obtain ⟨a, cap, rfl, hc⟩ := hv
  have HC := Lib.hid hc
  have HR : Hid (∀ k : Int, plI s rs = k → plI s rs = k) := Lib.hid (fun k h => h)
  clear hc
  generalize hP : plI s rs = PL at *
  have HP := Lib.hid hP
  clear hP
  generalize hS : bs s = S at *
  have HS := Lib.hid hS
  clear hS
  go_enter Tryd.func58, Tryd.ntmps58
  go_wp2_with fail
  go_loop [5] (fun t => ∃ j : Nat, t = .int .i64 j ∧ j ≤ rs.length ∧ NotYet rs s j) (fun t => rs.length - (intOf t).toNat)
  case atStart => exact ⟨0, rfl, Nat.zero_le _, fun i hi => by omega⟩
  case round =>
    obtain ⟨j, rfl, hj, hny⟩ := hrel
    have HNY := Lib.hid hny
    clear hny
    by_cases hlt : j < rs.length
    · obtain ⟨g, off, hg, hq, hcell⟩ : ∃ g off, a = some ⟨g, off, none⟩ ∧ Q g ∧ ∀ i, i < rs.length → w.cell? ⟨g, off + i, none⟩ = some (.string (bs (rs.getD i []))) := by
        rcases HC.out with h0 | h0
        · rw [h0] at hlt
          simp at hlt
        · exact h0
      subst hg
      have hcj := hcell j hlt
      have d1 : (0 : Int) ≤ (j : Int) := by omega
      have d2 : (j : Int) < (rs.length : Int) := by omega
      have ht : ((bs (rs.getD j [])).toList == S.toList) = (rs.getD j [] == s) := by
        rw [toList_by, toList_by, ← HS.out, by_bs, by_bs]
        
      have HJ := Lib.hid (show ∀ b, (rs.getD j [] == s) = b → (b = true → rs.getD j [] = s) ∧ (b = false → rs.getD j [] ≠ s) from fun b hb => ⟨fun h => eq_of_beq (hb.trans h), fun h e => by rw [e, beq_self_eq_true] at hb; rw [← hb] at h; cases h⟩)
      clear hcell
      generalize bs (rs.getD j []) = X at *
      cases hb : (rs.getD j [] == s)
      all_goals
        rw [hb] at ht
        have HB := Lib.hid hb
        clear hb
      · go_wp2
        go_round
        case rel => exact ⟨j + 1, by go_num, by omega, fun i hi => (by
          by_cases e : i = j
          · subst e
            exact (HJ.out _ HB.out).2 rfl
          · exact HNY.out i (by omega))⟩
        case measure => simp [intOf]; omega
      · go_wp2
        go_ret
        have hk := P.plI_at (s := s) hlt HNY.out ((HJ.out _ HB.out).1 rfl)
        exact ⟨congrArg (fun z => Ending.returned (.int .i64 z)) (hk.symm.trans HP.out), rfl⟩
    · obtain rfl : j = rs.length := by omega
      have hk := Lib.hid (P.plI_none (s := s) (rs := rs) HNY.out)
      clear hlt
      go_wp2
      go_ret
      exact ⟨congrArg (fun z => Ending.returned (.int .i64 z)) (hk.out.symm.trans HP.out), rfl⟩

theorem quietX {P : Program} {f : FuncId} {args : Array Value} {w : World} {n : Nat} {v : Value}
    (h : Calls P f args (w.drewN n) fun e w' => e = .returned v ∧ w.drewN n = w') : Calls P f args (w.drewN n) fun e w'' => e = .returned v ∧ ∃ m, w'' = w.drewN m :=
  h.mono fun _ _ ⟨he, hm⟩ => ⟨he, n, hm.symm⟩
theorem bel_drewN (w : World) (n : Nat) : Below w.heap.size w (w.drewN n) := by
  have h := Below.refl w.heap.size w
  exact ⟨h.os, h.tape, h.output, h.size, h.block⟩
theorem two_below (w : World) (o o' : Obj) : Below w.heap.size w ((w.alloc o).alloc o') := ((Below.refl _ _).alloc (Nat.le_refl _) _).alloc (by simp) _
theorem at_vals {w : World} {ar av : Option Addr} {cr cv : Nat} {rs : List (List UInt8)} {vs : List Int} {n : Int} (h : EvIn w ar av cr cv rs vs n) {i : Int} (h0 : 0 ≤ i) (h1 : i < rs.length) : ∃ g off, av = some ⟨g, off, none⟩ ∧ w.cell? ⟨g, off + i.toNat, none⟩ = some (.int .i64 (vs.getD i.toNat 0)) := by
  obtain ⟨a', c', he, hc⟩ := h.ivs
  injection he with e1 e2 e3
  subst e1
  have hl := h.len
  rcases hc with hc | ⟨g, off, ha, _, hc⟩
  · rw [hc] at hl
    simp at hl
    omega
  · exact ⟨g, off, ha, hc i.toNat (by omega)⟩
/-- What F makes of two is that of an Op. -/
def Joins (F : Nat) (op n : Int) : Prop := ∀ (x y : Int) (w : World), 0 ≤ x → x < n → 0 ≤ y → y < n → Calls Tryd.prog F #[.int .i64 x, .int .i64 y, .int .i64 n] w (fun e w' => e = .returned (.int .i64 (jn op x y n)) ∧ w = w')
theorem Joins.call {F : Nat} {op n : Int} (h : Joins F op n) {x y : Int} (w : World) (hx : 0 ≤ x ∧ x < n) (hy : 0 ≤ y ∧ y < n) : Calls Tryd.prog F #[.int .i64 x, .int .i64 y, .int .i64 n] w (fun e w' => e = .returned (.int .i64 (jn op x y n)) ∧ w = w') := h x y w hx.1 hx.2 hy.1 hy.2
theorem small_i64 {x n : Int} (hn : n ≤ 4) (h0 : 0 ≤ x) (h1 : x < n) : Wr.I64 x := Wr.I64.mk (by omega) (by omega)
theorem evR_none : evR none = .tuple #[.int .i64 0, .bool false] := rfl
theorem evR_some (x : Int) : evR (some x) = .tuple #[.int .i64 x, .bool true] := rfl
end Go.Proofs.YtchokfgffnomoaaDoor.Lx
