/-
  Rows of names, rows of numbers, an outcome with the names of its places, in memory. It proves nothing of Go by itself.
-/
import Derived.Test.YtchokfgffnomoaaDoorEVal
import Derived.Test.YtchokfgffnomoaaDoorPTMath
namespace Go.Proofs.YtchokfgffnomoaaDoor.Lx
open Go.RowKit
open P (CO)
set_option maxRecDepth 100000
set_option linter.unusedVariables false
set_option linter.unusedSimpArgs false
/-- At a are rows of names. -/
def NssA (w : World) (a : Option Addr) (rg : List (List (List UInt8))) : Prop := rg = [] ∨ ∃ g off, a = some ⟨g, off, none⟩ ∧ ∀ i, i < rg.length → ∃ u, w.cell? ⟨g, off + i, none⟩ = some u ∧ Nms (fun _ => True) w u (rg.getD i [])
/-- At a are rows of numbers. -/
def VssA (w : World) (a : Option Addr) (rv : List (List Int)) : Prop := rv = [] ∨ ∃ g off, a = some ⟨g, off, none⟩ ∧ ∀ i, i < rv.length → ∃ u, w.cell? ⟨g, off + i, none⟩ = some u ∧ Ivs (fun _ => True) w u (rv.getD i [])
theorem NssA.low {w w' : World} {a : Option Addr} {rg : List (List (List UInt8))} (h : NssA w a rg) (hb : Below w.heap.size w w') : NssA w' a rg := by
  rcases h with h | ⟨g, off, e, h⟩
  · exact .inl h
  · refine .inr ⟨g, off, e, fun i hi => ?_⟩
    obtain ⟨v, hc, hn⟩ := h i hi
    exact ⟨v, (hb.cell (p := ⟨g, off + i, none⟩) (World.block_lt_of_cell? w _ hc)).trans hc, hn.keep (Keeps.below hb (Nat.le_refl _))⟩
theorem VssA.low {w w' : World} {a : Option Addr} {rg : List (List Int)} (h : VssA w a rg) (hb : Below w.heap.size w w') : VssA w' a rg := by
  rcases h with h | ⟨g, off, e, h⟩
  · exact .inl h
  · refine .inr ⟨g, off, e, fun i hi => ?_⟩
    obtain ⟨v, hc, hn⟩ := h i hi
    exact ⟨v, (hb.cell (p := ⟨g, off + i, none⟩) (World.block_lt_of_cell? w _ hc)).trans hc, hn.keep (Keeps.below hb (Nat.le_refl _))⟩
/-- Rows of names are small. -/
def NsOk (rg : List (List (List UInt8))) : Prop := rg.length ≤ maxLen ∧ ∀ i, (rg.getD i []).length ≤ maxLen
/-- Rows of numbers are ints, and small. -/
def VsOk (rv : List (List Int)) : Prop := rv.length ≤ maxLen ∧ ∀ i, (rv.getD i []).length ≤ maxLen ∧ ∀ k, W64 ((rv.getD i []).getD k 0)
/-- An outcome in memory. -/
structure OutIn (w : World) (ra ma : Option Addr) (rv : List (List Int)) (mv : List Int) (mc : Nat) : Prop where
  regs : VssA w ra rv
  mem : Ivs (fun _ => True) w (.slice ma mv.length mc) mv
  rok : VsOk rv
  mok : mv.length ≤ maxLen ∧ ∀ k, W64 (mv.getD k 0)
theorem OutIn.low {w w' : World} {ra ma : Option Addr} {rv : List (List Int)} {mv : List Int} {mc : Nat} (h : OutIn w ra ma rv mv mc) (hb : Below w.heap.size w w') : OutIn w' ra ma rv mv mc :=
  ⟨h.regs.low hb, h.mem.keep (Keeps.below hb (Nat.le_refl _)), h.rok, h.mok⟩
/-- The names of an outcome's places in memory. -/
structure NamIn (w : World) (la ga : Option Addr) (locs : List (List UInt8)) (regs : List (List (List UInt8))) (lc : Nat) : Prop where
  nlocs : Nms (fun _ => True) w (.slice la locs.length lc) locs
  nregs : NssA w ga regs
  lok : locs.length ≤ maxLen
  gok : NsOk regs
theorem NamIn.low {w w' : World} {la ga : Option Addr} {locs : List (List UInt8)} {regs : List (List (List UInt8))} {lc : Nat} (h : NamIn w la ga locs regs lc) (hb : Below w.heap.size w w') : NamIn w' la ga locs regs lc :=
  ⟨h.nlocs.keep (Keeps.below hb (Nat.le_refl _)), h.nregs.low hb, h.lok, h.gok⟩
/-- What Holds answers. -/
def holdR : Option Bool → Value
  | none => .tuple #[.bool false, .bool false]
  | some b => .tuple #[.bool b, .bool true]
def HoTo (o : Option Bool) (w : World) (e : Ending) (w' : World) : Prop := e = .returned (holdR o) ∧ Below w.heap.size w w'
/-- A place in a row of names. -/
theorem nms_at {w : World} {a : Option Addr} {c : Nat} {rs : List (List UInt8)} (h : Nms (fun _ => True) w (.slice a rs.length c) rs) {i : Nat} (hi : i < rs.length) : ∃ g off, a = some ⟨g, off, none⟩ ∧ w.cell? ⟨g, off + i, none⟩ = some (.string (bs (rs.getD i []))) := by
  obtain ⟨a', c', he, h0⟩ := h
  injection he with h1 h2 h3
  subst h1
  rcases h0 with h0 | ⟨g, off, e, _, h0⟩
  · rw [h0] at hi
    simp at hi
  · exact ⟨g, off, e, h0 i hi⟩
theorem ivs_at {w : World} {a : Option Addr} {c : Nat} {vs : List Int} (h : Ivs (fun _ => True) w (.slice a vs.length c) vs) {i : Nat} (hi : i < vs.length) : ∃ g off, a = some ⟨g, off, none⟩ ∧ w.cell? ⟨g, off + i, none⟩ = some (.int .i64 (vs.getD i 0)) := by
  obtain ⟨a', c', he, h0⟩ := h
  injection he with h1 h2 h3
  subst h1
  rcases h0 with h0 | ⟨g, off, e, _, h0⟩
  · rw [h0] at hi
    simp at hi
  · exact ⟨g, off, e, h0 i hi⟩
theorem nss_at {w : World} {a : Option Addr} {rg : List (List (List UInt8))} (h : NssA w a rg) {i : Nat} (hi : i < rg.length) : ∃ g off ra rc, a = some ⟨g, off, none⟩ ∧ w.cell? ⟨g, off + i, none⟩ = some (.slice ra (rg.getD i []).length rc) ∧ Nms (fun _ => True) w (.slice ra (rg.getD i []).length rc) (rg.getD i []) := by
  rcases h with h0 | ⟨g, off, e, h0⟩
  · rw [h0] at hi
    simp at hi
  · obtain ⟨u, hc, hn⟩ := h0 i hi
    have hn0 := hn
    obtain ⟨ra, rc, rfl, _⟩ := hn0
    exact ⟨g, off, ra, rc, e, hc, hn⟩
theorem vss_at {w : World} {a : Option Addr} {rg : List (List Int)} (h : VssA w a rg) {i : Nat} (hi : i < rg.length) : ∃ g off ra rc, a = some ⟨g, off, none⟩ ∧ w.cell? ⟨g, off + i, none⟩ = some (.slice ra (rg.getD i []).length rc) ∧ Ivs (fun _ => True) w (.slice ra (rg.getD i []).length rc) (rg.getD i []) := by
  rcases h with h0 | ⟨g, off, e, h0⟩
  · rw [h0] at hi
    simp at hi
  · obtain ⟨u, hc, hn⟩ := h0 i hi
    have hn0 := hn
    obtain ⟨ra, rc, rfl, _⟩ := hn0
    exact ⟨g, off, ra, rc, e, hc, hn⟩
end Go.Proofs.YtchokfgffnomoaaDoor.Lx
