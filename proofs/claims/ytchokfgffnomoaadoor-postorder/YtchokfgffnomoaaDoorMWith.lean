/-
  What with of a maker tells, as a contract: names with one more.
-/
import Derived.Test.YtchokfgffnomoaaDoorMName
import Derived.Laws.AppendOwnNone
namespace Go.Proofs.YtchokfgffnomoaaDoor.Lx
open Go.RowKit
open P (locB regB wth)
set_option maxRecDepth 100000
set_option linter.unusedVariables false
set_option linter.unusedSimpArgs false
theorem Tryd.infoStr : (Tryd.prog.info? 9).map (fun i => (i.zero, i.size, i.bytes)) = some (some (.string ⟨#[]⟩), 1, 16) := by kernel_rfl
def WithTo (Q : Nat → Prop) (rs : List (List UInt8)) (w : World) (e : Ending) (w' : World) : Prop := ∃ v, e = .returned v ∧ Nms (fun b => Q b ∨ w.heap.size ≤ b) w' v rs ∧ Below w.heap.size w w'
/-- None of the first names is s. -/
def NotYet (rs : List (List UInt8)) (s : List UInt8) (k : Nat) : Prop := ∀ i, i < k → rs.getD i [] ≠ s
theorem wth_in {rs : List (List UInt8)} {s : List UInt8} {i : Nat} (hi : i < rs.length) (h : rs.getD i [] = s) : wth rs s = rs := by
  unfold P.wth
  rw [if_pos]
  rw [← h, List.getD_eq_getElem?_getD, List.getElem?_eq_getElem hi]
  exact List.getElem_mem hi
theorem wth_out {rs : List (List UInt8)} {s : List UInt8} (h : NotYet rs s rs.length) : wth rs s = rs ++ [s] := by
  unfold P.wth
  rw [if_neg]
  intro hm
  obtain ⟨i, hi, e⟩ := List.getElem_of_mem hm
  refine h i hi ?_
  rw [List.getD_eq_getElem?_getD, List.getElem?_eq_getElem hi]
  exact e
def strs (rs : List (List UInt8)) : List Value := rs.map fun s => .string (bs s)
theorem strs_one (rs : List (List UInt8)) : ∀ u ∈ strs rs, u.oneCell' = true := by
  intro u hu
  obtain ⟨s, _, rfl⟩ := List.mem_map.1 hu
  rfl
theorem strs_at (rs : List (List UInt8)) (j : Nat) (u : Value) (h : (strs rs)[j]? = some u) : j < rs.length ∧ u = .string (bs (rs.getD j [])) := by
  unfold strs at h
  rw [List.getElem?_map] at h
  cases e : rs[j]? with
  | none => rw [e] at h; cases h
  | some x =>
    rw [e] at h
    obtain ⟨hl, _⟩ := List.getElem?_eq_some_iff.1 e
    refine ⟨hl, ?_⟩
    rw [List.getD_eq_getElem?_getD, e]
    exact (Option.some.inj h).symm
/-- A row of strings of one's own is a slice of names. -/
theorem nms_own {w : World} {base g cap : Nat} {rs : List (List UInt8)} {Q : Nat → Prop} (h : w.ownsRow base 9 1 (.slice (some ⟨g, 0, none⟩) rs.length cap) rs.length (strs rs)) (hq : Q g) : Nms Q w (.slice (some ⟨g, 0, none⟩) rs.length cap) rs := by
  refine ⟨_, cap, rfl, ?_⟩
  rcases h.2 with ⟨h0, _⟩ | ⟨g', cap', cur, hv, hg, hh, hn, hcm, hs, ht⟩
  · cases h0
  · cases hv
    refine .inr ⟨g, 0, rfl, hq, fun i hi => ?_⟩
    have hB : Blk w g 9 cur := hh
    rw [Nat.zero_add, hB.cell]
    have h1 : (strs rs)[i]? = some (.string (bs (rs.getD i []))) := by
      unfold strs
      rw [List.getElem?_map, List.getD_eq_getElem?_getD, List.getElem?_eq_getElem hi]
      rfl
    rw [← ht, List.getElem?_take] at h1
    split at h1
    · simpa using h1
    · cases h1
theorem new_one1 (w : World) (u : Value) (t : TypeId) : ∀ j x, [u][j]? = some x → (w.alloc (.cells #[u] t)).cell? ((⟨w.heap.size, 0, none⟩ : Addr).add j) = some x := by
  intro j x h
  have hB := Blk.new w t #[u]
  have h2 := hB.cell j
  match j, h with
  | 0, h =>
    rw [show ((⟨w.heap.size, 0, none⟩ : Addr).add 0) = ⟨w.heap.size, 0, none⟩ by simp [Addr.add]]
    rw [h2]
    simpa using h
  | j + 1, h => simp at h
theorem ownk {k n : Nat} {v : Value} (h : v.ownBlock = some k) (hv : ∀ k, v.ownBlock = some k → n ≤ k) : n ≤ k := hv k h
end Go.Proofs.YtchokfgffnomoaaDoor.Lx
