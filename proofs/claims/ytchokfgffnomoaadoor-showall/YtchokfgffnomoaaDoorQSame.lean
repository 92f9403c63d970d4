/-
  What SameProg of the document's answer tells of programs that are alike, as a contract.
-/
import Derived.Test.YtchokfgffnomoaaDoorDR
import Derived.Test.YtchokfgffnomoaaDoorPSameS
namespace Go.Proofs.YtchokfgffnomoaaDoor.Lx
open Go.RowKit
open L (Tok)
open P (EX CO ST PG)
set_option maxRecDepth 100000
set_option linter.unusedVariables false
set_option linter.unusedSimpArgs false
theorem Tryd.eqUnderCell : Tryd.prog.underlying 65 = some (.struct (Tryd.prog.fieldsOf 65)) := by kernel_rfl
theorem Tryd.eqFieldsCell : (Tryd.prog.fieldsOf 65).toList.map (fun f => (f.name, f.type, f.offset)) = [("Loc", 9, 0), ("N", 3, 1)] := by kernel_rfl
theorem Tryd.eqHeldCell : Tryd.prog.stoodInHeld 65 = false := by kernel_rfl
theorem eqCell (d d' : Int) (b b' : ByteArray) (w : World) : (Op.equalIn 10000 65 (.agg #[.string b, .int .i64 d]) (.agg #[.string b', .int .i64 d'])).run Tryd.prog w = .ok (b.toList == b'.toList && d == d') w := by
  rw [run_equalIn_agg w 9999 _ _ _ Tryd.eqUnderCell Tryd.eqHeldCell]
  have h := Tryd.eqFieldsCell
  have u3 := Tryd.underlying3
  have a3 := Tryd.isAgg3
  have z3 := Tryd.sizeOf3
  have u9 := Tryd.underlying9
  have a9 := Tryd.isAgg9
  have z9 := Tryd.sizeOf9
  generalize (Tryd.prog.fieldsOf 65).toList = fs at *
  rcases fs with _ | ⟨f0, _ | ⟨f1, _ | ⟨f2, fs⟩⟩⟩ <;> simp only [List.map_cons, List.map_nil, List.cons.injEq, Prod.mk.injEq, and_true, reduceCtorEq, and_false] at h
  obtain ⟨⟨n0, t0, o0⟩, n1, t1, o1⟩ := h
  simp only [Op.eqFields, n0, t0, o0, n1, t1, o1]
  clear n0 t0 o0 n1 t1 o1
  go_simp
  by_cases h1 : b.toList = b'.toList <;> by_cases h4 : d = d' <;> simp [h1, h4]
theorem eqCell_self (d : Int) (b : ByteArray) : ∀ w : World, (Op.equalIn 10000 65 (.agg #[.string b, .int .i64 d]) (.agg #[.string b, .int .i64 d])).run Tryd.prog w = .ok true w := fun w => by
  rw [eqCell]
  simp
theorem LEs.at {w : World} : ∀ (es : List CE) {g off : Nat}, LEs w g off es → ∀ i, i < es.length → ∃ e : CE, es[i]? = some e ∧ w.cell? ⟨g, off + i * 2, none⟩ = some (.string (bs e.1)) ∧ w.cell? ⟨g, off + i * 2 + 1, none⟩ = some (.int .i64 e.2)
  | [], g, off, h, i, hi => by simp at hi
  | x :: es, g, off, h, 0, hi => ⟨x, rfl, by simpa using h.1.1, by simpa using h.1.2⟩
  | x :: es, g, off, h, i + 1, hi => by
    obtain ⟨e, he, h0, h1⟩ := LEs.at es h.2 i (by simpa using hi)
    refine ⟨e, by simpa using he, ?_, ?_⟩
    · rw [show off + (i + 1) * 2 = off + 2 + i * 2 by omega]; exact h0
    · rw [show off + (i + 1) * 2 + 1 = off + 2 + i * 2 + 1 by omega]; exact h1
theorem LTs.at {Q : Nat → Prop} {w : World} : ∀ (es : List (List ST)) {g off : Nat}, LTs Q w g off es → ∀ i, i < es.length → ∃ e v, es[i]? = some e ∧ w.cell? ⟨g, off + i, none⟩ = some v ∧ IsSs Q w v e
  | [], g, off, h, i, hi => by simp at hi
  | x :: es, g, off, h, 0, hi => by
    obtain ⟨⟨v, h1, h2⟩, _⟩ := h
    exact ⟨x, v, rfl, by simpa using h1, h2⟩
  | x :: es, g, off, h, i + 1, hi => by
    obtain ⟨e, v, he, h0, h1⟩ := LTs.at es h.2 i (by simpa using hi)
    exact ⟨e, v, by simpa using he, by rw [show off + (i + 1) = off + 1 + i by omega]; exact h0, h1⟩
/-- Nothing old turns: programs stay. -/
theorem LPg.below {Q : Nat → Prop} {w w' : World} {v : Value} {p : PG} (h : LPg Q w v p) (hb : Below w.heap.size w w') : LPg Q w' v p := h.step (fun b hq hl => ⟨hq, hb.block b hl⟩)
end Go.Proofs.YtchokfgffnomoaaDoor.Lx
