/-
  What SameTokens of the document's answer tells of tokens that are alike, as a contract; and how tokens and faults are compared.
-/
import Derived.Test.YtgobcflfhabdhaaGreatDoorLMem
import Derived.Laws.StructEq
namespace Go.Proofs.YtgobcflfhabdhaaGreatDoor.Lx
open Go.RowKit
set_option maxRecDepth 100000
set_option linter.unusedVariables false
set_option linter.unusedSimpArgs false
theorem Tryz.eqUnderTok : Tryz.prog.underlying 104 = some (.struct (Tryz.prog.fieldsOf 104)) := by kernel_rfl
theorem Tryz.eqFieldsTok : (Tryz.prog.fieldsOf 104).toList.map (fun f => (f.name, f.type, f.offset)) = [("Kind", 3, 0), ("Text", 9, 1), ("N", 3, 2), ("At", 3, 3)] := by kernel_rfl
theorem Tryz.eqHeldTok : Tryz.prog.stoodInHeld 104 = false := by kernel_rfl
theorem Tryz.eqUnderFlt : Tryz.prog.underlying 37 = some (.struct (Tryz.prog.fieldsOf 37)) := by kernel_rfl
theorem Tryz.eqFieldsFlt : (Tryz.prog.fieldsOf 37).toList.map (fun f => (f.name, f.type, f.offset)) = [("Err", 35, 0), ("At", 3, 1)] := by kernel_rfl
theorem Tryz.eqHeldFlt : Tryz.prog.stoodInHeld 37 = false := by kernel_rfl
theorem eqTok (a c d a' c' d' : Int) (b b' : ByteArray) (w : World) : (Op.equalIn 10000 104 (.agg #[.int .i64 a, .string b, .int .i64 c, .int .i64 d]) (.agg #[.int .i64 a', .string b', .int .i64 c', .int .i64 d'])).run Tryz.prog w = .ok (a == a' && (b.toList == b'.toList && (c == c' && d == d'))) w := by
  rw [run_equalIn_agg w 9999 _ _ _ Tryz.eqUnderTok Tryz.eqHeldTok]
  have h := Tryz.eqFieldsTok
  have u3 := Tryz.underlying3
  have a3 := Tryz.isAgg3
  have z3 := Tryz.sizeOf3
  have u9 := Tryz.underlying9
  have a9 := Tryz.isAgg9
  have z9 := Tryz.sizeOf9
  generalize (Tryz.prog.fieldsOf 104).toList = fs at *
  rcases fs with _ | ⟨f0, _ | ⟨f1, _ | ⟨f2, _ | ⟨f3, _ | ⟨f4, fs⟩⟩⟩⟩⟩ <;> simp only [List.map_cons, List.map_nil, List.cons.injEq, Prod.mk.injEq, and_true, reduceCtorEq, and_false] at h
  obtain ⟨⟨n0, t0, o0⟩, ⟨n1, t1, o1⟩, ⟨n2, t2, o2⟩, n3, t3, o3⟩ := h
  simp only [Op.eqFields, n0, t0, o0, n1, t1, o1, n2, t2, o2, n3, t3, o3]
  clear n0 t0 o0 n1 t1 o1 n2 t2 o2 n3 t3 o3
  go_simp
  by_cases h1 : a = a' <;> by_cases h2 : b.toList = b'.toList <;> by_cases h3 : c = c' <;> by_cases h4 : d = d' <;> simp [h1, h2, h3, h4]
theorem eqFlt (a d a' d' : Int) (w : World) : (Op.equalIn 10000 37 (.agg #[.int .i64 a, .int .i64 d]) (.agg #[.int .i64 a', .int .i64 d'])).run Tryz.prog w = .ok (a == a' && d == d') w := by
  rw [run_equalIn_agg w 9999 _ _ _ Tryz.eqUnderFlt Tryz.eqHeldFlt]
  have h := Tryz.eqFieldsFlt
  have u3 := Tryz.underlying3
  have a3 := Tryz.isAgg3
  have z3 := Tryz.sizeOf3
  have u9 := Tryz.underlying35
  have a9 := Tryz.isAgg35
  have z9 := Tryz.sizeOf35
  generalize (Tryz.prog.fieldsOf 37).toList = fs at *
  rcases fs with _ | ⟨f0, _ | ⟨f1, _ | ⟨f2, fs⟩⟩⟩ <;> simp only [List.map_cons, List.map_nil, List.cons.injEq, Prod.mk.injEq, and_true, reduceCtorEq, and_false] at h
  obtain ⟨⟨n0, t0, o0⟩, n1, t1, o1⟩ := h
  simp only [Op.eqFields, n0, t0, o0, n1, t1, o1]
  clear n0 t0 o0 n1 t1 o1
  go_simp
  by_cases h1 : a = a' <;> by_cases h4 : d = d' <;> simp [h1, h4]
theorem eqTok_self (a c d : Int) (b : ByteArray) : ∀ w : World, (Op.equalIn 10000 104 (.agg #[.int .i64 a, .string b, .int .i64 c, .int .i64 d]) (.agg #[.int .i64 a, .string b, .int .i64 c, .int .i64 d])).run Tryz.prog w = .ok true w := fun w => by
  rw [eqTok]
  simp
theorem eqFlt_self (a d : Int) : ∀ w : World, (Op.equalIn 10000 37 (.agg #[.int .i64 a, .int .i64 d]) (.agg #[.int .i64 a, .int .i64 d])).run Tryz.prog w = .ok true w := fun w => by
  rw [eqFlt]
  simp
/-- A token's four cells, in memory. -/
def Four (w : World) (g o : Nat) (t : L.Tok) : Prop := w.cell? ⟨g, o, none⟩ = some (.int .i64 t.kind) ∧ w.cell? ⟨g, o + 1, none⟩ = some (.string (bs t.text)) ∧ w.cell? ⟨g, o + 2, none⟩ = some (.int .i64 t.n) ∧ w.cell? ⟨g, o + 3, none⟩ = some (.int .i64 t.at')
theorem own_row {w : World} {base : Nat} {v : Value} {ts : List L.Tok} (h : Own w base v ts) (h0 : 0 < ts.length) : ∃ g cap, v = .slice (some ⟨g, 0, none⟩) ts.length cap ∧ base ≤ g ∧ g < w.heap.size ∧ ∀ i, i < ts.length → Four w g (i * 4) (tat ts i) := by
  rcases h.2 with ⟨_, hz⟩ | ⟨g, cap, cur, rfl, hg, hh, hn, hcm, hs, ht⟩
  · omega
  · refine ⟨g, cap, rfl, hg, lt_of_block hh, ?_⟩
    intro i hi
    have hB : Blk w g 104 cur := hh
    obtain ⟨a0, a1, a2, a3⟩ := flat_at ts i hi
    have key : ∀ k v, (flat ts)[k]? = some v → w.cell? ⟨g, k, none⟩ = some v := by
      intro k v hv
      rw [hB.cell]
      rw [← ht, List.getElem?_take] at hv
      split at hv
      · simpa using hv
      · cases hv
    exact ⟨key _ _ a0, key _ _ a1, key _ _ a2, key _ _ a3⟩
theorem own_max {w : World} {base : Nat} {t : TypeId} {size n : Nat} {v : Value} {xs : List Value} (h : w.ownsRow base t size v n xs) : n ≤ maxLen := by
  rcases h.2 with ⟨_, rfl⟩ | ⟨g, cap, cur, _, _, _, hn, hm, _⟩
  · exact Nat.zero_le _
  · omega
/-- A Bool is told; orders may be drawn. -/
def SameTo (b : Bool) (w : World) (e : Ending) (w' : World) : Prop := e = .returned (.bool b) ∧ ∃ n, w' = w.drewN n
end Go.Proofs.YtgobcflfhabdhaaGreatDoor.Lx
