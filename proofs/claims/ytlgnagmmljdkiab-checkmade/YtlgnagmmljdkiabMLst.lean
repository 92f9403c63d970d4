/-
  Lists of one's own that grow at their end, whatever lies in them.
-/
import Derived.Test.YtlgnagmmljdkiabMExpr
import Derived.Test.YtlgnagmmljdkiabQSame
namespace Go.Proofs.Ytlgnagmmljdkiab.Lx
open Go.RowKit
open P (EX CO ST PG)
set_option maxRecDepth 100000
set_option linter.unusedVariables false
set_option linter.unusedSimpArgs false
section
variable {α : Type}
/-- A list of one's own, made since base. -/
def Lst (sz : Nat) (mk : List Value → Value) (Val : (Nat → Prop) → World → Value → α → Prop) (ty : TypeId) (base : Nat) (w : World) (l : Value) (es : List α) : Prop :=
  ∃ vals, w.ownsRow base ty sz l es.length vals ∧ RowsV sz mk Val (fun b => base ≤ b ∧ l.ownBlock ≠ some b) w vals es
variable {sz : Nat} {mk : List Value → Value} {Val : (Nat → Prop) → World → Value → α → Prop} {ty : TypeId} {base : Nat} {w : World} {l : Value} {es : List α}
theorem Lst.nil : Lst sz mk Val ty base w (.slice none 0 0) ([] : List α) := ⟨[], World.ownsRow_nil _ _ _ _, rfl⟩
theorem Lst.keep (h : Lst sz mk Val ty base w l es) (hV : StepV Val) {S : Nat → Prop} {w' : World} (ho : Only S w w') (hS : ∀ b, base ≤ b → b < w.heap.size → ¬ S b) : Lst sz mk Val ty base w' l es := by
  obtain ⟨vals, h1, h2⟩ := h
  exact ⟨vals, own_only h1 ho (fun k hk => hS k (h1.lt k hk).1 (h1.lt k hk).2), RowsV.step sz mk Val hV (fun b hb hl => ⟨hb, ho.block b hl (hS b hb.1 hl)⟩) _ _ h2⟩
theorem Lst.below (h : Lst sz mk Val ty base w l es) (hV : StepV Val) {w' : World} (hb : Below w.heap.size w w') : Lst sz mk Val ty base w' l es := h.keep hV (S := fun _ => False) (.of_below hb) (fun _ _ _ => id)
theorem Lst.snoc {vals cs : List Value} {a : α} (h1 : w.ownsRow base ty sz l es.length vals) (h2 : RowsV sz mk Val (fun b => base ≤ b ∧ l.ownBlock ≠ some b) w vals es) (hV : StepV Val) (hcs : cs.length = sz) (hv : Val (fun b => base ≤ b ∧ l.ownBlock ≠ some b) w (mk cs) a)
    {w2 : World} {o : Obj} {g2 cap n : Nat} (hn : n = es.length + 1) (hgr : (w.alloc o).grownBy w2 l.ownBlock) (how : w2.ownsRow base ty sz (.slice (some ⟨g2, 0, none⟩) n cap) n (vals ++ cs)) (hat : l.ownBlock = some g2 ∨ g2 = w.heap.size + 1) :
    Lst sz mk Val ty base w2 (.slice (some ⟨g2, 0, none⟩) n cap) (es ++ [a]) := by
  subst hn
  have hO2 : Only (fun b => l.ownBlock = some b) w w2 := ((Only.refl _ w).alloc o).grown' hgr (fun k hk => .inl hk)
  have hsame : Same (fun b => base ≤ b ∧ l.ownBlock ≠ some b) (fun b => base ≤ b ∧ (Value.slice (some ⟨g2, 0, none⟩) (es.length + 1) cap).ownBlock ≠ some b) w w2 := by
    intro b hb hl
    refine ⟨⟨hb.1, fun e => ?_⟩, hO2.block b hl hb.2⟩
    have e' : g2 = b := Option.some.inj e
    subst e'
    rcases hat with h | h
    · exact hb.2 h
    · omega
  refine ⟨vals ++ cs, by simpa using how, ?_⟩
  exact RowsV.snoc sz mk Val hcs (hV hsame hv) _ _ (RowsV.step sz mk Val hV hsame _ _ h2)
end
theorem xStep : StepV LX := by
  intro Q Q' w w' h v a hv
  have h1 := LX.mono (Q' := fun b => Q' b ∧ w'.heap[b]? = w.heap[b]?) (fun b hb hl => h b hb hl) a hv
  have h2 := LX.keep (w' := w') (fun b hb hl => hb.2) a h1
  exact LX.mono (fun b hb _ => hb.1) a h2
theorem nmsStep : StepV Nms := by
  intro Q Q' w w' h v a hv
  have h1 := Nms.mono (Q' := fun b => Q' b ∧ w'.heap[b]? = w.heap[b]?) hv (fun b hb hl => h b hb hl)
  have h2 := Nms.keep (w' := w') h1 (fun b hb hl => hb.2)
  exact Nms.mono h2 (fun b hb _ => hb.1)
theorem ssStep : StepV IsSs := by
  intro Q Q' w w' h v a hv
  exact IsSs.step h hv
/-- Statements in a list of one's own are a slice of statements. -/
theorem Lst.isSs {base : Nat} {w : World} {l : Value} {es : List ST} (h : Lst 7 agg LS 45 base w l es) : IsSs (From base) w l es := by
  obtain ⟨vals, h1, h3⟩ := h
  have hm := own_max h1
  by_cases h0 : es = []
  · obtain ⟨a, c, rfl⟩ := slice_of_own h1
    exact ⟨a, c, rfl, hm, .inl h0⟩
  · obtain ⟨gl, cap, rfl, hgb, hgl⟩ := h1.form (by cases es with
      | nil => exact absurd rfl h0
      | cons x xs => simp)
    refine ⟨_, cap, rfl, hm, .inr ⟨gl, 0, rfl, hgb, ?_⟩⟩
    exact LSs.mono (fun b hb _ => hb.1) es (rowsS es vals 0 h3 (own_cells h1))
end Go.Proofs.Ytlgnagmmljdkiab.Lx
