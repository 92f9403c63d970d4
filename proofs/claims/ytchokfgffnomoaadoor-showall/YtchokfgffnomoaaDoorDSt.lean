/-
  stmt of the developers' cursor: contracts.
-/
import Derived.Test.YtchokfgffnomoaaDoorDStmt
namespace Go.Proofs.YtchokfgffnomoaaDoor.Lx
open Go.RowKit
open L (Tok)
open P (EX CO ST)
set_option maxRecDepth 100000
set_option linter.unusedVariables false
set_option linter.unusedSimpArgs false
theorem left_ahead (q : Nat) (x : P.Res (ST × List Nat)) : left (P.ahead q x) = left x := by
  rcases x with p | ⟨⟨a, b⟩, r⟩ <;> rfl
theorem ahead_ok {q : Nat} {x : P.Res (ST × List Nat)} {s : ST} {qs : List Nat} {t : List Tok} (h : P.ahead q x = .ok ((s, qs), t)) : ∃ q1, x = .ok ((s, q1), t) ∧ qs = q :: q1 := by
  rcases x with p | ⟨⟨a, b⟩, r⟩
  · cases h
  · cases h
    exact ⟨_, rfl, rfl⟩
theorem store_eq (st : Sta) : left (on st P.storeF) = left (on (left (on st accF)) P.pExpr) ∧ ∀ s ts, on st P.storeF = .ok (s, ts) → ∃ m l r x, on st accF = .ok ((m, l), r) ∧ on (left (on st accF)) P.pExpr = .ok (x, ts) ∧ s = .mk 3 m [] l [x] [] [] := by
  rcases st with q | ts
  · exact ⟨rfl, fun _ _ h => by cases h⟩
  · simp only [on, P.storeF, accF]
    cases P.pMode ts with
    | error p => exact ⟨rfl, fun _ _ h => by cases h⟩
    | ok x =>
      obtain ⟨m, r1⟩ := x
      simp only
      cases P.pName r1 with
      | error p => exact ⟨rfl, fun _ _ h => by cases h⟩
      | ok y =>
        obtain ⟨l, r2⟩ := y
        simp only [left]
        cases P.pExpr r2 with
        | error p => exact ⟨rfl, fun _ _ h => by cases h⟩
        | ok z => exact ⟨rfl, fun _ _ h => by cases h; exact ⟨_, _, _, _, rfl, rfl, rfl⟩⟩
theorem fence_eq (st : Sta) : left (on st P.fenceF) = left (on st P.pMode) ∧ ∀ s ts, on st P.fenceF = .ok (s, ts) → ∃ m, on st P.pMode = .ok (m, ts) ∧ s = .mk 6 (m : Nat) [] [] [] [] [] := by
  rcases st with q | ts
  · exact ⟨rfl, fun _ _ h => by cases h⟩
  · simp only [on, P.fenceF]
    cases P.pMode ts with
    | error p => exact ⟨rfl, fun _ _ h => by cases h⟩
    | ok x => exact ⟨rfl, fun _ _ h => by cases h; exact ⟨_, rfl, rfl⟩⟩
theorem set_eq {rg : List UInt8} {ts : List Tok} (h : ∀ a r, on (.ok ts) P.pName = .ok (a, r) → rg = a) : on (onNeed [61] (left (on (.ok ts) P.pName))) (P.rightF rg) = P.setF ts := by
  unfold P.setF
  simp only [on] at h ⊢
  cases h1 : P.pName ts with
  | error p => rfl
  | ok x =>
    obtain ⟨a, r⟩ := x
    obtain rfl := h a r h1
    simp only [left, onNeed]
    cases P.need [61] r <;> rfl
theorem agg7_inj {a b c d e f g a' b' c' d' e' f' g' : Value} (h : Value.agg #[a, b, c, d, e, f, g] = .agg #[a', b', c', d', e', f', g']) : a = a' ∧ b = b' ∧ c = c' ∧ d = d' ∧ e = e' ∧ f = f' ∧ g = g' := by
  injection h with h
  simpa using h
end Go.Proofs.YtchokfgffnomoaaDoor.Lx
