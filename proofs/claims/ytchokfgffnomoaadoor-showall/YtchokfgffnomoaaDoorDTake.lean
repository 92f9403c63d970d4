/-
  What take of the developers' cursor tells, whatever may follow, and by it a name, a number, a mode.
-/
import Derived.Test.YtchokfgffnomoaaDoorDMem
namespace Go.Proofs.YtchokfgffnomoaaDoor.Lx
open Go.RowKit
open L (Tok)
open P (EX CO ST)
set_option maxRecDepth 100000
set_option linter.unusedVariables false
set_option linter.unusedSimpArgs false
/-- A method of the cursor, as a value. -/
abbrev mval (F C : Nat) : Value := .func (.func F) #[.pointer (some ⟨C, 0, none⟩)] #[]
def takeR (b : Bool) : Sta → P.Res Tok
  | .ok (t :: r) => if b then .ok (t, r) else .error t.at'
  | .ok [] => .error 0
  | .error q => .error q
theorem takeR_no (st : Sta) : left (takeR false st) = dead st := by
  rcases st with q | ts
  · rfl
  · cases ts <;> rfl
theorem live_of_kind {st : Sta} (h0 : (nxt st).kind ≠ 0) : ∃ t r, st = .ok (t :: r) := by
  rcases st with q | ts
  · exact absurd rfl h0
  · cases ts with
    | nil => exact absurd rfl h0
    | cons t r => exact ⟨t, r, rfl⟩
theorem name_takeR (st : Sta) : left (takeR (onN st) st) = left (on st P.pName) ∧ ∀ s ts, on st P.pName = .ok (s, ts) → ∃ t, takeR (onN st) st = .ok (t, ts) ∧ t.text = s := by
  rcases st with q | ts
  · exact ⟨rfl, fun _ _ h => by cases h⟩
  · cases ts with
    | nil => exact ⟨rfl, fun _ _ h => by cases h⟩
    | cons t r =>
      show left (if P.isN (t :: r) = true then .ok (t, r) else .error t.at') = left (if P.isN (t :: r) = true then .ok (t.text, r) else .error t.at') ∧ ∀ s ts, (if P.isN (t :: r) = true then (.ok (t.text, r) : P.Res (List UInt8)) else .error t.at') = .ok (s, ts) → ∃ t', (if P.isN (t :: r) = true then (.ok (t, r) : P.Res Tok) else .error t.at') = .ok (t', ts) ∧ t'.text = s
      cases P.isN (t :: r) with
      | false => exact ⟨rfl, fun _ _ h => by cases h⟩
      | true => exact ⟨rfl, fun _ _ h => by cases h; exact ⟨t, rfl, rfl⟩⟩
theorem num_takeR (st : Sta) : left (takeR (onD st) st) = left (on st P.pNum) ∧ ∀ s ts, on st P.pNum = .ok (s, ts) → ∃ t, takeR (onD st) st = .ok (t, ts) ∧ t.n = s := by
  rcases st with q | ts
  · exact ⟨rfl, fun _ _ h => by cases h⟩
  · cases ts with
    | nil => exact ⟨rfl, fun _ _ h => by cases h⟩
    | cons t r =>
      show left (if P.isD (t :: r) = true then .ok (t, r) else .error t.at') = left (if P.isD (t :: r) = true then .ok (t.n, r) else .error t.at') ∧ ∀ s ts, (if P.isD (t :: r) = true then (.ok (t.n, r) : P.Res Nat) else .error t.at') = .ok (s, ts) → ∃ t', (if P.isD (t :: r) = true then (.ok (t, r) : P.Res Tok) else .error t.at') = .ok (t', ts) ∧ t'.n = s
      cases P.isD (t :: r) with
      | false => exact ⟨rfl, fun _ _ h => by cases h⟩
      | true => exact ⟨rfl, fun _ _ h => by cases h; exact ⟨t, rfl, rfl⟩⟩
/-! ### modes -/
/-- The mode of a text, and whether it is one. -/
def modeP (s : List UInt8) : Nat × Bool :=
  bif s == P.modeT 0 then (0, true) else bif s == P.modeT 1 then (1, true) else bif s == P.modeT 2 then (2, true) else bif s == P.modeT 3 then (3, true) else bif s == P.modeT 4 then (4, true) else (0, false)
def ModeD (s : List UInt8) (w : World) (e : Ending) (w' : World) : Prop := e = .returned (.tuple #[.int .i64 ((modeP s).1 : Nat), .bool (modeP s).2]) ∧ w = w'
def onM (st : Sta) : Bool := (modeP (nxt st).text).2
theorem mode_wordy : wordy (P.modeT 0) = true ∧ wordy (P.modeT 1) = true ∧ wordy (P.modeT 2) = true ∧ wordy (P.modeT 3) = true ∧ wordy (P.modeT 4) = true := by decide
end Go.Proofs.YtchokfgffnomoaaDoor.Lx
