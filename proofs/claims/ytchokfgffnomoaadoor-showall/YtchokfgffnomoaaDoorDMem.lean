/-
  The developers' cursor over tokens, as memory has it, and what next, refuse, at, pass, want and the calls that ask what may follow tell: contracts.
-/
import Derived.Test.YtchokfgffnomoaaDoorPB
import Derived.Test.YtchokfgffnomoaaDoorPA
namespace Go.Proofs.YtchokfgffnomoaaDoor.Lx
open Go.RowKit
open L (Tok)
open P (EX CO ST)
set_option maxRecDepth 100000
set_option linter.unusedVariables false
set_option linter.unusedSimpArgs false
/-- What is left, or the place of the token that doesn't go on. -/
abbrev Sta := Except Nat (List Tok)
def ferr : Sta → Int
  | .ok _ => 0
  | .error _ => 2
def fat : Sta → Int
  | .ok _ => 0
  | .error p => (p : Nat)
/-- The tokens ahead. -/
def Ah (g : Nat) (TS : List Tok) (a : Option Addr) (n c : Nat) : Sta → Prop
  | .ok ts => ∃ k, ts = TS.drop k ∧ k < TS.length ∧ n = TS.length - k ∧ a = some ⟨g, k * 4, none⟩ ∧ n ≤ c
  | .error _ => n = 0
/-- Words begin with letters; only words and signs have texts that begin otherwise than digits do. -/
def Fine (t : Tok) : Prop := (t.kind = 1 ∧ ∃ b r, t.text = b :: r ∧ L.letB b = true) ∨ t.kind = 3 ∨ (t.kind = 2 ∧ ∃ b r, t.text = b :: r ∧ L.digB b = true) ∨ (t.kind = 4 ∧ t.text = [])
/-- A keyword's, a sign's text. -/
def wordy : List UInt8 → Bool
  | [] => false
  | b :: _ => !L.digB b
/-- The token ahead. -/
def nxt : Sta → Tok
  | .ok (t :: _) => t
  | _ => ⟨0, [], 0, 0⟩
def tokV (t : Tok) : Value := .agg #[.int .i64 t.kind, .string (bs t.text), .int .i64 t.n, .int .i64 t.at']
def NextD (st : Sta) (w : World) (e : Ending) (w' : World) : Prop := e = .returned (tokV (nxt st)) ∧ Below w.heap.size w w'
/-- Nothing goes on any more. -/
def dead : Sta → Sta
  | .ok ts => .error (P.here ts)
  | .error q => .error q
theorem nxt_at {ts : List Tok} : (nxt (.ok ts)).at' = P.here ts := by cases ts <;> rfl
/-- Behind that token. -/
def tl : Sta → Sta
  | .ok ts => .ok ts.tail
  | .error q => .error q
theorem onIs_live {s : List UInt8} {st : Sta} (h : onIs s st = true) : ∃ t r, st = .ok (t :: r) ∧ t.kind ≠ 4 := by
  rcases st with q | ts
  · cases h
  · cases ts with
    | nil => cases h
    | cons t r => exact ⟨t, r, rfl, isS_kind (s := s) (r := r) h⟩
theorem onNeed_yes {s : List UInt8} {st : Sta} (h : onIs s st = true) : onNeed s st = tl st := by
  obtain ⟨t, r, rfl, _⟩ := onIs_live h
  show P.need s (t :: r) = _
  have h' : P.isS s (t :: r) = true := h
  rw [P.need, h']
  rfl
theorem onNeed_no {s : List UInt8} {st : Sta} (h : onIs s st = false) : onNeed s st = dead st := by
  rcases st with q | ts
  · rfl
  · have h' : P.isS s ts = false := h
    show P.need s ts = _
    rw [P.need, h']
    rfl
/-- What stands ahead, whatever the state. -/
def onN : Sta → Bool
  | .ok ts => P.isN ts
  | .error _ => false
def onD : Sta → Bool
  | .ok ts => P.isD ts
  | .error _ => false
def onE (st : Sta) : Bool := (nxt st).kind == 4
theorem onN_nxt (st : Sta) : onN st = ((nxt st).kind == 1 && !kwB (nxt st).text) := by
  rcases st with q | ts
  · rfl
  · cases ts <;> rfl
theorem onD_nxt (st : Sta) : onD st = ((nxt st).kind == 2) := by
  rcases st with q | ts
  · rfl
  · cases ts <;> rfl
end Go.Proofs.YtchokfgffnomoaaDoor.Lx
