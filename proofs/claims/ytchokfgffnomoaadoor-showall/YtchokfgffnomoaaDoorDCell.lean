/-
  cell, thread, ask, the end: contracts of the developers' cursor.
-/
import Derived.Test.YtchokfgffnomoaaDoorDMany2
namespace Go.Proofs.YtchokfgffnomoaaDoor.P
open L (Tok)
set_option linter.unusedVariables false
set_option linter.unusedSimpArgs false
abbrev isInit (ts : List Tok) : Bool := isS [105, 110, 105, 116] ts
abbrev isThr (ts : List Tok) : Bool := isS [116, 104, 114, 101, 97, 100] ts
def cellF (ts : List Tok) : Res ((List UInt8 × Int) × List Nat) :=
  match need [105, 110, 105, 116] ts with
  | .error p => .error p
  | .ok r0 =>
    match pName r0 with
    | .error p => .error p
    | .ok (l, r1) =>
      match pNum r1 with
      | .error p => .error p
      | .ok (n, r2) => .ok (((l, (n : Int)), [here ts]), r2)
def threadF (ts : List Tok) : Res (List ST × List Nat) :=
  match need [116, 104, 114, 101, 97, 100] ts with
  | .error p => .error p
  | .ok r => pBlock r
theorem cellF_less : Less cellF := by
  intro ts a r h
  unfold cellF at h
  split at h
  · cases h
  · rename_i r0 h0
    have l0 := need_less h0
    split at h
    · cases h
    · rename_i l r1 h1
      have l1 := pName_less _ _ _ h1
      split at h
      · cases h
      · rename_i n r2 h2
        have l2 := pNum_less _ _ _ h2
        cases h
        omega
theorem threadF_less : Less threadF := by
  intro ts a r h
  unfold threadF at h
  split at h
  · cases h
  · rename_i r0 h0
    have l0 := need_less h0
    have l1 := blockF_less (stmtN_less _) _ _ _ h
    omega
theorem need_yes {s : List UInt8} {ts : List Tok} (h : isS s ts = true) : need s ts = .ok ts.tail := by rw [need, if_pos h]
theorem initL_run : ∀ (k : Nat) (ts : List Tok), initL k ts = runL isInit cellF k ts
  | 0, ts => rfl
  | k + 1, ts => by
    unfold initL runL
    cases h : isS [105, 110, 105, 116] ts with
    | false => simp [isInit, h]
    | true =>
      simp only [isInit, h, if_true, cellF, need_yes h]
      cases pName ts.tail with
      | error p => rfl
      | ok x =>
        obtain ⟨l, r1⟩ := x
        simp only
        cases pNum r1 with
        | error p => rfl
        | ok y =>
          obtain ⟨n, r2⟩ := y
          simp only
          rw [initL_run k r2]
          cases runL isInit cellF k r2 <;> rfl
theorem threadL_run : ∀ (k : Nat) (ts : List Tok), threadL k ts = runL isThr threadF k ts
  | 0, ts => rfl
  | k + 1, ts => by
    unfold threadL runL
    cases h : isS [116, 104, 114, 101, 97, 100] ts with
    | false => simp [isThr, h]
    | true =>
      simp only [isThr, h, if_true, threadF, need_yes h]
      cases pBlock ts.tail with
      | error p => rfl
      | ok x =>
        obtain ⟨⟨b, ps⟩, r1⟩ := x
        simp only
        rw [threadL_run k r1]
        cases runL isThr threadF k r1 <;> rfl
theorem runF_more {α : Type} {may : List Tok → Bool} {one : List Tok → Res (α × List Nat)} {ts : List Tok} (h0 : may [] = false) (hl : Less one) (h : may ts = true) : runF may one ts = moreR (runF may one) (one ts) := by
  have := glue_more h0 hl h [] []
  rw [glue_nil] at this
  rw [this]
  rcases one ts with p | ⟨⟨a, q⟩, r⟩ <;> rfl
theorem Gl_stop {α : Type} {may : List Tok → Bool} {one : List Tok → Res (α × List Nat)} {r : Res (List α × List Nat)} (h : ∀ a ts, r = .ok (a, ts) → may ts = false) : Gl (runF may one) r = r := by
  rcases r with p | ⟨⟨l, q⟩, ts⟩
  · rfl
  · exact glue_stop (h _ ts rfl) l q
end Go.Proofs.YtchokfgffnomoaaDoor.P
namespace Go.Proofs.YtchokfgffnomoaaDoor.Lx
open Go.RowKit
open L (Tok)
open P (EX CO ST Gl nextR)
set_option maxRecDepth 100000
set_option linter.unusedVariables false
set_option linter.unusedSimpArgs false
theorem cell_eq (ts : List Tok) : left (P.cellF ts) = left (on (left (on (onNeed [105, 110, 105, 116] (.ok ts)) P.pName)) P.pNum) ∧ ∀ a qs t, P.cellF ts = .ok ((a, qs), t) → ∃ l r n, on (onNeed [105, 110, 105, 116] (.ok ts)) P.pName = .ok (l, r) ∧ on (left (on (onNeed [105, 110, 105, 116] (.ok ts)) P.pName)) P.pNum = .ok (n, t) ∧ a = (l, ((n : Nat) : Int)) ∧ qs = [P.here ts] := by
  unfold P.cellF
  simp only [onNeed]
  cases P.need [105, 110, 105, 116] ts with
  | error p => exact ⟨rfl, fun _ _ _ h => by cases h⟩
  | ok r0 =>
    simp only [on]
    cases P.pName r0 with
    | error p => exact ⟨rfl, fun _ _ _ h => by cases h⟩
    | ok x =>
      obtain ⟨l, r1⟩ := x
      simp only [left]
      cases P.pNum r1 with
      | error p => exact ⟨rfl, fun _ _ _ h => by cases h⟩
      | ok y => exact ⟨rfl, fun _ _ _ h => by cases h; exact ⟨_, _, _, rfl, rfl, rfl, rfl⟩⟩
theorem Only.put2 {S : Nat → Prop} {a b : World} (h : Only S a b) {R : Nat} (hR : S R ∨ a.heap.size ≤ R) (u0 u1 : Value) : Only S a ((b.setCell ⟨R, 0, none⟩ u0).setCell ⟨R, 1, none⟩ u1) :=
  (h.setCell (p := ⟨R, 0, none⟩) hR _).setCell (p := ⟨R, 1, none⟩) hR _
theorem put2 {w : World} {R : Nat} {t : TypeId} {a b a' b' : Value} (hh : Blk w R t #[a, b]) : Blk ((w.setCell ⟨R, 0, none⟩ a').setCell ⟨R, 1, none⟩ b') R t #[a', b'] := (hh.set 0 a').set 1 b'
theorem thread_eq (ts : List Tok) : on (onNeed [116, 104, 114, 101, 97, 100] (.ok ts)) P.pBlock = P.threadF ts := by
  unfold P.threadF
  simp only [onNeed]
  cases P.need [116, 104, 114, 101, 97, 100] ts <;> rfl
theorem ask_exists {st : Sta} (h : onIs [101, 120, 105, 115, 116, 115] st = true) : on st P.askF = (match tl st with | .error q => .error q | .ok r => .ok (1, r)) := by
  obtain ⟨t, r, rfl, _⟩ := onIs_live h
  have h' : P.isS [101, 120, 105, 115, 116, 115] (t :: r) = true := h
  have h2 := P.isS_one h' (s' := [102, 111, 114, 97, 108, 108]) (by decide)
  simp only [on, P.askF, h2, Bool.false_eq_true, if_false, P.need_yes h', tl]
theorem ask_forall {st : Sta} (h : onIs [102, 111, 114, 97, 108, 108] st = true) : on st P.askF = (match tl st with | .error q => .error q | .ok r => .ok (2, r)) := by
  obtain ⟨t, r, rfl, _⟩ := onIs_live h
  have h' : P.isS [102, 111, 114, 97, 108, 108] (t :: r) = true := h
  simp only [on, P.askF, h', if_true, tl]
theorem ask_no {st : Sta} (h1 : onIs [101, 120, 105, 115, 116, 115] st = false) (h2 : onIs [102, 111, 114, 97, 108, 108] st = false) : left (on st P.askF) = dead st ∧ ∀ a ts, on st P.askF ≠ .ok (a, ts) := by
  rcases st with q | ts
  · exact ⟨rfl, fun _ _ h => by cases h⟩
  · have h1' : P.isS [101, 120, 105, 115, 116, 115] ts = false := h1
    have h2' : P.isS [102, 111, 114, 97, 108, 108] ts = false := h2
    simp only [on, P.askF, h2', P.need, h1', Bool.false_eq_true, if_false]
    exact ⟨rfl, fun _ _ h => by cases h⟩
theorem left_tl (k : Nat) (st : Sta) : left (match tl st with | .error q => (.error q : P.Res Nat) | .ok r => .ok (k, r)) = tl st := by
  rcases st with q | ts <;> rfl
theorem ok_tl {k m : Nat} {st : Sta} {ts : List Tok} (h : (match tl st with | .error q => (.error q : P.Res Nat) | .ok r => .ok (k, r)) = .ok (m, ts)) : k = m := by
  rcases st with q | ts'
  · cases h
  · cases h
    rfl
end Go.Proofs.YtchokfgffnomoaaDoor.Lx
