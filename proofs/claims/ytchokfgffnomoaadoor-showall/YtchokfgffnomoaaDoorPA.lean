/-
  What Keyword and Name tell, of package lex and of the document's answer, as contracts.
-/
import Derived.Test.YtchokfgffnomoaaDoorLMem
namespace Go.Proofs.YtchokfgffnomoaaDoor.Lx
open Go.RowKit
set_option maxRecDepth 100000
set_option linter.unusedVariables false
set_option linter.unusedSimpArgs false
/-- All keywords. -/
def kws : List (List UInt8) := [[108, 105, 116, 109, 117, 115], [118, 97, 108, 117, 101, 115], [105, 110, 105, 116], [116, 104, 114, 101, 97, 100], [108, 111, 97, 100], [97, 100, 100], [99, 97, 115], [115, 116, 111, 114, 101], [102, 101, 110, 99, 101], [105, 102], [101, 108, 115, 101], [101, 120, 105, 115, 116, 115], [102, 111, 114, 97, 108, 108], [97, 110, 100], [111, 114], [110, 111, 116], [114, 108, 120], [97, 99, 113], [114, 101, 108], [97, 99, 113, 114, 101, 108], [115, 99]]
def kwB (l : List UInt8) : Bool := kws.any (l == ·)
theorem kw_or (l : List UInt8) : kwB l = decide (l = [108, 105, 116, 109, 117, 115] ∨ l = [118, 97, 108, 117, 101, 115] ∨ l = [105, 110, 105, 116] ∨ l = [116, 104, 114, 101, 97, 100] ∨ l = [108, 111, 97, 100] ∨ l = [97, 100, 100] ∨ l = [99, 97, 115] ∨ l = [115, 116, 111, 114, 101] ∨ l = [102, 101, 110, 99, 101] ∨ l = [105, 102] ∨ l = [101, 108, 115, 101] ∨ l = [101, 120, 105, 115, 116, 115] ∨ l = [102, 111, 114, 97, 108, 108] ∨ l = [97, 110, 100] ∨ l = [111, 114] ∨ l = [110, 111, 116] ∨ l = [114, 108, 120] ∨ l = [97, 99, 113] ∨ l = [114, 101, 108] ∨ l = [97, 99, 113, 114, 101, 108] ∨ l = [115, 99]) := by
  rw [Bool.eq_iff_iff]
  simp only [kwB, kws, List.any_cons, List.any_nil, Bool.or_eq_true, beq_iff_eq, Bool.false_eq_true, or_false, decide_eq_true_eq]
/-! ### the document's answer -/
def kwAt (j : Nat) : List UInt8 := kws.getD j []
def kwCells : Array Value := #[.string ⟨#[108, 105, 116, 109, 117, 115]⟩, .string ⟨#[118, 97, 108, 117, 101, 115]⟩, .string ⟨#[105, 110, 105, 116]⟩, .string ⟨#[116, 104, 114, 101, 97, 100]⟩, .string ⟨#[108, 111, 97, 100]⟩, .string ⟨#[97, 100, 100]⟩, .string ⟨#[99, 97, 115]⟩, .string ⟨#[115, 116, 111, 114, 101]⟩, .string ⟨#[102, 101, 110, 99, 101]⟩, .string ⟨#[105, 102]⟩, .string ⟨#[101, 108, 115, 101]⟩, .string ⟨#[101, 120, 105, 115, 116, 115]⟩, .string ⟨#[102, 111, 114, 97, 108, 108]⟩, .string ⟨#[97, 110, 100]⟩, .string ⟨#[111, 114]⟩, .string ⟨#[110, 111, 116]⟩, .string ⟨#[114, 108, 120]⟩, .string ⟨#[97, 99, 113]⟩, .string ⟨#[114, 101, 108]⟩, .string ⟨#[97, 99, 113, 114, 101, 108]⟩, .string ⟨#[115, 99]⟩]
theorem kw_cell (j : Nat) (h : j < 21) : kwCells[j]? = some (.string (bs (kwAt j))) := by
  match j, h with
  | 0, _ => rfl
  | 1, _ => rfl
  | 2, _ => rfl
  | 3, _ => rfl
  | 4, _ => rfl
  | 5, _ => rfl
  | 6, _ => rfl
  | 7, _ => rfl
  | 8, _ => rfl
  | 9, _ => rfl
  | 10, _ => rfl
  | 11, _ => rfl
  | 12, _ => rfl
  | 13, _ => rfl
  | 14, _ => rfl
  | 15, _ => rfl
  | 16, _ => rfl
  | 17, _ => rfl
  | 18, _ => rfl
  | 19, _ => rfl
  | 20, _ => rfl
  | n + 21, h => exact absurd h (by omega)
theorem kw_yes {l : List UInt8} {j : Nat} (hj : j < 21) (h : kwAt j = l) : kwB l = true := by
  rw [kwB, List.any_eq_true]
  refine ⟨kwAt j, ?_, by rw [h]; simp⟩
  unfold kwAt
  rw [List.getD_eq_getElem?_getD, List.getElem?_eq_getElem (show j < kws.length from hj)]
  exact List.getElem_mem _
theorem kw_no {l : List UInt8} (h : ∀ j, j < 21 → kwAt j ≠ l) : kwB l = false := by
  cases hk : kwB l
  · rfl
  · exfalso
    rw [kwB, List.any_eq_true] at hk
    obtain ⟨x, hx, he⟩ := hk
    obtain ⟨j, hj, rfl⟩ := List.getElem_of_mem hx
    refine h j hj ?_
    unfold kwAt
    rw [List.getD_eq_getElem?_getD, List.getElem?_eq_getElem hj]
    exact (by simpa using he : l = _).symm
/-- So many words are not it. -/
def KwR (l : List UInt8) (t : Value) : Prop := ∃ j : Nat, t = .int .i64 j ∧ j ≤ 21 ∧ ∀ i, i < j → kwAt i ≠ l
/-- A Bool is told, and nothing old turns. -/
def BoolTo (b : Bool) (w : World) (e : Ending) (w' : World) : Prop := e = .returned (.bool b) ∧ Below w.heap.size w w'
theorem kwR_more {l : List UInt8} {j : Nat} (hj : j < 21) (h : ∀ i, i < j → kwAt i ≠ l) (h' : kwAt j ≠ l) : KwR l (.int .i64 ((j : Int) + 1)) := by
  refine ⟨j + 1, by go_num, by omega, ?_⟩
  intro i hi
  by_cases e : i = j
  · subst e
    exact h'
  · exact h i (by omega)
end Go.Proofs.YtchokfgffnomoaaDoor.Lx
/-
  PLAIN MATHEMATICS of programs out of tokens: what stands for a program's parts, and which program tokens make, or at which token they don't. It proves nothing of Go.
-/
namespace Go.Proofs.YtchokfgffnomoaaDoor.P
open L (Tok)
set_option maxRecDepth 100000
set_option linter.unusedVariables false
set_option linter.unusedSimpArgs false
/-- An expression: Op, N, Name, Kids. -/
inductive EX where
  | mk (op n : Int) (name : List UInt8) (kids : List EX)
/-- A condition: Op, Thread, Name, N, Kids. -/
inductive CO where
  | mk (op thread : Int) (name : List UInt8) (n : Int) (kids : List CO)
/-- A statement: Kind, Mode, Reg, Loc, Args, Then, Else. -/
inductive ST where
  | mk (kind mode : Int) (reg loc : List UInt8) (args : List EX) (thn els : List ST)
/-- A program. -/
structure PG where
  name : List UInt8
  vals : Int
  init : List (List UInt8 × Int)
  threads : List (List ST)
  ask : Int
  cond : CO
/-! ### the token here -/
def here : List Tok → Nat
  | t :: _ => t.at'
  | [] => 0
def isS (s : List UInt8) : List Tok → Bool
  | t :: _ => (t.kind == 1 || t.kind == 3) && t.text == s
  | [] => false
def isN : List Tok → Bool
  | t :: _ => t.kind == 1 && !Lx.kwB t.text
  | [] => false
def isD : List Tok → Bool
  | t :: _ => t.kind == 2
  | [] => false
/-- What is read and what is left, or the place of the token that doesn't go on. -/
abbrev Res (α : Type) := Except Nat (α × List Tok)
def need (s : List UInt8) (ts : List Tok) : Except Nat (List Tok) := if isS s ts then .ok ts.tail else .error (here ts)
def pName (ts : List Tok) : Res (List UInt8) :=
  match ts with
  | t :: r => if isN (t :: r) then .ok (t.text, r) else .error t.at'
  | [] => .error 0
def pNum (ts : List Tok) : Res Nat :=
  match ts with
  | t :: r => if isD (t :: r) then .ok (t.n, r) else .error t.at'
  | [] => .error 0
def modeT : Nat → List UInt8
  | 0 => [114, 108, 120]
  | 1 => [97, 99, 113]
  | 2 => [114, 101, 108]
  | 3 => [97, 99, 113, 114, 101, 108]
  | 4 => [115, 99]
  | _ => []
/-- The first mode from m on, of those below m + k, that stands here. -/
def pModeL : Nat → Nat → List Tok → Res Nat
  | 0, _, ts => .error (here ts)
  | k + 1, m, ts => if isS (modeT m) ts then .ok (m, ts.tail) else pModeL k (m + 1) ts
def pMode (ts : List Tok) : Res Nat := pModeL 5 0 ts
/-! ### expressions -/
def atomF (rec : List Tok → Res EX) (ts : List Tok) : Res EX :=
  match pNum ts with
  | .ok (n, r) => .ok (.mk 1 n [] [], r)
  | .error _ =>
    match pName ts with
    | .ok (s, r) => .ok (.mk 2 0 s [], r)
    | .error _ =>
      match need [40] ts with
      | .error p => .error p
      | .ok r =>
        match rec r with
        | .error p => .error p
        | .ok (e, r2) =>
          match need [41] r2 with
          | .error p => .error p
          | .ok r3 => .ok (e, r3)
def sumL (rec : List Tok → Res EX) : Nat → EX → List Tok → Res EX
  | 0, e, ts => .ok (e, ts)
  | k + 1, e, ts =>
    if isS [43] ts || isS [45] ts then
      match atomF rec ts.tail with
      | .error p => .error p
      | .ok (a, r) => sumL rec k (.mk (if isS [45] ts then 4 else 3) 0 [] [e, a]) r
    else .ok (e, ts)
def sumF (rec : List Tok → Res EX) (ts : List Tok) : Res EX :=
  match atomF rec ts with
  | .error p => .error p
  | .ok (e, r) => sumL rec r.length e r
def exprF (rec : List Tok → Res EX) (ts : List Tok) : Res EX :=
  match sumF rec ts with
  | .error p => .error p
  | .ok (e, r) =>
    if isS [61, 61] r || isS [60] r then
      match sumF rec r.tail with
      | .error p => .error p
      | .ok (a, r2) => .ok (.mk (if isS [60] r then 6 else 5) 0 [] [e, a], r2)
    else .ok (e, r)
/-- Expressions within n brackets. -/
def exprN : Nat → List Tok → Res EX
  | 0, ts => .error (here ts)
  | n + 1, ts => exprF (exprN n) ts
def pExpr (ts : List Tok) : Res EX := exprN ts.length ts
/-! ### conditions -/
def litF (ts : List Tok) : Res CO :=
  match pNum ts with
  | .ok (k, r) =>
    match need [58] r with
    | .error p => .error p
    | .ok r1 =>
      match pName r1 with
      | .error p => .error p
      | .ok (s, r2) =>
        match need [61, 61] r2 with
        | .error p => .error p
        | .ok r3 =>
          match pNum r3 with
          | .error p => .error p
          | .ok (n, r4) => .ok (.mk 2 k s n [], r4)
  | .error _ =>
    match pName ts with
    | .error p => .error p
    | .ok (s, r2) =>
      match need [61, 61] r2 with
      | .error p => .error p
      | .ok r3 =>
        match pNum r3 with
        | .error p => .error p
        | .ok (n, r4) => .ok (.mk 1 0 s n [], r4)
def manyL (one : List Tok → Res CO) (word : List UInt8) (op : Int) : Nat → CO → List Tok → Res CO
  | 0, e, ts => .ok (e, ts)
  | k + 1, e, ts =>
    if isS word ts then
      match one ts.tail with
      | .error p => .error p
      | .ok (a, r) => manyL one word op k (.mk op 0 [] 0 [e, a]) r
    else .ok (e, ts)
def manyF (one : List Tok → Res CO) (word : List UInt8) (op : Int) (ts : List Tok) : Res CO :=
  match one ts with
  | .error p => .error p
  | .ok (e, r) => manyL one word op r.length e r
/-- Those with 'and' between, with 'or' between. -/
def bothF (one : List Tok → Res CO) : List Tok → Res CO := manyF one [97, 110, 100] 4
def condF (one : List Tok → Res CO) : List Tok → Res CO := manyF (bothF one) [111, 114] 5
def oneN : Nat → List Tok → Res CO
  | 0, ts => .error (here ts)
  | n + 1, ts =>
    if isS [110, 111, 116] ts then
      match oneN n ts.tail with
      | .error p => .error p
      | .ok (a, r) => .ok (.mk 3 0 [] 0 [a], r)
    else if isS [40] ts then
      match condF (oneN n) ts.tail with
      | .error p => .error p
      | .ok (a, r) =>
        match need [41] r with
        | .error p => .error p
        | .ok r2 => .ok (a, r2)
    else litF ts
def pCond (ts : List Tok) : Res CO := condF (oneN ts.length) ts
/-! ### statements, with the places where they begin -/
/-- One argument behind what is there. -/
def rightF (reg : List UInt8) (ts : List Tok) : Res ST :=
  if isS [108, 111, 97, 100] ts then
    match pMode ts.tail with
    | .error p => .error p
    | .ok (m, r1) =>
      match pName r1 with
      | .error p => .error p
      | .ok (l, r2) => .ok (.mk 2 m reg l [] [] [], r2)
  else if isS [97, 100, 100] ts then
    match pMode ts.tail with
    | .error p => .error p
    | .ok (m, r1) =>
      match pName r1 with
      | .error p => .error p
      | .ok (l, r2) =>
        match pExpr r2 with
        | .error p => .error p
        | .ok (e, r3) => .ok (.mk 4 m reg l [e] [] [], r3)
  else if isS [99, 97, 115] ts then
    match pMode ts.tail with
    | .error p => .error p
    | .ok (m, r1) =>
      match pName r1 with
      | .error p => .error p
      | .ok (l, r2) =>
        match pExpr r2 with
        | .error p => .error p
        | .ok (a, r3) =>
          match need [44] r3 with
          | .error p => .error p
          | .ok r4 =>
            match pExpr r4 with
            | .error p => .error p
            | .ok (b, r5) => .ok (.mk 5 m reg l [a, b] [] [], r5)
  else
    match pExpr ts with
    | .error p => .error p
    | .ok (e, r) => .ok (.mk 1 0 reg [] [e] [] [], r)
/-- Statements up to a brace. -/
def stmtsL (stmt : List Tok → Res (ST × List Nat)) : Nat → List Tok → Res (List ST × List Nat)
  | 0, ts => .error (here ts)
  | k + 1, ts =>
    if isS [125] ts then .ok (([], []), ts.tail)
    else
      match stmt ts with
      | .error p => .error p
      | .ok ((s, ps), r) =>
        match stmtsL stmt k r with
        | .error p => .error p
        | .ok ((l, qs), r2) => .ok ((s :: l, ps ++ qs), r2)
def blockF (stmt : List Tok → Res (ST × List Nat)) (ts : List Tok) : Res (List ST × List Nat) :=
  match need [123] ts with
  | .error p => .error p
  | .ok r => stmtsL stmt r.length r
def semi (x : Res ST) (q : Nat) : Res (ST × List Nat) :=
  match x with
  | .error p => .error p
  | .ok (s, r) =>
    match need [59] r with
    | .error p => .error p
    | .ok r2 => .ok ((s, [q]), r2)
def stmtN : Nat → List Tok → Res (ST × List Nat)
  | 0, ts => .error (here ts)
  | n + 1, ts =>
    if isS [115, 116, 111, 114, 101] ts then
      semi (match pMode ts.tail with
        | .error p => .error p
        | .ok (m, r1) =>
          match pName r1 with
          | .error p => .error p
          | .ok (l, r2) =>
            match pExpr r2 with
            | .error p => .error p
            | .ok (e, r3) => .ok (.mk 3 m [] l [e] [] [], r3)) (here ts)
    else if isS [102, 101, 110, 99, 101] ts then
      semi (match pMode ts.tail with
        | .error p => .error p
        | .ok (m, r1) => .ok (.mk 6 m [] [] [] [] [], r1)) (here ts)
    else if isS [105, 102] ts then
      match pExpr ts.tail with
      | .error p => .error p
      | .ok (e, r1) =>
        match blockF (stmtN n) r1 with
        | .error p => .error p
        | .ok ((a, ps), r2) =>
          if isS [101, 108, 115, 101] r2 then
            match blockF (stmtN n) r2.tail with
            | .error p => .error p
            | .ok ((b, qs), r3) => .ok ((.mk 7 0 [] [] [e] a b, here ts :: (ps ++ qs)), r3)
          else .ok ((.mk 7 0 [] [] [e] a [], here ts :: ps), r2)
    else
      semi (match pName ts with
        | .error p => .error p
        | .ok (g, r1) =>
          match need [61] r1 with
          | .error p => .error p
          | .ok r2 => rightF g r2) (here ts)
def pBlock (ts : List Tok) : Res (List ST × List Nat) := blockF (stmtN ts.length) ts
/-! ### programs -/
def initL : Nat → List Tok → Res (List (List UInt8 × Int) × List Nat)
  | 0, ts => .ok (([], []), ts)
  | k + 1, ts =>
    if isS [105, 110, 105, 116] ts then
      match pName ts.tail with
      | .error p => .error p
      | .ok (l, r1) =>
        match pNum r1 with
        | .error p => .error p
        | .ok (n, r2) =>
          match initL k r2 with
          | .error p => .error p
          | .ok ((cs, ps), r3) => .ok (((l, (n : Int)) :: cs, here ts :: ps), r3)
    else .ok (([], []), ts)
def threadL : Nat → List Tok → Res (List (List ST) × List Nat)
  | 0, ts => .ok (([], []), ts)
  | k + 1, ts =>
    if isS [116, 104, 114, 101, 97, 100] ts then
      match pBlock ts.tail with
      | .error p => .error p
      | .ok ((b, ps), r1) =>
        match threadL k r1 with
        | .error p => .error p
        | .ok ((bs, qs), r2) => .ok ((b :: bs, ps ++ qs), r2)
    else .ok (([], []), ts)
def askF (ts : List Tok) : Res Nat :=
  if isS [102, 111, 114, 97, 108, 108] ts then .ok (2, ts.tail)
  else
    match need [101, 120, 105, 115, 116, 115] ts with
    | .error p => .error p
    | .ok r => .ok (1, r)
/-- The program that tokens make, and where its parts begin; or the place of the first one that doesn't go on. -/
def pProg (ts : List Tok) : Except Nat (PG × List Nat) :=
  match need [108, 105, 116, 109, 117, 115] ts with
  | .error p => .error p
  | .ok r1 =>
    match pName r1 with
    | .error p => .error p
    | .ok (nm, r2) =>
      match need [118, 97, 108, 117, 101, 115] r2 with
      | .error p => .error p
      | .ok r3 =>
        match pNum r3 with
        | .error p => .error p
        | .ok (v, r4) =>
          match initL r4.length r4 with
          | .error p => .error p
          | .ok ((cs, ps), r5) =>
            match threadL r5.length r5 with
            | .error p => .error p
            | .ok ((bl, qs), r6) =>
              match askF r6 with
              | .error p => .error p
              | .ok (k, r7) =>
                match pCond r7 with
                | .error p => .error p
                | .ok (c, r8) =>
                  match r8 with
                  | t :: _ => if t.kind == 4 then .ok (⟨nm, v, cs, bl, k, c⟩, here ts :: (ps ++ (qs ++ [here r6]))) else .error t.at'
                  | [] => .error 0
end Go.Proofs.YtchokfgffnomoaaDoor.P
/-
  What is read from a state of a cursor: plain words.
-/
namespace Go.Proofs.YtchokfgffnomoaaDoor.Lx
open L (Tok)
set_option linter.unusedVariables false
set_option linter.unusedSimpArgs false
/-- What is read from a state. -/
def on {α : Type} (st : Except Nat (List Tok)) (p : List Tok → P.Res α) : P.Res α :=
  match st with
  | .ok ts => p ts
  | .error q => .error q
/-- What is left behind it. -/
def left {α : Type} : P.Res α → Except Nat (List Tok)
  | .ok (_, ts) => .ok ts
  | .error q => .error q
def onNeed (s : List UInt8) (st : Except Nat (List Tok)) : Except Nat (List Tok) :=
  match st with
  | .ok ts => P.need s ts
  | .error q => .error q
/-- is, whatever the state. -/
def onIs (s : List UInt8) (st : Except Nat (List Tok)) : Bool :=
  match st with
  | .ok ts => P.isS s ts
  | .error _ => false
end Go.Proofs.YtchokfgffnomoaaDoor.Lx
/-
  PLAIN MATHEMATICS of readers: what is joined from the left, and that readers leave fewer tokens than they found. It proves nothing of Go.
-/
namespace Go.Proofs.YtchokfgffnomoaaDoor.P
open L (Tok)
set_option linter.unusedVariables false
set_option linter.unusedSimpArgs false
/-- Sides with what joins them between, from the left. -/
def groupL {α : Type} (jn : List Tok → Int) (side : List Tok → Res α) (pr : Int → α → α → α) : Nat → α → List Tok → Res α
  | 0, x, ts => .ok (x, ts)
  | k + 1, x, ts =>
    if jn ts = 0 then .ok (x, ts)
    else
      match side ts.tail with
      | .error p => .error p
      | .ok (a, r) => groupL jn side pr k (pr (jn ts) x a) r
def groupF {α : Type} (jn : List Tok → Int) (side : List Tok → Res α) (pr : Int → α → α → α) (ts : List Tok) : Res α :=
  match side ts with
  | .error p => .error p
  | .ok (e, r) => groupL jn side pr r.length e r
theorem groupL_stop {α : Type} {jn : List Tok → Int} (side : List Tok → Res α) (pr : Int → α → α → α) (f : Nat) (x : α) {ts : List Tok} (h : jn ts = 0) : groupL jn side pr f x ts = .ok (x, ts) := by
  cases f with
  | zero => rfl
  | succ f => rw [groupL, if_pos h]
theorem groupL_more {α : Type} {jn : List Tok → Int} (side : List Tok → Res α) (pr : Int → α → α → α) (f : Nat) (x : α) {ts : List Tok} (h : ¬ jn ts = 0) :
    groupL jn side pr (f + 1) x ts = (match side ts.tail with
      | .error p => .error p
      | .ok (a, r) => groupL jn side pr f (pr (jn ts) x a) r) := by
  rw [groupL, if_neg h]
/-- What joins sums. -/
def jSum (ts : List Tok) : Int := if isS [43] ts then 3 else if isS [45] ts then 4 else 0
def jCmp (ts : List Tok) : Int := if isS [61, 61] ts then 5 else if isS [60] ts then 6 else 0
def jWord (word : List UInt8) (op : Int) (ts : List Tok) : Int := if isS word ts then op else 0
def prX (op : Int) (x y : EX) : EX := .mk op 0 [] [x, y]
def prC (op : Int) (x y : CO) : CO := .mk op 0 [] 0 [x, y]
theorem isS_one {s s' : List UInt8} {ts : List Tok} (h : isS s ts = true) (hn : s ≠ s') : isS s' ts = false := by
  cases ts with
  | nil => rfl
  | cons t r =>
    simp only [isS, Bool.and_eq_true, beq_iff_eq] at h
    simp only [isS, Bool.and_eq_false_iff]
    exact .inr (by rw [h.2]; simpa using hn)
theorem sumL_group (rec : List Tok → Res EX) : ∀ (f : Nat) (x : EX) (ts : List Tok), sumL rec f x ts = groupL jSum (atomF rec) prX f x ts
  | 0, x, ts => rfl
  | f + 1, x, ts => by
    unfold sumL
    cases h3 : isS [43] ts with
    | true =>
      have h5 := isS_one h3 (s' := [45]) (by decide)
      have hj : jSum ts = 3 := by rw [jSum, h3]; rfl
      rw [groupL_more _ _ _ _ (by rw [hj]; decide), hj, h5]
      simp only [Bool.true_or, if_true, Bool.false_eq_true, if_false]
      cases atomF rec ts.tail with
      | error p => rfl
      | ok y => exact sumL_group rec f _ _
    | false =>
      cases h5 : isS [45] ts with
      | true =>
        have hj : jSum ts = 4 := by rw [jSum, h3, h5]; rfl
        rw [groupL_more _ _ _ _ (by rw [hj]; decide), hj]
        simp only [Bool.false_or, if_true]
        cases atomF rec ts.tail with
        | error p => rfl
        | ok y => exact sumL_group rec f _ _
      | false =>
        have hj : jSum ts = 0 := by rw [jSum, h3, h5]; rfl
        rw [groupL_stop _ _ _ _ hj]
        rfl
theorem sumF_group (rec : List Tok → Res EX) (ts : List Tok) : sumF rec ts = groupF jSum (atomF rec) prX ts := by
  unfold sumF groupF
  cases atomF rec ts with
  | error p => rfl
  | ok y => exact sumL_group rec _ _ _
theorem manyL_group (one : List Tok → Res CO) (word : List UInt8) (op : Int) (hop : op ≠ 0) : ∀ (f : Nat) (x : CO) (ts : List Tok), manyL one word op f x ts = groupL (jWord word op) one prC f x ts
  | 0, x, ts => rfl
  | f + 1, x, ts => by
    unfold manyL
    cases h3 : isS word ts with
    | true =>
      have hj : jWord word op ts = op := by rw [jWord, h3]; rfl
      rw [groupL_more _ _ _ _ (by rw [hj]; exact hop), hj]
      simp only [if_true]
      cases one ts.tail with
      | error p => rfl
      | ok y => exact manyL_group one word op hop f _ _
    | false =>
      have hj : jWord word op ts = 0 := by rw [jWord, h3]; rfl
      rw [groupL_stop _ _ _ _ hj]
      rfl
theorem manyF_group (one : List Tok → Res CO) (word : List UInt8) (op : Int) (hop : op ≠ 0) (ts : List Tok) : manyF one word op ts = groupF (jWord word op) one prC ts := by
  unfold manyF groupF
  cases one ts with
  | error p => rfl
  | ok y => exact manyL_group one word op hop _ _ _
/-! ### readers leave fewer tokens -/
def Less {α : Type} (p : List Tok → Res α) : Prop := ∀ ts a r, p ts = .ok (a, r) → r.length < ts.length
theorem need_less {s : List UInt8} {ts r : List Tok} (h : need s ts = .ok r) : r.length < ts.length := by
  unfold need at h
  cases ts with
  | nil => cases h
  | cons t u =>
    cases hs : isS s (t :: u) with
    | false => rw [hs] at h; cases h
    | true =>
      rw [hs] at h
      injection h with h
      subst h
      show u.length < u.length + 1
      omega
theorem pNum_less : Less pNum := by
  intro ts a r h
  cases ts with
  | nil => cases h
  | cons t u =>
    unfold pNum at h
    cases hs : isD (t :: u) with
    | false => simp only [hs] at h; cases h
    | true =>
      simp only [hs, if_true] at h
      injection h with h
      injection h with _ h
      subst h
      show u.length < u.length + 1
      omega
theorem pName_less : Less pName := by
  intro ts a r h
  cases ts with
  | nil => cases h
  | cons t u =>
    unfold pName at h
    cases hs : isN (t :: u) with
    | false => simp only [hs] at h; cases h
    | true =>
      simp only [hs, if_true] at h
      injection h with h
      injection h with _ h
      subst h
      show u.length < u.length + 1
      omega
theorem atomF_less {rec : List Tok → Res EX} (hr : Less rec) : Less (atomF rec) := by
  intro ts a r h
  unfold atomF at h
  cases h1 : pNum ts with
  | ok x =>
    obtain ⟨n, u⟩ := x
    rw [h1] at h
    cases h
    exact pNum_less _ _ _ h1
  | error p =>
    rw [h1] at h
    cases h2 : pName ts with
    | ok x =>
      obtain ⟨n, u⟩ := x
      rw [h2] at h
      cases h
      exact pName_less _ _ _ h2
    | error p =>
      rw [h2] at h
      cases h3 : need [40] ts with
      | error p => rw [h3] at h; cases h
      | ok u =>
        rw [h3] at h
        simp only at h
        have l3 := need_less h3
        cases h4 : rec u with
        | error p => rw [h4] at h; cases h
        | ok x =>
          obtain ⟨e, u2⟩ := x
          rw [h4] at h
          simp only at h
          have l4 := hr _ _ _ h4
          cases h5 : need [41] u2 with
          | error p => rw [h5] at h; cases h
          | ok u3 =>
            rw [h5] at h
            simp only at h
            cases h
            have l5 := need_less h5
            omega
theorem groupL_le {α : Type} {jn : List Tok → Int} {side : List Tok → Res α} {pr : Int → α → α → α} (hs : Less side) : ∀ (f : Nat) (x : α) (ts : List Tok) (a : α) (r : List Tok), groupL jn side pr f x ts = .ok (a, r) → r.length ≤ ts.length
  | 0, x, ts, a, r, h => by
    cases h
    exact Nat.le_refl _
  | f + 1, x, ts, a, r, h => by
    by_cases hj : jn ts = 0
    · rw [groupL_stop _ _ _ _ hj] at h
      cases h
      exact Nat.le_refl _
    · rw [groupL_more _ _ _ _ hj] at h
      cases h4 : side ts.tail with
      | error p => rw [h4] at h; cases h
      | ok y =>
        obtain ⟨y, u⟩ := y
        rw [h4] at h
        have l4 := hs _ _ _ h4
        have l5 := groupL_le hs f _ _ _ _ h
        have l6 : ts.tail.length ≤ ts.length := by rw [List.length_tail]; omega
        omega
theorem groupF_less {α : Type} {jn : List Tok → Int} {side : List Tok → Res α} {pr : Int → α → α → α} (hs : Less side) : Less (groupF jn side pr) := by
  intro ts a r h
  unfold groupF at h
  cases h4 : side ts with
  | error p => rw [h4] at h; cases h
  | ok y =>
    obtain ⟨y, u⟩ := y
    rw [h4] at h
    have l4 := hs _ _ _ h4
    have l5 := groupL_le hs _ _ _ _ _ h
    omega
theorem sumF_less {rec : List Tok → Res EX} (hr : Less rec) : Less (sumF rec) := by
  intro ts a r h
  rw [sumF_group] at h
  exact groupF_less (atomF_less hr) _ _ _ h
theorem exprF_less {rec : List Tok → Res EX} (hr : Less rec) : Less (exprF rec) := by
  intro ts a r h
  unfold exprF at h
  cases h4 : sumF rec ts with
  | error p => rw [h4] at h; cases h
  | ok y =>
    obtain ⟨y, u⟩ := y
    rw [h4] at h
    simp only at h
    have l4 := sumF_less hr _ _ _ h4
    split at h
    · cases h5 : sumF rec u.tail with
      | error p => rw [h5] at h; cases h
      | ok z =>
        obtain ⟨z, v⟩ := z
        rw [h5] at h
        cases h
        have l5 := sumF_less hr _ _ _ h5
        have l6 : u.tail.length ≤ u.length := by rw [List.length_tail]; omega
        omega
    · cases h
      exact l4
theorem exprN_less : ∀ n, Less (exprN n)
  | 0 => fun _ _ _ h => by cases h
  | n + 1 => exprF_less (exprN_less n)
theorem litF_less : Less litF := by
  intro ts a r h
  unfold litF at h
  cases h1 : pNum ts with
  | ok x =>
    obtain ⟨n, u⟩ := x
    rw [h1] at h
    simp only at h
    have l1 := pNum_less _ _ _ h1
    cases h2 : need [58] u with
    | error p => rw [h2] at h; cases h
    | ok u2 =>
      rw [h2] at h
      simp only at h
      have l2 := need_less h2
      cases h3 : pName u2 with
      | error p => rw [h3] at h; cases h
      | ok y =>
        obtain ⟨s, u3⟩ := y
        rw [h3] at h
        simp only at h
        have l3 := pName_less _ _ _ h3
        cases h4 : need [61, 61] u3 with
        | error p => rw [h4] at h; cases h
        | ok u4 =>
          rw [h4] at h
          simp only at h
          have l4 := need_less h4
          cases h5 : pNum u4 with
          | error p => rw [h5] at h; cases h
          | ok z =>
            obtain ⟨z, u5⟩ := z
            rw [h5] at h
            cases h
            have l5 := pNum_less _ _ _ h5
            omega
  | error p =>
    rw [h1] at h
    simp only at h
    cases h3 : pName ts with
    | error p => rw [h3] at h; cases h
    | ok y =>
      obtain ⟨s, u3⟩ := y
      rw [h3] at h
      simp only at h
      have l3 := pName_less _ _ _ h3
      cases h4 : need [61, 61] u3 with
      | error p => rw [h4] at h; cases h
      | ok u4 =>
        rw [h4] at h
        simp only at h
        have l4 := need_less h4
        cases h5 : pNum u4 with
        | error p => rw [h5] at h; cases h
        | ok z =>
          obtain ⟨z, u5⟩ := z
          rw [h5] at h
          cases h
          have l5 := pNum_less _ _ _ h5
          omega
theorem manyF_less {one : List Tok → Res CO} {word : List UInt8} {op : Int} (hop : op ≠ 0) (hs : Less one) : Less (manyF one word op) := by
  intro ts a r h
  rw [manyF_group _ _ _ hop] at h
  exact groupF_less hs _ _ _ h
theorem bothF_less {one : List Tok → Res CO} (hs : Less one) : Less (bothF one) := manyF_less (by decide) hs
theorem condF_less {one : List Tok → Res CO} (hs : Less one) : Less (condF one) := manyF_less (by decide) (bothF_less hs)
theorem oneN_less : ∀ n, Less (oneN n)
  | 0 => fun _ _ _ h => by cases h
  | n + 1 => by
    intro ts a r h
    unfold oneN at h
    have lt : ts.tail.length ≤ ts.length := by rw [List.length_tail]; omega
    split at h
    · cases h4 : oneN n ts.tail with
      | error p => rw [h4] at h; cases h
      | ok y =>
        obtain ⟨y, u⟩ := y
        rw [h4] at h
        cases h
        have l4 := oneN_less n _ _ _ h4
        omega
    · split at h
      · cases h4 : condF (oneN n) ts.tail with
        | error p => rw [h4] at h; cases h
        | ok y =>
          obtain ⟨y, u⟩ := y
          rw [h4] at h
          simp only at h
          have l4 := condF_less (oneN_less n) _ _ _ h4
          cases h5 : need [41] u with
          | error p => rw [h5] at h; cases h
          | ok v =>
            rw [h5] at h
            cases h
            have l5 := need_less h5
            omega
      · exact litF_less _ _ _ h
end Go.Proofs.YtchokfgffnomoaaDoor.P
/-
  Plain words for 'one after the other' with places, and that statements leave fewer tokens.
-/
namespace Go.Proofs.YtchokfgffnomoaaDoor.P
open L (Tok)
set_option linter.unusedVariables false
set_option linter.unusedSimpArgs false
def runL {α : Type} (may : List Tok → Bool) (one : List Tok → Res (α × List Nat)) : Nat → List Tok → Res (List α × List Nat)
  | 0, ts => .ok (([], []), ts)
  | k + 1, ts =>
    if may ts then
      match one ts with
      | .error p => .error p
      | .ok ((a, ps), r) =>
        match runL may one k r with
        | .error p => .error p
        | .ok ((l, qs), r2) => .ok ((a :: l, ps ++ qs), r2)
    else .ok (([], []), ts)
def runF {α : Type} (may : List Tok → Bool) (one : List Tok → Res (α × List Nat)) (ts : List Tok) : Res (List α × List Nat) := runL may one ts.length ts
def glue {α : Type} (hd : List α) (ps : List Nat) : Res (List α × List Nat) → Res (List α × List Nat)
  | .error p => .error p
  | .ok ((l, qs), r) => .ok ((hd ++ l, ps ++ qs), r)
theorem runL_fuel {α : Type} {may : List Tok → Bool} {one : List Tok → Res (α × List Nat)} (h0 : may [] = false) (hl : Less one) : ∀ (k m : Nat) (ts : List Tok), ts.length ≤ k → ts.length ≤ m → runL may one k ts = runL may one m ts
  | 0, 0, ts, _, _ => rfl
  | 0, m + 1, ts, hk, hm => by
    have : ts = [] := List.eq_nil_of_length_eq_zero (by omega)
    subst this
    simp [runL, h0]
  | k + 1, 0, ts, hk, hm => by
    have : ts = [] := List.eq_nil_of_length_eq_zero (by omega)
    subst this
    simp [runL, h0]
  | k + 1, m + 1, ts, hk, hm => by
    unfold runL
    split
    · cases h1 : one ts with
      | error p => rfl
      | ok x =>
        obtain ⟨⟨a, ps⟩, r⟩ := x
        have h2 := hl _ _ _ h1
        simp only
        rw [runL_fuel h0 hl k m r (by omega) (by omega)]
    · rfl
theorem glue_nil {α : Type} (x : Res (List α × List Nat)) : glue [] [] x = x := by
  rcases x with p | ⟨⟨l, qs⟩, r⟩ <;> simp [glue]
theorem glue_stop {α : Type} {may : List Tok → Bool} {one : List Tok → Res (α × List Nat)} {ts : List Tok} (h : may ts = false) (hd : List α) (ps : List Nat) : glue hd ps (runF may one ts) = .ok ((hd, ps), ts) := by
  have e : runF may one ts = .ok (([], []), ts) := by
    unfold runF
    cases ts.length with
    | zero => rfl
    | succ k => simp [runL, h]
  rw [e]
  simp [glue]
theorem glue_more {α : Type} {may : List Tok → Bool} {one : List Tok → Res (α × List Nat)} {ts : List Tok} (h0 : may [] = false) (hl : Less one) (h : may ts = true) (hd : List α) (ps : List Nat) :
    glue hd ps (runF may one ts) = (match one ts with
      | .error p => .error p
      | .ok ((a, qs), r) => glue (hd ++ [a]) (ps ++ qs) (runF may one r)) := by
  cases hts : ts with
  | nil =>
    rw [hts, h0] at h
    cases h
  | cons t rr =>
    rw [← hts]
    have hlen : ts.length = rr.length + 1 := by rw [hts]; rfl
    conv => lhs; unfold runF
    rw [hlen]
    unfold runL
    rw [if_pos h]
    cases h1 : one ts with
    | error p => rfl
    | ok x =>
      obtain ⟨⟨a, qs⟩, r⟩ := x
      have h2 := hl _ _ _ h1
      simp only
      rw [runL_fuel h0 hl rr.length r.length r (by omega) (Nat.le_refl _)]
      unfold runF
      cases h3 : runL may one r.length r with
      | error p => rfl
      | ok y =>
        obtain ⟨⟨l, q2⟩, r2⟩ := y
        simp [glue]
theorem runL_le {α : Type} {may : List Tok → Bool} {one : List Tok → Res (α × List Nat)} (hl : Less one) : ∀ (k : Nat) (ts : List Tok) (a : List α × List Nat) (r : List Tok), runL may one k ts = .ok (a, r) → r.length ≤ ts.length
  | 0, ts, a, r, h => by
    unfold runL at h
    cases h
    exact Nat.le_refl _
  | k + 1, ts, a, r, h => by
    unfold runL at h
    split at h
    · cases h1 : one ts with
      | error p => rw [h1] at h; cases h
      | ok x =>
        obtain ⟨⟨b, ps⟩, r1⟩ := x
        have h2 := hl _ _ _ h1
        rw [h1] at h
        simp only at h
        cases h3 : runL may one k r1 with
        | error p => rw [h3] at h; cases h
        | ok y =>
          obtain ⟨⟨l, qs⟩, r2⟩ := y
          have h4 := runL_le hl k r1 _ _ h3
          rw [h3] at h
          cases h
          omega
    · cases h
      exact Nat.le_refl _
theorem runF_le {α : Type} {may : List Tok → Bool} {one : List Tok → Res (α × List Nat)} (hl : Less one) {ts : List Tok} {a : List α × List Nat} {r : List Tok} (h : runF may one ts = .ok (a, r)) : r.length ≤ ts.length := runL_le hl _ _ _ _ h
/-- A statement may follow. -/
def atS (ts : List Tok) : Bool := isN ts || isS [115, 116, 111, 114, 101] ts || isS [102, 101, 110, 99, 101] ts || isS [105, 102] ts
theorem pModeL_less : ∀ (k m : Nat), Less (pModeL k m)
  | 0, m, ts, a, r, h => by cases h
  | k + 1, m, ts, a, r, h => by
    unfold pModeL at h
    split at h
    · cases h
      rename_i h1
      exact need_less (s := modeT m) (by unfold need; rw [if_pos h1])
    · exact pModeL_less k (m + 1) ts a r h
theorem pMode_less : Less pMode := pModeL_less 5 0
theorem pExpr_less : Less pExpr := fun ts a r h => exprN_less _ ts a r h
theorem tail_lt {s : List UInt8} {ts : List Tok} (h : isS s ts = true) : ts.tail.length < ts.length := need_less (s := s) (by unfold need; rw [if_pos h])
theorem rightF_less (rg : List UInt8) : Less (rightF rg) := by
  intro ts a r h
  unfold rightF at h
  split at h
  · rename_i h0
    have h1 := tail_lt h0
    split at h
    · cases h
    · rename_i m r1 hm
      have h2 := pMode_less _ _ _ hm
      split at h
      · cases h
      · rename_i l r2 hn
        have h3 := pName_less _ _ _ hn
        cases h
        omega
  · split at h
    · rename_i h0
      have h1 := tail_lt h0
      split at h
      · cases h
      · rename_i m r1 hm
        have h2 := pMode_less _ _ _ hm
        split at h
        · cases h
        · rename_i l r2 hn
          have h3 := pName_less _ _ _ hn
          split at h
          · cases h
          · rename_i e r3 he
            have h4 := pExpr_less _ _ _ he
            cases h
            omega
    · split at h
      · rename_i h0
        have h1 := tail_lt h0
        split at h
        · cases h
        · rename_i m r1 hm
          have h2 := pMode_less _ _ _ hm
          split at h
          · cases h
          · rename_i l r2 hn
            have h3 := pName_less _ _ _ hn
            split at h
            · cases h
            · rename_i e r3 he
              have h4 := pExpr_less _ _ _ he
              split at h
              · cases h
              · rename_i r4 hq
                have h5 := need_less hq
                split at h
                · cases h
                · rename_i e2 r5 he2
                  have h6 := pExpr_less _ _ _ he2
                  cases h
                  omega
      · split at h
        · cases h
        · rename_i e r3 he
          have h4 := pExpr_less _ _ _ he
          cases h
          omega
theorem stmtsL_le {stmt : List Tok → Res (ST × List Nat)} (hl : Less stmt) : ∀ (k : Nat) (ts : List Tok) (a : List ST × List Nat) (r : List Tok), stmtsL stmt k ts = .ok (a, r) → r.length ≤ ts.length
  | 0, ts, a, r, h => by cases h
  | k + 1, ts, a, r, h => by
    unfold stmtsL at h
    split at h
    · cases h
      rw [List.length_tail]
      omega
    · split at h
      · cases h
      · rename_i s ps r1 h1
        have h2 := hl _ _ _ h1
        split at h
        · cases h
        · rename_i l qs r2 h3
          have h4 := stmtsL_le hl k r1 _ _ h3
          cases h
          omega
theorem blockF_less {stmt : List Tok → Res (ST × List Nat)} (hl : Less stmt) : Less (blockF stmt) := by
  intro ts a r h
  unfold blockF at h
  split at h
  · cases h
  · rename_i r1 h1
    have h2 := need_less h1
    have h3 := stmtsL_le hl _ _ _ _ h
    omega
theorem semi_le {x : Res ST} {q : Nat} {a : ST × List Nat} {r : List Tok} (h : semi x q = .ok (a, r)) : ∃ s r1, x = .ok (s, r1) ∧ r.length < r1.length := by
  unfold semi at h
  split at h
  · cases h
  · rename_i s r1
    split at h
    · cases h
    · rename_i r2 h2
      cases h
      exact ⟨s, r1, rfl, need_less h2⟩
theorem stmtN_less : ∀ n, Less (stmtN n)
  | 0, ts, a, r, h => by cases h
  | n + 1, ts, a, r, h => by
    unfold stmtN at h
    split at h
    · rename_i h0
      have h1 := tail_lt h0
      obtain ⟨s, r1, hx, hr⟩ := semi_le h
      split at hx
      · cases hx
      · rename_i m r2 hm
        have h2 := pMode_less _ _ _ hm
        split at hx
        · cases hx
        · rename_i l r3 hn
          have h3 := pName_less _ _ _ hn
          split at hx
          · cases hx
          · rename_i e r4 he
            have h4 := pExpr_less _ _ _ he
            cases hx
            omega
    · split at h
      · rename_i h0
        have h1 := tail_lt h0
        obtain ⟨s, r1, hx, hr⟩ := semi_le h
        split at hx
        · cases hx
        · rename_i m r2 hm
          have h2 := pMode_less _ _ _ hm
          cases hx
          omega
      · split at h
        · rename_i h0
          have h1 := tail_lt h0
          split at h
          · cases h
          · rename_i e r1 he
            have h2 := pExpr_less _ _ _ he
            split at h
            · cases h
            · rename_i l ps r2 hb
              have h3 := blockF_less (stmtN_less n) _ _ _ hb
              split at h
              · rename_i h9
                have h4 := tail_lt h9
                split at h
                · cases h
                · rename_i l2 qs r3 hb2
                  have h5 := blockF_less (stmtN_less n) _ _ _ hb2
                  cases h
                  omega
              · cases h
                omega
        · obtain ⟨s, r1, hx, hr⟩ := semi_le h
          split at hx
          · cases hx
          · rename_i g r2 hn
            have h2 := pName_less _ _ _ hn
            split at hx
            · cases hx
            · rename_i r3 h3
              have h4 := need_less h3
              have h5 := rightF_less _ _ _ _ hx
              omega
/-- Where no statement may follow, none is read. -/
theorem stmtN_not {n : Nat} {ts : List Tok} (h : atS ts = false) : stmtN n ts = .error (here ts) := by
  cases n with
  | zero => rfl
  | succ n =>
    unfold atS at h
    simp only [Bool.or_eq_false_iff] at h
    obtain ⟨⟨⟨h1, h2⟩, h3⟩, h4⟩ := h
    unfold stmtN
    simp only [h2, h3, h4, Bool.false_eq_true, if_false]
    cases ts with
    | nil => rfl
    | cons t r =>
      simp only [pName, h1, Bool.false_eq_true, if_false, semi, here]
/-- What is read, then a brace that closes. -/
def closeF (x : Res (List ST × List Nat)) : Res (List ST × List Nat) :=
  match x with
  | .error p => .error p
  | .ok (a, r) =>
    match need [125] r with
    | .error p => .error p
    | .ok r2 => .ok (a, r2)
/-- What is read so far and what the rest makes. -/
def Gl {α : Type} (tot : List Tok → Res (List α × List Nat)) : Res (List α × List Nat) → Res (List α × List Nat)
  | .error p => .error p
  | .ok ((l, qs), r) => glue l qs (tot r)
def nextR {α : Type} (es : List α) (qs : List Nat) : Res (α × List Nat) → Res (List α × List Nat)
  | .error p => .error p
  | .ok ((a, q), r) => .ok ((es ++ [a], qs ++ q), r)
def moreR {α : Type} (tot : List Tok → Res (List α × List Nat)) : Res (α × List Nat) → Res (List α × List Nat)
  | .error p => .error p
  | .ok ((a, q), r) => glue [a] q (tot r)
theorem glue_glue {α : Type} (a b : List α) (p q : List Nat) (x : Res (List α × List Nat)) : glue a p (glue b q x) = glue (a ++ b) (p ++ q) x := by
  rcases x with e | ⟨⟨l, qs⟩, r⟩
  · rfl
  · simp [glue]
theorem Gl_next {α : Type} {tot : List Tok → Res (List α × List Nat)} {one : Res (α × List Nat)} {ts : List Tok} (h : tot ts = moreR tot one) (es : List α) (qs : List Nat) : Gl tot (.ok ((es, qs), ts)) = Gl tot (nextR es qs one) := by
  show glue es qs (tot ts) = _
  rw [h]
  rcases one with p | ⟨⟨a, q⟩, r⟩
  · rfl
  · exact glue_glue _ _ _ _ _
/-- stmtsL with fuel enough. -/
theorem stmtsL_fuel {stmt : List Tok → Res (ST × List Nat)} (hl : Less stmt) (h0 : stmt [] = .error 0) : ∀ (k m : Nat) (ts : List Tok), ts.length ≤ k → ts.length ≤ m → stmtsL stmt k ts = stmtsL stmt m ts
  | 0, 0, ts, _, _ => rfl
  | 0, m + 1, ts, hk, hm => by
    have : ts = [] := List.eq_nil_of_length_eq_zero (by omega)
    subst this
    simp [stmtsL, isS, here, h0]
  | k + 1, 0, ts, hk, hm => by
    have : ts = [] := List.eq_nil_of_length_eq_zero (by omega)
    subst this
    simp [stmtsL, isS, here, h0]
  | k + 1, m + 1, ts, hk, hm => by
    unfold stmtsL
    split
    · rfl
    · cases h1 : stmt ts with
      | error p => rfl
      | ok x =>
        obtain ⟨⟨a, ps⟩, r⟩ := x
        have h2 := hl _ _ _ h1
        simp only
        rw [stmtsL_fuel hl h0 k m r (by omega) (by omega)]
def stmtsT (stmt : List Tok → Res (ST × List Nat)) (ts : List Tok) : Res (List ST × List Nat) := stmtsL stmt ts.length ts
theorem stmtsT_more {stmt : List Tok → Res (ST × List Nat)} (hl : Less stmt) (h0 : stmt [] = .error 0) {ts : List Tok} (hts : 0 < ts.length) (hb : isS [125] ts = false) :
    stmtsT stmt ts = moreR (stmtsT stmt) (stmt ts) := by
  obtain ⟨k, hk⟩ : ∃ k, ts.length = k + 1 := ⟨ts.length - 1, by omega⟩
  conv => lhs; unfold stmtsT
  rw [hk]
  conv => lhs; unfold stmtsL
  simp only [hb, Bool.false_eq_true, if_false]
  cases h1 : stmt ts with
  | error p => rfl
  | ok x =>
    obtain ⟨⟨a, ps⟩, r⟩ := x
    have h2 := hl _ _ _ h1
    simp only
    rw [stmtsL_fuel hl h0 k r.length r (by omega) (Nat.le_refl _)]
    show _ = glue [a] ps (stmtsL stmt r.length r)
    rcases stmtsL stmt r.length r with p | ⟨⟨l, q⟩, r2⟩ <;> rfl
theorem stmtsT_stop {n : Nat} {ts : List Tok} (h : atS ts = false) (es : List ST) (qs : List Nat) : Gl (stmtsT (stmtN n)) (.ok ((es, qs), ts)) = closeF (.ok ((es, qs), ts)) := by
  show glue es qs (stmtsT (stmtN n) ts) = _
  have hn := stmtN_not (n := n) h
  unfold stmtsT closeF need
  cases ts with
  | nil => rfl
  | cons t r =>
    show glue es qs (stmtsL (stmtN n) (r.length + 1) (t :: r)) = _
    unfold stmtsL
    cases hb : isS [125] (t :: r) with
    | true => simp [glue, hb]
    | false => simp [hn, glue, hb]
theorem stmtN_nil (n : Nat) : stmtN n [] = .error 0 := stmtN_not rfl
end Go.Proofs.YtchokfgffnomoaaDoor.P
