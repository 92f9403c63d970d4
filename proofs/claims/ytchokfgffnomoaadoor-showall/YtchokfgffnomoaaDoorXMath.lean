/-
  The texts of any expressions, conditions, statements, programs, also such as may not be: as the document says them.
-/
import Derived.Test.YtchokfgffnomoaaDoorSA
namespace Go.Proofs.YtchokfgffnomoaaDoor.P
set_option maxRecDepth 100000
set_option linter.unusedVariables false
/-- A number. -/
def xN (n : Int) : List UInt8 := if n < 0 then 45 :: L.decL n.natAbs else L.decL n.toNat
/-- What stands between an operator's two. -/
def midE (op : Int) : Option (List UInt8) := if op = 3 then some [43] else if op = 4 then some [45] else if op = 5 then some [61, 61] else if op = 6 then some [60] else none
mutual
/-- An expression. -/
def xE : EX → List UInt8
  | .mk op n name kids =>
    let ks := xEs kids
    if op = 1 then xN n else if op = 2 then name else
      match midE op with
      | none => []
      | some s => [40] ++ (ks.getD 0 [] ++ ([32] ++ (s ++ ([32] ++ (ks.getD 1 [] ++ [41])))))
def xEs : List EX → List (List UInt8)
  | [] => []
  | e :: es => xE e :: xEs es
end
mutual
/-- A condition. -/
def xC : CO → List UInt8
  | .mk op th name n kids =>
    let ks := xCs kids
    if op = 1 then name ++ ([32] ++ ([61, 61] ++ ([32] ++ xN n)))
    else if op = 2 then xN th ++ ([58] ++ (name ++ ([32] ++ ([61, 61] ++ ([32] ++ xN n)))))
    else if op = 3 then [110, 111, 116] ++ ([32] ++ ks.getD 0 [])
    else if op = 4 then [40] ++ (ks.getD 0 [] ++ ([32] ++ ([97, 110, 100] ++ ([32] ++ (ks.getD 1 [] ++ [41])))))
    else if op = 5 then [40] ++ (ks.getD 0 [] ++ ([32] ++ ([111, 114] ++ ([32] ++ (ks.getD 1 [] ++ [41])))))
    else []
def xCs : List CO → List (List UInt8)
  | [] => []
  | e :: es => xC e :: xCs es
end
/-- A mode. -/
def xM (m : Int) : List UInt8 := if 0 ≤ m ∧ m < 5 then modeT m.toNat else []
mutual
/-- A statement, so far inwards. -/
def xS : ST → Nat → List UInt8
  | .mk kind mode reg loc args thn els, d =>
    let a := (args.map xE).getD 0 []
    let b := (args.map xE).getD 1 []
    if kind = 1 then ind d ++ ((reg ++ [32]) ++ ([61] ++ ([32] ++ (a ++ ([59] ++ [10])))))
    else if kind = 2 then ind d ++ ((reg ++ [32]) ++ ([61] ++ ([32] ++ (([108, 111, 97, 100] ++ [32]) ++ ((xM mode ++ [32]) ++ (loc ++ ([59] ++ [10])))))))
    else if kind = 3 then ind d ++ (([115, 116, 111, 114, 101] ++ [32]) ++ ((xM mode ++ [32]) ++ ((loc ++ [32]) ++ (a ++ ([59] ++ [10])))))
    else if kind = 4 then ind d ++ ((reg ++ [32]) ++ ([61] ++ ([32] ++ (([97, 100, 100] ++ [32]) ++ ((xM mode ++ [32]) ++ ((loc ++ [32]) ++ (a ++ ([59] ++ [10]))))))))
    else if kind = 5 then ind d ++ ((reg ++ [32]) ++ ([61] ++ ([32] ++ (([99, 97, 115] ++ [32]) ++ ((xM mode ++ [32]) ++ ((loc ++ [32]) ++ (a ++ ([44] ++ ([32] ++ (b ++ ([59] ++ [10])))))))))))
    else if kind = 6 then ind d ++ (([102, 101, 110, 99, 101] ++ [32]) ++ (xM mode ++ ([59] ++ [10])))
    else if kind = 7 then
      let u := xSs thn (d + 1)
      let e := xSs els (d + 1)
      ind d ++ (([105, 102] ++ [32]) ++ ((a ++ ([32] ++ ([123] ++ [10]))) ++ (u ++ (if els.isEmpty then ind d ++ ([125] ++ [10]) else (ind d ++ ([125] ++ ([32] ++ (([101, 108, 115, 101] ++ [32]) ++ ([123] ++ [10]))))) ++ (e ++ (ind d ++ ([125] ++ [10])))))))
    else []
def xSs : List ST → Nat → List UInt8
  | [], d => []
  | s :: l, d => xS s d ++ xSs l d
end
/-- Inits, threads. -/
def xI (cs : List (List UInt8 × Int)) : List UInt8 := (cs.map fun c => (([105, 110, 105, 116] ++ [32]) ++ ((c.1 ++ [32]) ++ (xN c.2 ++ [10])))).flatten
def xT (ls : List (List ST)) : List UInt8 := (ls.map fun l => (([116, 104, 114, 101, 97, 100] ++ [32]) ++ (([123] ++ [10]) ++ (xSs l 1 ++ ([125] ++ [10]))))).flatten
/-- A question. -/
def xA (k : Int) : List UInt8 := if k = 1 then askW 1 else if k = 2 then askW 2 else []
/-- A program. -/
def xP (p : PG) : List UInt8 := (([108, 105, 116, 109, 117, 115] ++ [32]) ++ ((p.name ++ [32]) ++ (([118, 97, 108, 117, 101, 115] ++ [32]) ++ (xN p.vals ++ [10])))) ++ (xI p.init ++ (xT p.threads ++ ((xA p.ask ++ [32]) ++ (xC p.cond ++ [10]))))
theorem xN_nat (n : Nat) : xN (n : Int) = L.decL n := by
  unfold xN
  rw [if_neg (by omega)]
  simp
theorem xM_lt {m : Nat} (h : m < 5) : xM (m : Int) = modeT m := by
  unfold xM
  rw [if_pos (by omega)]
  simp
theorem TX.xe {e : EX} {t : List UInt8} {b : List Bo} (h : TX e t b) : t = xE e := by
  induction h with
  | num hn => simp [xE, xN_nat]
  | reg hk => simp [xE]
  | bin h ha hb iha ihb => cases h <;> simp [xE, xEs, midE, ← iha, ← ihb]
theorem TC.xc {e : CO} {t : List UInt8} {b : List Bo} (h : TC e t b) : t = xC e := by
  induction h with
  | mem hk hn => simp [xC, xN_nat]
  | reg hk hn hq => simp [xC, xN_nat]
  | not ha ih => simp [xC, xCs, ← ih]
  | and ha hb iha ihb => simp [xC, xCs, ← iha, ← ihb]
  | or ha hb iha ihb => simp [xC, xCs, ← iha, ← ihb]
mutual
theorem TS.xs {d : Nat} {s : ST} {t : List UInt8} {b : List Bo} {q : List Nat} (h : TS d s t b q) : t = xS s d := by
  cases h with
  | set hr hx => simp [xS, ← hx.xe]
  | load hm hr hl => simp [xS, xM_lt hm]
  | store hm hl hx => simp [xS, xM_lt hm, ← hx.xe]
  | add hm hr hl hx => simp [xS, xM_lt hm, ← hx.xe]
  | cas hm hr hl hx hf => simp [xS, xM_lt hm, ← hx.xe, ← hf.xe]
  | fence hm => simp [xS, xM_lt hm]
  | ifs hx ht => simp [xS, ← hx.xe, ← TSs.xss ht]
  | ife hx ht hne he => simp [xS, ← hx.xe, ← TSs.xss ht, ← TSs.xss he, hne]
theorem TSs.xss {d : Nat} {l : List ST} {t : List UInt8} {b : List Bo} {q : List Nat} (h : TSs d l t b q) : t = xSs l d := by
  cases h with
  | nil => simp [xSs]
  | cons hs hl => simp [xSs, ← TS.xs hs, ← TSs.xss hl]
end
theorem TI.xi {cs : List (List UInt8 × Int)} {t : List UInt8} {b : List Bo} {q : List Nat} (h : TI cs t b q) : t = xI cs := by
  induction h with
  | nil => rfl
  | cons hl hn h ih => simp [xI, xN_nat, ih]
theorem TT.xt {ls : List (List ST)} {t : List UInt8} {b : List Bo} {q : List Nat} (h : TT ls t b q) : t = xT ls := by
  induction h with
  | nil => rfl
  | cons hl h ih => simp [xT, ← hl.xss, ih]
theorem TP.xp {p : PG} {t : List UInt8} {b : List Bo} {q1 q2 q3 : List Nat} (h : TP p t b q1 q2 q3) : t = xP p := by
  cases h with
  | mk hn hv hi ht hk hc =>
    rcases hk with rfl | rfl <;> simp [xP, xA, xN_nat, ← hi.xi, ← ht.xt, ← hc.xc]
end Go.Proofs.YtchokfgffnomoaaDoor.P
