/-
  program of the developers' cursor: a contract.
-/
import Derived.Test.YtchokfgffnomoaaDoorDCell
namespace Go.Proofs.YtchokfgffnomoaaDoor.Lx
open Go.RowKit
open L (Tok)
open P (EX CO ST PG Gl nextR)
set_option maxRecDepth 100000
set_option linter.unusedVariables false
set_option linter.unusedSimpArgs false
/-! ### how a program is read, step by step -/
def s1 (TS : List Tok) : Sta := onNeed [108, 105, 116, 109, 117, 115] (.ok TS)
def rN (TS : List Tok) := on (s1 TS) P.pName
def s3 (TS : List Tok) : Sta := onNeed [118, 97, 108, 117, 101, 115] (left (rN TS))
def rV (TS : List Tok) := on (s3 TS) P.pNum
def rI (TS : List Tok) := on (left (rV TS)) (P.runF P.isInit P.cellF)
def rT (TS : List Tok) := on (left (rI TS)) (P.runF P.isThr P.threadF)
def rA (TS : List Tok) := on (left (rT TS)) P.askF
def rC (TS : List Tok) := on (left (rA TS)) P.pCond
def sE (TS : List Tok) : Sta := left (takeR (onE (left (rC TS))) (left (rC TS)))
def Steps (TS : List Tok) (p : PG) (qs : List Nat) : Prop := ∃ nm r1 v r2 cs ps r5 bl q2 r6 k r7 c r8, rN TS = .ok (nm, r1) ∧ rV TS = .ok (v, r2) ∧ rI TS = .ok ((cs, ps), r5) ∧ rT TS = .ok ((bl, q2), r6) ∧ rA TS = .ok (k, r7) ∧ rC TS = .ok (c, r8) ∧ p = ⟨nm, ((v : Nat) : Int), cs, bl, ((k : Nat) : Int), c⟩ ∧ qs = P.here TS :: (ps ++ (q2 ++ [P.here r6]))
/-- The last state is an error's just where the program is none; else the program's. -/
def Fits (TS : List Tok) : Prop := (∃ q, sE TS = .error q ∧ P.pProg TS = .error q) ∨ ∃ t p qs, sE TS = .ok t ∧ P.pProg TS = .ok (p, qs) ∧ Steps TS p qs
theorem fits (TS : List Tok) : Fits TS := by
  unfold Fits Steps
  simp only [P.initL_run, P.threadL_run, P.pProg, sE, rC, rA, rT, rI, rV, s3, rN, s1, onNeed]
  cases P.need [108, 105, 116, 109, 117, 115] TS with
  | error p => exact .inl ⟨p, rfl, rfl⟩
  | ok t1 =>
    simp only [on]
    cases P.pName t1 with
    | error p => exact .inl ⟨p, rfl, rfl⟩
    | ok x =>
      obtain ⟨nm, t2⟩ := x
      simp only [left]
      cases P.need [118, 97, 108, 117, 101, 115] t2 with
      | error p => exact .inl ⟨p, rfl, rfl⟩
      | ok t3 =>
        simp only
        cases P.pNum t3 with
        | error p => exact .inl ⟨p, rfl, rfl⟩
        | ok x =>
          obtain ⟨v, t4⟩ := x
          simp only [P.runF]
          cases P.runL P.isInit P.cellF t4.length t4 with
          | error p => exact .inl ⟨p, rfl, rfl⟩
          | ok x =>
            obtain ⟨⟨cs, ps⟩, t5⟩ := x
            simp only
            cases P.runL P.isThr P.threadF t5.length t5 with
            | error p => exact .inl ⟨p, rfl, rfl⟩
            | ok x =>
              obtain ⟨⟨bl, q2⟩, t6⟩ := x
              simp only
              cases P.askF t6 with
              | error p => exact .inl ⟨p, rfl, rfl⟩
              | ok x =>
                obtain ⟨k, t7⟩ := x
                simp only
                cases P.pCond t7 with
                | error p => exact .inl ⟨p, rfl, rfl⟩
                | ok x =>
                  obtain ⟨c, t8⟩ := x
                  simp only
                  cases t8 with
                  | nil => exact .inl ⟨0, rfl, rfl⟩
                  | cons t r =>
                    simp only [onE, nxt, takeR]
                    by_cases hk : (t.kind == 4) = true
                    · simp only [hk, if_true]
                      exact .inr ⟨r, _, _, rfl, rfl, _, _, _, _, _, _, _, _, _, _, _, _, _, _, rfl, rfl, rfl, rfl, rfl, rfl, rfl, rfl⟩
                    · have hk' : (t.kind == 4) = false := Bool.eq_false_iff.mpr hk
                      simp only [hk', Bool.false_eq_true, if_false]
                      exact .inl ⟨t.at', rfl, rfl⟩
/-- A program as a value. -/
def LPg (Q : Nat → Prop) (w : World) (v : Value) (p : PG) : Prop := ∃ vi vt o t s n a m c, v = .agg #[.string (bs p.name), .int .i64 p.vals, vi, vt, .int .i64 p.ask, .int .i64 o, .int .i64 t, .string s, .int .i64 n, .slice a m c] ∧ IsEs Q w vi p.init ∧ IsTs Q w vt p.threads ∧ LC Q w (.agg #[.int .i64 o, .int .i64 t, .string s, .int .i64 n, .slice a m c]) p.cond
def AnyPg (v : Value) : Prop := ∃ (nm : ByteArray) (vl : Int) (a1 : Option Addr) (n1 c1 : Nat) (a2 : Option Addr) (n2 c2 : Nat) (ak o t : Int) (s : ByteArray) (n : Int) (a : Option Addr) (m c : Nat), v = .agg #[.string nm, .int .i64 vl, .slice a1 n1 c1, .slice a2 n2 c2, .int .i64 ak, .int .i64 o, .int .i64 t, .string s, .int .i64 n, .slice a m c]
theorem LC.step {Q Q' : Nat → Prop} {w w' : World} (h : Same Q Q' w w') {v : Value} {e : CO} (hv : LC Q w v e) : LC Q' w' v e := by
  have h1 := LC.mono (Q' := fun b => Q' b ∧ w'.heap[b]? = w.heap[b]?) (fun b hb hl => h b hb hl) e hv
  have h2 := LC.keep (w' := w') (fun b hb hl => hb.2) e h1
  exact LC.mono (fun b hb _ => hb.1) e h2
theorem LPg.step {Q Q' : Nat → Prop} {w w' : World} (h : Same Q Q' w w') {v : Value} {p : PG} (hv : LPg Q w v p) : LPg Q' w' v p := by
  obtain ⟨vi, vt, o, t, s, n, a, m, c, rfl, h1, h2, h3⟩ := hv
  exact ⟨vi, vt, o, t, s, n, a, m, c, rfl, IsEs.step h h1, IsTs.step h h2, LC.step h h3⟩
theorem ten_free {w : World} {g : Nat} {t : TypeId} {a b c d e f h i j k : Value} (hh : Blk w g t #[a, b, c, d, e, f, h, i, j, k]) : (w.cell? ⟨g, 0, none⟩ = some a ∧ w.cell? ⟨g, 1, none⟩ = some b ∧ w.cell? ⟨g, 2, none⟩ = some c ∧ w.cell? ⟨g, 3, none⟩ = some d ∧ w.cell? ⟨g, 4, none⟩ = some e ∧ w.cell? ⟨g, 5, none⟩ = some f ∧ w.cell? ⟨g, 6, none⟩ = some h ∧ w.cell? ⟨g, 7, none⟩ = some i ∧ w.cell? ⟨g, 8, none⟩ = some j ∧ w.cell? ⟨g, 9, none⟩ = some k) ∧ w.frozen? ⟨g, 0, none⟩ = false ∧ w.frozen? ⟨g, 1, none⟩ = false ∧ w.frozen? ⟨g, 2, none⟩ = false ∧ w.frozen? ⟨g, 3, none⟩ = false ∧ w.frozen? ⟨g, 4, none⟩ = false ∧ w.frozen? ⟨g, 5, none⟩ = false ∧ w.frozen? ⟨g, 6, none⟩ = false ∧ w.frozen? ⟨g, 7, none⟩ = false ∧ w.frozen? ⟨g, 8, none⟩ = false ∧ w.frozen? ⟨g, 9, none⟩ = false :=
  ⟨⟨hh.cell 0, hh.cell 1, hh.cell 2, hh.cell 3, hh.cell 4, hh.cell 5, hh.cell 6, hh.cell 7, hh.cell 8, hh.cell 9⟩, hh.free 0, hh.free 1, hh.free 2, hh.free 3, hh.free 4, hh.free 5, hh.free 6, hh.free 7, hh.free 8, hh.free 9⟩
def put10w (w : World) (R : Nat) (a b c d e f h i j k : Value) : World := (((put7w w R a b c d e f h).setCell ⟨R, 7, none⟩ i).setCell ⟨R, 8, none⟩ j).setCell ⟨R, 9, none⟩ k
theorem ten0 {w : World} {R : Nat} {t : TypeId} {a b c d e f h i j k : Value} (hh : Blk w R t #[a, b, c, d, e, f, h, i, j, k]) (u : Value) : Blk (w.setCell ⟨R, 0, none⟩ u) R t #[u, b, c, d, e, f, h, i, j, k] := hh.set 0 u
theorem ten1 {w : World} {R : Nat} {t : TypeId} {a b c d e f h i j k : Value} (hh : Blk w R t #[a, b, c, d, e, f, h, i, j, k]) (u : Value) : Blk (w.setCell ⟨R, 1, none⟩ u) R t #[a, u, c, d, e, f, h, i, j, k] := hh.set 1 u
theorem ten2 {w : World} {R : Nat} {t : TypeId} {a b c d e f h i j k : Value} (hh : Blk w R t #[a, b, c, d, e, f, h, i, j, k]) (u : Value) : Blk (w.setCell ⟨R, 2, none⟩ u) R t #[a, b, u, d, e, f, h, i, j, k] := hh.set 2 u
theorem ten3 {w : World} {R : Nat} {t : TypeId} {a b c d e f h i j k : Value} (hh : Blk w R t #[a, b, c, d, e, f, h, i, j, k]) (u : Value) : Blk (w.setCell ⟨R, 3, none⟩ u) R t #[a, b, c, u, e, f, h, i, j, k] := hh.set 3 u
theorem ten4 {w : World} {R : Nat} {t : TypeId} {a b c d e f h i j k : Value} (hh : Blk w R t #[a, b, c, d, e, f, h, i, j, k]) (u : Value) : Blk (w.setCell ⟨R, 4, none⟩ u) R t #[a, b, c, d, u, f, h, i, j, k] := hh.set 4 u
theorem ten5 {w : World} {R : Nat} {t : TypeId} {a b c d e f h i j k : Value} (hh : Blk w R t #[a, b, c, d, e, f, h, i, j, k]) (u : Value) : Blk (w.setCell ⟨R, 5, none⟩ u) R t #[a, b, c, d, e, u, h, i, j, k] := hh.set 5 u
theorem ten6 {w : World} {R : Nat} {t : TypeId} {a b c d e f h i j k : Value} (hh : Blk w R t #[a, b, c, d, e, f, h, i, j, k]) (u : Value) : Blk (w.setCell ⟨R, 6, none⟩ u) R t #[a, b, c, d, e, f, u, i, j, k] := hh.set 6 u
theorem ten7 {w : World} {R : Nat} {t : TypeId} {a b c d e f h i j k : Value} (hh : Blk w R t #[a, b, c, d, e, f, h, i, j, k]) (u : Value) : Blk (w.setCell ⟨R, 7, none⟩ u) R t #[a, b, c, d, e, f, h, u, j, k] := hh.set 7 u
theorem ten8 {w : World} {R : Nat} {t : TypeId} {a b c d e f h i j k : Value} (hh : Blk w R t #[a, b, c, d, e, f, h, i, j, k]) (u : Value) : Blk (w.setCell ⟨R, 8, none⟩ u) R t #[a, b, c, d, e, f, h, i, u, k] := hh.set 8 u
theorem ten9 {w : World} {R : Nat} {t : TypeId} {a b c d e f h i j k : Value} (hh : Blk w R t #[a, b, c, d, e, f, h, i, j, k]) (u : Value) : Blk (w.setCell ⟨R, 9, none⟩ u) R t #[a, b, c, d, e, f, h, i, j, u] := hh.set 9 u
theorem put10 {w : World} {R : Nat} {t : TypeId} {a b c d e f h i j k a' b' c' d' e' f' h' i' j' k' : Value} (hh : Blk w R t #[a, b, c, d, e, f, h, i, j, k]) : Blk (put10w w R a' b' c' d' e' f' h' i' j' k') R t #[a', b', c', d', e', f', h', i', j', k'] :=
  ten9 (ten8 (ten7 (ten6 (ten5 (ten4 (ten3 (ten2 (ten1 (ten0 hh a') b') c') d') e') f') h') i') j') k'
theorem Only.put10 {S : Nat → Prop} {a b : World} (h : Only S a b) {R : Nat} (hR : S R ∨ a.heap.size ≤ R) (u0 u1 u2 u3 u4 u5 u6 u7 u8 u9 : Value) : Only S a (put10w b R u0 u1 u2 u3 u4 u5 u6 u7 u8 u9) :=
  (((Only.put7 h hR u0 u1 u2 u3 u4 u5 u6).setCell (p := ⟨R, 7, none⟩) hR _).setCell (p := ⟨R, 8, none⟩) hR _).setCell (p := ⟨R, 9, none⟩) hR _
end Go.Proofs.YtchokfgffnomoaaDoor.Lx
/-
  program of the developers' cursor: a contract.
-/
namespace Go.Proofs.YtchokfgffnomoaaDoor.Lx
open Go.RowKit
open L (Tok)
open P (EX CO ST PG Gl nextR)
set_option maxRecDepth 100000
set_option linter.unusedVariables false
set_option linter.unusedSimpArgs false
end Go.Proofs.YtchokfgffnomoaaDoor.Lx
