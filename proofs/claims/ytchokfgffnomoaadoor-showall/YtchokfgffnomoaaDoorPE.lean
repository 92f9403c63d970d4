/-
  cond of the document's cursor where nothing goes on any more; and how statements lie in memory.
-/
import Derived.Test.YtchokfgffnomoaaDoorPD
import Derived.Test.YtchokfgffnomoaaDoorPSame
import Derived.Test.YtchokfgffnomoaaDoorPSameC
import Derived.Test.YtchokfgffnomoaaDoorPA
namespace Go.Proofs.YtchokfgffnomoaaDoor.Lx
open Go.RowKit
open L (Tok)
open P (EX CO ST)
set_option maxRecDepth 100000
set_option linter.unusedVariables false
set_option linter.unusedSimpArgs false
/-! ### statements -/
mutual
/-- The seven cells are the statement's, what hangs on it in blocks of Q. -/
def LS (Q : Nat → Prop) (w : World) (v : Value) : ST → Prop
  | .mk kd md rg lc ar th el => ∃ aa ca at' ct ae ce, v = .agg #[.int .i64 kd, .int .i64 md, .string (bs rg), .string (bs lc), .slice aa ar.length ca, .slice at' th.length ct, .slice ae el.length ce] ∧ ar.length ≤ maxLen ∧ th.length ≤ maxLen ∧ el.length ≤ maxLen ∧
      (ar = [] ∨ ∃ g off, aa = some ⟨g, off, none⟩ ∧ Q g ∧ LXs Q w g off ar) ∧ (th = [] ∨ ∃ g off, at' = some ⟨g, off, none⟩ ∧ Q g ∧ LSs Q w g off th) ∧ (el = [] ∨ ∃ g off, ae = some ⟨g, off, none⟩ ∧ Q g ∧ LSs Q w g off el)
/-- Statements side by side. -/
def LSs (Q : Nat → Prop) (w : World) (g off : Nat) : List ST → Prop
  | [] => True
  | e :: es => (∃ c0 c1 c2 c3 c4 c5 c6, w.cell? ⟨g, off, none⟩ = some c0 ∧ w.cell? ⟨g, off + 1, none⟩ = some c1 ∧ w.cell? ⟨g, off + 2, none⟩ = some c2 ∧ w.cell? ⟨g, off + 3, none⟩ = some c3 ∧ w.cell? ⟨g, off + 4, none⟩ = some c4 ∧ w.cell? ⟨g, off + 5, none⟩ = some c5 ∧ w.cell? ⟨g, off + 6, none⟩ = some c6 ∧ LS Q w (.agg #[c0, c1, c2, c3, c4, c5, c6]) e) ∧ LSs Q w g (off + 7) es
end
mutual
theorem LS.keep {Q : Nat → Prop} {w w' : World} (h : Keeps Q w w') : ∀ (e : ST) {v : Value}, LS Q w v e → LS Q w' v e
  | .mk kd md rg lc ar th el, v, hv => by
    unfold LS at hv ⊢
    obtain ⟨aa, ca, at', ct, ae, ce, rfl, m1, m2, m3, h1, h2, h3⟩ := hv
    refine ⟨aa, ca, at', ct, ae, ce, rfl, m1, m2, m3, ?_, ?_, ?_⟩
    · rcases h1 with h1 | ⟨g, off, ha, hg, hs⟩
      · exact .inl h1
      · exact .inr ⟨g, off, ha, hg, LXs.keep h ar hg hs⟩
    · rcases h2 with h2 | ⟨g, off, ha, hg, hs⟩
      · exact .inl h2
      · exact .inr ⟨g, off, ha, hg, LSs.keep h th hg hs⟩
    · rcases h3 with h3 | ⟨g, off, ha, hg, hs⟩
      · exact .inl h3
      · exact .inr ⟨g, off, ha, hg, LSs.keep h el hg hs⟩
theorem LSs.keep {Q : Nat → Prop} {w w' : World} (h : Keeps Q w w') : ∀ (es : List ST) {g off : Nat}, Q g → LSs Q w g off es → LSs Q w' g off es
  | [], g, off, hg, hv => by
    unfold LSs
    trivial
  | e :: es, g, off, hg, hv => by
    unfold LSs at hv ⊢
    obtain ⟨⟨c0, c1, c2, c3, c4, c5, c6, h0, h1, h2, h3, h4, h5, h6, hx⟩, hs⟩ := hv
    exact ⟨⟨c0, c1, c2, c3, c4, c5, c6, h.cell hg h0, h.cell hg h1, h.cell hg h2, h.cell hg h3, h.cell hg h4, h.cell hg h5, h.cell hg h6, LS.keep h e hx⟩, LSs.keep h es hg hs⟩
end
theorem lxs_lt {Q : Nat → Prop} {w : World} {g off : Nat} {x : EX} {xs : List EX} (hs : LXs Q w g off (x :: xs)) : g < w.heap.size := by
  unfold LXs at hs
  obtain ⟨⟨c0, _, _, _, h0, _⟩, _⟩ := hs
  exact World.block_lt_of_cell? w ⟨g, off, none⟩ h0
theorem lss_lt {Q : Nat → Prop} {w : World} {g off : Nat} {x : ST} {xs : List ST} (hs : LSs Q w g off (x :: xs)) : g < w.heap.size := by
  unfold LSs at hs
  obtain ⟨⟨c0, _, _, _, _, _, _, h0, _⟩, _⟩ := hs
  exact World.block_lt_of_cell? w ⟨g, off, none⟩ h0
mutual
theorem LS.mono {Q Q' : Nat → Prop} {w : World} (h : ∀ g, Q g → g < w.heap.size → Q' g) : ∀ (e : ST) {v : Value}, LS Q w v e → LS Q' w v e
  | .mk kd md rg lc ar th el, v, hv => by
    unfold LS at hv ⊢
    obtain ⟨aa, ca, at', ct, ae, ce, rfl, m1, m2, m3, h1, h2, h3⟩ := hv
    refine ⟨aa, ca, at', ct, ae, ce, rfl, m1, m2, m3, ?_, ?_, ?_⟩
    · rcases h1 with h1 | ⟨g, off, ha, hg, hs⟩
      · exact .inl h1
      · cases ar with
        | nil => exact .inl rfl
        | cons x xs => exact .inr ⟨g, off, ha, h g hg (lxs_lt hs), LXs.mono h (x :: xs) hs⟩
    · rcases h2 with h2 | ⟨g, off, ha, hg, hs⟩
      · exact .inl h2
      · cases th with
        | nil => exact .inl rfl
        | cons x xs => exact .inr ⟨g, off, ha, h g hg (lss_lt hs), LSs.mono h (x :: xs) hs⟩
    · rcases h3 with h3 | ⟨g, off, ha, hg, hs⟩
      · exact .inl h3
      · cases el with
        | nil => exact .inl rfl
        | cons x xs => exact .inr ⟨g, off, ha, h g hg (lss_lt hs), LSs.mono h (x :: xs) hs⟩
theorem LSs.mono {Q Q' : Nat → Prop} {w : World} (h : ∀ g, Q g → g < w.heap.size → Q' g) : ∀ (es : List ST) {g off : Nat}, LSs Q w g off es → LSs Q' w g off es
  | [], g, off, hv => by
    unfold LSs
    trivial
  | e :: es, g, off, hv => by
    unfold LSs at hv ⊢
    obtain ⟨⟨c0, c1, c2, c3, c4, c5, c6, h0, h1, h2, h3, h4, h5, h6, hx⟩, hs⟩ := hv
    exact ⟨⟨c0, c1, c2, c3, c4, c5, c6, h0, h1, h2, h3, h4, h5, h6, LS.mono h e hx⟩, LSs.mono h es hs⟩
end
/-- A statement of a row, its cells, and that it lies there. -/
theorem LSs.at {Q : Nat → Prop} {w : World} : ∀ (es : List ST) {g off : Nat}, LSs Q w g off es → ∀ i, i < es.length → ∃ e c0 c1 c2 c3 c4 c5 c6, es[i]? = some e ∧ w.cell? ⟨g, off + i * 7, none⟩ = some c0 ∧ w.cell? ⟨g, off + i * 7 + 1, none⟩ = some c1 ∧ w.cell? ⟨g, off + i * 7 + 2, none⟩ = some c2 ∧ w.cell? ⟨g, off + i * 7 + 3, none⟩ = some c3 ∧ w.cell? ⟨g, off + i * 7 + 4, none⟩ = some c4 ∧ w.cell? ⟨g, off + i * 7 + 5, none⟩ = some c5 ∧ w.cell? ⟨g, off + i * 7 + 6, none⟩ = some c6 ∧ LS Q w (.agg #[c0, c1, c2, c3, c4, c5, c6]) e
  | [], g, off, h, i, hi => by simp at hi
  | x :: es, g, off, h, 0, hi => by
    unfold LSs at h
    obtain ⟨⟨c0, c1, c2, c3, c4, c5, c6, h0, h1, h2, h3, h4, h5, h6, hx⟩, _⟩ := h
    exact ⟨x, c0, c1, c2, c3, c4, c5, c6, rfl, by simpa using h0, by simpa using h1, by simpa using h2, by simpa using h3, by simpa using h4, by simpa using h5, by simpa using h6, hx⟩
  | x :: es, g, off, h, i + 1, hi => by
    unfold LSs at h
    obtain ⟨_, hs⟩ := h
    obtain ⟨e, c0, c1, c2, c3, c4, c5, c6, he, h0, h1, h2, h3, h4, h5, h6, hx⟩ := LSs.at es hs i (by simpa using hi)
    refine ⟨e, c0, c1, c2, c3, c4, c5, c6, by simpa using he, ?_, ?_, ?_, ?_, ?_, ?_, ?_, hx⟩
    · rw [show off + (i + 1) * 7 = off + 7 + i * 7 by omega]; exact h0
    · rw [show off + (i + 1) * 7 + 1 = off + 7 + i * 7 + 1 by omega]; exact h1
    · rw [show off + (i + 1) * 7 + 2 = off + 7 + i * 7 + 2 by omega]; exact h2
    · rw [show off + (i + 1) * 7 + 3 = off + 7 + i * 7 + 3 by omega]; exact h3
    · rw [show off + (i + 1) * 7 + 4 = off + 7 + i * 7 + 4 by omega]; exact h4
    · rw [show off + (i + 1) * 7 + 5 = off + 7 + i * 7 + 5 by omega]; exact h5
    · rw [show off + (i + 1) * 7 + 6 = off + 7 + i * 7 + 6 by omega]; exact h6
/-- v has a statement's form. -/
def AnyS (w : World) (v : Value) : Prop := ∃ (kd md : Int) (rg lc : ByteArray) (aa : Option Addr) (na ca : Nat) (at' : Option Addr) (nt ct : Nat) (ae : Option Addr) (ne ce : Nat), v = .agg #[.int .i64 kd, .int .i64 md, .string rg, .string lc, .slice aa na ca, .slice at' nt ct, .slice ae ne ce]
theorem LS.any {Q : Nat → Prop} {w : World} {v : Value} {e : ST} (h : LS Q w v e) : ∃ (kd md : Int) (rg lc : ByteArray) (aa : Option Addr) (na ca : Nat) (at' : Option Addr) (nt ct : Nat) (ae : Option Addr) (ne ce : Nat), v = .agg #[.int .i64 kd, .int .i64 md, .string rg, .string lc, .slice aa na ca, .slice at' nt ct, .slice ae ne ce] := by
  cases e with
  | mk kd md rg lc ar th el =>
    unfold LS at h
    obtain ⟨_, _, _, _, _, _, rfl, _⟩ := h
    exact ⟨_, _, _, _, _, _, _, _, _, _, _, _, _, rfl⟩
end Go.Proofs.YtchokfgffnomoaaDoor.Lx
/-
  The readers of the document's cursor, whether it still goes on or not: one contract each.
-/
namespace Go.Proofs.YtchokfgffnomoaaDoor.Lx
open Go.RowKit
open L (Tok)
open P (EX CO ST)
set_option maxRecDepth 100000
set_option linter.unusedVariables false
set_option linter.unusedSimpArgs false
/-- The cursor's state: what is left, or the place of the token that doesn't go on. -/
def Stat (TS : List Tok) (k : Nat) (bad : Int) : Except Nat (List Tok) → Prop
  | .ok ts => bad = -1 ∧ ts = TS.drop k
  | .error p => bad = (p : Nat)
end Go.Proofs.YtchokfgffnomoaaDoor.Lx
/-
  What right of the document's cursor tells, as a contract.
-/
namespace Go.Proofs.YtchokfgffnomoaaDoor.Lx
open Go.RowKit
open L (Tok)
open P (EX CO ST)
set_option linter.unusedVariables false
set_option linter.unusedSimpArgs false
theorem seven_free {w : World} {g : Nat} {t : TypeId} {a b c d e f h : Value} (hh : Blk w g t #[a, b, c, d, e, f, h]) : w.cell? ⟨g, 0, none⟩ = some a ∧ w.cell? ⟨g, 1, none⟩ = some b ∧ w.cell? ⟨g, 2, none⟩ = some c ∧ w.cell? ⟨g, 3, none⟩ = some d ∧ w.cell? ⟨g, 4, none⟩ = some e ∧ w.cell? ⟨g, 5, none⟩ = some f ∧ w.cell? ⟨g, 6, none⟩ = some h ∧ w.frozen? ⟨g, 0, none⟩ = false ∧ w.frozen? ⟨g, 1, none⟩ = false ∧ w.frozen? ⟨g, 2, none⟩ = false ∧ w.frozen? ⟨g, 3, none⟩ = false ∧ w.frozen? ⟨g, 4, none⟩ = false ∧ w.frozen? ⟨g, 5, none⟩ = false ∧ w.frozen? ⟨g, 6, none⟩ = false := ⟨hh.cell 0, hh.cell 1, hh.cell 2, hh.cell 3, hh.cell 4, hh.cell 5, hh.cell 6, hh.free 0, hh.free 1, hh.free 2, hh.free 3, hh.free 4, hh.free 5, hh.free 6⟩
def put7w (w : World) (R : Nat) (a b c d e f h : Value) : World := ((((((w.setCell ⟨R, 0, none⟩ a).setCell ⟨R, 1, none⟩ b).setCell ⟨R, 2, none⟩ c).setCell ⟨R, 3, none⟩ d).setCell ⟨R, 4, none⟩ e).setCell ⟨R, 5, none⟩ f).setCell ⟨R, 6, none⟩ h
theorem put7 {w : World} {R : Nat} {t : TypeId} {a b c d e f h a' b' c' d' e' f' h' : Value} (hh : Blk w R t #[a, b, c, d, e, f, h]) : Blk (put7w w R a' b' c' d' e' f' h') R t #[a', b', c', d', e', f', h'] := by
  have h0 : Blk (w.setCell ⟨R, 0, none⟩ a') R t #[a', b, c, d, e, f, h] := hh.set 0 a'
  have h1 : Blk ((w.setCell ⟨R, 0, none⟩ a').setCell ⟨R, 1, none⟩ b') R t #[a', b', c, d, e, f, h] := h0.set 1 b'
  have h2 := h1.set 2 c'
  have h2' : Blk _ R t #[a', b', c', d, e, f, h] := h2
  have h3 := h2'.set 3 d'
  have h3' : Blk _ R t #[a', b', c', d', e, f, h] := h3
  have h4 := h3'.set 4 e'
  have h4' : Blk _ R t #[a', b', c', d', e', f, h] := h4
  have h5 := h4'.set 5 f'
  have h5' : Blk _ R t #[a', b', c', d', e', f', h] := h5
  have h6 := h5'.set 6 h'
  exact (show Blk _ R t #[a', b', c', d', e', f', h'] from h6)
theorem Only.put7 {S : Nat → Prop} {a b : World} (h : Only S a b) {R : Nat} (hR : S R ∨ a.heap.size ≤ R) (u0 u1 u2 u3 u4 u5 u6 : Value) : Only S a (put7w b R u0 u1 u2 u3 u4 u5 u6) :=
  (((Only.put4 h hR u0 u1 u2 u3).setCell (p := ⟨R, 4, none⟩) hR _).setCell (p := ⟨R, 5, none⟩) hR _).setCell (p := ⟨R, 6, none⟩) hR _
theorem lxs_one {Q : Nat → Prop} {g : Nat} {w : World} {x : EX} {x0 x1 x2 x3 : Value} (hB : Blk w g 31 #[x0, x1, x2, x3]) (hx : LX Q w (.agg #[x0, x1, x2, x3]) x) : LXs Q w g 0 [x] := by
  unfold LXs
  refine ⟨⟨x0, x1, x2, x3, hB.cell 0, hB.cell 1, hB.cell 2, hB.cell 3, hx⟩, ?_⟩
  unfold LXs
  trivial
end Go.Proofs.YtchokfgffnomoaaDoor.Lx
/-
  What right of the document's cursor tells of cas, as a contract; and right whole.
-/
namespace Go.Proofs.YtchokfgffnomoaaDoor.Lx
open Go.RowKit
open L (Tok)
open P (EX CO ST)
set_option linter.unusedVariables false
set_option linter.unusedSimpArgs false
theorem lxs_two {Q : Nat → Prop} {g : Nat} {w : World} {x y : EX} {x0 x1 x2 x3 y0 y1 y2 y3 : Value} (hB : Blk w g 31 #[x0, x1, x2, x3, y0, y1, y2, y3]) (hx : LX Q w (.agg #[x0, x1, x2, x3]) x) (hy : LX Q w (.agg #[y0, y1, y2, y3]) y) : LXs Q w g 0 [x, y] := by
  unfold LXs
  refine ⟨⟨x0, x1, x2, x3, hB.cell 0, hB.cell 1, hB.cell 2, hB.cell 3, hx⟩, ?_⟩
  unfold LXs
  refine ⟨⟨y0, y1, y2, y3, hB.cell 4, hB.cell 5, hB.cell 6, hB.cell 7, hy⟩, ?_⟩
  unfold LXs
  trivial
/-- cas, plainly. -/
def casF (rg : List UInt8) (ts : List Tok) : P.Res ST :=
  match P.pMode ts with
  | .error p => .error p
  | .ok (m, r1) =>
    match P.pName r1 with
    | .error p => .error p
    | .ok (l, r2) =>
      match P.pExpr r2 with
      | .error p => .error p
      | .ok (a, r3) =>
        match P.need [44] r3 with
        | .error p => .error p
        | .ok r4 =>
          match P.pExpr r4 with
          | .error p => .error p
          | .ok (b, r5) => .ok (.mk 5 m rg l [a, b] [] [], r5)
end Go.Proofs.YtchokfgffnomoaaDoor.Lx
