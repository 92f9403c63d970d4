/-
  What sum of the document's cursor tells, as a contract.
-/
import Derived.Test.YtchokfgffnomoaaDoorPB
import Derived.Deep.RegionWith
namespace Go.Proofs.YtchokfgffnomoaaDoor.Lx
open Go.RowKit
open L (Tok)
open P (EX)
set_option maxRecDepth 100000
set_option linter.unusedVariables false
set_option linter.unusedSimpArgs false
/-- What was read, whether it goes on or not. -/
def RX (Q : Nat → Prop) (w' : World) (v : Value) (TS : List Tok) (k k2 : Nat) (bad : Int) : P.Res EX → Prop
  | .ok (x, ts) => LX Q w' v x ∧ ts = TS.drop k2 ∧ k < k2 ∧ bad = -1
  | .error p => bad = (p : Nat)
/-- Where a cursor is. -/
def mAt (C : Nat) (w : World) : Nat :=
  match w.cell? ⟨C, 1, none⟩ with
  | some (.int _ i) => i.toNat
  | _ => 0
/-- Blocks behind R but E. -/
def Sm (R E g : Nat) : Prop := R < g ∧ g ≠ E
theorem sumL_stop (rec : List Tok → P.Res EX) (f : Nat) (x : EX) {ts : List Tok} (h : (P.isS [43] ts || P.isS [45] ts) = false) : P.sumL rec f x ts = .ok (x, ts) := by
  cases f with
  | zero => rfl
  | succ f =>
    unfold P.sumL
    rw [h]
    rfl
theorem sumL_more (rec : List Tok → P.Res EX) (f : Nat) (x : EX) {ts : List Tok} (h : (P.isS [43] ts || P.isS [45] ts) = true) : P.sumL rec (f + 1) x ts = (match P.atomF rec ts.tail with
      | .error p => .error p
      | .ok (a, r) => P.sumL rec f (.mk (if P.isS [45] ts then 4 else 3) 0 [] [x, a]) r) := by
  conv => lhs; unfold P.sumL
  rw [h, if_pos rfl]
  rfl
end Go.Proofs.YtchokfgffnomoaaDoor.Lx
/-
  What sum (where nothing goes on) and expr of the document's cursor tell, as contracts.
-/
namespace Go.Proofs.YtchokfgffnomoaaDoor.Lx
open Go.RowKit
open L (Tok)
open P (EX)
set_option maxRecDepth 100000
set_option linter.unusedVariables false
set_option linter.unusedSimpArgs false
end Go.Proofs.YtchokfgffnomoaaDoor.Lx
/-
  sum and expr of the document's cursor where nothing goes on any more; and expr by the plain reader.
-/
namespace Go.Proofs.YtchokfgffnomoaaDoor.Lx
open Go.RowKit
open L (Tok)
open P (EX)
set_option maxRecDepth 100000
set_option linter.unusedVariables false
set_option linter.unusedSimpArgs false
end Go.Proofs.YtchokfgffnomoaaDoor.Lx
/-
  How conditions lie in memory.
-/
namespace Go.Proofs.YtchokfgffnomoaaDoor.Lx
open Go.RowKit
open L (Tok)
open P (CO)
set_option maxRecDepth 100000
set_option linter.unusedVariables false
set_option linter.unusedSimpArgs false
mutual
/-- v is the condition, its kids in blocks of Q. -/
def LC (Q : Nat → Prop) (w : World) (v : Value) : CO → Prop
  | .mk o m s u ks => ∃ a cap, v = .agg #[.int .i64 o, .int .i64 m, .string (bs s), .int .i64 u, .slice a ks.length cap] ∧ ks.length ≤ maxLen ∧ (ks = [] ∨ ∃ g off, a = some ⟨g, off, none⟩ ∧ Q g ∧ LCs Q w g off ks)
/-- Conditions side by side. -/
def LCs (Q : Nat → Prop) (w : World) (g off : Nat) : List CO → Prop
  | [] => True
  | e :: es => (∃ c0 c1 c2 c3 c4, w.cell? ⟨g, off, none⟩ = some c0 ∧ w.cell? ⟨g, off + 1, none⟩ = some c1 ∧ w.cell? ⟨g, off + 2, none⟩ = some c2 ∧ w.cell? ⟨g, off + 3, none⟩ = some c3 ∧ w.cell? ⟨g, off + 4, none⟩ = some c4 ∧ LC Q w (.agg #[c0, c1, c2, c3, c4]) e) ∧ LCs Q w g (off + 5) es
end
mutual
theorem LC.keep {Q : Nat → Prop} {w w' : World} (h : Keeps Q w w') : ∀ (e : CO) {v : Value}, LC Q w v e → LC Q w' v e
  | .mk o m s u ks, v, hv => by
    unfold LC at hv ⊢
    obtain ⟨a, cap, rfl, hm, hk⟩ := hv
    refine ⟨a, cap, rfl, hm, ?_⟩
    rcases hk with hk | ⟨g, off, ha, hg, hs⟩
    · exact .inl hk
    · exact .inr ⟨g, off, ha, hg, LCs.keep h ks hg hs⟩
theorem LCs.keep {Q : Nat → Prop} {w w' : World} (h : Keeps Q w w') : ∀ (es : List CO) {g off : Nat}, Q g → LCs Q w g off es → LCs Q w' g off es
  | [], g, off, hg, hv => by
    unfold LCs
    trivial
  | e :: es, g, off, hg, hv => by
    unfold LCs at hv ⊢
    obtain ⟨⟨c0, c1, c2, c3, c4, h0, h1, h2, h3, h4, hx⟩, hs⟩ := hv
    exact ⟨⟨c0, c1, c2, c3, c4, h.cell hg h0, h.cell hg h1, h.cell hg h2, h.cell hg h3, h.cell hg h4, LC.keep h e hx⟩, LCs.keep h es hg hs⟩
end
mutual
/-- Blocks of Q that are there are of Q'. -/
theorem LC.mono {Q Q' : Nat → Prop} {w : World} (h : ∀ g, Q g → g < w.heap.size → Q' g) : ∀ (e : CO) {v : Value}, LC Q w v e → LC Q' w v e
  | .mk o m s u ks, v, hv => by
    unfold LC at hv ⊢
    obtain ⟨a, cap, rfl, hm, hk⟩ := hv
    refine ⟨a, cap, rfl, hm, ?_⟩
    rcases hk with hk | ⟨g, off, ha, hg, hs⟩
    · exact .inl hk
    · cases ks with
      | nil => exact .inl rfl
      | cons x xs =>
        have hl : g < w.heap.size := by
          unfold LCs at hs
          obtain ⟨⟨c0, _, _, _, _, h0, _⟩, _⟩ := hs
          exact World.block_lt_of_cell? w ⟨g, off, none⟩ h0
        exact .inr ⟨g, off, ha, h g hg hl, LCs.mono h (x :: xs) hs⟩
theorem LCs.mono {Q Q' : Nat → Prop} {w : World} (h : ∀ g, Q g → g < w.heap.size → Q' g) : ∀ (es : List CO) {g off : Nat}, LCs Q w g off es → LCs Q' w g off es
  | [], g, off, hv => by
    unfold LCs
    trivial
  | e :: es, g, off, hv => by
    unfold LCs at hv ⊢
    obtain ⟨⟨c0, c1, c2, c3, c4, h0, h1, h2, h3, h4, hx⟩, hs⟩ := hv
    exact ⟨⟨c0, c1, c2, c3, c4, h0, h1, h2, h3, h4, LC.mono h e hx⟩, LCs.mono h es hs⟩
end
/-- v has a condition's form. -/
def AnyC (w : World) (v : Value) : Prop := ∃ (o m : Int) (s : ByteArray) (u : Int) (a : Option Addr) (n c : Nat), v = .agg #[.int .i64 o, .int .i64 m, .string s, .int .i64 u, .slice a n c]
theorem LC.any {Q : Nat → Prop} {w : World} {v : Value} {e : CO} (h : LC Q w v e) : ∃ (o m : Int) (s : ByteArray) (u : Int) (a : Option Addr) (n c : Nat), v = .agg #[.int .i64 o, .int .i64 m, .string s, .int .i64 u, .slice a n c] := by
  cases e with
  | mk o m s u ks =>
    unfold LC at h
    obtain ⟨a, cap, rfl, _⟩ := h
    exact ⟨_, _, _, _, _, _, _, rfl⟩
theorem lc_leaf (Q : Nat → Prop) (w : World) (o m : Int) (s : List UInt8) (u : Int) (a : Option Addr) (c : Nat) : LC Q w (.agg #[.int .i64 o, .int .i64 m, .string (bs s), .int .i64 u, .slice a 0 c]) (.mk o m s u []) := by
  unfold LC
  exact ⟨a, c, rfl, Nat.zero_le _, .inl rfl⟩
theorem lc_one {Q : Nat → Prop} {g : Nat} {w : World} {o m u : Int} {s : List UInt8} {c : Nat} {x : CO} {x0 x1 x2 x3 x4 : Value} (hg : Q g) (hB : Blk w g 26 #[x0, x1, x2, x3, x4])
    (hx : LC Q w (.agg #[x0, x1, x2, x3, x4]) x) : LC Q w (.agg #[.int .i64 o, .int .i64 m, .string (bs s), .int .i64 u, .slice (some ⟨g, 0, none⟩) 1 c]) (.mk o m s u [x]) := by
  unfold LC
  refine ⟨_, c, rfl, show 1 ≤ maxLen by decide, .inr ⟨g, 0, rfl, hg, ?_⟩⟩
  unfold LCs
  refine ⟨⟨x0, x1, x2, x3, x4, hB.cell 0, hB.cell 1, hB.cell 2, hB.cell 3, hB.cell 4, hx⟩, ?_⟩
  unfold LCs
  trivial
theorem lc_two {Q : Nat → Prop} {g : Nat} {w : World} {o m u : Int} {s : List UInt8} {c : Nat} {x y : CO} {x0 x1 x2 x3 x4 y0 y1 y2 y3 y4 : Value} (hg : Q g) (hB : Blk w g 26 #[x0, x1, x2, x3, x4, y0, y1, y2, y3, y4])
    (hx : LC Q w (.agg #[x0, x1, x2, x3, x4]) x) (hy : LC Q w (.agg #[y0, y1, y2, y3, y4]) y) : LC Q w (.agg #[.int .i64 o, .int .i64 m, .string (bs s), .int .i64 u, .slice (some ⟨g, 0, none⟩) 2 c]) (.mk o m s u [x, y]) := by
  unfold LC
  refine ⟨_, c, rfl, show 2 ≤ maxLen by decide, .inr ⟨g, 0, rfl, hg, ?_⟩⟩
  unfold LCs
  refine ⟨⟨x0, x1, x2, x3, x4, hB.cell 0, hB.cell 1, hB.cell 2, hB.cell 3, hB.cell 4, hx⟩, ?_⟩
  unfold LCs
  refine ⟨⟨y0, y1, y2, y3, y4, hB.cell 5, hB.cell 6, hB.cell 7, hB.cell 8, hB.cell 9, hy⟩, ?_⟩
  unfold LCs
  trivial
theorem put5 {w : World} {R : Nat} {t : TypeId} {a b c d f a' b' c' d' f' : Value} (h : Blk w R t #[a, b, c, d, f]) : Blk (((((w.setCell ⟨R, 0, none⟩ a').setCell ⟨R, 1, none⟩ b').setCell ⟨R, 2, none⟩ c').setCell ⟨R, 3, none⟩ d').setCell ⟨R, 4, none⟩ f') R t #[a', b', c', d', f'] := ((((h.set 0 a').set 1 b').set 2 c').set 3 d').set 4 f'
theorem Only.put5 {S : Nat → Prop} {a b : World} (h : Only S a b) {R : Nat} (hR : S R ∨ a.heap.size ≤ R) (u0 u1 u2 u3 u4 : Value) : Only S a (((((b.setCell ⟨R, 0, none⟩ u0).setCell ⟨R, 1, none⟩ u1).setCell ⟨R, 2, none⟩ u2).setCell ⟨R, 3, none⟩ u3).setCell ⟨R, 4, none⟩ u4) :=
  (Only.put4 h hR u0 u1 u2 u3).setCell (p := ⟨R, 4, none⟩) hR _
theorem five_free {w : World} {g : Nat} {t : TypeId} {a b c d f : Value} (h : Blk w g t #[a, b, c, d, f]) : w.cell? ⟨g, 0, none⟩ = some a ∧ w.cell? ⟨g, 1, none⟩ = some b ∧ w.cell? ⟨g, 2, none⟩ = some c ∧ w.cell? ⟨g, 3, none⟩ = some d ∧ w.cell? ⟨g, 4, none⟩ = some f ∧ w.frozen? ⟨g, 0, none⟩ = false ∧ w.frozen? ⟨g, 1, none⟩ = false ∧ w.frozen? ⟨g, 2, none⟩ = false ∧ w.frozen? ⟨g, 3, none⟩ = false ∧ w.frozen? ⟨g, 4, none⟩ = false := ⟨h.cell 0, h.cell 1, h.cell 2, h.cell 3, h.cell 4, h.free 0, h.free 1, h.free 2, h.free 3, h.free 4⟩
/-- The zero condition's cells. -/
abbrev zc : Array Value := #[.int .i64 0, .int .i64 0, .string ⟨#[]⟩, .int .i64 0, .slice none 0 0]
def RC (Q : Nat → Prop) (w' : World) (v : Value) (TS : List Tok) (k k2 : Nat) (bad : Int) : P.Res CO → Prop
  | .ok (x, ts) => LC Q w' v x ∧ ts = TS.drop k2 ∧ k < k2 ∧ bad = -1
  | .error p => bad = (p : Nat)
end Go.Proofs.YtchokfgffnomoaaDoor.Lx
