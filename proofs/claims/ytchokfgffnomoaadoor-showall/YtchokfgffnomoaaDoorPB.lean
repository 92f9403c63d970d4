/-
  Words for memory that the contracts of the document's cursor use: worlds in which one block alone turns, a cursor over tokens.
-/
import Derived.Test.YtchokfgffnomoaaDoorLSame
import Derived.Test.YtchokfgffnomoaaDoorPA
import Derived.RegionTactic
namespace Go.Proofs.YtchokfgffnomoaaDoor.Lx
open Go.RowKit
open L (Tok)
set_option maxRecDepth 100000
set_option linter.unusedVariables false
set_option linter.unusedSimpArgs false
/-- Of the blocks that were there only those of S may have turned. -/
structure Only (S : Nat → Prop) (w w' : World) : Prop where
  os : w'.os = w.os
  tape : w'.tape = w.tape
  output : w'.output = w.output
  size : w.heap.size ≤ w'.heap.size
  block : ∀ k, k < w.heap.size → ¬ S k → w'.heap[k]? = w.heap[k]?
theorem Only.refl (S : Nat → Prop) (w : World) : Only S w w := ⟨rfl, rfl, rfl, Nat.le_refl _, fun _ _ _ => rfl⟩
theorem Only.trans {S : Nat → Prop} {a b c : World} (h : Only S a b) (k : Only S b c) : Only S a c :=
  ⟨k.os.trans h.os, k.tape.trans h.tape, k.output.trans h.output, Nat.le_trans h.size k.size, fun i hi hs => (k.block i (Nat.lt_of_lt_of_le hi h.size) hs).trans (h.block i hi hs)⟩
theorem Only.drewN {S : Nat → Prop} {a b : World} (h : Only S a b) (n : Nat) : Only S a (b.drewN n) := h.trans ⟨rfl, rfl, rfl, Nat.le_refl _, fun _ _ _ => rfl⟩
theorem Only.drew {S : Nat → Prop} {a b : World} (h : Only S a b) : Only S a b.drew := h.trans ⟨rfl, rfl, rfl, Nat.le_refl _, fun _ _ _ => rfl⟩
theorem Only.alloc {S : Nat → Prop} {a b : World} (h : Only S a b) (o : Obj) : Only S a (b.alloc o) := h.trans ⟨rfl, rfl, rfl, by simp, fun k hk _ => Below.heap_alloc _ _ _ hk⟩
theorem Only.setCell {S : Nat → Prop} {a b : World} (h : Only S a b) {p : Addr} (hp : S p.block ∨ a.heap.size ≤ p.block) (u : Value) : Only S a (b.setCell p u) :=
  ⟨h.os, h.tape, h.output, by simpa [World.setCell] using h.size, fun k hk hs => by
    rw [Below.heap_setCell _ _ _ _ (by rintro rfl; exact hp.elim hs (by omega))]
    exact h.block k hk hs⟩
theorem Only.below {S : Nat → Prop} {w w' : World} {B : Nat} (h : Only S w w') (hB : B ≤ w.heap.size) (hS : ∀ k, k < B → ¬ S k) : Below B w w' :=
  ⟨h.os, h.tape, h.output, h.size, fun k hk => h.block k (by omega) (hS k hk)⟩
theorem Only.of_below {S : Nat → Prop} {w w' : World} (h : Below w.heap.size w w') : Only S w w' :=
  ⟨h.os, h.tape, h.output, h.size, fun k hk _ => h.block k hk⟩
theorem Only.cell {S : Nat → Prop} {w w' : World} (h : Only S w w') {p : Addr} {v : Value} (hc : w.cell? p = some v) (hp : ¬ S p.block) : w'.cell? p = some v := by
  have hb := h.block p.block (World.block_lt_of_cell? w p hc) hp
  have e : w'.cell? p = w.cell? p := by simp only [World.cell?, hb]
  rw [e]
  exact hc
theorem Blk.only {w w' : World} {S : Nat → Prop} {g : Nat} {t : TypeId} {cs : Array Value} (h : Blk w g t cs) (ho : Only S w w') (hg : ¬ S g) : Blk w' g t cs := (ho.block g h.lt hg).trans h
theorem Four.only {w w' : World} {S : Nat → Prop} {g o : Nat} {t : Tok} (h : Four w g o t) (ho : Only S w w') (hg : ¬ S g) : Four w' g o t :=
  ⟨ho.cell h.1 hg, ho.cell h.2.1 hg, ho.cell h.2.2.1 hg, ho.cell h.2.2.2 hg⟩
theorem drop_tat {TS : List Tok} {k : Nat} (h : k < TS.length) : TS.drop k = tat TS k :: TS.drop (k + 1) := by
  rw [List.drop_eq_getElem_cons h, tat, List.getD_eq_getElem?_getD, List.getElem?_eq_getElem h]
  rfl
theorem natb (n m : Nat) : (((n : Nat) : Int) == ((m : Nat) : Int)) = (n == m) := by
  rw [Bool.eq_iff_iff]
  simp
  omega
theorem txb (tx : List UInt8) (s : ByteArray) : ((bs tx).toList == s.toList) = (tx == by' s) := by rw [toList_by, toList_by, by_bs]
end Go.Proofs.YtchokfgffnomoaaDoor.Lx
/-
  What need, name, number and mode of the document's cursor tell, as contracts.
-/
namespace Go.Proofs.YtchokfgffnomoaaDoor.Lx
open Go.RowKit
open L (Tok)
set_option maxRecDepth 100000
set_option linter.unusedVariables false
set_option linter.unusedSimpArgs false
theorem isS_kind {s : List UInt8} {t : Tok} {r : List Tok} (h : P.isS s (t :: r) = true) : t.kind ≠ 4 := by
  simp only [P.isS, Bool.and_eq_true, Bool.or_eq_true, beq_iff_eq] at h
  omega
theorem isN_kind {t : Tok} {r : List Tok} (h : P.isN (t :: r) = true) : t.kind ≠ 4 := by
  simp only [P.isN, Bool.and_eq_true, beq_iff_eq] at h
  omega
theorem isD_kind {t : Tok} {r : List Tok} (h : P.isD (t :: r) = true) : t.kind ≠ 4 := by
  simp only [P.isD, beq_iff_eq] at h
  omega
theorem Only.step {w : World} {C : Nat} (v : Value) : Only (· = C) w (w.setCell ⟨C, 1, none⟩ v) := (Only.refl (· = C) w).setCell (p := ⟨C, 1, none⟩) (.inl rfl) _
def IsText (w : World) (v : Value) (s : List UInt8) : Prop := v = .string (bs s)
def AnyText (w : World) (v : Value) : Prop := ∃ s, v = .string s
def IsNum (w : World) (v : Value) (n : Nat) : Prop := v = .int .i64 (n : Nat)
def AnyNum (w : World) (v : Value) : Prop := ∃ n : Int, v = .int .i64 n
theorem mode_text : ∀ m : Nat, m < 5 → ∃ b : ByteArray, b = bs (P.modeT m) := fun m _ => ⟨_, rfl⟩
set_option maxHeartbeats 800000 in
theorem modeT_any (m : Nat) (w : World) (hm : m < 5) : Calls Tryd.prog 19 #[.int .i64 (m : Nat)] w fun e w' => e = .returned (.string (bs (P.modeT m))) ∧ w = w' := by
  have h5 : m = 0 ∨ m = 1 ∨ m = 2 ∨ m = 3 ∨ m = 4 := by omega
  rcases h5 with rfl | rfl | rfl | rfl | rfl
  all_goals
    clear hm
    go_enter Tryd.func19, Tryd.ntmps19
    go_wp2_with fail
    go_ret
    exact ⟨rfl, rfl⟩
end Go.Proofs.YtchokfgffnomoaaDoor.Lx
/-
  How expressions lie in memory.
-/
namespace Go.Proofs.YtchokfgffnomoaaDoor.Lx
open Go.RowKit
open L (Tok)
open P (EX)
set_option maxRecDepth 100000
set_option linter.unusedVariables false
set_option linter.unusedSimpArgs false
mutual
/-- v is the expression, its kids in blocks of Q. -/
def LX (Q : Nat → Prop) (w : World) (v : Value) : EX → Prop
  | .mk o m s ks => ∃ a cap, v = .agg #[.int .i64 o, .int .i64 m, .string (bs s), .slice a ks.length cap] ∧ ks.length ≤ maxLen ∧ (ks = [] ∨ ∃ g off, a = some ⟨g, off, none⟩ ∧ Q g ∧ LXs Q w g off ks)
/-- Expressions side by side. -/
def LXs (Q : Nat → Prop) (w : World) (g off : Nat) : List EX → Prop
  | [] => True
  | e :: es => (∃ c0 c1 c2 c3, w.cell? ⟨g, off, none⟩ = some c0 ∧ w.cell? ⟨g, off + 1, none⟩ = some c1 ∧ w.cell? ⟨g, off + 2, none⟩ = some c2 ∧ w.cell? ⟨g, off + 3, none⟩ = some c3 ∧ LX Q w (.agg #[c0, c1, c2, c3]) e) ∧ LXs Q w g (off + 4) es
end
/-- All blocks of Q that were there are as they were. -/
def Keeps (Q : Nat → Prop) (w w' : World) : Prop := ∀ g, Q g → g < w.heap.size → w'.heap[g]? = w.heap[g]?
theorem Keeps.cell {Q : Nat → Prop} {w w' : World} (h : Keeps Q w w') {g o : Nat} {v : Value} (hg : Q g) (hc : w.cell? ⟨g, o, none⟩ = some v) : w'.cell? ⟨g, o, none⟩ = some v := by
  have hb := h g hg (World.block_lt_of_cell? w ⟨g, o, none⟩ hc)
  have e : w'.cell? ⟨g, o, none⟩ = w.cell? ⟨g, o, none⟩ := by simp only [World.cell?, hb]
  rw [e]
  exact hc
theorem Keeps.only {S Q : Nat → Prop} {w w' : World} (h : Only S w w') (hS : ∀ g, Q g → ¬ S g) : Keeps Q w w' := fun g hg hl => h.block g hl (hS g hg)
theorem Keeps.below {Q : Nat → Prop} {B : Nat} {w w' : World} (h : Below B w w') (hB : w.heap.size ≤ B) : Keeps Q w w' := fun g hg hl => h.block g (by omega)
mutual
theorem LX.keep {Q : Nat → Prop} {w w' : World} (h : Keeps Q w w') : ∀ (e : EX) {v : Value}, LX Q w v e → LX Q w' v e
  | .mk o m s ks, v, hv => by
    unfold LX at hv ⊢
    obtain ⟨a, cap, rfl, hm, hk⟩ := hv
    refine ⟨a, cap, rfl, hm, ?_⟩
    rcases hk with hk | ⟨g, off, ha, hg, hs⟩
    · exact .inl hk
    · exact .inr ⟨g, off, ha, hg, LXs.keep h ks hg hs⟩
theorem LXs.keep {Q : Nat → Prop} {w w' : World} (h : Keeps Q w w') : ∀ (es : List EX) {g off : Nat}, Q g → LXs Q w g off es → LXs Q w' g off es
  | [], g, off, hg, hv => by
    unfold LXs
    trivial
  | e :: es, g, off, hg, hv => by
    unfold LXs at hv ⊢
    obtain ⟨⟨c0, c1, c2, c3, h0, h1, h2, h3, hx⟩, hs⟩ := hv
    exact ⟨⟨c0, c1, c2, c3, h.cell hg h0, h.cell hg h1, h.cell hg h2, h.cell hg h3, LX.keep h e hx⟩, LXs.keep h es hg hs⟩
end
mutual
/-- Blocks of Q that are there are of Q'. -/
theorem LX.mono {Q Q' : Nat → Prop} {w : World} (h : ∀ g, Q g → g < w.heap.size → Q' g) : ∀ (e : EX) {v : Value}, LX Q w v e → LX Q' w v e
  | .mk o m s ks, v, hv => by
    unfold LX at hv ⊢
    obtain ⟨a, cap, rfl, hm, hk⟩ := hv
    refine ⟨a, cap, rfl, hm, ?_⟩
    rcases hk with hk | ⟨g, off, ha, hg, hs⟩
    · exact .inl hk
    · cases ks with
      | nil => exact .inl rfl
      | cons x xs =>
        have hl : g < w.heap.size := by
          unfold LXs at hs
          obtain ⟨⟨c0, _, _, _, h0, _⟩, _⟩ := hs
          exact World.block_lt_of_cell? w ⟨g, off, none⟩ h0
        exact .inr ⟨g, off, ha, h g hg hl, LXs.mono h (x :: xs) hs⟩
theorem LXs.mono {Q Q' : Nat → Prop} {w : World} (h : ∀ g, Q g → g < w.heap.size → Q' g) : ∀ (es : List EX) {g off : Nat}, LXs Q w g off es → LXs Q' w g off es
  | [], g, off, hv => by
    unfold LXs
    trivial
  | e :: es, g, off, hv => by
    unfold LXs at hv ⊢
    obtain ⟨⟨c0, c1, c2, c3, h0, h1, h2, h3, hx⟩, hs⟩ := hv
    exact ⟨⟨c0, c1, c2, c3, h0, h1, h2, h3, LX.mono h e hx⟩, LXs.mono h es hs⟩
end
/-- Blocks made since. -/
def From (b : Nat) (g : Nat) : Prop := b ≤ g
/-- v has an expression's form. -/
def AnyX (w : World) (v : Value) : Prop := ∃ (o m : Int) (s : ByteArray) (a : Option Addr) (n c : Nat), v = .agg #[.int .i64 o, .int .i64 m, .string s, .slice a n c]
theorem LX.any {Q : Nat → Prop} {w : World} {v : Value} {e : EX} (h : LX Q w v e) : ∃ (o m : Int) (s : ByteArray) (a : Option Addr) (n c : Nat), v = .agg #[.int .i64 o, .int .i64 m, .string s, .slice a n c] := by
  cases e with
  | mk o m s ks =>
    unfold LX at h
    obtain ⟨a, cap, rfl, _⟩ := h
    exact ⟨_, _, _, _, _, _, rfl⟩
theorem lx_leaf (Q : Nat → Prop) (w : World) (o m : Int) (s : List UInt8) (a : Option Addr) (c : Nat) : LX Q w (.agg #[.int .i64 o, .int .i64 m, .string (bs s), .slice a 0 c]) (.mk o m s []) := by
  unfold LX
  exact ⟨a, c, rfl, Nat.zero_le _, .inl rfl⟩
/-- Two expressions in a block of their own make one. -/
theorem lx_two {Q : Nat → Prop} {g : Nat} {w : World} {o m : Int} {s : List UInt8} {c : Nat} {x y : EX} {x0 x1 x2 x3 y0 y1 y2 y3 : Value} (hg : Q g) (hB : Blk w g 31 #[x0, x1, x2, x3, y0, y1, y2, y3])
    (hx : LX Q w (.agg #[x0, x1, x2, x3]) x) (hy : LX Q w (.agg #[y0, y1, y2, y3]) y) : LX Q w (.agg #[.int .i64 o, .int .i64 m, .string (bs s), .slice (some ⟨g, 0, none⟩) 2 c]) (.mk o m s [x, y]) := by
  unfold LX
  refine ⟨_, c, rfl, show 2 ≤ maxLen by decide, .inr ⟨g, 0, rfl, hg, ?_⟩⟩
  unfold LXs
  refine ⟨⟨x0, x1, x2, x3, hB.cell 0, hB.cell 1, hB.cell 2, hB.cell 3, hx⟩, ?_⟩
  unfold LXs
  refine ⟨⟨y0, y1, y2, y3, hB.cell 4, hB.cell 5, hB.cell 6, hB.cell 7, hy⟩, ?_⟩
  unfold LXs
  trivial
theorem Blk.live' {w w' : World} {g : Nat} {t : TypeId} {cs : Array Value} (h : Blk w g t cs) (hb : Below w.heap.size w w') : Blk w' g t cs := h.below hb h.lt
theorem put4 {w : World} {R : Nat} {t : TypeId} {a b c d a' b' c' d' : Value} (h : Blk w R t #[a, b, c, d]) : Blk ((((w.setCell ⟨R, 0, none⟩ a').setCell ⟨R, 1, none⟩ b').setCell ⟨R, 2, none⟩ c').setCell ⟨R, 3, none⟩ d') R t #[a', b', c', d'] := (((h.set 0 a').set 1 b').set 2 c').set 3 d'
theorem Only.put4 {S : Nat → Prop} {a b : World} (h : Only S a b) {R : Nat} (hR : S R ∨ a.heap.size ≤ R) (u0 u1 u2 u3 : Value) : Only S a ((((b.setCell ⟨R, 0, none⟩ u0).setCell ⟨R, 1, none⟩ u1).setCell ⟨R, 2, none⟩ u2).setCell ⟨R, 3, none⟩ u3) :=
  (((h.setCell (p := ⟨R, 0, none⟩) hR _).setCell (p := ⟨R, 1, none⟩) hR _).setCell (p := ⟨R, 2, none⟩) hR _).setCell (p := ⟨R, 3, none⟩) hR _
end Go.Proofs.YtchokfgffnomoaaDoor.Lx
/-
  What atom of the document's cursor tells, as a contract.
-/
namespace Go.Proofs.YtchokfgffnomoaaDoor.Lx
open Go.RowKit
open L (Tok)
open P (EX)
set_option maxRecDepth 100000
set_option linter.unusedVariables false
set_option linter.unusedSimpArgs false
/-- The zero expression's cells. -/
abbrev zx : Array Value := #[.int .i64 0, .int .i64 0, .string ⟨#[]⟩, .slice none 0 0]
theorem num_d {TS : List Tok} {k : Nat} (hlt : k < TS.length) (h : P.isD (TS.drop k) = true) : P.pNum (TS.drop k) = .ok ((tat TS k).n, TS.drop (k + 1)) := by
  rw [drop_tat hlt] at h ⊢
  show (if P.isD (tat TS k :: TS.drop (k + 1)) then _ else _) = _
  rw [h]
  rfl
theorem num_no {TS : List Tok} {k : Nat} (hlt : k < TS.length) (h : P.isD (TS.drop k) = false) : P.pNum (TS.drop k) = .error (P.here (TS.drop k)) := by
  rw [drop_tat hlt] at h ⊢
  show (if P.isD (tat TS k :: TS.drop (k + 1)) then _ else _) = _
  rw [h]
  rfl
theorem name_n {TS : List Tok} {k : Nat} (hlt : k < TS.length) (h : P.isN (TS.drop k) = true) : P.pName (TS.drop k) = .ok ((tat TS k).text, TS.drop (k + 1)) := by
  rw [drop_tat hlt] at h ⊢
  show (if P.isN (tat TS k :: TS.drop (k + 1)) then _ else _) = _
  rw [h]
  rfl
theorem name_nn {TS : List Tok} {k : Nat} (hlt : k < TS.length) (h : P.isN (TS.drop k) = false) : P.pName (TS.drop k) = .error (P.here (TS.drop k)) := by
  rw [drop_tat hlt] at h ⊢
  show (if P.isN (tat TS k :: TS.drop (k + 1)) then _ else _) = _
  rw [h]
  rfl
theorem four_free {w : World} {g : Nat} {t : TypeId} {a b c d : Value} (h : Blk w g t #[a, b, c, d]) : w.cell? ⟨g, 0, none⟩ = some a ∧ w.cell? ⟨g, 1, none⟩ = some b ∧ w.cell? ⟨g, 2, none⟩ = some c ∧ w.cell? ⟨g, 3, none⟩ = some d ∧ w.frozen? ⟨g, 0, none⟩ = false ∧ w.frozen? ⟨g, 1, none⟩ = false ∧ w.frozen? ⟨g, 2, none⟩ = false ∧ w.frozen? ⟨g, 3, none⟩ = false := ⟨h.cell 0, h.cell 1, h.cell 2, h.cell 3, h.free 0, h.free 1, h.free 2, h.free 3⟩
theorem need_no {TS : List Tok} {k : Nat} {s : List UInt8} (h : P.isS s (TS.drop k) = false) : P.need s (TS.drop k) = .error (P.here (TS.drop k)) := by
  unfold P.need
  rw [h]
  rfl
theorem need_yes {TS : List Tok} {k : Nat} {s : List UInt8} (h : P.isS s (TS.drop k) = true) : P.need s (TS.drop k) = .ok (TS.drop (k + 1)) := by
  unfold P.need
  rw [h, if_pos rfl, List.tail_drop]
end Go.Proofs.YtchokfgffnomoaaDoor.Lx
