/-
  cond of the document's cursor where nothing goes on any more; and how statements lie in memory.
-/
import Derived.Test.YtikihomablmcnaaPD
import Derived.Test.YtikihomablmcnaaPSame
import Derived.Test.YtikihomablmcnaaPSameC
import Derived.Test.YtikihomablmcnaaPA
namespace Go.Proofs.Ytikihomablmcnaa.Lx
open Go.RowKit
open L (Tok)
open P (EX CO ST)
set_option maxRecDepth 100000
set_option linter.unusedVariables false
set_option linter.unusedSimpArgs false
set_option maxHeartbeats 800000 in
theorem cond_dead (C g cap : Nat) (TS : List Tok) (pv : Value) (k : Nat) (bad : Int) (w : World) (h : Cur w C g cap TS pv k bad) (hb : 0 ≤ bad) :
    Calls Try.prog 39 #[.pointer (some ⟨C, 0, none⟩)] w (DeadTo AnyC C g cap TS pv k bad w) := by
  obtain ⟨hCl, hgl⟩ := h.lts
  obtain ⟨b0, b1, b2, b3, _, _, _⟩ := h.cells
  have HC := Lib.hid h
  have d : decide ((0 : Int) ≤ bad) = true := by simpa using hb
  clear h
  go_enter Try.func39, Try.ntmps39
  go_wp2_with fail
  refine bodyPost_ret (results_cell_row (p := 2) rfl _ _ w.heap.size 27 zc (0, 0) _ rfl (Blk.new w 27 zc) Try.underlying27 rfl (by kernel_rfl)) rfl ?_
  exact ⟨_, rfl, ⟨_, _, _, _, _, _, _, rfl⟩, HC.out.below ((Below.refl _ _).alloc (Nat.le_refl _) _), (Only.refl _ _).alloc _⟩
/-! ### statements -/
mutual
/-- The seven cells are the statement's, what hangs on it in blocks of Q. -/
def LS (Q : Nat → Prop) (w : World) (v : Value) : ST → Prop
  | .mk kd md rg lc ar th el => ∃ aa ca at' ct ae ce, v = .agg #[.int .i64 kd, .int .i64 md, .string (bs rg), .string (bs lc), .slice aa ar.length ca, .slice at' th.length ct, .slice ae el.length ce] ∧ ar.length ≤ maxLen ∧ th.length ≤ maxLen ∧ el.length ≤ maxLen ∧
      (ar = [] ∨ ∃ g off, aa = some ⟨g, off, none⟩ ∧ Q g ∧ LXs Q w g off ar) ∧ (th = [] ∨ ∃ g off, at' = some ⟨g, off, none⟩ ∧ Q g ∧ LSs Q w g off th) ∧ (el = [] ∨ ∃ g off, ae = some ⟨g, off, none⟩ ∧ Q g ∧ LSs Q w g off el)
/-- Statements side by side. -/
def LSs (Q : Nat → Prop) (w : World) (g off : Nat) : List ST → Prop
  | [] => True
  | e :: es => (∃ c0 c1 c2 c3 c4 c5 c6, w.cell? ⟨g, off, none⟩ = some c0 ∧ w.cell? ⟨g, off + 1, none⟩ = some c1 ∧ w.cell? ⟨g, off + 2, none⟩ = some c2 ∧ w.cell? ⟨g, off + 3, none⟩ = some c3 ∧ w.cell? ⟨g, off + 4, none⟩ = some c4 ∧ w.cell? ⟨g, off + 5, none⟩ = some c5 ∧ w.cell? ⟨g, off + 6, none⟩ = some c6 ∧ LS Q w (.agg #[c0, c1, c2, c3, c4, c5, c6]) e) ∧ LSs Q w g (off + 7) es
end
mutual
theorem LS.keep {Q : Nat → Prop} {w w' : World} (h : Keeps Q w w') : ∀ (e : ST) {v : Value}, LS Q w v e → LS Q w' v e
  | .mk kd md rg lc ar th el, v, hv => by
    unfold LS at hv ⊢
    obtain ⟨aa, ca, at', ct, ae, ce, rfl, m1, m2, m3, h1, h2, h3⟩ := hv
    refine ⟨aa, ca, at', ct, ae, ce, rfl, m1, m2, m3, ?_, ?_, ?_⟩
    · rcases h1 with h1 | ⟨g, off, ha, hg, hs⟩
      · exact .inl h1
      · exact .inr ⟨g, off, ha, hg, LXs.keep h ar hg hs⟩
    · rcases h2 with h2 | ⟨g, off, ha, hg, hs⟩
      · exact .inl h2
      · exact .inr ⟨g, off, ha, hg, LSs.keep h th hg hs⟩
    · rcases h3 with h3 | ⟨g, off, ha, hg, hs⟩
      · exact .inl h3
      · exact .inr ⟨g, off, ha, hg, LSs.keep h el hg hs⟩
theorem LSs.keep {Q : Nat → Prop} {w w' : World} (h : Keeps Q w w') : ∀ (es : List ST) {g off : Nat}, Q g → LSs Q w g off es → LSs Q w' g off es
  | [], g, off, hg, hv => by
    unfold LSs
    trivial
  | e :: es, g, off, hg, hv => by
    unfold LSs at hv ⊢
    obtain ⟨⟨c0, c1, c2, c3, c4, c5, c6, h0, h1, h2, h3, h4, h5, h6, hx⟩, hs⟩ := hv
    exact ⟨⟨c0, c1, c2, c3, c4, c5, c6, h.cell hg h0, h.cell hg h1, h.cell hg h2, h.cell hg h3, h.cell hg h4, h.cell hg h5, h.cell hg h6, LS.keep h e hx⟩, LSs.keep h es hg hs⟩
end
theorem lxs_lt {Q : Nat → Prop} {w : World} {g off : Nat} {x : EX} {xs : List EX} (hs : LXs Q w g off (x :: xs)) : g < w.heap.size := by
  unfold LXs at hs
  obtain ⟨⟨c0, _, _, _, h0, _⟩, _⟩ := hs
  exact World.block_lt_of_cell? w ⟨g, off, none⟩ h0
theorem lss_lt {Q : Nat → Prop} {w : World} {g off : Nat} {x : ST} {xs : List ST} (hs : LSs Q w g off (x :: xs)) : g < w.heap.size := by
  unfold LSs at hs
  obtain ⟨⟨c0, _, _, _, _, _, _, h0, _⟩, _⟩ := hs
  exact World.block_lt_of_cell? w ⟨g, off, none⟩ h0
mutual
theorem LS.mono {Q Q' : Nat → Prop} {w : World} (h : ∀ g, Q g → g < w.heap.size → Q' g) : ∀ (e : ST) {v : Value}, LS Q w v e → LS Q' w v e
  | .mk kd md rg lc ar th el, v, hv => by
    unfold LS at hv ⊢
    obtain ⟨aa, ca, at', ct, ae, ce, rfl, m1, m2, m3, h1, h2, h3⟩ := hv
    refine ⟨aa, ca, at', ct, ae, ce, rfl, m1, m2, m3, ?_, ?_, ?_⟩
    · rcases h1 with h1 | ⟨g, off, ha, hg, hs⟩
      · exact .inl h1
      · cases ar with
        | nil => exact .inl rfl
        | cons x xs => exact .inr ⟨g, off, ha, h g hg (lxs_lt hs), LXs.mono h (x :: xs) hs⟩
    · rcases h2 with h2 | ⟨g, off, ha, hg, hs⟩
      · exact .inl h2
      · cases th with
        | nil => exact .inl rfl
        | cons x xs => exact .inr ⟨g, off, ha, h g hg (lss_lt hs), LSs.mono h (x :: xs) hs⟩
    · rcases h3 with h3 | ⟨g, off, ha, hg, hs⟩
      · exact .inl h3
      · cases el with
        | nil => exact .inl rfl
        | cons x xs => exact .inr ⟨g, off, ha, h g hg (lss_lt hs), LSs.mono h (x :: xs) hs⟩
theorem LSs.mono {Q Q' : Nat → Prop} {w : World} (h : ∀ g, Q g → g < w.heap.size → Q' g) : ∀ (es : List ST) {g off : Nat}, LSs Q w g off es → LSs Q' w g off es
  | [], g, off, hv => by
    unfold LSs
    trivial
  | e :: es, g, off, hv => by
    unfold LSs at hv ⊢
    obtain ⟨⟨c0, c1, c2, c3, c4, c5, c6, h0, h1, h2, h3, h4, h5, h6, hx⟩, hs⟩ := hv
    exact ⟨⟨c0, c1, c2, c3, c4, c5, c6, h0, h1, h2, h3, h4, h5, h6, LS.mono h e hx⟩, LSs.mono h es hs⟩
end
/-- A statement of a row, its cells, and that it lies there. -/
theorem LSs.at {Q : Nat → Prop} {w : World} : ∀ (es : List ST) {g off : Nat}, LSs Q w g off es → ∀ i, i < es.length → ∃ e c0 c1 c2 c3 c4 c5 c6, es[i]? = some e ∧ w.cell? ⟨g, off + i * 7, none⟩ = some c0 ∧ w.cell? ⟨g, off + i * 7 + 1, none⟩ = some c1 ∧ w.cell? ⟨g, off + i * 7 + 2, none⟩ = some c2 ∧ w.cell? ⟨g, off + i * 7 + 3, none⟩ = some c3 ∧ w.cell? ⟨g, off + i * 7 + 4, none⟩ = some c4 ∧ w.cell? ⟨g, off + i * 7 + 5, none⟩ = some c5 ∧ w.cell? ⟨g, off + i * 7 + 6, none⟩ = some c6 ∧ LS Q w (.agg #[c0, c1, c2, c3, c4, c5, c6]) e
  | [], g, off, h, i, hi => by simp at hi
  | x :: es, g, off, h, 0, hi => by
    unfold LSs at h
    obtain ⟨⟨c0, c1, c2, c3, c4, c5, c6, h0, h1, h2, h3, h4, h5, h6, hx⟩, _⟩ := h
    exact ⟨x, c0, c1, c2, c3, c4, c5, c6, rfl, by simpa using h0, by simpa using h1, by simpa using h2, by simpa using h3, by simpa using h4, by simpa using h5, by simpa using h6, hx⟩
  | x :: es, g, off, h, i + 1, hi => by
    unfold LSs at h
    obtain ⟨_, hs⟩ := h
    obtain ⟨e, c0, c1, c2, c3, c4, c5, c6, he, h0, h1, h2, h3, h4, h5, h6, hx⟩ := LSs.at es hs i (by simpa using hi)
    refine ⟨e, c0, c1, c2, c3, c4, c5, c6, by simpa using he, ?_, ?_, ?_, ?_, ?_, ?_, ?_, hx⟩
    · rw [show off + (i + 1) * 7 = off + 7 + i * 7 by omega]; exact h0
    · rw [show off + (i + 1) * 7 + 1 = off + 7 + i * 7 + 1 by omega]; exact h1
    · rw [show off + (i + 1) * 7 + 2 = off + 7 + i * 7 + 2 by omega]; exact h2
    · rw [show off + (i + 1) * 7 + 3 = off + 7 + i * 7 + 3 by omega]; exact h3
    · rw [show off + (i + 1) * 7 + 4 = off + 7 + i * 7 + 4 by omega]; exact h4
    · rw [show off + (i + 1) * 7 + 5 = off + 7 + i * 7 + 5 by omega]; exact h5
    · rw [show off + (i + 1) * 7 + 6 = off + 7 + i * 7 + 6 by omega]; exact h6
/-- v has a statement's form. -/
def AnyS (w : World) (v : Value) : Prop := ∃ (kd md : Int) (rg lc : ByteArray) (aa : Option Addr) (na ca : Nat) (at' : Option Addr) (nt ct : Nat) (ae : Option Addr) (ne ce : Nat), v = .agg #[.int .i64 kd, .int .i64 md, .string rg, .string lc, .slice aa na ca, .slice at' nt ct, .slice ae ne ce]
theorem LS.any {Q : Nat → Prop} {w : World} {v : Value} {e : ST} (h : LS Q w v e) : ∃ (kd md : Int) (rg lc : ByteArray) (aa : Option Addr) (na ca : Nat) (at' : Option Addr) (nt ct : Nat) (ae : Option Addr) (ne ce : Nat), v = .agg #[.int .i64 kd, .int .i64 md, .string rg, .string lc, .slice aa na ca, .slice at' nt ct, .slice ae ne ce] := by
  cases e with
  | mk kd md rg lc ar th el =>
    unfold LS at h
    obtain ⟨_, _, _, _, _, _, rfl, _⟩ := h
    exact ⟨_, _, _, _, _, _, _, _, _, _, _, _, _, rfl⟩
end Go.Proofs.Ytikihomablmcnaa.Lx
/-
  The readers of the document's cursor, whether it still goes on or not: one contract each.
-/
namespace Go.Proofs.Ytikihomablmcnaa.Lx
open Go.RowKit
open L (Tok)
open P (EX CO ST)
set_option maxRecDepth 100000
set_option linter.unusedVariables false
set_option linter.unusedSimpArgs false
/-- The cursor's state: what is left, or the place of the token that doesn't go on. -/
def Stat (TS : List Tok) (k : Nat) (bad : Int) : Except Nat (List Tok) → Prop
  | .ok ts => bad = -1 ∧ ts = TS.drop k
  | .error p => bad = (p : Nat)
/-- A reader's answer, whatever the state: a value of its form, and, if all went on, what was read. -/
def TotTo {α : Type} (Val : World → Value → α → Prop) (Any : World → Value → Prop) (C g cap : Nat) (TS : List Tok) (pv : Value) (k : Nat) (r : P.Res α) (w : World) (e : Ending) (w' : World) : Prop :=
  ∃ v k' bad', e = .returned v ∧ Any w' v ∧ k ≤ k' ∧ Cur w' C g cap TS pv k' bad' ∧ Only (· = C) w w' ∧ Stat TS k' bad' (left r) ∧ ∀ a ts, r = .ok (a, ts) → Val w' v a
theorem tot_live {α : Type} {Val : World → Value → α → Prop} {Any : World → Value → Prop} {C g cap : Nat} {TS : List Tok} {pv : Value} {k : Nat} {r : P.Res α} {w w' : World} {e : Ending} (hv : ∀ w v a, Val w v a → Any w v) (h : StepTo Val Any C g cap TS pv k r w e w') : TotTo Val Any C g cap TS pv k r w e w' := by
  rcases r with p | ⟨a, ts⟩
  · obtain ⟨v, k', rfl, ha, hk, hc, ho⟩ := h
    exact ⟨v, k', _, rfl, ha, hk, hc, ho, rfl, fun _ _ h => by cases h⟩
  · obtain ⟨v, k', rfl, ha, hd, hk, hc, ho⟩ := h
    refine ⟨v, k', _, rfl, hv _ _ _ ha, by omega, hc, ho, ⟨rfl, hd⟩, fun _ _ h => ?_⟩
    injection h with h
    injection h with h1 h2
    subst h1
    exact ha
theorem tot_dead {α : Type} {Val : World → Value → α → Prop} {Any : World → Value → Prop} {C g cap : Nat} {TS : List Tok} {pv : Value} {k p : Nat} {w w' : World} {e : Ending} (h : DeadTo Any C g cap TS pv k (p : Nat) w e w') : TotTo Val Any C g cap TS pv k (.error p : P.Res α) w e w' := by
  obtain ⟨v, rfl, ha, hc, ho⟩ := h
  exact ⟨v, k, _, rfl, ha, Nat.le_refl _, hc, ho, rfl, fun _ _ h => by cases h⟩
/-- A reader by its two contracts. -/
theorem tot_any {α : Type} {Val : World → World → Value → α → Prop} {Any : World → Value → Prop} {F : Nat} {p : List Tok → P.Res α} {C g cap : Nat} {TS : List Tok} {pv : Value} (hv : ∀ w0 w v a, Val w0 w v a → Any w v)
    (hl : ∀ k w, Cur w C g cap TS pv k (-1) → Calls Try.prog F #[.pointer (some ⟨C, 0, none⟩)] w (StepTo (Val w) Any C g cap TS pv k (p (TS.drop k)) w))
    (hd : ∀ k bad w, Cur w C g cap TS pv k bad → 0 ≤ bad → Calls Try.prog F #[.pointer (some ⟨C, 0, none⟩)] w (DeadTo Any C g cap TS pv k bad w))
    (k : Nat) (bad : Int) (st : Except Nat (List Tok)) (w : World) (h : Cur w C g cap TS pv k bad) (hs : Stat TS k bad st) :
    Calls Try.prog F #[.pointer (some ⟨C, 0, none⟩)] w (TotTo (Val w) Any C g cap TS pv k (on st p) w) := by
  rcases st with q | ts
  · obtain rfl : bad = (q : Nat) := hs
    exact (hd k _ w h (by omega)).mono fun e w' hh => tot_dead hh
  · obtain ⟨rfl, rfl⟩ := hs
    exact (hl k w h).mono fun e w' hh => tot_live (hv w) hh
theorem name_tot (C g cap : Nat) (TS : List Tok) (pv : Value) (k : Nat) (bad : Int) (st : Except Nat (List Tok)) (w : World) (h : Cur w C g cap TS pv k bad) (hs : Stat TS k bad st) :
    Calls Try.prog 35 #[.pointer (some ⟨C, 0, none⟩)] w (TotTo IsText AnyText C g cap TS pv k (on st P.pName) w) :=
  tot_any (Val := fun _ => IsText) (fun _ _ _ _ h => ⟨_, h⟩) (fun k w hc => name_live C g cap TS pv k w hc) (fun k bad w hc hb => name_dead C g cap TS pv k bad w hc hb) k bad st w h hs
theorem number_tot (C g cap : Nat) (TS : List Tok) (pv : Value) (k : Nat) (bad : Int) (st : Except Nat (List Tok)) (w : World) (h : Cur w C g cap TS pv k bad) (hs : Stat TS k bad st) :
    Calls Try.prog 36 #[.pointer (some ⟨C, 0, none⟩)] w (TotTo IsNum AnyNum C g cap TS pv k (on st P.pNum) w) :=
  tot_any (Val := fun _ => IsNum) (fun _ _ _ _ h => ⟨_, h⟩) (fun k w hc => number_live C g cap TS pv k w hc) (fun k bad w hc hb => number_dead C g cap TS pv k bad w hc hb) k bad st w h hs
theorem mode_tot (C g cap : Nat) (TS : List Tok) (pv : Value) (k : Nat) (bad : Int) (st : Except Nat (List Tok)) (w : World) (h : Cur w C g cap TS pv k bad) (hs : Stat TS k bad st) :
    Calls Try.prog 91 #[.pointer (some ⟨C, 0, none⟩)] w (TotTo IsNum AnyNum C g cap TS pv k (on st P.pMode) w) :=
  tot_any (Val := fun _ => IsNum) (fun _ _ _ _ h => ⟨_, h⟩) (fun k w hc => mode_live C g cap TS pv k w hc) (fun k bad w hc hb => mode_dead C g cap TS pv k bad w hc hb) k bad st w h hs
theorem expr_tot (C g cap : Nat) (TS : List Tok) (pv : Value) (k : Nat) (bad : Int) (st : Except Nat (List Tok)) (w : World) (h : Cur w C g cap TS pv k bad) (hs : Stat TS k bad st) :
    Calls Try.prog 92 #[.pointer (some ⟨C, 0, none⟩)] w (TotTo (LX (From w.heap.size)) AnyX C g cap TS pv k (on st P.pExpr) w) :=
  tot_any (Val := fun w => LX (From w.heap.size)) (fun _ _ _ _ h => h.any) (fun k w hc => expr_any C g cap TS pv k w hc) (fun k bad w hc hb => expr_dead C g cap TS pv k bad w hc hb) k bad st w h hs
theorem cond_tot (C g cap : Nat) (TS : List Tok) (pv : Value) (k : Nat) (bad : Int) (st : Except Nat (List Tok)) (w : World) (h : Cur w C g cap TS pv k bad) (hs : Stat TS k bad st) :
    Calls Try.prog 39 #[.pointer (some ⟨C, 0, none⟩)] w (TotTo (LC (From w.heap.size)) AnyC C g cap TS pv k (on st P.pCond) w) :=
  tot_any (Val := fun w => LC (From w.heap.size)) (fun _ _ _ _ h => h.any) (fun k w hc => cond_any C g cap TS pv k w hc) (fun k bad w hc hb => cond_dead C g cap TS pv k bad w hc hb) k bad st w h hs
/-- need, whatever the state. -/
def NeedTot (C g cap : Nat) (TS : List Tok) (pv : Value) (k : Nat) (st : Except Nat (List Tok)) (w : World) (e : Ending) (w' : World) : Prop :=
  ∃ k' bad', e = .returned (.tuple #[]) ∧ k ≤ k' ∧ Cur w' C g cap TS pv k' bad' ∧ Only (· = C) w w' ∧ Stat TS k' bad' st
theorem need_tot (C g cap : Nat) (TS : List Tok) (pv : Value) (k : Nat) (bad : Int) (st : Except Nat (List Tok)) (s : ByteArray) (w : World) (h : Cur w C g cap TS pv k bad) (hs : Stat TS k bad st) :
    Calls Try.prog 34 #[.pointer (some ⟨C, 0, none⟩), .string s] w (NeedTot C g cap TS pv k (onNeed (by' s) st) w) := by
  rcases st with q | ts
  · obtain rfl : bad = (q : Nat) := hs
    refine (need_dead C g cap TS pv k _ s w h (by omega)).mono ?_
    rintro e w' ⟨rfl, hb⟩
    exact ⟨k, _, rfl, Nat.le_refl _, h.below hb, Only.of_below hb, rfl⟩
  · obtain ⟨rfl, rfl⟩ := hs
    refine (need_live C g cap TS pv k s w h).mono ?_
    rintro e w' ⟨rfl, ho, hm⟩
    show NeedTot C g cap TS pv k (P.need (by' s) (TS.drop k)) w _ w'
    cases hq : P.need (by' s) (TS.drop k) with
    | error p =>
      rw [hq] at hm
      exact ⟨k, _, rfl, Nat.le_refl _, hm, ho, rfl⟩
    | ok ts =>
      rw [hq] at hm
      obtain ⟨hts, hc⟩ := hm
      exact ⟨k + 1, _, rfl, by omega, hc, ho, rfl, hts⟩
theorem is_tot (C g cap : Nat) (TS : List Tok) (pv : Value) (k : Nat) (bad : Int) (st : Except Nat (List Tok)) (s : ByteArray) (w : World) (h : Cur w C g cap TS pv k bad) (hs : Stat TS k bad st) :
    Calls Try.prog 37 #[.pointer (some ⟨C, 0, none⟩), .string s] w (BoolTo (onIs (by' s) st) w) := by
  rcases st with q | ts
  · obtain rfl : bad = (q : Nat) := hs
    exact is_dead C g cap TS pv k _ s w h (by omega)
  · obtain ⟨rfl, rfl⟩ := hs
    exact is_live C g cap TS pv k s w h
end Go.Proofs.Ytikihomablmcnaa.Lx
/-
  What right of the document's cursor tells, as a contract.
-/
namespace Go.Proofs.Ytikihomablmcnaa.Lx
open Go.RowKit
open L (Tok)
open P (EX CO ST)
set_option linter.unusedVariables false
set_option linter.unusedSimpArgs false
theorem seven_free {w : World} {g : Nat} {t : TypeId} {a b c d e f h : Value} (hh : Blk w g t #[a, b, c, d, e, f, h]) : w.cell? ⟨g, 0, none⟩ = some a ∧ w.cell? ⟨g, 1, none⟩ = some b ∧ w.cell? ⟨g, 2, none⟩ = some c ∧ w.cell? ⟨g, 3, none⟩ = some d ∧ w.cell? ⟨g, 4, none⟩ = some e ∧ w.cell? ⟨g, 5, none⟩ = some f ∧ w.cell? ⟨g, 6, none⟩ = some h ∧ w.frozen? ⟨g, 0, none⟩ = false ∧ w.frozen? ⟨g, 1, none⟩ = false ∧ w.frozen? ⟨g, 2, none⟩ = false ∧ w.frozen? ⟨g, 3, none⟩ = false ∧ w.frozen? ⟨g, 4, none⟩ = false ∧ w.frozen? ⟨g, 5, none⟩ = false ∧ w.frozen? ⟨g, 6, none⟩ = false := ⟨hh.cell 0, hh.cell 1, hh.cell 2, hh.cell 3, hh.cell 4, hh.cell 5, hh.cell 6, hh.free 0, hh.free 1, hh.free 2, hh.free 3, hh.free 4, hh.free 5, hh.free 6⟩
def put7w (w : World) (R : Nat) (a b c d e f h : Value) : World := ((((((w.setCell ⟨R, 0, none⟩ a).setCell ⟨R, 1, none⟩ b).setCell ⟨R, 2, none⟩ c).setCell ⟨R, 3, none⟩ d).setCell ⟨R, 4, none⟩ e).setCell ⟨R, 5, none⟩ f).setCell ⟨R, 6, none⟩ h
theorem put7 {w : World} {R : Nat} {t : TypeId} {a b c d e f h a' b' c' d' e' f' h' : Value} (hh : Blk w R t #[a, b, c, d, e, f, h]) : Blk (put7w w R a' b' c' d' e' f' h') R t #[a', b', c', d', e', f', h'] := by
  have h0 : Blk (w.setCell ⟨R, 0, none⟩ a') R t #[a', b, c, d, e, f, h] := hh.set 0 a'
  have h1 : Blk ((w.setCell ⟨R, 0, none⟩ a').setCell ⟨R, 1, none⟩ b') R t #[a', b', c, d, e, f, h] := h0.set 1 b'
  have h2 := h1.set 2 c'
  have h2' : Blk _ R t #[a', b', c', d, e, f, h] := h2
  have h3 := h2'.set 3 d'
  have h3' : Blk _ R t #[a', b', c', d', e, f, h] := h3
  have h4 := h3'.set 4 e'
  have h4' : Blk _ R t #[a', b', c', d', e', f, h] := h4
  have h5 := h4'.set 5 f'
  have h5' : Blk _ R t #[a', b', c', d', e', f', h] := h5
  have h6 := h5'.set 6 h'
  exact (show Blk _ R t #[a', b', c', d', e', f', h'] from h6)
theorem Only.put7 {S : Nat → Prop} {a b : World} (h : Only S a b) {R : Nat} (hR : S R ∨ a.heap.size ≤ R) (u0 u1 u2 u3 u4 u5 u6 : Value) : Only S a (put7w b R u0 u1 u2 u3 u4 u5 u6) :=
  (((Only.put4 h hR u0 u1 u2 u3).setCell (p := ⟨R, 4, none⟩) hR _).setCell (p := ⟨R, 5, none⟩) hR _).setCell (p := ⟨R, 6, none⟩) hR _
theorem Cur.put7 {w : World} {C g cap : Nat} {TS : List Tok} {pv : Value} {k : Nat} {bad : Int} (h : Cur w C g cap TS pv k bad) {R : Nat} (hC : ¬ C = R) (hg : ¬ g = R) (u0 u1 u2 u3 u4 u5 u6 : Value) : Cur (put7w w R u0 u1 u2 u3 u4 u5 u6) C g cap TS pv k bad :=
  h.other (S := fun b => b = R) (Only.put7 (Only.refl (fun b => b = R) w) (.inl rfl) u0 u1 u2 u3 u4 u5 u6) hC hg

set_option maxRecDepth 100000 in
set_option maxHeartbeats 3200000 in
theorem right_load (C g cap : Nat) (TS : List Tok) (pv : Value) (k : Nat) (rg : List UInt8) (w : World) (h : Cur w C g cap TS pv k (-1)) (hl : P.isS [108, 111, 97, 100] (TS.drop k) = true) :
    Calls Try.prog 93 #[.pointer (some ⟨C, 0, none⟩), .agg #[.int .i64 0, .int .i64 0, .string (bs rg), .string ⟨#[]⟩, .slice none 0 0, .slice none 0 0, .slice none 0 0]] w (TotTo (LS (From w.heap.size)) AnyS C g cap TS pv k (P.rightF rg (TS.drop k)) w) := by
  have hq1 : k + 1 < TS.length := h.more (isS_kind (s := [108, 111, 97, 100]) (by rw [← drop_tat h.lt]; exact hl))
  have HU := Lib.hid (show P.rightF rg (TS.drop k) = (match P.pMode (TS.drop (k + 1)) with
      | .error p => .error p
      | .ok (m, r1) =>
        match P.pName r1 with
        | .error p => .error p
        | .ok (l, r2) => .ok (.mk 2 m rg l [] [] [], r2)) by
    conv => lhs; unfold P.rightF
    rw [hl, if_pos rfl, List.tail_drop]
    rfl)
  have HL := Lib.hid hl
  clear hl
  have hlt := h.lt
  have hmx := h.max
  obtain ⟨hCl, hgl⟩ := h.lts
  have HC := Lib.hid h
  clear h
  generalize hRG : bs rg = RG at *
  have HRG := Lib.hid hRG
  clear hRG
  go_enter Try.func93, Try.ntmps93
  go_wp2_with fail
  have hbA : Below w.heap.size w ((w.alloc (.cells #[.int .i64 0, .int .i64 0, .string RG, .string ⟨#[]⟩, .slice none 0 0, .slice none 0 0, .slice none 0 0] 62)).alloc (.cells #[.int .i64 0, .int .i64 0, .string ⟨#[]⟩, .string ⟨#[]⟩, .slice none 0 0, .slice none 0 0, .slice none 0 0] 62)) := ((Below.refl _ _).alloc (Nat.le_refl _) _).alloc (by simp) _
  have HB := Lib.hid ((Blk.new w 62 #[.int .i64 0, .int .i64 0, .string RG, .string ⟨#[]⟩, .slice none 0 0, .slice none 0 0, .slice none 0 0]).alloc (.cells #[.int .i64 0, .int .i64 0, .string ⟨#[]⟩, .string ⟨#[]⟩, .slice none 0 0, .slice none 0 0, .slice none 0 0] 62))
  have hR0 := Blk.new (w.alloc (.cells #[.int .i64 0, .int .i64 0, .string RG, .string ⟨#[]⟩, .slice none 0 0, .slice none 0 0, .slice none 0 0] 62)) 62 #[.int .i64 0, .int .i64 0, .string ⟨#[]⟩, .string ⟨#[]⟩, .slice none 0 0, .slice none 0 0, .slice none 0 0]
  rw [show (w.alloc (.cells #[.int .i64 0, .int .i64 0, .string RG, .string ⟨#[]⟩, .slice none 0 0, .slice none 0 0, .slice none 0 0] 62)).heap.size = w.heap.size + 1 by simp] at hR0
  have HR := Lib.hid hR0
  have HC := Lib.hid (HC.out.below hbA)
  have HO := Lib.hid (Only.of_below (S := (· = C)) hbA)
  clear hbA hR0
  have hsA : w.heap.size + 1 < ((w.alloc (.cells #[.int .i64 0, .int .i64 0, .string RG, .string ⟨#[]⟩, .slice none 0 0, .slice none 0 0, .slice none 0 0] 62)).alloc (.cells #[.int .i64 0, .int .i64 0, .string ⟨#[]⟩, .string ⟨#[]⟩, .slice none 0 0, .slice none 0 0, .slice none 0 0] 62)).heap.size := HR.out.lt
  generalize (w.alloc (.cells #[.int .i64 0, .int .i64 0, .string RG, .string ⟨#[]⟩, .slice none 0 0, .slice none 0 0, .slice none 0 0] 62)).alloc (.cells #[.int .i64 0, .int .i64 0, .string ⟨#[]⟩, .string ⟨#[]⟩, .slice none 0 0, .slice none 0 0, .slice none 0 0] 62) = w0 at *
  generalize hSe : w.heap.size = S at *
  have HSe := Lib.hid hSe
  have hSw : w.heap.size ≤ S := by omega
  have hSw' : S ≤ w.heap.size := by omega
  clear hSe
  generalize hRe : S + 1 = R at *
  have hRS : S < R := by omega
  clear hRe
  with_reducible refine (is_live C g cap TS pv k ⟨#[108, 111, 97, 100]⟩ _ HC.out).mono ?_
  rintro e wi1 ⟨rfl, hbi⟩
  rw [show by' (⟨#[108, 111, 97, 100]⟩ : ByteArray) = [108, 111, 97, 100] from rfl, HL.out]
  have hsi1 := hbi.size
  have HC := Lib.hid (HC.out.below hbi)
  have HO := Lib.hid (HO.out.trans (Only.of_below hbi))
  have HB := Lib.hid (HB.out.live' hbi)
  have HR := Lib.hid (HR.out.live' hbi)
  clear hbi
  have hSl := HB.out.lt
  obtain ⟨x0, x1, x2, x3, x4, x5, x6, y0, y1, y2, y3, y4, y5, y6⟩ := seven_free HB.out
  obtain ⟨b0, b1, b2, b3, fb1, _, _⟩ := HC.out.cells
  go_wp2_with fail
  clear x0 x1 x2 x3 x4 x5 x6 y0 y1 y2 y3 y4 y5 y6 b0 b1 b2 b3 fb1
  have HB := Lib.hid (HB.out.only (Only.step (C := C) (.int .i64 ((k : Int) + 1))) (by omega))
  have HR := Lib.hid (HR.out.only (Only.step (C := C) (.int .i64 ((k : Int) + 1))) (by omega))
  have HO := Lib.hid (HO.out.trans (Only.step (.int .i64 ((k : Int) + 1))))
  have HC := Lib.hid (HC.out.step hq1)
  have hsS : wi1.heap.size ≤ (wi1.setCell ⟨C, 1, none⟩ (.int .i64 ((k : Int) + 1))).heap.size := by simp [World.setCell]
  generalize wi1.setCell ⟨C, 1, none⟩ (.int .i64 ((k : Int) + 1)) = w6 at *
  have hoS : Only (fun b => b = S) w6 (w6.setCell ⟨S, 0, none⟩ (.int .i64 2)) := (Only.refl (fun b => b = S) w6).setCell (p := ⟨S, 0, none⟩) (.inl rfl) _
  have HC := Lib.hid (HC.out.other hoS (by omega) (by omega))
  have HR := Lib.hid (HR.out.only hoS (by omega))
  have HB := Lib.hid (HB.out.set 0 (.int .i64 2))
  have HO := Lib.hid (HO.out.setCell (p := ⟨S, 0, none⟩) (.inr (show w.heap.size ≤ S by omega)) (.int .i64 2))
  have hsS : w6.heap.size ≤ (w6.setCell ⟨S, 0, none⟩ (.int .i64 2)).heap.size := hoS.size
  clear hoS
  generalize w6.setCell ⟨S, 0, none⟩ (.int .i64 2) = w7 at *
  have HT := Lib.hid (show Stat TS (k + 1) (-1) (.ok (TS.drop (k + 1))) from ⟨rfl, rfl⟩)
  with_reducible refine (mode_tot C g cap TS pv (k + 1) (-1) _ _ HC.out HT.out).mono ?_
  rintro e w8 ⟨v, k8, b8, rfl, ⟨i1, rfl⟩, hkk8, hcX, hoX, hst, hval⟩
  have HT := Lib.hid hst
  have HV1 := Lib.hid hval
  clear hst hval
  have HB := Lib.hid (HB.out.only hoX (by omega))
  have HR := Lib.hid (HR.out.only hoX (by omega))
  have hsN := hoX.size
  have HO := Lib.hid (HO.out.trans hoX)
  have HC := Lib.hid hcX
  clear hcX hoX
  have hSl := HB.out.lt
  obtain ⟨x0, x1, x2, x3, x4, x5, x6, y0, y1, y2, y3, y4, y5, y6⟩ := seven_free HB.out
  obtain ⟨b0, b1, b2, b3, fb1, _, _⟩ := HC.out.cells
  go_wp2_with fail
  clear x0 x1 x2 x3 x4 x5 x6 y0 y1 y2 y3 y4 y5 y6 b0 b1 b2 b3 fb1
  have hoS : Only (fun b => b = S) w8 (w8.setCell ⟨S, 1, none⟩ (.int .i64 i1)) := (Only.refl (fun b => b = S) w8).setCell (p := ⟨S, 1, none⟩) (.inl rfl) _
  have HC := Lib.hid (HC.out.other hoS (by omega) (by omega))
  have HR := Lib.hid (HR.out.only hoS (by omega))
  have HB := Lib.hid (HB.out.set 1 (.int .i64 i1))
  have HO := Lib.hid (HO.out.setCell (p := ⟨S, 1, none⟩) (.inr (show w.heap.size ≤ S by omega)) (.int .i64 i1))
  have hsS : w8.heap.size ≤ (w8.setCell ⟨S, 1, none⟩ (.int .i64 i1)).heap.size := hoS.size
  clear hoS
  generalize w8.setCell ⟨S, 1, none⟩ (.int .i64 i1) = w9 at *
  with_reducible refine (name_tot C g cap TS pv k8 b8 _ _ HC.out HT.out).mono ?_
  rintro e w10 ⟨v, k10, b10, rfl, ⟨s2, rfl⟩, hkk10, hcX, hoX, hst, hval⟩
  have HT := Lib.hid hst
  have HV2 := Lib.hid hval
  clear hst hval
  have HB := Lib.hid (HB.out.only hoX (by omega))
  have HR := Lib.hid (HR.out.only hoX (by omega))
  have hsN := hoX.size
  have HO := Lib.hid (HO.out.trans hoX)
  have HC := Lib.hid hcX
  clear hcX hoX
  have hSl := HB.out.lt
  obtain ⟨x0, x1, x2, x3, x4, x5, x6, y0, y1, y2, y3, y4, y5, y6⟩ := seven_free HB.out
  obtain ⟨b0, b1, b2, b3, fb1, _, _⟩ := HC.out.cells
  go_upto_region 23 with (fail)
  clear x0 x1 x2 x3 x4 x5 x6 y0 y1 y2 y3 y4 y5 y6 b0 b1 b2 b3 fb1
  have hoS : Only (fun b => b = S) w10 (w10.setCell ⟨S, 3, none⟩ (.string s2)) := (Only.refl (fun b => b = S) w10).setCell (p := ⟨S, 3, none⟩) (.inl rfl) _
  have HC := Lib.hid (HC.out.other hoS (by omega) (by omega))
  have HR := Lib.hid (HR.out.only hoS (by omega))
  have HB := Lib.hid (HB.out.set 3 (.string s2))
  have HO := Lib.hid (HO.out.setCell (p := ⟨S, 3, none⟩) (.inr (show w.heap.size ≤ S by omega)) (.string s2))
  have hsS : w10.heap.size ≤ (w10.setCell ⟨S, 3, none⟩ (.string s2)).heap.size := hoS.size
  clear hoS
  generalize w10.setCell ⟨S, 3, none⟩ (.string s2) = w11 at *
  obtain ⟨x0, x1, x2, x3, x4, x5, x6, _, _, _, _, _, _, _⟩ := seven_free HB.out
  obtain ⟨z0, z1, z2, z3, z4, z5, z6, o0, o1, o2, o3, o4, o5, o6⟩ := seven_free HR.out
  go_wp2_with fail
  refine bodyPost_ret (results_cell_row (p := 4) rfl _ _ R 62 #[.int .i64 2, .int .i64 i1, .string RG, .string s2, .slice none 0 0, .slice none 0 0, .slice none 0 0] (0, 0) _ rfl (put7 HR.out) Try.underlying62 rfl (by kernel_rfl)) rfl ?_
  rw [HU.out]
  refine ⟨_, k10, _, rfl, ⟨_, _, _, _, _, _, _, _, _, _, _, _, _, rfl⟩, by omega, HC.out.put7 (by omega) (by omega) _ _ _ _ _ _ _, Only.put7 HO.out (.inr (show w.heap.size ≤ R by omega)) _ _ _ _ _ _ _, ?_, ?_⟩
  · have ht := HT.out
    cases h1 : P.pMode (TS.drop (k + 1)) with
    | error p =>
      simp only [on, left, h1] at ht ⊢
      exact ht
    | ok q =>
      obtain ⟨q1, q2⟩ := q
      cases h2 : P.pName q2 with
      | error p =>
        simp only [on, left, h1, h2] at ht ⊢
        exact ht
      | ok r =>
        simp only [on, left, h1, h2] at ht ⊢
        exact ht
  · intro a ts ha
    cases h1 : P.pMode (TS.drop (k + 1)) with
    | error p =>
      rw [h1] at ha
      cases ha
    | ok q =>
      obtain ⟨q1, q2⟩ := q
      rw [h1] at ha
      cases h2 : P.pName q2 with
      | error p =>
        simp only [h2] at ha
        cases ha
      | ok r =>
        obtain ⟨r1, r2⟩ := r
        simp only [h2] at ha
        injection ha with ha
        injection ha with ha1 ha2
        subst ha1
        have e1 : Value.int .i64 i1 = .int .i64 (q1 : Nat) := HV1.out q1 q2 h1
        have e2 : Value.string s2 = .string (bs r1) := HV2.out r1 r2 (by simp only [on, left, h1]; exact h2)
        rw [e1, e2, ← HRG.out]
        unfold LS
        exact ⟨_, _, _, _, _, _, rfl, Nat.zero_le _, Nat.zero_le _, Nat.zero_le _, .inl rfl, .inl rfl, .inl rfl⟩
theorem lxs_one {Q : Nat → Prop} {g : Nat} {w : World} {x : EX} {x0 x1 x2 x3 : Value} (hB : Blk w g 93 #[x0, x1, x2, x3]) (hx : LX Q w (.agg #[x0, x1, x2, x3]) x) : LXs Q w g 0 [x] := by
  unfold LXs
  refine ⟨⟨x0, x1, x2, x3, hB.cell 0, hB.cell 1, hB.cell 2, hB.cell 3, hx⟩, ?_⟩
  unfold LXs
  trivial
set_option maxRecDepth 100000 in
set_option maxHeartbeats 3200000 in
theorem right_set (C g cap : Nat) (TS : List Tok) (pv : Value) (k : Nat) (rg : List UInt8) (w : World) (h : Cur w C g cap TS pv k (-1)) (hl : P.isS [108, 111, 97, 100] (TS.drop k) = false) (ha : P.isS [97, 100, 100] (TS.drop k) = false) (hc : P.isS [99, 97, 115] (TS.drop k) = false) :
    Calls Try.prog 93 #[.pointer (some ⟨C, 0, none⟩), .agg #[.int .i64 0, .int .i64 0, .string (bs rg), .string ⟨#[]⟩, .slice none 0 0, .slice none 0 0, .slice none 0 0]] w (TotTo (LS (From w.heap.size)) AnyS C g cap TS pv k (P.rightF rg (TS.drop k)) w) := by
  have HU := Lib.hid (show P.rightF rg (TS.drop k) = (match P.pExpr (TS.drop k) with
      | .error p => .error p
      | .ok (e, r) => .ok (.mk 1 0 rg [] [e] [] [], r)) by
    conv => lhs; unfold P.rightF
    rw [hl, if_neg (by decide), ha, if_neg (by decide), hc, if_neg (by decide)]
    rfl)
  have HL := Lib.hid hl
  have HA := Lib.hid ha
  have HCS := Lib.hid hc
  clear hl ha hc
  have hlt := h.lt
  have hmx := h.max
  obtain ⟨hCl, hgl⟩ := h.lts
  have HC := Lib.hid h
  clear h
  generalize hRG : bs rg = RG at *
  have HRG := Lib.hid hRG
  clear hRG
  go_enter Try.func93, Try.ntmps93
  go_wp2_with fail
  have hbA : Below w.heap.size w ((w.alloc (.cells #[.int .i64 0, .int .i64 0, .string RG, .string ⟨#[]⟩, .slice none 0 0, .slice none 0 0, .slice none 0 0] 62)).alloc (.cells #[.int .i64 0, .int .i64 0, .string ⟨#[]⟩, .string ⟨#[]⟩, .slice none 0 0, .slice none 0 0, .slice none 0 0] 62)) := ((Below.refl _ _).alloc (Nat.le_refl _) _).alloc (by simp) _
  have HB := Lib.hid ((Blk.new w 62 #[.int .i64 0, .int .i64 0, .string RG, .string ⟨#[]⟩, .slice none 0 0, .slice none 0 0, .slice none 0 0]).alloc (.cells #[.int .i64 0, .int .i64 0, .string ⟨#[]⟩, .string ⟨#[]⟩, .slice none 0 0, .slice none 0 0, .slice none 0 0] 62))
  have hR0 := Blk.new (w.alloc (.cells #[.int .i64 0, .int .i64 0, .string RG, .string ⟨#[]⟩, .slice none 0 0, .slice none 0 0, .slice none 0 0] 62)) 62 #[.int .i64 0, .int .i64 0, .string ⟨#[]⟩, .string ⟨#[]⟩, .slice none 0 0, .slice none 0 0, .slice none 0 0]
  rw [show (w.alloc (.cells #[.int .i64 0, .int .i64 0, .string RG, .string ⟨#[]⟩, .slice none 0 0, .slice none 0 0, .slice none 0 0] 62)).heap.size = w.heap.size + 1 by simp] at hR0
  have HR := Lib.hid hR0
  have HC := Lib.hid (HC.out.below hbA)
  have HO := Lib.hid (Only.of_below (S := (· = C)) hbA)
  clear hbA hR0
  have hsA : w.heap.size + 1 < ((w.alloc (.cells #[.int .i64 0, .int .i64 0, .string RG, .string ⟨#[]⟩, .slice none 0 0, .slice none 0 0, .slice none 0 0] 62)).alloc (.cells #[.int .i64 0, .int .i64 0, .string ⟨#[]⟩, .string ⟨#[]⟩, .slice none 0 0, .slice none 0 0, .slice none 0 0] 62)).heap.size := HR.out.lt
  generalize (w.alloc (.cells #[.int .i64 0, .int .i64 0, .string RG, .string ⟨#[]⟩, .slice none 0 0, .slice none 0 0, .slice none 0 0] 62)).alloc (.cells #[.int .i64 0, .int .i64 0, .string ⟨#[]⟩, .string ⟨#[]⟩, .slice none 0 0, .slice none 0 0, .slice none 0 0] 62) = w0 at *
  generalize hSe : w.heap.size = S at *
  have HSe := Lib.hid hSe
  have hSw : w.heap.size ≤ S := by omega
  have hSw' : S ≤ w.heap.size := by omega
  clear hSe
  generalize hRe : S + 1 = R at *
  have hRS : S < R := by omega
  clear hRe
  with_reducible refine (is_live C g cap TS pv k ⟨#[108, 111, 97, 100]⟩ _ HC.out).mono ?_
  rintro e wi1 ⟨rfl, hbi⟩
  rw [show by' (⟨#[108, 111, 97, 100]⟩ : ByteArray) = [108, 111, 97, 100] from rfl, HL.out]
  have hsi1 := hbi.size
  have HC := Lib.hid (HC.out.below hbi)
  have HO := Lib.hid (HO.out.trans (Only.of_below hbi))
  have HB := Lib.hid (HB.out.live' hbi)
  have HR := Lib.hid (HR.out.live' hbi)
  clear hbi
  go_wp2_with fail
  with_reducible refine (is_live C g cap TS pv k ⟨#[97, 100, 100]⟩ _ HC.out).mono ?_
  rintro e wi2 ⟨rfl, hbi⟩
  rw [show by' (⟨#[97, 100, 100]⟩ : ByteArray) = [97, 100, 100] from rfl, HA.out]
  have hsi2 := hbi.size
  have HC := Lib.hid (HC.out.below hbi)
  have HO := Lib.hid (HO.out.trans (Only.of_below hbi))
  have HB := Lib.hid (HB.out.live' hbi)
  have HR := Lib.hid (HR.out.live' hbi)
  clear hbi
  go_wp2_with fail
  with_reducible refine (is_live C g cap TS pv k ⟨#[99, 97, 115]⟩ _ HC.out).mono ?_
  rintro e wi3 ⟨rfl, hbi⟩
  rw [show by' (⟨#[99, 97, 115]⟩ : ByteArray) = [99, 97, 115] from rfl, HCS.out]
  have hsi3 := hbi.size
  have HC := Lib.hid (HC.out.below hbi)
  have HO := Lib.hid (HO.out.trans (Only.of_below hbi))
  have HB := Lib.hid (HB.out.live' hbi)
  have HR := Lib.hid (HR.out.live' hbi)
  clear hbi
  have hSl := HB.out.lt
  obtain ⟨x0, x1, x2, x3, x4, x5, x6, y0, y1, y2, y3, y4, y5, y6⟩ := seven_free HB.out
  obtain ⟨b0, b1, b2, b3, fb1, _, _⟩ := HC.out.cells
  go_wp2_with fail
  clear x0 x1 x2 x3 x4 x5 x6 y0 y1 y2 y3 y4 y5 y6 b0 b1 b2 b3 fb1
  have hoS : Only (fun b => b = S) wi3 (wi3.setCell ⟨S, 0, none⟩ (.int .i64 1)) := (Only.refl (fun b => b = S) wi3).setCell (p := ⟨S, 0, none⟩) (.inl rfl) _
  have HC := Lib.hid (HC.out.other hoS (by omega) (by omega))
  have HR := Lib.hid (HR.out.only hoS (by omega))
  have HB := Lib.hid (HB.out.set 0 (.int .i64 1))
  have HO := Lib.hid (HO.out.setCell (p := ⟨S, 0, none⟩) (.inr (show w.heap.size ≤ S by omega)) (.int .i64 1))
  have hsS : wi3.heap.size ≤ (wi3.setCell ⟨S, 0, none⟩ (.int .i64 1)).heap.size := hoS.size
  clear hoS
  generalize wi3.setCell ⟨S, 0, none⟩ (.int .i64 1) = w7 at *
  have HT := Lib.hid (show Stat TS k (-1) (.ok (TS.drop k)) from ⟨rfl, rfl⟩)
  with_reducible refine (expr_tot C g cap TS pv k (-1) _ _ HC.out HT.out).mono ?_
  rintro e w8 ⟨v, k8, b8, rfl, ⟨o, m, s, a, n, c, rfl⟩, hkk8, hcX, hoX, hst, hval⟩
  have HT := Lib.hid hst
  have HVX := Lib.hid hval
  clear hst hval
  have HB := Lib.hid (HB.out.only hoX (by omega))
  have HR := Lib.hid (HR.out.only hoX (by omega))
  have hsN := hoX.size
  have HO := Lib.hid (HO.out.trans hoX)
  have HC := Lib.hid hcX
  clear hcX hoX
  have hSl := HB.out.lt
  obtain ⟨x0, x1, x2, x3, x4, x5, x6, y0, y1, y2, y3, y4, y5, y6⟩ := seven_free HB.out
  obtain ⟨b0, b1, b2, b3, fb1, _, _⟩ := HC.out.cells
  go_upto_region 23 with (fail)
  clear x0 x1 x2 x3 x4 x5 x6 y0 y1 y2 y3 y4 y5 y6 b0 b1 b2 b3 fb1
  have hoS : Only (fun b => b = S) w8 (w8.setCell ⟨S, 4, none⟩ (.slice (some ⟨w8.heap.size, 0, none⟩) 1 1)) := (Only.refl (fun b => b = S) w8).setCell (p := ⟨S, 4, none⟩) (.inl rfl) _
  have hszS : (w8.setCell ⟨S, 4, none⟩ (.slice (some ⟨w8.heap.size, 0, none⟩) 1 1)).heap.size = w8.heap.size := by simp [World.setCell]
  have HC := Lib.hid (HC.out.other hoS (by omega) (by omega))
  have HR := Lib.hid (HR.out.only hoS (by omega))
  have HB := Lib.hid (HB.out.set 4 (.slice (some ⟨w8.heap.size, 0, none⟩) 1 1))
  have HO := Lib.hid (HO.out.setCell (p := ⟨S, 4, none⟩) (.inr (show w.heap.size ≤ S by omega)) (.slice (some ⟨w8.heap.size, 0, none⟩) 1 1))
  have HVX := Lib.hid (fun e ts hh => (HVX.out e ts hh).keep (Keeps.only hoS (by intro q hq ee; have hq' : w7.heap.size ≤ q := hq; omega)))
  clear hoS
  generalize w8.setCell ⟨S, 4, none⟩ (.slice (some ⟨w8.heap.size, 0, none⟩) 1 1) = wz at *
  have hbK : Below wz.heap.size wz (wz.alloc (.cells #[.int .i64 o, .int .i64 m, .string s, .slice a n c] 93)) := (Below.refl _ _).alloc (Nat.le_refl _) _
  have hK := Blk.new wz 93 #[.int .i64 o, .int .i64 m, .string s, .slice a n c]
  rw [hszS] at hK
  have HK := Lib.hid hK
  have HVX := Lib.hid (fun e ts hh => (HVX.out e ts hh).keep (Keeps.below hbK (Nat.le_refl _)))
  clear hK
  have HC := Lib.hid (HC.out.below hbK)
  have HO := Lib.hid (HO.out.trans (Only.of_below hbK))
  have HB := Lib.hid (HB.out.live' hbK)
  have HR := Lib.hid (HR.out.live' hbK)
  clear hbK
  have hKl := HK.out.lt
  generalize wz.alloc (.cells #[.int .i64 o, .int .i64 m, .string s, .slice a n c] 93) = wy at *
  generalize w8.heap.size = K at *
  obtain ⟨x0, x1, x2, x3, x4, x5, x6, _, _, _, _, _, _, _⟩ := seven_free HB.out
  obtain ⟨z0, z1, z2, z3, z4, z5, z6, o0, o1, o2, o3, o4, o5, o6⟩ := seven_free HR.out
  go_wp2_with fail
  refine bodyPost_ret (results_cell_row (p := 4) rfl _ _ R 62 #[.int .i64 1, .int .i64 0, .string RG, .string ⟨#[]⟩, .slice (some ⟨K, 0, none⟩) 1 1, .slice none 0 0, .slice none 0 0] (0, 0) _ rfl (put7 HR.out) Try.underlying62 rfl (by kernel_rfl)) rfl ?_
  rw [HU.out]
  refine ⟨_, k8, _, rfl, ⟨_, _, _, _, _, _, _, _, _, _, _, _, _, rfl⟩, by omega, HC.out.put7 (by omega) (by omega) _ _ _ _ _ _ _, Only.put7 HO.out (.inr (show w.heap.size ≤ R by omega)) _ _ _ _ _ _ _, ?_, ?_⟩
  · have ht := HT.out
    cases h1 : P.pExpr (TS.drop k) with
    | error p =>
      simp only [on, left, h1] at ht ⊢
      exact ht
    | ok q =>
      simp only [on, left, h1] at ht ⊢
      exact ht
  · intro a' ts ha
    cases h1 : P.pExpr (TS.drop k) with
    | error p =>
      rw [h1] at ha
      cases ha
    | ok q =>
      obtain ⟨q1, q2⟩ := q
      rw [h1] at ha
      injection ha with ha
      injection ha with ha1 ha2
      subst ha1
      have hLX := HVX.out q1 q2 h1
      have hP : Only (fun b => b = R) wy (put7w wy R (.int .i64 1) (.int .i64 0) (.string RG) (.string ⟨#[]⟩) (.slice (some ⟨K, 0, none⟩) 1 1) (.slice none 0 0) (.slice none 0 0)) := Only.put7 (Only.refl (fun b => b = R) wy) (.inl rfl) _ _ _ _ _ _ _
      have hlx := hLX.keep (Keeps.only hP (by intro q hq ee; have hq' : w7.heap.size ≤ q := hq; omega))
      have hKf := HK.out.only hP (by omega)
      have hlx2 := LX.mono (Q' := From S) (by intro q hq _; have hq' : w7.heap.size ≤ q := hq; show S ≤ q; omega) _ hlx
      rw [← HRG.out] at hKf hlx2 ⊢
      unfold LS
      exact ⟨_, _, _, _, _, _, rfl, show 1 ≤ maxLen by decide, Nat.zero_le _, Nat.zero_le _, .inr ⟨K, 0, rfl, show S ≤ K by omega, lxs_one hKf hlx2⟩, .inl rfl, .inl rfl⟩
set_option maxRecDepth 100000 in
set_option maxHeartbeats 3200000 in
theorem right_add (C g cap : Nat) (TS : List Tok) (pv : Value) (k : Nat) (rg : List UInt8) (w : World) (h : Cur w C g cap TS pv k (-1)) (hl : P.isS [108, 111, 97, 100] (TS.drop k) = false) (ha : P.isS [97, 100, 100] (TS.drop k) = true) :
    Calls Try.prog 93 #[.pointer (some ⟨C, 0, none⟩), .agg #[.int .i64 0, .int .i64 0, .string (bs rg), .string ⟨#[]⟩, .slice none 0 0, .slice none 0 0, .slice none 0 0]] w (TotTo (LS (From w.heap.size)) AnyS C g cap TS pv k (P.rightF rg (TS.drop k)) w) := by
  have hq1 : k + 1 < TS.length := h.more (isS_kind (s := [97, 100, 100]) (by rw [← drop_tat h.lt]; exact ha))
  have HU := Lib.hid (show P.rightF rg (TS.drop k) = (match P.pMode (TS.drop (k + 1)) with
      | .error p => .error p
      | .ok (m, r1) =>
        match P.pName r1 with
        | .error p => .error p
        | .ok (l, r2) =>
          match P.pExpr r2 with
          | .error p => .error p
          | .ok (e, r3) => .ok (.mk 4 m rg l [e] [] [], r3)) by
    conv => lhs; unfold P.rightF
    rw [hl, if_neg (by decide), ha, if_pos rfl, List.tail_drop]
    rfl)
  have HL := Lib.hid hl
  have HA := Lib.hid ha
  clear hl ha
  have hlt := h.lt
  have hmx := h.max
  obtain ⟨hCl, hgl⟩ := h.lts
  have HC := Lib.hid h
  clear h
  generalize hRG : bs rg = RG at *
  have HRG := Lib.hid hRG
  clear hRG
  go_enter Try.func93, Try.ntmps93
  go_wp2_with fail
  have hbA : Below w.heap.size w ((w.alloc (.cells #[.int .i64 0, .int .i64 0, .string RG, .string ⟨#[]⟩, .slice none 0 0, .slice none 0 0, .slice none 0 0] 62)).alloc (.cells #[.int .i64 0, .int .i64 0, .string ⟨#[]⟩, .string ⟨#[]⟩, .slice none 0 0, .slice none 0 0, .slice none 0 0] 62)) := ((Below.refl _ _).alloc (Nat.le_refl _) _).alloc (by simp) _
  have HB := Lib.hid ((Blk.new w 62 #[.int .i64 0, .int .i64 0, .string RG, .string ⟨#[]⟩, .slice none 0 0, .slice none 0 0, .slice none 0 0]).alloc (.cells #[.int .i64 0, .int .i64 0, .string ⟨#[]⟩, .string ⟨#[]⟩, .slice none 0 0, .slice none 0 0, .slice none 0 0] 62))
  have hR0 := Blk.new (w.alloc (.cells #[.int .i64 0, .int .i64 0, .string RG, .string ⟨#[]⟩, .slice none 0 0, .slice none 0 0, .slice none 0 0] 62)) 62 #[.int .i64 0, .int .i64 0, .string ⟨#[]⟩, .string ⟨#[]⟩, .slice none 0 0, .slice none 0 0, .slice none 0 0]
  rw [show (w.alloc (.cells #[.int .i64 0, .int .i64 0, .string RG, .string ⟨#[]⟩, .slice none 0 0, .slice none 0 0, .slice none 0 0] 62)).heap.size = w.heap.size + 1 by simp] at hR0
  have HR := Lib.hid hR0
  have HC := Lib.hid (HC.out.below hbA)
  have HO := Lib.hid (Only.of_below (S := (· = C)) hbA)
  clear hbA hR0
  have hsA : w.heap.size + 1 < ((w.alloc (.cells #[.int .i64 0, .int .i64 0, .string RG, .string ⟨#[]⟩, .slice none 0 0, .slice none 0 0, .slice none 0 0] 62)).alloc (.cells #[.int .i64 0, .int .i64 0, .string ⟨#[]⟩, .string ⟨#[]⟩, .slice none 0 0, .slice none 0 0, .slice none 0 0] 62)).heap.size := HR.out.lt
  generalize (w.alloc (.cells #[.int .i64 0, .int .i64 0, .string RG, .string ⟨#[]⟩, .slice none 0 0, .slice none 0 0, .slice none 0 0] 62)).alloc (.cells #[.int .i64 0, .int .i64 0, .string ⟨#[]⟩, .string ⟨#[]⟩, .slice none 0 0, .slice none 0 0, .slice none 0 0] 62) = w0 at *
  generalize hSe : w.heap.size = S at *
  have HSe := Lib.hid hSe
  have hSw : w.heap.size ≤ S := by omega
  have hSw' : S ≤ w.heap.size := by omega
  clear hSe
  generalize hRe : S + 1 = R at *
  have hRS : S < R := by omega
  clear hRe
  with_reducible refine (is_live C g cap TS pv k ⟨#[108, 111, 97, 100]⟩ _ HC.out).mono ?_
  rintro e wi1 ⟨rfl, hbi⟩
  rw [show by' (⟨#[108, 111, 97, 100]⟩ : ByteArray) = [108, 111, 97, 100] from rfl, HL.out]
  have hsi1 := hbi.size
  have HC := Lib.hid (HC.out.below hbi)
  have HO := Lib.hid (HO.out.trans (Only.of_below hbi))
  have HB := Lib.hid (HB.out.live' hbi)
  have HR := Lib.hid (HR.out.live' hbi)
  clear hbi
  go_wp2_with fail
  with_reducible refine (is_live C g cap TS pv k ⟨#[97, 100, 100]⟩ _ HC.out).mono ?_
  rintro e wi2 ⟨rfl, hbi⟩
  rw [show by' (⟨#[97, 100, 100]⟩ : ByteArray) = [97, 100, 100] from rfl, HA.out]
  have hsi2 := hbi.size
  have HC := Lib.hid (HC.out.below hbi)
  have HO := Lib.hid (HO.out.trans (Only.of_below hbi))
  have HB := Lib.hid (HB.out.live' hbi)
  have HR := Lib.hid (HR.out.live' hbi)
  clear hbi
  have hSl := HB.out.lt
  obtain ⟨x0, x1, x2, x3, x4, x5, x6, y0, y1, y2, y3, y4, y5, y6⟩ := seven_free HB.out
  obtain ⟨b0, b1, b2, b3, fb1, _, _⟩ := HC.out.cells
  go_wp2_with fail
  clear x0 x1 x2 x3 x4 x5 x6 y0 y1 y2 y3 y4 y5 y6 b0 b1 b2 b3 fb1
  have HB := Lib.hid (HB.out.only (Only.step (C := C) (.int .i64 ((k : Int) + 1))) (by omega))
  have HR := Lib.hid (HR.out.only (Only.step (C := C) (.int .i64 ((k : Int) + 1))) (by omega))
  have HO := Lib.hid (HO.out.trans (Only.step (.int .i64 ((k : Int) + 1))))
  have HC := Lib.hid (HC.out.step hq1)
  have hsS : wi2.heap.size ≤ (wi2.setCell ⟨C, 1, none⟩ (.int .i64 ((k : Int) + 1))).heap.size := by simp [World.setCell]
  generalize wi2.setCell ⟨C, 1, none⟩ (.int .i64 ((k : Int) + 1)) = w6 at *
  have hoS : Only (fun b => b = S) w6 (w6.setCell ⟨S, 0, none⟩ (.int .i64 4)) := (Only.refl (fun b => b = S) w6).setCell (p := ⟨S, 0, none⟩) (.inl rfl) _
  have HC := Lib.hid (HC.out.other hoS (by omega) (by omega))
  have HR := Lib.hid (HR.out.only hoS (by omega))
  have HB := Lib.hid (HB.out.set 0 (.int .i64 4))
  have HO := Lib.hid (HO.out.setCell (p := ⟨S, 0, none⟩) (.inr (show w.heap.size ≤ S by omega)) (.int .i64 4))
  have hsS : w6.heap.size ≤ (w6.setCell ⟨S, 0, none⟩ (.int .i64 4)).heap.size := hoS.size
  clear hoS
  generalize w6.setCell ⟨S, 0, none⟩ (.int .i64 4) = w7 at *
  have HT := Lib.hid (show Stat TS (k + 1) (-1) (.ok (TS.drop (k + 1))) from ⟨rfl, rfl⟩)
  with_reducible refine (mode_tot C g cap TS pv (k + 1) (-1) _ _ HC.out HT.out).mono ?_
  rintro e w8 ⟨v, k8, b8, rfl, ⟨i1, rfl⟩, hkk8, hcX, hoX, hst, hval⟩
  have HT := Lib.hid hst
  have HV1 := Lib.hid hval
  clear hst hval
  have HB := Lib.hid (HB.out.only hoX (by omega))
  have HR := Lib.hid (HR.out.only hoX (by omega))
  have hsN := hoX.size
  have HO := Lib.hid (HO.out.trans hoX)
  have HC := Lib.hid hcX
  clear hcX hoX
  have hSl := HB.out.lt
  obtain ⟨x0, x1, x2, x3, x4, x5, x6, y0, y1, y2, y3, y4, y5, y6⟩ := seven_free HB.out
  obtain ⟨b0, b1, b2, b3, fb1, _, _⟩ := HC.out.cells
  go_wp2_with fail
  clear x0 x1 x2 x3 x4 x5 x6 y0 y1 y2 y3 y4 y5 y6 b0 b1 b2 b3 fb1
  have hoS : Only (fun b => b = S) w8 (w8.setCell ⟨S, 1, none⟩ (.int .i64 i1)) := (Only.refl (fun b => b = S) w8).setCell (p := ⟨S, 1, none⟩) (.inl rfl) _
  have HC := Lib.hid (HC.out.other hoS (by omega) (by omega))
  have HR := Lib.hid (HR.out.only hoS (by omega))
  have HB := Lib.hid (HB.out.set 1 (.int .i64 i1))
  have HO := Lib.hid (HO.out.setCell (p := ⟨S, 1, none⟩) (.inr (show w.heap.size ≤ S by omega)) (.int .i64 i1))
  have hsS : w8.heap.size ≤ (w8.setCell ⟨S, 1, none⟩ (.int .i64 i1)).heap.size := hoS.size
  clear hoS
  generalize w8.setCell ⟨S, 1, none⟩ (.int .i64 i1) = w9 at *
  with_reducible refine (name_tot C g cap TS pv k8 b8 _ _ HC.out HT.out).mono ?_
  rintro e w10 ⟨v, k10, b10, rfl, ⟨s2, rfl⟩, hkk10, hcX, hoX, hst, hval⟩
  have HT := Lib.hid hst
  have HV2 := Lib.hid hval
  clear hst hval
  have HB := Lib.hid (HB.out.only hoX (by omega))
  have HR := Lib.hid (HR.out.only hoX (by omega))
  have hsN := hoX.size
  have HO := Lib.hid (HO.out.trans hoX)
  have HC := Lib.hid hcX
  clear hcX hoX
  have hSl := HB.out.lt
  obtain ⟨x0, x1, x2, x3, x4, x5, x6, y0, y1, y2, y3, y4, y5, y6⟩ := seven_free HB.out
  obtain ⟨b0, b1, b2, b3, fb1, _, _⟩ := HC.out.cells
  go_wp2_with fail
  clear x0 x1 x2 x3 x4 x5 x6 y0 y1 y2 y3 y4 y5 y6 b0 b1 b2 b3 fb1
  have hoS : Only (fun b => b = S) w10 (w10.setCell ⟨S, 3, none⟩ (.string s2)) := (Only.refl (fun b => b = S) w10).setCell (p := ⟨S, 3, none⟩) (.inl rfl) _
  have HC := Lib.hid (HC.out.other hoS (by omega) (by omega))
  have HR := Lib.hid (HR.out.only hoS (by omega))
  have HB := Lib.hid (HB.out.set 3 (.string s2))
  have HO := Lib.hid (HO.out.setCell (p := ⟨S, 3, none⟩) (.inr (show w.heap.size ≤ S by omega)) (.string s2))
  have hsS : w10.heap.size ≤ (w10.setCell ⟨S, 3, none⟩ (.string s2)).heap.size := hoS.size
  clear hoS
  generalize w10.setCell ⟨S, 3, none⟩ (.string s2) = w11 at *
  with_reducible refine (expr_tot C g cap TS pv k10 b10 _ _ HC.out HT.out).mono ?_
  rintro e w12 ⟨v, k12, b12, rfl, ⟨o, m, s, a, n, c, rfl⟩, hkk12, hcX, hoX, hst, hval⟩
  have HT := Lib.hid hst
  have HVX := Lib.hid hval
  clear hst hval
  have HB := Lib.hid (HB.out.only hoX (by omega))
  have HR := Lib.hid (HR.out.only hoX (by omega))
  have hsN := hoX.size
  have HO := Lib.hid (HO.out.trans hoX)
  have HC := Lib.hid hcX
  clear hcX hoX
  have hSl := HB.out.lt
  obtain ⟨x0, x1, x2, x3, x4, x5, x6, y0, y1, y2, y3, y4, y5, y6⟩ := seven_free HB.out
  obtain ⟨b0, b1, b2, b3, fb1, _, _⟩ := HC.out.cells
  go_upto_region 23 with (fail)
  clear x0 x1 x2 x3 x4 x5 x6 y0 y1 y2 y3 y4 y5 y6 b0 b1 b2 b3 fb1
  have hoS : Only (fun b => b = S) w12 (w12.setCell ⟨S, 4, none⟩ (.slice (some ⟨w12.heap.size, 0, none⟩) 1 1)) := (Only.refl (fun b => b = S) w12).setCell (p := ⟨S, 4, none⟩) (.inl rfl) _
  have hszS : (w12.setCell ⟨S, 4, none⟩ (.slice (some ⟨w12.heap.size, 0, none⟩) 1 1)).heap.size = w12.heap.size := by simp [World.setCell]
  have HC := Lib.hid (HC.out.other hoS (by omega) (by omega))
  have HR := Lib.hid (HR.out.only hoS (by omega))
  have HB := Lib.hid (HB.out.set 4 (.slice (some ⟨w12.heap.size, 0, none⟩) 1 1))
  have HO := Lib.hid (HO.out.setCell (p := ⟨S, 4, none⟩) (.inr (show w.heap.size ≤ S by omega)) (.slice (some ⟨w12.heap.size, 0, none⟩) 1 1))
  have HVX := Lib.hid (fun e ts hh => (HVX.out e ts hh).keep (Keeps.only hoS (by intro q hq ee; have hq' : w11.heap.size ≤ q := hq; omega)))
  clear hoS
  generalize w12.setCell ⟨S, 4, none⟩ (.slice (some ⟨w12.heap.size, 0, none⟩) 1 1) = wz at *
  have hbK : Below wz.heap.size wz (wz.alloc (.cells #[.int .i64 o, .int .i64 m, .string s, .slice a n c] 93)) := (Below.refl _ _).alloc (Nat.le_refl _) _
  have hK := Blk.new wz 93 #[.int .i64 o, .int .i64 m, .string s, .slice a n c]
  rw [hszS] at hK
  have HK := Lib.hid hK
  have HVX := Lib.hid (fun e ts hh => (HVX.out e ts hh).keep (Keeps.below hbK (Nat.le_refl _)))
  clear hK
  have HC := Lib.hid (HC.out.below hbK)
  have HO := Lib.hid (HO.out.trans (Only.of_below hbK))
  have HB := Lib.hid (HB.out.live' hbK)
  have HR := Lib.hid (HR.out.live' hbK)
  clear hbK
  have hKl := HK.out.lt
  generalize wz.alloc (.cells #[.int .i64 o, .int .i64 m, .string s, .slice a n c] 93) = wy at *
  generalize w12.heap.size = K at *
  obtain ⟨x0, x1, x2, x3, x4, x5, x6, _, _, _, _, _, _, _⟩ := seven_free HB.out
  obtain ⟨z0, z1, z2, z3, z4, z5, z6, o0, o1, o2, o3, o4, o5, o6⟩ := seven_free HR.out
  go_wp2_with fail
  refine bodyPost_ret (results_cell_row (p := 4) rfl _ _ R 62 #[.int .i64 4, .int .i64 i1, .string RG, .string s2, .slice (some ⟨K, 0, none⟩) 1 1, .slice none 0 0, .slice none 0 0] (0, 0) _ rfl (put7 HR.out) Try.underlying62 rfl (by kernel_rfl)) rfl ?_
  rw [HU.out]
  refine ⟨_, k12, _, rfl, ⟨_, _, _, _, _, _, _, _, _, _, _, _, _, rfl⟩, by omega, HC.out.put7 (by omega) (by omega) _ _ _ _ _ _ _, Only.put7 HO.out (.inr (show w.heap.size ≤ R by omega)) _ _ _ _ _ _ _, ?_, ?_⟩
  · have ht := HT.out
    cases h1 : P.pMode (TS.drop (k + 1)) with
    | error p =>
      simp only [on, left, h1] at ht ⊢
      exact ht
    | ok q =>
      obtain ⟨q1, q2⟩ := q
      cases h2 : P.pName q2 with
      | error p =>
        simp only [on, left, h1, h2] at ht ⊢
        exact ht
      | ok r =>
        obtain ⟨r1, r2⟩ := r
        cases h3 : P.pExpr r2 with
        | error p =>
          simp only [on, left, h1, h2, h3] at ht ⊢
          exact ht
        | ok r =>
          simp only [on, left, h1, h2, h3] at ht ⊢
          exact ht
  · intro a' ts ha
    cases h1 : P.pMode (TS.drop (k + 1)) with
    | error p =>
      rw [h1] at ha
      cases ha
    | ok q =>
      obtain ⟨q1, q2⟩ := q
      rw [h1] at ha
      cases h2 : P.pName q2 with
      | error p =>
        simp only [h2] at ha
        cases ha
      | ok r =>
        obtain ⟨r1, r2⟩ := r
        cases h3 : P.pExpr r2 with
        | error p =>
          simp only [h2, h3] at ha
          cases ha
        | ok t =>
          obtain ⟨t1, t2⟩ := t
          simp only [h2, h3] at ha
          injection ha with ha
          injection ha with ha1 ha2
          subst ha1
          have e1 : Value.int .i64 i1 = .int .i64 (q1 : Nat) := HV1.out q1 q2 h1
          have e2 : Value.string s2 = .string (bs r1) := HV2.out r1 r2 (by simp only [on, left, h1]; exact h2)
          have hLX := HVX.out t1 t2 (by simp only [on, left, h1, h2]; exact h3)
          have hP : Only (fun b => b = R) wy (put7w wy R (.int .i64 4) (.int .i64 i1) (.string RG) (.string s2) (.slice (some ⟨K, 0, none⟩) 1 1) (.slice none 0 0) (.slice none 0 0)) := Only.put7 (Only.refl (fun b => b = R) wy) (.inl rfl) _ _ _ _ _ _ _
          have hlx := hLX.keep (Keeps.only hP (by intro q hq ee; have hq' : w11.heap.size ≤ q := hq; omega))
          have hKf := HK.out.only hP (by omega)
          have hlx2 := LX.mono (Q' := From S) (by intro q hq _; have hq' : w11.heap.size ≤ q := hq; show S ≤ q; omega) _ hlx
          rw [← HRG.out, e1, e2] at hKf hlx2 ⊢
          unfold LS
          exact ⟨_, _, _, _, _, _, rfl, show 1 ≤ maxLen by decide, Nat.zero_le _, Nat.zero_le _, .inr ⟨K, 0, rfl, show S ≤ K by omega, lxs_one hKf hlx2⟩, .inl rfl, .inl rfl⟩
end Go.Proofs.Ytikihomablmcnaa.Lx
/-
  What right of the document's cursor tells of cas, as a contract; and right whole.
-/
namespace Go.Proofs.Ytikihomablmcnaa.Lx
open Go.RowKit
open L (Tok)
open P (EX CO ST)
set_option linter.unusedVariables false
set_option linter.unusedSimpArgs false
theorem lxs_two {Q : Nat → Prop} {g : Nat} {w : World} {x y : EX} {x0 x1 x2 x3 y0 y1 y2 y3 : Value} (hB : Blk w g 93 #[x0, x1, x2, x3, y0, y1, y2, y3]) (hx : LX Q w (.agg #[x0, x1, x2, x3]) x) (hy : LX Q w (.agg #[y0, y1, y2, y3]) y) : LXs Q w g 0 [x, y] := by
  unfold LXs
  refine ⟨⟨x0, x1, x2, x3, hB.cell 0, hB.cell 1, hB.cell 2, hB.cell 3, hx⟩, ?_⟩
  unfold LXs
  refine ⟨⟨y0, y1, y2, y3, hB.cell 4, hB.cell 5, hB.cell 6, hB.cell 7, hy⟩, ?_⟩
  unfold LXs
  trivial
/-- cas, plainly. -/
def casF (rg : List UInt8) (ts : List Tok) : P.Res ST :=
  match P.pMode ts with
  | .error p => .error p
  | .ok (m, r1) =>
    match P.pName r1 with
    | .error p => .error p
    | .ok (l, r2) =>
      match P.pExpr r2 with
      | .error p => .error p
      | .ok (a, r3) =>
        match P.need [44] r3 with
        | .error p => .error p
        | .ok r4 =>
          match P.pExpr r4 with
          | .error p => .error p
          | .ok (b, r5) => .ok (.mk 5 m rg l [a, b] [] [], r5)
set_option maxRecDepth 100000 in
set_option maxHeartbeats 3200000 in
theorem right_cas (C g cap : Nat) (TS : List Tok) (pv : Value) (k : Nat) (rg : List UInt8) (w : World) (h : Cur w C g cap TS pv k (-1)) (hl : P.isS [108, 111, 97, 100] (TS.drop k) = false) (ha : P.isS [97, 100, 100] (TS.drop k) = false) (hc : P.isS [99, 97, 115] (TS.drop k) = true) :
    Calls Try.prog 93 #[.pointer (some ⟨C, 0, none⟩), .agg #[.int .i64 0, .int .i64 0, .string (bs rg), .string ⟨#[]⟩, .slice none 0 0, .slice none 0 0, .slice none 0 0]] w (TotTo (LS (From w.heap.size)) AnyS C g cap TS pv k (P.rightF rg (TS.drop k)) w) := by
  have hq1 : k + 1 < TS.length := h.more (isS_kind (s := [99, 97, 115]) (by rw [← drop_tat h.lt]; exact hc))
  have HU := Lib.hid (show P.rightF rg (TS.drop k) = casF rg (TS.drop (k + 1)) by
    conv => lhs; unfold P.rightF
    rw [hl, if_neg (by decide), ha, if_neg (by decide), hc, if_pos rfl, List.tail_drop]
    rfl)
  have HL := Lib.hid hl
  have HA := Lib.hid ha
  have HCS := Lib.hid hc
  clear hl ha hc
  have hlt := h.lt
  have hmx := h.max
  obtain ⟨hCl, hgl⟩ := h.lts
  have HC := Lib.hid h
  clear h
  generalize hRG : bs rg = RG at *
  have HRG := Lib.hid hRG
  clear hRG
  go_enter Try.func93, Try.ntmps93
  go_wp2_with fail
  have hbA : Below w.heap.size w ((w.alloc (.cells #[.int .i64 0, .int .i64 0, .string RG, .string ⟨#[]⟩, .slice none 0 0, .slice none 0 0, .slice none 0 0] 62)).alloc (.cells #[.int .i64 0, .int .i64 0, .string ⟨#[]⟩, .string ⟨#[]⟩, .slice none 0 0, .slice none 0 0, .slice none 0 0] 62)) := ((Below.refl _ _).alloc (Nat.le_refl _) _).alloc (by simp) _
  have HB := Lib.hid ((Blk.new w 62 #[.int .i64 0, .int .i64 0, .string RG, .string ⟨#[]⟩, .slice none 0 0, .slice none 0 0, .slice none 0 0]).alloc (.cells #[.int .i64 0, .int .i64 0, .string ⟨#[]⟩, .string ⟨#[]⟩, .slice none 0 0, .slice none 0 0, .slice none 0 0] 62))
  have hR0 := Blk.new (w.alloc (.cells #[.int .i64 0, .int .i64 0, .string RG, .string ⟨#[]⟩, .slice none 0 0, .slice none 0 0, .slice none 0 0] 62)) 62 #[.int .i64 0, .int .i64 0, .string ⟨#[]⟩, .string ⟨#[]⟩, .slice none 0 0, .slice none 0 0, .slice none 0 0]
  rw [show (w.alloc (.cells #[.int .i64 0, .int .i64 0, .string RG, .string ⟨#[]⟩, .slice none 0 0, .slice none 0 0, .slice none 0 0] 62)).heap.size = w.heap.size + 1 by simp] at hR0
  have HR := Lib.hid hR0
  have HC := Lib.hid (HC.out.below hbA)
  have HO := Lib.hid (Only.of_below (S := (· = C)) hbA)
  clear hbA hR0
  have hsA : w.heap.size + 1 < ((w.alloc (.cells #[.int .i64 0, .int .i64 0, .string RG, .string ⟨#[]⟩, .slice none 0 0, .slice none 0 0, .slice none 0 0] 62)).alloc (.cells #[.int .i64 0, .int .i64 0, .string ⟨#[]⟩, .string ⟨#[]⟩, .slice none 0 0, .slice none 0 0, .slice none 0 0] 62)).heap.size := HR.out.lt
  generalize (w.alloc (.cells #[.int .i64 0, .int .i64 0, .string RG, .string ⟨#[]⟩, .slice none 0 0, .slice none 0 0, .slice none 0 0] 62)).alloc (.cells #[.int .i64 0, .int .i64 0, .string ⟨#[]⟩, .string ⟨#[]⟩, .slice none 0 0, .slice none 0 0, .slice none 0 0] 62) = w0 at *
  generalize hSe : w.heap.size = S at *
  have HSe := Lib.hid hSe
  have hSw : w.heap.size ≤ S := by omega
  have hSw' : S ≤ w.heap.size := by omega
  clear hSe
  generalize hRe : S + 1 = R at *
  have hRS : S < R := by omega
  clear hRe
  with_reducible refine (is_live C g cap TS pv k ⟨#[108, 111, 97, 100]⟩ _ HC.out).mono ?_
  rintro e wi1 ⟨rfl, hbi⟩
  rw [show by' (⟨#[108, 111, 97, 100]⟩ : ByteArray) = [108, 111, 97, 100] from rfl, HL.out]
  have hsi1 := hbi.size
  have HC := Lib.hid (HC.out.below hbi)
  have HO := Lib.hid (HO.out.trans (Only.of_below hbi))
  have HB := Lib.hid (HB.out.live' hbi)
  have HR := Lib.hid (HR.out.live' hbi)
  clear hbi
  go_wp2_with fail
  with_reducible refine (is_live C g cap TS pv k ⟨#[97, 100, 100]⟩ _ HC.out).mono ?_
  rintro e wi2 ⟨rfl, hbi⟩
  rw [show by' (⟨#[97, 100, 100]⟩ : ByteArray) = [97, 100, 100] from rfl, HA.out]
  have hsi2 := hbi.size
  have HC := Lib.hid (HC.out.below hbi)
  have HO := Lib.hid (HO.out.trans (Only.of_below hbi))
  have HB := Lib.hid (HB.out.live' hbi)
  have HR := Lib.hid (HR.out.live' hbi)
  clear hbi
  go_wp2_with fail
  with_reducible refine (is_live C g cap TS pv k ⟨#[99, 97, 115]⟩ _ HC.out).mono ?_
  rintro e wi3 ⟨rfl, hbi⟩
  rw [show by' (⟨#[99, 97, 115]⟩ : ByteArray) = [99, 97, 115] from rfl, HCS.out]
  have hsi3 := hbi.size
  have HC := Lib.hid (HC.out.below hbi)
  have HO := Lib.hid (HO.out.trans (Only.of_below hbi))
  have HB := Lib.hid (HB.out.live' hbi)
  have HR := Lib.hid (HR.out.live' hbi)
  clear hbi
  have hSl := HB.out.lt
  obtain ⟨x0, x1, x2, x3, x4, x5, x6, y0, y1, y2, y3, y4, y5, y6⟩ := seven_free HB.out
  obtain ⟨b0, b1, b2, b3, fb1, _, _⟩ := HC.out.cells
  go_wp2_with fail
  clear x0 x1 x2 x3 x4 x5 x6 y0 y1 y2 y3 y4 y5 y6 b0 b1 b2 b3 fb1
  have HB := Lib.hid (HB.out.only (Only.step (C := C) (.int .i64 ((k : Int) + 1))) (by omega))
  have HR := Lib.hid (HR.out.only (Only.step (C := C) (.int .i64 ((k : Int) + 1))) (by omega))
  have HO := Lib.hid (HO.out.trans (Only.step (.int .i64 ((k : Int) + 1))))
  have HC := Lib.hid (HC.out.step hq1)
  have hsS : wi3.heap.size ≤ (wi3.setCell ⟨C, 1, none⟩ (.int .i64 ((k : Int) + 1))).heap.size := by simp [World.setCell]
  generalize wi3.setCell ⟨C, 1, none⟩ (.int .i64 ((k : Int) + 1)) = w6 at *
  have hoS : Only (fun b => b = S) w6 (w6.setCell ⟨S, 0, none⟩ (.int .i64 5)) := (Only.refl (fun b => b = S) w6).setCell (p := ⟨S, 0, none⟩) (.inl rfl) _
  have HC := Lib.hid (HC.out.other hoS (by omega) (by omega))
  have HR := Lib.hid (HR.out.only hoS (by omega))
  have HB := Lib.hid (HB.out.set 0 (.int .i64 5))
  have HO := Lib.hid (HO.out.setCell (p := ⟨S, 0, none⟩) (.inr (show w.heap.size ≤ S by omega)) (.int .i64 5))
  have hsS : w6.heap.size ≤ (w6.setCell ⟨S, 0, none⟩ (.int .i64 5)).heap.size := hoS.size
  clear hoS
  generalize w6.setCell ⟨S, 0, none⟩ (.int .i64 5) = w7 at *
  have HT := Lib.hid (show Stat TS (k + 1) (-1) (.ok (TS.drop (k + 1))) from ⟨rfl, rfl⟩)
  with_reducible refine (mode_tot C g cap TS pv (k + 1) (-1) _ _ HC.out HT.out).mono ?_
  rintro e w8 ⟨v, k8, b8, rfl, ⟨i1, rfl⟩, hkk8, hcX, hoX, hst, hval⟩
  have HT := Lib.hid hst
  have HV1 := Lib.hid hval
  clear hst hval
  have HB := Lib.hid (HB.out.only hoX (by omega))
  have HR := Lib.hid (HR.out.only hoX (by omega))
  have hsN := hoX.size
  have HO := Lib.hid (HO.out.trans hoX)
  have HC := Lib.hid hcX
  clear hcX hoX
  have hSl := HB.out.lt
  obtain ⟨x0, x1, x2, x3, x4, x5, x6, y0, y1, y2, y3, y4, y5, y6⟩ := seven_free HB.out
  obtain ⟨b0, b1, b2, b3, fb1, _, _⟩ := HC.out.cells
  go_wp2_with fail
  clear x0 x1 x2 x3 x4 x5 x6 y0 y1 y2 y3 y4 y5 y6 b0 b1 b2 b3 fb1
  have hoS : Only (fun b => b = S) w8 (w8.setCell ⟨S, 1, none⟩ (.int .i64 i1)) := (Only.refl (fun b => b = S) w8).setCell (p := ⟨S, 1, none⟩) (.inl rfl) _
  have HC := Lib.hid (HC.out.other hoS (by omega) (by omega))
  have HR := Lib.hid (HR.out.only hoS (by omega))
  have HB := Lib.hid (HB.out.set 1 (.int .i64 i1))
  have HO := Lib.hid (HO.out.setCell (p := ⟨S, 1, none⟩) (.inr (show w.heap.size ≤ S by omega)) (.int .i64 i1))
  have hsS : w8.heap.size ≤ (w8.setCell ⟨S, 1, none⟩ (.int .i64 i1)).heap.size := hoS.size
  clear hoS
  generalize w8.setCell ⟨S, 1, none⟩ (.int .i64 i1) = w9 at *
  with_reducible refine (name_tot C g cap TS pv k8 b8 _ _ HC.out HT.out).mono ?_
  rintro e w10 ⟨v, k10, b10, rfl, ⟨s2, rfl⟩, hkk10, hcX, hoX, hst, hval⟩
  have HT := Lib.hid hst
  have HV2 := Lib.hid hval
  clear hst hval
  have HB := Lib.hid (HB.out.only hoX (by omega))
  have HR := Lib.hid (HR.out.only hoX (by omega))
  have hsN := hoX.size
  have HO := Lib.hid (HO.out.trans hoX)
  have HC := Lib.hid hcX
  clear hcX hoX
  have hSl := HB.out.lt
  obtain ⟨x0, x1, x2, x3, x4, x5, x6, y0, y1, y2, y3, y4, y5, y6⟩ := seven_free HB.out
  obtain ⟨b0, b1, b2, b3, fb1, _, _⟩ := HC.out.cells
  go_wp2_with fail
  clear x0 x1 x2 x3 x4 x5 x6 y0 y1 y2 y3 y4 y5 y6 b0 b1 b2 b3 fb1
  have hoS : Only (fun b => b = S) w10 (w10.setCell ⟨S, 3, none⟩ (.string s2)) := (Only.refl (fun b => b = S) w10).setCell (p := ⟨S, 3, none⟩) (.inl rfl) _
  have HC := Lib.hid (HC.out.other hoS (by omega) (by omega))
  have HR := Lib.hid (HR.out.only hoS (by omega))
  have HB := Lib.hid (HB.out.set 3 (.string s2))
  have HO := Lib.hid (HO.out.setCell (p := ⟨S, 3, none⟩) (.inr (show w.heap.size ≤ S by omega)) (.string s2))
  have hsS : w10.heap.size ≤ (w10.setCell ⟨S, 3, none⟩ (.string s2)).heap.size := hoS.size
  clear hoS
  generalize w10.setCell ⟨S, 3, none⟩ (.string s2) = w11 at *
  with_reducible refine (expr_tot C g cap TS pv k10 b10 _ _ HC.out HT.out).mono ?_
  rintro e w12 ⟨v, k12, b12, rfl, ⟨o, m, s, a, n, c, rfl⟩, hkk12, hcX, hoX, hst, hval⟩
  have HT := Lib.hid hst
  have HVX := Lib.hid hval
  clear hst hval
  have HB := Lib.hid (HB.out.only hoX (by omega))
  have HR := Lib.hid (HR.out.only hoX (by omega))
  have hsN := hoX.size
  have HO := Lib.hid (HO.out.trans hoX)
  have HC := Lib.hid hcX
  clear hcX hoX
  have hSl := HB.out.lt
  have hRl := HR.out.lt
  go_wp2_with fail
  have hbE : Below w12.heap.size w12 (w12.alloc (.cells #[.int .i64 o, .int .i64 m, .string s, .slice a n c] 93)) := (Below.refl _ _).alloc (Nat.le_refl _) _
  have HA1 := Lib.hid (Blk.new w12 93 #[.int .i64 o, .int .i64 m, .string s, .slice a n c])
  have HVX := Lib.hid (fun e ts hh => LX.mono (Q' := fun q => w11.heap.size ≤ q ∧ q ≠ w12.heap.size) (by intro q hq hl; have hq' : w11.heap.size ≤ q := hq; exact ⟨hq', by omega⟩) _ (HVX.out e ts hh))
  have HVX := Lib.hid (fun e ts hh => (HVX.out e ts hh).keep (Keeps.below hbE (Nat.le_refl _)))
  have hAl : w11.heap.size ≤ w12.heap.size := by omega
  have HC := Lib.hid (HC.out.below hbE)
  have HO := Lib.hid (HO.out.trans (Only.of_below hbE))
  have HB := Lib.hid (HB.out.live' hbE)
  have HR := Lib.hid (HR.out.live' hbE)
  clear hbE
  generalize w12.alloc (.cells #[.int .i64 o, .int .i64 m, .string s, .slice a n c] 93) = w13 at *
  generalize w12.heap.size = A at *
  with_reducible refine (need_tot C g cap TS pv k12 b12 _ ⟨#[44]⟩ _ HC.out HT.out).mono ?_
  rw [show by' (⟨#[44]⟩ : ByteArray) = [44] from rfl]
  rintro e w14 ⟨k14, b14, rfl, hk14, hcX, hoX, hst⟩
  have HA1 := Lib.hid (HA1.out.only hoX (by omega))
  have HVX := Lib.hid (fun e ts hh => (HVX.out e ts hh).keep (Keeps.only hoX (by intro q hq ee; have := hq.1; omega)))
  have hAl2 := HA1.out.lt
  have HB := Lib.hid (HB.out.only hoX (by omega))
  have HR := Lib.hid (HR.out.only hoX (by omega))
  have hsN := hoX.size
  have HO := Lib.hid (HO.out.trans hoX)
  have HC := Lib.hid hcX
  clear hcX hoX
  generalize hST : onNeed [44] (left (on (left (on (left (on (.ok (TS.drop (k + 1))) P.pMode)) P.pName)) P.pExpr)) = st4 at *
  cases st4 with
  | error p =>
    obtain rfl : b14 = (p : Nat) := hst
    have hneg : decide (((p : Nat) : Int) < 0) = false := by simp
    obtain ⟨b0, b1, b2, b3, _, _, _⟩ := HC.out.cells
    have HE := Lib.hid (show casF rg (TS.drop (k + 1)) = .error p by
      unfold casF
      cases h1 : P.pMode (TS.drop (k + 1)) with
      | error p' => simp only [on, left, onNeed, h1] at hST; cases hST; rfl
      | ok q =>
        obtain ⟨q1, q2⟩ := q
        cases h2 : P.pName q2 with
        | error p' => simp only [on, left, onNeed, h1, h2] at hST; cases hST; simp only [h2]
        | ok r =>
          obtain ⟨r1, r2⟩ := r
          cases h3 : P.pExpr r2 with
          | error p' => simp only [on, left, onNeed, h1, h2, h3] at hST; cases hST; simp only [h2, h3]
          | ok t =>
            obtain ⟨t1, t2⟩ := t
            simp only [on, left, onNeed, h1, h2, h3] at hST
            simp only [h2, h3, hST])
    clear hST
    obtain ⟨x0, x1, x2, x3, x4, x5, x6, _, _, _, _, _, _, _⟩ := seven_free HB.out
    obtain ⟨z0, z1, z2, z3, z4, z5, z6, o0, o1, o2, o3, o4, o5, o6⟩ := seven_free HR.out
    go_wp2_with fail
    refine bodyPost_ret (results_cell_row (p := 4) rfl _ _ R 62 #[.int .i64 5, .int .i64 i1, .string RG, .string s2, .slice none 0 0, .slice none 0 0, .slice none 0 0] (0, 0) _ rfl (put7 HR.out) Try.underlying62 rfl (by kernel_rfl)) rfl ?_
    rw [HU.out, HE.out]
    refine ⟨_, k14, _, rfl, ⟨_, _, _, _, _, _, _, _, _, _, _, _, _, rfl⟩, by omega, HC.out.put7 (by omega) (by omega) _ _ _ _ _ _ _, Only.put7 HO.out (.inr (show w.heap.size ≤ R by omega)) _ _ _ _ _ _ _, ?_, ?_⟩
    · exact rfl
    · intro a' ts ha
      cases ha
  | ok r4 =>
    obtain ⟨rfl, rfl⟩ := hst
    have HEX := Lib.hid (fun w' (hc : Cur w' C g cap TS pv k14 (-1)) => (expr_any C g cap TS pv k14 w' hc).mono fun e w'' hh => both_of hh)
    have HQ := Lib.hid hST
    clear hST
    obtain ⟨b0, b1, b2, b3, _, _, _⟩ := HC.out.cells
    go_upto_region 22 with (fail)
    clear b0 b1 b2 b3
    obtain ⟨d0, d1, d2, d3, g0, g1, g2, g3⟩ := four_free HA1.out
    obtain ⟨x0, x1, x2, x3, x4, x5, x6, y0, y1, y2, y3, y4, y5, y6⟩ := seven_free HB.out
    have hSl14 := HB.out.lt
    have HBS := HB
    go_region_with ((go_at_call 92; (with_reducible refine (HEX.out _ HC.out.drew).mono ?_); rintro e w15 ⟨o7, m7, s7, a7, n7, c7, k15, bad15, rfl, hk15, hc15, ho15, hx15⟩; have hE15 := (HA1.out.only (S := (· = C)) ((Only.refl (· = C) w14).drew) (by omega)).only ho15 (by omega); have hl15 := hE15.lt; obtain ⟨p0, p1, p2, p3, _, _, _, _⟩ := four_free hE15; have hB15 := (HBS.out.only (S := (· = C)) ((Only.refl (· = C) w14).drew) (by omega)).only ho15 (by omega); have hlS15 := hB15.lt; obtain ⟨z0, z1, z2, z3, z4, z5, z6, u0, u1, u2, u3, u4, u5, u6⟩ := seven_free hB15))
    all_goals
      clear p0 p1 p2 p3 z0 z1 z2 z3 z4 z5 z6 u0 u1 u2 u3 u4 u5 u6 d0 d1 d2 d3 g0 g1 g2 g3 x0 x1 x2 x3 x4 x5 x6 y0 y1 y2 y3 y4 y5 y6
      have ho15' : Only (· = C) w14 w15 := ((Only.refl (· = C) w14).drew).trans ho15
      have hs15 := ho15'.size
      have HX15 := Lib.hid hx15
      have HB := Lib.hid hB15
      have HR := Lib.hid (HR.out.only ho15' (by omega))
      have HO := Lib.hid (HO.out.trans ho15')
      have HC := Lib.hid hc15
      have HVX := Lib.hid (fun e ts hh => (HVX.out e ts hh).keep (Keeps.only ho15' (by intro q hq ee; have := hq.1; omega)))
      clear ho15 ho15' hx15 hB15 hc15 hE15 hl15 hlS15
      have hoS : Only (fun b => b = S) w15 (w15.setCell ⟨S, 4, none⟩ (.slice (some ⟨w15.heap.size, 0, none⟩) 2 2)) := (Only.refl (fun b => b = S) w15).setCell (p := ⟨S, 4, none⟩) (.inl rfl) _
      have hszS : (w15.setCell ⟨S, 4, none⟩ (.slice (some ⟨w15.heap.size, 0, none⟩) 2 2)).heap.size = w15.heap.size := by simp [World.setCell]
      have HC := Lib.hid (HC.out.other hoS (by omega) (by omega))
      have HR := Lib.hid (HR.out.only hoS (by omega))
      have HB := Lib.hid (HB.out.set 4 (.slice (some ⟨w15.heap.size, 0, none⟩) 2 2))
      have HO := Lib.hid (HO.out.setCell (p := ⟨S, 4, none⟩) (.inr (show w.heap.size ≤ S by omega)) (.slice (some ⟨w15.heap.size, 0, none⟩) 2 2))
      have HVX := Lib.hid (fun e ts hh => (HVX.out e ts hh).keep (Keeps.only hoS (by intro q hq ee; have := hq.1; omega)))
      have HOS := Lib.hid hoS
      clear hoS
      generalize w15.setCell ⟨S, 4, none⟩ (.slice (some ⟨w15.heap.size, 0, none⟩) 2 2) = wz at *
      have hbK : Below wz.heap.size wz (wz.alloc (.cells #[.int .i64 o, .int .i64 m, .string s, .slice a n c, .int .i64 o7, .int .i64 m7, .string s7, .slice a7 n7 c7] 93)) := (Below.refl _ _).alloc (Nat.le_refl _) _
      have hK := Blk.new wz 93 #[.int .i64 o, .int .i64 m, .string s, .slice a n c, .int .i64 o7, .int .i64 m7, .string s7, .slice a7 n7 c7]
      rw [hszS] at hK
      have HK := Lib.hid hK
      have HVX := Lib.hid (fun e ts hh => (HVX.out e ts hh).keep (Keeps.below hbK (Nat.le_refl _)))
      have HBK := Lib.hid hbK
      clear hK
      have HC := Lib.hid (HC.out.below hbK)
      have HO := Lib.hid (HO.out.trans (Only.of_below hbK))
      have HB := Lib.hid (HB.out.live' hbK)
      have HR := Lib.hid (HR.out.live' hbK)
      clear hbK
      have hKl := HK.out.lt
      generalize wz.alloc (.cells #[.int .i64 o, .int .i64 m, .string s, .slice a n c, .int .i64 o7, .int .i64 m7, .string s7, .slice a7 n7 c7] 93) = wy at *
      generalize hKe : w15.heap.size = K at *
      obtain ⟨x0, x1, x2, x3, x4, x5, x6, _, _, _, _, _, _, _⟩ := seven_free HB.out
      obtain ⟨z0, z1, z2, z3, z4, z5, z6, o0, o1, o2, o3, o4, o5, o6⟩ := seven_free HR.out
      go_wp2_with fail
      refine bodyPost_ret (results_cell_row (p := 4) rfl _ _ R 62 #[.int .i64 5, .int .i64 i1, .string RG, .string s2, .slice (some ⟨K, 0, none⟩) 2 2, .slice none 0 0, .slice none 0 0] (0, 0) _ rfl (put7 HR.out) Try.underlying62 rfl (by kernel_rfl)) rfl ?_
      rw [HU.out]
      refine ⟨_, k15, _, rfl, ⟨_, _, _, _, _, _, _, _, _, _, _, _, _, rfl⟩, by omega, HC.out.put7 (by omega) (by omega) _ _ _ _ _ _ _, Only.put7 HO.out (.inr (show w.heap.size ≤ R by omega)) _ _ _ _ _ _ _, ?_, ?_⟩
      · have hq := HQ.out
        cases h1 : P.pMode (TS.drop (k + 1)) with
        | error p => simp only [on, left, onNeed, h1] at hq; cases hq
        | ok q =>
          obtain ⟨q1, q2⟩ := q
          cases h2 : P.pName q2 with
          | error p => simp only [on, left, onNeed, h1, h2] at hq; cases hq
          | ok r =>
            obtain ⟨r1, r2⟩ := r
            cases h3 : P.pExpr r2 with
            | error p => simp only [on, left, onNeed, h1, h2, h3] at hq; cases hq
            | ok t =>
              obtain ⟨t1, t2⟩ := t
              have h4 : P.need [44] t2 = .ok (TS.drop k14) := by simpa only [on, left, onNeed, h1, h2, h3] using hq
              have hx := HX15.out
              cases h5 : P.pExpr (TS.drop k14) with
              | error p =>
                rw [h5] at hx
                simp only [casF, h1, h2, h3, h4, h5]
                exact hx
              | ok z =>
                obtain ⟨z1, z2⟩ := z
                rw [h5] at hx
                obtain ⟨_, hts, _, hbd⟩ := hx
                simp only [casF, h1, h2, h3, h4, h5]
                exact ⟨hbd, hts⟩
      · intro a' ts ha
        have hq := HQ.out
        cases h1 : P.pMode (TS.drop (k + 1)) with
        | error p => simp only [on, left, onNeed, h1] at hq; cases hq
        | ok q =>
          obtain ⟨q1, q2⟩ := q
          cases h2 : P.pName q2 with
          | error p => simp only [on, left, onNeed, h1, h2] at hq; cases hq
          | ok r =>
            obtain ⟨r1, r2⟩ := r
            cases h3 : P.pExpr r2 with
            | error p => simp only [on, left, onNeed, h1, h2, h3] at hq; cases hq
            | ok t =>
              obtain ⟨t1, t2⟩ := t
              have h4 : P.need [44] t2 = .ok (TS.drop k14) := by simpa only [on, left, onNeed, h1, h2, h3] using hq
              have hx := HX15.out
              cases h5 : P.pExpr (TS.drop k14) with
              | error p =>
                simp only [casF, h1, h2, h3, h4, h5] at ha
                cases ha
              | ok z =>
                obtain ⟨z1, z2⟩ := z
                rw [h5] at hx
                obtain ⟨hy, _, _, _⟩ := hx
                simp only [casF, h1, h2, h3, h4, h5] at ha
                injection ha with ha
                injection ha with ha1 ha2
                subst ha1
                have e1 : Value.int .i64 i1 = .int .i64 (q1 : Nat) := HV1.out q1 q2 h1
                have e2 : Value.string s2 = .string (bs r1) := HV2.out r1 r2 (by simp only [on, left, h1]; exact h2)
                have hLX := HVX.out t1 t2 (by simp only [on, left, h1, h2]; exact h3)
                have hLY := ((LX.mono (Q' := fun q => w11.heap.size ≤ q ∧ q ≠ A) (by intro q hq _; have hq' : w14.heap.size ≤ q := hq; exact ⟨by omega, by omega⟩) _ hy).keep (Keeps.only HOS.out (by intro q hq ee; have := hq.1; omega))).keep (Keeps.below HBK.out (Nat.le_refl _))
                have hP : Only (fun b => b = R) wy (put7w wy R (.int .i64 5) (.int .i64 i1) (.string RG) (.string s2) (.slice (some ⟨K, 0, none⟩) 2 2) (.slice none 0 0) (.slice none 0 0)) := Only.put7 (Only.refl (fun b => b = R) wy) (.inl rfl) _ _ _ _ _ _ _
                have hlx := LX.mono (Q' := From S) (by intro q hq _; have := hq.1; show S ≤ q; omega) _ (hLX.keep (Keeps.only hP (by intro q hq ee; have := hq.1; omega)))
                have hly := LX.mono (Q' := From S) (by intro q hq _; have := hq.1; show S ≤ q; omega) _ (hLY.keep (Keeps.only hP (by intro q hq ee; have := hq.1; omega)))
                have hKf := HK.out.only hP (by omega)
                rw [← HRG.out, e1, e2] at hKf hlx hly ⊢
                unfold LS
                exact ⟨_, _, _, _, _, _, rfl, show 2 ≤ maxLen by decide, Nat.zero_le _, Nat.zero_le _, .inr ⟨K, 0, rfl, show S ≤ K by omega, lxs_two hKf hlx hly⟩, .inl rfl, .inl rfl⟩
/-- right, of a cursor that goes on: by the plain parser's. -/
theorem right_live (C g cap : Nat) (TS : List Tok) (pv : Value) (k : Nat) (rg : List UInt8) (w : World) (h : Cur w C g cap TS pv k (-1)) :
    Calls Try.prog 93 #[.pointer (some ⟨C, 0, none⟩), .agg #[.int .i64 0, .int .i64 0, .string (bs rg), .string ⟨#[]⟩, .slice none 0 0, .slice none 0 0, .slice none 0 0]] w (TotTo (LS (From w.heap.size)) AnyS C g cap TS pv k (P.rightF rg (TS.drop k)) w) := by
  cases hl : P.isS [108, 111, 97, 100] (TS.drop k) with
  | true => exact right_load C g cap TS pv k rg w h hl
  | false =>
    cases ha : P.isS [97, 100, 100] (TS.drop k) with
    | true => exact right_add C g cap TS pv k rg w h hl ha
    | false =>
      cases hc : P.isS [99, 97, 115] (TS.drop k) with
      | true => exact right_cas C g cap TS pv k rg w h hl ha hc
      | false => exact right_set C g cap TS pv k rg w h hl ha hc
end Go.Proofs.Ytikihomablmcnaa.Lx
