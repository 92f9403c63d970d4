/-
  What the loops of the document's program keep.
-/
import Derived.Test.YtikihomablmcnaaQBlock
import Derived.Test.YtikihomablmcnaaDP
namespace Go.Proofs.Ytikihomablmcnaa.Lx
open Go.RowKit
open L (Tok)
open P (EX CO ST PG Gl nextR)
set_option maxRecDepth 100000
set_option linter.unusedVariables false
set_option linter.unusedSimpArgs false
section
variable {α : Type} (sz : Nat) (mk : List Value → Value) (Val : (Nat → Prop) → World → Value → α → Prop)
/-- What many's loop keeps. -/
structure Mb (ty : TypeId) (B : Nat) (tot : List Tok → P.Res (List α × List Nat)) (C g cap base : Nat) (TS : List Tok) (pv : Value) (ps : List Nat) (st : Sta) (w : World) (l : Value) (wr : World) (pvj : Value) (psj : List Nat) (m : Nat) (vals : List Value) (r : P.Res (List α × List Nat)) : Prop where
  own : wr.ownsRow w.heap.size ty sz l m vals
  dc : Cs wr C g cap TS pvj (left r)
  pl : OwnP wr base pvj psj
  bound : psj.length + slen (left r) ≤ ps.length + slen st
  cnt : m + slen (left r) ≤ slen st
  only : Only (fun b => Pb C pv b ∨ b = B) w wr
  fr : Fr pv pvj w.heap.size
  sum : on st tot = Gl tot r
  live : ∀ es qs ts, r = .ok ((es, qs), ts) → psj = ps ++ qs ∧ m = es.length ∧ RowsV sz mk Val (fun b => w.heap.size ≤ b ∧ pvj.ownBlock ≠ some b ∧ l.ownBlock ≠ some b) wr vals es
end
section
variable {α : Type} {sz : Nat} {mk : List Value → Value} {Val : (Nat → Prop) → World → Value → α → Prop} {ty : TypeId} {B : Nat} {tot : List Tok → P.Res (List α × List Nat)} {C g cap base : Nat} {TS : List Tok} {pv : Value} {ps : List Nat} {st : Sta} {w : World}
theorem Mb.step (hV : StepV Val) (hty : ty ≠ 3) {l : Value} {wr : World} {pvj : Value} {psj : List Nat} {m : Nat} {vals : List Value} {es : List α} {qs : List Nat} {ts : List Tok} (hCl : C < w.heap.size) (hgl : g < w.heap.size)
    (h : Mb sz mk Val ty B tot C g cap base TS pv ps st w l wr pvj psj m vals (.ok ((es, qs), ts))) {one : P.Res (α × List Nat)} (hm : tot ts = P.moreR tot one) (hl : ∀ a r, one = .ok (a, r) → r.length < ts.length)
    {w1 : World} {pv1 : Value} {ps1 : List Nat} {cs : List Value} (hcs : cs.length = sz) (hd1 : Cs w1 C g cap TS pv1 (left one)) (hp1 : OwnP w1 base pv1 ps1) (hb1 : ps1.length + slen (left one) ≤ psj.length + ts.length) (ho1 : Only (Pb C pvj) wr w1) (hf1 : Fr pvj pv1 wr.heap.size)
    (hv1 : ∀ a q t2, one = .ok ((a, q), t2) → ps1 = psj ++ q ∧ Val (Nw wr.heap.size pv1) w1 (mk cs) a)
    {w2 : World} {o : Obj} {g2 cap2 : Nat} (hgr : (w1.alloc o).grownBy w2 l.ownBlock) (how : w2.ownsRow w.heap.size ty sz (.slice (some ⟨g2, 0, none⟩) (m + 1) cap2) (m + 1) (vals ++ cs)) (hat : l.ownBlock = some g2 ∨ g2 = w1.heap.size + 1) :
    Mb sz mk Val ty B tot C g cap base TS pv ps st w (.slice (some ⟨g2, 0, none⟩) (m + 1) cap2) w2 pv1 ps1 (m + 1) (vals ++ cs) (nextR es qs one) ∧ slen (left (nextR es qs one)) < ts.length := by
  have hlive : 0 < ts.length := h.dc.live
  have hlt : slen (left one) < ts.length := by
    rcases hone : one with p | ⟨a, r⟩
    · exact hlive
    · exact hl a r hone
  have hs1 := ho1.size
  have hs0 := h.only.size
  have hLb : ∀ k, l.ownBlock = some k → w.heap.size ≤ k ∧ k < wr.heap.size := fun k hk => h.own.lt k hk
  have hLp := own_types h.own h.pl hty
  have hO2 : Only (fun b => l.ownBlock = some b) w1 w2 := ((Only.refl _ w1).alloc o).grown' hgr (fun k hk => .inl hk)
  have hF1 : Fr pv pv1 w.heap.size := h.fr.trans hf1 hs0
  have hO1 : Only (fun b => Pb C pv b ∨ b = B) w w1 := h.only.then ho1 (fun j hj => by
    rcases hj with hj | hj
    · exact .inl (.inl (.inl hj))
    · rcases h.fr j hj with h1 | h1
      · exact .inl (.inl (.inr h1))
      · exact .inr h1)
  have hp1n : ∀ k, l.ownBlock = some k → pv1.ownBlock ≠ some k := fun k hk e => by
    rcases hf1 k e with h1 | h1
    · exact hLp k hk h1
    · have := (hLb k hk).2
      omega
  refine ⟨⟨how, ?_, ?_, ?_, ?_, ?_, hF1, ?_, ?_⟩, by rw [left_next]; exact hlt⟩
  · rw [left_next]
    exact hd1.other hO2 (fun e => by have := (hLb C e).1; omega) (fun e => by have := (hLb g e).1; omega)
  · exact own_only hp1 hO2 (fun k hk e => hp1n k e hk)
  · rw [left_next]
    have := h.bound
    have e : slen (left (.ok ((es, qs), ts) : P.Res (List α × List Nat))) = ts.length := rfl
    omega
  · rw [left_next]
    have := h.cnt
    have e : slen (left (.ok ((es, qs), ts) : P.Res (List α × List Nat))) = ts.length := rfl
    omega
  · exact hO1.then hO2 (fun j hj => .inr (hLb j hj).1)
  · rw [h.sum]
    exact P.Gl_next hm es qs
  · intro es' qs' ts' hh
    rcases hone : one with p | ⟨⟨a, q⟩, r⟩
    · rw [hone] at hh
      cases hh
    · rw [hone] at hh
      cases hh
      obtain ⟨e1, e2, e3⟩ := h.live es qs ts rfl
      obtain ⟨e4, e5⟩ := hv1 a q _ hone
      refine ⟨by rw [e4, e1, List.append_assoc], by simp [e2], ?_⟩
      have hsame : ∀ b, b < w1.heap.size → l.ownBlock ≠ some b → w2.heap[b]? = w1.heap[b]? := fun b hb hn => hO2.block b hb hn
      have hnew : ∀ b, b < w1.heap.size → l.ownBlock ≠ some b → (Value.slice (some ⟨g2, 0, none⟩) (m + 1) cap2).ownBlock ≠ some b := fun b hb hn e => by
        have e' : g2 = b := by injection e
        subst e'
        rcases hat with h1 | h1
        · exact hn h1
        · omega
      refine RowsV.snoc sz mk Val hcs (hV ?_ e5) es vals (RowsV.step sz mk Val hV ?_ es vals e3)
      · intro b hb hl2
        have hbl : l.ownBlock ≠ some b := fun e => by have := (hLb b e).2; have := hb.1; omega
        exact ⟨⟨by have := hb.1; omega, hb.2, hnew b hl2 hbl⟩, hsame b hl2 hbl⟩
      · intro b hb hl2
        obtain ⟨b1, b2, b3⟩ := hb
        have hb4 : b < w1.heap.size := by omega
        refine ⟨⟨b1, fun e => ?_, hnew b hb4 b3⟩, (hsame b hb4 b3).trans (ho1.block b hl2 ?_)⟩
        · rcases hf1 b e with h1 | h1
          · exact b2 h1
          · omega
        · rintro (e | e)
          · omega
          · exact b2 e
end
theorem Mb.isEs {B : Nat} {tot : List Tok → P.Res (List CE × List Nat)} {C g cap base : Nat} {TS : List Tok} {pv : Value} {ps : List Nat} {st : Sta} {w : World} {l : Value} {wr : World} {pvj : Value} {psj : List Nat} {m : Nat} {vals : List Value} {es : List CE} {qs : List Nat} {ts : List Tok}
    (h : Mb 2 agg LE 68 B tot C g cap base TS pv ps st w l wr pvj psj m vals (.ok ((es, qs), ts))) : IsEs (Nw w.heap.size pvj) wr l es := by
  obtain ⟨h1, rfl, h3⟩ := h.live es qs ts rfl
  have hm := own_max h.own
  by_cases h0 : es = []
  · obtain ⟨a, c, rfl⟩ := slice_of_own h.own
    exact ⟨a, c, rfl, hm, .inl h0⟩
  · obtain ⟨gl, cap2, rfl, hgb, hgl⟩ := h.own.form (by cases es with
      | nil => exact absurd rfl h0
      | cons x xs => simp)
    refine ⟨_, cap2, rfl, hm, .inr ⟨gl, 0, rfl, ⟨hgb, own_types h.own h.pl (by decide) gl rfl⟩, ?_⟩⟩
    exact rowsE es vals 0 h3 (own_cells h.own)
theorem Mb.isTs {B : Nat} {tot : List Tok → P.Res (List (List ST) × List Nat)} {C g cap base : Nat} {TS : List Tok} {pv : Value} {ps : List Nat} {st : Sta} {w : World} {l : Value} {wr : World} {pvj : Value} {psj : List Nat} {m : Nat} {vals : List Value} {es : List (List ST)} {qs : List Nat} {ts : List Tok}
    (h : Mb 1 hd1 IsSs 56 B tot C g cap base TS pv ps st w l wr pvj psj m vals (.ok ((es, qs), ts))) : IsTs (Nw w.heap.size pvj) wr l es := by
  obtain ⟨h1, rfl, h3⟩ := h.live es qs ts rfl
  have hm := own_max h.own
  by_cases h0 : es = []
  · obtain ⟨a, c, rfl⟩ := slice_of_own h.own
    exact ⟨a, c, rfl, hm, .inl h0⟩
  · obtain ⟨gl, cap2, rfl, hgb, hgl⟩ := h.own.form (by cases es with
      | nil => exact absurd rfl h0
      | cons x xs => simp)
    refine ⟨_, cap2, rfl, hm, .inr ⟨gl, 0, rfl, ⟨hgb, own_types h.own h.pl (by decide) gl rfl⟩, ?_⟩⟩
    exact LTs.mono (fun b hb _ => ⟨hb.1, hb.2.1⟩) (rowsT es vals 0 h3 (own_cells h.own))
section
variable {α : Type} {sz : Nat} {mk : List Value → Value} {Val : (Nat → Prop) → World → Value → α → Prop} {ty : TypeId} {B : Nat} {tot : List Tok → P.Res (List α × List Nat)} {C g cap base : Nat} {TS : List Tok} {pv : Value} {ps : List Nat} {st : Sta} {w : World}
theorem Mb.start (h : Cs w C g cap TS pv st) (hp : OwnP w base pv ps) : Mb sz mk Val ty B tot C g cap base TS pv ps st w (.slice none 0 0) w pv ps 0 [] (startR st) := by
  rcases st with q | ts
  · refine ⟨World.ownsRow_nil _ _ _ _, h, hp, Nat.le_refl _, Nat.zero_le _, Only.refl _ _, Fr.refl _ _, rfl, fun _ _ _ hh => by cases hh⟩
  · refine ⟨World.ownsRow_nil _ _ _ _, h, hp, Nat.le_refl _, by rw [Nat.zero_add]; exact Nat.le_refl _, Only.refl _ _, Fr.refl _ _, (P.glue_nil _).symm, fun es qs r hh => ?_⟩
    cases hh
    exact ⟨by simp, rfl, rfl⟩
/-- What is kept goes on where only B has turned. -/
theorem Mb.far (hV : StepV Val) {l : Value} {wr : World} {pvj : Value} {psj : List Nat} {m : Nat} {vals : List Value} {r : P.Res (List α × List Nat)} (h : Mb sz mk Val ty B tot C g cap base TS pv ps st w l wr pvj psj m vals r) (hB : B < w.heap.size) (hBC : B ≠ C) (hBg : B ≠ g) (hBp : pvj.ownBlock ≠ some B) {w' : World} (ho : Only (fun b => b = B) wr w') :
    Mb sz mk Val ty B tot C g cap base TS pv ps st w l w' pvj psj m vals r := by
  have hl : ∀ k, l.ownBlock = some k → ¬ k = B := fun k hk e => by have := (h.own.lt k hk).1; omega
  refine ⟨own_only h.own ho hl, h.dc.other ho (fun e => hBC e.symm) (fun e => hBg e.symm), own_only h.pl ho (fun k hk e => hBp (e ▸ hk)), h.bound, h.cnt, h.only.then ho (fun j hj => .inl (.inr hj)), h.fr, h.sum, fun es qs ts hh => ?_⟩
  obtain ⟨h1, h2, h3⟩ := h.live es qs ts hh
  exact ⟨h1, h2, RowsV.step sz mk Val hV (fun b hb hl => ⟨hb, ho.block b hl (by have := hb.1; omega)⟩) _ _ h3⟩
/-- And where nothing old has turned. -/
theorem Mb.below (hV : StepV Val) {l : Value} {wr : World} {pvj : Value} {psj : List Nat} {m : Nat} {vals : List Value} {r : P.Res (List α × List Nat)} (h : Mb sz mk Val ty B tot C g cap base TS pv ps st w l wr pvj psj m vals r) {w' : World} (hb : Below wr.heap.size wr w') :
    Mb sz mk Val ty B tot C g cap base TS pv ps st w l w' pvj psj m vals r := by
  refine ⟨own_below h.own hb, h.dc.below hb, own_below h.pl hb, h.bound, h.cnt, h.only.then (S' := fun _ => False) (Only.of_below hb) (fun _ e => e.elim), h.fr, h.sum, fun es qs ts hh => ?_⟩
  obtain ⟨h1, h2, h3⟩ := h.live es qs ts hh
  exact ⟨h1, h2, RowsV.step sz mk Val hV (fun b hb' hl => ⟨hb', hb.block b hl⟩) _ _ h3⟩
/-- What lay before lies there still. -/
theorem Mb.same {l : Value} {wr : World} {pvj : Value} {psj : List Nat} {m : Nat} {vals : List Value} {r : P.Res (List α × List Nat)} (h : Mb sz mk Val ty B tot C g cap base TS pv ps st w l wr pvj psj m vals r) {n R : Nat} (hC : C < n) : Same (NwB n pv B R) (NwB n pvj B R) w wr := by
  intro b hb hl
  obtain ⟨h1, h2, h3, h4⟩ := hb
  refine ⟨⟨h1, fun e => ?_, h3, h4⟩, h.only.block b hl ?_⟩
  · rcases h.fr b e with h | h
    · exact h2 h
    · omega
  · rintro ((e | e) | e)
    · omega
    · exact h2 e
    · exact h3 e
theorem Cq.loop {w0 : World} {pv0 : Value} {ps0 : List Nat} {st0 : Sta} {l : Value} {wr : World} {pvj : Value} {psj : List Nat} {m : Nat} {vals : List Value} {r : P.Res (List α × List Nat)} (h : Cq w0 w C g cap base TS pv0 pv ps0 st0) (hM : Mb sz mk Val ty B tot C g cap base TS pv ps st w l wr pvj psj m vals r) (hB : w0.heap.size ≤ B) : Cq w0 wr C g cap base TS pv0 pvj psj (left r) :=
  ⟨hM.dc, hM.pl, h.only.then hM.only (fun j hj => by
    rcases hj with (e | e) | e
    · exact .inl (.inl e)
    · rcases h.fr j e with h1 | h1
      · exact .inl (.inr h1)
      · exact .inr h1
    · exact .inr (by omega)), h.fr.trans hM.fr h.only.size⟩
end
theorem Cs.drewN' {w : World} {C g cap : Nat} {TS : List Tok} {pv : Value} {st : Sta} (h : Cs w C g cap TS pv st) (n : Nat) : Cs (w.drewN n) C g cap TS pv st := by
  obtain ⟨k, bad, h1, h2⟩ := h
  exact ⟨k, bad, h1.drewN n, h2⟩
theorem ask_need {st : Sta} (h : onIs [102, 111, 114, 97, 108, 108] st = false) : left (on st P.askF) = onNeed [101, 120, 105, 115, 116, 115] st ∧ ∀ k r, on st P.askF = .ok (k, r) → 1 = k := by
  rcases st with q | ts
  · exact ⟨rfl, fun _ _ h => by cases h⟩
  · have h' : P.isS [102, 111, 114, 97, 108, 108] ts = false := h
    simp only [on, P.askF, h', Bool.false_eq_true, if_false, onNeed]
    cases P.need [101, 120, 105, 115, 116, 115] ts with
    | error p => exact ⟨rfl, fun _ _ h => by cases h⟩
    | ok r => exact ⟨rfl, fun _ _ h => by cases h; rfl⟩
def WrongC (C : Nat) (pv : Value) (p : Nat) (w : World) (e : Ending) (w' : World) : Prop := e = .returned (.tuple #[]) ∧ (∃ y : Value × Value, Blk w' C 65 #[y.1, y.2, .int .i64 (p : Nat), pv]) ∧ Only (· = C) w w'
theorem wrong_c (C g cap : Nat) (TS : List Tok) (pv : Value) (ts : List Tok) (w : World) (h : Cs w C g cap TS pv (.ok ts)) :
    Calls Try.prog 40 #[.pointer (some ⟨C, 0, none⟩)] w (WrongC C pv (P.here ts) w) := by
  obtain ⟨k, bad, h1, rfl, rfl⟩ := h
  refine (wrong_live C g cap TS pv k w h1).mono ?_
  rintro e w' ⟨rfl, hc, ho⟩
  exact ⟨rfl, ⟨(_, _), hc.blk⟩, ho⟩
theorem two_free' {w : World} {g : Nat} {t : TypeId} {a b : Value} (hh : Blk w g t #[a, b]) : w.cell? ⟨g, 0, none⟩ = some a ∧ w.cell? ⟨g, 1, none⟩ = some b ∧ w.frozen? ⟨g, 0, none⟩ = false ∧ w.frozen? ⟨g, 1, none⟩ = false := ⟨hh.cell 0, hh.cell 1, hh.free 0, hh.free 1⟩
end Go.Proofs.Ytikihomablmcnaa.Lx
