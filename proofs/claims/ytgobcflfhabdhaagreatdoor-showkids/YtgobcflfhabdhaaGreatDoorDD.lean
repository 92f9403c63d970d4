/-
  One after the other, with places: what the loop of many keeps, whatever is read.
-/
import Derived.Test.YtgobcflfhabdhaaGreatDoorDPart
import Derived.Test.YtgobcflfhabdhaaGreatDoorPA
import Derived.Test.YtgobcflfhabdhaaGreatDoorPE
import Derived.Test.YtgobcflfhabdhaaGreatDoorDB
namespace Go.Proofs.YtgobcflfhabdhaaGreatDoor.Lx
open Go.RowKit
open L (Tok)
open P (EX CO ST Gl nextR)
set_option maxRecDepth 100000
set_option linter.unusedVariables false
set_option linter.unusedSimpArgs false
theorem Only.then {S S' : Nat → Prop} {a b c : World} (h : Only S a b) (k : Only S' b c) (hs : ∀ j, S' j → S j ∨ a.heap.size ≤ j) : Only S a c :=
  ⟨k.os.trans h.os, k.tape.trans h.tape, k.output.trans h.output, Nat.le_trans h.size k.size, fun j hj hn => (k.block j (Nat.lt_of_lt_of_le hj h.size) (fun e => by
    rcases hs j e with h1 | h1
    · exact hn h1
    · omega)).trans (h.block j hj hn)⟩
theorem own_only {w w' : World} {S : Nat → Prop} {base : Nat} {t : TypeId} {size n : Nat} {v : Value} {xs : List Value} (h : w.ownsRow base t size v n xs) (ho : Only S w w') (hS : ∀ k, v.ownBlock = some k → ¬ S k) : w'.ownsRow base t size v n xs := by
  refine ⟨h.1, ?_⟩
  rcases h.2 with h2 | ⟨g, cap, cur, rfl, hg, hh, hr⟩
  · exact .inl h2
  · exact .inr ⟨g, cap, cur, rfl, hg, (ho.block g (lt_of_block hh) (hS g rfl)).trans hh, hr⟩
theorem own_types {w : World} {base base' : Nat} {t t' : TypeId} {size size' n n' : Nat} {v v' : Value} {xs xs' : List Value} (h : w.ownsRow base t size v n xs) (h' : w.ownsRow base' t' size' v' n' xs') (hne : t ≠ t') : ∀ k, v.ownBlock = some k → v'.ownBlock ≠ some k := by
  intro k hk hk'
  rcases h.2 with ⟨rfl, _⟩ | ⟨g, cap, cur, rfl, hg, hh, _⟩
  · cases hk
  · rcases h'.2 with ⟨rfl, _⟩ | ⟨g', cap', cur', rfl, hg', hh', _⟩
    · cases hk'
    · cases hk
      cases hk'
      have := hh.symm.trans hh'
      injection this with this
      injection this with _ this
      exact hne this
/-- New since n, and not where the places lie. -/
def Nw (n : Nat) (pv : Value) (b : Nat) : Prop := n ≤ b ∧ pv.ownBlock ≠ some b
/-- What is kept of values, from blocks to blocks. -/
def Same (Q Q' : Nat → Prop) (w w' : World) : Prop := ∀ b, Q b → b < w.heap.size → Q' b ∧ w'.heap[b]? = w.heap[b]?
def StepV {α : Type} (Val : (Nat → Prop) → World → Value → α → Prop) : Prop := ∀ {Q Q' : Nat → Prop} {w w' : World}, Same Q Q' w w' → ∀ {v a}, Val Q w v a → Val Q' w' v a
theorem LX.step {Q Q' : Nat → Prop} {w w' : World} (h : Same Q Q' w w') {v : Value} {e : EX} (hv : LX Q w v e) : LX Q' w' v e := by
  have h1 := LX.mono (Q' := fun b => Q' b ∧ w'.heap[b]? = w.heap[b]?) (fun b hb hl => h b hb hl) e hv
  have h2 := h1.keep (w' := w') (fun b hb hl => hb.2)
  exact LX.mono (fun b hb _ => hb.1) e h2
theorem LS.step {Q Q' : Nat → Prop} {w w' : World} (h : Same Q Q' w w') {v : Value} {e : ST} (hv : LS Q w v e) : LS Q' w' v e := by
  have h1 := LS.mono (Q' := fun b => Q' b ∧ w'.heap[b]? = w.heap[b]?) (fun b hb hl => h b hb hl) e hv
  have h2 := LS.keep (w' := w') (fun b hb hl => hb.2) e h1
  exact LS.mono (fun b hb _ => hb.1) e h2
theorem LSs.step {Q Q' : Nat → Prop} {w w' : World} (h : Same Q Q' w w') {g off : Nat} {es : List ST} (hg : Q g) (hne : es ≠ []) (hv : LSs Q w g off es) : Q' g ∧ LSs Q' w' g off es := by
  have hl : g < w.heap.size := by
    cases es with
    | nil => exact absurd rfl hne
    | cons x xs => exact lss_lt hv
  have h1 := LSs.mono (Q' := fun b => Q' b ∧ w'.heap[b]? = w.heap[b]?) (fun b hb hl => h b hb hl) es hv
  have h2 := LSs.keep (w' := w') (fun b hb hl => hb.2) es (h g hg hl) h1
  exact ⟨(h g hg hl).1, LSs.mono (fun b hb _ => hb.1) es h2⟩
/-- A slice of statements. -/
def IsSs (Q : Nat → Prop) (w : World) (v : Value) (es : List ST) : Prop := ∃ a c, v = .slice a es.length c ∧ es.length ≤ maxLen ∧ (es = [] ∨ ∃ g off, a = some ⟨g, off, none⟩ ∧ Q g ∧ LSs Q w g off es)
theorem IsSs.step {Q Q' : Nat → Prop} {w w' : World} (h : Same Q Q' w w') {v : Value} {es : List ST} (hv : IsSs Q w v es) : IsSs Q' w' v es := by
  obtain ⟨a, c, rfl, hm, hr⟩ := hv
  refine ⟨a, c, rfl, hm, ?_⟩
  by_cases hne : es = []
  · exact .inl hne
  · rcases hr with h1 | ⟨g, off, rfl, hg, hs⟩
    · exact .inl h1
    · obtain ⟨h1, h2⟩ := LSs.step h hg hne hs
      exact .inr ⟨g, off, rfl, h1, h2⟩
/-- A reader's answer that keeps places. -/
def PtD {α : Type} (Val : (Nat → Prop) → World → Value → α → Prop) (Any : World → Value → Prop) (C g base : Nat) (TS : List Tok) (pv : Value) (ps : List Nat) (k : Nat) (r : P.Res (α × List Nat)) (w : World) (e : Ending) (w' : World) : Prop :=
  ∃ v pv' ps', e = .returned v ∧ Any w' v ∧ Dc w' C g TS pv' (left r) ∧ OwnP w' base pv' ps' ∧ ps'.length + slen (left r) ≤ ps.length + k ∧ Only (Pb C pv) w w' ∧ Fr pv pv' w.heap.size ∧ ∀ a qs ts, r = .ok ((a, qs), ts) → ps' = ps ++ qs ∧ Val (Nw w.heap.size pv') w' v a
section
variable {α : Type} (sz : Nat) (mk : List Value → Value) (Val : (Nat → Prop) → World → Value → α → Prop)
def RowsV (Q : Nat → Prop) (w : World) : List Value → List α → Prop
  | vals, [] => vals = []
  | vals, a :: es => ∃ cs rest, vals = cs ++ rest ∧ cs.length = sz ∧ Val Q w (mk cs) a ∧ RowsV Q w rest es
theorem RowsV.snoc {Q : Nat → Prop} {w : World} {cs : List Value} {a : α} (hc : cs.length = sz) (ha : Val Q w (mk cs) a) : ∀ (es : List α) (vals : List Value), RowsV sz mk Val Q w vals es → RowsV sz mk Val Q w (vals ++ cs) (es ++ [a])
  | [], vals, h => by
    have : vals = [] := h
    subst this
    exact ⟨cs, [], by simp, hc, ha, rfl⟩
  | e :: es, vals, h => by
    obtain ⟨c1, rest, rfl, h1, h2, h3⟩ := h
    exact ⟨c1, rest ++ cs, by simp, h1, h2, RowsV.snoc hc ha es rest h3⟩
theorem RowsV.step (hV : StepV Val) {Q Q' : Nat → Prop} {w w' : World} (h : Same Q Q' w w') : ∀ (es : List α) (vals : List Value), RowsV sz mk Val Q w vals es → RowsV sz mk Val Q' w' vals es
  | [], vals, hr => hr
  | e :: es, vals, hr => by
    obtain ⟨c1, rest, rfl, h1, h2, h3⟩ := hr
    exact ⟨c1, rest, rfl, h1, hV h h2, RowsV.step hV h es rest h3⟩
/-- What many's loop keeps. -/
structure Mn (ty : TypeId) (tot : List Tok → P.Res (List α × List Nat)) (C g base : Nat) (TS : List Tok) (pv : Value) (ps : List Nat) (st : Sta) (w : World) (l : Value) (wr : World) (pvj : Value) (psj : List Nat) (m : Nat) (vals : List Value) (r : P.Res (List α × List Nat)) : Prop where
  own : wr.ownsRow w.heap.size ty sz l m vals
  dc : Dc wr C g TS pvj (left r)
  pl : OwnP wr base pvj psj
  bound : psj.length + slen (left r) ≤ ps.length + slen st
  cnt : m + slen (left r) ≤ slen st
  only : Only (Pb C pv) w wr
  fr : Fr pv pvj w.heap.size
  sum : on st tot = Gl tot r
  live : ∀ es qs ts, r = .ok ((es, qs), ts) → psj = ps ++ qs ∧ m = es.length ∧ RowsV sz mk Val (fun b => w.heap.size ≤ b ∧ pvj.ownBlock ≠ some b ∧ l.ownBlock ≠ some b) wr vals es
end
section
variable {α : Type} {sz : Nat} {mk : List Value → Value} {Val : (Nat → Prop) → World → Value → α → Prop} {ty : TypeId} {tot : List Tok → P.Res (List α × List Nat)} {C g base : Nat} {TS : List Tok} {pv : Value} {ps : List Nat} {st : Sta} {w : World}
def startR {α : Type} : Sta → P.Res (List α × List Nat)
  | .ok ts => .ok (([], []), ts)
  | .error q => .error q
theorem Mn.start (h : Dc w C g TS pv st) (hp : OwnP w base pv ps) : Mn sz mk Val ty tot C g base TS pv ps st w (.slice none 0 0) w pv ps 0 [] (startR st) := by
  rcases st with q | ts
  · refine ⟨World.ownsRow_nil _ _ _ _, h, hp, Nat.le_refl _, Nat.zero_le _, Only.refl _ _, Fr.refl _ _, rfl, fun _ _ _ hh => by cases hh⟩
  · refine ⟨World.ownsRow_nil _ _ _ _, h, hp, Nat.le_refl _, by rw [Nat.zero_add]; exact Nat.le_refl _, Only.refl _ _, Fr.refl _ _, (P.glue_nil _).symm, fun es qs r hh => ?_⟩
    cases hh
    exact ⟨by simp, rfl, rfl⟩
theorem left_next (es : List α) (qs : List Nat) (x : P.Res (α × List Nat)) : left (nextR es qs x) = left x := by
  rcases x with p | ⟨⟨a, q⟩, r⟩ <;> rfl
theorem Mn.step (hV : StepV Val) (hty : ty ≠ 3) {l : Value} {wr : World} {pvj : Value} {psj : List Nat} {m : Nat} {vals : List Value} {es : List α} {qs : List Nat} {ts : List Tok} (hCl : C < w.heap.size) (hgl : g < w.heap.size)
    (h : Mn sz mk Val ty tot C g base TS pv ps st w l wr pvj psj m vals (.ok ((es, qs), ts))) {one : P.Res (α × List Nat)} (hm : tot ts = P.moreR tot one) (hl : ∀ a r, one = .ok (a, r) → r.length < ts.length)
    {w1 : World} {pv1 : Value} {ps1 : List Nat} {cs : List Value} (hcs : cs.length = sz) (hd1 : Dc w1 C g TS pv1 (left one)) (hp1 : OwnP w1 base pv1 ps1) (hb1 : ps1.length + slen (left one) ≤ psj.length + ts.length) (ho1 : Only (Pb C pvj) wr w1) (hf1 : Fr pvj pv1 wr.heap.size)
    (hv1 : ∀ a q t2, one = .ok ((a, q), t2) → ps1 = psj ++ q ∧ Val (Nw wr.heap.size pv1) w1 (mk cs) a)
    {w2 : World} {o : Obj} {g2 cap : Nat} (hgr : (w1.alloc o).grownBy w2 l.ownBlock) (how : w2.ownsRow w.heap.size ty sz (.slice (some ⟨g2, 0, none⟩) (m + 1) cap) (m + 1) (vals ++ cs)) (hat : l.ownBlock = some g2 ∨ g2 = w1.heap.size + 1) :
    Mn sz mk Val ty tot C g base TS pv ps st w (.slice (some ⟨g2, 0, none⟩) (m + 1) cap) w2 pv1 ps1 (m + 1) (vals ++ cs) (nextR es qs one) ∧ slen (left (nextR es qs one)) < ts.length := by
  have hlive : 0 < ts.length := h.dc.live
  have hlt : slen (left one) < ts.length := by
    rcases hone : one with p | ⟨a, r⟩
    · exact hlive
    · exact hl a r hone
  have hs1 := ho1.size
  have hs0 := h.only.size
  have hLb : ∀ k, l.ownBlock = some k → w.heap.size ≤ k ∧ k < wr.heap.size := fun k hk => h.own.lt k hk
  have hLp := own_types h.own h.pl hty
  have hO2 : Only (fun b => l.ownBlock = some b) w1 w2 := ((Only.refl _ w1).alloc o).grown' hgr (fun k hk => .inl hk)
  have hF1 : Fr pv pv1 w.heap.size := h.fr.trans hf1 hs0
  have hO1 : Only (Pb C pv) w w1 := h.only.then ho1 (fun j hj => by
    rcases hj with hj | hj
    · exact .inl (.inl hj)
    · rcases h.fr j hj with h1 | h1
      · exact .inl (.inr h1)
      · exact .inr h1)
  have hp1n : ∀ k, l.ownBlock = some k → pv1.ownBlock ≠ some k := fun k hk e => by
    rcases hf1 k e with h1 | h1
    · exact hLp k hk h1
    · have := (hLb k hk).2
      omega
  refine ⟨⟨how, ?_, ?_, ?_, ?_, ?_, hF1, ?_, ?_⟩, by rw [left_next]; exact hlt⟩
  · rw [left_next]
    exact hd1.other hO2 (fun e => by have := (hLb C e).1; omega) (fun e => by have := (hLb g e).1; omega)
  · exact own_only hp1 hO2 (fun k hk e => hp1n k e hk)
  · rw [left_next]
    have := h.bound
    have e : slen (left (.ok ((es, qs), ts) : P.Res (List α × List Nat))) = ts.length := rfl
    omega
  · rw [left_next]
    have := h.cnt
    have e : slen (left (.ok ((es, qs), ts) : P.Res (List α × List Nat))) = ts.length := rfl
    omega
  · exact hO1.then hO2 (fun j hj => .inr (hLb j hj).1)
  · rw [h.sum]
    exact P.Gl_next hm es qs
  · intro es' qs' ts' hh
    rcases hone : one with p | ⟨⟨a, q⟩, r⟩
    · rw [hone] at hh
      cases hh
    · rw [hone] at hh
      cases hh
      obtain ⟨e1, e2, e3⟩ := h.live es qs ts rfl
      obtain ⟨e4, e5⟩ := hv1 a q _ hone
      refine ⟨by rw [e4, e1, List.append_assoc], by simp [e2], ?_⟩
      have hsame : ∀ b, b < w1.heap.size → l.ownBlock ≠ some b → w2.heap[b]? = w1.heap[b]? := fun b hb hn => hO2.block b hb hn
      have hnew : ∀ b, b < w1.heap.size → l.ownBlock ≠ some b → (Value.slice (some ⟨g2, 0, none⟩) (m + 1) cap).ownBlock ≠ some b := fun b hb hn e => by
        have e' : g2 = b := by injection e
        subst e'
        rcases hat with h1 | h1
        · exact hn h1
        · omega
      refine RowsV.snoc sz mk Val hcs (hV ?_ e5) es vals (RowsV.step sz mk Val hV ?_ es vals e3)
      · intro b hb hl2
        have hbl : l.ownBlock ≠ some b := fun e => by have := (hLb b e).2; have := hb.1; omega
        exact ⟨⟨by have := hb.1; omega, hb.2, hnew b hl2 hbl⟩, hsame b hl2 hbl⟩
      · intro b hb hl2
        obtain ⟨b1, b2, b3⟩ := hb
        have hb4 : b < w1.heap.size := by omega
        refine ⟨⟨b1, fun e => ?_, hnew b hb4 b3⟩, (hsame b hb4 b3).trans (ho1.block b hl2 ?_)⟩
        · rcases hf1 b e with h1 | h1
          · exact b2 h1
          · omega
        · rintro (e | e)
          · omega
          · exact b2 e
end
end Go.Proofs.YtgobcflfhabdhaaGreatDoor.Lx
/-
  access of the developers' cursor: a contract.
-/
namespace Go.Proofs.YtgobcflfhabdhaaGreatDoor.Lx
open Go.RowKit
open L (Tok)
open P (EX CO ST)
set_option maxRecDepth 100000
set_option linter.unusedVariables false
set_option linter.unusedSimpArgs false
/-- A statement's seven cells at B beside the cursor, since w0. -/
structure At7 (w0 w : World) (B C g : Nat) (TS : List Tok) (pv : Value) (st : Sta) (a0 a1 a2 a3 a4 a5 a6 : Value) : Prop where
  blk : Blk w B 52 #[a0, a1, a2, a3, a4, a5, a6]
  dc : Dc w C g TS pv st
  bc : B ≠ C
  bg : B ≠ g
  only : Only (fun b => b = C ∨ b = B) w0 w
section
variable {w0 w : World} {B C g : Nat} {TS : List Tok} {pv : Value} {st : Sta} {a0 a1 a2 a3 a4 a5 a6 : Value}
theorem At7.call (h : At7 w0 w B C g TS pv st a0 a1 a2 a3 a4 a5 a6) {w' : World} {st' : Sta} (ho : Only (· = C) w w') (hd : Dc w' C g TS pv st') : At7 w0 w' B C g TS pv st' a0 a1 a2 a3 a4 a5 a6 :=
  ⟨h.blk.only ho h.bc, hd, h.bc, h.bg, h.only.trans (ho.mono fun k hk => .inl hk)⟩
theorem At7.far (h : At7 w0 w B C g TS pv st a0 a1 a2 a3 a4 a5 a6) (i : Nat) (u : Value) : Dc (w.setCell ⟨B, i, none⟩ u) C g TS pv st :=
  h.dc.other (S := fun b => b = B) ((Only.refl (fun b => b = B) w).setCell (p := ⟨B, i, none⟩) (.inl rfl) u) (fun e => h.bc e.symm) (fun e => h.bg e.symm)
theorem At7.only' (h : At7 w0 w B C g TS pv st a0 a1 a2 a3 a4 a5 a6) (i : Nat) (u : Value) : Only (fun b => b = C ∨ b = B) w0 (w.setCell ⟨B, i, none⟩ u) := h.only.setCell (p := ⟨B, i, none⟩) (.inl (.inr rfl)) u
theorem At7.set0 (h : At7 w0 w B C g TS pv st a0 a1 a2 a3 a4 a5 a6) (u : Value) : At7 w0 (w.setCell ⟨B, 0, none⟩ u) B C g TS pv st u a1 a2 a3 a4 a5 a6 := ⟨h.blk.set 0 u, h.far 0 u, h.bc, h.bg, h.only' 0 u⟩
theorem At7.set1 (h : At7 w0 w B C g TS pv st a0 a1 a2 a3 a4 a5 a6) (u : Value) : At7 w0 (w.setCell ⟨B, 1, none⟩ u) B C g TS pv st a0 u a2 a3 a4 a5 a6 := ⟨h.blk.set 1 u, h.far 1 u, h.bc, h.bg, h.only' 1 u⟩
theorem At7.set2 (h : At7 w0 w B C g TS pv st a0 a1 a2 a3 a4 a5 a6) (u : Value) : At7 w0 (w.setCell ⟨B, 2, none⟩ u) B C g TS pv st a0 a1 u a3 a4 a5 a6 := ⟨h.blk.set 2 u, h.far 2 u, h.bc, h.bg, h.only' 2 u⟩
theorem At7.set3 (h : At7 w0 w B C g TS pv st a0 a1 a2 a3 a4 a5 a6) (u : Value) : At7 w0 (w.setCell ⟨B, 3, none⟩ u) B C g TS pv st a0 a1 a2 u a4 a5 a6 := ⟨h.blk.set 3 u, h.far 3 u, h.bc, h.bg, h.only' 3 u⟩
theorem At7.set4 (h : At7 w0 w B C g TS pv st a0 a1 a2 a3 a4 a5 a6) (u : Value) : At7 w0 (w.setCell ⟨B, 4, none⟩ u) B C g TS pv st a0 a1 a2 a3 u a5 a6 := ⟨h.blk.set 4 u, h.far 4 u, h.bc, h.bg, h.only' 4 u⟩
theorem At7.here (h : At7 w0 w B C g TS pv st a0 a1 a2 a3 a4 a5 a6) : At7 w w B C g TS pv st a0 a1 a2 a3 a4 a5 a6 := ⟨h.blk, h.dc, h.bc, h.bg, Only.refl _ _⟩
theorem At7.since (h : At7 w0 w B C g TS pv st a0 a1 a2 a3 a4 a5 a6) {w1 : World} (ho : Only (fun b => b = C ∨ b = B) w1 w0) : At7 w1 w B C g TS pv st a0 a1 a2 a3 a4 a5 a6 := ⟨h.blk, h.dc, h.bc, h.bg, ho.trans h.only⟩
theorem At7.alloc (h : At7 w0 w B C g TS pv st a0 a1 a2 a3 a4 a5 a6) (o : Obj) : At7 w0 (w.alloc o) B C g TS pv st a0 a1 a2 a3 a4 a5 a6 :=
  ⟨h.blk.alloc o, h.dc.below ((Below.refl _ _).alloc (Nat.le_refl _) o), h.bc, h.bg, h.only.alloc o⟩
end
def accF (ts : List Tok) : P.Res (Nat × List UInt8) :=
  match P.pMode ts with
  | .error p => .error p
  | .ok (m, r1) =>
    match P.pName r1 with
    | .error p => .error p
    | .ok (l, r2) => .ok ((m, l), r2)
theorem acc_eq (st : Sta) : left (on st accF) = left (on (left (on st P.pMode)) P.pName) ∧ ∀ m l ts, on st accF = .ok ((m, l), ts) → (∃ r, on st P.pMode = .ok (m, r)) ∧ on (left (on st P.pMode)) P.pName = .ok (l, ts) := by
  rcases st with q | ts
  · exact ⟨rfl, fun _ _ _ h => by cases h⟩
  · simp only [on, accF]
    cases h1 : P.pMode ts with
    | error p => exact ⟨rfl, fun _ _ _ h => by cases h⟩
    | ok x =>
      obtain ⟨m, r1⟩ := x
      simp only [left]
      cases h2 : P.pName r1 with
      | error p => exact ⟨rfl, fun _ _ _ h => by cases h⟩
      | ok y =>
        obtain ⟨l, r2⟩ := y
        exact ⟨rfl, fun _ _ _ h => by cases h; exact ⟨⟨r1, rfl⟩, rfl⟩⟩
def AccD (w0 : World) (B : Nat) (kd : Int) (v2 v4 v5 v6 : Value) (C g : Nat) (TS : List Tok) (pv : Value) (r : P.Res (Nat × List UInt8)) (e : Ending) (w' : World) : Prop :=
  ∃ (m : Int) (l : ByteArray), e = .returned (.tuple #[]) ∧ At7 w0 w' B C g TS pv (left r) (.int .i64 kd) (.int .i64 m) v2 (.string l) v4 v5 v6 ∧ ∀ m' l' ts, r = .ok ((m', l'), ts) → m = (m' : Nat) ∧ l = bs l'
set_option maxHeartbeats 1600000 in
theorem access_d (kd : Int) (w0 w : World) (B C g : Nat) (TS : List Tok) (pv : Value) (st : Sta) (v0 v1 v2 v3 v4 v5 v6 : Value) (h : At7 w0 w B C g TS pv st v0 v1 v2 v3 v4 v5 v6) :
    Calls Tryz.prog 126 #[.pointer (some ⟨C, 0, none⟩), .pointer (some ⟨B, 0, none⟩), .int .i64 kd] w (AccD w0 B kd v2 v4 v5 v6 C g TS pv (on st accF)) := by
  have HE := Lib.hid (acc_eq st)
  obtain ⟨c0, c1, c2, c3, c4, c5, c6, f0, f1, f2, f3, f4, f5, f6⟩ := seven_free h.blk
  have H := Lib.hid h
  clear h
  go_enter Tryz.func126, Tryz.ntmps126
  go_wp2_with fail
  have H1 := Lib.hid (H.out.set0 (.int .i64 kd))
  clear c0 c1 c2 c3 c4 c5 c6 f0 f1 f2 f3 f4 f5 f6
  generalize w.setCell ⟨B, 0, none⟩ (.int .i64 kd) = w1 at *
  with_reducible refine (mode_d C g TS pv st _ H1.out.dc).mono ?_
  rintro e w2 ⟨v, rfl, ⟨m, rfl⟩, hd2, ho2, hm2⟩
  have H2 := Lib.hid (H1.out.call ho2 hd2)
  have HM := Lib.hid hm2
  clear hd2 ho2 hm2
  obtain ⟨c0, c1, c2, c3, c4, c5, c6, f0, f1, f2, f3, f4, f5, f6⟩ := seven_free H2.out.blk
  go_wp2_with fail
  have H3 := Lib.hid (H2.out.set1 (.int .i64 m))
  clear c0 c1 c2 c3 c4 c5 c6 f0 f1 f2 f3 f4 f5 f6
  generalize w2.setCell ⟨B, 1, none⟩ (.int .i64 m) = w3 at *
  with_reducible refine (name_d C g TS pv _ _ H3.out.dc).mono ?_
  rintro e w4 ⟨t, rfl, hd4, ho4, ht4⟩
  have H4 := Lib.hid (H3.out.call ho4 hd4)
  have HT := Lib.hid ht4
  clear hd4 ho4 ht4
  obtain ⟨tk, tx, tn, ta⟩ := t
  rw [tokV]
  have q1 := fun w => tf1 (.int .i64 tk) (.string (bs tx)) (.int .i64 tn) (.int .i64 ta) w
  generalize hX : bs tx = X at *
  obtain ⟨c0, c1, c2, c3, c4, c5, c6, f0, f1, f2, f3, f4, f5, f6⟩ := seven_free H4.out.blk
  go_wp2_with fail
  go_end0
  refine ⟨m, X, rfl, HE.out.1 ▸ H4.out.set3 _, fun m' l' ts hh => ?_⟩
  obtain ⟨⟨r, h1⟩, h2⟩ := HE.out.2 m' l' ts hh
  have e1 := HM.out m' r h1
  have e2 := HT.out l' ts h2
  refine ⟨?_, by rw [← hX]; exact congrArg bs e2⟩
  injection e1
end Go.Proofs.YtgobcflfhabdhaaGreatDoor.Lx
/-
  many of statements, atStmt: contracts.
-/
namespace Go.Proofs.YtgobcflfhabdhaaGreatDoor.Lx
open Go.RowKit
open L (Tok)
open P (EX CO ST Gl nextR)
set_option maxRecDepth 100000
set_option linter.unusedVariables false
set_option linter.unusedSimpArgs false
theorem Tryz.infoSt : (Tryz.prog.info? 52).map (fun i => (i.zero, i.size, i.bytes)) = some (some (.agg #[.int .i64 0, .int .i64 0, .string ⟨#[]⟩, .string ⟨#[]⟩, .slice none 0 0, .slice none 0 0, .slice none 0 0]), 7, 120) := by kernel_rfl
theorem seven_new (w : World) (k m : Int) (r l : ByteArray) (a1 : Option Addr) (n1 c1 : Nat) (a2 : Option Addr) (n2 c2 : Nat) (a3 : Option Addr) (n3 c3 : Nat) (t : TypeId) : ∀ j u, [Value.int .i64 k, .int .i64 m, .string r, .string l, .slice a1 n1 c1, .slice a2 n2 c2, .slice a3 n3 c3][j]? = some u → (w.alloc (.cells #[.int .i64 k, .int .i64 m, .string r, .string l, .slice a1 n1 c1, .slice a2 n2 c2, .slice a3 n3 c3] t)).cell? ((⟨w.heap.size, 0, none⟩ : Addr).add j) = some u := by
  intro j u hu
  have hB := Blk.new w t #[.int .i64 k, .int .i64 m, .string r, .string l, .slice a1 n1 c1, .slice a2 n2 c2, .slice a3 n3 c3]
  have h := hB.cell j
  have e : ((⟨w.heap.size, 0, none⟩ : Addr).add j) = ⟨w.heap.size, j, none⟩ := by simp [Addr.add]; intro h; exact h.symm
  rw [e, h]
  simpa using hu
theorem seven_one (k m : Int) (r l : ByteArray) (a1 : Option Addr) (n1 c1 : Nat) (a2 : Option Addr) (n2 c2 : Nat) (a3 : Option Addr) (n3 c3 : Nat) : ∀ u ∈ [Value.int .i64 k, .int .i64 m, .string r, .string l, .slice a1 n1 c1, .slice a2 n2 c2, .slice a3 n3 c3], u.oneCell' = true := by
  intro u hu
  simp only [List.mem_cons, List.not_mem_nil, or_false] at hu
  rcases hu with rfl | rfl | rfl | rfl | rfl | rfl | rfl <;> rfl
/-- A statement may follow, whatever the state. -/
def onS (st : Sta) : Bool := match st with
  | .ok ts => P.atS ts
  | .error _ => false
def agg (cs : List Value) : Value := .agg cs.toArray
/-- Rows of statements in a block. -/
theorem rowsS {Q : Nat → Prop} {w : World} {g : Nat} : ∀ (es : List ST) (vals : List Value) (off : Nat), RowsV 7 agg LS Q w vals es → (∀ i u, vals[i]? = some u → w.cell? ⟨g, off + i, none⟩ = some u) → LSs Q w g off es
  | [], vals, off, h, hc => by
    unfold LSs
    trivial
  | e :: es, vals, off, h, hc => by
    obtain ⟨cs, rest, rfl, hl, hv, hr⟩ := h
    match cs, hl with
    | [c0, c1, c2, c3, c4, c5, c6], _ =>
      unfold LSs
      refine ⟨⟨c0, c1, c2, c3, c4, c5, c6, hc 0 c0 rfl, hc 1 c1 rfl, hc 2 c2 rfl, hc 3 c3 rfl, hc 4 c4 rfl, hc 5 c5 rfl, hc 6 c6 rfl, hv⟩, ?_⟩
      refine rowsS es rest (off + 7) hr (fun i u hu => ?_)
      have := hc (i + 7) u (by simpa using hu)
      rw [show off + (i + 7) = off + 7 + i by omega] at this
      exact this
theorem own_cells {w : World} {base g : Nat} {t : TypeId} {size n cap : Nat} {xs : List Value} (h : w.ownsRow base t size (.slice (some ⟨g, 0, none⟩) n cap) n xs) : ∀ i u, xs[i]? = some u → w.cell? ⟨g, 0 + i, none⟩ = some u := by
  intro i u hu
  rcases h.2 with ⟨h1, _⟩ | ⟨g', cap', cur, he, hg, hh, hn, hcm, hs, ht⟩
  · cases h1
  · cases he
    have hB : Blk w g t cur := hh
    rw [Nat.zero_add, hB.cell]
    rw [← ht, List.getElem?_take] at hu
    split at hu
    · simpa using hu
    · cases hu
/-- What many tells: a slice, and the state where no more may follow. -/
def ManyD {α : Type} (Val : (Nat → Prop) → World → Value → List α → Prop) (may : Sta → Bool) (tot : List Tok → P.Res (List α × List Nat)) (C g base : Nat) (TS : List Tok) (pv : Value) (ps : List Nat) (st : Sta) (w : World) (e : Ending) (w' : World) : Prop :=
  ∃ v pv' ps' r, e = .returned v ∧ (∃ a n c, v = .slice a n c) ∧ Dc w' C g TS pv' (left r) ∧ may (left r) = false ∧ on st tot = Gl tot r ∧ OwnP w' base pv' ps' ∧ ps'.length + slen (left r) ≤ ps.length + slen st ∧ Only (Pb C pv) w w' ∧ Fr pv pv' w.heap.size ∧ ∀ es qs ts, r = .ok ((es, qs), ts) → ps' = ps ++ qs ∧ Val (Nw w.heap.size pv') w' v es
theorem Mn.isSs {tot : List Tok → P.Res (List ST × List Nat)} {C g base : Nat} {TS : List Tok} {pv : Value} {ps : List Nat} {st : Sta} {w : World} {l : Value} {wr : World} {pvj : Value} {psj : List Nat} {m : Nat} {vals : List Value} {es : List ST} {qs : List Nat} {ts : List Tok}
    (h : Mn 7 agg LS 52 tot C g base TS pv ps st w l wr pvj psj m vals (.ok ((es, qs), ts))) : IsSs (Nw w.heap.size pvj) wr l es := by
  obtain ⟨h1, rfl, h3⟩ := h.live es qs ts rfl
  have hm := own_max h.own
  by_cases h0 : es = []
  · obtain ⟨a, c, rfl⟩ := slice_of_own h.own
    exact ⟨a, c, rfl, hm, .inl h0⟩
  · obtain ⟨gl, cap, rfl, hgb, hgl⟩ := h.own.form (by cases es with
      | nil => exact absurd rfl h0
      | cons x xs => simp)
    refine ⟨_, cap, rfl, hm, .inr ⟨gl, 0, rfl, ⟨hgb, own_types h.own h.pl (by decide) gl rfl⟩, ?_⟩⟩
    exact LSs.mono (fun b hb _ => ⟨hb.1, hb.2.1⟩) es (rowsS es vals 0 h3 (own_cells h.own))
theorem lsStep : StepV LS := by
  intro Q Q' w w' h v a hv
  exact LS.step h hv
set_option maxHeartbeats 3200000 in
theorem manyS_d (C g base : Nat) (TS : List Tok) (pv : Value) (ps : List Nat) (st : Sta) (w : World) (tot : List Tok → P.Res (List ST × List Nat)) (one : List Tok → P.Res (ST × List Nat)) (h : Dc w C g TS pv st) (hp : OwnP w base pv ps) (hg : g < base) (hbase : base ≤ w.heap.size) (hn : ps.length + slen st ≤ 50000)
    (hMay : ∀ st pv w, Dc w C g TS pv st → Calls Tryz.prog 106 #[.pointer (some ⟨C, 0, none⟩)] w (fun e w' => e = .returned (.bool (onS st)) ∧ Below w.heap.size w w'))
    (hOne : ∀ ts pv ps w, Dc w C g TS pv (.ok ts) → P.atS ts = true → OwnP w base pv ps → base ≤ w.heap.size → ps.length + ts.length ≤ 50000 → ts.length ≤ slen st → Calls Tryz.prog 107 #[.pointer (some ⟨C, 0, none⟩)] w (PtD LS AnyS C g base TS pv ps ts.length (one ts) w))
    (hL : P.Less one) (hT : ∀ ts pv w, Dc w C g TS pv (.ok ts) → P.atS ts = true → tot ts = P.moreR tot (one ts)) :
    Calls Tryz.prog 105 #[mval 106 C, mval 107 C] w (ManyD IsSs onS tot C g base TS pv ps st w) := by
  obtain ⟨i0, hi, hz0, hz1, hz2⟩ := info_parts Tryz.infoSt
  have HI := Lib.hid hi
  have HZ0 := Lib.hid hz0
  have HZ1 := Lib.hid hz1
  have HZ2 := Lib.hid hz2
  clear hi hz0 hz1 hz2
  obtain ⟨hCl, hgl⟩ := h.lts
  have hS0 := Mn.start (sz := 7) (mk := agg) (Val := LS) (ty := 52) (tot := tot) h hp
  have hsl : slen st ≤ 10000 := by
    rcases st with q | ts
    · exact Nat.zero_le _
    · obtain ⟨a, n, c, _, k, rfl, _⟩ := h.blk
      have := h.max
      show (TS.drop k).length ≤ _
      rw [List.length_drop]
      omega
  have HS0 := Lib.hid hS0
  have HMay := Lib.hid hMay
  have HOne := Lib.hid hOne
  have HL := Lib.hid hL
  have HT := Lib.hid hT
  clear h hp hS0 hMay hOne hL hT
  unfold mval
  go_enter Tryz.func105, Tryz.ntmps105
  go_wp2_with fail
  go_loopw [5] (fun l wr => ∃ pvj psj m vals r, Mn 7 agg LS 52 tot C g base TS pv ps st w l wr pvj psj m vals r) (fun _ wr => lnAt C wr)
  case atStart => exact ⟨_, _, _, _, _, HS0.out⟩
  case round =>
    obtain ⟨pvj, psj, m, vals, r, hM⟩ := hrel
    have HM := Lib.hid hM
    have HLN := Lib.hid hM.dc.lnAt
    have hsz := hM.only.size
    have hcnt := hM.cnt
    have hbnd := hM.bound
    obtain ⟨a, c, rfl⟩ := slice_of_own hM.own
    clear hM
    go_wp2_with fail
    have hcall := HMay.out (left r) pvj _ HM.out.dc
    with_reducible refine hcall.mono ?_
    rintro e w1 ⟨rfl, hb1⟩
    clear hcall
    cases hr : onS (left r) with
    | false =>
      go_wp2_with fail
      go_ret
      refine ⟨_, pvj, psj, r, rfl, ⟨_, _, _, rfl⟩, HM.out.dc.below hb1, hr, HM.out.sum, own_below HM.out.pl hb1, HM.out.bound, HM.out.only.then (S' := fun _ => False) (Only.of_below hb1) (fun _ e => e.elim), HM.out.fr, ?_⟩
      intro es qs ts hh
      subst hh
      refine ⟨(HM.out.live es qs ts rfl).1, IsSs.step (Q := Nw w.heap.size pvj) ?_ HM.out.isSs⟩
      intro b hb hl
      exact ⟨hb, hb1.block b hl⟩
    | true =>
      rcases r with p | ⟨⟨es, qs⟩, ts⟩
      · cases hr
      · have hr' : P.atS ts = true := hr
        have hM1 : Mn 7 agg LS 52 tot C g base TS pv ps st w (.slice a m c) w1 pvj psj m vals (.ok ((es, qs), ts)) := ⟨own_below HM.out.own hb1, HM.out.dc.below hb1, own_below HM.out.pl hb1, HM.out.bound, HM.out.cnt, HM.out.only.then (S' := fun _ => False) (Only.of_below hb1) (fun _ e => e.elim), HM.out.fr, HM.out.sum, fun es' qs' ts' hh => by
          obtain ⟨x1, x2, x3⟩ := HM.out.live es' qs' ts' hh
          exact ⟨x1, x2, RowsV.step 7 agg LS lsStep (fun b hb hl => ⟨hb, hb1.block b hl⟩) _ _ x3⟩⟩
        have HM1 := Lib.hid hM1
        have hs1 := hb1.size
        have ets : slen (left (.ok ((es, qs), ts) : P.Res (List ST × List Nat))) = ts.length := rfl
        have HO := Lib.hid (HOne.out ts pvj psj w1 hM1.dc hr' hM1.pl (by omega) (by omega) (by omega))
        have HTT := Lib.hid (HT.out ts pvj w1 hM1.dc hr')
        have hlive : 0 < ts.length := hM1.dc.live
        rw [ets] at hcnt hbnd HLN
        clear hM1 HM hb1 hr hr' ets
        go_wp2_with fail
        with_reducible refine HO.out.mono ?_
        rintro e w2 ⟨v, pv1, ps1, rfl, ⟨k, md, rg, lc, a1, n1, c1, a2, n2, c2, a3, n3, c3, rfl⟩, hd2, hp2, hbd2, ho2, hf2, hv2⟩
        have HST := Lib.hid (fun (w3 : World) (o : Obj) (g2 cap : Nat) hgr how hat => Mn.step (one := one ts) (w2 := w3) (o := o) (g2 := g2) (cap := cap) (cs := [.int .i64 k, .int .i64 md, .string rg, .string lc, .slice a1 n1 c1, .slice a2 n2 c2, .slice a3 n3 c3]) lsStep (by decide) hCl hgl HM1.out HTT.out (fun a r hh => HL.out _ _ _ hh) rfl hd2 hp2 hbd2 ho2 hf2 hv2 hgr how hat)
        have hs2 := ho2.size
        have hown2 := own_only HM1.out.own ho2 (by
          intro k hk
          rintro (e | e)
          · have := (HM1.out.own.lt k hk).1
            omega
          · exact own_types HM1.out.own HM1.out.pl (by decide) k hk e)
        clear hd2 hp2 hbd2 ho2 hf2 hv2
        go_wp2_with (at_builtin; refine wpList_append_lies _ rfl (.tmp 8) (.tmp 11) 50 rfl w.heap.size 52 i0 (.agg #[.int .i64 0, .int .i64 0, .string ⟨#[]⟩, .string ⟨#[]⟩, .slice none 0 0, .slice none 0 0, .slice none 0 0]) 7 120 Tryz.underlying50 HI.out HZ0.out HZ1.out HZ2.out rfl (by decide) (.slice a m c) m vals rfl (hown2.alloc _) ⟨w2.heap.size, 0, none⟩ 1 1 [.int .i64 k, .int .i64 md, .string rg, .string lc, .slice a1 n1 c1, .slice a2 n2 c2, .slice a3 n3 c3] rfl rfl (seven_new _ _ _ _ _ _ _ _ _ _ _ _ _ _ _) (seven_one _ _ _ _ _ _ _ _ _ _ _ _ _) (by decide) (by unfold maxLen; omega) (by omega) (by simp; omega) (w2.heap.size + 1) (by simp) ?_; intro g3 c3' w3 hown3 hgrow3 hat3 hlt3)
        have HN := Lib.hid (HST.out w3 _ g3 c3' hgrow3 hown3 hat3)
        clear hown3 hgrow3 hat3
        go_wp2_with fail
        go_roundw
        case rel => exact ⟨_, _, _, _, _, HN.out.1⟩
        case measure =>
          rw [HN.out.1.dc.lnAt, HLN.out]
          exact HN.out.2
end Go.Proofs.YtgobcflfhabdhaaGreatDoor.Lx
/-
  atStmt, block of the developers' cursor: contracts.
-/
namespace Go.Proofs.YtgobcflfhabdhaaGreatDoor.Lx
open Go.RowKit
open L (Tok)
open P (EX CO ST Gl nextR)
set_option maxRecDepth 100000
set_option linter.unusedVariables false
set_option linter.unusedSimpArgs false
theorem onS_or (st : Sta) : onS st = (onN st || onIs [115, 116, 111, 114, 101] st || onIs [102, 101, 110, 99, 101] st || onIs [105, 102] st) := by
  rcases st with q | ts <;> rfl
set_option maxHeartbeats 1600000 in
theorem atStmt_d (C g : Nat) (TS : List Tok) (pv : Value) (st : Sta) (w : World) (h : Dc w C g TS pv st) :
    Calls Tryz.prog 106 #[.pointer (some ⟨C, 0, none⟩)] w (BoolTo (onS st) w) := by
  have HD := Lib.hid h
  have HO := Lib.hid (onS_or st)
  clear h
  go_enter Tryz.func106, Tryz.ntmps106
  go_wp2_with fail
  with_reducible refine (atName_d C g TS pv st _ HD.out).mono ?_
  rintro e w1 ⟨rfl, hb1⟩
  have HD1 := Lib.hid (HD.out.below hb1)
  cases hN : onN st with
  | true =>
    go_wp2_with fail
    go_ret
    exact ⟨by rw [HO.out, hN]; rfl, hb1⟩
  | false =>
    go_wp2_with fail
    with_reducible refine (at_d C g TS pv st ⟨#[115, 116, 111, 114, 101]⟩ _ HD1.out (by decide)).mono ?_
    rintro e w2 ⟨rfl, hb2⟩
    have HD2 := Lib.hid (HD1.out.below hb2)
    rw [show by' (⟨#[115, 116, 111, 114, 101]⟩ : ByteArray) = [115, 116, 111, 114, 101] from rfl]
    have hb12 := hb1.trans (hb2.mono hb1.size)
    cases h1 : onIs [115, 116, 111, 114, 101] st with
    | true =>
      go_wp2_with fail
      go_ret
      exact ⟨by rw [HO.out, hN, h1]; rfl, hb12⟩
    | false =>
      go_wp2_with fail
      with_reducible refine (at_d C g TS pv st ⟨#[102, 101, 110, 99, 101]⟩ _ HD2.out (by decide)).mono ?_
      rintro e w3 ⟨rfl, hb3⟩
      have HD3 := Lib.hid (HD2.out.below hb3)
      rw [show by' (⟨#[102, 101, 110, 99, 101]⟩ : ByteArray) = [102, 101, 110, 99, 101] from rfl]
      have hb13 := hb12.trans (hb3.mono hb12.size)
      cases h2 : onIs [102, 101, 110, 99, 101] st with
      | true =>
        go_wp2_with fail
        go_ret
        exact ⟨by rw [HO.out, hN, h1, h2]; rfl, hb13⟩
      | false =>
        go_wp2_with fail
        with_reducible refine (at_d C g TS pv st ⟨#[105, 102]⟩ _ HD3.out (by decide)).mono ?_
        rintro e w4 ⟨rfl, hb4⟩
        rw [show by' (⟨#[105, 102]⟩ : ByteArray) = [105, 102] from rfl]
        have hb14 := hb13.trans (hb4.mono hb13.size)
        generalize h3 : onIs [105, 102] st = b at *
        go_wp2_with fail
        go_ret
        exact ⟨by rw [HO.out, hN, h1, h2]; rfl, hb14⟩
theorem slen_need (s : List UInt8) (st : Sta) : slen (onNeed s st) ≤ slen st := by
  rcases st with q | ts
  · exact Nat.le_refl _
  · show slen (P.need s ts) ≤ ts.length
    cases h : P.need s ts with
    | error p => exact Nat.zero_le _
    | ok r => exact Nat.le_of_lt (P.need_less h)
theorem Dc.notClose {w : World} {C g : Nat} {TS : List Tok} {pv : Value} {ts : List Tok} (h : Dc w C g TS pv (.ok ts)) (hs : P.atS ts = true) : P.isS [125] ts = false := by
  obtain ⟨a, n, c, _, k, rfl, hk, _⟩ := h.blk
  have hf := h.good k hk
  rw [drop_tat hk] at hs ⊢
  generalize tat TS k = t at *
  cases hb : P.isS [125] (t :: TS.drop (k + 1)) with
  | false => rfl
  | true =>
    exfalso
    simp only [P.isS, Bool.and_eq_true, beq_iff_eq] at hb
    obtain ⟨_, ht⟩ := hb
    have hN : P.isN (t :: TS.drop (k + 1)) = false := by
      rcases hf with ⟨_, b, r, hbr, hl⟩ | h3 | ⟨h2, _⟩ | ⟨h4, _⟩
      · rw [ht] at hbr
        injection hbr with e1 e2
        subst e1
        exact absurd hl (by decide)
      · simp [P.isN, h3]
      · simp [P.isN, h2]
      · simp [P.isN, h4]
    simp [P.atS, hN, P.isS, ht] at hs
theorem closeR {n : Nat} {r : P.Res (List ST × List Nat)} (h : onS (left r) = false) : Gl (P.stmtsT (P.stmtN n)) r = P.closeF r := by
  rcases r with p | ⟨⟨es, qs⟩, ts⟩
  · rfl
  · exact P.stmtsT_stop h es qs
theorem close_left (r : P.Res (List ST × List Nat)) : left (P.closeF r) = onNeed [125] (left r) := by
  rcases r with p | ⟨⟨es, qs⟩, ts⟩
  · rfl
  · show left (match P.need [125] ts with
      | .error p => .error p
      | .ok r2 => .ok ((es, qs), r2)) = P.need [125] ts
    cases P.need [125] ts <;> rfl
theorem close_ok {r : P.Res (List ST × List Nat)} {a : List ST × List Nat} {ts : List Tok} (h : P.closeF r = .ok (a, ts)) : ∃ t1, r = .ok (a, t1) := by
  rcases r with p | ⟨a', t1⟩
  · cases h
  · unfold P.closeF at h
    simp only at h
    split at h
    · cases h
    · cases h
      exact ⟨t1, rfl⟩
theorem block_eq {n : Nat} (st : Sta) : on st (P.blockF (P.stmtN n)) = on (onNeed [123] st) (P.stmtsT (P.stmtN n)) := by
  rcases st with q | ts
  · rfl
  · show P.blockF (P.stmtN n) ts = on (P.need [123] ts) _
    unfold P.blockF
    cases P.need [123] ts <;> rfl
def AnySl (w : World) (v : Value) : Prop := ∃ a n c, v = .slice a n c
set_option maxHeartbeats 1600000 in
theorem block_d (n : Nat) (C g base : Nat) (TS : List Tok) (pv : Value) (ps : List Nat) (st : Sta) (w : World) (h : Dc w C g TS pv st) (hp : OwnP w base pv ps) (hg : g < base) (hbase : base ≤ w.heap.size) (hn : ps.length + slen st ≤ 50000)
    (hOne : ∀ ts pv ps w, Dc w C g TS pv (.ok ts) → P.atS ts = true → OwnP w base pv ps → base ≤ w.heap.size → ps.length + ts.length ≤ 50000 → ts.length ≤ slen st → Calls Tryz.prog 107 #[.pointer (some ⟨C, 0, none⟩)] w (PtD LS AnyS C g base TS pv ps ts.length (P.stmtN n ts) w)) :
    Calls Tryz.prog 86 #[.pointer (some ⟨C, 0, none⟩)] w (PtD IsSs AnySl C g base TS pv ps (slen st) (on st (P.blockF (P.stmtN n))) w) := by
  obtain ⟨hCl, hgl⟩ := h.lts
  have hpb := hp.lt
  have hsn := slen_need [123] st
  have HD := Lib.hid h
  have HP := Lib.hid hp
  have HE := Lib.hid (block_eq (n := n) st)
  have HOne := Lib.hid hOne
  clear h hp hOne
  go_enter Tryz.func86, Tryz.ntmps86
  go_wp2_with fail
  with_reducible refine (want_d C g TS pv st ⟨#[123]⟩ _ HD.out (by decide)).mono ?_
  rintro e w1 ⟨rfl, hd1, ho1⟩
  have HD1 : Hid (Dc w1 C g TS pv (onNeed [123] st)) := Lib.hid hd1
  have hs1 := ho1.size
  have hpC : ∀ k, pv.ownBlock = some k → k ≠ C := by
    intro k hk e
    subst e
    obtain ⟨a, m, c, hB, _⟩ := HD.out.blk
    exact own_ne (t' := 93) HP.out hB (by decide) hk
  have HP1 := Lib.hid (own_only HP.out ho1 hpC)
  have HO1 := Lib.hid (ho1.mono (S' := Pb C pv) fun k hk => .inl hk)
  have HM := Lib.hid (manyS_d C g base TS pv ps (onNeed [123] st) w1 (P.stmtsT (P.stmtN n)) (P.stmtN n) HD1.out HP1.out hg (by omega) (by omega) (fun st pv w h => atStmt_d C g TS pv st w h)
    (fun ts pv ps w h1 h2 h3 h4 h5 h6 => HOne.out ts pv ps w h1 h2 h3 h4 h5 (by omega)) (P.stmtN_less n) (fun ts pv w h1 h2 => P.stmtsT_more (P.stmtN_less n) (P.stmtN_nil n) h1.live (h1.notClose h2)))
  clear hd1 ho1
  unfold mval at HM
  go_wp2_with fail
  with_reducible refine HM.out.mono ?_
  rintro e w2 ⟨v, pv2, ps2, r, rfl, ⟨a, m, c, rfl⟩, hd2, hmay, hsum, hp2, hb2, ho2, hf2, hv2⟩
  have HD2 := Lib.hid hd2
  have HP2 := Lib.hid hp2
  have HV2 := Lib.hid hv2
  have HO2 := Lib.hid (HO1.out.trans ho2)
  have HF2 := Lib.hid hf2
  have hs2 := ho2.size
  have HR := Lib.hid (show on st (P.blockF (P.stmtN n)) = P.closeF r by rw [HE.out, hsum, closeR hmay])
  clear hd2 hp2 hv2 ho2 hf2 hmay hsum
  go_wp2_with fail
  with_reducible refine (want_d C g TS pv2 _ ⟨#[125]⟩ _ HD2.out (by decide)).mono ?_
  rintro e w3 ⟨rfl, hd3, ho3⟩
  have HD3 : Hid (Dc w3 C g TS pv2 (onNeed [125] (left r))) := Lib.hid hd3
  have HO3 := Lib.hid ho3
  have hs3 := ho3.size
  clear hd3 ho3
  go_wp2_with fail
  go_ret
  have hp2C : ∀ k, pv2.ownBlock = some k → k ≠ C := by
    intro k hk e
    subst e
    obtain ⟨a, m, c, hB, _⟩ := HD2.out.blk
    exact own_ne (t' := 93) HP2.out hB (by decide) hk
  refine ⟨_, pv2, ps2, rfl, ⟨_, _, _, rfl⟩, ?_, own_only HP2.out HO3.out hp2C, ?_, HO2.out.trans (HO3.out.mono fun k hk => .inl hk), ?_, ?_⟩
  · rw [HR.out, close_left]
    exact HD3.out
  · rw [HR.out, close_left]
    have := slen_need [125] (left r)
    omega
  · intro k hk
    rcases HF2.out k hk with h1 | h1
    · exact .inl h1
    · exact .inr (by omega)
  · intro es qs ts hh
    rw [HR.out] at hh
    obtain ⟨t1, h1⟩ := close_ok hh
    obtain ⟨e1, e2⟩ := HV2.out es qs t1 h1
    refine ⟨e1, IsSs.step ?_ e2⟩
    intro b hb hl
    exact ⟨⟨by have := hb.1; omega, hb.2⟩, HO3.out.block b hl (by have := hb.1; omega)⟩
end Go.Proofs.YtgobcflfhabdhaaGreatDoor.Lx
/-
  right of the developers' cursor: a contract.
-/
namespace Go.Proofs.YtgobcflfhabdhaaGreatDoor.Lx
open Go.RowKit
open L (Tok)
open P (EX CO ST)
set_option maxRecDepth 100000
set_option linter.unusedVariables false
set_option linter.unusedSimpArgs false
theorem ls_none {Q : Nat → Prop} {w : World} {kd md : Int} {rg lc : List UInt8} : LS Q w (.agg #[.int .i64 kd, .int .i64 md, .string (bs rg), .string (bs lc), .slice none 0 0, .slice none 0 0, .slice none 0 0]) (.mk kd md rg lc [] [] []) := by
  unfold LS
  exact ⟨_, _, _, _, _, _, rfl, Nat.zero_le _, Nat.zero_le _, Nat.zero_le _, .inl rfl, .inl rfl, .inl rfl⟩
theorem ls_args {Q : Nat → Prop} {w : World} {kd md : Int} {rg lc : List UInt8} {K c : Nat} {xs : List EX} (hn : xs.length ≤ 2) (hQ : Q K) (hx : LXs Q w K 0 xs) : LS Q w (.agg #[.int .i64 kd, .int .i64 md, .string (bs rg), .string (bs lc), .slice (some ⟨K, 0, none⟩) xs.length c, .slice none 0 0, .slice none 0 0]) (.mk kd md rg lc xs [] []) := by
  unfold LS
  exact ⟨_, _, _, _, _, _, rfl, by unfold maxLen; omega, Nat.zero_le _, Nat.zero_le _, .inr ⟨K, 0, rfl, hQ, hx⟩, .inl rfl, .inl rfl⟩
section
variable {w0 w : World} {B C g : Nat} {TS : List Tok} {pv : Value} {st : Sta} {a0 a1 a2 a3 a4 a5 a6 : Value}
/-- The statement's arguments laid, one of them, the walk's world. -/
theorem At7.arg (h : At7 w0 w B C g TS pv st a0 a1 a2 a3 a4 a5 a6) (cs : Array Value) (n : Nat) : At7 w0 ((w.setCell ⟨B, 4, none⟩ (.slice (some ⟨w.heap.size, 0, none⟩) n n)).alloc (.cells cs 46)) B C g TS pv st a0 a1 a2 a3 (.slice (some ⟨w.heap.size, 0, none⟩) n n) a5 a6 := (h.set4 _).alloc _
theorem arg_blk (w : World) (B : Nat) (u : Value) (cs : Array Value) : Blk ((w.setCell ⟨B, 4, none⟩ u).alloc (.cells cs 46)) w.heap.size 46 cs := Blk.new' _ _ _ (by simp)
theorem arg_keep {Q : Nat → Prop} {x : EX} {v : Value} (hx : LX Q w v x) (hQ : ¬ Q B) (u : Value) (o : Obj) : LX Q ((w.setCell ⟨B, 4, none⟩ u).alloc o) v x :=
  (hx.keep (Keeps.only (S := fun b => b = B) ((Only.refl (fun b => b = B) w).setCell (p := ⟨B, 4, none⟩) (.inl rfl) u) (by intro q hq e; exact hQ (e ▸ hq)))).keep (Keeps.below ((Below.refl _ _).alloc (Nat.le_refl _) _) (Nat.le_refl _))
end
def RightD (w0 : World) (n : Nat) (B C g : Nat) (TS : List Tok) (pv : Value) (r : P.Res ST) (e : Ending) (w' : World) : Prop :=
  ∃ c0 c1 c2 c3 c4 c5 c6, e = .returned (.tuple #[]) ∧ At7 w0 w' B C g TS pv (left r) c0 c1 c2 c3 c4 c5 c6 ∧ AnyS w' (.agg #[c0, c1, c2, c3, c4, c5, c6]) ∧ ∀ s ts, r = .ok (s, ts) → LS (From n) w' (.agg #[c0, c1, c2, c3, c4, c5, c6]) s
theorem right_load_eq {rg : List UInt8} {st : Sta} (hl : onIs [108, 111, 97, 100] st = true) : left (on st (P.rightF rg)) = left (on (tl st) accF) ∧ ∀ s ts, on st (P.rightF rg) = .ok (s, ts) → ∃ m l, on (tl st) accF = .ok ((m, l), ts) ∧ s = .mk 2 m rg l [] [] [] := by
  rcases st with q | ts
  · cases hl
  · have hl' : P.isS [108, 111, 97, 100] ts = true := hl
    simp only [on, P.rightF, hl', if_true, tl, accF]
    cases P.pMode ts.tail with
    | error p => exact ⟨rfl, fun _ _ h => by cases h⟩
    | ok x =>
      obtain ⟨m, r1⟩ := x
      simp only
      cases P.pName r1 with
      | error p => exact ⟨rfl, fun _ _ h => by cases h⟩
      | ok y => exact ⟨rfl, fun _ _ h => by cases h; exact ⟨_, _, rfl, rfl⟩⟩
theorem right_add_eq {rg : List UInt8} {st : Sta} (h0 : onIs [108, 111, 97, 100] st = false) (hl : onIs [97, 100, 100] st = true) : left (on st (P.rightF rg)) = left (on (left (on (tl st) accF)) P.pExpr) ∧ ∀ s ts, on st (P.rightF rg) = .ok (s, ts) → ∃ m l r x, on (tl st) accF = .ok ((m, l), r) ∧ on (left (on (tl st) accF)) P.pExpr = .ok (x, ts) ∧ s = .mk 4 m rg l [x] [] [] := by
  rcases st with q | ts
  · cases hl
  · have h0' : P.isS [108, 111, 97, 100] ts = false := h0
    have hl' : P.isS [97, 100, 100] ts = true := hl
    simp only [on, P.rightF, h0', hl', if_true, Bool.false_eq_true, if_false, tl, accF]
    cases P.pMode ts.tail with
    | error p => exact ⟨rfl, fun _ _ h => by cases h⟩
    | ok x =>
      obtain ⟨m, r1⟩ := x
      simp only
      cases P.pName r1 with
      | error p => exact ⟨rfl, fun _ _ h => by cases h⟩
      | ok y =>
        obtain ⟨l, r2⟩ := y
        simp only [left]
        cases P.pExpr r2 with
        | error p => exact ⟨rfl, fun _ _ h => by cases h⟩
        | ok z => exact ⟨rfl, fun _ _ h => by cases h; exact ⟨_, _, _, _, rfl, rfl, rfl⟩⟩
theorem right_cas_eq {rg : List UInt8} {st : Sta} (h0 : onIs [108, 111, 97, 100] st = false) (h1 : onIs [97, 100, 100] st = false) (hl : onIs [99, 97, 115] st = true) :
    left (on st (P.rightF rg)) = left (on (onNeed [44] (left (on (left (on (tl st) accF)) P.pExpr))) P.pExpr) ∧ ∀ s ts, on st (P.rightF rg) = .ok (s, ts) → ∃ m l r x r' y, on (tl st) accF = .ok ((m, l), r) ∧ on (left (on (tl st) accF)) P.pExpr = .ok (x, r') ∧ on (onNeed [44] (left (on (left (on (tl st) accF)) P.pExpr))) P.pExpr = .ok (y, ts) ∧ s = .mk 5 m rg l [x, y] [] [] := by
  rcases st with q | ts
  · cases hl
  · have h0' : P.isS [108, 111, 97, 100] ts = false := h0
    have h1' : P.isS [97, 100, 100] ts = false := h1
    have hl' : P.isS [99, 97, 115] ts = true := hl
    simp only [on, P.rightF, h0', h1', hl', if_true, Bool.false_eq_true, if_false, tl, accF]
    cases P.pMode ts.tail with
    | error p => exact ⟨rfl, fun _ _ h => by cases h⟩
    | ok x =>
      obtain ⟨m, r1⟩ := x
      simp only
      cases P.pName r1 with
      | error p => exact ⟨rfl, fun _ _ h => by cases h⟩
      | ok y =>
        obtain ⟨l, r2⟩ := y
        simp only [left]
        cases P.pExpr r2 with
        | error p => exact ⟨rfl, fun _ _ h => by cases h⟩
        | ok z =>
          obtain ⟨x, r3⟩ := z
          simp only [onNeed]
          cases P.need [44] r3 with
          | error p => exact ⟨rfl, fun _ _ h => by cases h⟩
          | ok r4 =>
            simp only
            cases P.pExpr r4 with
            | error p => exact ⟨rfl, fun _ _ h => by cases h⟩
            | ok z => exact ⟨rfl, fun _ _ h => by cases h; exact ⟨_, _, _, _, _, _, rfl, rfl, rfl, rfl⟩⟩
theorem right_set_eq {rg : List UInt8} {st : Sta} (h0 : onIs [108, 111, 97, 100] st = false) (h1 : onIs [97, 100, 100] st = false) (h2 : onIs [99, 97, 115] st = false) :
    left (on st (P.rightF rg)) = left (on st P.pExpr) ∧ ∀ s ts, on st (P.rightF rg) = .ok (s, ts) → ∃ x, on st P.pExpr = .ok (x, ts) ∧ s = .mk 1 0 rg [] [x] [] [] := by
  rcases st with q | ts
  · exact ⟨rfl, fun _ _ h => by cases h⟩
  · have h0' : P.isS [108, 111, 97, 100] ts = false := h0
    have h1' : P.isS [97, 100, 100] ts = false := h1
    have h2' : P.isS [99, 97, 115] ts = false := h2
    simp only [on, P.rightF, h0', h1', h2', if_true, Bool.false_eq_true, if_false]
    cases P.pExpr ts with
    | error p => exact ⟨rfl, fun _ _ h => by cases h⟩
    | ok z => exact ⟨rfl, fun _ _ h => by cases h; exact ⟨_, rfl, rfl⟩⟩
set_option maxHeartbeats 3200000 in
theorem right_load_d (rg : List UInt8) (w0 w : World) (B C g : Nat) (TS : List Tok) (pv : Value) (st : Sta) (h : At7 w0 w B C g TS pv st (.int .i64 0) (.int .i64 0) (.string (bs rg)) (.string ⟨#[]⟩) (.slice none 0 0) (.slice none 0 0) (.slice none 0 0)) (hload : onIs [108, 111, 97, 100] st = true) :
    Calls Tryz.prog 129 #[.pointer (some ⟨C, 0, none⟩), .pointer (some ⟨B, 0, none⟩)] w (RightD w0 w.heap.size B C g TS pv (on st (P.rightF rg))) := by
  have HE := Lib.hid (right_load_eq (rg := rg) hload)
  obtain ⟨hCl, hgl⟩ := h.dc.lts
  have hB0 := h.blk.lt
  have H0 := Lib.hid h
  have HPload := Lib.hid hload
  clear h hload
  go_enter Tryz.func129, Tryz.ntmps129
  go_wp2_with fail
  with_reducible refine (pass_d C g TS pv st ⟨#[108, 111, 97, 100]⟩ _ H0.out.dc (by decide)).mono ?_
  rintro e w1 ⟨rfl, hd, ho⟩
  rw [show by' (⟨#[108, 111, 97, 100]⟩ : ByteArray) = [108, 111, 97, 100] from rfl, HPload.out] at hd ⊢
  have H1 := Lib.hid (H0.out.call (st' := tl st) ho hd)
  have hs1 := ho.size
  clear hd ho
  go_wp2_with fail
  with_reducible refine (access_d 2 _ _ B C g TS pv _ _ _ _ _ _ _ _ H1.out.here).mono ?_
  rintro e w2 ⟨m, l, rfl, h7, hml⟩
  have H2 := Lib.hid (h7.since H1.out.only)
  have hs2 := h7.only.size
  have HML := Lib.hid hml
  clear h7 hml
  go_wp2_with fail
  go_end0
  refine ⟨_, _, _, _, _, _, _, rfl, HE.out.1 ▸ H2.out, ⟨_, _, _, _, _, _, _, _, _, _, _, _, _, rfl⟩, fun s ts hh => ?_⟩
  obtain ⟨m', l', h1, rfl⟩ := HE.out.2 s ts hh
  obtain ⟨rfl, rfl⟩ := HML.out m' l' ts h1
  exact ls_none
set_option maxHeartbeats 3200000 in
theorem right_add_d (rg : List UInt8) (w0 w : World) (B C g : Nat) (TS : List Tok) (pv : Value) (st : Sta) (h : At7 w0 w B C g TS pv st (.int .i64 0) (.int .i64 0) (.string (bs rg)) (.string ⟨#[]⟩) (.slice none 0 0) (.slice none 0 0) (.slice none 0 0)) (hload : onIs [108, 111, 97, 100] st = false) (hadd : onIs [97, 100, 100] st = true) :
    Calls Tryz.prog 129 #[.pointer (some ⟨C, 0, none⟩), .pointer (some ⟨B, 0, none⟩)] w (RightD w0 w.heap.size B C g TS pv (on st (P.rightF rg))) := by
  have HE := Lib.hid (right_add_eq (rg := rg) hload hadd)
  obtain ⟨hCl, hgl⟩ := h.dc.lts
  have hB0 := h.blk.lt
  have H0 := Lib.hid h
  have HPload := Lib.hid hload
  have HPadd := Lib.hid hadd
  clear h hload hadd
  go_enter Tryz.func129, Tryz.ntmps129
  go_wp2_with fail
  with_reducible refine (pass_d C g TS pv st ⟨#[108, 111, 97, 100]⟩ _ H0.out.dc (by decide)).mono ?_
  rintro e w1 ⟨rfl, hd, ho⟩
  rw [show by' (⟨#[108, 111, 97, 100]⟩ : ByteArray) = [108, 111, 97, 100] from rfl, HPload.out] at hd ⊢
  have H1 := Lib.hid (H0.out.call (st' := st) ho hd)
  have hs1 := ho.size
  clear hd ho
  go_wp2_with fail
  with_reducible refine (pass_d C g TS pv st ⟨#[97, 100, 100]⟩ _ H1.out.dc (by decide)).mono ?_
  rintro e w2 ⟨rfl, hd, ho⟩
  rw [show by' (⟨#[97, 100, 100]⟩ : ByteArray) = [97, 100, 100] from rfl, HPadd.out] at hd ⊢
  have H2 := Lib.hid (H1.out.call (st' := tl st) ho hd)
  have hs2 := ho.size
  clear hd ho
  go_wp2_with fail
  with_reducible refine (access_d 4 _ _ B C g TS pv _ _ _ _ _ _ _ _ H2.out.here).mono ?_
  rintro e w3 ⟨m, l, rfl, h7, hml⟩
  have H3 := Lib.hid (h7.since H2.out.only)
  have hs3 := h7.only.size
  have HML := Lib.hid hml
  clear h7 hml
  go_wp2_with fail
  have hb3 := H3.out.blk.lt
  with_reducible refine (exprTot_d C g TS pv _ _ H3.out.dc).mono ?_
  rintro e w4 ⟨v, rfl, ⟨ox, mx, sx, ax, nx, cx, rfl⟩, hd, ho, hx⟩
  have H4 := Lib.hid (H3.out.call ho hd)
  have HXx := Lib.hid hx
  have hs4 := ho.size
  clear hd ho hx
  obtain ⟨c0, c1, c2, c3, c4, c5, c6, f0, f1, f2, f3, f4, f5, f6⟩ := seven_free H4.out.blk
  have hRl : B < w4.heap.size := H4.out.blk.lt
  go_wp2_with fail
  go_end0
  refine ⟨_, _, _, _, _, _, _, rfl, HE.out.1 ▸ H4.out.arg _ 1, ⟨_, _, _, _, _, _, _, _, _, _, _, _, _, rfl⟩, fun s ts hh => ?_⟩
  obtain ⟨m', l', r, x, h1, h2, rfl⟩ := HE.out.2 s ts hh
  obtain ⟨rfl, rfl⟩ := HML.out m' l' r h1
  have hx := LX.mono (Q' := From w.heap.size) (by intro q hq _; unfold From at hq ⊢; omega) _ (HXx.out x ts h2)
  exact ls_args (by simp) (show From w.heap.size w4.heap.size by unfold From; omega) (lxs_one (arg_blk _ _ _ _) (arg_keep hx (by unfold From; omega) _ _))
set_option maxHeartbeats 3200000 in
theorem right_set_d (rg : List UInt8) (w0 w : World) (B C g : Nat) (TS : List Tok) (pv : Value) (st : Sta) (h : At7 w0 w B C g TS pv st (.int .i64 0) (.int .i64 0) (.string (bs rg)) (.string ⟨#[]⟩) (.slice none 0 0) (.slice none 0 0) (.slice none 0 0)) (hload : onIs [108, 111, 97, 100] st = false) (hadd : onIs [97, 100, 100] st = false) (hcas : onIs [99, 97, 115] st = false) :
    Calls Tryz.prog 129 #[.pointer (some ⟨C, 0, none⟩), .pointer (some ⟨B, 0, none⟩)] w (RightD w0 w.heap.size B C g TS pv (on st (P.rightF rg))) := by
  have HE := Lib.hid (right_set_eq (rg := rg) hload hadd hcas)
  obtain ⟨hCl, hgl⟩ := h.dc.lts
  have hB0 := h.blk.lt
  have H0 := Lib.hid h
  have HPload := Lib.hid hload
  have HPadd := Lib.hid hadd
  have HPcas := Lib.hid hcas
  clear h hload hadd hcas
  go_enter Tryz.func129, Tryz.ntmps129
  go_wp2_with fail
  with_reducible refine (pass_d C g TS pv st ⟨#[108, 111, 97, 100]⟩ _ H0.out.dc (by decide)).mono ?_
  rintro e w1 ⟨rfl, hd, ho⟩
  rw [show by' (⟨#[108, 111, 97, 100]⟩ : ByteArray) = [108, 111, 97, 100] from rfl, HPload.out] at hd ⊢
  have H1 := Lib.hid (H0.out.call (st' := st) ho hd)
  have hs1 := ho.size
  clear hd ho
  go_wp2_with fail
  with_reducible refine (pass_d C g TS pv st ⟨#[97, 100, 100]⟩ _ H1.out.dc (by decide)).mono ?_
  rintro e w2 ⟨rfl, hd, ho⟩
  rw [show by' (⟨#[97, 100, 100]⟩ : ByteArray) = [97, 100, 100] from rfl, HPadd.out] at hd ⊢
  have H2 := Lib.hid (H1.out.call (st' := st) ho hd)
  have hs2 := ho.size
  clear hd ho
  go_wp2_with fail
  with_reducible refine (pass_d C g TS pv st ⟨#[99, 97, 115]⟩ _ H2.out.dc (by decide)).mono ?_
  rintro e w3 ⟨rfl, hd, ho⟩
  rw [show by' (⟨#[99, 97, 115]⟩ : ByteArray) = [99, 97, 115] from rfl, HPcas.out] at hd ⊢
  have H3 := Lib.hid (H2.out.call (st' := st) ho hd)
  have hs3 := ho.size
  clear hd ho
  obtain ⟨c0, c1, c2, c3, c4, c5, c6, f0, f1, f2, f3, f4, f5, f6⟩ := seven_free H3.out.blk
  go_wp2_with fail
  have H4 := Lib.hid (H3.out.set0 (.int .i64 1))
  have hs4 : (w3.setCell ⟨B, 0, none⟩ (.int .i64 1)).heap.size = w3.heap.size := by simp
  clear c0 c1 c2 c3 c4 c5 c6 f0 f1 f2 f3 f4 f5 f6
  generalize w3.setCell ⟨B, 0, none⟩ (.int .i64 1) = w4 at *
  have hb4 := H4.out.blk.lt
  with_reducible refine (exprTot_d C g TS pv _ _ H4.out.dc).mono ?_
  rintro e w5 ⟨v, rfl, ⟨ox, mx, sx, ax, nx, cx, rfl⟩, hd, ho, hx⟩
  have H5 := Lib.hid (H4.out.call ho hd)
  have HXx := Lib.hid hx
  have hs5 := ho.size
  clear hd ho hx
  obtain ⟨c0, c1, c2, c3, c4, c5, c6, f0, f1, f2, f3, f4, f5, f6⟩ := seven_free H5.out.blk
  have hRl : B < w5.heap.size := H5.out.blk.lt
  go_wp2_with fail
  go_end0
  refine ⟨_, _, _, _, _, _, _, rfl, HE.out.1 ▸ H5.out.arg _ 1, ⟨_, _, _, _, _, _, _, _, _, _, _, _, _, rfl⟩, fun s ts hh => ?_⟩
  obtain ⟨x, h2, rfl⟩ := HE.out.2 s ts hh
  have hx := LX.mono (Q' := From w.heap.size) (by intro q hq _; unfold From at hq ⊢; omega) _ (HXx.out x ts h2)
  exact ls_args (lc := []) (by simp) (show From w.heap.size w5.heap.size by unfold From; omega) (lxs_one (arg_blk _ _ _ _) (arg_keep hx (by unfold From; omega) _ _))
set_option maxHeartbeats 3200000 in
theorem right_cas_d (rg : List UInt8) (w0 w : World) (B C g : Nat) (TS : List Tok) (pv : Value) (st : Sta) (h : At7 w0 w B C g TS pv st (.int .i64 0) (.int .i64 0) (.string (bs rg)) (.string ⟨#[]⟩) (.slice none 0 0) (.slice none 0 0) (.slice none 0 0)) (hload : onIs [108, 111, 97, 100] st = false) (hadd : onIs [97, 100, 100] st = false) (hcas : onIs [99, 97, 115] st = true) :
    Calls Tryz.prog 129 #[.pointer (some ⟨C, 0, none⟩), .pointer (some ⟨B, 0, none⟩)] w (RightD w0 w.heap.size B C g TS pv (on st (P.rightF rg))) := by
  have HE := Lib.hid (right_cas_eq (rg := rg) hload hadd hcas)
  obtain ⟨hCl, hgl⟩ := h.dc.lts
  have hB0 := h.blk.lt
  have H0 := Lib.hid h
  have HPload := Lib.hid hload
  have HPadd := Lib.hid hadd
  have HPcas := Lib.hid hcas
  clear h hload hadd hcas
  go_enter Tryz.func129, Tryz.ntmps129
  go_wp2_with fail
  with_reducible refine (pass_d C g TS pv st ⟨#[108, 111, 97, 100]⟩ _ H0.out.dc (by decide)).mono ?_
  rintro e w1 ⟨rfl, hd, ho⟩
  rw [show by' (⟨#[108, 111, 97, 100]⟩ : ByteArray) = [108, 111, 97, 100] from rfl, HPload.out] at hd ⊢
  have H1 := Lib.hid (H0.out.call (st' := st) ho hd)
  have hs1 := ho.size
  clear hd ho
  go_wp2_with fail
  with_reducible refine (pass_d C g TS pv st ⟨#[97, 100, 100]⟩ _ H1.out.dc (by decide)).mono ?_
  rintro e w2 ⟨rfl, hd, ho⟩
  rw [show by' (⟨#[97, 100, 100]⟩ : ByteArray) = [97, 100, 100] from rfl, HPadd.out] at hd ⊢
  have H2 := Lib.hid (H1.out.call (st' := st) ho hd)
  have hs2 := ho.size
  clear hd ho
  go_wp2_with fail
  with_reducible refine (pass_d C g TS pv st ⟨#[99, 97, 115]⟩ _ H2.out.dc (by decide)).mono ?_
  rintro e w3 ⟨rfl, hd, ho⟩
  rw [show by' (⟨#[99, 97, 115]⟩ : ByteArray) = [99, 97, 115] from rfl, HPcas.out] at hd ⊢
  have H3 := Lib.hid (H2.out.call (st' := tl st) ho hd)
  have hs3 := ho.size
  clear hd ho
  go_wp2_with fail
  with_reducible refine (access_d 5 _ _ B C g TS pv _ _ _ _ _ _ _ _ H3.out.here).mono ?_
  rintro e w4 ⟨m, l, rfl, h7, hml⟩
  have H4 := Lib.hid (h7.since H3.out.only)
  have hs4 := h7.only.size
  have HML := Lib.hid hml
  clear h7 hml
  go_wp2_with fail
  have hb4 := H4.out.blk.lt
  with_reducible refine (exprTot_d C g TS pv _ _ H4.out.dc).mono ?_
  rintro e w5 ⟨v, rfl, ⟨ox, mx, sx, ax, nx, cx, rfl⟩, hd, ho, hx⟩
  have H5 := Lib.hid (H4.out.call ho hd)
  have HXx := Lib.hid hx
  have hs5 := ho.size
  clear hd ho hx
  go_wp2_with fail
  have hE6 := Blk.new w5 46 #[.int .i64 ox, .int .i64 mx, .string sx, .slice ax nx cx]
  have H6 := Lib.hid (H5.out.alloc (.cells #[.int .i64 ox, .int .i64 mx, .string sx, .slice ax nx cx] 46))
  have hs6 : (w5.alloc (.cells #[.int .i64 ox, .int .i64 mx, .string sx, .slice ax nx cx] 46)).heap.size = w5.heap.size + 1 := by simp
  have HX6 := Lib.hid (fun x ts hh => (HXx.out x ts hh).keep (Keeps.below (w' := w5.alloc (.cells #[.int .i64 ox, .int .i64 mx, .string sx, .slice ax nx cx] 46)) ((Below.refl _ _).alloc (Nat.le_refl _) _) (Nat.le_refl _)))
  generalize w5.alloc (.cells #[.int .i64 ox, .int .i64 mx, .string sx, .slice ax nx cx] 46) = w6 at *
  with_reducible refine (want_d C g TS pv _ ⟨#[44]⟩ _ H6.out.dc (by decide)).mono ?_
  rintro e w7 ⟨rfl, hd, ho⟩
  have HE7 := Lib.hid (hE6.only ho (by omega))
  have H7 := Lib.hid (H6.out.call ho hd)
  have hs7 := ho.size
  have HX7 := Lib.hid (fun x ts hh => (HX6.out x ts hh).keep (Keeps.only ho (by intro q hq e; unfold From at hq; omega)))
  clear hd ho hE6
  have HSd := Lib.hid (exprTot_d C g TS pv _ w7.drew H7.out.dc.drew)
  obtain ⟨d0, d1, d2, d3, _, _, _, _⟩ := four_free HE7.out
  have hb7 := H7.out.blk.lt
  go_wp2_with fail
  go_region_with ((go_at_call 127; (with_reducible refine HSd.out.mono ?_); rintro e w8 ⟨v8, rfl, ⟨oy, my, sy, ay, ny, cy, rfl⟩, hd8, ho8, hx8⟩; have hE8 := (HE7.out.only (S := (· = C)) ((Only.refl (· = C) w7).drew) (by omega)).only ho8 (by omega); have h8 := H7.out.call (((Only.refl (· = C) w7).drew).trans ho8) hd8; obtain ⟨p0, p1, p2, p3, _, _, _, _⟩ := four_free hE8; obtain ⟨c0, c1, c2, c3, c4, c5, c6, f0, f1, f2, f3, f4, f5, f6⟩ := seven_free h8.blk; have hRl : B < w8.heap.size := h8.blk.lt))
  all_goals
    go_end0
    have ho8' := ((Only.refl (· = C) w7).drew).trans ho8
    have hs8 := ho8'.size
    refine ⟨_, _, _, _, _, _, _, rfl, HE.out.1 ▸ h8.arg _ 2, ⟨_, _, _, _, _, _, _, _, _, _, _, _, _, rfl⟩, fun s ts hh => ?_⟩
    obtain ⟨m', l', r, x, r', y, h1, h2, h3, rfl⟩ := HE.out.2 s ts hh
    obtain ⟨rfl, rfl⟩ := HML.out m' l' r h1
    have hx := LX.mono (Q' := From w.heap.size) (by intro q hq _; unfold From at hq ⊢; omega) _ ((HX7.out x r' h2).keep (Keeps.only ho8' (by intro q hq e; unfold From at hq; omega)))
    have hw7 : w7.drew.heap.size = w7.heap.size := rfl
    have hy := LX.mono (Q' := From w.heap.size) (by intro q hq _; unfold From at hq ⊢; omega) _ (hx8 y ts h3)
    exact ls_args (by simp) (show From w.heap.size w8.heap.size by unfold From; omega) (lxs_two (arg_blk _ _ _ _) (arg_keep hx (by unfold From; omega) _ _) (arg_keep hy (by unfold From; omega) _ _))
theorem right_d (rg : List UInt8) (w0 w : World) (B C g : Nat) (TS : List Tok) (pv : Value) (st : Sta) (h : At7 w0 w B C g TS pv st (.int .i64 0) (.int .i64 0) (.string (bs rg)) (.string ⟨#[]⟩) (.slice none 0 0) (.slice none 0 0) (.slice none 0 0)) :
    Calls Tryz.prog 129 #[.pointer (some ⟨C, 0, none⟩), .pointer (some ⟨B, 0, none⟩)] w (RightD w0 w.heap.size B C g TS pv (on st (P.rightF rg))) := by
  cases h1 : onIs [108, 111, 97, 100] st with
  | true => exact right_load_d rg w0 w B C g TS pv st h h1
  | false =>
    cases h2 : onIs [97, 100, 100] st with
    | true => exact right_add_d rg w0 w B C g TS pv st h h1 h2
    | false =>
      cases h3 : onIs [99, 97, 115] st with
      | true => exact right_cas_d rg w0 w B C g TS pv st h h1 h2 h3
      | false => exact right_set_d rg w0 w B C g TS pv st h h1 h2 h3
end Go.Proofs.YtgobcflfhabdhaaGreatDoor.Lx
