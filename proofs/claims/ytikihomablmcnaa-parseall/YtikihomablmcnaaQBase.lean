/-
  The document's cursor, whatever its state, and what it keeps: words and contracts.
-/
import Derived.Test.YtikihomablmcnaaDCell
import Derived.Test.YtikihomablmcnaaPE
namespace Go.Proofs.Ytikihomablmcnaa.Lx
open Go.RowKit
open L (Tok)
open P (EX CO ST Gl nextR)
set_option maxRecDepth 100000
set_option linter.unusedVariables false
set_option linter.unusedSimpArgs false
/-- The document's cursor at a state. -/
def Cs (w : World) (C g cap : Nat) (TS : List Tok) (pv : Value) (st : Sta) : Prop := ∃ k bad, Cur w C g cap TS pv k bad ∧ Stat TS k bad st
section
variable {w w' : World} {C g cap : Nat} {TS : List Tok} {pv : Value} {st : Sta}
theorem Cs.other (h : Cs w C g cap TS pv st) {S : Nat → Prop} (ho : Only S w w') (hC : ¬ S C) (hg : ¬ S g) : Cs w' C g cap TS pv st := by
  obtain ⟨k, bad, h1, h2⟩ := h
  exact ⟨k, bad, h1.other ho hC hg, h2⟩
theorem Cs.below (h : Cs w C g cap TS pv st) (hb : Below w.heap.size w w') : Cs w' C g cap TS pv st := h.other (S := fun _ => False) (.of_below hb) id id
theorem Cs.drew (h : Cs w C g cap TS pv st) : Cs w.drew C g cap TS pv st := by
  obtain ⟨k, bad, h1, h2⟩ := h
  exact ⟨k, bad, h1.drew, h2⟩
theorem Cs.lts (h : Cs w C g cap TS pv st) : C < w.heap.size ∧ g < w.heap.size := by
  obtain ⟨k, bad, h1, h2⟩ := h
  exact h1.lts
theorem Cs.blk (h : Cs w C g cap TS pv st) : ∃ cs, Blk w C 65 cs := by
  obtain ⟨k, bad, h1, h2⟩ := h
  exact ⟨_, h1.blk⟩
theorem Cs.live {ts : List Tok} (h : Cs w C g cap TS pv (.ok ts)) : 0 < ts.length := by
  obtain ⟨k, bad, h1, h2, rfl⟩ := h
  have := h1.lt
  rw [List.length_drop]
  omega
theorem Cs.slen (h : Cs w C g cap TS pv st) : slen st ≤ 10000 := by
  rcases st with q | ts
  · exact Nat.zero_le _
  · obtain ⟨k, bad, h1, h2, rfl⟩ := h
    have := h1.max
    show (TS.drop k).length ≤ _
    rw [List.length_drop]
    omega
/-- How much is left, as memory has it. -/
def qAt (n C : Nat) (w : World) : Nat :=
  match w.cell? ⟨C, 2, none⟩, w.cell? ⟨C, 1, none⟩ with
  | some (.int _ b), some (.int _ k) => if b < 0 then n - k.toNat else 0
  | _, _ => 0
theorem Cs.qAt (h : Cs w C g cap TS pv st) : qAt TS.length C w = Lx.slen st := by
  obtain ⟨k, bad, h1, h2⟩ := h
  obtain ⟨_, c1, c2, _⟩ := h1.cells
  unfold Lx.qAt
  rw [c1, c2]
  rcases st with q | ts
  · obtain rfl : bad = (q : Nat) := h2
    simp only
    rw [if_neg (by omega)]
    rfl
  · obtain ⟨rfl, rfl⟩ := h2
    simp only
    rw [if_pos (by omega)]
    show _ = (TS.drop k).length
    rw [List.length_drop]
    simp
end
/-- A reader's answer, whatever the state. -/
def TotC {α : Type} (Val : World → Value → α → Prop) (Any : World → Value → Prop) (C g cap : Nat) (TS : List Tok) (pv : Value) (r : P.Res α) (w : World) (e : Ending) (w' : World) : Prop :=
  ∃ v, e = .returned v ∧ Any w' v ∧ Cs w' C g cap TS pv (left r) ∧ Only (· = C) w w' ∧ ∀ a ts, r = .ok (a, ts) → Val w' v a
theorem tot_c {α : Type} {Val : World → Value → α → Prop} {Any : World → Value → Prop} {C g cap : Nat} {TS : List Tok} {pv : Value} {k : Nat} {r : P.Res α} {w : World} {e : Ending} {w' : World} (h : TotTo Val Any C g cap TS pv k r w e w') : TotC Val Any C g cap TS pv r w e w' := by
  obtain ⟨v, k', bad', rfl, ha, _, hc, ho, hs, hv⟩ := h
  exact ⟨v, rfl, ha, ⟨k', bad', hc, hs⟩, ho, hv⟩
theorem name_c (C g cap : Nat) (TS : List Tok) (pv : Value) (st : Sta) (w : World) (h : Cs w C g cap TS pv st) :
    Calls Try.prog 35 #[.pointer (some ⟨C, 0, none⟩)] w (TotC IsText AnyText C g cap TS pv (on st P.pName) w) := by
  obtain ⟨k, bad, h1, h2⟩ := h
  exact (name_tot C g cap TS pv k bad st w h1 h2).mono fun _ _ h => tot_c h
theorem number_c (C g cap : Nat) (TS : List Tok) (pv : Value) (st : Sta) (w : World) (h : Cs w C g cap TS pv st) :
    Calls Try.prog 36 #[.pointer (some ⟨C, 0, none⟩)] w (TotC IsNum AnyNum C g cap TS pv (on st P.pNum) w) := by
  obtain ⟨k, bad, h1, h2⟩ := h
  exact (number_tot C g cap TS pv k bad st w h1 h2).mono fun _ _ h => tot_c h
theorem mode_c (C g cap : Nat) (TS : List Tok) (pv : Value) (st : Sta) (w : World) (h : Cs w C g cap TS pv st) :
    Calls Try.prog 91 #[.pointer (some ⟨C, 0, none⟩)] w (TotC IsNum AnyNum C g cap TS pv (on st P.pMode) w) := by
  obtain ⟨k, bad, h1, h2⟩ := h
  exact (mode_tot C g cap TS pv k bad st w h1 h2).mono fun _ _ h => tot_c h
theorem expr_c (C g cap : Nat) (TS : List Tok) (pv : Value) (st : Sta) (w : World) (h : Cs w C g cap TS pv st) :
    Calls Try.prog 92 #[.pointer (some ⟨C, 0, none⟩)] w (TotC (LX (From w.heap.size)) AnyX C g cap TS pv (on st P.pExpr) w) := by
  obtain ⟨k, bad, h1, h2⟩ := h
  exact (expr_tot C g cap TS pv k bad st w h1 h2).mono fun _ _ h => tot_c h
theorem cond_c (C g cap : Nat) (TS : List Tok) (pv : Value) (st : Sta) (w : World) (h : Cs w C g cap TS pv st) :
    Calls Try.prog 39 #[.pointer (some ⟨C, 0, none⟩)] w (TotC (LC (From w.heap.size)) AnyC C g cap TS pv (on st P.pCond) w) := by
  obtain ⟨k, bad, h1, h2⟩ := h
  exact (cond_tot C g cap TS pv k bad st w h1 h2).mono fun _ _ h => tot_c h
theorem right_c (C g cap : Nat) (TS : List Tok) (pv : Value) (ts : List Tok) (rg : List UInt8) (w : World) (h : Cs w C g cap TS pv (.ok ts)) :
    Calls Try.prog 93 #[.pointer (some ⟨C, 0, none⟩), .agg #[.int .i64 0, .int .i64 0, .string (bs rg), .string ⟨#[]⟩, .slice none 0 0, .slice none 0 0, .slice none 0 0]] w (TotC (LS (From w.heap.size)) AnyS C g cap TS pv (P.rightF rg ts) w) := by
  obtain ⟨k, bad, h1, rfl, rfl⟩ := h
  exact (right_live C g cap TS pv k rg w h1).mono fun _ _ h => tot_c h
def WantC (C g cap : Nat) (TS : List Tok) (pv : Value) (st : Sta) (w : World) (e : Ending) (w' : World) : Prop := e = .returned (.tuple #[]) ∧ Cs w' C g cap TS pv st ∧ Only (· = C) w w'
theorem need_c (C g cap : Nat) (TS : List Tok) (pv : Value) (st : Sta) (s : ByteArray) (w : World) (h : Cs w C g cap TS pv st) :
    Calls Try.prog 34 #[.pointer (some ⟨C, 0, none⟩), .string s] w (WantC C g cap TS pv (onNeed (by' s) st) w) := by
  obtain ⟨k, bad, h1, h2⟩ := h
  refine (need_tot C g cap TS pv k bad st s w h1 h2).mono ?_
  rintro e w' ⟨k', bad', rfl, _, hc, ho, hs⟩
  exact ⟨rfl, ⟨k', bad', hc, hs⟩, ho⟩
theorem is_c (C g cap : Nat) (TS : List Tok) (pv : Value) (st : Sta) (s : ByteArray) (w : World) (h : Cs w C g cap TS pv st) :
    Calls Try.prog 37 #[.pointer (some ⟨C, 0, none⟩), .string s] w (BoolTo (onIs (by' s) st) w) := by
  obtain ⟨k, bad, h1, h2⟩ := h
  exact is_tot C g cap TS pv k bad st s w h1 h2
/-- The cursor's step past a token that is not the end: what the walk wants, and what becomes of it. -/
theorem Cs.past {w : World} {C g cap : Nat} {TS : List Tok} {pv : Value} {st : Sta} {s : List UInt8} (h : Cs w C g cap TS pv st) (hs : onIs s st = true) :
    ∃ k : Nat, w.cell? ⟨C, 1, none⟩ = some (.int .i64 k) ∧ w.frozen? ⟨C, 1, none⟩ = false ∧ k ≤ 10000 ∧ Cs (w.setCell ⟨C, 1, none⟩ (.int .i64 ((k : Int) + 1))) C g cap TS pv (tl st) := by
  obtain ⟨k, bad, h1, h2⟩ := h
  rcases st with q | ts
  · cases hs
  · obtain ⟨rfl, rfl⟩ := h2
    have hs' : P.isS s (TS.drop k) = true := hs
    have hq1 : k + 1 < TS.length := h1.more (isS_kind (s := s) (by rw [← drop_tat h1.lt]; exact hs'))
    obtain ⟨_, c1, _, _, f1, _, _⟩ := h1.cells
    exact ⟨k, c1, f1, by have := h1.max; omega, k + 1, -1, h1.step hq1, rfl, by rw [List.tail_drop]⟩
theorem only_at (w : World) (C : Nat) (u : Value) : Only (· = C) w (w.setCell ⟨C, 1, none⟩ u) := (Only.refl (· = C) w).setCell (p := ⟨C, 1, none⟩) (.inl rfl) u
/-- A reader's answer that keeps places. -/
def PtC {α : Type} (Val : (Nat → Prop) → World → Value → α → Prop) (Any : World → Value → Prop) (C g cap base : Nat) (TS : List Tok) (pv : Value) (ps : List Nat) (k : Nat) (r : P.Res (α × List Nat)) (w : World) (e : Ending) (w' : World) : Prop :=
  ∃ v pv' ps', e = .returned v ∧ Any w' v ∧ Cs w' C g cap TS pv' (left r) ∧ OwnP w' base pv' ps' ∧ ps'.length + slen (left r) ≤ ps.length + k ∧ Only (Pb C pv) w w' ∧ Fr pv pv' w.heap.size ∧ ∀ a qs ts, r = .ok ((a, qs), ts) → ps' = ps ++ qs ∧ Val (Nw w.heap.size pv') w' v a
section
variable {α : Type} (sz : Nat) (mk : List Value → Value) (Val : (Nat → Prop) → World → Value → α → Prop)
/-- What many's loop keeps. -/
structure Mc (ty : TypeId) (tot : List Tok → P.Res (List α × List Nat)) (C g cap base : Nat) (TS : List Tok) (pv : Value) (ps : List Nat) (st : Sta) (w : World) (l : Value) (wr : World) (pvj : Value) (psj : List Nat) (m : Nat) (vals : List Value) (r : P.Res (List α × List Nat)) : Prop where
  own : wr.ownsRow w.heap.size ty sz l m vals
  dc : Cs wr C g cap TS pvj (left r)
  pl : OwnP wr base pvj psj
  bound : psj.length + slen (left r) ≤ ps.length + slen st
  cnt : m + slen (left r) ≤ slen st
  only : Only (Pb C pv) w wr
  fr : Fr pv pvj w.heap.size
  sum : on st tot = Gl tot r
  live : ∀ es qs ts, r = .ok ((es, qs), ts) → psj = ps ++ qs ∧ m = es.length ∧ RowsV sz mk Val (fun b => w.heap.size ≤ b ∧ pvj.ownBlock ≠ some b ∧ l.ownBlock ≠ some b) wr vals es
end
section
variable {α : Type} {sz : Nat} {mk : List Value → Value} {Val : (Nat → Prop) → World → Value → α → Prop} {ty : TypeId} {tot : List Tok → P.Res (List α × List Nat)} {C g cap base : Nat} {TS : List Tok} {pv : Value} {ps : List Nat} {st : Sta} {w : World}
theorem Mc.start (h : Cs w C g cap TS pv st) (hp : OwnP w base pv ps) : Mc sz mk Val ty tot C g cap base TS pv ps st w (.slice none 0 0) w pv ps 0 [] (startR st) := by
  rcases st with q | ts
  · refine ⟨World.ownsRow_nil _ _ _ _, h, hp, Nat.le_refl _, Nat.zero_le _, Only.refl _ _, Fr.refl _ _, rfl, fun _ _ _ hh => by cases hh⟩
  · refine ⟨World.ownsRow_nil _ _ _ _, h, hp, Nat.le_refl _, by rw [Nat.zero_add]; exact Nat.le_refl _, Only.refl _ _, Fr.refl _ _, (P.glue_nil _).symm, fun es qs r hh => ?_⟩
    cases hh
    exact ⟨by simp, rfl, rfl⟩
theorem Mc.step (hV : StepV Val) (hty : ty ≠ 3) {l : Value} {wr : World} {pvj : Value} {psj : List Nat} {m : Nat} {vals : List Value} {es : List α} {qs : List Nat} {ts : List Tok} (hCl : C < w.heap.size) (hgl : g < w.heap.size)
    (h : Mc sz mk Val ty tot C g cap base TS pv ps st w l wr pvj psj m vals (.ok ((es, qs), ts))) {one : P.Res (α × List Nat)} (hm : tot ts = P.moreR tot one) (hl : ∀ a r, one = .ok (a, r) → r.length < ts.length)
    {w1 : World} {pv1 : Value} {ps1 : List Nat} {cs : List Value} (hcs : cs.length = sz) (hd1 : Cs w1 C g cap TS pv1 (left one)) (hp1 : OwnP w1 base pv1 ps1) (hb1 : ps1.length + slen (left one) ≤ psj.length + ts.length) (ho1 : Only (Pb C pvj) wr w1) (hf1 : Fr pvj pv1 wr.heap.size)
    (hv1 : ∀ a q t2, one = .ok ((a, q), t2) → ps1 = psj ++ q ∧ Val (Nw wr.heap.size pv1) w1 (mk cs) a)
    {w2 : World} {o : Obj} {g2 cap2 : Nat} (hgr : (w1.alloc o).grownBy w2 l.ownBlock) (how : w2.ownsRow w.heap.size ty sz (.slice (some ⟨g2, 0, none⟩) (m + 1) cap2) (m + 1) (vals ++ cs)) (hat : l.ownBlock = some g2 ∨ g2 = w1.heap.size + 1) :
    Mc sz mk Val ty tot C g cap base TS pv ps st w (.slice (some ⟨g2, 0, none⟩) (m + 1) cap2) w2 pv1 ps1 (m + 1) (vals ++ cs) (nextR es qs one) ∧ slen (left (nextR es qs one)) < ts.length := by
  have hlive : 0 < ts.length := h.dc.live
  have hlt : slen (left one) < ts.length := by
    rcases hone : one with p | ⟨a, r⟩
    · exact hlive
    · exact hl a r hone
  have hs1 := ho1.size
  have hs0 := h.only.size
  have hLb : ∀ k, l.ownBlock = some k → w.heap.size ≤ k ∧ k < wr.heap.size := fun k hk => h.own.lt k hk
  have hLp := own_types h.own h.pl hty
  have hO2 : Only (fun b => l.ownBlock = some b) w1 w2 := ((Only.refl _ w1).alloc o).grown' hgr (fun k hk => .inl hk)
  have hF1 : Fr pv pv1 w.heap.size := h.fr.trans hf1 hs0
  have hO1 : Only (Pb C pv) w w1 := h.only.then ho1 (fun j hj => by
    rcases hj with hj | hj
    · exact .inl (.inl hj)
    · rcases h.fr j hj with h1 | h1
      · exact .inl (.inr h1)
      · exact .inr h1)
  have hp1n : ∀ k, l.ownBlock = some k → pv1.ownBlock ≠ some k := fun k hk e => by
    rcases hf1 k e with h1 | h1
    · exact hLp k hk h1
    · have := (hLb k hk).2
      omega
  refine ⟨⟨how, ?_, ?_, ?_, ?_, ?_, hF1, ?_, ?_⟩, by rw [left_next]; exact hlt⟩
  · rw [left_next]
    exact hd1.other hO2 (fun e => by have := (hLb C e).1; omega) (fun e => by have := (hLb g e).1; omega)
  · exact own_only hp1 hO2 (fun k hk e => hp1n k e hk)
  · rw [left_next]
    have := h.bound
    have e : slen (left (.ok ((es, qs), ts) : P.Res (List α × List Nat))) = ts.length := rfl
    omega
  · rw [left_next]
    have := h.cnt
    have e : slen (left (.ok ((es, qs), ts) : P.Res (List α × List Nat))) = ts.length := rfl
    omega
  · exact hO1.then hO2 (fun j hj => .inr (hLb j hj).1)
  · rw [h.sum]
    exact P.Gl_next hm es qs
  · intro es' qs' ts' hh
    rcases hone : one with p | ⟨⟨a, q⟩, r⟩
    · rw [hone] at hh
      cases hh
    · rw [hone] at hh
      cases hh
      obtain ⟨e1, e2, e3⟩ := h.live es qs ts rfl
      obtain ⟨e4, e5⟩ := hv1 a q _ hone
      refine ⟨by rw [e4, e1, List.append_assoc], by simp [e2], ?_⟩
      have hsame : ∀ b, b < w1.heap.size → l.ownBlock ≠ some b → w2.heap[b]? = w1.heap[b]? := fun b hb hn => hO2.block b hb hn
      have hnew : ∀ b, b < w1.heap.size → l.ownBlock ≠ some b → (Value.slice (some ⟨g2, 0, none⟩) (m + 1) cap2).ownBlock ≠ some b := fun b hb hn e => by
        have e' : g2 = b := by injection e
        subst e'
        rcases hat with h1 | h1
        · exact hn h1
        · omega
      refine RowsV.snoc sz mk Val hcs (hV ?_ e5) es vals (RowsV.step sz mk Val hV ?_ es vals e3)
      · intro b hb hl2
        have hbl : l.ownBlock ≠ some b := fun e => by have := (hLb b e).2; have := hb.1; omega
        exact ⟨⟨by have := hb.1; omega, hb.2, hnew b hl2 hbl⟩, hsame b hl2 hbl⟩
      · intro b hb hl2
        obtain ⟨b1, b2, b3⟩ := hb
        have hb4 : b < w1.heap.size := by omega
        refine ⟨⟨b1, fun e => ?_, hnew b hb4 b3⟩, (hsame b hb4 b3).trans (ho1.block b hl2 ?_)⟩
        · rcases hf1 b e with h1 | h1
          · exact b2 h1
          · omega
        · rintro (e | e)
          · omega
          · exact b2 e
end
/-- The cursor and its places, since w. -/
structure Cq (w w' : World) (C g cap base : Nat) (TS : List Tok) (pv pv' : Value) (ps' : List Nat) (st : Sta) : Prop where
  dc : Cs w' C g cap TS pv' st
  own : OwnP w' base pv' ps'
  only : Only (Pb C pv) w w'
  fr : Fr pv pv' w.heap.size
section
variable {w w1 : World} {C g cap base : Nat} {TS : List Tok} {pv pv' : Value} {ps' : List Nat} {st : Sta}
theorem Cq.start {ps : List Nat} (h : Cs w C g cap TS pv st) (hp : OwnP w base pv ps) : Cq w w C g cap base TS pv pv ps st := ⟨h, hp, Only.refl _ _, Fr.refl _ _⟩
theorem Cq.far (h : Cq w w1 C g cap base TS pv pv' ps' st) {B : Nat} {t : TypeId} {cs : Array Value} (hB : Blk w1 B t cs) (h1 : 3 ≠ t) (h2 : 65 ≠ t) : ¬ Pb C pv' B := by
  rintro (e | e)
  · obtain ⟨cs0, hb⟩ := h.dc.blk
    exact Blk.ne hb hB h2 e.symm
  · exact own_ne h.own hB h1 e
theorem Cq.notC (h : Cq w w1 C g cap base TS pv pv' ps' st) : ∀ k, pv'.ownBlock = some k → k ≠ C := by
  intro k hk e
  subst e
  obtain ⟨cs0, hb⟩ := h.dc.blk
  exact own_ne (t' := 65) h.own hb (by decide) hk
theorem Cq.call (h : Cq w w1 C g cap base TS pv pv' ps' st) {w2 : World} {st2 : Sta} (ho : Only (· = C) w1 w2) (hd : Cs w2 C g cap TS pv' st2) : Cq w w2 C g cap base TS pv pv' ps' st2 :=
  ⟨hd, own_only h.own ho (fun k hk e => h.notC k hk e), h.only.then ho (fun j hj => .inl (.inl hj)), h.fr⟩
theorem Cq.near (h : Cq w w1 C g cap base TS pv pv' ps' st) {B : Nat} (hB : w.heap.size ≤ B) (hp : pv'.ownBlock ≠ some B) {w2 : World} {st2 : Sta} (ho : Only (fun b => b = C ∨ b = B) w1 w2) (hd : Cs w2 C g cap TS pv' st2) : Cq w w2 C g cap base TS pv pv' ps' st2 :=
  ⟨hd, own_only h.own ho (fun k hk e => by
    rcases e with e | e
    · exact h.notC k hk e
    · exact hp (e ▸ hk)), h.only.then ho (fun j hj => by
    rcases hj with e | e
    · exact .inl (.inl e)
    · exact .inr (by omega)), h.fr⟩
/-- A call that keeps places, too. -/
theorem Cq.on (h : Cq w w1 C g cap base TS pv pv' ps' st) {w2 : World} {st2 : Sta} {pv2 : Value} {ps2 : List Nat} (hd : Cs w2 C g cap TS pv2 st2) (hp : OwnP w2 base pv2 ps2) (ho : Only (Pb C pv') w1 w2) (hf : Fr pv' pv2 w1.heap.size) : Cq w w2 C g cap base TS pv pv2 ps2 st2 :=
  ⟨hd, hp, h.only.then ho (fun j hj => by
    rcases hj with e | e
    · exact .inl (.inl e)
    · rcases h.fr j e with h1 | h1
      · exact .inl (.inr h1)
      · exact .inr h1), h.fr.trans hf h.only.size⟩
theorem Cq.put7 (h : Cq w w1 C g cap base TS pv pv' ps' st) {R : Nat} (hR : w.heap.size ≤ R) (hgR : g ≠ R) {cs : Array Value} (hB : Blk w1 R 62 cs) (u0 u1 u2 u3 u4 u5 u6 : Value) : Cq w (put7w w1 R u0 u1 u2 u3 u4 u5 u6) C g cap base TS pv pv' ps' st := by
  have hf := h.far hB (by decide) (by decide)
  exact h.near hR (fun e => hf (.inr e)) (put7_only w1 R u0 u1 u2 u3 u4 u5 u6) (h.dc.other (S := fun b => b = R) (Only.put7 (Only.refl (fun b => b = R) w1) (.inl rfl) _ _ _ _ _ _ _) (fun e => hf (.inl e.symm)) hgR)
end
theorem stmt_done_c {w w4 : World} {C g cap base : Nat} {TS : List Tok} {pv pv4 : Value} {ps ps4 : List Nat} {r : P.Res (ST × List Nat)} {st : Sta} {R k : Nat} {cs : Array Value} {u0 u1 u2 u3 u4 u5 u6 : Value}
    (H : Cq w w4 C g cap base TS pv pv4 ps4 st) (hst : left r = st) (HR : Blk w4 R 62 cs) (hRw : w.heap.size ≤ R) (hgR : g ≠ R) (hb : ps4.length + slen (left r) ≤ ps.length + k) (ha : AnyS w4 (.agg #[u0, u1, u2, u3, u4, u5, u6]))
    (hv : ∀ a qs ts, r = .ok ((a, qs), ts) → ps4 = ps ++ qs ∧ LS (fun b => Nw w.heap.size pv4 b ∧ b ≠ R) w4 (.agg #[u0, u1, u2, u3, u4, u5, u6]) a) :
    PtC LS AnyS C g cap base TS pv ps k r w (.returned (.agg #[u0, u1, u2, u3, u4, u5, u6])) (put7w w4 R u0 u1 u2 u3 u4 u5 u6) := by
  have H5 := H.put7 hRw hgR HR u0 u1 u2 u3 u4 u5 u6
  refine ⟨_, pv4, ps4, rfl, by unfold AnyS at ha ⊢; exact ha, hst ▸ H5.dc, H5.own, hb, H5.only, H5.fr, fun a qs ts hh => ?_⟩
  obtain ⟨h1, h2⟩ := hv a qs ts hh
  refine ⟨h1, LS.step ?_ h2⟩
  intro b hb hl
  exact ⟨hb.1, (Only.put7 (Only.refl (fun b => b = R) w4) (.inl rfl) u0 u1 u2 u3 u4 u5 u6).block b hl hb.2⟩
theorem Cq.set {w w1 : World} {C g cap base : Nat} {TS : List Tok} {pv pv' : Value} {ps' : List Nat} {st : Sta} (h : Cq w w1 C g cap base TS pv pv' ps' st) {B : Nat} (hR : w.heap.size ≤ B) (hgR : g ≠ B) {cs : Array Value} (hB : Blk w1 B 62 cs) (i : Nat) (u : Value) : Cq w (w1.setCell ⟨B, i, none⟩ u) C g cap base TS pv pv' ps' st := by
  have hf := h.far hB (by decide) (by decide)
  have ho : Only (fun b => b = B) w1 (w1.setCell ⟨B, i, none⟩ u) := (Only.refl (fun b => b = B) w1).setCell (p := ⟨B, i, none⟩) (.inl rfl) u
  exact h.near hR (fun e => hf (.inr e)) (ho.mono fun k hk => .inr hk) (h.dc.other ho (fun e => hf (.inl e.symm)) hgR)
/-- A cell of a block that is neither the cursor's nor the places'. -/
theorem Cq.put {w w1 : World} {C g cap base : Nat} {TS : List Tok} {pv pv' : Value} {ps' : List Nat} {st : Sta} (h : Cq w w1 C g cap base TS pv pv' ps' st) {B : Nat} {t : TypeId} (h1 : 3 ≠ t) (h2 : 65 ≠ t) (hR : w.heap.size ≤ B) (hgR : g ≠ B) {cs : Array Value} (hB : Blk w1 B t cs) (i : Nat) (u : Value) : Cq w (w1.setCell ⟨B, i, none⟩ u) C g cap base TS pv pv' ps' st := by
  have hf := h.far hB h1 h2
  have ho : Only (fun b => b = B) w1 (w1.setCell ⟨B, i, none⟩ u) := (Only.refl (fun b => b = B) w1).setCell (p := ⟨B, i, none⟩) (.inl rfl) u
  exact h.near hR (fun e => hf (.inr e)) (ho.mono fun k hk => .inr hk) (h.dc.other ho (fun e => hf (.inl e.symm)) hgR)
/-- The token here, as the walk wants it. -/
theorem Cs.tok {w : World} {C g cap : Nat} {TS : List Tok} {pv : Value} {st : Sta} (h : Cs w C g cap TS pv st) :
    ∃ (k : Nat) (bad : Int) (t : Tok), k < TS.length ∧ TS.length ≤ 10000 ∧ Blk w C 65 #[.slice (some ⟨g, 0, none⟩) TS.length cap, .int .i64 k, .int .i64 bad, pv] ∧ Four w g (k * 4) t ∧ Stat TS k bad st ∧ ∀ ts, st = .ok ts → P.here ts = t.at' ∧ ∃ r, ts = t :: r := by
  obtain ⟨k, bad, h1, h2⟩ := h
  refine ⟨k, bad, tat TS k, h1.lt, h1.max, h1.blk, h1.row k h1.lt, h2, fun ts e => ?_⟩
  subst e
  obtain ⟨_, rfl⟩ := h2
  rw [drop_tat h1.lt]
  exact ⟨rfl, _, rfl⟩
theorem Cs.bad {w : World} {C g cap : Nat} {TS : List Tok} {pv : Value} {st : Sta} (h : Cs w C g cap TS pv st) : ∃ bad : Int, w.cell? ⟨C, 2, none⟩ = some (.int .i64 bad) ∧ ((∃ ts, st = .ok ts) → bad = -1) ∧ ((∃ q, st = .error q) → 0 ≤ bad) ∧ ∀ q, st = .error q → bad = (q : Nat) := by
  obtain ⟨k, bad, h1, h2⟩ := h
  refine ⟨bad, h1.cells.2.2.1, ?_, ?_, ?_⟩
  · rintro ⟨ts, rfl⟩
    exact h2.1
  · rintro ⟨q, rfl⟩
    have : bad = (q : Nat) := h2
    omega
  · rintro q rfl
    exact h2
/-- A place kept: places in new memory or in the old. -/
theorem Cq.kept {w w0 w2 : World} {C g cap base : Nat} {TS : List Tok} {pv pv1 : Value} {ps : List Nat} {st : Sta} {x : Nat} (h : Cq w w0 C g cap base TS pv pv1 ps st) (hg : g < base) {wg : World} (hwg : Only (fun _ => False) w0 wg) (hgr : wg.grownBy w2 pv1.ownBlock)
    {g2 cp2 : Nat} {n : Int} (ho : w2.ownsRow base 3 1 (.slice (some ⟨g2, 0, none⟩) (ps.length + 1) cp2) (ps.length + 1) (nums ps ++ [.int .i64 n])) (hn : ((x : Nat) : Int) = n)
    (hat : pv1.ownBlock = some g2 ∨ g2 = w0.heap.size + 1) : Cq w (w2.setCell ⟨C, 3, none⟩ (.slice (some ⟨g2, 0, none⟩) (ps.length + 1) cp2)) C g cap base TS pv (.slice (some ⟨g2, 0, none⟩) (ps.length + 1) cp2) (ps ++ [x]) st := by
  obtain ⟨k, bad, h1, h2⟩ := h.dc
  have hO : Only (fun b => pv1.ownBlock = some b) w0 w2 := (hwg.mono (S' := fun b => pv1.ownBlock = some b) (fun _ h => h.elim)).grown' hgr (fun k hk => .inl hk)
  have hpC : pv1.ownBlock ≠ some C := own_ne (t' := 65) h.own h1.blk (by decide)
  have hpg : pv1.ownBlock ≠ some g := fun e => by have := (h.own.lt g e).1; omega
  have h1' := h1.other hO hpC hpg
  have hB2 : Blk w2 C 65 #[.slice (some ⟨g, 0, none⟩) TS.length cap, .int .i64 k, .int .i64 bad, pv1] := h1'.blk
  have hO2 : Only (Pb C pv1) w0 (w2.setCell ⟨C, 3, none⟩ (.slice (some ⟨g2, 0, none⟩) (ps.length + 1) cp2)) := (hO.mono (S' := Pb C pv1) fun k hk => .inr hk).setCell (p := ⟨C, 3, none⟩) (.inl (.inl rfl)) _
  refine h.on ⟨k, bad, ⟨hB2.set 3 _, fun i hi => (h1.row i hi).only hO2 ?_, h1.ne, h1.lt, h1.max, h1.fin⟩, h2⟩ ?_ hO2 ?_
  · rintro (e | e)
    · exact h1.ne e
    · exact hpg e
  · exact ownp_snoc (ownsRow_setCell_other (a := ⟨C, 3, none⟩) ho (own_ne (t' := 65) ho hB2 (by decide)) _) hn
  · intro j hj
    cases hj
    rcases hat with e | e
    · exact .inl e
    · exact .inr (by show w0.heap.size ≤ g2; omega)
end Go.Proofs.Ytikihomablmcnaa.Lx
