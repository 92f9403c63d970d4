/-
  choice, stmt of the developers' cursor: contracts.
-/
import Derived.Test.YtgobcflfhabdhaaGreatDoorDD
namespace Go.Proofs.YtgobcflfhabdhaaGreatDoor.P
open L (Tok)
/-- What stands behind an if. -/
def choiceF (n : Nat) (ts : List Tok) : Res (ST × List Nat) :=
  match pExpr ts with
  | .error p => .error p
  | .ok (e, r1) =>
    match blockF (stmtN n) r1 with
    | .error p => .error p
    | .ok ((a, ps), r2) =>
      if isS [101, 108, 115, 101] r2 then
        match blockF (stmtN n) r2.tail with
        | .error p => .error p
        | .ok ((b, qs), r3) => .ok ((.mk 7 0 [] [] [e] a b, ps ++ qs), r3)
      else .ok ((.mk 7 0 [] [] [e] a [], ps), r2)
def ahead (q : Nat) : Res (ST × List Nat) → Res (ST × List Nat)
  | .error p => .error p
  | .ok ((s, qs), r) => .ok ((s, q :: qs), r)
theorem stmt_if {n : Nat} {ts : List Tok} (h : isS [105, 102] ts = true) : stmtN (n + 1) ts = ahead (here ts) (choiceF n ts.tail) := by
  have h1 := isS_one h (s' := [115, 116, 111, 114, 101]) (by decide)
  have h2 := isS_one h (s' := [102, 101, 110, 99, 101]) (by decide)
  unfold stmtN choiceF
  simp only [h, h1, h2, Bool.false_eq_true, if_false, if_true]
  cases pExpr ts.tail with
  | error p => rfl
  | ok x =>
    obtain ⟨e, r1⟩ := x
    simp only
    cases blockF (stmtN n) r1 with
    | error p => rfl
    | ok y =>
      obtain ⟨⟨a, ps⟩, r2⟩ := y
      simp only
      cases isS [101, 108, 115, 101] r2 with
      | false => rfl
      | true =>
        simp only [if_true]
        cases blockF (stmtN n) r2.tail with
        | error p => rfl
        | ok z => rfl
def storeF (ts : List Tok) : Res ST :=
  match pMode ts with
  | .error p => .error p
  | .ok (m, r1) =>
    match pName r1 with
    | .error p => .error p
    | .ok (l, r2) =>
      match pExpr r2 with
      | .error p => .error p
      | .ok (e, r3) => .ok (.mk 3 m [] l [e] [] [], r3)
def fenceF (ts : List Tok) : Res ST :=
  match pMode ts with
  | .error p => .error p
  | .ok (m, r1) => .ok (.mk 6 m [] [] [] [] [], r1)
def setF (ts : List Tok) : Res ST :=
  match pName ts with
  | .error p => .error p
  | .ok (g, r1) =>
    match need [61] r1 with
    | .error p => .error p
    | .ok r2 => rightF g r2
theorem stmt_store {n : Nat} {ts : List Tok} (h : isS [115, 116, 111, 114, 101] ts = true) : stmtN (n + 1) ts = semi (storeF ts.tail) (here ts) := by
  unfold stmtN storeF
  simp only [h, if_true]
  rfl
theorem stmt_fence {n : Nat} {ts : List Tok} (h1 : isS [115, 116, 111, 114, 101] ts = false) (h : isS [102, 101, 110, 99, 101] ts = true) : stmtN (n + 1) ts = semi (fenceF ts.tail) (here ts) := by
  unfold stmtN fenceF
  simp only [h, h1, Bool.false_eq_true, if_false, if_true]
  rfl
theorem stmt_set {n : Nat} {ts : List Tok} (h0 : isS [105, 102] ts = false) (h1 : isS [115, 116, 111, 114, 101] ts = false) (h2 : isS [102, 101, 110, 99, 101] ts = false) : stmtN (n + 1) ts = semi (setF ts) (here ts) := by
  unfold stmtN setF
  simp only [h0, h2, h1, Bool.false_eq_true, if_false]
  rfl
theorem semi_ok {x : Res ST} {q : Nat} {s : ST} {qs : List Nat} {ts : List Tok} (h : semi x q = .ok ((s, qs), ts)) : (∃ t1, x = .ok (s, t1)) ∧ qs = [q] := by
  rcases x with p | ⟨a, t1⟩
  · cases h
  · unfold semi at h
    simp only at h
    split at h
    · cases h
    · cases h
      exact ⟨⟨t1, rfl⟩, rfl⟩
end Go.Proofs.YtgobcflfhabdhaaGreatDoor.P
namespace Go.Proofs.YtgobcflfhabdhaaGreatDoor.Lx
open Go.RowKit
open L (Tok)
open P (EX CO ST)
set_option maxRecDepth 100000
set_option linter.unusedVariables false
set_option linter.unusedSimpArgs false
theorem semi_left (x : P.Res ST) (q : Nat) : left (P.semi x q) = onNeed [59] (left x) := by
  rcases x with p | ⟨a, t1⟩
  · rfl
  · show left (match P.need [59] t1 with
      | .error p => .error p
      | .ok r2 => .ok ((a, [q]), r2)) = P.need [59] t1
    cases P.need [59] t1 <;> rfl
theorem slen_less {α : Type} {p : List Tok → P.Res α} (hl : P.Less p) {ts : List Tok} (h0 : 0 < ts.length) : slen (left (p ts)) < ts.length := by
  cases h : p ts with
  | error q => exact h0
  | ok x =>
    obtain ⟨a, r⟩ := x
    exact hl _ _ _ h
theorem slen_on {α : Type} {p : List Tok → P.Res α} (hl : P.Less p) (st : Sta) : slen (left (on st p)) ≤ slen st := by
  rcases st with q | ts
  · exact Nat.le_refl _
  · show slen (left (p ts)) ≤ ts.length
    cases h : p ts with
    | error q => exact Nat.zero_le _
    | ok x =>
      obtain ⟨a, r⟩ := x
      exact Nat.le_of_lt (hl _ _ _ h)
theorem slen_tl (st : Sta) : slen (tl st) ≤ slen st := by
  rcases st with q | ts
  · exact Nat.le_refl _
  · show ts.tail.length ≤ ts.length
    rw [List.length_tail]
    omega
/-- The cursor and its places, since w. -/
structure Cp (w w' : World) (C g base : Nat) (TS : List Tok) (pv pv' : Value) (ps' : List Nat) (st : Sta) : Prop where
  dc : Dc w' C g TS pv' st
  own : OwnP w' base pv' ps'
  only : Only (Pb C pv) w w'
  fr : Fr pv pv' w.heap.size
section
variable {w w1 : World} {C g base : Nat} {TS : List Tok} {pv pv' : Value} {ps' : List Nat} {st : Sta}
theorem Cp.start {ps : List Nat} (h : Dc w C g TS pv st) (hp : OwnP w base pv ps) : Cp w w C g base TS pv pv ps st := ⟨h, hp, Only.refl _ _, Fr.refl _ _⟩
theorem Cp.far (h : Cp w w1 C g base TS pv pv' ps' st) {B : Nat} {t : TypeId} {cs : Array Value} (hB : Blk w1 B t cs) (h1 : 3 ≠ t) (h2 : 93 ≠ t) : ¬ Pb C pv' B := by
  rintro (e | e)
  · obtain ⟨a, n, c, hb, _⟩ := h.dc.blk
    exact Blk.ne hb hB h2 e.symm
  · exact own_ne h.own hB h1 e
theorem Cp.notC (h : Cp w w1 C g base TS pv pv' ps' st) : ∀ k, pv'.ownBlock = some k → k ≠ C := by
  intro k hk e
  subst e
  obtain ⟨a, n, c, hb, _⟩ := h.dc.blk
  exact own_ne (t' := 93) h.own hb (by decide) hk
theorem Cp.call (h : Cp w w1 C g base TS pv pv' ps' st) {w2 : World} {st2 : Sta} (ho : Only (· = C) w1 w2) (hd : Dc w2 C g TS pv' st2) : Cp w w2 C g base TS pv pv' ps' st2 :=
  ⟨hd, own_only h.own ho (fun k hk e => h.notC k hk e), h.only.then ho (fun j hj => .inl (.inl hj)), h.fr⟩
theorem Cp.near (h : Cp w w1 C g base TS pv pv' ps' st) {B : Nat} (hB : w.heap.size ≤ B) (hp : pv'.ownBlock ≠ some B) {w2 : World} {st2 : Sta} (ho : Only (fun b => b = C ∨ b = B) w1 w2) (hd : Dc w2 C g TS pv' st2) : Cp w w2 C g base TS pv pv' ps' st2 :=
  ⟨hd, own_only h.own ho (fun k hk e => by
    rcases e with e | e
    · exact h.notC k hk e
    · exact hp (e ▸ hk)), h.only.then ho (fun j hj => by
    rcases hj with e | e
    · exact .inl (.inl e)
    · exact .inr (by omega)), h.fr⟩
/-- A call that keeps places, too. -/
theorem Cp.on (h : Cp w w1 C g base TS pv pv' ps' st) {w2 : World} {st2 : Sta} {pv2 : Value} {ps2 : List Nat} (hd : Dc w2 C g TS pv2 st2) (hp : OwnP w2 base pv2 ps2) (ho : Only (Pb C pv') w1 w2) (hf : Fr pv' pv2 w1.heap.size) : Cp w w2 C g base TS pv pv2 ps2 st2 :=
  ⟨hd, hp, h.only.then ho (fun j hj => by
    rcases hj with e | e
    · exact .inl (.inl e)
    · rcases h.fr j e with h1 | h1
      · exact .inl (.inr h1)
      · exact .inr h1), h.fr.trans hf h.only.size⟩
theorem put7_only (w : World) (R : Nat) (u0 u1 u2 u3 u4 u5 u6 : Value) : Only (fun b => b = C ∨ b = R) w (put7w w R u0 u1 u2 u3 u4 u5 u6) := Only.put7 (Only.refl _ w) (.inl (.inr rfl)) _ _ _ _ _ _ _
theorem Cp.put7 (h : Cp w w1 C g base TS pv pv' ps' st) {R : Nat} (hR : w.heap.size ≤ R) (hgR : g ≠ R) {cs : Array Value} (hB : Blk w1 R 52 cs) (u0 u1 u2 u3 u4 u5 u6 : Value) : Cp w (put7w w1 R u0 u1 u2 u3 u4 u5 u6) C g base TS pv pv' ps' st := by
  have hf := h.far hB (by decide) (by decide)
  exact h.near hR (fun e => hf (.inr e)) (put7_only w1 R u0 u1 u2 u3 u4 u5 u6) (h.dc.other (S := fun b => b = R) (Only.put7 (Only.refl (fun b => b = R) w1) (.inl rfl) _ _ _ _ _ _ _) (fun e => hf (.inl e.symm)) hgR)
end
theorem stmt_done {w w4 : World} {C g base : Nat} {TS : List Tok} {pv pv4 : Value} {ps ps4 : List Nat} {r : P.Res (ST × List Nat)} {st : Sta} {R k : Nat} {cs : Array Value} {u0 u1 u2 u3 u4 u5 u6 : Value}
    (H : Cp w w4 C g base TS pv pv4 ps4 st) (hst : left r = st) (HR : Blk w4 R 52 cs) (hRw : w.heap.size ≤ R) (hgR : g ≠ R) (hb : ps4.length + slen (left r) ≤ ps.length + k) (ha : AnyS w4 (.agg #[u0, u1, u2, u3, u4, u5, u6]))
    (hv : ∀ a qs ts, r = .ok ((a, qs), ts) → ps4 = ps ++ qs ∧ LS (fun b => Nw w.heap.size pv4 b ∧ b ≠ R) w4 (.agg #[u0, u1, u2, u3, u4, u5, u6]) a) :
    PtD LS AnyS C g base TS pv ps k r w (.returned (.agg #[u0, u1, u2, u3, u4, u5, u6])) (put7w w4 R u0 u1 u2 u3 u4 u5 u6) := by
  have H5 := H.put7 hRw hgR HR u0 u1 u2 u3 u4 u5 u6
  refine ⟨_, pv4, ps4, rfl, by unfold AnyS at ha ⊢; exact ha, hst ▸ H5.dc, H5.own, hb, H5.only, H5.fr, fun a qs ts hh => ?_⟩
  obtain ⟨h1, h2⟩ := hv a qs ts hh
  refine ⟨h1, LS.step ?_ h2⟩
  intro b hb hl
  exact ⟨hb.1, (Only.put7 (Only.refl (fun b => b = R) w4) (.inl rfl) u0 u1 u2 u3 u4 u5 u6).block b hl hb.2⟩
theorem LXs.step {Q Q' : Nat → Prop} {w w' : World} (h : Same Q Q' w w') {g off : Nat} {es : List EX} (hg : Q g) (hne : es ≠ []) (hv : LXs Q w g off es) : Q' g ∧ LXs Q' w' g off es := by
  have hl : g < w.heap.size := by
    cases es with
    | nil => exact absurd rfl hne
    | cons x xs => exact lxs_lt hv
  have h1 := LXs.mono (Q' := fun b => Q' b ∧ w'.heap[b]? = w.heap[b]?) (fun b hb hl => h b hb hl) es hv
  have h2 := LXs.keep (w' := w') (fun b hb hl => hb.2) es (h g hg hl) h1
  exact ⟨(h g hg hl).1, LXs.mono (fun b hb _ => hb.1) es h2⟩
/-- New since n, not where the places lie, not B, not R. -/
def NwB (n : Nat) (pv : Value) (B R b : Nat) : Prop := n ≤ b ∧ pv.ownBlock ≠ some b ∧ b ≠ B ∧ b ≠ R
theorem same_call {n C B R : Nat} {pv1 pv2 : Value} {w1 w2 : World} (hC : C < n) (ho : Only (Pb C pv1) w1 w2) (hf : Fr pv1 pv2 w1.heap.size) : Same (NwB n pv1 B R) (NwB n pv2 B R) w1 w2 := by
  intro b hb hl
  obtain ⟨h1, h2, h3, h4⟩ := hb
  refine ⟨⟨h1, fun e => ?_, h3, h4⟩, ho.block b hl ?_⟩
  · rcases hf b e with h | h
    · exact h2 h
    · omega
  · rintro (e | e)
    · omega
    · exact h2 e
theorem same_callC {n C B R : Nat} {pv1 : Value} {w1 w2 : World} (hC : C < n) (ho : Only (· = C) w1 w2) : Same (NwB n pv1 B R) (NwB n pv1 B R) w1 w2 := by
  intro b hb hl
  exact ⟨hb, ho.block b hl (by have := hb.1; omega)⟩
theorem same_set {n B R i : Nat} {pv1 : Value} {w1 : World} (u : Value) : Same (NwB n pv1 B R) (NwB n pv1 B R) w1 (w1.setCell ⟨B, i, none⟩ u) := by
  intro b hb hl
  exact ⟨hb, ((Only.refl (fun b => b = B) w1).setCell (p := ⟨B, i, none⟩) (.inl rfl) u).block b hl hb.2.2.1⟩
theorem Cp.set {w w1 : World} {C g base : Nat} {TS : List Tok} {pv pv' : Value} {ps' : List Nat} {st : Sta} (h : Cp w w1 C g base TS pv pv' ps' st) {B : Nat} (hR : w.heap.size ≤ B) (hgR : g ≠ B) {cs : Array Value} (hB : Blk w1 B 52 cs) (i : Nat) (u : Value) : Cp w (w1.setCell ⟨B, i, none⟩ u) C g base TS pv pv' ps' st := by
  have hf := h.far hB (by decide) (by decide)
  have ho : Only (fun b => b = B) w1 (w1.setCell ⟨B, i, none⟩ u) := (Only.refl (fun b => b = B) w1).setCell (p := ⟨B, i, none⟩) (.inl rfl) u
  exact h.near hR (fun e => hf (.inr e)) (ho.mono fun k hk => .inr hk) (h.dc.other ho (fun e => hf (.inl e.symm)) hgR)
theorem only_set (w : World) (B i : Nat) (u : Value) : Only (fun b => b = B) w (w.setCell ⟨B, i, none⟩ u) := (Only.refl (fun b => b = B) w).setCell (p := ⟨B, i, none⟩) (.inl rfl) u
theorem ls_if {Q : Nat → Prop} {w : World} {K c : Nat} {x : EX} {vt ve : Value} {th el : List ST} (hQ : Q K) (hx : LXs Q w K 0 [x]) (ht : IsSs Q w vt th) (he : IsSs Q w ve el) :
    LS Q w (.agg #[.int .i64 7, .int .i64 0, .string ⟨#[]⟩, .string ⟨#[]⟩, .slice (some ⟨K, 0, none⟩) 1 c, vt, ve]) (.mk 7 0 [] [] [x] th el) := by
  obtain ⟨a, ca, rfl, hm, hr⟩ := ht
  obtain ⟨a', ca', rfl, hm', hr'⟩ := he
  unfold LS
  exact ⟨_, _, _, _, _, _, rfl, by unfold maxLen; simp, hm, hm', .inr ⟨K, 0, rfl, hQ, hx⟩, hr, hr'⟩
theorem isSs_none {Q : Nat → Prop} {w : World} : IsSs Q w (.slice none 0 0) [] := ⟨_, _, rfl, Nat.zero_le _, .inl rfl⟩
theorem choice_else {n : Nat} {st : Sta} {st2 : Sta} (h2 : left (on (left (on st P.pExpr)) (P.blockF (P.stmtN n))) = st2) (he : onIs [101, 108, 115, 101] st2 = true) :
    left (on st (P.choiceF n)) = left (on (tl st2) (P.blockF (P.stmtN n))) ∧ ∀ a qs ts, on st (P.choiceF n) = .ok ((a, qs), ts) → ∃ x r1 l1 q1 r2 l2 q2, on st P.pExpr = .ok (x, r1) ∧ on (left (on st P.pExpr)) (P.blockF (P.stmtN n)) = .ok ((l1, q1), r2) ∧ on (tl st2) (P.blockF (P.stmtN n)) = .ok ((l2, q2), ts) ∧ a = .mk 7 0 [] [] [x] l1 l2 ∧ qs = q1 ++ q2 := by
  subst h2
  rcases st with q | ts
  · cases he
  · simp only [on, P.choiceF] at he ⊢
    cases h1 : P.pExpr ts with
    | error p => rw [h1] at he; cases he
    | ok x =>
      obtain ⟨x, r1⟩ := x
      simp only [h1, left, on] at he ⊢
      cases h2 : P.blockF (P.stmtN n) r1 with
      | error p => rw [h2] at he; cases he
      | ok y =>
        obtain ⟨⟨l1, q1⟩, r2⟩ := y
        have he' : P.isS [101, 108, 115, 101] r2 = true := by rw [h2] at he; exact he
        simp only [he', if_true, left, tl, on]
        cases P.blockF (P.stmtN n) r2.tail with
        | error p => exact ⟨rfl, fun _ _ _ h => by cases h⟩
        | ok z => exact ⟨rfl, fun _ _ _ h => by cases h; exact ⟨_, _, _, _, _, _, _, rfl, rfl, rfl, rfl, rfl⟩⟩
theorem choice_none {n : Nat} {st : Sta} {st2 : Sta} (h2 : left (on (left (on st P.pExpr)) (P.blockF (P.stmtN n))) = st2) (he : onIs [101, 108, 115, 101] st2 = false) :
    left (on st (P.choiceF n)) = st2 ∧ ∀ a qs ts, on st (P.choiceF n) = .ok ((a, qs), ts) → ∃ x r1 l1 r2, on st P.pExpr = .ok (x, r1) ∧ on (left (on st P.pExpr)) (P.blockF (P.stmtN n)) = .ok ((l1, qs), r2) ∧ a = .mk 7 0 [] [] [x] l1 [] := by
  subst h2
  rcases st with q | ts
  · exact ⟨rfl, fun _ _ _ h => by cases h⟩
  · simp only [on, P.choiceF] at he ⊢
    cases h1 : P.pExpr ts with
    | error p => exact ⟨rfl, fun _ _ _ h => by cases h⟩
    | ok x =>
      obtain ⟨x, r1⟩ := x
      simp only [h1, left, on] at he ⊢
      cases h2 : P.blockF (P.stmtN n) r1 with
      | error p => exact ⟨rfl, fun _ _ _ h => by cases h⟩
      | ok y =>
        obtain ⟨⟨l1, q1⟩, r2⟩ := y
        have he' : P.isS [101, 108, 115, 101] r2 = false := by rw [h2] at he; exact he
        simp only [he', Bool.false_eq_true, if_false, left]
        exact ⟨trivial, fun _ _ _ h => by cases h; exact ⟨_, _, _, _, rfl, rfl, rfl⟩⟩
set_option maxHeartbeats 3200000 in
theorem choice_d (n : Nat) (C g base : Nat) (TS : List Tok) (pv : Value) (ps : List Nat) (st : Sta) (w : World) (h : Dc w C g TS pv st) (hp : OwnP w base pv ps) (hg : g < base) (hbase : base ≤ w.heap.size) (hn : ps.length + slen st ≤ 50000) (hBl : ∀ st' pv ps w, Dc w C g TS pv st' → OwnP w base pv ps → base ≤ w.heap.size → ps.length + slen st' ≤ 50000 → slen st' < slen st + 1 → Calls Tryz.prog 86 #[.pointer (some ⟨C, 0, none⟩)] w (PtD IsSs AnySl C g base TS pv ps (slen st') (on st' (P.blockF (P.stmtN n))) w)) :
    Calls Tryz.prog 125 #[.pointer (some ⟨C, 0, none⟩)] w (PtD LS AnyS C g base TS pv ps (slen st) (on st (P.choiceF n)) w) := by
  obtain ⟨hCl, hgl⟩ := h.lts
  have hpb0 : ∀ b, pv.ownBlock = some b → b < w.heap.size := fun b hb => (hp.lt b hb).2
  have H0 := Lib.hid (Cp.start h hp)
  have HBl := Lib.hid hBl
  have hl1 := slen_on P.pExpr_less st
  clear h hp hBl
  go_enter Tryz.func125, Tryz.ntmps125
  go_wp2_with fail
  have hbA : Below w.heap.size w (w.alloc (.cells #[.int .i64 0, .int .i64 0, .string ⟨#[]⟩, .string ⟨#[]⟩, .slice none 0 0, .slice none 0 0, .slice none 0 0] 52)) := (Below.refl _ _).alloc (Nat.le_refl _) _
  have HR0 := Lib.hid (Blk.new w 52 #[.int .i64 0, .int .i64 0, .string ⟨#[]⟩, .string ⟨#[]⟩, .slice none 0 0, .slice none 0 0, .slice none 0 0])
  have H1 := Lib.hid (H0.out.call (Only.of_below hbA) (H0.out.dc.below hbA))
  have hsA : w.heap.size < (w.alloc (.cells #[.int .i64 0, .int .i64 0, .string ⟨#[]⟩, .string ⟨#[]⟩, .slice none 0 0, .slice none 0 0, .slice none 0 0] 52)).heap.size := HR0.out.lt
  clear hbA
  generalize w.alloc (.cells #[.int .i64 0, .int .i64 0, .string ⟨#[]⟩, .string ⟨#[]⟩, .slice none 0 0, .slice none 0 0, .slice none 0 0] 52) = w1 at *
  generalize hSe : w.heap.size = R at *
  have hRw : w.heap.size ≤ R := by omega
  have hRw' : R ≤ w.heap.size := by omega
  clear hSe
  have hpb1 : ∀ b, pv.ownBlock = some b → b < R := fun b hb => by have := hpb0 b hb; omega
  with_reducible refine (exprTot_d C g TS pv st _ H1.out.dc).mono ?_
  rintro e w2 ⟨v, rfl, ⟨ox, mx, sx, ax, nx, cx, rfl⟩, hd, ho, hx⟩
  have HR2 := Lib.hid (HR0.out.only ho (fun e => H1.out.far HR0.out (by decide) (by decide) (.inl e)))
  have H2 := Lib.hid (H1.out.call ho hd)
  have HX := Lib.hid hx
  have hs2 := ho.size
  clear hd ho hx
  go_wp2_with fail
  have hbA : Below w2.heap.size w2 ((w2.alloc (.cells #[.int .i64 ox, .int .i64 mx, .string sx, .slice ax nx cx] 46)).alloc (.cells #[.int .i64 7, .int .i64 0, .string ⟨#[]⟩, .string ⟨#[]⟩, .slice (some ⟨w2.heap.size, 0, none⟩) 1 1, .slice none 0 0, .slice none 0 0] 52)) := ((Below.refl _ _).alloc (Nat.le_refl _) _).alloc (by simp) _
  have HK3 := Lib.hid ((Blk.new w2 46 #[.int .i64 ox, .int .i64 mx, .string sx, .slice ax nx cx]).alloc (.cells #[.int .i64 7, .int .i64 0, .string ⟨#[]⟩, .string ⟨#[]⟩, .slice (some ⟨w2.heap.size, 0, none⟩) 1 1, .slice none 0 0, .slice none 0 0] 52))
  have hB0 := Blk.new (w2.alloc (.cells #[.int .i64 ox, .int .i64 mx, .string sx, .slice ax nx cx] 46)) 52 #[.int .i64 7, .int .i64 0, .string ⟨#[]⟩, .string ⟨#[]⟩, .slice (some ⟨w2.heap.size, 0, none⟩) 1 1, .slice none 0 0, .slice none 0 0]
  rw [show (w2.alloc (.cells #[.int .i64 ox, .int .i64 mx, .string sx, .slice ax nx cx] 46)).heap.size = w2.heap.size + 1 by simp] at hB0
  have HB3 := Lib.hid hB0
  have HR3 := Lib.hid ((HR2.out.alloc (.cells #[.int .i64 ox, .int .i64 mx, .string sx, .slice ax nx cx] 46)).alloc (.cells #[.int .i64 7, .int .i64 0, .string ⟨#[]⟩, .string ⟨#[]⟩, .slice (some ⟨w2.heap.size, 0, none⟩) 1 1, .slice none 0 0, .slice none 0 0] 52))
  have H3 := Lib.hid (H2.out.call (Only.of_below hbA) (H2.out.dc.below hbA))
  have hs3 : w2.heap.size + 1 < ((w2.alloc (.cells #[.int .i64 ox, .int .i64 mx, .string sx, .slice ax nx cx] 46)).alloc (.cells #[.int .i64 7, .int .i64 0, .string ⟨#[]⟩, .string ⟨#[]⟩, .slice (some ⟨w2.heap.size, 0, none⟩) 1 1, .slice none 0 0, .slice none 0 0] 52)).heap.size := HB3.out.lt
  have HX3 := Lib.hid (fun x ts (hh : on st P.pExpr = .ok (x, ts)) => lxs_one HK3.out (LX.step (Q' := NwB R pv (w2.heap.size + 1) R) (fun b hb hl => ⟨⟨by unfold From at hb; omega, fun e => by have := hpb1 b e; unfold From at hb; omega, by omega, by unfold From at hb; omega⟩, hbA.block b hl⟩) (HX.out x ts hh)))
  have hQK : NwB R pv (w2.heap.size + 1) R w2.heap.size := ⟨by omega, fun e => by have := hpb1 _ e; omega, by omega, by omega⟩
  have HQK := Lib.hid hQK
  clear hbA hB0 hQK
  generalize (w2.alloc (.cells #[.int .i64 ox, .int .i64 mx, .string sx, .slice ax nx cx] 46)).alloc (.cells #[.int .i64 7, .int .i64 0, .string ⟨#[]⟩, .string ⟨#[]⟩, .slice (some ⟨w2.heap.size, 0, none⟩) 1 1, .slice none 0 0, .slice none 0 0] 52) = w3 at *
  generalize hBe : w2.heap.size + 1 = B at *
  generalize hKe : w2.heap.size = K at *
  have hKB : K < B := by omega
  have hRK : R < K := by omega
  clear hBe hKe
  have hcall := HBl.out (left (on st P.pExpr)) pv ps w3 H3.out.dc H3.out.own (by omega) (by omega) (by omega)
  with_reducible refine hcall.mono ?_
  rintro e w4 ⟨v, pv4, ps4, rfl, ⟨a4, n4, k4, rfl⟩, hd, hp, hb4, ho, hf, hv⟩
  clear hcall
  have HR4 := Lib.hid (HR3.out.only ho (H3.out.far HR3.out (by decide) (by decide)))
  have HB4 := Lib.hid (HB3.out.only ho (H3.out.far HB3.out (by decide) (by decide)))
  have HS4 := Lib.hid (same_call (B := B) (R := R) (n := R) hCl ho hf)
  have HX4 := Lib.hid (fun x ts hh => LXs.step HS4.out HQK.out (by simp) (HX3.out x ts hh))
  have HV4 := Lib.hid (fun l q ts hh => (show ps4 = ps ++ q ∧ IsSs (NwB R pv4 B R) w4 (.slice a4 n4 k4) l from ⟨(hv l q ts hh).1, IsSs.step (fun b hb hl => ⟨⟨by have := hb.1; omega, hb.2, by have := hb.1; omega, by have := hb.1; omega⟩, rfl⟩) (hv l q ts hh).2⟩))
  have H4 := Lib.hid (H3.out.on hd hp ho hf)
  have hs4 := ho.size
  clear hd hp ho hf hv HS4 HX3 HQK HX
  obtain ⟨c0, c1, c2, c3, c4, c5, c6, f0, f1, f2, f3, f4, f5, f6⟩ := seven_free HB4.out
  go_wp2_with fail
  clear c0 c1 c2 c3 c4 c5 c6 f0 f1 f2 f3 f4 f5 f6
  have HR5 := Lib.hid (HR4.out.only (only_set w4 B 5 (.slice a4 n4 k4)) (by omega))
  have HB5 := Lib.hid (HB4.out.set 5 (.slice a4 n4 k4))
  have HX5 := Lib.hid (fun x ts hh => LXs.step (same_set (i := 5) (.slice a4 n4 k4)) (HX4.out x ts hh).1 (by simp) (HX4.out x ts hh).2)
  have HV5 := Lib.hid (fun l q ts hh => (show ps4 = ps ++ q ∧ IsSs (NwB R pv4 B R) (w4.setCell ⟨B, 5, none⟩ (.slice a4 n4 k4)) (.slice a4 n4 k4) l from ⟨(HV4.out l q ts hh).1, IsSs.step (same_set (i := 5) (.slice a4 n4 k4)) (HV4.out l q ts hh).2⟩))
  have H5 := Lib.hid (H4.out.set (by omega) (by omega) HB4.out 5 (.slice a4 n4 k4))
  have hs5 := (only_set w4 B 5 (.slice a4 n4 k4)).size
  clear HR4 HB4 HX4 HV4
  generalize w4.setCell ⟨B, 5, none⟩ (.slice a4 n4 k4) = w5 at *
  with_reducible refine (pass_d C g TS pv4 _ ⟨#[101, 108, 115, 101]⟩ _ H5.out.dc (by decide)).mono ?_
  rintro e w6 ⟨rfl, hd, ho⟩
  rw [show by' (⟨#[101, 108, 115, 101]⟩ : ByteArray) = [101, 108, 115, 101] from rfl] at hd ⊢
  have HR6 := Lib.hid (HR5.out.only ho (fun e => H5.out.far HR5.out (by decide) (by decide) (.inl e)))
  have HB6 := Lib.hid (HB5.out.only ho (fun e => H5.out.far HB5.out (by decide) (by decide) (.inl e)))
  have HX6 := Lib.hid (fun x ts hh => LXs.step (same_callC hCl ho) (HX5.out x ts hh).1 (by simp) (HX5.out x ts hh).2)
  have HV6 := Lib.hid (fun l q ts hh => (show ps4 = ps ++ q ∧ IsSs (NwB R pv4 B R) w6 (.slice a4 n4 k4) l from ⟨(HV5.out l q ts hh).1, IsSs.step (same_callC hCl ho) (HV5.out l q ts hh).2⟩))
  have hs6 := ho.size
  have hl2 := slen_on (P.blockF_less (P.stmtN_less n)) (left (on st P.pExpr))
  have hl3 := slen_tl (left (on (left (on st P.pExpr)) (P.blockF (P.stmtN n))))
  clear HR5 HB5 HX5 HV5
  cases hE : onIs [101, 108, 115, 101] (left (on (left (on st P.pExpr)) (P.blockF (P.stmtN n)))) with
  | false =>
    have HE := Lib.hid (choice_none (n := n) (st := st) rfl hE)
    rw [hE] at hd
    have H6 := Lib.hid (H5.out.call (st2 := left (on (left (on st P.pExpr)) (P.blockF (P.stmtN n)))) ho hd)
    clear hd ho hE
    obtain ⟨c0, c1, c2, c3, c4, c5, c6, f0, f1, f2, f3, f4, f5, f6⟩ := seven_free HB6.out
    obtain ⟨z0, z1, z2, z3, z4, z5, z6, o0, o1, o2, o3, o4, o5, o6⟩ := seven_free HR6.out
    go_wp2_with fail
    refine bodyPost_ret (results_cell_row (p := 2) rfl _ _ R 52 #[.int .i64 7, .int .i64 0, .string ⟨#[]⟩, .string ⟨#[]⟩, .slice (some ⟨K, 0, none⟩) 1 1, .slice a4 n4 k4, .slice none 0 0] (0, 0) _ rfl (put7 HR6.out) Tryz.underlying52 rfl (by kernel_rfl)) rfl ?_
    refine stmt_done H6.out HE.out.1 HR6.out (by omega) (by omega) (by rw [HE.out.1]; omega) ⟨_, _, _, _, _, _, _, _, _, _, _, _, _, rfl⟩ fun s qs t hh => ?_
    obtain ⟨x, r1, l1, r2, h1, h2, rfl⟩ := HE.out.2 s qs t hh
    obtain ⟨hq, ht⟩ := HV6.out l1 qs r2 h2
    obtain ⟨hk, hx⟩ := HX6.out x r1 h1
    exact ⟨hq, LS.mono (fun b hb _ => ⟨⟨by have := hb.1; omega, hb.2.1⟩, hb.2.2.2⟩) _ (ls_if hk hx ht isSs_none)⟩
  | true =>
    have HE := Lib.hid (choice_else (n := n) (st := st) rfl hE)
    rw [hE] at hd
    have H6 := Lib.hid (H5.out.call (st2 := tl (left (on (left (on st P.pExpr)) (P.blockF (P.stmtN n))))) ho hd)
    clear hd ho hE
    go_wp2_with fail
    have hcall := HBl.out _ pv4 ps4 w6 H6.out.dc H6.out.own (by omega) (by omega) (by omega)
    with_reducible refine hcall.mono ?_
    rintro e w7 ⟨v, pv7, ps7, rfl, ⟨a7, n7, k7, rfl⟩, hd, hp, hb7, ho, hf, hv⟩
    clear hcall
    have HR7 := Lib.hid (HR6.out.only ho (H6.out.far HR6.out (by decide) (by decide)))
    have HB7 := Lib.hid (HB6.out.only ho (H6.out.far HB6.out (by decide) (by decide)))
    have HS7 := Lib.hid (same_call (B := B) (R := R) (n := R) hCl ho hf)
    have HX7 := Lib.hid (fun x ts hh => LXs.step HS7.out (HX6.out x ts hh).1 (by simp) (HX6.out x ts hh).2)
    have HV7 := Lib.hid (fun l q ts hh => (show ps4 = ps ++ q ∧ IsSs (NwB R pv7 B R) w7 (.slice a4 n4 k4) l from ⟨(HV6.out l q ts hh).1, IsSs.step HS7.out (HV6.out l q ts hh).2⟩))
    have HU7 := Lib.hid (fun l q ts hh => (show ps7 = ps4 ++ q ∧ IsSs (NwB R pv7 B R) w7 (.slice a7 n7 k7) l from ⟨(hv l q ts hh).1, IsSs.step (fun b hb hl => ⟨⟨by have := hb.1; omega, hb.2, by have := hb.1; omega, by have := hb.1; omega⟩, rfl⟩) (hv l q ts hh).2⟩))
    have H7 := Lib.hid (H6.out.on hd hp ho hf)
    have hs7 := ho.size
    clear hd hp ho hf hv HS7 HX6 HV6
    obtain ⟨c0, c1, c2, c3, c4, c5, c6, f0, f1, f2, f3, f4, f5, f6⟩ := seven_free HB7.out
    go_upto_region 5 with (fail)
    clear c0 c1 c2 c3 c4 c5 c6 f0 f1 f2 f3 f4 f5 f6
    have HR8 := Lib.hid (HR7.out.only (only_set w7 B 6 (.slice a7 n7 k7)) (by omega))
    have HB8 := Lib.hid (HB7.out.set 6 (.slice a7 n7 k7))
    have HX8 := Lib.hid (fun x ts hh => LXs.step (same_set (i := 6) (.slice a7 n7 k7)) (HX7.out x ts hh).1 (by simp) (HX7.out x ts hh).2)
    have HV8 := Lib.hid (fun l q ts hh => (show ps4 = ps ++ q ∧ IsSs (NwB R pv7 B R) (w7.setCell ⟨B, 6, none⟩ (.slice a7 n7 k7)) (.slice a4 n4 k4) l from ⟨(HV7.out l q ts hh).1, IsSs.step (same_set (i := 6) (.slice a7 n7 k7)) (HV7.out l q ts hh).2⟩))
    have HU8 := Lib.hid (fun l q ts hh => (show ps7 = ps4 ++ q ∧ IsSs (NwB R pv7 B R) (w7.setCell ⟨B, 6, none⟩ (.slice a7 n7 k7)) (.slice a7 n7 k7) l from ⟨(HU7.out l q ts hh).1, IsSs.step (same_set (i := 6) (.slice a7 n7 k7)) (HU7.out l q ts hh).2⟩))
    have H8 := Lib.hid (H7.out.set (by omega) (by omega) HB7.out 6 (.slice a7 n7 k7))
    have hs8 := (only_set w7 B 6 (.slice a7 n7 k7)).size
    clear HR7 HB7 HX7 HV7 HU7
    generalize w7.setCell ⟨B, 6, none⟩ (.slice a7 n7 k7) = w8 at *
    obtain ⟨c0, c1, c2, c3, c4, c5, c6, f0, f1, f2, f3, f4, f5, f6⟩ := seven_free HB8.out
    obtain ⟨z0, z1, z2, z3, z4, z5, z6, o0, o1, o2, o3, o4, o5, o6⟩ := seven_free HR8.out
    go_wp2_with fail
    refine bodyPost_ret (results_cell_row (p := 2) rfl _ _ R 52 #[.int .i64 7, .int .i64 0, .string ⟨#[]⟩, .string ⟨#[]⟩, .slice (some ⟨K, 0, none⟩) 1 1, .slice a4 n4 k4, .slice a7 n7 k7] (0, 0) _ rfl (put7 HR8.out) Tryz.underlying52 rfl (by kernel_rfl)) rfl ?_
    refine stmt_done H8.out HE.out.1 HR8.out (by omega) (by omega) (by rw [HE.out.1]; omega) ⟨_, _, _, _, _, _, _, _, _, _, _, _, _, rfl⟩ fun s qs t hh => ?_
    obtain ⟨x, r1, l1, q1, r2, l2, q2, h1, h2, h3, rfl, rfl⟩ := HE.out.2 s qs t hh
    obtain ⟨hq, ht⟩ := HV8.out l1 q1 r2 h2
    obtain ⟨hq', hu⟩ := HU8.out l2 q2 t h3
    obtain ⟨hk, hx⟩ := HX8.out x r1 h1
    exact ⟨by rw [hq', hq, List.append_assoc], LS.mono (fun b hb _ => ⟨⟨by have := hb.1; omega, hb.2.1⟩, hb.2.2.2⟩) _ (ls_if hk hx ht hu)⟩

end Go.Proofs.YtgobcflfhabdhaaGreatDoor.Lx
