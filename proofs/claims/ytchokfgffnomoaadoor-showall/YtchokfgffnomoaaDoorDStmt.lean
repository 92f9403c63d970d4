/-
  choice, stmt of the developers' cursor: contracts.
-/
import Derived.Test.YtchokfgffnomoaaDoorDD
namespace Go.Proofs.YtchokfgffnomoaaDoor.P
open L (Tok)
/-- What stands behind an if. -/
def choiceF (n : Nat) (ts : List Tok) : Res (ST × List Nat) :=
  match pExpr ts with
  | .error p => .error p
  | .ok (e, r1) =>
    match blockF (stmtN n) r1 with
    | .error p => .error p
    | .ok ((a, ps), r2) =>
      if isS [101, 108, 115, 101] r2 then
        match blockF (stmtN n) r2.tail with
        | .error p => .error p
        | .ok ((b, qs), r3) => .ok ((.mk 7 0 [] [] [e] a b, ps ++ qs), r3)
      else .ok ((.mk 7 0 [] [] [e] a [], ps), r2)
def ahead (q : Nat) : Res (ST × List Nat) → Res (ST × List Nat)
  | .error p => .error p
  | .ok ((s, qs), r) => .ok ((s, q :: qs), r)
theorem stmt_if {n : Nat} {ts : List Tok} (h : isS [105, 102] ts = true) : stmtN (n + 1) ts = ahead (here ts) (choiceF n ts.tail) := by
  have h1 := isS_one h (s' := [115, 116, 111, 114, 101]) (by decide)
  have h2 := isS_one h (s' := [102, 101, 110, 99, 101]) (by decide)
  unfold stmtN choiceF
  simp only [h, h1, h2, Bool.false_eq_true, if_false, if_true]
  cases pExpr ts.tail with
  | error p => rfl
  | ok x =>
    obtain ⟨e, r1⟩ := x
    simp only
    cases blockF (stmtN n) r1 with
    | error p => rfl
    | ok y =>
      obtain ⟨⟨a, ps⟩, r2⟩ := y
      simp only
      cases isS [101, 108, 115, 101] r2 with
      | false => rfl
      | true =>
        simp only [if_true]
        cases blockF (stmtN n) r2.tail with
        | error p => rfl
        | ok z => rfl
def storeF (ts : List Tok) : Res ST :=
  match pMode ts with
  | .error p => .error p
  | .ok (m, r1) =>
    match pName r1 with
    | .error p => .error p
    | .ok (l, r2) =>
      match pExpr r2 with
      | .error p => .error p
      | .ok (e, r3) => .ok (.mk 3 m [] l [e] [] [], r3)
def fenceF (ts : List Tok) : Res ST :=
  match pMode ts with
  | .error p => .error p
  | .ok (m, r1) => .ok (.mk 6 m [] [] [] [] [], r1)
def setF (ts : List Tok) : Res ST :=
  match pName ts with
  | .error p => .error p
  | .ok (g, r1) =>
    match need [61] r1 with
    | .error p => .error p
    | .ok r2 => rightF g r2
theorem stmt_store {n : Nat} {ts : List Tok} (h : isS [115, 116, 111, 114, 101] ts = true) : stmtN (n + 1) ts = semi (storeF ts.tail) (here ts) := by
  unfold stmtN storeF
  simp only [h, if_true]
  rfl
theorem stmt_fence {n : Nat} {ts : List Tok} (h1 : isS [115, 116, 111, 114, 101] ts = false) (h : isS [102, 101, 110, 99, 101] ts = true) : stmtN (n + 1) ts = semi (fenceF ts.tail) (here ts) := by
  unfold stmtN fenceF
  simp only [h, h1, Bool.false_eq_true, if_false, if_true]
  rfl
theorem stmt_set {n : Nat} {ts : List Tok} (h0 : isS [105, 102] ts = false) (h1 : isS [115, 116, 111, 114, 101] ts = false) (h2 : isS [102, 101, 110, 99, 101] ts = false) : stmtN (n + 1) ts = semi (setF ts) (here ts) := by
  unfold stmtN setF
  simp only [h0, h2, h1, Bool.false_eq_true, if_false]
  rfl
theorem semi_ok {x : Res ST} {q : Nat} {s : ST} {qs : List Nat} {ts : List Tok} (h : semi x q = .ok ((s, qs), ts)) : (∃ t1, x = .ok (s, t1)) ∧ qs = [q] := by
  rcases x with p | ⟨a, t1⟩
  · cases h
  · unfold semi at h
    simp only at h
    split at h
    · cases h
    · cases h
      exact ⟨⟨t1, rfl⟩, rfl⟩
end Go.Proofs.YtchokfgffnomoaaDoor.P
namespace Go.Proofs.YtchokfgffnomoaaDoor.Lx
open Go.RowKit
open L (Tok)
open P (EX CO ST)
set_option maxRecDepth 100000
set_option linter.unusedVariables false
set_option linter.unusedSimpArgs false
theorem semi_left (x : P.Res ST) (q : Nat) : left (P.semi x q) = onNeed [59] (left x) := by
  rcases x with p | ⟨a, t1⟩
  · rfl
  · show left (match P.need [59] t1 with
      | .error p => .error p
      | .ok r2 => .ok ((a, [q]), r2)) = P.need [59] t1
    cases P.need [59] t1 <;> rfl
theorem slen_less {α : Type} {p : List Tok → P.Res α} (hl : P.Less p) {ts : List Tok} (h0 : 0 < ts.length) : slen (left (p ts)) < ts.length := by
  cases h : p ts with
  | error q => exact h0
  | ok x =>
    obtain ⟨a, r⟩ := x
    exact hl _ _ _ h
theorem slen_on {α : Type} {p : List Tok → P.Res α} (hl : P.Less p) (st : Sta) : slen (left (on st p)) ≤ slen st := by
  rcases st with q | ts
  · exact Nat.le_refl _
  · show slen (left (p ts)) ≤ ts.length
    cases h : p ts with
    | error q => exact Nat.zero_le _
    | ok x =>
      obtain ⟨a, r⟩ := x
      exact Nat.le_of_lt (hl _ _ _ h)
theorem slen_tl (st : Sta) : slen (tl st) ≤ slen st := by
  rcases st with q | ts
  · exact Nat.le_refl _
  · show ts.tail.length ≤ ts.length
    rw [List.length_tail]
    omega
variable {w w1 : World} {C g base : Nat} {TS : List Tok} {pv pv' : Value} {ps' : List Nat} {st : Sta}
theorem put7_only (w : World) (R : Nat) (u0 u1 u2 u3 u4 u5 u6 : Value) : Only (fun b => b = C ∨ b = R) w (put7w w R u0 u1 u2 u3 u4 u5 u6) := Only.put7 (Only.refl _ w) (.inl (.inr rfl)) _ _ _ _ _ _ _
theorem LXs.step {Q Q' : Nat → Prop} {w w' : World} (h : Same Q Q' w w') {g off : Nat} {es : List EX} (hg : Q g) (hne : es ≠ []) (hv : LXs Q w g off es) : Q' g ∧ LXs Q' w' g off es := by
  have hl : g < w.heap.size := by
    cases es with
    | nil => exact absurd rfl hne
    | cons x xs => exact lxs_lt hv
  have h1 := LXs.mono (Q' := fun b => Q' b ∧ w'.heap[b]? = w.heap[b]?) (fun b hb hl => h b hb hl) es hv
  have h2 := LXs.keep (w' := w') (fun b hb hl => hb.2) es (h g hg hl) h1
  exact ⟨(h g hg hl).1, LXs.mono (fun b hb _ => hb.1) es h2⟩
/-- New since n, not where the places lie, not B, not R. -/
def NwB (n : Nat) (pv : Value) (B R b : Nat) : Prop := n ≤ b ∧ pv.ownBlock ≠ some b ∧ b ≠ B ∧ b ≠ R
theorem same_call {n C B R : Nat} {pv1 pv2 : Value} {w1 w2 : World} (hC : C < n) (ho : Only (Pb C pv1) w1 w2) (hf : Fr pv1 pv2 w1.heap.size) : Same (NwB n pv1 B R) (NwB n pv2 B R) w1 w2 := by
  intro b hb hl
  obtain ⟨h1, h2, h3, h4⟩ := hb
  refine ⟨⟨h1, fun e => ?_, h3, h4⟩, ho.block b hl ?_⟩
  · rcases hf b e with h | h
    · exact h2 h
    · omega
  · rintro (e | e)
    · omega
    · exact h2 e
theorem same_callC {n C B R : Nat} {pv1 : Value} {w1 w2 : World} (hC : C < n) (ho : Only (· = C) w1 w2) : Same (NwB n pv1 B R) (NwB n pv1 B R) w1 w2 := by
  intro b hb hl
  exact ⟨hb, ho.block b hl (by have := hb.1; omega)⟩
theorem same_set {n B R i : Nat} {pv1 : Value} {w1 : World} (u : Value) : Same (NwB n pv1 B R) (NwB n pv1 B R) w1 (w1.setCell ⟨B, i, none⟩ u) := by
  intro b hb hl
  exact ⟨hb, ((Only.refl (fun b => b = B) w1).setCell (p := ⟨B, i, none⟩) (.inl rfl) u).block b hl hb.2.2.1⟩
theorem only_set (w : World) (B i : Nat) (u : Value) : Only (fun b => b = B) w (w.setCell ⟨B, i, none⟩ u) := (Only.refl (fun b => b = B) w).setCell (p := ⟨B, i, none⟩) (.inl rfl) u
theorem ls_if {Q : Nat → Prop} {w : World} {K c : Nat} {x : EX} {vt ve : Value} {th el : List ST} (hQ : Q K) (hx : LXs Q w K 0 [x]) (ht : IsSs Q w vt th) (he : IsSs Q w ve el) :
    LS Q w (.agg #[.int .i64 7, .int .i64 0, .string ⟨#[]⟩, .string ⟨#[]⟩, .slice (some ⟨K, 0, none⟩) 1 c, vt, ve]) (.mk 7 0 [] [] [x] th el) := by
  obtain ⟨a, ca, rfl, hm, hr⟩ := ht
  obtain ⟨a', ca', rfl, hm', hr'⟩ := he
  unfold LS
  exact ⟨_, _, _, _, _, _, rfl, by unfold maxLen; simp, hm, hm', .inr ⟨K, 0, rfl, hQ, hx⟩, hr, hr'⟩
theorem isSs_none {Q : Nat → Prop} {w : World} : IsSs Q w (.slice none 0 0) [] := ⟨_, _, rfl, Nat.zero_le _, .inl rfl⟩
theorem choice_else {n : Nat} {st : Sta} {st2 : Sta} (h2 : left (on (left (on st P.pExpr)) (P.blockF (P.stmtN n))) = st2) (he : onIs [101, 108, 115, 101] st2 = true) :
    left (on st (P.choiceF n)) = left (on (tl st2) (P.blockF (P.stmtN n))) ∧ ∀ a qs ts, on st (P.choiceF n) = .ok ((a, qs), ts) → ∃ x r1 l1 q1 r2 l2 q2, on st P.pExpr = .ok (x, r1) ∧ on (left (on st P.pExpr)) (P.blockF (P.stmtN n)) = .ok ((l1, q1), r2) ∧ on (tl st2) (P.blockF (P.stmtN n)) = .ok ((l2, q2), ts) ∧ a = .mk 7 0 [] [] [x] l1 l2 ∧ qs = q1 ++ q2 := by
  subst h2
  rcases st with q | ts
  · cases he
  · simp only [on, P.choiceF] at he ⊢
    cases h1 : P.pExpr ts with
    | error p => rw [h1] at he; cases he
    | ok x =>
      obtain ⟨x, r1⟩ := x
      simp only [h1, left, on] at he ⊢
      cases h2 : P.blockF (P.stmtN n) r1 with
      | error p => rw [h2] at he; cases he
      | ok y =>
        obtain ⟨⟨l1, q1⟩, r2⟩ := y
        have he' : P.isS [101, 108, 115, 101] r2 = true := by rw [h2] at he; exact he
        simp only [he', if_true, left, tl, on]
        cases P.blockF (P.stmtN n) r2.tail with
        | error p => exact ⟨rfl, fun _ _ _ h => by cases h⟩
        | ok z => exact ⟨rfl, fun _ _ _ h => by cases h; exact ⟨_, _, _, _, _, _, _, rfl, rfl, rfl, rfl, rfl⟩⟩
theorem choice_none {n : Nat} {st : Sta} {st2 : Sta} (h2 : left (on (left (on st P.pExpr)) (P.blockF (P.stmtN n))) = st2) (he : onIs [101, 108, 115, 101] st2 = false) :
    left (on st (P.choiceF n)) = st2 ∧ ∀ a qs ts, on st (P.choiceF n) = .ok ((a, qs), ts) → ∃ x r1 l1 r2, on st P.pExpr = .ok (x, r1) ∧ on (left (on st P.pExpr)) (P.blockF (P.stmtN n)) = .ok ((l1, qs), r2) ∧ a = .mk 7 0 [] [] [x] l1 [] := by
  subst h2
  rcases st with q | ts
  · exact ⟨rfl, fun _ _ _ h => by cases h⟩
  · simp only [on, P.choiceF] at he ⊢
    cases h1 : P.pExpr ts with
    | error p => exact ⟨rfl, fun _ _ _ h => by cases h⟩
    | ok x =>
      obtain ⟨x, r1⟩ := x
      simp only [h1, left, on] at he ⊢
      cases h2 : P.blockF (P.stmtN n) r1 with
      | error p => exact ⟨rfl, fun _ _ _ h => by cases h⟩
      | ok y =>
        obtain ⟨⟨l1, q1⟩, r2⟩ := y
        have he' : P.isS [101, 108, 115, 101] r2 = false := by rw [h2] at he; exact he
        simp only [he', Bool.false_eq_true, if_false, left]
        exact ⟨trivial, fun _ _ _ h => by cases h; exact ⟨_, _, _, _, rfl, rfl, rfl⟩⟩
end Go.Proofs.YtchokfgffnomoaaDoor.Lx
