/-
  PLAIN MATHEMATICS of what is read: whatever program tokens make has a text; what a reader refuses stands at a token's place. It proves nothing of Go.
-/
import Derived.Test.YtihhkppimeagfaaSA
namespace Go.Proofs.Ytihhkppimeagfaa.P
open L (Tok)
set_option maxRecDepth 100000
set_option linter.unusedVariables false
set_option linter.unusedSimpArgs false
/-- A token as texts have them; its place is of PL. -/
def Sd (PL : Nat → Prop) (t : Tok) : Prop := (t.kind = 1 → Wo t.text) ∧ (t.kind = 2 → t.n ≤ L.top) ∧ PL t.at'
def Sds (PL : Nat → Prop) (ts : List Tok) : Prop := ∀ t ∈ ts, Sd PL t
theorem Sds.tail {PL : Nat → Prop} {ts : List Tok} (h : Sds PL ts) : Sds PL ts.tail := fun t ht => h t (List.mem_of_mem_tail ht)
theorem Sds.here {PL : Nat → Prop} (h0 : PL 0) {ts : List Tok} (h : Sds PL ts) : PL (here ts) := by
  cases ts with
  | nil => exact h0
  | cons t r => exact (h t (by simp)).2.2
/-- A reader: what it reads is of Q, it refuses at places of PL. -/
def Rd (PL : Nat → Prop) {α : Type} (R : List Tok → Res α) (Q : α → Prop) : Prop := ∀ ts, Sds PL ts → (∀ x r, R ts = .ok (x, r) → Q x ∧ Sds PL r) ∧ ∀ a, R ts = .error a → PL a
theorem need_rd {PL : Nat → Prop} (h0 : PL 0) (s : List UInt8) {ts : List Tok} (h : Sds PL ts) : (∀ r, need s ts = .ok r → Sds PL r) ∧ ∀ a, need s ts = .error a → PL a := by
  unfold need
  by_cases e : isS s ts = true
  · rw [if_pos e]
    exact ⟨fun r hr => (by cases hr; exact h.tail), fun a ha => (by cases ha)⟩
  · rw [if_neg e]
    exact ⟨fun r hr => (by cases hr), fun a ha => (by cases ha; exact h.here h0)⟩
theorem name_rd {PL : Nat → Prop} (h0 : PL 0) : Rd PL pName Na := by
  intro ts h
  cases ts with
  | nil => exact ⟨fun x r hr => (by cases hr), fun a ha => (by cases ha; exact h0)⟩
  | cons t u =>
    have ht := h t (by simp)
    unfold pName
    by_cases e : isN (t :: u) = true
    · simp only [if_pos e]
      refine ⟨fun x r hr => ?_, fun a ha => by cases ha⟩
      cases hr
      simp only [isN, Bool.and_eq_true, beq_iff_eq, Bool.not_eq_true'] at e
      have hw := ht.1 e.1
      refine ⟨⟨⟨e.2, ?_⟩, hw⟩, fun x hx => h x (by simp [hx])⟩
      obtain ⟨b, r, hbr, hb, _⟩ := hw
      exact ⟨b, r, hbr, hb⟩
    · simp only [if_neg e]
      exact ⟨fun x r hr => (by cases hr), fun a ha => (by cases ha; exact ht.2.2)⟩
theorem num_rd {PL : Nat → Prop} (h0 : PL 0) : Rd PL pNum (· ≤ L.top) := by
  intro ts h
  cases ts with
  | nil => exact ⟨fun x r hr => (by cases hr), fun a ha => (by cases ha; exact h0)⟩
  | cons t u =>
    have ht := h t (by simp)
    unfold pNum
    by_cases e : isD (t :: u) = true
    · simp only [if_pos e]
      refine ⟨fun x r hr => ?_, fun a ha => by cases ha⟩
      cases hr
      simp only [isD, beq_iff_eq] at e
      exact ⟨ht.2.1 e, fun x hx => h x (by simp [hx])⟩
    · simp only [if_neg e]
      exact ⟨fun x r hr => (by cases hr), fun a ha => (by cases ha; exact ht.2.2)⟩
theorem modeL_rd {PL : Nat → Prop} (h0 : PL 0) : ∀ k m, Rd PL (pModeL k m) (· < m + k)
  | 0, m => fun ts h => ⟨fun x r hr => (by cases hr), fun a ha => (by cases ha; exact h.here h0)⟩
  | k + 1, m => fun ts h => by
    unfold pModeL
    by_cases e : isS (modeT m) ts = true
    · rw [if_pos e]
      exact ⟨fun x r hr => by cases hr; exact ⟨by omega, h.tail⟩, fun a ha => by cases ha⟩
    · rw [if_neg e]
      obtain ⟨a1, a2⟩ := modeL_rd h0 k (m + 1) ts h
      exact ⟨fun x r hr => ⟨by have := (a1 x r hr).1; omega, (a1 x r hr).2⟩, a2⟩
theorem mode_rd {PL : Nat → Prop} (h0 : PL 0) : Rd PL pMode (· < 5) := fun ts h => by
  obtain ⟨a1, a2⟩ := modeL_rd h0 5 0 ts h
  exact ⟨fun x r hr => ⟨by have := (a1 x r hr).1; omega, (a1 x r hr).2⟩, a2⟩
/-! ### one behind the other -/
theorem out_is {PL : Nat → Prop} {β : Type} {Q' : β → Prop} {o o' : Res β} (h : o = o') (k : (∀ x r, o' = .ok (x, r) → Q' x ∧ Sds PL r) ∧ ∀ a, o' = .error a → PL a) : (∀ x r, o = .ok (x, r) → Q' x ∧ Sds PL r) ∧ ∀ a, o = .error a → PL a := by
  subst h
  exact k
def bindR {α β : Type} (o : Res α) (S : α → List Tok → Res β) : Res β :=
  match o with
  | .error p => .error p
  | .ok (x, r) => S x r
def needR {β : Type} (o : Except Nat (List Tok)) (S : List Tok → Res β) : Res β :=
  match o with
  | .error p => .error p
  | .ok r => S r
theorem Rd.bind {PL : Nat → Prop} {α β : Type} {R : List Tok → Res α} {Q : α → Prop} {S : α → List Tok → Res β} {Q' : β → Prop} (h : Rd PL R Q) (k : ∀ x, Q x → Rd PL (S x) Q') {ts : List Tok} (hs : Sds PL ts) {o : Res β}
    (ho : o = bindR (R ts) S) : (∀ x r, o = .ok (x, r) → Q' x ∧ Sds PL r) ∧ ∀ a, o = .error a → PL a := by
  obtain ⟨h1, h2⟩ := h ts hs
  subst ho
  cases e : R ts with
  | error p => exact ⟨fun x r hr => (by cases hr), fun a ha => (by cases ha; exact h2 _ e)⟩
  | ok y =>
    obtain ⟨x, r⟩ := y
    obtain ⟨hq, hr⟩ := h1 x r e
    exact k x hq r hr
theorem Rd.need {PL : Nat → Prop} (h0 : PL 0) {β : Type} (s : List UInt8) {S : List Tok → Res β} {Q' : β → Prop} (k : Rd PL S Q') {ts : List Tok} (hs : Sds PL ts) {o : Res β}
    (ho : o = needR (P.need s ts) S) : (∀ x r, o = .ok (x, r) → Q' x ∧ Sds PL r) ∧ ∀ a, o = .error a → PL a := by
  obtain ⟨h1, h2⟩ := need_rd h0 s hs
  subst ho
  cases e : P.need s ts with
  | error p => exact ⟨fun x r hr => (by cases hr), fun a ha => (by cases ha; exact h2 _ e)⟩
  | ok r => exact k r (h1 r e)
theorem Rd.pure {PL : Nat → Prop} {α : Type} {x : α} {Q : α → Prop} (h : Q x) : Rd PL (fun ts => .ok (x, ts)) Q := fun ts hs => ⟨fun y r hr => by cases hr; exact ⟨h, hs⟩, fun a ha => by cases ha⟩
/-! ### expressions -/
def ShX (e : EX) : Prop := ∃ t b, TX e t b
theorem shx_two {op : Int} {s : List UInt8} (h : Sign2 op s) {a b : EX} (ha : ShX a) (hb : ShX b) : ShX (.mk op 0 [] [a, b]) := by
  obtain ⟨ta, ba, ha⟩ := ha
  obtain ⟨tb, bb, hb⟩ := hb
  exact ⟨_, _, .bin h ha hb⟩
theorem atom_rd {PL : Nat → Prop} (h0 : PL 0) {rec : List Tok → Res EX} (h : Rd PL rec ShX) : Rd PL (atomF rec) ShX := by
  intro ts hs
  unfold atomF
  cases e1 : pNum ts with
  | ok y =>
    obtain ⟨n, r⟩ := y
    obtain ⟨q1, q2⟩ := (num_rd h0 ts hs).1 n r e1
    exact ⟨fun x r hr => by cases hr; exact ⟨⟨_, _, .num q1⟩, q2⟩, fun a ha => by cases ha⟩
  | error p =>
    simp only
    cases e2 : pName ts with
    | ok y =>
      obtain ⟨n, r⟩ := y
      obtain ⟨q1, q2⟩ := (name_rd h0 ts hs).1 n r e2
      exact ⟨fun x r hr => by cases hr; exact ⟨⟨_, _, .reg q1⟩, q2⟩, fun a ha => by cases ha⟩
    | error p =>
      simp only
      exact Rd.need h0 _ (S := fun r => match rec r with | .error p => .error p | .ok (e, r2) => match need [41] r2 with | .error p => .error p | .ok r3 => .ok (e, r3)) (fun ts hs => Rd.bind h (S := fun e r2 => match need [41] r2 with | .error p => .error p | .ok r3 => .ok (e, r3)) (fun e he ts hs => Rd.need h0 _ (Rd.pure he) hs (by (try dsimp only); first | rfl | (unfold bindR; split <;> (rename_i h9; rw [h9]; first | done | rfl)) | (unfold needR; split <;> (rename_i h9; rw [h9]; first | done | rfl)) | (unfold exprF bindR; split <;> (rename_i h9; rw [h9]; first | done | rfl)) | (unfold sumF bindR; split <;> (rename_i h9; rw [h9]; first | done | rfl)) | (unfold manyF bindR; split <;> (rename_i h9; rw [h9]; first | done | rfl)) | (unfold blockF needR; split <;> (rename_i h9; rw [h9]; first | done | rfl)))) hs (by (try dsimp only); first | rfl | (unfold bindR; split <;> (rename_i h9; rw [h9]; first | done | rfl)) | (unfold needR; split <;> (rename_i h9; rw [h9]; first | done | rfl)) | (unfold exprF bindR; split <;> (rename_i h9; rw [h9]; first | done | rfl)) | (unfold sumF bindR; split <;> (rename_i h9; rw [h9]; first | done | rfl)) | (unfold manyF bindR; split <;> (rename_i h9; rw [h9]; first | done | rfl)) | (unfold blockF needR; split <;> (rename_i h9; rw [h9]; first | done | rfl)))) hs (by (try dsimp only); first | rfl | (unfold bindR; split <;> (rename_i h9; rw [h9]; first | done | rfl)) | (unfold needR; split <;> (rename_i h9; rw [h9]; first | done | rfl)) | (unfold exprF bindR; split <;> (rename_i h9; rw [h9]; first | done | rfl)) | (unfold sumF bindR; split <;> (rename_i h9; rw [h9]; first | done | rfl)) | (unfold manyF bindR; split <;> (rename_i h9; rw [h9]; first | done | rfl)) | (unfold blockF needR; split <;> (rename_i h9; rw [h9]; first | done | rfl)))
theorem sumL_rd {PL : Nat → Prop} (h0 : PL 0) {rec : List Tok → Res EX} (h : Rd PL rec ShX) : ∀ (k : Nat) (e : EX), ShX e → Rd PL (sumL rec k e) ShX
  | 0, e, he => Rd.pure he
  | k + 1, e, he => fun ts hs => by
    unfold sumL
    by_cases c : (isS [43] ts || isS [45] ts) = true
    · rw [if_pos c]
      refine Rd.bind (atom_rd h0 h) (S := fun a r => sumL rec k (.mk (if isS [45] ts then 4 else 3) 0 [] [e, a]) r) (fun a ha => ?_) hs.tail (by (try dsimp only); first | rfl | (unfold bindR; split <;> (rename_i h9; rw [h9]; first | done | rfl)) | (unfold needR; split <;> (rename_i h9; rw [h9]; first | done | rfl)) | (unfold exprF bindR; split <;> (rename_i h9; rw [h9]; first | done | rfl)) | (unfold sumF bindR; split <;> (rename_i h9; rw [h9]; first | done | rfl)) | (unfold manyF bindR; split <;> (rename_i h9; rw [h9]; first | done | rfl)) | (unfold blockF needR; split <;> (rename_i h9; rw [h9]; first | done | rfl)))
      refine sumL_rd h0 h k _ ?_
      by_cases c2 : isS [45] ts = true
      · rw [if_pos c2]
        exact shx_two .minus he ha
      · rw [if_neg c2]
        exact shx_two .plus he ha
    · rw [if_neg c]
      exact Rd.pure he ts hs
theorem sum_rd {PL : Nat → Prop} (h0 : PL 0) {rec : List Tok → Res EX} (h : Rd PL rec ShX) : Rd PL (sumF rec) ShX := fun ts hs =>
  Rd.bind (atom_rd h0 h) (S := fun e r => sumL rec r.length e r) (fun e he ts hs => sumL_rd h0 h _ e he ts hs) hs (by (try dsimp only); first | rfl | (unfold bindR; split <;> (rename_i h9; rw [h9]; first | done | rfl)) | (unfold needR; split <;> (rename_i h9; rw [h9]; first | done | rfl)) | (unfold exprF bindR; split <;> (rename_i h9; rw [h9]; first | done | rfl)) | (unfold sumF bindR; split <;> (rename_i h9; rw [h9]; first | done | rfl)) | (unfold manyF bindR; split <;> (rename_i h9; rw [h9]; first | done | rfl)) | (unfold blockF needR; split <;> (rename_i h9; rw [h9]; first | done | rfl)))
theorem exprF_rd {PL : Nat → Prop} (h0 : PL 0) {rec : List Tok → Res EX} (h : Rd PL rec ShX) : Rd PL (exprF rec) ShX := fun ts hs => by
  refine Rd.bind (sum_rd h0 h) (S := fun e r => if isS [61, 61] r || isS [60] r then match sumF rec r.tail with | .error p => .error p | .ok (a, r2) => .ok (.mk (if isS [60] r then 6 else 5) 0 [] [e, a], r2) else .ok (e, r)) (fun e he r hr => ?_) hs (by (try dsimp only); first | rfl | (unfold bindR; split <;> (rename_i h9; rw [h9]; first | done | rfl)) | (unfold needR; split <;> (rename_i h9; rw [h9]; first | done | rfl)) | (unfold exprF bindR; split <;> (rename_i h9; rw [h9]; first | done | rfl)) | (unfold sumF bindR; split <;> (rename_i h9; rw [h9]; first | done | rfl)) | (unfold manyF bindR; split <;> (rename_i h9; rw [h9]; first | done | rfl)) | (unfold blockF needR; split <;> (rename_i h9; rw [h9]; first | done | rfl)))
  dsimp only
  by_cases c : (isS [61, 61] r || isS [60] r) = true
  · rw [if_pos c]
    refine Rd.bind (sum_rd h0 h) (S := fun a r2 => .ok (.mk (if isS [60] r then 6 else 5) 0 [] [e, a], r2)) (fun a ha => Rd.pure ?_) hr.tail (by (try dsimp only); first | rfl | (unfold bindR; split <;> (rename_i h9; rw [h9]; first | done | rfl)) | (unfold needR; split <;> (rename_i h9; rw [h9]; first | done | rfl)) | (unfold exprF bindR; split <;> (rename_i h9; rw [h9]; first | done | rfl)) | (unfold sumF bindR; split <;> (rename_i h9; rw [h9]; first | done | rfl)) | (unfold manyF bindR; split <;> (rename_i h9; rw [h9]; first | done | rfl)) | (unfold blockF needR; split <;> (rename_i h9; rw [h9]; first | done | rfl)))
    by_cases c2 : isS [60] r = true
    · rw [if_pos c2]
      exact shx_two .less he ha
    · rw [if_neg c2]
      exact shx_two .eq he ha
  · rw [if_neg c]
    exact Rd.pure he r hr
theorem exprN_rd {PL : Nat → Prop} (h0 : PL 0) : ∀ n, Rd PL (exprN n) ShX
  | 0 => fun ts hs => ⟨fun x r hr => (by cases hr), fun a ha => (by cases ha; exact hs.here h0)⟩
  | n + 1 => exprF_rd h0 (exprN_rd h0 n)
theorem expr_rd {PL : Nat → Prop} (h0 : PL 0) : Rd PL pExpr ShX := fun ts hs => exprN_rd h0 ts.length ts hs
/-! ### conditions -/
def ShC (c : CO) : Prop := ∃ t b, TC c t b
theorem lit_rd {PL : Nat → Prop} (h0 : PL 0) : Rd PL litF ShC := by
  intro ts hs
  have key : ∀ (th : Int) (op : Int), (∀ s n, Na s → n ≤ L.top → ShC (.mk op th s (n : Nat) [])) → Rd PL (fun ts => match pName ts with | .error p => .error p | .ok (s, r2) => match need [61, 61] r2 with | .error p => .error p | .ok r3 => match pNum r3 with | .error p => .error p | .ok (n, r4) => .ok (.mk op th s (n : Nat) [], r4)) ShC := by
    intro th op hk ts hs
    refine Rd.bind (name_rd h0) (S := fun s r2 => match need [61, 61] r2 with | .error p => .error p | .ok r3 => match pNum r3 with | .error p => .error p | .ok (n, r4) => .ok (.mk op th s (n : Nat) [], r4)) (fun s hsn ts hs => ?_) hs (by (try dsimp only); first | rfl | (unfold bindR; split <;> (rename_i h9; rw [h9]; first | done | rfl)) | (unfold needR; split <;> (rename_i h9; rw [h9]; first | done | rfl)) | (unfold exprF bindR; split <;> (rename_i h9; rw [h9]; first | done | rfl)) | (unfold sumF bindR; split <;> (rename_i h9; rw [h9]; first | done | rfl)) | (unfold manyF bindR; split <;> (rename_i h9; rw [h9]; first | done | rfl)) | (unfold blockF needR; split <;> (rename_i h9; rw [h9]; first | done | rfl)))
    refine Rd.need h0 _ (S := fun r3 => match pNum r3 with | .error p => .error p | .ok (n, r4) => .ok (.mk op th s (n : Nat) [], r4)) (fun ts hs => ?_) hs (by (try dsimp only); first | rfl | (unfold bindR; split <;> (rename_i h9; rw [h9]; first | done | rfl)) | (unfold needR; split <;> (rename_i h9; rw [h9]; first | done | rfl)) | (unfold exprF bindR; split <;> (rename_i h9; rw [h9]; first | done | rfl)) | (unfold sumF bindR; split <;> (rename_i h9; rw [h9]; first | done | rfl)) | (unfold manyF bindR; split <;> (rename_i h9; rw [h9]; first | done | rfl)) | (unfold blockF needR; split <;> (rename_i h9; rw [h9]; first | done | rfl)))
    exact Rd.bind (num_rd h0) (S := fun n r4 => .ok (.mk op th s (n : Nat) [], r4)) (fun n hn => Rd.pure (hk s n hsn hn)) hs (by (try dsimp only); first | rfl | (unfold bindR; split <;> (rename_i h9; rw [h9]; first | done | rfl)) | (unfold needR; split <;> (rename_i h9; rw [h9]; first | done | rfl)) | (unfold exprF bindR; split <;> (rename_i h9; rw [h9]; first | done | rfl)) | (unfold sumF bindR; split <;> (rename_i h9; rw [h9]; first | done | rfl)) | (unfold manyF bindR; split <;> (rename_i h9; rw [h9]; first | done | rfl)) | (unfold blockF needR; split <;> (rename_i h9; rw [h9]; first | done | rfl)))
  unfold litF
  cases e1 : pNum ts with
  | ok y =>
    obtain ⟨k, r⟩ := y
    obtain ⟨q1, q2⟩ := (num_rd h0 ts hs).1 k r e1
    exact Rd.need h0 _ (key k 2 (fun s n a b => ⟨_, _, .reg a b q1⟩)) q2 (by (try dsimp only); first | rfl | (unfold bindR; split <;> (rename_i h9; rw [h9]; first | done | rfl)) | (unfold needR; split <;> (rename_i h9; rw [h9]; first | done | rfl)) | (unfold exprF bindR; split <;> (rename_i h9; rw [h9]; first | done | rfl)) | (unfold sumF bindR; split <;> (rename_i h9; rw [h9]; first | done | rfl)) | (unfold manyF bindR; split <;> (rename_i h9; rw [h9]; first | done | rfl)) | (unfold blockF needR; split <;> (rename_i h9; rw [h9]; first | done | rfl)))
  | error p => exact key 0 1 (fun s n a b => ⟨_, _, .mem a b⟩) ts hs
def Jn (word : List UInt8) (op : Int) : Prop := ∀ a b, ShC a → ShC b → ShC (.mk op 0 [] 0 [a, b])
theorem manyL_rd {PL : Nat → Prop} {one : List Tok → Res CO} (h : Rd PL one ShC) {word : List UInt8} {op : Int} (hj : Jn word op) : ∀ (k : Nat) (e : CO), ShC e → Rd PL (manyL one word op k e) ShC
  | 0, e, he => Rd.pure he
  | k + 1, e, he => fun ts hs => by
    unfold manyL
    by_cases c : isS word ts = true
    · rw [if_pos c]
      exact Rd.bind h (S := fun a r => manyL one word op k (.mk op 0 [] 0 [e, a]) r) (fun a ha => manyL_rd h hj k _ (hj _ _ he ha)) hs.tail (by (try dsimp only); first | rfl | (unfold bindR; split <;> (rename_i h9; rw [h9]; first | done | rfl)) | (unfold needR; split <;> (rename_i h9; rw [h9]; first | done | rfl)) | (unfold exprF bindR; split <;> (rename_i h9; rw [h9]; first | done | rfl)) | (unfold sumF bindR; split <;> (rename_i h9; rw [h9]; first | done | rfl)) | (unfold manyF bindR; split <;> (rename_i h9; rw [h9]; first | done | rfl)) | (unfold blockF needR; split <;> (rename_i h9; rw [h9]; first | done | rfl)))
    · rw [if_neg c]
      exact Rd.pure he ts hs
theorem manyF_rd {PL : Nat → Prop} {one : List Tok → Res CO} (h : Rd PL one ShC) {word : List UInt8} {op : Int} (hj : Jn word op) : Rd PL (manyF one word op) ShC := fun ts hs =>
  Rd.bind h (S := fun e r => manyL one word op r.length e r) (fun e he ts hs => manyL_rd h hj _ e he ts hs) hs (by (try dsimp only); first | rfl | (unfold bindR; split <;> (rename_i h9; rw [h9]; first | done | rfl)) | (unfold needR; split <;> (rename_i h9; rw [h9]; first | done | rfl)) | (unfold exprF bindR; split <;> (rename_i h9; rw [h9]; first | done | rfl)) | (unfold sumF bindR; split <;> (rename_i h9; rw [h9]; first | done | rfl)) | (unfold manyF bindR; split <;> (rename_i h9; rw [h9]; first | done | rfl)) | (unfold blockF needR; split <;> (rename_i h9; rw [h9]; first | done | rfl)))
theorem condF_rd {PL : Nat → Prop} {one : List Tok → Res CO} (h : Rd PL one ShC) : Rd PL (condF one) ShC := by
  refine manyF_rd (manyF_rd h ?_) ?_
  · rintro a b ⟨ta, ba, ha⟩ ⟨tb, bb, hb⟩
    exact ⟨_, _, .and ha hb⟩
  · rintro a b ⟨ta, ba, ha⟩ ⟨tb, bb, hb⟩
    exact ⟨_, _, .or ha hb⟩
theorem oneN_rd {PL : Nat → Prop} (h0 : PL 0) : ∀ n, Rd PL (oneN n) ShC
  | 0 => fun ts hs => ⟨fun x r hr => (by cases hr), fun a ha => (by cases ha; exact hs.here h0)⟩
  | n + 1 => fun ts hs => by
    unfold oneN
    by_cases c : isS [110, 111, 116] ts = true
    · rw [if_pos c]
      refine Rd.bind (oneN_rd h0 n) (S := fun a r => .ok (.mk 3 0 [] 0 [a], r)) (fun a ha => Rd.pure ?_) hs.tail (by (try dsimp only); first | rfl | (unfold bindR; split <;> (rename_i h9; rw [h9]; first | done | rfl)) | (unfold needR; split <;> (rename_i h9; rw [h9]; first | done | rfl)) | (unfold exprF bindR; split <;> (rename_i h9; rw [h9]; first | done | rfl)) | (unfold sumF bindR; split <;> (rename_i h9; rw [h9]; first | done | rfl)) | (unfold manyF bindR; split <;> (rename_i h9; rw [h9]; first | done | rfl)) | (unfold blockF needR; split <;> (rename_i h9; rw [h9]; first | done | rfl)))
      obtain ⟨t, b, h⟩ := ha
      exact ⟨_, _, .not h⟩
    · rw [if_neg c]
      by_cases c : isS [40] ts = true
      · rw [if_pos c]
        exact Rd.bind (condF_rd (oneN_rd h0 n)) (S := fun a r => match need [41] r with | .error p => .error p | .ok r2 => .ok (a, r2)) (fun a ha ts hs => Rd.need h0 _ (Rd.pure ha) hs (by (try dsimp only); first | rfl | (unfold bindR; split <;> (rename_i h9; rw [h9]; first | done | rfl)) | (unfold needR; split <;> (rename_i h9; rw [h9]; first | done | rfl)) | (unfold exprF bindR; split <;> (rename_i h9; rw [h9]; first | done | rfl)) | (unfold sumF bindR; split <;> (rename_i h9; rw [h9]; first | done | rfl)) | (unfold manyF bindR; split <;> (rename_i h9; rw [h9]; first | done | rfl)) | (unfold blockF needR; split <;> (rename_i h9; rw [h9]; first | done | rfl)))) hs.tail (by (try dsimp only); first | rfl | (unfold bindR; split <;> (rename_i h9; rw [h9]; first | done | rfl)) | (unfold needR; split <;> (rename_i h9; rw [h9]; first | done | rfl)) | (unfold exprF bindR; split <;> (rename_i h9; rw [h9]; first | done | rfl)) | (unfold sumF bindR; split <;> (rename_i h9; rw [h9]; first | done | rfl)) | (unfold manyF bindR; split <;> (rename_i h9; rw [h9]; first | done | rfl)) | (unfold blockF needR; split <;> (rename_i h9; rw [h9]; first | done | rfl)))
      · rw [if_neg c]
        exact lit_rd h0 ts hs
theorem cond_rd {PL : Nat → Prop} (h0 : PL 0) : Rd PL pCond ShC := fun ts hs => condF_rd (oneN_rd h0 ts.length) ts hs
/-! ### statements -/
def ShS (s : ST) : Prop := ∀ d, ∃ t b q, TS d s t b q
def ShSs (l : List ST) : Prop := ∀ d, ∃ t b q, TSs d l t b q
theorem right_rd {PL : Nat → Prop} (h0 : PL 0) {g : List UInt8} (hg : Na g) : Rd PL (rightF g) ShS := fun ts hs => by
  unfold rightF
  by_cases c : isS [108, 111, 97, 100] ts = true
  · rw [if_pos c]
    refine Rd.bind (mode_rd h0) (S := fun m r1 => match pName r1 with | .error p => .error p | .ok (l, r2) => .ok (.mk 2 m g l [] [] [], r2)) (fun m hm ts hs => ?_) hs.tail (by (try dsimp only); first | rfl | (unfold bindR; split <;> (rename_i h9; rw [h9]; first | done | rfl)) | (unfold needR; split <;> (rename_i h9; rw [h9]; first | done | rfl)) | (unfold exprF bindR; split <;> (rename_i h9; rw [h9]; first | done | rfl)) | (unfold sumF bindR; split <;> (rename_i h9; rw [h9]; first | done | rfl)) | (unfold manyF bindR; split <;> (rename_i h9; rw [h9]; first | done | rfl)) | (unfold blockF needR; split <;> (rename_i h9; rw [h9]; first | done | rfl)))
    exact Rd.bind (name_rd h0) (S := fun l r2 => .ok (.mk 2 (m : Nat) g l [] [] [], r2)) (fun l hl => Rd.pure (fun d => ⟨_, _, _, .load hm hg hl⟩)) hs (by (try dsimp only); first | rfl | (unfold bindR; split <;> (rename_i h9; rw [h9]; first | done | rfl)) | (unfold needR; split <;> (rename_i h9; rw [h9]; first | done | rfl)) | (unfold exprF bindR; split <;> (rename_i h9; rw [h9]; first | done | rfl)) | (unfold sumF bindR; split <;> (rename_i h9; rw [h9]; first | done | rfl)) | (unfold manyF bindR; split <;> (rename_i h9; rw [h9]; first | done | rfl)) | (unfold blockF needR; split <;> (rename_i h9; rw [h9]; first | done | rfl)))
  · rw [if_neg c]
    by_cases c : isS [97, 100, 100] ts = true
    · rw [if_pos c]
      refine Rd.bind (mode_rd h0) (S := fun m r1 => match pName r1 with | .error p => .error p | .ok (l, r2) => match pExpr r2 with | .error p => .error p | .ok (e, r3) => .ok (.mk 4 m g l [e] [] [], r3)) (fun m hm ts hs => ?_) hs.tail (by (try dsimp only); first | rfl | (unfold bindR; split <;> (rename_i h9; rw [h9]; first | done | rfl)) | (unfold needR; split <;> (rename_i h9; rw [h9]; first | done | rfl)) | (unfold exprF bindR; split <;> (rename_i h9; rw [h9]; first | done | rfl)) | (unfold sumF bindR; split <;> (rename_i h9; rw [h9]; first | done | rfl)) | (unfold manyF bindR; split <;> (rename_i h9; rw [h9]; first | done | rfl)) | (unfold blockF needR; split <;> (rename_i h9; rw [h9]; first | done | rfl)))
      refine Rd.bind (name_rd h0) (S := fun l r2 => match pExpr r2 with | .error p => .error p | .ok (e, r3) => .ok (.mk 4 (m : Nat) g l [e] [] [], r3)) (fun l hl ts hs => ?_) hs (by (try dsimp only); first | rfl | (unfold bindR; split <;> (rename_i h9; rw [h9]; first | done | rfl)) | (unfold needR; split <;> (rename_i h9; rw [h9]; first | done | rfl)) | (unfold exprF bindR; split <;> (rename_i h9; rw [h9]; first | done | rfl)) | (unfold sumF bindR; split <;> (rename_i h9; rw [h9]; first | done | rfl)) | (unfold manyF bindR; split <;> (rename_i h9; rw [h9]; first | done | rfl)) | (unfold blockF needR; split <;> (rename_i h9; rw [h9]; first | done | rfl)))
      exact Rd.bind (expr_rd h0) (S := fun e r3 => .ok (.mk 4 (m : Nat) g l [e] [] [], r3)) (fun e he => Rd.pure (fun d => (by obtain ⟨t, b, he⟩ := he; exact ⟨_, _, _, .add hm hg hl he⟩))) hs (by (try dsimp only); first | rfl | (unfold bindR; split <;> (rename_i h9; rw [h9]; first | done | rfl)) | (unfold needR; split <;> (rename_i h9; rw [h9]; first | done | rfl)) | (unfold exprF bindR; split <;> (rename_i h9; rw [h9]; first | done | rfl)) | (unfold sumF bindR; split <;> (rename_i h9; rw [h9]; first | done | rfl)) | (unfold manyF bindR; split <;> (rename_i h9; rw [h9]; first | done | rfl)) | (unfold blockF needR; split <;> (rename_i h9; rw [h9]; first | done | rfl)))
    · rw [if_neg c]
      by_cases c : isS [99, 97, 115] ts = true
      · rw [if_pos c]
        refine Rd.bind (mode_rd h0) (S := fun m r1 => match pName r1 with | .error p => .error p | .ok (l, r2) => match pExpr r2 with | .error p => .error p | .ok (a, r3) => match need [44] r3 with | .error p => .error p | .ok r4 => match pExpr r4 with | .error p => .error p | .ok (b, r5) => .ok (.mk 5 m g l [a, b] [] [], r5)) (fun m hm ts hs => ?_) hs.tail (by (try dsimp only); first | rfl | (unfold bindR; split <;> (rename_i h9; rw [h9]; first | done | rfl)) | (unfold needR; split <;> (rename_i h9; rw [h9]; first | done | rfl)) | (unfold exprF bindR; split <;> (rename_i h9; rw [h9]; first | done | rfl)) | (unfold sumF bindR; split <;> (rename_i h9; rw [h9]; first | done | rfl)) | (unfold manyF bindR; split <;> (rename_i h9; rw [h9]; first | done | rfl)) | (unfold blockF needR; split <;> (rename_i h9; rw [h9]; first | done | rfl)))
        refine Rd.bind (name_rd h0) (S := fun l r2 => match pExpr r2 with | .error p => .error p | .ok (a, r3) => match need [44] r3 with | .error p => .error p | .ok r4 => match pExpr r4 with | .error p => .error p | .ok (b, r5) => .ok (.mk 5 (m : Nat) g l [a, b] [] [], r5)) (fun l hl ts hs => ?_) hs (by (try dsimp only); first | rfl | (unfold bindR; split <;> (rename_i h9; rw [h9]; first | done | rfl)) | (unfold needR; split <;> (rename_i h9; rw [h9]; first | done | rfl)) | (unfold exprF bindR; split <;> (rename_i h9; rw [h9]; first | done | rfl)) | (unfold sumF bindR; split <;> (rename_i h9; rw [h9]; first | done | rfl)) | (unfold manyF bindR; split <;> (rename_i h9; rw [h9]; first | done | rfl)) | (unfold blockF needR; split <;> (rename_i h9; rw [h9]; first | done | rfl)))
        refine Rd.bind (expr_rd h0) (S := fun a r3 => match need [44] r3 with | .error p => .error p | .ok r4 => match pExpr r4 with | .error p => .error p | .ok (b, r5) => .ok (.mk 5 (m : Nat) g l [a, b] [] [], r5)) (fun a ha ts hs => ?_) hs (by (try dsimp only); first | rfl | (unfold bindR; split <;> (rename_i h9; rw [h9]; first | done | rfl)) | (unfold needR; split <;> (rename_i h9; rw [h9]; first | done | rfl)) | (unfold exprF bindR; split <;> (rename_i h9; rw [h9]; first | done | rfl)) | (unfold sumF bindR; split <;> (rename_i h9; rw [h9]; first | done | rfl)) | (unfold manyF bindR; split <;> (rename_i h9; rw [h9]; first | done | rfl)) | (unfold blockF needR; split <;> (rename_i h9; rw [h9]; first | done | rfl)))
        refine Rd.need h0 _ (S := fun r4 => match pExpr r4 with | .error p => .error p | .ok (b, r5) => .ok (.mk 5 (m : Nat) g l [a, b] [] [], r5)) (fun ts hs => ?_) hs (by (try dsimp only); first | rfl | (unfold bindR; split <;> (rename_i h9; rw [h9]; first | done | rfl)) | (unfold needR; split <;> (rename_i h9; rw [h9]; first | done | rfl)) | (unfold exprF bindR; split <;> (rename_i h9; rw [h9]; first | done | rfl)) | (unfold sumF bindR; split <;> (rename_i h9; rw [h9]; first | done | rfl)) | (unfold manyF bindR; split <;> (rename_i h9; rw [h9]; first | done | rfl)) | (unfold blockF needR; split <;> (rename_i h9; rw [h9]; first | done | rfl)))
        exact Rd.bind (expr_rd h0) (S := fun b r5 => .ok (.mk 5 (m : Nat) g l [a, b] [] [], r5)) (fun b hb => Rd.pure (fun d => (by obtain ⟨t, y, ha⟩ := ha; obtain ⟨t, y, hb⟩ := hb; exact ⟨_, _, _, .cas hm hg hl ha hb⟩))) hs (by (try dsimp only); first | rfl | (unfold bindR; split <;> (rename_i h9; rw [h9]; first | done | rfl)) | (unfold needR; split <;> (rename_i h9; rw [h9]; first | done | rfl)) | (unfold exprF bindR; split <;> (rename_i h9; rw [h9]; first | done | rfl)) | (unfold sumF bindR; split <;> (rename_i h9; rw [h9]; first | done | rfl)) | (unfold manyF bindR; split <;> (rename_i h9; rw [h9]; first | done | rfl)) | (unfold blockF needR; split <;> (rename_i h9; rw [h9]; first | done | rfl)))
      · rw [if_neg c]
        exact Rd.bind (expr_rd h0) (S := fun e r => .ok (.mk 1 0 g [] [e] [] [], r)) (fun e he => Rd.pure (fun d => (by obtain ⟨t, b, he⟩ := he; exact ⟨_, _, _, .set hg he⟩))) hs (by (try dsimp only); first | rfl | (unfold bindR; split <;> (rename_i h9; rw [h9]; first | done | rfl)) | (unfold needR; split <;> (rename_i h9; rw [h9]; first | done | rfl)) | (unfold exprF bindR; split <;> (rename_i h9; rw [h9]; first | done | rfl)) | (unfold sumF bindR; split <;> (rename_i h9; rw [h9]; first | done | rfl)) | (unfold manyF bindR; split <;> (rename_i h9; rw [h9]; first | done | rfl)) | (unfold blockF needR; split <;> (rename_i h9; rw [h9]; first | done | rfl)))
def Q1 {α : Type} (Q : α → Prop) : α × List Nat → Prop := fun x => Q x.1
theorem semi_rd {PL : Nat → Prop} (h0 : PL 0) {x : Res ST} {q : Nat} (h : (∀ s r, x = .ok (s, r) → ShS s ∧ Sds PL r) ∧ ∀ a, x = .error a → PL a) : (∀ s r, semi x q = .ok (s, r) → Q1 ShS s ∧ Sds PL r) ∧ ∀ a, semi x q = .error a → PL a := by
  unfold semi
  cases x with
  | error p => exact ⟨fun x r hr => (by cases hr), fun a ha => (by cases ha; exact h.2 _ rfl)⟩
  | ok y =>
    obtain ⟨s, r⟩ := y
    obtain ⟨q1, q2⟩ := h.1 s r rfl
    exact Rd.need h0 _ (S := fun r2 => .ok ((s, [q]), r2)) (Rd.pure q1) q2 (by (try dsimp only); first | rfl | (unfold bindR; split <;> (rename_i h9; rw [h9]; first | done | rfl)) | (unfold needR; split <;> (rename_i h9; rw [h9]; first | done | rfl)) | (unfold exprF bindR; split <;> (rename_i h9; rw [h9]; first | done | rfl)) | (unfold sumF bindR; split <;> (rename_i h9; rw [h9]; first | done | rfl)) | (unfold manyF bindR; split <;> (rename_i h9; rw [h9]; first | done | rfl)) | (unfold blockF needR; split <;> (rename_i h9; rw [h9]; first | done | rfl)))
theorem stmtsL_rd {PL : Nat → Prop} (h0 : PL 0) {stmt : List Tok → Res (ST × List Nat)} (h : Rd PL stmt (Q1 ShS)) : ∀ k, Rd PL (stmtsL stmt k) (Q1 ShSs)
  | 0 => fun ts hs => ⟨fun x r hr => (by cases hr), fun a ha => (by cases ha; exact hs.here h0)⟩
  | k + 1 => fun ts hs => by
    unfold stmtsL
    by_cases c : isS [125] ts = true
    · rw [if_pos c]
      exact ⟨fun x r hr => by cases hr; exact ⟨fun d => ⟨_, _, _, .nil⟩, hs.tail⟩, fun a ha => by cases ha⟩
    · rw [if_neg c]
      refine Rd.bind h (S := fun x r => match stmtsL stmt k r with | .error p => .error p | .ok ((l, qs), r2) => .ok ((x.1 :: l, x.2 ++ qs), r2)) (fun x hx ts hs => ?_) hs (by (try dsimp only); first | rfl | (unfold bindR; split <;> (rename_i h9; rw [h9]; first | done | rfl)) | (unfold needR; split <;> (rename_i h9; rw [h9]; first | done | rfl)) | (unfold exprF bindR; split <;> (rename_i h9; rw [h9]; first | done | rfl)) | (unfold sumF bindR; split <;> (rename_i h9; rw [h9]; first | done | rfl)) | (unfold manyF bindR; split <;> (rename_i h9; rw [h9]; first | done | rfl)) | (unfold blockF needR; split <;> (rename_i h9; rw [h9]; first | done | rfl)))
      refine Rd.bind (stmtsL_rd h0 h k) (S := fun y r2 => .ok ((x.1 :: y.1, x.2 ++ y.2), r2)) (fun y hy => Rd.pure (fun d => ?_)) hs (by (try dsimp only); first | rfl | (unfold bindR; split <;> (rename_i h9; rw [h9]; first | done | rfl)) | (unfold needR; split <;> (rename_i h9; rw [h9]; first | done | rfl)) | (unfold exprF bindR; split <;> (rename_i h9; rw [h9]; first | done | rfl)) | (unfold sumF bindR; split <;> (rename_i h9; rw [h9]; first | done | rfl)) | (unfold manyF bindR; split <;> (rename_i h9; rw [h9]; first | done | rfl)) | (unfold blockF needR; split <;> (rename_i h9; rw [h9]; first | done | rfl)))
      obtain ⟨t, b, q, h1⟩ := hx d
      obtain ⟨t, b, q, h2⟩ := hy d
      exact ⟨_, _, _, .cons h1 h2⟩
theorem blockF_rd {PL : Nat → Prop} (h0 : PL 0) {stmt : List Tok → Res (ST × List Nat)} (h : Rd PL stmt (Q1 ShS)) : Rd PL (blockF stmt) (Q1 ShSs) := fun ts hs =>
  Rd.need h0 _ (S := fun r => stmtsL stmt r.length r) (fun ts hs => stmtsL_rd h0 h _ ts hs) hs (by (try dsimp only); first | rfl | (unfold bindR; split <;> (rename_i h9; rw [h9]; first | done | rfl)) | (unfold needR; split <;> (rename_i h9; rw [h9]; first | done | rfl)) | (unfold exprF bindR; split <;> (rename_i h9; rw [h9]; first | done | rfl)) | (unfold sumF bindR; split <;> (rename_i h9; rw [h9]; first | done | rfl)) | (unfold manyF bindR; split <;> (rename_i h9; rw [h9]; first | done | rfl)) | (unfold blockF needR; split <;> (rename_i h9; rw [h9]; first | done | rfl)))
theorem stmtN_rd {PL : Nat → Prop} (h0 : PL 0) : ∀ n, Rd PL (stmtN n) (Q1 ShS)
  | 0 => fun ts hs => ⟨fun x r hr => (by cases hr), fun a ha => (by cases ha; exact hs.here h0)⟩
  | n + 1 => fun ts hs => by
    unfold stmtN
    by_cases c : isS [115, 116, 111, 114, 101] ts = true
    · rw [if_pos c]
      refine semi_rd h0 ?_
      refine Rd.bind (mode_rd h0) (S := fun m r1 => match pName r1 with | .error p => .error p | .ok (l, r2) => match pExpr r2 with | .error p => .error p | .ok (e, r3) => .ok (.mk 3 m [] l [e] [] [], r3)) (fun m hm ts hs => ?_) hs.tail (by (try dsimp only); first | rfl | (unfold bindR; split <;> (rename_i h9; rw [h9]; first | done | rfl)) | (unfold needR; split <;> (rename_i h9; rw [h9]; first | done | rfl)) | (unfold exprF bindR; split <;> (rename_i h9; rw [h9]; first | done | rfl)) | (unfold sumF bindR; split <;> (rename_i h9; rw [h9]; first | done | rfl)) | (unfold manyF bindR; split <;> (rename_i h9; rw [h9]; first | done | rfl)) | (unfold blockF needR; split <;> (rename_i h9; rw [h9]; first | done | rfl)))
      refine Rd.bind (name_rd h0) (S := fun l r2 => match pExpr r2 with | .error p => .error p | .ok (e, r3) => .ok (.mk 3 (m : Nat) [] l [e] [] [], r3)) (fun l hl ts hs => ?_) hs (by (try dsimp only); first | rfl | (unfold bindR; split <;> (rename_i h9; rw [h9]; first | done | rfl)) | (unfold needR; split <;> (rename_i h9; rw [h9]; first | done | rfl)) | (unfold exprF bindR; split <;> (rename_i h9; rw [h9]; first | done | rfl)) | (unfold sumF bindR; split <;> (rename_i h9; rw [h9]; first | done | rfl)) | (unfold manyF bindR; split <;> (rename_i h9; rw [h9]; first | done | rfl)) | (unfold blockF needR; split <;> (rename_i h9; rw [h9]; first | done | rfl)))
      exact Rd.bind (expr_rd h0) (S := fun e r3 => .ok (.mk 3 (m : Nat) [] l [e] [] [], r3)) (fun e he => Rd.pure (fun d => (by obtain ⟨t, b, he⟩ := he; exact ⟨_, _, _, .store hm hl he⟩))) hs (by (try dsimp only); first | rfl | (unfold bindR; split <;> (rename_i h9; rw [h9]; first | done | rfl)) | (unfold needR; split <;> (rename_i h9; rw [h9]; first | done | rfl)) | (unfold exprF bindR; split <;> (rename_i h9; rw [h9]; first | done | rfl)) | (unfold sumF bindR; split <;> (rename_i h9; rw [h9]; first | done | rfl)) | (unfold manyF bindR; split <;> (rename_i h9; rw [h9]; first | done | rfl)) | (unfold blockF needR; split <;> (rename_i h9; rw [h9]; first | done | rfl)))
    · rw [if_neg c]
      by_cases c : isS [102, 101, 110, 99, 101] ts = true
      · rw [if_pos c]
        refine semi_rd h0 ?_
        exact Rd.bind (mode_rd h0) (S := fun m r1 => .ok (.mk 6 (m : Nat) [] [] [] [] [], r1)) (fun m hm => Rd.pure (fun d => ⟨_, _, _, .fence hm⟩)) hs.tail (by (try dsimp only); first | rfl | (unfold bindR; split <;> (rename_i h9; rw [h9]; first | done | rfl)) | (unfold needR; split <;> (rename_i h9; rw [h9]; first | done | rfl)) | (unfold exprF bindR; split <;> (rename_i h9; rw [h9]; first | done | rfl)) | (unfold sumF bindR; split <;> (rename_i h9; rw [h9]; first | done | rfl)) | (unfold manyF bindR; split <;> (rename_i h9; rw [h9]; first | done | rfl)) | (unfold blockF needR; split <;> (rename_i h9; rw [h9]; first | done | rfl)))
      · rw [if_neg c]
        by_cases c : isS [105, 102] ts = true
        · rw [if_pos c]
          refine Rd.bind (expr_rd h0) (S := fun e r1 => match blockF (stmtN n) r1 with | .error p => .error p | .ok ((a, ps), r2) => if isS [101, 108, 115, 101] r2 then match blockF (stmtN n) r2.tail with | .error p => .error p | .ok ((b, qs), r3) => .ok ((.mk 7 0 [] [] [e] a b, here ts :: (ps ++ qs)), r3) else .ok ((.mk 7 0 [] [] [e] a [], here ts :: ps), r2)) (fun e he r1 hr1 => ?_) hs.tail (by (try dsimp only); first | rfl | (unfold bindR; split <;> (rename_i h9; rw [h9]; first | done | rfl)) | (unfold needR; split <;> (rename_i h9; rw [h9]; first | done | rfl)) | (unfold exprF bindR; split <;> (rename_i h9; rw [h9]; first | done | rfl)) | (unfold sumF bindR; split <;> (rename_i h9; rw [h9]; first | done | rfl)) | (unfold manyF bindR; split <;> (rename_i h9; rw [h9]; first | done | rfl)) | (unfold blockF needR; split <;> (rename_i h9; rw [h9]; first | done | rfl)))
          obtain ⟨te, be, he⟩ := he
          refine Rd.bind (blockF_rd h0 (stmtN_rd h0 n)) (S := fun x r2 => if isS [101, 108, 115, 101] r2 then match blockF (stmtN n) r2.tail with | .error p => .error p | .ok ((b, qs), r3) => .ok ((.mk 7 0 [] [] [e] x.1 b, here ts :: (x.2 ++ qs)), r3) else .ok ((.mk 7 0 [] [] [e] x.1 [], here ts :: x.2), r2)) (fun x hx r2 hr2 => ?_) hr1 (by (try dsimp only); first | rfl | (unfold bindR; split <;> (rename_i h9; rw [h9]; first | done | rfl)) | (unfold needR; split <;> (rename_i h9; rw [h9]; first | done | rfl)) | (unfold exprF bindR; split <;> (rename_i h9; rw [h9]; first | done | rfl)) | (unfold sumF bindR; split <;> (rename_i h9; rw [h9]; first | done | rfl)) | (unfold manyF bindR; split <;> (rename_i h9; rw [h9]; first | done | rfl)) | (unfold blockF needR; split <;> (rename_i h9; rw [h9]; first | done | rfl)))
          have hif : ShS (.mk 7 0 [] [] [e] x.1 []) := fun d => by
            obtain ⟨t, b, q, h1⟩ := hx (d + 1)
            exact ⟨_, _, _, .ifs he h1⟩
          dsimp only
          by_cases c : isS [101, 108, 115, 101] r2 = true
          · rw [if_pos c]
            refine Rd.bind (blockF_rd h0 (stmtN_rd h0 n)) (S := fun y r3 => .ok ((.mk 7 0 [] [] [e] x.1 y.1, here ts :: (x.2 ++ y.2)), r3)) (fun y hy => Rd.pure ?_) hr2.tail (by (try dsimp only); first | rfl | (unfold bindR; split <;> (rename_i h9; rw [h9]; first | done | rfl)) | (unfold needR; split <;> (rename_i h9; rw [h9]; first | done | rfl)) | (unfold exprF bindR; split <;> (rename_i h9; rw [h9]; first | done | rfl)) | (unfold sumF bindR; split <;> (rename_i h9; rw [h9]; first | done | rfl)) | (unfold manyF bindR; split <;> (rename_i h9; rw [h9]; first | done | rfl)) | (unfold blockF needR; split <;> (rename_i h9; rw [h9]; first | done | rfl)))
            show ShS (.mk 7 0 [] [] [e] x.1 y.1)
            by_cases hy0 : y.1 = []
            · rw [hy0]
              exact hif
            · intro d
              obtain ⟨t, b, q, h1⟩ := hx (d + 1)
              obtain ⟨t, b, q, h2⟩ := hy (d + 1)
              exact ⟨_, _, _, .ife he h1 hy0 h2⟩
          · rw [if_neg c]
            exact Rd.pure (x := (ST.mk 7 0 [] [] [e] x.1 [], here ts :: x.2)) hif r2 hr2
        · rw [if_neg c]
          refine semi_rd h0 ?_
          refine Rd.bind (name_rd h0) (S := fun g r1 => match need [61] r1 with | .error p => .error p | .ok r2 => rightF g r2) (fun g hg ts hs => ?_) hs (by (try dsimp only); first | rfl | (unfold bindR; split <;> (rename_i h9; rw [h9]; first | done | rfl)) | (unfold needR; split <;> (rename_i h9; rw [h9]; first | done | rfl)) | (unfold exprF bindR; split <;> (rename_i h9; rw [h9]; first | done | rfl)) | (unfold sumF bindR; split <;> (rename_i h9; rw [h9]; first | done | rfl)) | (unfold manyF bindR; split <;> (rename_i h9; rw [h9]; first | done | rfl)) | (unfold blockF needR; split <;> (rename_i h9; rw [h9]; first | done | rfl)))
          exact Rd.need h0 _ (right_rd h0 hg) hs (by (try dsimp only); first | rfl | (unfold bindR; split <;> (rename_i h9; rw [h9]; first | done | rfl)) | (unfold needR; split <;> (rename_i h9; rw [h9]; first | done | rfl)) | (unfold exprF bindR; split <;> (rename_i h9; rw [h9]; first | done | rfl)) | (unfold sumF bindR; split <;> (rename_i h9; rw [h9]; first | done | rfl)) | (unfold manyF bindR; split <;> (rename_i h9; rw [h9]; first | done | rfl)) | (unfold blockF needR; split <;> (rename_i h9; rw [h9]; first | done | rfl)))
theorem pBlock_rd {PL : Nat → Prop} (h0 : PL 0) : Rd PL pBlock (Q1 ShSs) := fun ts hs => blockF_rd h0 (stmtN_rd h0 ts.length) ts hs
/-! ### programs -/
def ShI (cs : List (List UInt8 × Int)) : Prop := ∃ t b q, TI cs t b q
def ShT (ls : List (List ST)) : Prop := ∃ t b q, TT ls t b q
theorem initL_rd {PL : Nat → Prop} (h0 : PL 0) : ∀ k, Rd PL (initL k) (Q1 ShI)
  | 0 => Rd.pure (x := ([], [])) (Q := Q1 ShI) ⟨_, _, _, .nil⟩
  | k + 1 => fun ts hs => by
    unfold initL
    by_cases c : isS [105, 110, 105, 116] ts = true
    · rw [if_pos c]
      refine Rd.bind (name_rd h0) (S := fun l r1 => match pNum r1 with | .error p => .error p | .ok (n, r2) => match initL k r2 with | .error p => .error p | .ok ((cs, ps), r3) => .ok (((l, (n : Int)) :: cs, here ts :: ps), r3)) (fun l hl r1 hr1 => ?_) hs.tail (by (try dsimp only); first | rfl | (unfold bindR; split <;> (rename_i h9; rw [h9]; first | done | rfl)) | (unfold needR; split <;> (rename_i h9; rw [h9]; first | done | rfl)) | (unfold exprF bindR; split <;> (rename_i h9; rw [h9]; first | done | rfl)) | (unfold sumF bindR; split <;> (rename_i h9; rw [h9]; first | done | rfl)) | (unfold manyF bindR; split <;> (rename_i h9; rw [h9]; first | done | rfl)) | (unfold blockF needR; split <;> (rename_i h9; rw [h9]; first | done | rfl)))
      refine Rd.bind (num_rd h0) (S := fun n r2 => match initL k r2 with | .error p => .error p | .ok ((cs, ps), r3) => .ok (((l, ((n : Nat) : Int)) :: cs, here ts :: ps), r3)) (fun n hn r2 hr2 => ?_) hr1 (by (try dsimp only); first | rfl | (unfold bindR; split <;> (rename_i h9; rw [h9]; first | done | rfl)) | (unfold needR; split <;> (rename_i h9; rw [h9]; first | done | rfl)) | (unfold exprF bindR; split <;> (rename_i h9; rw [h9]; first | done | rfl)) | (unfold sumF bindR; split <;> (rename_i h9; rw [h9]; first | done | rfl)) | (unfold manyF bindR; split <;> (rename_i h9; rw [h9]; first | done | rfl)) | (unfold blockF needR; split <;> (rename_i h9; rw [h9]; first | done | rfl)))
      refine Rd.bind (initL_rd h0 k) (S := fun y r3 => .ok (((l, ((n : Nat) : Int)) :: y.1, here ts :: y.2), r3)) (fun y hy => Rd.pure ?_) hr2 (by (try dsimp only); first | rfl | (unfold bindR; split <;> (rename_i h9; rw [h9]; first | done | rfl)) | (unfold needR; split <;> (rename_i h9; rw [h9]; first | done | rfl)) | (unfold exprF bindR; split <;> (rename_i h9; rw [h9]; first | done | rfl)) | (unfold sumF bindR; split <;> (rename_i h9; rw [h9]; first | done | rfl)) | (unfold manyF bindR; split <;> (rename_i h9; rw [h9]; first | done | rfl)) | (unfold blockF needR; split <;> (rename_i h9; rw [h9]; first | done | rfl)))
      obtain ⟨t, b, q, h1⟩ := hy
      exact ⟨_, _, _, .cons hl hn h1⟩
    · rw [if_neg c]
      exact Rd.pure (x := ([], [])) (Q := Q1 ShI) ⟨_, _, _, .nil⟩ ts hs
theorem threadL_rd {PL : Nat → Prop} (h0 : PL 0) : ∀ k, Rd PL (threadL k) (Q1 ShT)
  | 0 => Rd.pure (x := ([], [])) (Q := Q1 ShT) ⟨_, _, _, .nil⟩
  | k + 1 => fun ts hs => by
    unfold threadL
    by_cases c : isS [116, 104, 114, 101, 97, 100] ts = true
    · rw [if_pos c]
      refine Rd.bind (pBlock_rd h0) (S := fun x r1 => match threadL k r1 with | .error p => .error p | .ok ((bs, qs), r2) => .ok ((x.1 :: bs, x.2 ++ qs), r2)) (fun x hx r1 hr1 => ?_) hs.tail (by (try dsimp only); first | rfl | (unfold bindR; split <;> (rename_i h9; rw [h9]; first | done | rfl)) | (unfold needR; split <;> (rename_i h9; rw [h9]; first | done | rfl)) | (unfold exprF bindR; split <;> (rename_i h9; rw [h9]; first | done | rfl)) | (unfold sumF bindR; split <;> (rename_i h9; rw [h9]; first | done | rfl)) | (unfold manyF bindR; split <;> (rename_i h9; rw [h9]; first | done | rfl)) | (unfold blockF needR; split <;> (rename_i h9; rw [h9]; first | done | rfl)))
      refine Rd.bind (threadL_rd h0 k) (S := fun y r2 => .ok ((x.1 :: y.1, x.2 ++ y.2), r2)) (fun y hy => Rd.pure ?_) hr1 (by (try dsimp only); first | rfl | (unfold bindR; split <;> (rename_i h9; rw [h9]; first | done | rfl)) | (unfold needR; split <;> (rename_i h9; rw [h9]; first | done | rfl)) | (unfold exprF bindR; split <;> (rename_i h9; rw [h9]; first | done | rfl)) | (unfold sumF bindR; split <;> (rename_i h9; rw [h9]; first | done | rfl)) | (unfold manyF bindR; split <;> (rename_i h9; rw [h9]; first | done | rfl)) | (unfold blockF needR; split <;> (rename_i h9; rw [h9]; first | done | rfl)))
      obtain ⟨t, b, q, h1⟩ := hy
      obtain ⟨t, b, q, h2⟩ := hx 1
      exact ⟨_, _, _, .cons h2 h1⟩
    · rw [if_neg c]
      exact Rd.pure (x := ([], [])) (Q := Q1 ShT) ⟨_, _, _, .nil⟩ ts hs
theorem ask_rd {PL : Nat → Prop} (h0 : PL 0) : Rd PL askF (fun k => k = 1 ∨ k = 2) := fun ts hs => by
  unfold askF
  by_cases c : isS [102, 111, 114, 97, 108, 108] ts = true
  · rw [if_pos c]
    exact ⟨fun x r hr => by cases hr; exact ⟨.inr rfl, hs.tail⟩, fun a ha => by cases ha⟩
  · rw [if_neg c]
    exact Rd.need h0 _ (S := fun r => .ok (1, r)) (Rd.pure (.inl rfl)) hs (by (try dsimp only); first | rfl | (unfold bindR; split <;> (rename_i h9; rw [h9]; first | done | rfl)) | (unfold needR; split <;> (rename_i h9; rw [h9]; first | done | rfl)) | (unfold exprF bindR; split <;> (rename_i h9; rw [h9]; first | done | rfl)) | (unfold sumF bindR; split <;> (rename_i h9; rw [h9]; first | done | rfl)) | (unfold manyF bindR; split <;> (rename_i h9; rw [h9]; first | done | rfl)) | (unfold blockF needR; split <;> (rename_i h9; rw [h9]; first | done | rfl)))
/-- A program that may be shown. -/
def ShP (p : PG) : Prop := ∃ t b q1 q2 q3, TP p t b q1 q2 q3
/-- What is read can be shown; what is refused is refused at a token's place. -/
theorem prog_rd {PL : Nat → Prop} (h0 : PL 0) {ts : List Tok} (hs : Sds PL ts) : (∀ p l, pProg ts = .ok (p, l) → ShP p) ∧ ∀ a, pProg ts = .error a → PL a := by
  have key : (∀ x r, (match pProg ts with | .error p => (.error p : Res (PG × List Nat)) | .ok x => .ok (x, [])) = .ok (x, r) → Q1 ShP x ∧ Sds PL r) ∧ ∀ a, (match pProg ts with | .error p => (.error p : Res (PG × List Nat)) | .ok x => .ok (x, [])) = .error a → PL a := by
    unfold pProg
    have g1 := need_rd h0 [108, 105, 116, 109, 117, 115] hs
    cases e1 : need [108, 105, 116, 109, 117, 115] ts with
    | error p => exact ⟨fun x r hr => (by cases hr), fun a ha => (by cases ha; exact g1.2 _ e1)⟩
    | ok r1 =>
    have s1 := g1.1 _ e1
    simp only
    have g2 := name_rd h0 r1 s1
    cases e2 : pName r1 with
    | error p => exact ⟨fun x r hr => (by cases hr), fun a ha => (by cases ha; exact g2.2 _ e2)⟩
    | ok y =>
    obtain ⟨nm, r2⟩ := y
    obtain ⟨hn, s2⟩ := g2.1 _ _ e2
    simp only
    have g3 := need_rd h0 [118, 97, 108, 117, 101, 115] s2
    cases e3 : need [118, 97, 108, 117, 101, 115] r2 with
    | error p => exact ⟨fun x r hr => (by cases hr), fun a ha => (by cases ha; exact g3.2 _ e3)⟩
    | ok r3 =>
    have s3 := g3.1 _ e3
    simp only
    have g4 := num_rd h0 r3 s3
    cases e4 : pNum r3 with
    | error p => exact ⟨fun x r hr => (by cases hr), fun a ha => (by cases ha; exact g4.2 _ e4)⟩
    | ok y =>
    obtain ⟨v, r4⟩ := y
    obtain ⟨hv, s4⟩ := g4.1 _ _ e4
    simp only
    have g5 := initL_rd h0 r4.length r4 s4
    cases e5 : initL r4.length r4 with
    | error p => exact ⟨fun x r hr => (by cases hr), fun a ha => (by cases ha; exact g5.2 _ e5)⟩
    | ok y =>
    obtain ⟨⟨cs, ps⟩, r5⟩ := y
    obtain ⟨hi, s5⟩ := g5.1 _ _ e5
    simp only
    have g6 := threadL_rd h0 r5.length r5 s5
    cases e6 : threadL r5.length r5 with
    | error p => exact ⟨fun x r hr => (by cases hr), fun a ha => (by cases ha; exact g6.2 _ e6)⟩
    | ok y =>
    obtain ⟨⟨bl, qs⟩, r6⟩ := y
    obtain ⟨ht, s6⟩ := g6.1 _ _ e6
    simp only
    have g7 := ask_rd h0 r6 s6
    cases e7 : askF r6 with
    | error p => exact ⟨fun x r hr => (by cases hr), fun a ha => (by cases ha; exact g7.2 _ e7)⟩
    | ok y =>
    obtain ⟨k, r7⟩ := y
    obtain ⟨hk, s7⟩ := g7.1 _ _ e7
    simp only
    have g8 := cond_rd h0 r7 s7
    cases e8 : pCond r7 with
    | error p => exact ⟨fun x r hr => (by cases hr), fun a ha => (by cases ha; exact g8.2 _ e8)⟩
    | ok y =>
    obtain ⟨c, r8⟩ := y
    obtain ⟨hc, s8⟩ := g8.1 _ _ e8
    simp only
    cases r8 with
    | nil => exact ⟨fun x r hr => (by cases hr), fun a ha => (by cases ha; exact h0)⟩
    | cons t u =>
      simp only
      by_cases e : (t.kind == 4) = true
      · rw [if_pos e]
        refine ⟨fun x r hr => ?_, fun a ha => by cases ha⟩
        cases hr
        refine ⟨?_, fun t ht => by cases ht⟩
        obtain ⟨_, _, _, hi⟩ := hi
        obtain ⟨_, _, _, ht⟩ := ht
        obtain ⟨_, _, hc⟩ := hc
        exact ⟨_, _, _, _, _, .mk hn hv hi ht hk hc⟩
      · rw [if_neg e]
        exact ⟨fun x r hr => (by cases hr), fun a ha => (by cases ha; exact (s8 t (by simp)).2.2)⟩
  constructor
  · intro p l h
    rw [h] at key
    exact (key.1 (p, l) [] rfl).1
  · intro a h
    rw [h] at key
    exact key.2 a rfl
end Go.Proofs.Ytihhkppimeagfaa.P
