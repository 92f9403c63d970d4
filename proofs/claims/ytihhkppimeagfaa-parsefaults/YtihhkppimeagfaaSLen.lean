/-
  PLAIN MATHEMATICS of what is read: how long its text is at most, by the tokens that it was read of. It proves nothing of Go.
-/
import Derived.Test.YtihhkppimeagfaaXMath
import Derived.Test.YtihhkppimeagfaaSLex
namespace Go.Proofs.Ytihhkppimeagfaa.P
open L (Tok)
set_option maxRecDepth 100000
set_option linter.unusedVariables false
set_option linter.unusedSimpArgs false
theorem dec0 : (L.decL 0).length = 1 := by
  rw [L.dec_small (by decide)]
  rfl
theorem xN0 : (xN 0).length = 1 := by
  have h := xN_nat 0
  rw [show ((0 : Nat) : Int) = 0 from rfl] at h
  rw [h, dec0]
/-- What a token weighs. -/
def wT (t : Tok) : Nat := t.text.length + (L.decL t.n).length + 20
def W : List Tok → Nat
  | [] => 0
  | t :: r => wT t + W r
theorem W_tail {s : List UInt8} {ts : List Tok} (h : isS s ts = true) : s.length + 20 + W ts.tail ≤ W ts := by
  cases ts with
  | nil => cases h
  | cons t u =>
    simp only [isS, Bool.and_eq_true, beq_iff_eq] at h
    have := h.2
    subst this
    simp only [W, wT, List.tail_cons]
    omega
theorem need_w {s : List UInt8} {ts r : List Tok} (h : need s ts = .ok r) : s.length + 20 + W r ≤ W ts := by
  unfold need at h
  split at h
  · rename_i hs
    cases h
    exact W_tail hs
  · cases h
theorem pNum_w {ts : List Tok} {n : Nat} {r : List Tok} (h : pNum ts = .ok (n, r)) : (L.decL n).length + 20 + W r ≤ W ts := by
  cases ts with
  | nil => cases h
  | cons t u =>
    unfold pNum at h
    simp only at h
    split at h
    · cases h
      simp only [W, wT]
      omega
    · cases h
theorem pName_w {ts : List Tok} {s : List UInt8} {r : List Tok} (h : pName ts = .ok (s, r)) : s.length + 20 + W r ≤ W ts := by
  cases ts with
  | nil => cases h
  | cons t u =>
    unfold pName at h
    simp only at h
    split at h
    · cases h
      simp only [W, wT]
      omega
    · cases h
theorem pModeL_w : ∀ (k m : Nat) {ts : List Tok} {a : Nat} {r : List Tok}, pModeL k m ts = .ok (a, r) → 20 + W r ≤ W ts
  | 0, m, ts, a, r, h => by cases h
  | k + 1, m, ts, a, r, h => by
    unfold pModeL at h
    split at h
    · rename_i h1
      cases h
      have := W_tail h1
      omega
    · exact pModeL_w k (m + 1) h
theorem pMode_w {ts : List Tok} {a : Nat} {r : List Tok} (h : pMode ts = .ok (a, r)) : 20 + W r ≤ W ts := pModeL_w 5 0 h
theorem xM_len (m : Int) : (xM m).length ≤ 6 := by
  unfold xM
  split
  · rename_i h
    obtain ⟨n, rfl⟩ : ∃ n : Nat, m = n := ⟨m.toNat, by omega⟩
    have : n < 5 := by omega
    have key : ∀ n, n < 5 → (modeT n).length ≤ 6 := by decide
    exact key n this
  · simp
/-- A reader: what it reads is no longer than what is gone. -/
def Lw {α : Type} (p : List Tok → Res α) (sz : α → Nat) : Prop := ∀ ts a r, p ts = .ok (a, r) → sz a + W r ≤ W ts
def szX (e : EX) : Nat := (xE e).length
def szC (c : CO) : Nat := (xC c).length
theorem prX_len (op : Int) (x y : EX) : szX (.mk op 0 [] [x, y]) ≤ szX x + szX y + 10 := by
  unfold szX
  have h0 := xN0
  simp only [xE, xEs]
  split
  · omega
  · split
    · simp
    · split
      · simp
      · rename_i s hs
        have hl : s.length ≤ 2 := by
          unfold midE at hs
          split at hs
          · cases hs; simp
          · split at hs
            · cases hs; simp
            · split at hs
              · cases hs; simp
              · split at hs
                · cases hs; simp
                · cases hs
        simp
        omega
theorem prC_len (op : Int) (x y : CO) : szC (.mk op 0 [] 0 [x, y]) ≤ szC x + szC y + 10 := by
  unfold szC
  have h0 := xN0
  simp only [xC, xCs]
  split
  · simp [h0]
  · split
    · simp [h0]
    · split
      · simp
        omega
      · split
        · simp
          omega
        · split
          · simp
            omega
          · simp
theorem atomF_w {rec : List Tok → Res EX} (hr : Lw rec szX) : Lw (atomF rec) szX := by
  intro ts a r h
  unfold atomF at h
  cases h1 : pNum ts with
  | ok x =>
    obtain ⟨n, u⟩ := x
    rw [h1] at h
    cases h
    have := pNum_w h1
    have e : szX (.mk 1 n [] []) = (L.decL n).length := by simp [szX, xE, xN_nat]
    rw [e]
    omega
  | error p =>
    rw [h1] at h
    cases h2 : pName ts with
    | ok x =>
      obtain ⟨n, u⟩ := x
      rw [h2] at h
      cases h
      have := pName_w h2
      have e : szX (.mk 2 0 n []) = n.length := by simp [szX, xE]
      rw [e]
      omega
    | error p =>
      rw [h2] at h
      cases h3 : need [40] ts with
      | error p => rw [h3] at h; cases h
      | ok u =>
        rw [h3] at h
        simp only at h
        have l3 := need_w h3
        cases h4 : rec u with
        | error p => rw [h4] at h; cases h
        | ok x =>
          obtain ⟨e, u2⟩ := x
          rw [h4] at h
          simp only at h
          have l4 := hr _ _ _ h4
          cases h5 : need [41] u2 with
          | error p => rw [h5] at h; cases h
          | ok u3 =>
            rw [h5] at h
            simp only at h
            cases h
            have l5 := need_w h5
            omega
theorem groupL_w {α : Type} {jn : List Tok → Int} {side : List Tok → Res α} {pr : Int → α → α → α} {sz : α → Nat} (hs : Lw side sz) (hp : ∀ op x a, sz (pr op x a) ≤ sz x + sz a + 10) (hj : ∀ ts, ¬ jn ts = 0 → 20 + W ts.tail ≤ W ts) : ∀ (f : Nat) (x : α) (ts : List Tok) (a : α) (r : List Tok), groupL jn side pr f x ts = .ok (a, r) → sz a + W r ≤ sz x + W ts
  | 0, x, ts, a, r, h => by
    cases h
    exact Nat.le_refl _
  | f + 1, x, ts, a, r, h => by
    by_cases hj0 : jn ts = 0
    · rw [groupL_stop _ _ _ _ hj0] at h
      cases h
      exact Nat.le_refl _
    · rw [groupL_more _ _ _ _ hj0] at h
      cases h4 : side ts.tail with
      | error p => rw [h4] at h; cases h
      | ok y =>
        obtain ⟨y, u⟩ := y
        rw [h4] at h
        have l4 := hs _ _ _ h4
        have l5 := groupL_w hs hp hj f _ _ _ _ h
        have l6 := hj _ hj0
        have l7 := hp (jn ts) x y
        omega
theorem groupF_w {α : Type} {jn : List Tok → Int} {side : List Tok → Res α} {pr : Int → α → α → α} {sz : α → Nat} (hs : Lw side sz) (hp : ∀ op x a, sz (pr op x a) ≤ sz x + sz a + 10) (hj : ∀ ts, ¬ jn ts = 0 → 20 + W ts.tail ≤ W ts) : Lw (groupF jn side pr) sz := by
  intro ts a r h
  unfold groupF at h
  cases h4 : side ts with
  | error p => rw [h4] at h; cases h
  | ok y =>
    obtain ⟨y, u⟩ := y
    rw [h4] at h
    have l4 := hs _ _ _ h4
    have l5 := groupL_w hs hp hj _ _ _ _ _ h
    omega
theorem jSum_w (ts : List Tok) (h : ¬ jSum ts = 0) : 20 + W ts.tail ≤ W ts := by
  unfold jSum at h
  split at h
  · rename_i h1
    have := W_tail h1
    omega
  · split at h
    · rename_i h1
      have := W_tail h1
      omega
    · exact absurd rfl h
theorem sumF_w {rec : List Tok → Res EX} (hr : Lw rec szX) : Lw (sumF rec) szX := by
  intro ts a r h
  rw [sumF_group] at h
  exact groupF_w (atomF_w hr) (fun op x a => prX_len op x a) jSum_w _ _ _ h
theorem exprF_w {rec : List Tok → Res EX} (hr : Lw rec szX) : Lw (exprF rec) szX := by
  intro ts a r h
  unfold exprF at h
  cases h4 : sumF rec ts with
  | error p => rw [h4] at h; cases h
  | ok y =>
    obtain ⟨y, u⟩ := y
    rw [h4] at h
    simp only at h
    have l4 := sumF_w hr _ _ _ h4
    split at h
    · rename_i hc
      have l6 : 20 + W u.tail ≤ W u := by
        rcases (Bool.or_eq_true _ _).mp hc with hc | hc
        · have := W_tail hc
          omega
        · have := W_tail hc
          omega
      cases h5 : sumF rec u.tail with
      | error p => rw [h5] at h; cases h
      | ok z =>
        obtain ⟨z, v⟩ := z
        rw [h5] at h
        cases h
        have l5 := sumF_w hr _ _ _ h5
        have l7 := prX_len (if isS [60] u then 6 else 5) y z
        omega
    · cases h
      exact l4
theorem exprN_w : ∀ n, Lw (exprN n) szX
  | 0 => fun _ _ _ h => by cases h
  | n + 1 => exprF_w (exprN_w n)
theorem pExpr_w : Lw pExpr szX := fun ts a r h => exprN_w _ ts a r h
theorem litF_w : Lw litF szC := by
  intro ts a r h
  unfold litF at h
  cases h1 : pNum ts with
  | ok x =>
    obtain ⟨n, u⟩ := x
    rw [h1] at h
    simp only at h
    have l1 := pNum_w h1
    cases h2 : need [58] u with
    | error p => rw [h2] at h; cases h
    | ok u2 =>
      rw [h2] at h
      simp only at h
      have l2 := need_w h2
      cases h3 : pName u2 with
      | error p => rw [h3] at h; cases h
      | ok y =>
        obtain ⟨s, u3⟩ := y
        rw [h3] at h
        simp only at h
        have l3 := pName_w h3
        cases h4 : need [61, 61] u3 with
        | error p => rw [h4] at h; cases h
        | ok u4 =>
          rw [h4] at h
          simp only at h
          have l4 := need_w h4
          cases h5 : pNum u4 with
          | error p => rw [h5] at h; cases h
          | ok z =>
            obtain ⟨z, u5⟩ := z
            rw [h5] at h
            cases h
            have l5 := pNum_w h5
            have e : szC (.mk 2 n s z []) = (L.decL n).length + (s.length + (L.decL z).length) + 5 := by
              simp [szC, xC, xN_nat]
              omega
            rw [e]
            omega
  | error p =>
    rw [h1] at h
    simp only at h
    cases h3 : pName ts with
    | error p => rw [h3] at h; cases h
    | ok y =>
      obtain ⟨s, u3⟩ := y
      rw [h3] at h
      simp only at h
      have l3 := pName_w h3
      cases h4 : need [61, 61] u3 with
      | error p => rw [h4] at h; cases h
      | ok u4 =>
        rw [h4] at h
        simp only at h
        have l4 := need_w h4
        cases h5 : pNum u4 with
        | error p => rw [h5] at h; cases h
        | ok z =>
          obtain ⟨z, u5⟩ := z
          rw [h5] at h
          cases h
          have l5 := pNum_w h5
          have e : szC (.mk 1 0 s z []) = s.length + (L.decL z).length + 4 := by
            simp [szC, xC, xN_nat]
            omega
          rw [e]
          omega
theorem jWord_w (word : List UInt8) (op : Int) (ts : List Tok) (h : ¬ jWord word op ts = 0) : 20 + W ts.tail ≤ W ts := by
  unfold jWord at h
  split at h
  · rename_i h1
    have := W_tail h1
    omega
  · exact absurd rfl h
theorem manyF_w {one : List Tok → Res CO} {word : List UInt8} {op : Int} (hop : op ≠ 0) (hs : Lw one szC) : Lw (manyF one word op) szC := by
  intro ts a r h
  rw [manyF_group _ _ _ hop] at h
  exact groupF_w hs (fun op x a => prC_len op x a) (jWord_w _ _) _ _ _ h
theorem condF_w {one : List Tok → Res CO} (hs : Lw one szC) : Lw (condF one) szC := manyF_w (by decide) (manyF_w (by decide) hs)
theorem oneN_w : ∀ n, Lw (oneN n) szC
  | 0 => fun _ _ _ h => by cases h
  | n + 1 => by
    intro ts a r h
    unfold oneN at h
    split at h
    · rename_i h0
      have lt := W_tail h0
      cases h4 : oneN n ts.tail with
      | error p => rw [h4] at h; cases h
      | ok y =>
        obtain ⟨y, u⟩ := y
        rw [h4] at h
        cases h
        have l4 := oneN_w n _ _ _ h4
        have e : szC (.mk 3 0 [] 0 [y]) = szC y + 4 := by
          simp [szC, xC, xCs]
        rw [e]
        omega
    · split at h
      · rename_i h0
        have lt := W_tail h0
        cases h4 : condF (oneN n) ts.tail with
        | error p => rw [h4] at h; cases h
        | ok y =>
          obtain ⟨y, u⟩ := y
          rw [h4] at h
          simp only at h
          have l4 := condF_w (oneN_w n) _ _ _ h4
          cases h5 : need [41] u with
          | error p => rw [h5] at h; cases h
          | ok v =>
            rw [h5] at h
            cases h
            have l5 := need_w h5
            omega
      · exact litF_w _ _ _ h
theorem pCond_w : Lw pCond szC := fun ts a r h => condF_w (oneN_w _) ts a r h
/-! ### statements -/
theorem ind_length (d : Nat) : (ind d).length = 2 * d := by simp [ind]
theorem rightF_w (rg : List UInt8) {ts : List Tok} {s : ST} {r : List Tok} (h : rightF rg ts = .ok (s, r)) (d : Nat) : (xS s d).length + W r ≤ 2 * d + rg.length + 20 + W ts := by
  unfold rightF at h
  split at h
  · rename_i h0
    have h1 := W_tail h0
    split at h
    · cases h
    · rename_i m r1 hm
      have h2 := pMode_w hm
      split at h
      · cases h
      · rename_i l r2 hn
        have h3 := pName_w hn
        cases h
        have := xM_len m
        simp [xS, ind_length]
        omega
  · split at h
    · rename_i h0
      have h1 := W_tail h0
      split at h
      · cases h
      · rename_i m r1 hm
        have h2 := pMode_w hm
        split at h
        · cases h
        · rename_i l r2 hn
          have h3 := pName_w hn
          split at h
          · cases h
          · rename_i e r3 he
            have h4 := pExpr_w _ _ _ he
            cases h
            have := xM_len m
            unfold szX at h4
            simp [xS, ind_length]
            omega
    · split at h
      · rename_i h0
        have h1 := W_tail h0
        split at h
        · cases h
        · rename_i m r1 hm
          have h2 := pMode_w hm
          split at h
          · cases h
          · rename_i l r2 hn
            have h3 := pName_w hn
            split at h
            · cases h
            · rename_i e r3 he
              have h4 := pExpr_w _ _ _ he
              split at h
              · cases h
              · rename_i r4 hq
                have h5 := need_w hq
                split at h
                · cases h
                · rename_i e2 r5 he2
                  have h6 := pExpr_w _ _ _ he2
                  cases h
                  have := xM_len m
                  unfold szX at h4 h6
                  simp [xS, ind_length]
                  omega
      · split at h
        · cases h
        · rename_i e r3 he
          have h4 := pExpr_w _ _ _ he
          cases h
          unfold szX at h4
          simp [xS, ind_length]
          omega
/-- Statements: how long their text is, however far inwards. -/
def Sw (stmt : List Tok → Res (ST × List Nat)) : Prop := ∀ ts a r, stmt ts = .ok (a, r) → 20 + W r ≤ W ts ∧ ∀ d, d + W ts ≤ 200000 → (xS a.1 d).length + 100000 * W r ≤ 100000 * W ts
def Sws (p : List Tok → Res (List ST × List Nat)) : Prop := ∀ ts a r, p ts = .ok (a, r) → W r ≤ W ts ∧ ∀ d, d + W ts ≤ 200000 → (xSs a.1 d).length + 100000 * W r ≤ 100000 * W ts
theorem stmtsL_w {stmt : List Tok → Res (ST × List Nat)} (hl : Sw stmt) : ∀ k, Sws (stmtsL stmt k)
  | 0 => fun ts a r h => by cases h
  | k + 1 => fun ts a r h => by
    unfold stmtsL at h
    split at h
    · rename_i h0
      have := W_tail h0
      cases h
      refine ⟨by omega, fun d hd => ?_⟩
      simp only [xSs, List.length_nil]
      omega
    · split at h
      · cases h
      · rename_i s ps r1 h1
        obtain ⟨h2, h2'⟩ := hl _ _ _ h1
        split at h
        · cases h
        · rename_i l qs r2 h3
          obtain ⟨h4, h4'⟩ := stmtsL_w hl k r1 _ _ h3
          cases h
          refine ⟨by omega, fun d hd => ?_⟩
          have a1 := h2' d hd
          have a2 := h4' d (by omega)
          simp only [xSs, List.length_append] at *
          omega
theorem blockF_w {stmt : List Tok → Res (ST × List Nat)} (hl : Sw stmt) {ts : List Tok} {a : List ST × List Nat} {r : List Tok} (h : blockF stmt ts = .ok (a, r)) : 20 + W r ≤ W ts ∧ ∀ d, d + W ts ≤ 200000 → (xSs a.1 d).length + 100000 * W r + 2000000 ≤ 100000 * W ts := by
  unfold blockF at h
  split at h
  · cases h
  · rename_i r1 h1
    have h2 := need_w h1
    obtain ⟨h3, h3'⟩ := stmtsL_w hl _ _ _ _ h
    refine ⟨by omega, fun d hd => ?_⟩
    have := h3' d (by omega)
    omega
theorem semi_w {x : Res ST} {q : Nat} {a : ST × List Nat} {r : List Tok} (h : semi x q = .ok (a, r)) : ∃ r1, x = .ok (a.1, r1) ∧ 20 + W r ≤ W r1 := by
  unfold semi at h
  split at h
  · cases h
  · rename_i s r1
    split at h
    · cases h
    · rename_i r2 h2
      cases h
      have := need_w h2
      exact ⟨r1, rfl, by omega⟩
theorem stmtN_w : ∀ n, Sw (stmtN n)
  | 0 => fun ts a r h => by cases h
  | n + 1 => fun ts a r h => by
    unfold stmtN at h
    split at h
    · rename_i h0
      have h1 := W_tail h0
      obtain ⟨r1, hx, hr⟩ := semi_w h
      split at hx
      · cases hx
      · rename_i m r2 hm
        have h2 := pMode_w hm
        split at hx
        · cases hx
        · rename_i l r3 hn
          have h3 := pName_w hn
          split at hx
          · cases hx
          · rename_i e r4 he
            have h4 := pExpr_w _ _ _ he
            injection hx with hx
            injection hx with hx hx2
            subst hx2
            refine ⟨by omega, fun d hd => ?_⟩
            rw [← hx]
            have := xM_len m
            unfold szX at h4
            simp [xS, ind_length]
            omega
    · split at h
      · rename_i h0
        have h1 := W_tail h0
        obtain ⟨r1, hx, hr⟩ := semi_w h
        split at hx
        · cases hx
        · rename_i m r2 hm
          have h2 := pMode_w hm
          injection hx with hx
          injection hx with hx hx2
          subst hx2
          refine ⟨by omega, fun d hd => ?_⟩
          rw [← hx]
          have := xM_len m
          simp [xS, ind_length]
          omega
      · split at h
        · rename_i h0
          have h1 := W_tail h0
          split at h
          · cases h
          · rename_i e r1 he
            have h2 := pExpr_w _ _ _ he
            split at h
            · cases h
            · rename_i l ps r2 hb
              obtain ⟨h3, h3'⟩ := blockF_w (stmtN_w n) hb
              split at h
              · rename_i h9
                have h4 := W_tail h9
                split at h
                · cases h
                · rename_i l2 qs r3 hb2
                  obtain ⟨h5, h5'⟩ := blockF_w (stmtN_w n) hb2
                  cases h
                  refine ⟨by omega, fun d hd => ?_⟩
                  have a1 := h3' (d + 1) (by omega)
                  have a2 := h5' (d + 1) (by omega)
                  unfold szX at h2
                  simp only [xS, List.map_cons, List.map_nil, List.getD_cons_zero]
                  simp only [show ((7 : Int) = 1) = False by decide, show ((7 : Int) = 2) = False by decide, show ((7 : Int) = 3) = False by decide, show ((7 : Int) = 4) = False by decide, show ((7 : Int) = 5) = False by decide, show ((7 : Int) = 6) = False by decide, if_false, if_true]
                  split
                  · simp only [List.length_append, List.length_cons, List.length_nil, ind_length] at *
                    omega
                  · simp only [List.length_append, List.length_cons, List.length_nil, ind_length] at *
                    omega
              · cases h
                refine ⟨by omega, fun d hd => ?_⟩
                have a1 := h3' (d + 1) (by omega)
                unfold szX at h2
                simp only [xS, List.map_cons, List.map_nil, List.getD_cons_zero]
                simp only [show ((7 : Int) = 1) = False by decide, show ((7 : Int) = 2) = False by decide, show ((7 : Int) = 3) = False by decide, show ((7 : Int) = 4) = False by decide, show ((7 : Int) = 5) = False by decide, show ((7 : Int) = 6) = False by decide, if_false, if_true]
                simp only [List.isEmpty_nil, if_true, List.length_append, List.length_cons, List.length_nil, ind_length] at *
                omega
        · obtain ⟨r1, hx, hr⟩ := semi_w h
          split at hx
          · cases hx
          · rename_i g r2 hn
            have h2 := pName_w hn
            split at hx
            · cases hx
            · rename_i r3 h3
              have h4 := need_w h3
              have h5 := fun d => rightF_w _ hx d
              have h6 := h5 0
              refine ⟨by omega, fun d hd => ?_⟩
              have := h5 d
              omega
theorem initL_w : ∀ k, Lw (initL k) (fun x => (xI x.1).length)
  | 0 => fun ts a r h => by
    cases h
    simp [xI]
  | k + 1 => fun ts a r h => by
    unfold initL at h
    split at h
    · rename_i h0
      have h1 := W_tail h0
      split at h
      · cases h
      · rename_i l r1 hn
        have h2 := pName_w hn
        split at h
        · cases h
        · rename_i n r2 hm
          have h3 := pNum_w hm
          split at h
          · cases h
          · rename_i cs ps r3 hi
            have h4 := initL_w k _ _ _ hi
            cases h
            simp only [xI, List.map_cons, List.flatten_cons, List.length_append, List.length_cons, List.length_nil, xN_nat] at *
            omega
    · cases h
      simp [xI]
theorem threadL_w : ∀ (k : Nat) (ts : List Tok) (a : List (List ST) × List Nat) (r : List Tok), threadL k ts = .ok (a, r) → W r ≤ W ts ∧ (1 + W ts ≤ 200000 → (xT a.1).length + 100000 * W r ≤ 100000 * W ts)
  | 0, ts, a, r, h => by
    cases h
    simp [xT]
  | k + 1, ts, a, r, h => by
    unfold threadL at h
    split at h
    · rename_i h0
      have h1 := W_tail h0
      split at h
      · cases h
      · rename_i b ps r1 hb
        obtain ⟨h2, h2'⟩ := blockF_w (stmtN_w _) (show blockF (stmtN ts.tail.length) ts.tail = _ from hb)
        split at h
        · cases h
        · rename_i bs qs r2 hi
          obtain ⟨h4, h4'⟩ := threadL_w k _ _ _ hi
          cases h
          refine ⟨by omega, fun hd => ?_⟩
          have a1 := h2' 1 (by omega)
          have a2 := h4' (by omega)
          simp only [xT, List.map_cons, List.flatten_cons, List.length_append, List.length_cons, List.length_nil] at *
          omega
    · cases h
      simp [xT]
/-- What is read has no longer a text than so. -/
theorem prog_len {ts : List Tok} {p : PG} {l : List Nat} (h : pProg ts = .ok (p, l)) (hd : 1 + W ts ≤ 200000) : (xP p).length ≤ 100000 * W ts + 100 := by
  unfold pProg at h
  split at h
  · cases h
  · rename_i r1 h1
    have l1 := need_w h1
    split at h
    · cases h
    · rename_i nm r2 h2
      have l2 := pName_w h2
      split at h
      · cases h
      · rename_i r3 h3
        have l3 := need_w h3
        split at h
        · cases h
        · rename_i v r4 h4
          have l4 := pNum_w h4
          split at h
          · cases h
          · rename_i cs ps r5 h5
            have l5 := initL_w _ _ _ _ h5
            split at h
            · cases h
            · rename_i bl qs r6 h6
              obtain ⟨l6, l6'⟩ := threadL_w _ _ _ _ h6
              split at h
              · cases h
              · rename_i k r7 h7
                have l7 : W r7 ≤ W r6 := by
                  unfold askF at h7
                  split at h7
                  · rename_i h8
                    cases h7
                    have := W_tail h8
                    omega
                  · split at h7
                    · cases h7
                    · rename_i r8 h8
                      cases h7
                      have := need_w h8
                      omega
                split at h
                · cases h
                · rename_i c r8 h8
                  have l8 := pCond_w _ _ _ h8
                  split at h
                  · rename_i t u
                    split at h
                    · cases h
                      have a6 := l6' (by omega)
                      have hA : (xA k).length ≤ 6 := by
                        unfold xA
                        split
                        · decide
                        · split
                          · decide
                          · simp
                      unfold szC at l8
                      simp only [xP, List.length_append, List.length_cons, List.length_nil, xN_nat] at *
                      omega
                    · cases h
                  · cases h
/-- A text's tokens weigh no more than so. -/
theorem W_ins {pos : Nat} {l : List UInt8} : ∀ {us : List Tok} {n : Nat}, (∀ t ∈ us, L.Piece t.kind t.text t.n) → W (us ++ [⟨4, [], 0, n⟩]) ≤ (us.map (fun t => t.text.length)).sum + 39 * us.length + 21
  | [], n, _ => by
    have := dec0
    simp [W, wT, this]
  | t :: us, n, h => by
    have ih := W_ins (pos := pos) (l := l) (us := us) (n := n) (fun x hx => h x (by simp [hx]))
    have h1 := L.piece_top (h t (by simp))
    have h2 := L.dec_len t.n 18 (by
      have h10 : (10 : Nat) ^ (18 + 1) = 10000000000000000000 := by decide
      unfold L.top at h1
      omega)
    simp only [List.cons_append, W, wT, List.map_cons, List.sum_cons, List.length_cons] at *
    omega
theorem lex_len {a : List UInt8} {ts : List Tok} (ha : a.length ≤ 4096) (h : L.lexL 0 a = .ok ts) {p : PG} {l : List Nat} (hp : pProg ts = .ok (p, l)) : (xP p).length ≤ 1000000000000 := by
  obtain ⟨us, rfl, hi⟩ := L.lexL_ins h
  have h1 := W_ins (pos := 0) (l := a) (n := 0 + a.length) (fun t ht => (hi.all t ht).piece)
  have h2 := hi.count
  have h3 := hi.long
  have h4 := prog_len hp (by omega)
  omega
end Go.Proofs.Ytihhkppimeagfaa.P
