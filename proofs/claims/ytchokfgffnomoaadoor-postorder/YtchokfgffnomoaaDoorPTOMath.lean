/-
  PLAIN MATHEMATICS of the order of outcomes, and of lines of made ones.
-/
import Derived.Test.YtchokfgffnomoaaDoorPTOneW
namespace Go.Proofs.YtchokfgffnomoaaDoor.P
set_option maxRecDepth 100000
set_option linter.unusedVariables false
set_option linter.unusedSimpArgs false
theorem ordI_anti : ∀ (a b : List Int), ordI b a = - ordI a b
  | [], [] => by simp [ordI]
  | [], _ :: _ => by simp [ordI]
  | _ :: _, [] => by simp [ordI]
  | a :: xs, b :: ys => by
    unfold ordI
    by_cases h1 : a < b
    · rw [if_neg (by omega), if_pos h1, if_pos h1]
      rfl
    · by_cases h2 : b < a
      · rw [if_pos h2, if_neg h1, if_pos h2]
      · rw [if_neg h2, if_neg h1, if_neg h1, if_neg h2]
        exact ordI_anti xs ys
theorem ordR_anti : ∀ (a b : List (List Int)), ordR b a = - ordR a b
  | [], [] => by simp [ordR]
  | [], _ :: _ => by simp [ordR]
  | _ :: _, [] => by simp [ordR]
  | a :: xs, b :: ys => by
    unfold ordR
    rw [ordI_anti a b]
    by_cases h1 : ordI a b = 0
    · rw [if_pos (by omega), if_pos h1]
      exact ordR_anti xs ys
    · rw [if_neg (by omega), if_neg h1]
theorem ordO_anti (r : List (List Int)) (m : List Int) (r' : List (List Int)) (m' : List Int) : ordO r' m' r m = - ordO r m r' m' := by
  unfold ordO
  rw [ordR_anti r r', ordI_anti m m']
  by_cases h : ordR r r' = 0
  · rw [if_pos (by omega), if_pos h]
  · rw [if_neg (by omega), if_neg h]
theorem ordI_zero : ∀ {a b : List Int}, ordI a b = 0 → a = b
  | [], [], _ => rfl
  | [], _ :: _, h => by simp [ordI] at h
  | _ :: _, [], h => by simp [ordI] at h
  | a :: xs, b :: ys, h => by
    unfold ordI at h
    by_cases h1 : a < b
    · rw [if_pos h1] at h; omega
    · rw [if_neg h1] at h
      by_cases h2 : b < a
      · rw [if_pos h2] at h; omega
      · rw [if_neg h2] at h
        rw [ordI_zero h, show a = b by omega]
theorem ordR_zero : ∀ {a b : List (List Int)}, ordR a b = 0 → a = b
  | [], [], _ => rfl
  | [], _ :: _, h => by simp [ordR] at h
  | _ :: _, [], h => by simp [ordR] at h
  | a :: xs, b :: ys, h => by
    unfold ordR at h
    by_cases h1 : ordI a b = 0
    · rw [if_pos h1] at h
      rw [ordR_zero h, ordI_zero h1]
    · rw [if_neg h1] at h
      exact absurd h h1
theorem ordO_zero {r : List (List Int)} {m : List Int} {r' : List (List Int)} {m' : List Int} (h : ordO r m r' m' = 0) : r = r' ∧ m = m' := by
  unfold ordO at h
  by_cases h1 : ordR r r' = 0
  · rw [if_pos h1] at h
    exact ⟨ordR_zero h1, ordI_zero h⟩
  · rw [if_neg h1] at h
    exact absurd h h1
theorem ordI_self : ∀ (a : List Int), ordI a a = 0
  | [] => by simp [ordI]
  | a :: xs => by
    unfold ordI
    rw [if_neg (by omega), if_neg (by omega)]
    exact ordI_self xs
theorem ordR_self : ∀ (a : List (List Int)), ordR a a = 0
  | [] => by simp [ordR]
  | a :: xs => by
    unfold ordR
    rw [if_pos (ordI_self a)]
    exact ordR_self xs
theorem ordO_self (r : List (List Int)) (m : List Int) : ordO r m r m = 0 := by
  unfold ordO
  rw [if_pos (ordR_self r)]
  exact ordI_self m
theorem ordI_trans : ∀ {a b c : List Int}, ordI a b < 0 → ordI b c < 0 → ordI a c < 0
  | [], [], _, h, _ => by simp [ordI] at h
  | [], _ :: _, [], _, h => by simp [ordI] at h
  | [], _ :: _, _ :: _, _, _ => by simp [ordI]
  | _ :: _, [], _, h, _ => by simp [ordI] at h
  | _ :: _, _ :: _, [], _, h => by simp [ordI] at h
  | a :: xs, b :: ys, c :: zs, h, h' => by
    unfold ordI at h h' ⊢
    by_cases h1 : a < b
    · by_cases h2 : b < c
      · rw [if_pos (by omega)]; omega
      · rw [if_neg h2] at h'
        by_cases h3 : c < b
        · rw [if_pos h3] at h'; omega
        · rw [if_pos (by omega)]; omega
    · rw [if_neg h1] at h
      by_cases h3 : b < a
      · rw [if_pos h3] at h; omega
      · rw [if_neg h3] at h
        by_cases h2 : b < c
        · rw [if_pos (by omega)]; omega
        · rw [if_neg h2] at h'
          by_cases h4 : c < b
          · rw [if_pos h4] at h'; omega
          · rw [if_neg h4] at h'
            rw [if_neg (by omega), if_neg (by omega)]
            exact ordI_trans h h'
theorem ordR_trans : ∀ {a b c : List (List Int)}, ordR a b < 0 → ordR b c < 0 → ordR a c < 0
  | [], [], _, h, _ => by simp [ordR] at h
  | [], _ :: _, [], _, h => by simp [ordR] at h
  | [], _ :: _, _ :: _, _, _ => by simp [ordR]
  | _ :: _, [], _, h, _ => by simp [ordR] at h
  | _ :: _, _ :: _, [], _, h => by simp [ordR] at h
  | a :: xs, b :: ys, c :: zs, h, h' => by
    unfold ordR at h h' ⊢
    by_cases h1 : ordI a b = 0
    · rw [if_pos h1] at h
      have e := ordI_zero h1
      subst e
      by_cases h2 : ordI a c = 0
      · rw [if_pos h2] at h' ⊢
        exact ordR_trans h h'
      · rw [if_neg h2] at h' ⊢
        exact h'
    · rw [if_neg h1] at h
      by_cases h2 : ordI b c = 0
      · have e := ordI_zero h2
        subst e
        rw [if_neg h1]
        exact h
      · rw [if_neg h2] at h'
        have h3 := ordI_trans h h'
        rw [if_neg (by omega)]
        exact h3
theorem ordO_trans {r r' r'' : List (List Int)} {m m' m'' : List Int} (h : ordO r m r' m' < 0) (h' : ordO r' m' r'' m'' < 0) : ordO r m r'' m'' < 0 := by
  unfold ordO at h h' ⊢
  by_cases h1 : ordR r r' = 0
  · rw [if_pos h1] at h
    have e := ordR_zero h1
    subst e
    by_cases h2 : ordR r r'' = 0
    · rw [if_pos h2] at h' ⊢
      exact ordI_trans h h'
    · rw [if_neg h2] at h' ⊢
      exact h'
  · rw [if_neg h1] at h
    by_cases h2 : ordR r' r'' = 0
    · have e := ordR_zero h2
      subst e
      rw [if_neg h1]
      exact h
    · rw [if_neg h2] at h'
      have h3 := ordR_trans h h'
      rw [if_neg (by omega)]
      exact h3
/-- One digit. -/
def d3 (a : Int) : UInt8 := if a = 0 then 48 else if a = 1 then 49 else 50
theorem xN_d3 {a : Int} (h : 0 ≤ a ∧ a < 3) : xN a = [d3 a] := by
  have : a = 0 ∨ a = 1 ∨ a = 2 := by omega
  rcases this with rfl | rfl | rfl <;> decide +kernel
theorem d3_inj {a b : Int} (h : 0 ≤ a ∧ a < 3) (h' : 0 ≤ b ∧ b < 3) (e : d3 a = d3 b) : a = b := by
  have h1 : a = 0 ∨ a = 1 ∨ a = 2 := by omega
  have h2 : b = 0 ∨ b = 1 ∨ b = 2 := by omega
  rcases h1 with rfl | rfl | rfl <;> rcases h2 with rfl | rfl | rfl <;> first | rfl | (exact absurd e (by decide))
end Go.Proofs.YtchokfgffnomoaaDoor.P
namespace Go.Proofs.YtchokfgffnomoaaDoor.Lx
open Go.RowKit
open P (xN d3)
set_option maxRecDepth 100000
set_option linter.unusedVariables false
set_option linter.unusedSimpArgs false
theorem line6 {a b c d e f : Int} (ha : 0 ≤ a ∧ a < 3) (hb : 0 ≤ b ∧ b < 3) (hc : 0 ≤ c ∧ c < 3) (hd : 0 ≤ d ∧ d < 3) (he : 0 ≤ e ∧ e < 3) (hf : 0 ≤ f ∧ f < 3) : Lib.join (lnp nL nG [[a, b], [c, d]] [e, f]) [32] = [48, 58, 97, 61, d3 a, 32, 48, 58, 98, 61, d3 b, 32, 49, 58, 97, 61, d3 c, 32, 49, 58, 99, 61, d3 d, 32, 120, 61, d3 e, 32, 121, 61, d3 f] := by
  have h0 : xN ((0 : Nat) : Int) = [48] := by decide +kernel
  have h1 : xN ((1 : Nat) : Int) = [49] := by decide +kernel
  have hl : lnp nL nG [[a, b], [c, d]] [e, f] = [[48, 58, 97, 61, d3 a], [48, 58, 98, 61, d3 b], [49, 58, 97, 61, d3 c], [49, 58, 99, 61, d3 d], [120, 61, d3 e], [121, 61, d3 f]] := by
    show rgp nG [[a, b], [c, d]] 2 ++ P.pcs [] nL [e, f] = _
    show (([] ++ P.pcs (xN ((0 : Nat) : Int) ++ [58]) [[97], [98]] [a, b]) ++ P.pcs (xN ((1 : Nat) : Int) ++ [58]) [[97], [99]] [c, d]) ++ P.pcs [] [[120], [121]] [e, f] = _
    rw [h0, h1]
    show [[48] ++ [58] ++ [97] ++ [61] ++ xN a, [48] ++ [58] ++ [98] ++ [61] ++ xN b, [49] ++ [58] ++ [97] ++ [61] ++ xN c, [49] ++ [58] ++ [99] ++ [61] ++ xN d, [] ++ [120] ++ [61] ++ xN e, [] ++ [121] ++ [61] ++ xN f] = _
    rw [P.xN_d3 ha, P.xN_d3 hb, P.xN_d3 hc, P.xN_d3 hd, P.xN_d3 he, P.xN_d3 hf]
    rfl
  rw [hl, Lib.join_cons]
  rfl
theorem m3 (r : Nat) : 0 ≤ (r : Int) % 3 ∧ (r : Int) % 3 < 3 := by omega
/-- Unlike outcomes have unlike lines. -/
theorem line_inj {r0 r1 r2 r3 r4 r5 s0 s1 s2 s3 s4 s5 : Nat} (h : Lib.join (lnp nL nG (mR r0 r1 r2 r3) (mM r4 r5)) [32] = Lib.join (lnp nL nG (mR s0 s1 s2 s3) (mM s4 s5)) [32]) : mR r0 r1 r2 r3 = mR s0 s1 s2 s3 ∧ mM r4 r5 = mM s4 s5 := by
  unfold mR mM at h ⊢
  rw [line6 (m3 _) (m3 _) (m3 _) (m3 _) (m3 _) (m3 _), line6 (m3 _) (m3 _) (m3 _) (m3 _) (m3 _) (m3 _)] at h
  simp only [List.cons.injEq, true_and, and_true] at h
  obtain ⟨e0, e1, e2, e3, e4, e5⟩ := h
  rw [P.d3_inj (m3 _) (m3 _) e0, P.d3_inj (m3 _) (m3 _) e1, P.d3_inj (m3 _) (m3 _) e2, P.d3_inj (m3 _) (m3 _) e3, P.d3_inj (m3 _) (m3 _) e4, P.d3_inj (m3 _) (m3 _) e5]
  exact ⟨rfl, rfl⟩
end Go.Proofs.YtchokfgffnomoaaDoor.Lx
