/-
  PLAIN MATHEMATICS of what is asked at the end: whether an outcome has a condition, the order of outcomes, their lines. It proves nothing of Go.
-/
import Derived.Test.YtchokfgffnomoaaDoorEVMath
import Derived.Test.YtchokfgffnomoaaDoorXMath
import Derived.Lib.Join
namespace Go.Proofs.YtchokfgffnomoaaDoor.P
set_option maxRecDepth 100000
set_option linter.unusedVariables false
set_option linter.unusedSimpArgs false
/-- Does the place with that name have that number? None: it is not there. -/
def hasP (names : List (List UInt8)) (vals : List Int) (s : List UInt8) (n : Int) : Option Bool :=
  if plI s names < 0 ∨ (vals.length : Int) ≤ plI s names then none else some (vals.getD (plI s names).toNat 0 == n)
/-- Not. -/
def notR : Option Bool → Option Bool
  | none => none
  | some x => some (!x)
/-- And, or. -/
def twoR (o : Int) : Option Bool → Option Bool → Option Bool
  | none, _ => none
  | some x, none => none
  | some x, some y => some (if o = 4 then x && y else x || y)
theorem twoR_none (o : Int) (r : Option Bool) : twoR o r none = none := by cases r <;> rfl
/-- Does an outcome have a condition, by so many steps inwards at most? -/
def hd (locs : List (List UInt8)) (regs : List (List (List UInt8))) (rv : List (List Int)) (mv : List Int) : Nat → CO → Option Bool
  | 0, _ => none
  | m + 1, .mk o t s n ks =>
    if o = 1 then (if ks.length = 0 then hasP locs mv s n else none)
    else if o = 2 then (if ks.length = 0 ∧ 0 ≤ t ∧ t < regs.length ∧ t < rv.length then hasP (regs.getD t.toNat []) (rv.getD t.toNat []) s n else none)
    else if o = 3 then
      (match ks with
      | [a] => notR (hd locs regs rv mv m a)
      | _ => none)
    else if o = 4 ∨ o = 5 then
      (match ks with
      | [a, b] => twoR o (hd locs regs rv mv m a) (hd locs regs rv mv m b)
      | _ => none)
    else none
mutual
/-- How far a condition goes inwards. -/
def cdp : CO → Nat
  | .mk _ _ _ _ ks => cdps ks + 1
def cdps : List CO → Nat
  | [] => 0
  | e :: es => max (cdp e) (cdps es)
end
theorem cdps_mem : ∀ {es : List CO} {e : CO}, e ∈ es → cdp e ≤ cdps es
  | [], _, h => by cases h
  | x :: es, e, h => by
    rw [cdps]
    rcases List.mem_cons.1 h with rfl | h
    · omega
    · have := cdps_mem h
      omega
theorem cdps_le {m : Nat} : ∀ {es : List CO}, (∀ e ∈ es, cdp e ≤ m) → cdps es ≤ m
  | [], _ => by
    rw [cdps]
    omega
  | x :: es, h => by
    rw [cdps]
    have h1 := h x (.head _)
    have h2 := cdps_le (es := es) (fun e he => h e (.tail _ he))
    omega
theorem hd_one {locs : List (List UInt8)} {regs : List (List (List UInt8))} {rv : List (List Int)} {mv : List Int} {m : Nat} {o t n : Int} {s : List UInt8} {ks : List CO} (h : o = 1) : hd locs regs rv mv (m + 1) (.mk o t s n ks) = (if ks.length = 0 then hasP locs mv s n else none) := by
  unfold hd
  rw [if_pos h]
theorem hd_two {locs : List (List UInt8)} {regs : List (List (List UInt8))} {rv : List (List Int)} {mv : List Int} {m : Nat} {o t n : Int} {s : List UInt8} {ks : List CO} (h : o = 2) : hd locs regs rv mv (m + 1) (.mk o t s n ks) = (if ks.length = 0 ∧ 0 ≤ t ∧ t < regs.length ∧ t < rv.length then hasP (regs.getD t.toNat []) (rv.getD t.toNat []) s n else none) := by
  unfold hd
  rw [if_neg (by omega), if_pos h]
theorem hd_not {locs : List (List UInt8)} {regs : List (List (List UInt8))} {rv : List (List Int)} {mv : List Int} {m : Nat} {o t n : Int} {s : List UInt8} {a : CO} (h : o = 3) : hd locs regs rv mv (m + 1) (.mk o t s n [a]) = notR (hd locs regs rv mv m a) := by
  conv => lhs; unfold hd
  rw [if_neg (by omega), if_neg (by omega), if_pos h]
theorem hd_nots {locs : List (List UInt8)} {regs : List (List (List UInt8))} {rv : List (List Int)} {mv : List Int} {m : Nat} {o t n : Int} {s : List UInt8} {ks : List CO} (h : o = 3) (hk : ks.length ≠ 1) : hd locs regs rv mv (m + 1) (.mk o t s n ks) = none := by
  conv => lhs; unfold hd
  rw [if_neg (by omega), if_neg (by omega), if_pos h]
  match ks, hk with
  | [], _ => rfl
  | _ :: _ :: _, _ => rfl
theorem hd_two' {locs : List (List UInt8)} {regs : List (List (List UInt8))} {rv : List (List Int)} {mv : List Int} {m : Nat} {o t n : Int} {s : List UInt8} {a b : CO} (h : o = 4 ∨ o = 5) : hd locs regs rv mv (m + 1) (.mk o t s n [a, b]) = twoR o (hd locs regs rv mv m a) (hd locs regs rv mv m b) := by
  conv => lhs; unfold hd
  rw [if_neg (by omega), if_neg (by omega), if_neg (by omega), if_pos h]
theorem hd_twos {locs : List (List UInt8)} {regs : List (List (List UInt8))} {rv : List (List Int)} {mv : List Int} {m : Nat} {o t n : Int} {s : List UInt8} {ks : List CO} (h : o = 4 ∨ o = 5) (hk : ks.length ≠ 2) : hd locs regs rv mv (m + 1) (.mk o t s n ks) = none := by
  conv => lhs; unfold hd
  rw [if_neg (by omega), if_neg (by omega), if_neg (by omega), if_pos h]
  match ks, hk with
  | [], _ => rfl
  | [_], _ => rfl
  | _ :: _ :: _ :: _, _ => rfl
theorem hd_odd {locs : List (List UInt8)} {regs : List (List (List UInt8))} {rv : List (List Int)} {mv : List Int} {m : Nat} {o t n : Int} {s : List UInt8} {ks : List CO} (h1 : o ≠ 1) (h2 : o ≠ 2) (h3 : o ≠ 3) (h4 : o ≠ 4) (h5 : o ≠ 5) : hd locs regs rv mv (m + 1) (.mk o t s n ks) = none := by
  conv => lhs; unfold hd
  rw [if_neg h1, if_neg h2, if_neg h3, if_neg (by omega)]
/-- What is too deep is not asked. -/
theorem hd_deep {locs : List (List UInt8)} {regs : List (List (List UInt8))} {rv : List (List Int)} {mv : List Int} : ∀ (m : Nat) (c : CO), m < cdp c → hd locs regs rv mv m c = none
  | 0, c, _ => rfl
  | m + 1, .mk o t s n ks, h => by
    rw [cdp] at h
    have hk : m < cdps ks := by omega
    have hk0 : ks.length ≠ 0 := by
      intro h0
      rw [List.length_eq_zero_iff.1 h0, cdps] at hk
      omega
    by_cases h1 : o = 1
    · rw [hd_one h1, if_neg hk0]
    by_cases h2 : o = 2
    · rw [hd_two h2, if_neg (fun h => hk0 h.1)]
    by_cases h3 : o = 3
    · by_cases hl : ks.length = 1
      · match ks, hl, hk with
        | [a], _, hk =>
          have ha : m < cdp a := by
            rw [cdps, cdps] at hk
            omega
          rw [hd_not h3, hd_deep m a ha]
          rfl
      · exact hd_nots h3 hl
    by_cases h4 : o = 4 ∨ o = 5
    · by_cases hl : ks.length = 2
      · match ks, hl, hk with
        | [a, b], _, hk =>
          have hab : m < cdp a ∨ m < cdp b := by
            rw [cdps, cdps, cdps] at hk
            omega
          rw [hd_two' h4]
          rcases hab with ha | hb
          · rw [hd_deep m a ha]
            rfl
          · rw [hd_deep m b hb, twoR_none]
      · exact hd_twos h4 hl
    exact hd_odd h1 h2 h3 (by omega) (by omega)
/-- With more steps it stays what it is. -/
theorem hd_more {locs : List (List UInt8)} {regs : List (List (List UInt8))} {rv : List (List Int)} {mv : List Int} : ∀ (m : Nat) (c : CO) (v : Bool), hd locs regs rv mv m c = some v → hd locs regs rv mv (m + 1) c = some v
  | 0, c, v, h => by cases h
  | m + 1, .mk o t s n ks, v, h => by
    by_cases h1 : o = 1
    · rw [hd_one h1] at h ⊢
      exact h
    by_cases h2 : o = 2
    · rw [hd_two h2] at h ⊢
      exact h
    by_cases h3 : o = 3
    · by_cases hl : ks.length = 1
      · match ks, hl with
        | [a], _ =>
          rw [hd_not h3] at h ⊢
          cases ha : hd locs regs rv mv m a with
          | none => rw [ha] at h; cases h
          | some x =>
            rw [ha] at h
            rw [hd_more m a x ha]
            exact h
      · rw [hd_nots h3 hl] at h
        cases h
    by_cases h4 : o = 4 ∨ o = 5
    · by_cases hl : ks.length = 2
      · match ks, hl with
        | [a, b], _ =>
          rw [hd_two' h4] at h ⊢
          cases ha : hd locs regs rv mv m a with
          | none => rw [ha] at h; cases h
          | some x =>
            rw [ha] at h
            rw [hd_more m a x ha]
            cases hb : hd locs regs rv mv m b with
            | none => rw [hb] at h; cases h
            | some y =>
              rw [hb] at h
              rw [hd_more m b y hb]
              exact h
      · rw [hd_twos h4 hl] at h
        cases h
    rw [hd_odd h1 h2 h3 (by omega) (by omega)] at h
    cases h
/-- The order of two lists: -1, 0, 1. -/
def ordI : List Int → List Int → Int
  | [], [] => 0
  | [], _ :: _ => -1
  | _ :: _, [] => 1
  | a :: xs, b :: ys => if a < b then -1 else if b < a then 1 else ordI xs ys
/-- The order of two lists of lists. -/
def ordR : List (List Int) → List (List Int) → Int
  | [], [] => 0
  | [], _ :: _ => -1
  | _ :: _, [] => 1
  | a :: xs, b :: ys => if ordI a b = 0 then ordR xs ys else ordI a b
/-- The order of outcomes. -/
def ordO (r : List (List Int)) (m : List Int) (r' : List (List Int)) (m' : List Int) : Int := if ordR r r' = 0 then ordI m m' else ordR r r'
theorem ordI_in : ∀ (a b : List Int), ordI a b = -1 ∨ ordI a b = 0 ∨ ordI a b = 1
  | [], [] => by simp [ordI]
  | [], _ :: _ => by simp [ordI]
  | _ :: _, [] => by simp [ordI]
  | a :: xs, b :: ys => by
    unfold ordI
    split
    · simp
    · split
      · simp
      · exact ordI_in xs ys
theorem ordR_in : ∀ (a b : List (List Int)), ordR a b = -1 ∨ ordR a b = 0 ∨ ordR a b = 1
  | [], [] => by simp [ordR]
  | [], _ :: _ => by simp [ordR]
  | _ :: _, [] => by simp [ordR]
  | a :: xs, b :: ys => by
    unfold ordR
    split
    · exact ordR_in xs ys
    · exact ordI_in a b
theorem ordO_in (r : List (List Int)) (m : List Int) (r' : List (List Int)) (m' : List Int) : ordO r m r' m' = -1 ∨ ordO r m r' m' = 0 ∨ ordO r m r' m' = 1 := by
  unfold ordO
  split
  · exact ordI_in _ _
  · exact ordR_in _ _
/-- What stands in two lists alike in front plays no part. -/
theorem ordI_drop : ∀ (j : Nat) (a b : List Int), j ≤ a.length → j ≤ b.length → (∀ i, i < j → a.getD i 0 = b.getD i 0) → ordI a b = ordI (a.drop j) (b.drop j)
  | 0, a, b, _, _, _ => by simp
  | j + 1, x :: a, y :: b, ha, hb, h => by
    have h0 : x = y := h 0 (by omega)
    subst h0
    rw [List.drop_succ_cons, List.drop_succ_cons]
    have ih := ordI_drop j a b (by simpa using ha) (by simpa using hb) (fun i hi => h (i + 1) (by omega))
    rw [← ih]
    conv => lhs; unfold ordI
    rw [if_neg (by omega), if_neg (by omega)]
  | j + 1, [], _, ha, _, _ => by simp at ha
  | j + 1, _ :: _, [], _, hb, _ => by simp at hb
theorem ordR_drop : ∀ (j : Nat) (a b : List (List Int)), j ≤ a.length → j ≤ b.length → (∀ i, i < j → ordI (a.getD i []) (b.getD i []) = 0) → ordR a b = ordR (a.drop j) (b.drop j)
  | 0, a, b, _, _, _ => by simp
  | j + 1, x :: a, y :: b, ha, hb, h => by
    have h0 : ordI x y = 0 := h 0 (by omega)
    rw [List.drop_succ_cons, List.drop_succ_cons]
    have ih := ordR_drop j a b (by simpa using ha) (by simpa using hb) (fun i hi => h (i + 1) (by omega))
    rw [← ih]
    conv => lhs; unfold ordR
    rw [if_pos h0]
  | j + 1, [], _, ha, _, _ => by simp at ha
  | j + 1, _ :: _, [], _, hb, _ => by simp at hb
theorem drop_at {α : Type} {l : List α} {j : Nat} (d : α) (h : j < l.length) : l.drop j = l.getD j d :: l.drop (j + 1) := by
  rw [List.drop_eq_getElem_cons h, List.getD_eq_getElem?_getD, List.getElem?_eq_getElem h]
  rfl
/-- The first unlike one decides. -/
theorem ordI_at {j : Nat} {a b : List Int} (ha : j < a.length) (hb : j < b.length) (h : ∀ i, i < j → a.getD i 0 = b.getD i 0) : ordI a b = if a.getD j 0 < b.getD j 0 then -1 else if b.getD j 0 < a.getD j 0 then 1 else ordI (a.drop (j + 1)) (b.drop (j + 1)) := by
  rw [ordI_drop j a b (by omega) (by omega) h, drop_at 0 ha, drop_at 0 hb]
  conv => lhs; unfold ordI
theorem ordI_left {j : Nat} {a b : List Int} (ha : j = a.length) (hb : j < b.length) (h : ∀ i, i < j → a.getD i 0 = b.getD i 0) : ordI a b = -1 := by
  rw [ordI_drop j a b (by omega) (by omega) h, drop_at 0 hb, List.drop_of_length_le (by omega)]
  unfold ordI
  rfl
theorem ordI_right {j : Nat} {a b : List Int} (ha : j < a.length) (hb : j = b.length) (h : ∀ i, i < j → a.getD i 0 = b.getD i 0) : ordI a b = 1 := by
  rw [ordI_drop j a b (by omega) (by omega) h, drop_at 0 ha, List.drop_of_length_le (l := b) (by omega)]
  unfold ordI
  rfl
theorem ordI_same {j : Nat} {a b : List Int} (ha : j = a.length) (hb : j = b.length) (h : ∀ i, i < j → a.getD i 0 = b.getD i 0) : ordI a b = 0 := by
  rw [ordI_drop j a b (by omega) (by omega) h, List.drop_of_length_le (by omega), List.drop_of_length_le (by omega)]
  unfold ordI
  rfl
theorem ordR_at {j : Nat} {a b : List (List Int)} (ha : j < a.length) (hb : j < b.length) (h : ∀ i, i < j → ordI (a.getD i []) (b.getD i []) = 0) : ordR a b = if ordI (a.getD j []) (b.getD j []) = 0 then ordR (a.drop (j + 1)) (b.drop (j + 1)) else ordI (a.getD j []) (b.getD j []) := by
  rw [ordR_drop j a b (by omega) (by omega) h, drop_at [] ha, drop_at [] hb]
  conv => lhs; unfold ordR
theorem ordR_left {j : Nat} {a b : List (List Int)} (ha : j = a.length) (hb : j < b.length) (h : ∀ i, i < j → ordI (a.getD i []) (b.getD i []) = 0) : ordR a b = -1 := by
  rw [ordR_drop j a b (by omega) (by omega) h, drop_at [] hb, List.drop_of_length_le (by omega)]
  unfold ordR
  rfl
theorem ordR_right {j : Nat} {a b : List (List Int)} (ha : j < a.length) (hb : j = b.length) (h : ∀ i, i < j → ordI (a.getD i []) (b.getD i []) = 0) : ordR a b = 1 := by
  rw [ordR_drop j a b (by omega) (by omega) h, drop_at [] ha, List.drop_of_length_le (l := b) (by omega)]
  unfold ordR
  rfl
theorem ordR_same {j : Nat} {a b : List (List Int)} (ha : j = a.length) (hb : j = b.length) (h : ∀ i, i < j → ordI (a.getD i []) (b.getD i []) = 0) : ordR a b = 0 := by
  rw [ordR_drop j a b (by omega) (by omega) h, List.drop_of_length_le (by omega), List.drop_of_length_le (by omega)]
  unfold ordR
  rfl
/-- The pieces of a line that tell of places, all with the same in front. -/
def pcs (front : List UInt8) (names : List (List UInt8)) (vals : List Int) : List (List UInt8) := (names.zip vals).map fun p => front ++ p.1 ++ [61] ++ xN p.2
/-- The pieces that tell of registers, from thread t on. -/
def rpcs : Nat → List (List (List UInt8)) → List (List Int) → List (List UInt8)
  | t, ns :: nss, vs :: vss => pcs (xN t ++ [58]) ns vs ++ rpcs (t + 1) nss vss
  | _, _, _ => []
/-- All pieces of a line. -/
def lpcs (locs : List (List UInt8)) (regs : List (List (List UInt8))) (rv : List (List Int)) (mv : List Int) : List (List UInt8) := rpcs 0 regs rv ++ pcs [] locs mv
/-- Each piece with a blank ahead. -/
def blk : List (List UInt8) → List UInt8
  | [] => []
  | p :: ps => 32 :: p ++ blk ps
theorem blk_app : ∀ (a b : List (List UInt8)), blk (a ++ b) = blk a ++ blk b
  | [], b => rfl
  | p :: ps, b => by
    rw [List.cons_append, blk, blk, blk_app ps b]
    simp
theorem blk_tail : ∀ (l : List (List UInt8)), blk l = Lib.joinTail [32] l
  | [] => rfl
  | p :: ps => by
    rw [blk, blk_tail ps]
    simp [Lib.joinTail]
theorem blk_join : ∀ (l : List (List UInt8)), (blk l).drop 1 = Lib.join l [32]
  | [] => rfl
  | p :: ps => by
    rw [Lib.join_cons, ← blk_tail, blk]
    rfl
end Go.Proofs.YtchokfgffnomoaaDoor.P
