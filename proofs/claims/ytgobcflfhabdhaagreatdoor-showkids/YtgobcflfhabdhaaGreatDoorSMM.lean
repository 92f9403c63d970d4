/-
  PLAIN MATHEMATICS of tokens: they are pieces, they stand in the text at their places, which rise; and how many and long they are at most. It proves nothing of Go.
-/
import Derived.Test.YtgobcflfhabdhaaGreatDoorDR
import Derived.Test.YtgobcflfhabdhaaGreatDoorSA
import Derived.Test.YtgobcflfhabdhaaGreatDoorXMath
import Derived.Test.YtgobcflfhabdhaaGreatDoorMMD
namespace Go.Proofs.YtgobcflfhabdhaaGreatDoor.L
set_option maxRecDepth 100000
set_option linter.unusedVariables false
set_option linter.unusedSimpArgs false
theorem take_run (p : UInt8 → Bool) (l : List UInt8) : l.take (run p l) = l.takeWhile p := by
  have := List.prefix_iff_eq_take.1 (List.takeWhile_prefix (l := l) p)
  exact this.symm
theorem run_all (p : UInt8 → Bool) (l : List UInt8) : ∀ c ∈ l.take (run p l), p c = true := by
  rw [take_run]
  intro c hc
  exact List.all_eq_true.1 (List.all_takeWhile (p := p) (l := l)) c hc
/-- What stands at the front is a piece, of a byte at least, of the text. -/
theorem nx_piece {b : UInt8} {r : List UInt8} {kind k n : Nat} (h : nx b r = .tok kind k n) : Piece kind ((b :: r).take k) n ∧ 1 ≤ k ∧ k ≤ (b :: r).length := by
  unfold nx at h
  split at h
  · cases h
  · split at h
    · cases h
    · split at h
      · rename_i hl
        cases h
        have e : run alnB (b :: r) = run alnB r + 1 := run_cons_pos _ (by simp [alnB, hl])
        have ha := run_all alnB (b :: r)
        have hle := run_le alnB (b :: r)
        rw [e] at ha hle ⊢
        rw [List.take_succ_cons] at ha ⊢
        exact ⟨.word hl (fun c hc => ha c (List.mem_cons_of_mem _ hc)), by omega, hle⟩
      · split at h
        · rename_i hd
          split at h
          · rename_i hv
            cases h
            have e : run digB (b :: r) = run digB r + 1 := run_cons_pos _ hd
            have ha := run_all digB (b :: r)
            have hle := run_le digB (b :: r)
            exact ⟨.num (by rw [e, List.take_succ_cons]; simp) ha hv, by omega, hle⟩
          · cases h
        · split at h
          · rename_i h6
            have hb : b = 61 := by simpa using h6
            subst hb
            split at h
            · rename_i h7
              cases h
              cases r with
              | nil => simp at h7
              | cons c r =>
                have hc : c = 61 := by simpa using h7
                subst hc
                exact ⟨.two, by omega, by simp⟩
            · cases h
              exact ⟨.sign (by decide), by omega, by simp⟩
          · split at h
            · rename_i hs
              cases h
              exact ⟨.sign hs, by omega, by simp⟩
            · cases h
theorem nx_skip {b : UInt8} {r : List UInt8} {k : Nat} (h : nx b r = .skip k) : 1 ≤ k ∧ k ≤ (b :: r).length := by
  unfold nx at h
  split at h
  · cases h
    exact ⟨Nat.le_refl _, by simp⟩
  · split at h
    · rename_i h2
      cases h
      refine ⟨?_, run_le _ _⟩
      have hb : b = 47 := by
        simp only [Bool.and_eq_true, beq_iff_eq] at h2
        exact h2.1
      subst hb
      rw [run_cons_pos _ (by decide)]
      omega
    · split at h
      · cases h
      · split at h
        · split at h <;> cases h
        · split at h
          · split at h <;> cases h
          · split at h <;> cases h
theorem piece_ne {k n : Nat} {a : List UInt8} (h : Piece k a n) : a ≠ [] := by
  cases h with
  | word => simp
  | num h0 => exact h0
  | sign => simp
  | two => simp
theorem piece_top {k n : Nat} {a : List UInt8} (h : Piece k a n) : n ≤ top := by
  cases h with
  | word => exact Nat.zero_le _
  | num h0 ha hv => exact hv
  | sign => exact Nat.zero_le _
  | two => exact Nat.zero_le _
/-- A token that stands in a text. -/
structure In (pos : Nat) (l : List UInt8) (t : Tok) : Prop where
  piece : Piece t.kind t.text t.n
  from' : pos ≤ t.at'
  «to» : t.at' + t.text.length ≤ pos + l.length
  stands : t.text <+: l.drop (t.at' - pos)
/-- Tokens of a text: they stand in it, rising; the end stands at its end; they are no more and no longer than it. -/
structure Ins (pos : Nat) (l : List UInt8) (us : List Tok) : Prop where
  all : ∀ t ∈ us, In pos l t
  rise : us.Pairwise (fun a b => a.at' < b.at')
  count : us.length ≤ l.length
  long : (us.map (fun t => t.text.length)).sum ≤ l.length
theorem In.later {pos k : Nat} {l : List UInt8} {t : Tok} (hk : k ≤ l.length) (h : In (pos + k) (l.drop k) t) : In pos l t := by
  obtain ⟨h1, h2, h3, h4⟩ := h
  rw [List.length_drop] at h3
  refine ⟨h1, by omega, by omega, ?_⟩
  rw [List.drop_drop] at h4
  rw [show t.at' - pos = k + (t.at' - (pos + k)) by omega]
  exact h4
theorem lexF_ins : ∀ (f pos : Nat) (l : List UInt8) (ts : List Tok), l.length ≤ f → lexF f pos l = .ok ts → ∃ us, ts = us ++ [⟨4, [], 0, pos + l.length⟩] ∧ Ins pos l us
  | 0, pos, l, ts, hf, h => by
    cases h
    have : l = [] := List.eq_nil_of_length_eq_zero (by omega)
    subst this
    exact ⟨[], rfl, fun t ht => (by cases ht), .nil, by simp, by simp⟩
  | f + 1, pos, [], ts, hf, h => by
    cases h
    exact ⟨[], rfl, fun t ht => (by cases ht), .nil, by simp, by simp⟩
  | f + 1, pos, b :: r, ts, hf, h => by
    unfold lexF at h
    simp only [List.length_cons] at hf
    split at h
    · rename_i k hk
      obtain ⟨h1, h2⟩ := nx_skip hk
      have hd : r.drop (k - 1) = (b :: r).drop k := by
        obtain ⟨j, rfl⟩ : ∃ j, k = j + 1 := ⟨k - 1, by omega⟩
        simp
      rw [hd] at h
      obtain ⟨us, rfl, g1, g2, g3, g4⟩ := lexF_ins f _ _ _ (by simp only [List.length_drop, List.length_cons]; omega) h
      rw [List.length_drop] at g3 g4
      refine ⟨us, ?_, fun t ht => (g1 t ht).later h2, g2, by omega, by omega⟩
      rw [List.length_drop, show pos + k + ((b :: r).length - k) = pos + (b :: r).length by omega]
    · rename_i kind k n hk
      obtain ⟨hp, h1, h2⟩ := nx_piece hk
      have hd : r.drop (k - 1) = (b :: r).drop k := by
        obtain ⟨j, rfl⟩ : ∃ j, k = j + 1 := ⟨k - 1, by omega⟩
        simp
      rw [hd] at h
      cases e2 : lexF f (pos + k) ((b :: r).drop k) with
      | error e => rw [e2] at h; cases h
      | ok vs =>
        rw [e2] at h
        obtain ⟨us, rfl, g1, g2, g3, g4⟩ := lexF_ins f _ _ _ (by simp only [List.length_drop, List.length_cons]; omega) e2
        cases h
        have hlen : ((b :: r).take k).length = k := by rw [List.length_take]; omega
        rw [List.length_drop] at g3 g4
        refine ⟨⟨kind, (b :: r).take k, n, pos⟩ :: us, ?_, fun t ht => ?_, ?_, by simp only [List.length_cons] at *; omega, by simp only [List.map_cons, List.sum_cons, hlen]; omega⟩
        · rw [List.length_drop, show pos + k + ((b :: r).length - k) = pos + (b :: r).length by omega]
          rfl
        · rcases List.mem_cons.1 ht with rfl | ht
          · refine ⟨hp, Nat.le_refl _, ?_, ?_⟩
            · show pos + ((b :: r).take k).length ≤ _
              omega
            · show (b :: r).take k <+: (b :: r).drop (pos - pos)
              rw [Nat.sub_self, List.drop_zero]
              exact List.take_prefix _ _
          · exact (g1 t ht).later h2
        · refine List.Pairwise.cons (fun t ht => ?_) g2
          have := (g1 t ht).from'
          show pos < t.at'
          omega
    · cases h
theorem lexL_ins {pos : Nat} {l : List UInt8} {ts : List Tok} (h : lexL pos l = .ok ts) : ∃ us, ts = us ++ [⟨4, [], 0, pos + l.length⟩] ∧ Ins pos l us := by
  rw [← lexF_eq l.length pos l (Nat.le_refl _)] at h
  exact lexF_ins _ _ _ _ (Nat.le_refl _) h
end Go.Proofs.YtgobcflfhabdhaaGreatDoor.L
namespace Go.Proofs.YtgobcflfhabdhaaGreatDoor.P
open L (Tok Ins In Piece)
set_option maxRecDepth 100000
set_option linter.unusedVariables false
set_option linter.unusedSimpArgs false
/-! ### a text of tokens, each with what parts behind it -/
def joinW (btw : List UInt8) (ts : List Tok) : List UInt8 := (ts.map (fun t => t.text ++ btw)).flatten
theorem joinW_app (btw : List UInt8) (a b : List Tok) : joinW btw (a ++ b) = joinW btw a ++ joinW btw b := by simp [joinW]
theorem joinW_one (btw : List UInt8) (t : Tok) : joinW btw [t] = t.text ++ btw := by simp [joinW]
theorem joinW_cons (btw : List UInt8) (t : Tok) (a : List Tok) : joinW btw (t :: a) = (t.text ++ btw) ++ joinW btw a := by simp [joinW]
theorem un_piece {btw : List UInt8} (h0 : Un btw []) (hf : Front btw) {t : Tok} (h : Piece t.kind t.text t.n) : Un (t.text ++ btw) [body t] := (ea_piece h).un h0 hf
theorem un_join {btw : List UInt8} (h0 : Un btw []) (hf : Front btw) : ∀ (us : List Tok), (∀ t ∈ us, Piece t.kind t.text t.n) → Un (joinW btw us) (us.map body)
  | [], _ => un_nil
  | t :: us, h => by
    rw [joinW_cons, List.map_cons]
    exact (un_piece h0 hf (h t (by simp))).app (un_join h0 hf us (fun x hx => h x (by simp [hx])))
/-- The four things that may stand between. -/
def btwL : Nat → List UInt8
  | 0 => [10]
  | 1 => [32, 9, 32]
  | 2 => [32, 47, 47, 32, 125, 10]
  | _ => [13, 10, 10]
theorem btw_un : ∀ k, Un (btwL k) [] ∧ Front (btwL k)
  | 0 => ⟨un_nl, front_cons (by decide)⟩
  | 1 => ⟨un_sp.app ((un_blank (c := 9) (by decide)).app un_sp), front_cons (by decide)⟩
  | 2 => ⟨un_sp.app (⟨_, (L.parts_remark (m := [32, 125]) (by decide)).eats, fun _ => rfl⟩ : Un (47 :: 47 :: ([32, 125] ++ [10])) []), front_cons (by decide)⟩
  | k + 3 => ⟨(un_blank (c := 13) (by decide)).app (un_nl.app un_nl), front_cons (by decide)⟩
/-- A program's text: its tokens. -/
theorem TP.toks {p : PG} {t : List UInt8} {b : List Bo} {q1 q2 q3 : List Nat} (h : TP p t b q1 q2 q3) : ∃ us, L.lexL 0 t = .ok (us ++ [⟨4, [], 0, t.length⟩]) ∧ us.map body = b ∧ Ins 0 t us ∧ ∀ i ∈ q2, i < b.length ∧ ∃ off, 1 ≤ off ∧ off < t.length ∧ here (us.drop i) = off ∧ t[off - 1]? = some 32 := by
  obtain ⟨ts, h1, h2, h3⟩ := h.uq
  have e := h1.all 0
  rw [Nat.zero_add] at e
  obtain ⟨us, e2, hi⟩ := L.lexL_ins e
  obtain ⟨e3, _⟩ := List.append_inj' e2 rfl
  rw [e3] at e
  refine ⟨us, e, by rw [← e3]; exact h2 0, hi, fun i hi => ?_⟩
  obtain ⟨a1, off, a2, a3, a4, a5⟩ := h3 0 i hi
  rw [e3] at a4
  exact ⟨a1, off, a2, a3, by omega, a5⟩
/-- A program's tokens, parted otherwise, are read as that program. -/
theorem TP.wide {p : PG} {t : List UInt8} {b : List Bo} {q1 q2 q3 : List Nat} (h : TP p t b q1 q2 q3) {us : List Tok} {n : Nat} (e : L.lexL 0 t = .ok (us ++ [⟨4, [], 0, n⟩])) (k : Nat) : ∃ ts l, L.lexL 0 (joinW (btwL k) (us ++ [⟨4, [], 0, n⟩])) = .ok ts ∧ pProg ts = .ok (p, l) := by
  obtain ⟨vs, e2, hb, hi, _⟩ := h.toks
  rw [e] at e2
  obtain ⟨e3, _⟩ := List.append_inj' (Except.ok.inj e2) rfl
  subst e3
  obtain ⟨h0, hf⟩ := btw_un k
  have hu := (un_join h0 hf us (fun t ht => (hi.all t ht).piece)).app h0
  rw [hb, List.append_nil] at hu
  rw [joinW_app, joinW_one]
  exact h.any hu
end Go.Proofs.YtgobcflfhabdhaaGreatDoor.P
/-
  PLAIN MATHEMATICS of what is read: how long its text is at most, by the tokens that it was read of. It proves nothing of Go.
-/
namespace Go.Proofs.YtgobcflfhabdhaaGreatDoor.P
open L (Tok)
set_option maxRecDepth 100000
set_option linter.unusedVariables false
set_option linter.unusedSimpArgs false
theorem dec0 : (L.decL 0).length = 1 := by
  rw [L.dec_small (by decide)]
  rfl
theorem xN0 : (xN 0).length = 1 := by
  have h := xN_nat 0
  rw [show ((0 : Nat) : Int) = 0 from rfl] at h
  rw [h, dec0]
/-- What a token weighs. -/
def wT (t : Tok) : Nat := t.text.length + (L.decL t.n).length + 20
def W : List Tok → Nat
  | [] => 0
  | t :: r => wT t + W r
theorem W_tail {s : List UInt8} {ts : List Tok} (h : isS s ts = true) : s.length + 20 + W ts.tail ≤ W ts := by
  cases ts with
  | nil => cases h
  | cons t u =>
    simp only [isS, Bool.and_eq_true, beq_iff_eq] at h
    have := h.2
    subst this
    simp only [W, wT, List.tail_cons]
    omega
theorem need_w {s : List UInt8} {ts r : List Tok} (h : need s ts = .ok r) : s.length + 20 + W r ≤ W ts := by
  unfold need at h
  split at h
  · rename_i hs
    cases h
    exact W_tail hs
  · cases h
theorem pNum_w {ts : List Tok} {n : Nat} {r : List Tok} (h : pNum ts = .ok (n, r)) : (L.decL n).length + 20 + W r ≤ W ts := by
  cases ts with
  | nil => cases h
  | cons t u =>
    unfold pNum at h
    simp only at h
    split at h
    · cases h
      simp only [W, wT]
      omega
    · cases h
theorem pName_w {ts : List Tok} {s : List UInt8} {r : List Tok} (h : pName ts = .ok (s, r)) : s.length + 20 + W r ≤ W ts := by
  cases ts with
  | nil => cases h
  | cons t u =>
    unfold pName at h
    simp only at h
    split at h
    · cases h
      simp only [W, wT]
      omega
    · cases h
theorem pModeL_w : ∀ (k m : Nat) {ts : List Tok} {a : Nat} {r : List Tok}, pModeL k m ts = .ok (a, r) → 20 + W r ≤ W ts
  | 0, m, ts, a, r, h => by cases h
  | k + 1, m, ts, a, r, h => by
    unfold pModeL at h
    split at h
    · rename_i h1
      cases h
      have := W_tail h1
      omega
    · exact pModeL_w k (m + 1) h
theorem pMode_w {ts : List Tok} {a : Nat} {r : List Tok} (h : pMode ts = .ok (a, r)) : 20 + W r ≤ W ts := pModeL_w 5 0 h
theorem xM_len (m : Int) : (xM m).length ≤ 6 := by
  unfold xM
  split
  · rename_i h
    obtain ⟨n, rfl⟩ : ∃ n : Nat, m = n := ⟨m.toNat, by omega⟩
    have : n < 5 := by omega
    have key : ∀ n, n < 5 → (modeT n).length ≤ 6 := by decide
    exact key n this
  · simp
/-- A reader: what it reads is no longer than what is gone. -/
def Lw {α : Type} (p : List Tok → Res α) (sz : α → Nat) : Prop := ∀ ts a r, p ts = .ok (a, r) → sz a + W r ≤ W ts
def szX (e : EX) : Nat := (xE e).length
def szC (c : CO) : Nat := (xC c).length
theorem prX_len (op : Int) (x y : EX) : szX (.mk op 0 [] [x, y]) ≤ szX x + szX y + 10 := by
  unfold szX
  have h0 := xN0
  simp only [xE, xEs]
  split
  · omega
  · split
    · simp
    · split
      · simp
      · rename_i s hs
        have hl : s.length ≤ 2 := by
          unfold midE at hs
          split at hs
          · cases hs; simp
          · split at hs
            · cases hs; simp
            · split at hs
              · cases hs; simp
              · split at hs
                · cases hs; simp
                · cases hs
        simp
        omega
theorem prC_len (op : Int) (x y : CO) : szC (.mk op 0 [] 0 [x, y]) ≤ szC x + szC y + 10 := by
  unfold szC
  have h0 := xN0
  simp only [xC, xCs]
  split
  · simp [h0]
  · split
    · simp [h0]
    · split
      · simp
        omega
      · split
        · simp
          omega
        · split
          · simp
            omega
          · simp
theorem atomF_w {rec : List Tok → Res EX} (hr : Lw rec szX) : Lw (atomF rec) szX := by
  intro ts a r h
  unfold atomF at h
  cases h1 : pNum ts with
  | ok x =>
    obtain ⟨n, u⟩ := x
    rw [h1] at h
    cases h
    have := pNum_w h1
    have e : szX (.mk 1 n [] []) = (L.decL n).length := by simp [szX, xE, xN_nat]
    rw [e]
    omega
  | error p =>
    rw [h1] at h
    cases h2 : pName ts with
    | ok x =>
      obtain ⟨n, u⟩ := x
      rw [h2] at h
      cases h
      have := pName_w h2
      have e : szX (.mk 2 0 n []) = n.length := by simp [szX, xE]
      rw [e]
      omega
    | error p =>
      rw [h2] at h
      cases h3 : need [40] ts with
      | error p => rw [h3] at h; cases h
      | ok u =>
        rw [h3] at h
        simp only at h
        have l3 := need_w h3
        cases h4 : rec u with
        | error p => rw [h4] at h; cases h
        | ok x =>
          obtain ⟨e, u2⟩ := x
          rw [h4] at h
          simp only at h
          have l4 := hr _ _ _ h4
          cases h5 : need [41] u2 with
          | error p => rw [h5] at h; cases h
          | ok u3 =>
            rw [h5] at h
            simp only at h
            cases h
            have l5 := need_w h5
            omega
theorem groupL_w {α : Type} {jn : List Tok → Int} {side : List Tok → Res α} {pr : Int → α → α → α} {sz : α → Nat} (hs : Lw side sz) (hp : ∀ op x a, sz (pr op x a) ≤ sz x + sz a + 10) (hj : ∀ ts, ¬ jn ts = 0 → 20 + W ts.tail ≤ W ts) : ∀ (f : Nat) (x : α) (ts : List Tok) (a : α) (r : List Tok), groupL jn side pr f x ts = .ok (a, r) → sz a + W r ≤ sz x + W ts
  | 0, x, ts, a, r, h => by
    cases h
    exact Nat.le_refl _
  | f + 1, x, ts, a, r, h => by
    by_cases hj0 : jn ts = 0
    · rw [groupL_stop _ _ _ _ hj0] at h
      cases h
      exact Nat.le_refl _
    · rw [groupL_more _ _ _ _ hj0] at h
      cases h4 : side ts.tail with
      | error p => rw [h4] at h; cases h
      | ok y =>
        obtain ⟨y, u⟩ := y
        rw [h4] at h
        have l4 := hs _ _ _ h4
        have l5 := groupL_w hs hp hj f _ _ _ _ h
        have l6 := hj _ hj0
        have l7 := hp (jn ts) x y
        omega
theorem groupF_w {α : Type} {jn : List Tok → Int} {side : List Tok → Res α} {pr : Int → α → α → α} {sz : α → Nat} (hs : Lw side sz) (hp : ∀ op x a, sz (pr op x a) ≤ sz x + sz a + 10) (hj : ∀ ts, ¬ jn ts = 0 → 20 + W ts.tail ≤ W ts) : Lw (groupF jn side pr) sz := by
  intro ts a r h
  unfold groupF at h
  cases h4 : side ts with
  | error p => rw [h4] at h; cases h
  | ok y =>
    obtain ⟨y, u⟩ := y
    rw [h4] at h
    have l4 := hs _ _ _ h4
    have l5 := groupL_w hs hp hj _ _ _ _ _ h
    omega
theorem jSum_w (ts : List Tok) (h : ¬ jSum ts = 0) : 20 + W ts.tail ≤ W ts := by
  unfold jSum at h
  split at h
  · rename_i h1
    have := W_tail h1
    omega
  · split at h
    · rename_i h1
      have := W_tail h1
      omega
    · exact absurd rfl h
theorem sumF_w {rec : List Tok → Res EX} (hr : Lw rec szX) : Lw (sumF rec) szX := by
  intro ts a r h
  rw [sumF_group] at h
  exact groupF_w (atomF_w hr) (fun op x a => prX_len op x a) jSum_w _ _ _ h
theorem exprF_w {rec : List Tok → Res EX} (hr : Lw rec szX) : Lw (exprF rec) szX := by
  intro ts a r h
  unfold exprF at h
  cases h4 : sumF rec ts with
  | error p => rw [h4] at h; cases h
  | ok y =>
    obtain ⟨y, u⟩ := y
    rw [h4] at h
    simp only at h
    have l4 := sumF_w hr _ _ _ h4
    split at h
    · rename_i hc
      have l6 : 20 + W u.tail ≤ W u := by
        rcases (Bool.or_eq_true _ _).mp hc with hc | hc
        · have := W_tail hc
          omega
        · have := W_tail hc
          omega
      cases h5 : sumF rec u.tail with
      | error p => rw [h5] at h; cases h
      | ok z =>
        obtain ⟨z, v⟩ := z
        rw [h5] at h
        cases h
        have l5 := sumF_w hr _ _ _ h5
        have l7 := prX_len (if isS [60] u then 6 else 5) y z
        omega
    · cases h
      exact l4
theorem exprN_w : ∀ n, Lw (exprN n) szX
  | 0 => fun _ _ _ h => by cases h
  | n + 1 => exprF_w (exprN_w n)
theorem pExpr_w : Lw pExpr szX := fun ts a r h => exprN_w _ ts a r h
theorem litF_w : Lw litF szC := by
  intro ts a r h
  unfold litF at h
  cases h1 : pNum ts with
  | ok x =>
    obtain ⟨n, u⟩ := x
    rw [h1] at h
    simp only at h
    have l1 := pNum_w h1
    cases h2 : need [58] u with
    | error p => rw [h2] at h; cases h
    | ok u2 =>
      rw [h2] at h
      simp only at h
      have l2 := need_w h2
      cases h3 : pName u2 with
      | error p => rw [h3] at h; cases h
      | ok y =>
        obtain ⟨s, u3⟩ := y
        rw [h3] at h
        simp only at h
        have l3 := pName_w h3
        cases h4 : need [61, 61] u3 with
        | error p => rw [h4] at h; cases h
        | ok u4 =>
          rw [h4] at h
          simp only at h
          have l4 := need_w h4
          cases h5 : pNum u4 with
          | error p => rw [h5] at h; cases h
          | ok z =>
            obtain ⟨z, u5⟩ := z
            rw [h5] at h
            cases h
            have l5 := pNum_w h5
            have e : szC (.mk 2 n s z []) = (L.decL n).length + (s.length + (L.decL z).length) + 5 := by
              simp [szC, xC, xN_nat]
              omega
            rw [e]
            omega
  | error p =>
    rw [h1] at h
    simp only at h
    cases h3 : pName ts with
    | error p => rw [h3] at h; cases h
    | ok y =>
      obtain ⟨s, u3⟩ := y
      rw [h3] at h
      simp only at h
      have l3 := pName_w h3
      cases h4 : need [61, 61] u3 with
      | error p => rw [h4] at h; cases h
      | ok u4 =>
        rw [h4] at h
        simp only at h
        have l4 := need_w h4
        cases h5 : pNum u4 with
        | error p => rw [h5] at h; cases h
        | ok z =>
          obtain ⟨z, u5⟩ := z
          rw [h5] at h
          cases h
          have l5 := pNum_w h5
          have e : szC (.mk 1 0 s z []) = s.length + (L.decL z).length + 4 := by
            simp [szC, xC, xN_nat]
            omega
          rw [e]
          omega
theorem jWord_w (word : List UInt8) (op : Int) (ts : List Tok) (h : ¬ jWord word op ts = 0) : 20 + W ts.tail ≤ W ts := by
  unfold jWord at h
  split at h
  · rename_i h1
    have := W_tail h1
    omega
  · exact absurd rfl h
theorem manyF_w {one : List Tok → Res CO} {word : List UInt8} {op : Int} (hop : op ≠ 0) (hs : Lw one szC) : Lw (manyF one word op) szC := by
  intro ts a r h
  rw [manyF_group _ _ _ hop] at h
  exact groupF_w hs (fun op x a => prC_len op x a) (jWord_w _ _) _ _ _ h
theorem condF_w {one : List Tok → Res CO} (hs : Lw one szC) : Lw (condF one) szC := manyF_w (by decide) (manyF_w (by decide) hs)
theorem oneN_w : ∀ n, Lw (oneN n) szC
  | 0 => fun _ _ _ h => by cases h
  | n + 1 => by
    intro ts a r h
    unfold oneN at h
    split at h
    · rename_i h0
      have lt := W_tail h0
      cases h4 : oneN n ts.tail with
      | error p => rw [h4] at h; cases h
      | ok y =>
        obtain ⟨y, u⟩ := y
        rw [h4] at h
        cases h
        have l4 := oneN_w n _ _ _ h4
        have e : szC (.mk 3 0 [] 0 [y]) = szC y + 4 := by
          simp [szC, xC, xCs]
        rw [e]
        omega
    · split at h
      · rename_i h0
        have lt := W_tail h0
        cases h4 : condF (oneN n) ts.tail with
        | error p => rw [h4] at h; cases h
        | ok y =>
          obtain ⟨y, u⟩ := y
          rw [h4] at h
          simp only at h
          have l4 := condF_w (oneN_w n) _ _ _ h4
          cases h5 : need [41] u with
          | error p => rw [h5] at h; cases h
          | ok v =>
            rw [h5] at h
            cases h
            have l5 := need_w h5
            omega
      · exact litF_w _ _ _ h
theorem pCond_w : Lw pCond szC := fun ts a r h => condF_w (oneN_w _) ts a r h
/-! ### statements -/
theorem ind_length (d : Nat) : (ind d).length = 2 * d := by simp [ind]
theorem rightF_w (rg : List UInt8) {ts : List Tok} {s : ST} {r : List Tok} (h : rightF rg ts = .ok (s, r)) (d : Nat) : (xS s d).length + W r ≤ 2 * d + rg.length + 20 + W ts := by
  unfold rightF at h
  split at h
  · rename_i h0
    have h1 := W_tail h0
    split at h
    · cases h
    · rename_i m r1 hm
      have h2 := pMode_w hm
      split at h
      · cases h
      · rename_i l r2 hn
        have h3 := pName_w hn
        cases h
        have := xM_len m
        simp [xS, ind_length]
        omega
  · split at h
    · rename_i h0
      have h1 := W_tail h0
      split at h
      · cases h
      · rename_i m r1 hm
        have h2 := pMode_w hm
        split at h
        · cases h
        · rename_i l r2 hn
          have h3 := pName_w hn
          split at h
          · cases h
          · rename_i e r3 he
            have h4 := pExpr_w _ _ _ he
            cases h
            have := xM_len m
            unfold szX at h4
            simp [xS, ind_length]
            omega
    · split at h
      · rename_i h0
        have h1 := W_tail h0
        split at h
        · cases h
        · rename_i m r1 hm
          have h2 := pMode_w hm
          split at h
          · cases h
          · rename_i l r2 hn
            have h3 := pName_w hn
            split at h
            · cases h
            · rename_i e r3 he
              have h4 := pExpr_w _ _ _ he
              split at h
              · cases h
              · rename_i r4 hq
                have h5 := need_w hq
                split at h
                · cases h
                · rename_i e2 r5 he2
                  have h6 := pExpr_w _ _ _ he2
                  cases h
                  have := xM_len m
                  unfold szX at h4 h6
                  simp [xS, ind_length]
                  omega
      · split at h
        · cases h
        · rename_i e r3 he
          have h4 := pExpr_w _ _ _ he
          cases h
          unfold szX at h4
          simp [xS, ind_length]
          omega
/-- Statements: how long their text is, however far inwards. -/
def Sw (stmt : List Tok → Res (ST × List Nat)) : Prop := ∀ ts a r, stmt ts = .ok (a, r) → 20 + W r ≤ W ts ∧ ∀ d, d + W ts ≤ 200000 → (xS a.1 d).length + 100000 * W r ≤ 100000 * W ts
def Sws (p : List Tok → Res (List ST × List Nat)) : Prop := ∀ ts a r, p ts = .ok (a, r) → W r ≤ W ts ∧ ∀ d, d + W ts ≤ 200000 → (xSs a.1 d).length + 100000 * W r ≤ 100000 * W ts
theorem stmtsL_w {stmt : List Tok → Res (ST × List Nat)} (hl : Sw stmt) : ∀ k, Sws (stmtsL stmt k)
  | 0 => fun ts a r h => by cases h
  | k + 1 => fun ts a r h => by
    unfold stmtsL at h
    split at h
    · rename_i h0
      have := W_tail h0
      cases h
      refine ⟨by omega, fun d hd => ?_⟩
      simp only [xSs, List.length_nil]
      omega
    · split at h
      · cases h
      · rename_i s ps r1 h1
        obtain ⟨h2, h2'⟩ := hl _ _ _ h1
        split at h
        · cases h
        · rename_i l qs r2 h3
          obtain ⟨h4, h4'⟩ := stmtsL_w hl k r1 _ _ h3
          cases h
          refine ⟨by omega, fun d hd => ?_⟩
          have a1 := h2' d hd
          have a2 := h4' d (by omega)
          simp only [xSs, List.length_append] at *
          omega
theorem blockF_w {stmt : List Tok → Res (ST × List Nat)} (hl : Sw stmt) {ts : List Tok} {a : List ST × List Nat} {r : List Tok} (h : blockF stmt ts = .ok (a, r)) : 20 + W r ≤ W ts ∧ ∀ d, d + W ts ≤ 200000 → (xSs a.1 d).length + 100000 * W r + 2000000 ≤ 100000 * W ts := by
  unfold blockF at h
  split at h
  · cases h
  · rename_i r1 h1
    have h2 := need_w h1
    obtain ⟨h3, h3'⟩ := stmtsL_w hl _ _ _ _ h
    refine ⟨by omega, fun d hd => ?_⟩
    have := h3' d (by omega)
    omega
theorem semi_w {x : Res ST} {q : Nat} {a : ST × List Nat} {r : List Tok} (h : semi x q = .ok (a, r)) : ∃ r1, x = .ok (a.1, r1) ∧ 20 + W r ≤ W r1 := by
  unfold semi at h
  split at h
  · cases h
  · rename_i s r1
    split at h
    · cases h
    · rename_i r2 h2
      cases h
      have := need_w h2
      exact ⟨r1, rfl, by omega⟩
theorem stmtN_w : ∀ n, Sw (stmtN n)
  | 0 => fun ts a r h => by cases h
  | n + 1 => fun ts a r h => by
    unfold stmtN at h
    split at h
    · rename_i h0
      have h1 := W_tail h0
      obtain ⟨r1, hx, hr⟩ := semi_w h
      split at hx
      · cases hx
      · rename_i m r2 hm
        have h2 := pMode_w hm
        split at hx
        · cases hx
        · rename_i l r3 hn
          have h3 := pName_w hn
          split at hx
          · cases hx
          · rename_i e r4 he
            have h4 := pExpr_w _ _ _ he
            injection hx with hx
            injection hx with hx hx2
            subst hx2
            refine ⟨by omega, fun d hd => ?_⟩
            rw [← hx]
            have := xM_len m
            unfold szX at h4
            simp [xS, ind_length]
            omega
    · split at h
      · rename_i h0
        have h1 := W_tail h0
        obtain ⟨r1, hx, hr⟩ := semi_w h
        split at hx
        · cases hx
        · rename_i m r2 hm
          have h2 := pMode_w hm
          injection hx with hx
          injection hx with hx hx2
          subst hx2
          refine ⟨by omega, fun d hd => ?_⟩
          rw [← hx]
          have := xM_len m
          simp [xS, ind_length]
          omega
      · split at h
        · rename_i h0
          have h1 := W_tail h0
          split at h
          · cases h
          · rename_i e r1 he
            have h2 := pExpr_w _ _ _ he
            split at h
            · cases h
            · rename_i l ps r2 hb
              obtain ⟨h3, h3'⟩ := blockF_w (stmtN_w n) hb
              split at h
              · rename_i h9
                have h4 := W_tail h9
                split at h
                · cases h
                · rename_i l2 qs r3 hb2
                  obtain ⟨h5, h5'⟩ := blockF_w (stmtN_w n) hb2
                  cases h
                  refine ⟨by omega, fun d hd => ?_⟩
                  have a1 := h3' (d + 1) (by omega)
                  have a2 := h5' (d + 1) (by omega)
                  unfold szX at h2
                  simp only [xS, List.map_cons, List.map_nil, List.getD_cons_zero]
                  simp only [show ((7 : Int) = 1) = False by decide, show ((7 : Int) = 2) = False by decide, show ((7 : Int) = 3) = False by decide, show ((7 : Int) = 4) = False by decide, show ((7 : Int) = 5) = False by decide, show ((7 : Int) = 6) = False by decide, if_false, if_true]
                  split
                  · simp only [List.length_append, List.length_cons, List.length_nil, ind_length] at *
                    omega
                  · simp only [List.length_append, List.length_cons, List.length_nil, ind_length] at *
                    omega
              · cases h
                refine ⟨by omega, fun d hd => ?_⟩
                have a1 := h3' (d + 1) (by omega)
                unfold szX at h2
                simp only [xS, List.map_cons, List.map_nil, List.getD_cons_zero]
                simp only [show ((7 : Int) = 1) = False by decide, show ((7 : Int) = 2) = False by decide, show ((7 : Int) = 3) = False by decide, show ((7 : Int) = 4) = False by decide, show ((7 : Int) = 5) = False by decide, show ((7 : Int) = 6) = False by decide, if_false, if_true]
                simp only [List.isEmpty_nil, if_true, List.length_append, List.length_cons, List.length_nil, ind_length] at *
                omega
        · obtain ⟨r1, hx, hr⟩ := semi_w h
          split at hx
          · cases hx
          · rename_i g r2 hn
            have h2 := pName_w hn
            split at hx
            · cases hx
            · rename_i r3 h3
              have h4 := need_w h3
              have h5 := fun d => rightF_w _ hx d
              have h6 := h5 0
              refine ⟨by omega, fun d hd => ?_⟩
              have := h5 d
              omega
theorem initL_w : ∀ k, Lw (initL k) (fun x => (xI x.1).length)
  | 0 => fun ts a r h => by
    cases h
    simp [xI]
  | k + 1 => fun ts a r h => by
    unfold initL at h
    split at h
    · rename_i h0
      have h1 := W_tail h0
      split at h
      · cases h
      · rename_i l r1 hn
        have h2 := pName_w hn
        split at h
        · cases h
        · rename_i n r2 hm
          have h3 := pNum_w hm
          split at h
          · cases h
          · rename_i cs ps r3 hi
            have h4 := initL_w k _ _ _ hi
            cases h
            simp only [xI, List.map_cons, List.flatten_cons, List.length_append, List.length_cons, List.length_nil, xN_nat] at *
            omega
    · cases h
      simp [xI]
theorem threadL_w : ∀ (k : Nat) (ts : List Tok) (a : List (List ST) × List Nat) (r : List Tok), threadL k ts = .ok (a, r) → W r ≤ W ts ∧ (1 + W ts ≤ 200000 → (xT a.1).length + 100000 * W r ≤ 100000 * W ts)
  | 0, ts, a, r, h => by
    cases h
    simp [xT]
  | k + 1, ts, a, r, h => by
    unfold threadL at h
    split at h
    · rename_i h0
      have h1 := W_tail h0
      split at h
      · cases h
      · rename_i b ps r1 hb
        obtain ⟨h2, h2'⟩ := blockF_w (stmtN_w _) (show blockF (stmtN ts.tail.length) ts.tail = _ from hb)
        split at h
        · cases h
        · rename_i bs qs r2 hi
          obtain ⟨h4, h4'⟩ := threadL_w k _ _ _ hi
          cases h
          refine ⟨by omega, fun hd => ?_⟩
          have a1 := h2' 1 (by omega)
          have a2 := h4' (by omega)
          simp only [xT, List.map_cons, List.flatten_cons, List.length_append, List.length_cons, List.length_nil] at *
          omega
    · cases h
      simp [xT]
/-- What is read has no longer a text than so. -/
theorem prog_len {ts : List Tok} {p : PG} {l : List Nat} (h : pProg ts = .ok (p, l)) (hd : 1 + W ts ≤ 200000) : (xP p).length ≤ 100000 * W ts + 100 := by
  unfold pProg at h
  split at h
  · cases h
  · rename_i r1 h1
    have l1 := need_w h1
    split at h
    · cases h
    · rename_i nm r2 h2
      have l2 := pName_w h2
      split at h
      · cases h
      · rename_i r3 h3
        have l3 := need_w h3
        split at h
        · cases h
        · rename_i v r4 h4
          have l4 := pNum_w h4
          split at h
          · cases h
          · rename_i cs ps r5 h5
            have l5 := initL_w _ _ _ _ h5
            split at h
            · cases h
            · rename_i bl qs r6 h6
              obtain ⟨l6, l6'⟩ := threadL_w _ _ _ _ h6
              split at h
              · cases h
              · rename_i k r7 h7
                have l7 : W r7 ≤ W r6 := by
                  unfold askF at h7
                  split at h7
                  · rename_i h8
                    cases h7
                    have := W_tail h8
                    omega
                  · split at h7
                    · cases h7
                    · rename_i r8 h8
                      cases h7
                      have := need_w h8
                      omega
                split at h
                · cases h
                · rename_i c r8 h8
                  have l8 := pCond_w _ _ _ h8
                  split at h
                  · rename_i t u
                    split at h
                    · cases h
                      have a6 := l6' (by omega)
                      have hA : (xA k).length ≤ 6 := by
                        unfold xA
                        split
                        · decide
                        · split
                          · decide
                          · simp
                      unfold szC at l8
                      simp only [xP, List.length_append, List.length_cons, List.length_nil, xN_nat] at *
                      omega
                    · cases h
                  · cases h
/-- A text's tokens weigh no more than so. -/
theorem W_ins {pos : Nat} {l : List UInt8} : ∀ {us : List Tok} {n : Nat}, (∀ t ∈ us, L.Piece t.kind t.text t.n) → W (us ++ [⟨4, [], 0, n⟩]) ≤ (us.map (fun t => t.text.length)).sum + 39 * us.length + 21
  | [], n, _ => by
    have := dec0
    simp [W, wT, this]
  | t :: us, n, h => by
    have ih := W_ins (pos := pos) (l := l) (us := us) (n := n) (fun x hx => h x (by simp [hx]))
    have h1 := L.piece_top (h t (by simp))
    have h2 := L.dec_len t.n 18 (by
      have h10 : (10 : Nat) ^ (18 + 1) = 10000000000000000000 := by decide
      unfold L.top at h1
      omega)
    simp only [List.cons_append, W, wT, List.map_cons, List.sum_cons, List.length_cons] at *
    omega
theorem lex_len {a : List UInt8} {ts : List Tok} (ha : a.length ≤ 4096) (h : L.lexL 0 a = .ok ts) {p : PG} {l : List Nat} (hp : pProg ts = .ok (p, l)) : (xP p).length ≤ 1000000000000 := by
  obtain ⟨us, rfl, hi⟩ := L.lexL_ins h
  have h1 := W_ins (pos := 0) (l := a) (n := 0 + a.length) (fun t ht => (hi.all t ht).piece)
  have h2 := hi.count
  have h3 := hi.long
  have h4 := prog_len hp (by omega)
  omega
end Go.Proofs.YtgobcflfhabdhaaGreatDoor.P
/-
  PLAIN MATHEMATICS of what is read: whatever program tokens make has a text; what a reader refuses stands at a token's place. It proves nothing of Go.
-/
namespace Go.Proofs.YtgobcflfhabdhaaGreatDoor.P
open L (Tok)
set_option maxRecDepth 100000
set_option linter.unusedVariables false
set_option linter.unusedSimpArgs false
/-- A token as texts have them; its place is of PL. -/
def Sd (PL : Nat → Prop) (t : Tok) : Prop := (t.kind = 1 → Wo t.text) ∧ (t.kind = 2 → t.n ≤ L.top) ∧ PL t.at'
def Sds (PL : Nat → Prop) (ts : List Tok) : Prop := ∀ t ∈ ts, Sd PL t
theorem Sds.tail {PL : Nat → Prop} {ts : List Tok} (h : Sds PL ts) : Sds PL ts.tail := fun t ht => h t (List.mem_of_mem_tail ht)
theorem Sds.here {PL : Nat → Prop} (h0 : PL 0) {ts : List Tok} (h : Sds PL ts) : PL (here ts) := by
  cases ts with
  | nil => exact h0
  | cons t r => exact (h t (by simp)).2.2
/-- A reader: what it reads is of Q, it refuses at places of PL. -/
def Rd (PL : Nat → Prop) {α : Type} (R : List Tok → Res α) (Q : α → Prop) : Prop := ∀ ts, Sds PL ts → (∀ x r, R ts = .ok (x, r) → Q x ∧ Sds PL r) ∧ ∀ a, R ts = .error a → PL a
theorem need_rd {PL : Nat → Prop} (h0 : PL 0) (s : List UInt8) {ts : List Tok} (h : Sds PL ts) : (∀ r, need s ts = .ok r → Sds PL r) ∧ ∀ a, need s ts = .error a → PL a := by
  unfold need
  by_cases e : isS s ts = true
  · rw [if_pos e]
    exact ⟨fun r hr => (by cases hr; exact h.tail), fun a ha => (by cases ha)⟩
  · rw [if_neg e]
    exact ⟨fun r hr => (by cases hr), fun a ha => (by cases ha; exact h.here h0)⟩
theorem name_rd {PL : Nat → Prop} (h0 : PL 0) : Rd PL pName Na := by
  intro ts h
  cases ts with
  | nil => exact ⟨fun x r hr => (by cases hr), fun a ha => (by cases ha; exact h0)⟩
  | cons t u =>
    have ht := h t (by simp)
    unfold pName
    by_cases e : isN (t :: u) = true
    · simp only [if_pos e]
      refine ⟨fun x r hr => ?_, fun a ha => by cases ha⟩
      cases hr
      simp only [isN, Bool.and_eq_true, beq_iff_eq, Bool.not_eq_true'] at e
      have hw := ht.1 e.1
      refine ⟨⟨⟨e.2, ?_⟩, hw⟩, fun x hx => h x (by simp [hx])⟩
      obtain ⟨b, r, hbr, hb, _⟩ := hw
      exact ⟨b, r, hbr, hb⟩
    · simp only [if_neg e]
      exact ⟨fun x r hr => (by cases hr), fun a ha => (by cases ha; exact ht.2.2)⟩
theorem num_rd {PL : Nat → Prop} (h0 : PL 0) : Rd PL pNum (· ≤ L.top) := by
  intro ts h
  cases ts with
  | nil => exact ⟨fun x r hr => (by cases hr), fun a ha => (by cases ha; exact h0)⟩
  | cons t u =>
    have ht := h t (by simp)
    unfold pNum
    by_cases e : isD (t :: u) = true
    · simp only [if_pos e]
      refine ⟨fun x r hr => ?_, fun a ha => by cases ha⟩
      cases hr
      simp only [isD, beq_iff_eq] at e
      exact ⟨ht.2.1 e, fun x hx => h x (by simp [hx])⟩
    · simp only [if_neg e]
      exact ⟨fun x r hr => (by cases hr), fun a ha => (by cases ha; exact ht.2.2)⟩
theorem modeL_rd {PL : Nat → Prop} (h0 : PL 0) : ∀ k m, Rd PL (pModeL k m) (· < m + k)
  | 0, m => fun ts h => ⟨fun x r hr => (by cases hr), fun a ha => (by cases ha; exact h.here h0)⟩
  | k + 1, m => fun ts h => by
    unfold pModeL
    by_cases e : isS (modeT m) ts = true
    · rw [if_pos e]
      exact ⟨fun x r hr => by cases hr; exact ⟨by omega, h.tail⟩, fun a ha => by cases ha⟩
    · rw [if_neg e]
      obtain ⟨a1, a2⟩ := modeL_rd h0 k (m + 1) ts h
      exact ⟨fun x r hr => ⟨by have := (a1 x r hr).1; omega, (a1 x r hr).2⟩, a2⟩
theorem mode_rd {PL : Nat → Prop} (h0 : PL 0) : Rd PL pMode (· < 5) := fun ts h => by
  obtain ⟨a1, a2⟩ := modeL_rd h0 5 0 ts h
  exact ⟨fun x r hr => ⟨by have := (a1 x r hr).1; omega, (a1 x r hr).2⟩, a2⟩
/-! ### one behind the other -/
theorem out_is {PL : Nat → Prop} {β : Type} {Q' : β → Prop} {o o' : Res β} (h : o = o') (k : (∀ x r, o' = .ok (x, r) → Q' x ∧ Sds PL r) ∧ ∀ a, o' = .error a → PL a) : (∀ x r, o = .ok (x, r) → Q' x ∧ Sds PL r) ∧ ∀ a, o = .error a → PL a := by
  subst h
  exact k
def bindR {α β : Type} (o : Res α) (S : α → List Tok → Res β) : Res β :=
  match o with
  | .error p => .error p
  | .ok (x, r) => S x r
def needR {β : Type} (o : Except Nat (List Tok)) (S : List Tok → Res β) : Res β :=
  match o with
  | .error p => .error p
  | .ok r => S r
theorem Rd.bind {PL : Nat → Prop} {α β : Type} {R : List Tok → Res α} {Q : α → Prop} {S : α → List Tok → Res β} {Q' : β → Prop} (h : Rd PL R Q) (k : ∀ x, Q x → Rd PL (S x) Q') {ts : List Tok} (hs : Sds PL ts) {o : Res β}
    (ho : o = bindR (R ts) S) : (∀ x r, o = .ok (x, r) → Q' x ∧ Sds PL r) ∧ ∀ a, o = .error a → PL a := by
  obtain ⟨h1, h2⟩ := h ts hs
  subst ho
  cases e : R ts with
  | error p => exact ⟨fun x r hr => (by cases hr), fun a ha => (by cases ha; exact h2 _ e)⟩
  | ok y =>
    obtain ⟨x, r⟩ := y
    obtain ⟨hq, hr⟩ := h1 x r e
    exact k x hq r hr
theorem Rd.need {PL : Nat → Prop} (h0 : PL 0) {β : Type} (s : List UInt8) {S : List Tok → Res β} {Q' : β → Prop} (k : Rd PL S Q') {ts : List Tok} (hs : Sds PL ts) {o : Res β}
    (ho : o = needR (P.need s ts) S) : (∀ x r, o = .ok (x, r) → Q' x ∧ Sds PL r) ∧ ∀ a, o = .error a → PL a := by
  obtain ⟨h1, h2⟩ := need_rd h0 s hs
  subst ho
  cases e : P.need s ts with
  | error p => exact ⟨fun x r hr => (by cases hr), fun a ha => (by cases ha; exact h2 _ e)⟩
  | ok r => exact k r (h1 r e)
theorem Rd.pure {PL : Nat → Prop} {α : Type} {x : α} {Q : α → Prop} (h : Q x) : Rd PL (fun ts => .ok (x, ts)) Q := fun ts hs => ⟨fun y r hr => by cases hr; exact ⟨h, hs⟩, fun a ha => by cases ha⟩
/-! ### expressions -/
def ShX (e : EX) : Prop := ∃ t b, TX e t b
theorem shx_two {op : Int} {s : List UInt8} (h : Sign2 op s) {a b : EX} (ha : ShX a) (hb : ShX b) : ShX (.mk op 0 [] [a, b]) := by
  obtain ⟨ta, ba, ha⟩ := ha
  obtain ⟨tb, bb, hb⟩ := hb
  exact ⟨_, _, .bin h ha hb⟩
theorem atom_rd {PL : Nat → Prop} (h0 : PL 0) {rec : List Tok → Res EX} (h : Rd PL rec ShX) : Rd PL (atomF rec) ShX := by
  intro ts hs
  unfold atomF
  cases e1 : pNum ts with
  | ok y =>
    obtain ⟨n, r⟩ := y
    obtain ⟨q1, q2⟩ := (num_rd h0 ts hs).1 n r e1
    exact ⟨fun x r hr => by cases hr; exact ⟨⟨_, _, .num q1⟩, q2⟩, fun a ha => by cases ha⟩
  | error p =>
    simp only
    cases e2 : pName ts with
    | ok y =>
      obtain ⟨n, r⟩ := y
      obtain ⟨q1, q2⟩ := (name_rd h0 ts hs).1 n r e2
      exact ⟨fun x r hr => by cases hr; exact ⟨⟨_, _, .reg q1⟩, q2⟩, fun a ha => by cases ha⟩
    | error p =>
      simp only
      exact Rd.need h0 _ (S := fun r => match rec r with | .error p => .error p | .ok (e, r2) => match need [41] r2 with | .error p => .error p | .ok r3 => .ok (e, r3)) (fun ts hs => Rd.bind h (S := fun e r2 => match need [41] r2 with | .error p => .error p | .ok r3 => .ok (e, r3)) (fun e he ts hs => Rd.need h0 _ (Rd.pure he) hs (by (try dsimp only); first | rfl | (unfold bindR; split <;> (rename_i h9; rw [h9]; first | done | rfl)) | (unfold needR; split <;> (rename_i h9; rw [h9]; first | done | rfl)) | (unfold exprF bindR; split <;> (rename_i h9; rw [h9]; first | done | rfl)) | (unfold sumF bindR; split <;> (rename_i h9; rw [h9]; first | done | rfl)) | (unfold manyF bindR; split <;> (rename_i h9; rw [h9]; first | done | rfl)) | (unfold blockF needR; split <;> (rename_i h9; rw [h9]; first | done | rfl)))) hs (by (try dsimp only); first | rfl | (unfold bindR; split <;> (rename_i h9; rw [h9]; first | done | rfl)) | (unfold needR; split <;> (rename_i h9; rw [h9]; first | done | rfl)) | (unfold exprF bindR; split <;> (rename_i h9; rw [h9]; first | done | rfl)) | (unfold sumF bindR; split <;> (rename_i h9; rw [h9]; first | done | rfl)) | (unfold manyF bindR; split <;> (rename_i h9; rw [h9]; first | done | rfl)) | (unfold blockF needR; split <;> (rename_i h9; rw [h9]; first | done | rfl)))) hs (by (try dsimp only); first | rfl | (unfold bindR; split <;> (rename_i h9; rw [h9]; first | done | rfl)) | (unfold needR; split <;> (rename_i h9; rw [h9]; first | done | rfl)) | (unfold exprF bindR; split <;> (rename_i h9; rw [h9]; first | done | rfl)) | (unfold sumF bindR; split <;> (rename_i h9; rw [h9]; first | done | rfl)) | (unfold manyF bindR; split <;> (rename_i h9; rw [h9]; first | done | rfl)) | (unfold blockF needR; split <;> (rename_i h9; rw [h9]; first | done | rfl)))
theorem sumL_rd {PL : Nat → Prop} (h0 : PL 0) {rec : List Tok → Res EX} (h : Rd PL rec ShX) : ∀ (k : Nat) (e : EX), ShX e → Rd PL (sumL rec k e) ShX
  | 0, e, he => Rd.pure he
  | k + 1, e, he => fun ts hs => by
    unfold sumL
    by_cases c : (isS [43] ts || isS [45] ts) = true
    · rw [if_pos c]
      refine Rd.bind (atom_rd h0 h) (S := fun a r => sumL rec k (.mk (if isS [45] ts then 4 else 3) 0 [] [e, a]) r) (fun a ha => ?_) hs.tail (by (try dsimp only); first | rfl | (unfold bindR; split <;> (rename_i h9; rw [h9]; first | done | rfl)) | (unfold needR; split <;> (rename_i h9; rw [h9]; first | done | rfl)) | (unfold exprF bindR; split <;> (rename_i h9; rw [h9]; first | done | rfl)) | (unfold sumF bindR; split <;> (rename_i h9; rw [h9]; first | done | rfl)) | (unfold manyF bindR; split <;> (rename_i h9; rw [h9]; first | done | rfl)) | (unfold blockF needR; split <;> (rename_i h9; rw [h9]; first | done | rfl)))
      refine sumL_rd h0 h k _ ?_
      by_cases c2 : isS [45] ts = true
      · rw [if_pos c2]
        exact shx_two .minus he ha
      · rw [if_neg c2]
        exact shx_two .plus he ha
    · rw [if_neg c]
      exact Rd.pure he ts hs
theorem sum_rd {PL : Nat → Prop} (h0 : PL 0) {rec : List Tok → Res EX} (h : Rd PL rec ShX) : Rd PL (sumF rec) ShX := fun ts hs =>
  Rd.bind (atom_rd h0 h) (S := fun e r => sumL rec r.length e r) (fun e he ts hs => sumL_rd h0 h _ e he ts hs) hs (by (try dsimp only); first | rfl | (unfold bindR; split <;> (rename_i h9; rw [h9]; first | done | rfl)) | (unfold needR; split <;> (rename_i h9; rw [h9]; first | done | rfl)) | (unfold exprF bindR; split <;> (rename_i h9; rw [h9]; first | done | rfl)) | (unfold sumF bindR; split <;> (rename_i h9; rw [h9]; first | done | rfl)) | (unfold manyF bindR; split <;> (rename_i h9; rw [h9]; first | done | rfl)) | (unfold blockF needR; split <;> (rename_i h9; rw [h9]; first | done | rfl)))
theorem exprF_rd {PL : Nat → Prop} (h0 : PL 0) {rec : List Tok → Res EX} (h : Rd PL rec ShX) : Rd PL (exprF rec) ShX := fun ts hs => by
  refine Rd.bind (sum_rd h0 h) (S := fun e r => if isS [61, 61] r || isS [60] r then match sumF rec r.tail with | .error p => .error p | .ok (a, r2) => .ok (.mk (if isS [60] r then 6 else 5) 0 [] [e, a], r2) else .ok (e, r)) (fun e he r hr => ?_) hs (by (try dsimp only); first | rfl | (unfold bindR; split <;> (rename_i h9; rw [h9]; first | done | rfl)) | (unfold needR; split <;> (rename_i h9; rw [h9]; first | done | rfl)) | (unfold exprF bindR; split <;> (rename_i h9; rw [h9]; first | done | rfl)) | (unfold sumF bindR; split <;> (rename_i h9; rw [h9]; first | done | rfl)) | (unfold manyF bindR; split <;> (rename_i h9; rw [h9]; first | done | rfl)) | (unfold blockF needR; split <;> (rename_i h9; rw [h9]; first | done | rfl)))
  dsimp only
  by_cases c : (isS [61, 61] r || isS [60] r) = true
  · rw [if_pos c]
    refine Rd.bind (sum_rd h0 h) (S := fun a r2 => .ok (.mk (if isS [60] r then 6 else 5) 0 [] [e, a], r2)) (fun a ha => Rd.pure ?_) hr.tail (by (try dsimp only); first | rfl | (unfold bindR; split <;> (rename_i h9; rw [h9]; first | done | rfl)) | (unfold needR; split <;> (rename_i h9; rw [h9]; first | done | rfl)) | (unfold exprF bindR; split <;> (rename_i h9; rw [h9]; first | done | rfl)) | (unfold sumF bindR; split <;> (rename_i h9; rw [h9]; first | done | rfl)) | (unfold manyF bindR; split <;> (rename_i h9; rw [h9]; first | done | rfl)) | (unfold blockF needR; split <;> (rename_i h9; rw [h9]; first | done | rfl)))
    by_cases c2 : isS [60] r = true
    · rw [if_pos c2]
      exact shx_two .less he ha
    · rw [if_neg c2]
      exact shx_two .eq he ha
  · rw [if_neg c]
    exact Rd.pure he r hr
theorem exprN_rd {PL : Nat → Prop} (h0 : PL 0) : ∀ n, Rd PL (exprN n) ShX
  | 0 => fun ts hs => ⟨fun x r hr => (by cases hr), fun a ha => (by cases ha; exact hs.here h0)⟩
  | n + 1 => exprF_rd h0 (exprN_rd h0 n)
theorem expr_rd {PL : Nat → Prop} (h0 : PL 0) : Rd PL pExpr ShX := fun ts hs => exprN_rd h0 ts.length ts hs
/-! ### conditions -/
def ShC (c : CO) : Prop := ∃ t b, TC c t b
theorem lit_rd {PL : Nat → Prop} (h0 : PL 0) : Rd PL litF ShC := by
  intro ts hs
  have key : ∀ (th : Int) (op : Int), (∀ s n, Na s → n ≤ L.top → ShC (.mk op th s (n : Nat) [])) → Rd PL (fun ts => match pName ts with | .error p => .error p | .ok (s, r2) => match need [61, 61] r2 with | .error p => .error p | .ok r3 => match pNum r3 with | .error p => .error p | .ok (n, r4) => .ok (.mk op th s (n : Nat) [], r4)) ShC := by
    intro th op hk ts hs
    refine Rd.bind (name_rd h0) (S := fun s r2 => match need [61, 61] r2 with | .error p => .error p | .ok r3 => match pNum r3 with | .error p => .error p | .ok (n, r4) => .ok (.mk op th s (n : Nat) [], r4)) (fun s hsn ts hs => ?_) hs (by (try dsimp only); first | rfl | (unfold bindR; split <;> (rename_i h9; rw [h9]; first | done | rfl)) | (unfold needR; split <;> (rename_i h9; rw [h9]; first | done | rfl)) | (unfold exprF bindR; split <;> (rename_i h9; rw [h9]; first | done | rfl)) | (unfold sumF bindR; split <;> (rename_i h9; rw [h9]; first | done | rfl)) | (unfold manyF bindR; split <;> (rename_i h9; rw [h9]; first | done | rfl)) | (unfold blockF needR; split <;> (rename_i h9; rw [h9]; first | done | rfl)))
    refine Rd.need h0 _ (S := fun r3 => match pNum r3 with | .error p => .error p | .ok (n, r4) => .ok (.mk op th s (n : Nat) [], r4)) (fun ts hs => ?_) hs (by (try dsimp only); first | rfl | (unfold bindR; split <;> (rename_i h9; rw [h9]; first | done | rfl)) | (unfold needR; split <;> (rename_i h9; rw [h9]; first | done | rfl)) | (unfold exprF bindR; split <;> (rename_i h9; rw [h9]; first | done | rfl)) | (unfold sumF bindR; split <;> (rename_i h9; rw [h9]; first | done | rfl)) | (unfold manyF bindR; split <;> (rename_i h9; rw [h9]; first | done | rfl)) | (unfold blockF needR; split <;> (rename_i h9; rw [h9]; first | done | rfl)))
    exact Rd.bind (num_rd h0) (S := fun n r4 => .ok (.mk op th s (n : Nat) [], r4)) (fun n hn => Rd.pure (hk s n hsn hn)) hs (by (try dsimp only); first | rfl | (unfold bindR; split <;> (rename_i h9; rw [h9]; first | done | rfl)) | (unfold needR; split <;> (rename_i h9; rw [h9]; first | done | rfl)) | (unfold exprF bindR; split <;> (rename_i h9; rw [h9]; first | done | rfl)) | (unfold sumF bindR; split <;> (rename_i h9; rw [h9]; first | done | rfl)) | (unfold manyF bindR; split <;> (rename_i h9; rw [h9]; first | done | rfl)) | (unfold blockF needR; split <;> (rename_i h9; rw [h9]; first | done | rfl)))
  unfold litF
  cases e1 : pNum ts with
  | ok y =>
    obtain ⟨k, r⟩ := y
    obtain ⟨q1, q2⟩ := (num_rd h0 ts hs).1 k r e1
    exact Rd.need h0 _ (key k 2 (fun s n a b => ⟨_, _, .reg a b q1⟩)) q2 (by (try dsimp only); first | rfl | (unfold bindR; split <;> (rename_i h9; rw [h9]; first | done | rfl)) | (unfold needR; split <;> (rename_i h9; rw [h9]; first | done | rfl)) | (unfold exprF bindR; split <;> (rename_i h9; rw [h9]; first | done | rfl)) | (unfold sumF bindR; split <;> (rename_i h9; rw [h9]; first | done | rfl)) | (unfold manyF bindR; split <;> (rename_i h9; rw [h9]; first | done | rfl)) | (unfold blockF needR; split <;> (rename_i h9; rw [h9]; first | done | rfl)))
  | error p => exact key 0 1 (fun s n a b => ⟨_, _, .mem a b⟩) ts hs
def Jn (word : List UInt8) (op : Int) : Prop := ∀ a b, ShC a → ShC b → ShC (.mk op 0 [] 0 [a, b])
theorem manyL_rd {PL : Nat → Prop} {one : List Tok → Res CO} (h : Rd PL one ShC) {word : List UInt8} {op : Int} (hj : Jn word op) : ∀ (k : Nat) (e : CO), ShC e → Rd PL (manyL one word op k e) ShC
  | 0, e, he => Rd.pure he
  | k + 1, e, he => fun ts hs => by
    unfold manyL
    by_cases c : isS word ts = true
    · rw [if_pos c]
      exact Rd.bind h (S := fun a r => manyL one word op k (.mk op 0 [] 0 [e, a]) r) (fun a ha => manyL_rd h hj k _ (hj _ _ he ha)) hs.tail (by (try dsimp only); first | rfl | (unfold bindR; split <;> (rename_i h9; rw [h9]; first | done | rfl)) | (unfold needR; split <;> (rename_i h9; rw [h9]; first | done | rfl)) | (unfold exprF bindR; split <;> (rename_i h9; rw [h9]; first | done | rfl)) | (unfold sumF bindR; split <;> (rename_i h9; rw [h9]; first | done | rfl)) | (unfold manyF bindR; split <;> (rename_i h9; rw [h9]; first | done | rfl)) | (unfold blockF needR; split <;> (rename_i h9; rw [h9]; first | done | rfl)))
    · rw [if_neg c]
      exact Rd.pure he ts hs
theorem manyF_rd {PL : Nat → Prop} {one : List Tok → Res CO} (h : Rd PL one ShC) {word : List UInt8} {op : Int} (hj : Jn word op) : Rd PL (manyF one word op) ShC := fun ts hs =>
  Rd.bind h (S := fun e r => manyL one word op r.length e r) (fun e he ts hs => manyL_rd h hj _ e he ts hs) hs (by (try dsimp only); first | rfl | (unfold bindR; split <;> (rename_i h9; rw [h9]; first | done | rfl)) | (unfold needR; split <;> (rename_i h9; rw [h9]; first | done | rfl)) | (unfold exprF bindR; split <;> (rename_i h9; rw [h9]; first | done | rfl)) | (unfold sumF bindR; split <;> (rename_i h9; rw [h9]; first | done | rfl)) | (unfold manyF bindR; split <;> (rename_i h9; rw [h9]; first | done | rfl)) | (unfold blockF needR; split <;> (rename_i h9; rw [h9]; first | done | rfl)))
theorem condF_rd {PL : Nat → Prop} {one : List Tok → Res CO} (h : Rd PL one ShC) : Rd PL (condF one) ShC := by
  refine manyF_rd (manyF_rd h ?_) ?_
  · rintro a b ⟨ta, ba, ha⟩ ⟨tb, bb, hb⟩
    exact ⟨_, _, .and ha hb⟩
  · rintro a b ⟨ta, ba, ha⟩ ⟨tb, bb, hb⟩
    exact ⟨_, _, .or ha hb⟩
theorem oneN_rd {PL : Nat → Prop} (h0 : PL 0) : ∀ n, Rd PL (oneN n) ShC
  | 0 => fun ts hs => ⟨fun x r hr => (by cases hr), fun a ha => (by cases ha; exact hs.here h0)⟩
  | n + 1 => fun ts hs => by
    unfold oneN
    by_cases c : isS [110, 111, 116] ts = true
    · rw [if_pos c]
      refine Rd.bind (oneN_rd h0 n) (S := fun a r => .ok (.mk 3 0 [] 0 [a], r)) (fun a ha => Rd.pure ?_) hs.tail (by (try dsimp only); first | rfl | (unfold bindR; split <;> (rename_i h9; rw [h9]; first | done | rfl)) | (unfold needR; split <;> (rename_i h9; rw [h9]; first | done | rfl)) | (unfold exprF bindR; split <;> (rename_i h9; rw [h9]; first | done | rfl)) | (unfold sumF bindR; split <;> (rename_i h9; rw [h9]; first | done | rfl)) | (unfold manyF bindR; split <;> (rename_i h9; rw [h9]; first | done | rfl)) | (unfold blockF needR; split <;> (rename_i h9; rw [h9]; first | done | rfl)))
      obtain ⟨t, b, h⟩ := ha
      exact ⟨_, _, .not h⟩
    · rw [if_neg c]
      by_cases c : isS [40] ts = true
      · rw [if_pos c]
        exact Rd.bind (condF_rd (oneN_rd h0 n)) (S := fun a r => match need [41] r with | .error p => .error p | .ok r2 => .ok (a, r2)) (fun a ha ts hs => Rd.need h0 _ (Rd.pure ha) hs (by (try dsimp only); first | rfl | (unfold bindR; split <;> (rename_i h9; rw [h9]; first | done | rfl)) | (unfold needR; split <;> (rename_i h9; rw [h9]; first | done | rfl)) | (unfold exprF bindR; split <;> (rename_i h9; rw [h9]; first | done | rfl)) | (unfold sumF bindR; split <;> (rename_i h9; rw [h9]; first | done | rfl)) | (unfold manyF bindR; split <;> (rename_i h9; rw [h9]; first | done | rfl)) | (unfold blockF needR; split <;> (rename_i h9; rw [h9]; first | done | rfl)))) hs.tail (by (try dsimp only); first | rfl | (unfold bindR; split <;> (rename_i h9; rw [h9]; first | done | rfl)) | (unfold needR; split <;> (rename_i h9; rw [h9]; first | done | rfl)) | (unfold exprF bindR; split <;> (rename_i h9; rw [h9]; first | done | rfl)) | (unfold sumF bindR; split <;> (rename_i h9; rw [h9]; first | done | rfl)) | (unfold manyF bindR; split <;> (rename_i h9; rw [h9]; first | done | rfl)) | (unfold blockF needR; split <;> (rename_i h9; rw [h9]; first | done | rfl)))
      · rw [if_neg c]
        exact lit_rd h0 ts hs
theorem cond_rd {PL : Nat → Prop} (h0 : PL 0) : Rd PL pCond ShC := fun ts hs => condF_rd (oneN_rd h0 ts.length) ts hs
/-! ### statements -/
def ShS (s : ST) : Prop := ∀ d, ∃ t b q, TS d s t b q
def ShSs (l : List ST) : Prop := ∀ d, ∃ t b q, TSs d l t b q
theorem right_rd {PL : Nat → Prop} (h0 : PL 0) {g : List UInt8} (hg : Na g) : Rd PL (rightF g) ShS := fun ts hs => by
  unfold rightF
  by_cases c : isS [108, 111, 97, 100] ts = true
  · rw [if_pos c]
    refine Rd.bind (mode_rd h0) (S := fun m r1 => match pName r1 with | .error p => .error p | .ok (l, r2) => .ok (.mk 2 m g l [] [] [], r2)) (fun m hm ts hs => ?_) hs.tail (by (try dsimp only); first | rfl | (unfold bindR; split <;> (rename_i h9; rw [h9]; first | done | rfl)) | (unfold needR; split <;> (rename_i h9; rw [h9]; first | done | rfl)) | (unfold exprF bindR; split <;> (rename_i h9; rw [h9]; first | done | rfl)) | (unfold sumF bindR; split <;> (rename_i h9; rw [h9]; first | done | rfl)) | (unfold manyF bindR; split <;> (rename_i h9; rw [h9]; first | done | rfl)) | (unfold blockF needR; split <;> (rename_i h9; rw [h9]; first | done | rfl)))
    exact Rd.bind (name_rd h0) (S := fun l r2 => .ok (.mk 2 (m : Nat) g l [] [] [], r2)) (fun l hl => Rd.pure (fun d => ⟨_, _, _, .load hm hg hl⟩)) hs (by (try dsimp only); first | rfl | (unfold bindR; split <;> (rename_i h9; rw [h9]; first | done | rfl)) | (unfold needR; split <;> (rename_i h9; rw [h9]; first | done | rfl)) | (unfold exprF bindR; split <;> (rename_i h9; rw [h9]; first | done | rfl)) | (unfold sumF bindR; split <;> (rename_i h9; rw [h9]; first | done | rfl)) | (unfold manyF bindR; split <;> (rename_i h9; rw [h9]; first | done | rfl)) | (unfold blockF needR; split <;> (rename_i h9; rw [h9]; first | done | rfl)))
  · rw [if_neg c]
    by_cases c : isS [97, 100, 100] ts = true
    · rw [if_pos c]
      refine Rd.bind (mode_rd h0) (S := fun m r1 => match pName r1 with | .error p => .error p | .ok (l, r2) => match pExpr r2 with | .error p => .error p | .ok (e, r3) => .ok (.mk 4 m g l [e] [] [], r3)) (fun m hm ts hs => ?_) hs.tail (by (try dsimp only); first | rfl | (unfold bindR; split <;> (rename_i h9; rw [h9]; first | done | rfl)) | (unfold needR; split <;> (rename_i h9; rw [h9]; first | done | rfl)) | (unfold exprF bindR; split <;> (rename_i h9; rw [h9]; first | done | rfl)) | (unfold sumF bindR; split <;> (rename_i h9; rw [h9]; first | done | rfl)) | (unfold manyF bindR; split <;> (rename_i h9; rw [h9]; first | done | rfl)) | (unfold blockF needR; split <;> (rename_i h9; rw [h9]; first | done | rfl)))
      refine Rd.bind (name_rd h0) (S := fun l r2 => match pExpr r2 with | .error p => .error p | .ok (e, r3) => .ok (.mk 4 (m : Nat) g l [e] [] [], r3)) (fun l hl ts hs => ?_) hs (by (try dsimp only); first | rfl | (unfold bindR; split <;> (rename_i h9; rw [h9]; first | done | rfl)) | (unfold needR; split <;> (rename_i h9; rw [h9]; first | done | rfl)) | (unfold exprF bindR; split <;> (rename_i h9; rw [h9]; first | done | rfl)) | (unfold sumF bindR; split <;> (rename_i h9; rw [h9]; first | done | rfl)) | (unfold manyF bindR; split <;> (rename_i h9; rw [h9]; first | done | rfl)) | (unfold blockF needR; split <;> (rename_i h9; rw [h9]; first | done | rfl)))
      exact Rd.bind (expr_rd h0) (S := fun e r3 => .ok (.mk 4 (m : Nat) g l [e] [] [], r3)) (fun e he => Rd.pure (fun d => (by obtain ⟨t, b, he⟩ := he; exact ⟨_, _, _, .add hm hg hl he⟩))) hs (by (try dsimp only); first | rfl | (unfold bindR; split <;> (rename_i h9; rw [h9]; first | done | rfl)) | (unfold needR; split <;> (rename_i h9; rw [h9]; first | done | rfl)) | (unfold exprF bindR; split <;> (rename_i h9; rw [h9]; first | done | rfl)) | (unfold sumF bindR; split <;> (rename_i h9; rw [h9]; first | done | rfl)) | (unfold manyF bindR; split <;> (rename_i h9; rw [h9]; first | done | rfl)) | (unfold blockF needR; split <;> (rename_i h9; rw [h9]; first | done | rfl)))
    · rw [if_neg c]
      by_cases c : isS [99, 97, 115] ts = true
      · rw [if_pos c]
        refine Rd.bind (mode_rd h0) (S := fun m r1 => match pName r1 with | .error p => .error p | .ok (l, r2) => match pExpr r2 with | .error p => .error p | .ok (a, r3) => match need [44] r3 with | .error p => .error p | .ok r4 => match pExpr r4 with | .error p => .error p | .ok (b, r5) => .ok (.mk 5 m g l [a, b] [] [], r5)) (fun m hm ts hs => ?_) hs.tail (by (try dsimp only); first | rfl | (unfold bindR; split <;> (rename_i h9; rw [h9]; first | done | rfl)) | (unfold needR; split <;> (rename_i h9; rw [h9]; first | done | rfl)) | (unfold exprF bindR; split <;> (rename_i h9; rw [h9]; first | done | rfl)) | (unfold sumF bindR; split <;> (rename_i h9; rw [h9]; first | done | rfl)) | (unfold manyF bindR; split <;> (rename_i h9; rw [h9]; first | done | rfl)) | (unfold blockF needR; split <;> (rename_i h9; rw [h9]; first | done | rfl)))
        refine Rd.bind (name_rd h0) (S := fun l r2 => match pExpr r2 with | .error p => .error p | .ok (a, r3) => match need [44] r3 with | .error p => .error p | .ok r4 => match pExpr r4 with | .error p => .error p | .ok (b, r5) => .ok (.mk 5 (m : Nat) g l [a, b] [] [], r5)) (fun l hl ts hs => ?_) hs (by (try dsimp only); first | rfl | (unfold bindR; split <;> (rename_i h9; rw [h9]; first | done | rfl)) | (unfold needR; split <;> (rename_i h9; rw [h9]; first | done | rfl)) | (unfold exprF bindR; split <;> (rename_i h9; rw [h9]; first | done | rfl)) | (unfold sumF bindR; split <;> (rename_i h9; rw [h9]; first | done | rfl)) | (unfold manyF bindR; split <;> (rename_i h9; rw [h9]; first | done | rfl)) | (unfold blockF needR; split <;> (rename_i h9; rw [h9]; first | done | rfl)))
        refine Rd.bind (expr_rd h0) (S := fun a r3 => match need [44] r3 with | .error p => .error p | .ok r4 => match pExpr r4 with | .error p => .error p | .ok (b, r5) => .ok (.mk 5 (m : Nat) g l [a, b] [] [], r5)) (fun a ha ts hs => ?_) hs (by (try dsimp only); first | rfl | (unfold bindR; split <;> (rename_i h9; rw [h9]; first | done | rfl)) | (unfold needR; split <;> (rename_i h9; rw [h9]; first | done | rfl)) | (unfold exprF bindR; split <;> (rename_i h9; rw [h9]; first | done | rfl)) | (unfold sumF bindR; split <;> (rename_i h9; rw [h9]; first | done | rfl)) | (unfold manyF bindR; split <;> (rename_i h9; rw [h9]; first | done | rfl)) | (unfold blockF needR; split <;> (rename_i h9; rw [h9]; first | done | rfl)))
        refine Rd.need h0 _ (S := fun r4 => match pExpr r4 with | .error p => .error p | .ok (b, r5) => .ok (.mk 5 (m : Nat) g l [a, b] [] [], r5)) (fun ts hs => ?_) hs (by (try dsimp only); first | rfl | (unfold bindR; split <;> (rename_i h9; rw [h9]; first | done | rfl)) | (unfold needR; split <;> (rename_i h9; rw [h9]; first | done | rfl)) | (unfold exprF bindR; split <;> (rename_i h9; rw [h9]; first | done | rfl)) | (unfold sumF bindR; split <;> (rename_i h9; rw [h9]; first | done | rfl)) | (unfold manyF bindR; split <;> (rename_i h9; rw [h9]; first | done | rfl)) | (unfold blockF needR; split <;> (rename_i h9; rw [h9]; first | done | rfl)))
        exact Rd.bind (expr_rd h0) (S := fun b r5 => .ok (.mk 5 (m : Nat) g l [a, b] [] [], r5)) (fun b hb => Rd.pure (fun d => (by obtain ⟨t, y, ha⟩ := ha; obtain ⟨t, y, hb⟩ := hb; exact ⟨_, _, _, .cas hm hg hl ha hb⟩))) hs (by (try dsimp only); first | rfl | (unfold bindR; split <;> (rename_i h9; rw [h9]; first | done | rfl)) | (unfold needR; split <;> (rename_i h9; rw [h9]; first | done | rfl)) | (unfold exprF bindR; split <;> (rename_i h9; rw [h9]; first | done | rfl)) | (unfold sumF bindR; split <;> (rename_i h9; rw [h9]; first | done | rfl)) | (unfold manyF bindR; split <;> (rename_i h9; rw [h9]; first | done | rfl)) | (unfold blockF needR; split <;> (rename_i h9; rw [h9]; first | done | rfl)))
      · rw [if_neg c]
        exact Rd.bind (expr_rd h0) (S := fun e r => .ok (.mk 1 0 g [] [e] [] [], r)) (fun e he => Rd.pure (fun d => (by obtain ⟨t, b, he⟩ := he; exact ⟨_, _, _, .set hg he⟩))) hs (by (try dsimp only); first | rfl | (unfold bindR; split <;> (rename_i h9; rw [h9]; first | done | rfl)) | (unfold needR; split <;> (rename_i h9; rw [h9]; first | done | rfl)) | (unfold exprF bindR; split <;> (rename_i h9; rw [h9]; first | done | rfl)) | (unfold sumF bindR; split <;> (rename_i h9; rw [h9]; first | done | rfl)) | (unfold manyF bindR; split <;> (rename_i h9; rw [h9]; first | done | rfl)) | (unfold blockF needR; split <;> (rename_i h9; rw [h9]; first | done | rfl)))
def Q1 {α : Type} (Q : α → Prop) : α × List Nat → Prop := fun x => Q x.1
theorem semi_rd {PL : Nat → Prop} (h0 : PL 0) {x : Res ST} {q : Nat} (h : (∀ s r, x = .ok (s, r) → ShS s ∧ Sds PL r) ∧ ∀ a, x = .error a → PL a) : (∀ s r, semi x q = .ok (s, r) → Q1 ShS s ∧ Sds PL r) ∧ ∀ a, semi x q = .error a → PL a := by
  unfold semi
  cases x with
  | error p => exact ⟨fun x r hr => (by cases hr), fun a ha => (by cases ha; exact h.2 _ rfl)⟩
  | ok y =>
    obtain ⟨s, r⟩ := y
    obtain ⟨q1, q2⟩ := h.1 s r rfl
    exact Rd.need h0 _ (S := fun r2 => .ok ((s, [q]), r2)) (Rd.pure q1) q2 (by (try dsimp only); first | rfl | (unfold bindR; split <;> (rename_i h9; rw [h9]; first | done | rfl)) | (unfold needR; split <;> (rename_i h9; rw [h9]; first | done | rfl)) | (unfold exprF bindR; split <;> (rename_i h9; rw [h9]; first | done | rfl)) | (unfold sumF bindR; split <;> (rename_i h9; rw [h9]; first | done | rfl)) | (unfold manyF bindR; split <;> (rename_i h9; rw [h9]; first | done | rfl)) | (unfold blockF needR; split <;> (rename_i h9; rw [h9]; first | done | rfl)))
theorem stmtsL_rd {PL : Nat → Prop} (h0 : PL 0) {stmt : List Tok → Res (ST × List Nat)} (h : Rd PL stmt (Q1 ShS)) : ∀ k, Rd PL (stmtsL stmt k) (Q1 ShSs)
  | 0 => fun ts hs => ⟨fun x r hr => (by cases hr), fun a ha => (by cases ha; exact hs.here h0)⟩
  | k + 1 => fun ts hs => by
    unfold stmtsL
    by_cases c : isS [125] ts = true
    · rw [if_pos c]
      exact ⟨fun x r hr => by cases hr; exact ⟨fun d => ⟨_, _, _, .nil⟩, hs.tail⟩, fun a ha => by cases ha⟩
    · rw [if_neg c]
      refine Rd.bind h (S := fun x r => match stmtsL stmt k r with | .error p => .error p | .ok ((l, qs), r2) => .ok ((x.1 :: l, x.2 ++ qs), r2)) (fun x hx ts hs => ?_) hs (by (try dsimp only); first | rfl | (unfold bindR; split <;> (rename_i h9; rw [h9]; first | done | rfl)) | (unfold needR; split <;> (rename_i h9; rw [h9]; first | done | rfl)) | (unfold exprF bindR; split <;> (rename_i h9; rw [h9]; first | done | rfl)) | (unfold sumF bindR; split <;> (rename_i h9; rw [h9]; first | done | rfl)) | (unfold manyF bindR; split <;> (rename_i h9; rw [h9]; first | done | rfl)) | (unfold blockF needR; split <;> (rename_i h9; rw [h9]; first | done | rfl)))
      refine Rd.bind (stmtsL_rd h0 h k) (S := fun y r2 => .ok ((x.1 :: y.1, x.2 ++ y.2), r2)) (fun y hy => Rd.pure (fun d => ?_)) hs (by (try dsimp only); first | rfl | (unfold bindR; split <;> (rename_i h9; rw [h9]; first | done | rfl)) | (unfold needR; split <;> (rename_i h9; rw [h9]; first | done | rfl)) | (unfold exprF bindR; split <;> (rename_i h9; rw [h9]; first | done | rfl)) | (unfold sumF bindR; split <;> (rename_i h9; rw [h9]; first | done | rfl)) | (unfold manyF bindR; split <;> (rename_i h9; rw [h9]; first | done | rfl)) | (unfold blockF needR; split <;> (rename_i h9; rw [h9]; first | done | rfl)))
      obtain ⟨t, b, q, h1⟩ := hx d
      obtain ⟨t, b, q, h2⟩ := hy d
      exact ⟨_, _, _, .cons h1 h2⟩
theorem blockF_rd {PL : Nat → Prop} (h0 : PL 0) {stmt : List Tok → Res (ST × List Nat)} (h : Rd PL stmt (Q1 ShS)) : Rd PL (blockF stmt) (Q1 ShSs) := fun ts hs =>
  Rd.need h0 _ (S := fun r => stmtsL stmt r.length r) (fun ts hs => stmtsL_rd h0 h _ ts hs) hs (by (try dsimp only); first | rfl | (unfold bindR; split <;> (rename_i h9; rw [h9]; first | done | rfl)) | (unfold needR; split <;> (rename_i h9; rw [h9]; first | done | rfl)) | (unfold exprF bindR; split <;> (rename_i h9; rw [h9]; first | done | rfl)) | (unfold sumF bindR; split <;> (rename_i h9; rw [h9]; first | done | rfl)) | (unfold manyF bindR; split <;> (rename_i h9; rw [h9]; first | done | rfl)) | (unfold blockF needR; split <;> (rename_i h9; rw [h9]; first | done | rfl)))
theorem stmtN_rd {PL : Nat → Prop} (h0 : PL 0) : ∀ n, Rd PL (stmtN n) (Q1 ShS)
  | 0 => fun ts hs => ⟨fun x r hr => (by cases hr), fun a ha => (by cases ha; exact hs.here h0)⟩
  | n + 1 => fun ts hs => by
    unfold stmtN
    by_cases c : isS [115, 116, 111, 114, 101] ts = true
    · rw [if_pos c]
      refine semi_rd h0 ?_
      refine Rd.bind (mode_rd h0) (S := fun m r1 => match pName r1 with | .error p => .error p | .ok (l, r2) => match pExpr r2 with | .error p => .error p | .ok (e, r3) => .ok (.mk 3 m [] l [e] [] [], r3)) (fun m hm ts hs => ?_) hs.tail (by (try dsimp only); first | rfl | (unfold bindR; split <;> (rename_i h9; rw [h9]; first | done | rfl)) | (unfold needR; split <;> (rename_i h9; rw [h9]; first | done | rfl)) | (unfold exprF bindR; split <;> (rename_i h9; rw [h9]; first | done | rfl)) | (unfold sumF bindR; split <;> (rename_i h9; rw [h9]; first | done | rfl)) | (unfold manyF bindR; split <;> (rename_i h9; rw [h9]; first | done | rfl)) | (unfold blockF needR; split <;> (rename_i h9; rw [h9]; first | done | rfl)))
      refine Rd.bind (name_rd h0) (S := fun l r2 => match pExpr r2 with | .error p => .error p | .ok (e, r3) => .ok (.mk 3 (m : Nat) [] l [e] [] [], r3)) (fun l hl ts hs => ?_) hs (by (try dsimp only); first | rfl | (unfold bindR; split <;> (rename_i h9; rw [h9]; first | done | rfl)) | (unfold needR; split <;> (rename_i h9; rw [h9]; first | done | rfl)) | (unfold exprF bindR; split <;> (rename_i h9; rw [h9]; first | done | rfl)) | (unfold sumF bindR; split <;> (rename_i h9; rw [h9]; first | done | rfl)) | (unfold manyF bindR; split <;> (rename_i h9; rw [h9]; first | done | rfl)) | (unfold blockF needR; split <;> (rename_i h9; rw [h9]; first | done | rfl)))
      exact Rd.bind (expr_rd h0) (S := fun e r3 => .ok (.mk 3 (m : Nat) [] l [e] [] [], r3)) (fun e he => Rd.pure (fun d => (by obtain ⟨t, b, he⟩ := he; exact ⟨_, _, _, .store hm hl he⟩))) hs (by (try dsimp only); first | rfl | (unfold bindR; split <;> (rename_i h9; rw [h9]; first | done | rfl)) | (unfold needR; split <;> (rename_i h9; rw [h9]; first | done | rfl)) | (unfold exprF bindR; split <;> (rename_i h9; rw [h9]; first | done | rfl)) | (unfold sumF bindR; split <;> (rename_i h9; rw [h9]; first | done | rfl)) | (unfold manyF bindR; split <;> (rename_i h9; rw [h9]; first | done | rfl)) | (unfold blockF needR; split <;> (rename_i h9; rw [h9]; first | done | rfl)))
    · rw [if_neg c]
      by_cases c : isS [102, 101, 110, 99, 101] ts = true
      · rw [if_pos c]
        refine semi_rd h0 ?_
        exact Rd.bind (mode_rd h0) (S := fun m r1 => .ok (.mk 6 (m : Nat) [] [] [] [] [], r1)) (fun m hm => Rd.pure (fun d => ⟨_, _, _, .fence hm⟩)) hs.tail (by (try dsimp only); first | rfl | (unfold bindR; split <;> (rename_i h9; rw [h9]; first | done | rfl)) | (unfold needR; split <;> (rename_i h9; rw [h9]; first | done | rfl)) | (unfold exprF bindR; split <;> (rename_i h9; rw [h9]; first | done | rfl)) | (unfold sumF bindR; split <;> (rename_i h9; rw [h9]; first | done | rfl)) | (unfold manyF bindR; split <;> (rename_i h9; rw [h9]; first | done | rfl)) | (unfold blockF needR; split <;> (rename_i h9; rw [h9]; first | done | rfl)))
      · rw [if_neg c]
        by_cases c : isS [105, 102] ts = true
        · rw [if_pos c]
          refine Rd.bind (expr_rd h0) (S := fun e r1 => match blockF (stmtN n) r1 with | .error p => .error p | .ok ((a, ps), r2) => if isS [101, 108, 115, 101] r2 then match blockF (stmtN n) r2.tail with | .error p => .error p | .ok ((b, qs), r3) => .ok ((.mk 7 0 [] [] [e] a b, here ts :: (ps ++ qs)), r3) else .ok ((.mk 7 0 [] [] [e] a [], here ts :: ps), r2)) (fun e he r1 hr1 => ?_) hs.tail (by (try dsimp only); first | rfl | (unfold bindR; split <;> (rename_i h9; rw [h9]; first | done | rfl)) | (unfold needR; split <;> (rename_i h9; rw [h9]; first | done | rfl)) | (unfold exprF bindR; split <;> (rename_i h9; rw [h9]; first | done | rfl)) | (unfold sumF bindR; split <;> (rename_i h9; rw [h9]; first | done | rfl)) | (unfold manyF bindR; split <;> (rename_i h9; rw [h9]; first | done | rfl)) | (unfold blockF needR; split <;> (rename_i h9; rw [h9]; first | done | rfl)))
          obtain ⟨te, be, he⟩ := he
          refine Rd.bind (blockF_rd h0 (stmtN_rd h0 n)) (S := fun x r2 => if isS [101, 108, 115, 101] r2 then match blockF (stmtN n) r2.tail with | .error p => .error p | .ok ((b, qs), r3) => .ok ((.mk 7 0 [] [] [e] x.1 b, here ts :: (x.2 ++ qs)), r3) else .ok ((.mk 7 0 [] [] [e] x.1 [], here ts :: x.2), r2)) (fun x hx r2 hr2 => ?_) hr1 (by (try dsimp only); first | rfl | (unfold bindR; split <;> (rename_i h9; rw [h9]; first | done | rfl)) | (unfold needR; split <;> (rename_i h9; rw [h9]; first | done | rfl)) | (unfold exprF bindR; split <;> (rename_i h9; rw [h9]; first | done | rfl)) | (unfold sumF bindR; split <;> (rename_i h9; rw [h9]; first | done | rfl)) | (unfold manyF bindR; split <;> (rename_i h9; rw [h9]; first | done | rfl)) | (unfold blockF needR; split <;> (rename_i h9; rw [h9]; first | done | rfl)))
          have hif : ShS (.mk 7 0 [] [] [e] x.1 []) := fun d => by
            obtain ⟨t, b, q, h1⟩ := hx (d + 1)
            exact ⟨_, _, _, .ifs he h1⟩
          dsimp only
          by_cases c : isS [101, 108, 115, 101] r2 = true
          · rw [if_pos c]
            refine Rd.bind (blockF_rd h0 (stmtN_rd h0 n)) (S := fun y r3 => .ok ((.mk 7 0 [] [] [e] x.1 y.1, here ts :: (x.2 ++ y.2)), r3)) (fun y hy => Rd.pure ?_) hr2.tail (by (try dsimp only); first | rfl | (unfold bindR; split <;> (rename_i h9; rw [h9]; first | done | rfl)) | (unfold needR; split <;> (rename_i h9; rw [h9]; first | done | rfl)) | (unfold exprF bindR; split <;> (rename_i h9; rw [h9]; first | done | rfl)) | (unfold sumF bindR; split <;> (rename_i h9; rw [h9]; first | done | rfl)) | (unfold manyF bindR; split <;> (rename_i h9; rw [h9]; first | done | rfl)) | (unfold blockF needR; split <;> (rename_i h9; rw [h9]; first | done | rfl)))
            show ShS (.mk 7 0 [] [] [e] x.1 y.1)
            by_cases hy0 : y.1 = []
            · rw [hy0]
              exact hif
            · intro d
              obtain ⟨t, b, q, h1⟩ := hx (d + 1)
              obtain ⟨t, b, q, h2⟩ := hy (d + 1)
              exact ⟨_, _, _, .ife he h1 hy0 h2⟩
          · rw [if_neg c]
            exact Rd.pure (x := (ST.mk 7 0 [] [] [e] x.1 [], here ts :: x.2)) hif r2 hr2
        · rw [if_neg c]
          refine semi_rd h0 ?_
          refine Rd.bind (name_rd h0) (S := fun g r1 => match need [61] r1 with | .error p => .error p | .ok r2 => rightF g r2) (fun g hg ts hs => ?_) hs (by (try dsimp only); first | rfl | (unfold bindR; split <;> (rename_i h9; rw [h9]; first | done | rfl)) | (unfold needR; split <;> (rename_i h9; rw [h9]; first | done | rfl)) | (unfold exprF bindR; split <;> (rename_i h9; rw [h9]; first | done | rfl)) | (unfold sumF bindR; split <;> (rename_i h9; rw [h9]; first | done | rfl)) | (unfold manyF bindR; split <;> (rename_i h9; rw [h9]; first | done | rfl)) | (unfold blockF needR; split <;> (rename_i h9; rw [h9]; first | done | rfl)))
          exact Rd.need h0 _ (right_rd h0 hg) hs (by (try dsimp only); first | rfl | (unfold bindR; split <;> (rename_i h9; rw [h9]; first | done | rfl)) | (unfold needR; split <;> (rename_i h9; rw [h9]; first | done | rfl)) | (unfold exprF bindR; split <;> (rename_i h9; rw [h9]; first | done | rfl)) | (unfold sumF bindR; split <;> (rename_i h9; rw [h9]; first | done | rfl)) | (unfold manyF bindR; split <;> (rename_i h9; rw [h9]; first | done | rfl)) | (unfold blockF needR; split <;> (rename_i h9; rw [h9]; first | done | rfl)))
theorem pBlock_rd {PL : Nat → Prop} (h0 : PL 0) : Rd PL pBlock (Q1 ShSs) := fun ts hs => blockF_rd h0 (stmtN_rd h0 ts.length) ts hs
/-! ### programs -/
def ShI (cs : List (List UInt8 × Int)) : Prop := ∃ t b q, TI cs t b q
def ShT (ls : List (List ST)) : Prop := ∃ t b q, TT ls t b q
theorem initL_rd {PL : Nat → Prop} (h0 : PL 0) : ∀ k, Rd PL (initL k) (Q1 ShI)
  | 0 => Rd.pure (x := ([], [])) (Q := Q1 ShI) ⟨_, _, _, .nil⟩
  | k + 1 => fun ts hs => by
    unfold initL
    by_cases c : isS [105, 110, 105, 116] ts = true
    · rw [if_pos c]
      refine Rd.bind (name_rd h0) (S := fun l r1 => match pNum r1 with | .error p => .error p | .ok (n, r2) => match initL k r2 with | .error p => .error p | .ok ((cs, ps), r3) => .ok (((l, (n : Int)) :: cs, here ts :: ps), r3)) (fun l hl r1 hr1 => ?_) hs.tail (by (try dsimp only); first | rfl | (unfold bindR; split <;> (rename_i h9; rw [h9]; first | done | rfl)) | (unfold needR; split <;> (rename_i h9; rw [h9]; first | done | rfl)) | (unfold exprF bindR; split <;> (rename_i h9; rw [h9]; first | done | rfl)) | (unfold sumF bindR; split <;> (rename_i h9; rw [h9]; first | done | rfl)) | (unfold manyF bindR; split <;> (rename_i h9; rw [h9]; first | done | rfl)) | (unfold blockF needR; split <;> (rename_i h9; rw [h9]; first | done | rfl)))
      refine Rd.bind (num_rd h0) (S := fun n r2 => match initL k r2 with | .error p => .error p | .ok ((cs, ps), r3) => .ok (((l, ((n : Nat) : Int)) :: cs, here ts :: ps), r3)) (fun n hn r2 hr2 => ?_) hr1 (by (try dsimp only); first | rfl | (unfold bindR; split <;> (rename_i h9; rw [h9]; first | done | rfl)) | (unfold needR; split <;> (rename_i h9; rw [h9]; first | done | rfl)) | (unfold exprF bindR; split <;> (rename_i h9; rw [h9]; first | done | rfl)) | (unfold sumF bindR; split <;> (rename_i h9; rw [h9]; first | done | rfl)) | (unfold manyF bindR; split <;> (rename_i h9; rw [h9]; first | done | rfl)) | (unfold blockF needR; split <;> (rename_i h9; rw [h9]; first | done | rfl)))
      refine Rd.bind (initL_rd h0 k) (S := fun y r3 => .ok (((l, ((n : Nat) : Int)) :: y.1, here ts :: y.2), r3)) (fun y hy => Rd.pure ?_) hr2 (by (try dsimp only); first | rfl | (unfold bindR; split <;> (rename_i h9; rw [h9]; first | done | rfl)) | (unfold needR; split <;> (rename_i h9; rw [h9]; first | done | rfl)) | (unfold exprF bindR; split <;> (rename_i h9; rw [h9]; first | done | rfl)) | (unfold sumF bindR; split <;> (rename_i h9; rw [h9]; first | done | rfl)) | (unfold manyF bindR; split <;> (rename_i h9; rw [h9]; first | done | rfl)) | (unfold blockF needR; split <;> (rename_i h9; rw [h9]; first | done | rfl)))
      obtain ⟨t, b, q, h1⟩ := hy
      exact ⟨_, _, _, .cons hl hn h1⟩
    · rw [if_neg c]
      exact Rd.pure (x := ([], [])) (Q := Q1 ShI) ⟨_, _, _, .nil⟩ ts hs
theorem threadL_rd {PL : Nat → Prop} (h0 : PL 0) : ∀ k, Rd PL (threadL k) (Q1 ShT)
  | 0 => Rd.pure (x := ([], [])) (Q := Q1 ShT) ⟨_, _, _, .nil⟩
  | k + 1 => fun ts hs => by
    unfold threadL
    by_cases c : isS [116, 104, 114, 101, 97, 100] ts = true
    · rw [if_pos c]
      refine Rd.bind (pBlock_rd h0) (S := fun x r1 => match threadL k r1 with | .error p => .error p | .ok ((bs, qs), r2) => .ok ((x.1 :: bs, x.2 ++ qs), r2)) (fun x hx r1 hr1 => ?_) hs.tail (by (try dsimp only); first | rfl | (unfold bindR; split <;> (rename_i h9; rw [h9]; first | done | rfl)) | (unfold needR; split <;> (rename_i h9; rw [h9]; first | done | rfl)) | (unfold exprF bindR; split <;> (rename_i h9; rw [h9]; first | done | rfl)) | (unfold sumF bindR; split <;> (rename_i h9; rw [h9]; first | done | rfl)) | (unfold manyF bindR; split <;> (rename_i h9; rw [h9]; first | done | rfl)) | (unfold blockF needR; split <;> (rename_i h9; rw [h9]; first | done | rfl)))
      refine Rd.bind (threadL_rd h0 k) (S := fun y r2 => .ok ((x.1 :: y.1, x.2 ++ y.2), r2)) (fun y hy => Rd.pure ?_) hr1 (by (try dsimp only); first | rfl | (unfold bindR; split <;> (rename_i h9; rw [h9]; first | done | rfl)) | (unfold needR; split <;> (rename_i h9; rw [h9]; first | done | rfl)) | (unfold exprF bindR; split <;> (rename_i h9; rw [h9]; first | done | rfl)) | (unfold sumF bindR; split <;> (rename_i h9; rw [h9]; first | done | rfl)) | (unfold manyF bindR; split <;> (rename_i h9; rw [h9]; first | done | rfl)) | (unfold blockF needR; split <;> (rename_i h9; rw [h9]; first | done | rfl)))
      obtain ⟨t, b, q, h1⟩ := hy
      obtain ⟨t, b, q, h2⟩ := hx 1
      exact ⟨_, _, _, .cons h2 h1⟩
    · rw [if_neg c]
      exact Rd.pure (x := ([], [])) (Q := Q1 ShT) ⟨_, _, _, .nil⟩ ts hs
theorem ask_rd {PL : Nat → Prop} (h0 : PL 0) : Rd PL askF (fun k => k = 1 ∨ k = 2) := fun ts hs => by
  unfold askF
  by_cases c : isS [102, 111, 114, 97, 108, 108] ts = true
  · rw [if_pos c]
    exact ⟨fun x r hr => by cases hr; exact ⟨.inr rfl, hs.tail⟩, fun a ha => by cases ha⟩
  · rw [if_neg c]
    exact Rd.need h0 _ (S := fun r => .ok (1, r)) (Rd.pure (.inl rfl)) hs (by (try dsimp only); first | rfl | (unfold bindR; split <;> (rename_i h9; rw [h9]; first | done | rfl)) | (unfold needR; split <;> (rename_i h9; rw [h9]; first | done | rfl)) | (unfold exprF bindR; split <;> (rename_i h9; rw [h9]; first | done | rfl)) | (unfold sumF bindR; split <;> (rename_i h9; rw [h9]; first | done | rfl)) | (unfold manyF bindR; split <;> (rename_i h9; rw [h9]; first | done | rfl)) | (unfold blockF needR; split <;> (rename_i h9; rw [h9]; first | done | rfl)))
/-- A program that may be shown. -/
def ShP (p : PG) : Prop := ∃ t b q1 q2 q3, TP p t b q1 q2 q3
/-- What is read can be shown; what is refused is refused at a token's place. -/
theorem prog_rd {PL : Nat → Prop} (h0 : PL 0) {ts : List Tok} (hs : Sds PL ts) : (∀ p l, pProg ts = .ok (p, l) → ShP p) ∧ ∀ a, pProg ts = .error a → PL a := by
  have key : (∀ x r, (match pProg ts with | .error p => (.error p : Res (PG × List Nat)) | .ok x => .ok (x, [])) = .ok (x, r) → Q1 ShP x ∧ Sds PL r) ∧ ∀ a, (match pProg ts with | .error p => (.error p : Res (PG × List Nat)) | .ok x => .ok (x, [])) = .error a → PL a := by
    unfold pProg
    have g1 := need_rd h0 [108, 105, 116, 109, 117, 115] hs
    cases e1 : need [108, 105, 116, 109, 117, 115] ts with
    | error p => exact ⟨fun x r hr => (by cases hr), fun a ha => (by cases ha; exact g1.2 _ e1)⟩
    | ok r1 =>
    have s1 := g1.1 _ e1
    simp only
    have g2 := name_rd h0 r1 s1
    cases e2 : pName r1 with
    | error p => exact ⟨fun x r hr => (by cases hr), fun a ha => (by cases ha; exact g2.2 _ e2)⟩
    | ok y =>
    obtain ⟨nm, r2⟩ := y
    obtain ⟨hn, s2⟩ := g2.1 _ _ e2
    simp only
    have g3 := need_rd h0 [118, 97, 108, 117, 101, 115] s2
    cases e3 : need [118, 97, 108, 117, 101, 115] r2 with
    | error p => exact ⟨fun x r hr => (by cases hr), fun a ha => (by cases ha; exact g3.2 _ e3)⟩
    | ok r3 =>
    have s3 := g3.1 _ e3
    simp only
    have g4 := num_rd h0 r3 s3
    cases e4 : pNum r3 with
    | error p => exact ⟨fun x r hr => (by cases hr), fun a ha => (by cases ha; exact g4.2 _ e4)⟩
    | ok y =>
    obtain ⟨v, r4⟩ := y
    obtain ⟨hv, s4⟩ := g4.1 _ _ e4
    simp only
    have g5 := initL_rd h0 r4.length r4 s4
    cases e5 : initL r4.length r4 with
    | error p => exact ⟨fun x r hr => (by cases hr), fun a ha => (by cases ha; exact g5.2 _ e5)⟩
    | ok y =>
    obtain ⟨⟨cs, ps⟩, r5⟩ := y
    obtain ⟨hi, s5⟩ := g5.1 _ _ e5
    simp only
    have g6 := threadL_rd h0 r5.length r5 s5
    cases e6 : threadL r5.length r5 with
    | error p => exact ⟨fun x r hr => (by cases hr), fun a ha => (by cases ha; exact g6.2 _ e6)⟩
    | ok y =>
    obtain ⟨⟨bl, qs⟩, r6⟩ := y
    obtain ⟨ht, s6⟩ := g6.1 _ _ e6
    simp only
    have g7 := ask_rd h0 r6 s6
    cases e7 : askF r6 with
    | error p => exact ⟨fun x r hr => (by cases hr), fun a ha => (by cases ha; exact g7.2 _ e7)⟩
    | ok y =>
    obtain ⟨k, r7⟩ := y
    obtain ⟨hk, s7⟩ := g7.1 _ _ e7
    simp only
    have g8 := cond_rd h0 r7 s7
    cases e8 : pCond r7 with
    | error p => exact ⟨fun x r hr => (by cases hr), fun a ha => (by cases ha; exact g8.2 _ e8)⟩
    | ok y =>
    obtain ⟨c, r8⟩ := y
    obtain ⟨hc, s8⟩ := g8.1 _ _ e8
    simp only
    cases r8 with
    | nil => exact ⟨fun x r hr => (by cases hr), fun a ha => (by cases ha; exact h0)⟩
    | cons t u =>
      simp only
      by_cases e : (t.kind == 4) = true
      · rw [if_pos e]
        refine ⟨fun x r hr => ?_, fun a ha => by cases ha⟩
        cases hr
        refine ⟨?_, fun t ht => by cases ht⟩
        obtain ⟨_, _, _, hi⟩ := hi
        obtain ⟨_, _, _, ht⟩ := ht
        obtain ⟨_, _, hc⟩ := hc
        exact ⟨_, _, _, _, _, .mk hn hv hi ht hk hc⟩
      · rw [if_neg e]
        exact ⟨fun x r hr => (by cases hr), fun a ha => (by cases ha; exact (s8 t (by simp)).2.2)⟩
  constructor
  · intro p l h
    rw [h] at key
    exact (key.1 (p, l) [] rfl).1
  · intro a h
    rw [h] at key
    exact key.2 a rfl
end Go.Proofs.YtgobcflfhabdhaaGreatDoor.P
/-
  What the statements over programs that are made lean on: their texts' tokens, what is read of them. It proves nothing of Go by itself.
-/
namespace Go.Proofs.YtgobcflfhabdhaaGreatDoor.Lx
open Go.RowKit
open L (Tok)
open P (EX CO ST PG TP MP Bo)
set_option maxRecDepth 100000
set_option linter.unusedVariables false
set_option linter.unusedSimpArgs false
/-- Two blocks that are made one after the other. -/
theorem two_new (w : World) (t1 t2 : TypeId) (c1 c2 : Array Value) : Below w.heap.size w ((w.alloc (.cells c1 t1)).alloc (.cells c2 t2)) ∧ Blk ((w.alloc (.cells c1 t1)).alloc (.cells c2 t2)) w.heap.size t1 c1 ∧ Blk ((w.alloc (.cells c1 t1)).alloc (.cells c2 t2)) (w.heap.size + 1) t2 c2 ∧ w.heap.size + 1 < ((w.alloc (.cells c1 t1)).alloc (.cells c2 t2)).heap.size := by
  have h2 := Blk.new (w.alloc (.cells c1 t1)) t2 c2
  rw [show (w.alloc (.cells c1 t1)).heap.size = w.heap.size + 1 by simp] at h2
  exact ⟨((Below.refl _ _).alloc (Nat.le_refl _) _).alloc (by simp) _, (Blk.new w t1 c1).alloc _, h2, h2.lt⟩
theorem new_one (w : World) (t1 : TypeId) (c1 : Array Value) : Below w.heap.size w (w.alloc (.cells c1 t1)) ∧ Blk (w.alloc (.cells c1 t1)) w.heap.size t1 c1 ∧ w.heap.size < (w.alloc (.cells c1 t1)).heap.size := ⟨(Below.refl _ _).alloc (Nat.le_refl _) _, Blk.new w t1 c1, (Blk.new w t1 c1).lt⟩
/-- What is made has a text. -/
theorem made_tp {v k : Nat} {p : PG} (h : MP v k 4 1 p) (hv : v ≤ 4) (hk : k ≤ 4) (hl : p.threads.length ≤ 4) : ∃ t b q1 q2 q3, TP p t b q1 q2 q3 ∧ t.length ≤ 1000000000000 := by
  obtain ⟨t, b, q1, q2, q3, h1, h2⟩ := h.shown (by omega) (by omega) (by omega)
  refine ⟨t, b, q1, q2, q3, h1, ?_⟩
  have hb : P.lsb 1 1 ≤ 1000 := by simp [P.lsb]
  generalize P.lsb 1 1 = n at *
  omega
theorem lexA_long {s : ByteArray} (h : ¬ s.size ≤ 4096) : lexA s = .error (.long, 0) := by rw [lexA, if_neg h]
theorem parA_long {s : ByteArray} (h : ¬ s.size ≤ 4096) : parA s = .error (3, 0) := by
  unfold parA
  rw [lexA_long h]
  rfl
theorem parA_of {s : ByteArray} (h : s.size ≤ 4096) {ts : List Tok} (e : L.lexL 0 (by' s) = .ok ts) {p : PG} {l : List Nat} (hp : P.pProg ts = .ok (p, l)) : parA s = .ok (p, l) := by
  unfold parA
  rw [lexA, if_pos h, e]
  simp only [hp]
theorem parA_no {s : ByteArray} (h : s.size ≤ 4096) {ts : List Tok} (e : L.lexL 0 (by' s) = .ok ts) {a : Nat} (hp : P.pProg ts = .error a) : parA s = .error (2, a) := by
  unfold parA
  rw [lexA, if_pos h, e]
  simp only [hp]
theorem tp_lex {p : PG} {t : List UInt8} {b : List Bo} {q1 q2 q3 : List Nat} (h : TP p t b q1 q2 q3) (hs : (bs t).size ≤ 4096) : ∃ us, lexA (bs t) = .ok (us ++ [⟨4, [], 0, t.length⟩]) ∧ L.lexL 0 t = .ok (us ++ [⟨4, [], 0, t.length⟩]) ∧ us.map P.body = b ∧ L.Ins 0 t us ∧ parA (bs t) = .ok (p, P.plc (0 :: (q1 ++ (q2 ++ q3))) (us ++ [⟨4, [], 0, t.length⟩])) ∧ ∀ i ∈ q2, i < b.length ∧ ∃ off, 1 ≤ off ∧ off < t.length ∧ P.here (us.drop i) = off ∧ t[off - 1]? = some 32 := by
  obtain ⟨us, e, hb, hi, hq⟩ := h.toks
  obtain ⟨ts, e2, hp⟩ := h.reads
  rw [e] at e2
  cases e2
  refine ⟨us, ?_, e, hb, hi, parA_of hs (by rw [by_bs]; exact e) hp, hq⟩
  rw [lexA, if_pos hs, by_bs]
  exact e
/-- A text's tokens: how long they are with what is between. -/
theorem joinW_len {btw : List UInt8} (hb : btw.length ≤ 6) : ∀ (ts : List Tok), (∀ t ∈ ts, t.text.length ≤ 4096) → (P.joinW btw ts).length ≤ 4102 * ts.length
  | [], _ => by simp [P.joinW]
  | t :: ts, h => by
    have h1 := h t (by simp)
    have h2 := joinW_len hb ts (fun x hx => h x (by simp [hx]))
    rw [P.joinW_cons, List.length_append, List.length_append, List.length_cons]
    omega
theorem joinW_take {btw : List UInt8} {ts : List Tok} {i : Nat} (h : i < ts.length) : P.joinW btw (ts.take (i + 1)) = P.joinW btw (ts.take i) ++ ((tat ts i).text ++ btw) := by
  rw [List.take_add_one, List.getElem?_eq_getElem h, P.joinW_app]
  have : tat ts i = ts[i] := by simp [tat, List.getD_eq_getElem?_getD, List.getElem?_eq_getElem h]
  rw [this]
  simp [P.joinW]
theorem t_join (o a b : List UInt8) : (bs o ++ bs a) ++ bs b = bs (o ++ (a ++ b)) := by
  simp only [bs_app, List.append_assoc]
theorem tat_mem {ts : List Tok} {i : Nat} (h : i < ts.length) : tat ts i ∈ ts := by
  have : tat ts i = ts[i] := by simp [tat, List.getD_eq_getElem?_getD, List.getElem?_eq_getElem h]
  rw [this]
  exact List.getElem_mem h
theorem toks_short {t : List UInt8} {us : List Tok} (hs : t.length ≤ 4096) (hi : L.Ins 0 t us) : (∀ x ∈ us ++ [(⟨4, [], 0, t.length⟩ : Tok)], x.text.length ≤ 4096) ∧ (us ++ [(⟨4, [], 0, t.length⟩ : Tok)]).length ≤ 4097 := by
  refine ⟨fun x hx => ?_, ?_⟩
  · rcases List.mem_append.1 hx with hx | hx
    · have := (hi.all x hx).to
      omega
    · rw [List.mem_singleton.1 hx]
      exact Nat.zero_le _
  · have := hi.count
    rw [List.length_append]
    simp only [List.length_cons, List.length_nil]
    omega
end Go.Proofs.YtgobcflfhabdhaaGreatDoor.Lx
