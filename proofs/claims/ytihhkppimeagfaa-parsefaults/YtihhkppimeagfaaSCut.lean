/-
  PLAIN MATHEMATICS of fronts of programs: a front of a program's tokens is refused at its end alone. It proves nothing of Go.
-/
import Derived.Test.YtihhkppimeagfaaSA
namespace Go.Proofs.Ytihhkppimeagfaa.P
open L (Tok)
set_option maxRecDepth 100000
set_option linter.unusedVariables false
set_option linter.unusedSimpArgs false
/-- A true front of tokens of these bodies, and then E alone. -/
def Cut (b : List Bo) (ts : List Tok) (E : Tok) : Prop := ∃ us x c, ts = us ++ [E] ∧ b = us.map body ++ x :: c
theorem Cut.nil {ts : List Tok} {E : Tok} (h : Cut [] ts E) : False := by
  obtain ⟨us, x, c, _, h⟩ := h
  simp at h
theorem Cut.cons {x : Bo} {b : List Bo} {ts : List Tok} {E : Tok} (h : Cut (x :: b) ts E) : ts = [E] ∨ ∃ t u, ts = t :: u ∧ body t = x ∧ Cut b u E := by
  obtain ⟨us, y, c, rfl, h⟩ := h
  cases us with
  | nil => exact .inl rfl
  | cons t us =>
    simp only [List.map_cons, List.cons_append, List.cons.injEq] at h
    exact .inr ⟨t, us ++ [E], rfl, h.1.symm, us, y, c, rfl, h.2⟩
theorem Cut.one {x : Bo} {ts : List Tok} {E : Tok} (h : Cut [x] ts E) : ts = [E] := by
  rcases h.cons with h | ⟨t, u, _, _, h⟩
  · exact h
  · exact h.nil.elim
theorem Cut.app {a b : List Bo} {ts : List Tok} {E : Tok} (h : Cut (a ++ b) ts E) : Cut a ts E ∨ ∃ m, Has a ts m ∧ Cut b m E := by
  obtain ⟨us, y, c, rfl, h⟩ := h
  rcases List.append_eq_append_iff.1 h with ⟨d, h1, h2⟩ | ⟨d, h1, h2⟩
  · obtain ⟨xs, ys, rfl, e1, e2⟩ := List.map_eq_append_iff.1 h1
    refine .inr ⟨ys ++ [E], ⟨xs, by simp, e1⟩, ys, y, c, rfl, ?_⟩
    rw [h2, e2]
  · cases d with
    | nil =>
      simp only [List.append_nil] at h1
      refine .inr ⟨[E], ⟨us, rfl, h1.symm⟩, [], y, c, rfl, ?_⟩
      simpa using h2.symm
    | cons z d =>
      simp only [List.cons_append, List.cons.injEq] at h2
      obtain ⟨rfl, rfl⟩ := h2
      exact .inl ⟨us, y, d, rfl, h1⟩
theorem Cut.len {b : List Bo} {ts : List Tok} {E : Tok} (h : Cut b ts E) : 0 < ts.length := by
  obtain ⟨us, y, c, rfl, h⟩ := h
  simp
/-! ### the end alone -/
theorem end_is {E : Tok} (h : E.kind = 4) (s : List UInt8) : isS s [E] = false := by simp [isS, h]
theorem end_need {E : Tok} (h : E.kind = 4) (s : List UInt8) : need s [E] = .error E.at' := by simp [need, isS, h, here]
theorem end_name {E : Tok} (h : E.kind = 4) : pName [E] = .error E.at' := by simp [pName, isN, h]
theorem end_num {E : Tok} (h : E.kind = 4) : pNum [E] = .error E.at' := by simp [pNum, isD, h]
theorem end_mode {E : Tok} (h : E.kind = 4) : pMode [E] = .error E.at' := by simp [pMode, pModeL, isS, h, here]
theorem end_stop {E : Tok} (h : E.kind = 4) : StopX [E] := ⟨end_is h _, end_is h _, end_is h _, end_is h _⟩
theorem end_atom {E : Tok} (h : E.kind = 4) (rec : List Tok → Res EX) : atomF rec [E] = .error E.at' := by
  unfold atomF
  rw [end_num h, end_name h, end_need h]
theorem end_one {E : Tok} (h : E.kind = 4) : ∀ n, oneN n [E] = .error E.at'
  | 0 => rfl
  | n + 1 => by
    unfold oneN litF
    rw [end_is h, end_is h, end_num h, end_name h]
    rfl
theorem end_stmt {E : Tok} (h : E.kind = 4) (n : Nat) : stmtN n [E] = .error E.at' := stmtN_not (by
  unfold atS
  rw [end_is h, end_is h, end_is h]
  simp [isN, h])
/-! ### expressions -/
theorem expr_bad {rec : List Tok → Res EX} {ts : List Tok} {p : Nat} (h : atomF rec ts = .error p) : exprF rec ts = .error p := by
  unfold exprF sumF
  rw [h]
theorem atom_cut {e : EX} {b : List Bo} (h : SX e b) {E : Tok} (hE : E.kind = 4) : ∀ (n : Nat) (ts : List Tok), ts.length ≤ n + 1 → Cut b ts E → atomF (exprN n) ts = .error E.at' := by
  induction h with
  | num k =>
    intro n ts hn hc
    rw [hc.one]
    exact end_atom hE _
  | reg hk =>
    intro n ts hn hc
    rw [hc.one]
    exact end_atom hE _
  | @bin op s a b ba bb hop ha hb iha ihb =>
    intro n ts hn hc
    rcases hc.cons with rfl | ⟨t, u, rfl, ht, hc⟩
    · exact end_atom hE _
    have hul := hc.len
    simp only [List.length_cons] at hn
    obtain ⟨k, rfl⟩ : ∃ k, n = k + 1 := ⟨n - 1, by omega⟩
    have fin : ∀ r : Res EX, exprN (k + 1) u = r → (∀ p, r = .error p → p = E.at') → (∀ x v, r = .ok (x, v) → need [41] v = .error E.at') → atomF (exprN (k + 1)) (t :: u) = .error E.at' := by
      intro r hr h1 h2
      unfold atomF
      rw [num_sg ht, name_sg ht, need_sg ht]
      simp only [hr]
      cases r with
      | error p =>
        rw [h1 p rfl]
      | ok y =>
        obtain ⟨x, v⟩ := y
        simp only [h2 x v rfl]
    rcases hc.app with hc | ⟨m, hm1, hc⟩
    · refine fin _ (show exprF (exprN k) u = _ from expr_bad (iha k _ (by omega) hc)) (fun p hp => by cases hp; rfl) (fun x v hp => by cases hp)
    have hlm := hm1.len
    have a1 := atom_reads ha k _ _ (by omega) hm1
    rcases hc.cons with rfl | ⟨t2, u2, rfl, ht2, hc⟩
    · refine fin _ (show exprF (exprN k) u = _ from expr_of_atom a1 (end_stop hE)) (fun p hp => by cases hp) (fun x v hp => by cases hp; exact end_need hE _)
    rcases hc.app with hc | ⟨m2, hm3, hc⟩
    · have b1 := ihb k _ (by simp only [List.length_cons] at hlm; omega) hc
      have hx : exprN (k + 1) u = .error E.at' := by
        show exprF (exprN k) u = _
        unfold exprF sumF
        rw [a1]
        simp only
        have p1 := isS_sg (r := u2) ht2 [43]
        have p2 := isS_sg (r := u2) ht2 [45]
        have p3 := isS_sg (r := u2) ht2 [61, 61]
        have p4 := isS_sg (r := u2) ht2 [60]
        cases hop with
        | plus =>
          rw [List.length_cons]
          unfold sumL
          rw [p1, p2]
          simp [b1]
        | minus =>
          rw [List.length_cons]
          unfold sumL
          rw [p1, p2]
          simp [b1]
        | eq =>
          rw [sumL_halt _ _ (by rw [p1]; decide) (by rw [p2]; decide)]
          simp only [p3, p4, List.tail_cons, b1]
          simp
        | less =>
          rw [sumL_halt _ _ (by rw [p1]; decide) (by rw [p2]; decide)]
          simp only [p3, p4, List.tail_cons, b1]
          simp
      exact fin _ hx (fun p hp => by cases hp; rfl) (fun x v hp => by cases hp)
    · have hm := hc.one
      subst hm
      have hlm3 := hm3.len
      have b1 := atom_reads hb k _ _ (by simp only [List.length_cons] at hlm; omega) hm3
      obtain ⟨z1, z2, z3, z4⟩ := end_stop hE
      have hx : exprN (k + 1) u = .ok (.mk op 0 [] [a, b], [E]) := by
        show exprF (exprN k) u = _
        unfold exprF sumF
        rw [a1]
        simp only
        have p1 := isS_sg (r := u2) ht2 [43]
        have p2 := isS_sg (r := u2) ht2 [45]
        have p3 := isS_sg (r := u2) ht2 [61, 61]
        have p4 := isS_sg (r := u2) ht2 [60]
        cases hop with
        | plus =>
          rw [List.length_cons, sumL_go (by rw [p1, p2]; decide) b1, p2, sumL_halt _ _ z1 z2]
          simp only [z3, z4]
          rfl
        | minus =>
          rw [List.length_cons, sumL_go (by rw [p1, p2]; decide) b1, p2, sumL_halt _ _ z1 z2]
          simp only [z3, z4]
          rfl
        | eq =>
          rw [sumL_halt _ _ (by rw [p1]; decide) (by rw [p2]; decide)]
          simp only [p3, p4, List.tail_cons, b1, sumL_halt _ _ z1 z2]
          simp
        | less =>
          rw [sumL_halt _ _ (by rw [p1]; decide) (by rw [p2]; decide)]
          simp only [p3, p4, List.tail_cons, b1, sumL_halt _ _ z1 z2]
          simp
      exact fin _ hx (fun p hp => by cases hp) (fun x v hp => by cases hp; exact end_need hE _)
/-- A front of an expression is refused at its end. -/
theorem expr_cut {e : EX} {b : List Bo} (h : SX e b) {E : Tok} (hE : E.kind = 4) {ts : List Tok} (hc : Cut b ts E) : pExpr ts = .error E.at' := by
  have hl := hc.len
  obtain ⟨k, hk⟩ : ∃ k, ts.length = k + 1 := ⟨ts.length - 1, by omega⟩
  unfold pExpr
  rw [hk]
  show exprF (exprN k) ts = _
  exact expr_bad (atom_cut h hE k ts (by omega) hc)
/-! ### conditions -/
theorem many_bad {one : List Tok → Res CO} {word : List UInt8} {op : Int} {ts : List Tok} {p : Nat} (h : one ts = .error p) : manyF one word op ts = .error p := by
  unfold manyF
  rw [h]
theorem many_bad2 {one : List Tok → Res CO} {word : List UInt8} {op : Int} {a : CO} {ts u : List Tok} {t : Tok} {p : Nat} (h : one ts = .ok (a, t :: u)) (hw : isS word (t :: u) = true) (h2 : one u = .error p) : manyF one word op ts = .error p := by
  unfold manyF
  rw [h]
  simp only [List.length_cons]
  unfold manyL
  rw [if_pos hw]
  simp [h2]
theorem one_cut {c : CO} {b : List Bo} (h : SC c b) {E : Tok} (hE : E.kind = 4) : ∀ (n : Nat) (ts : List Tok), ts.length ≤ n → Cut b ts E → oneN n ts = .error E.at' := by
  induction h with
  | mem k hk =>
    intro n ts hn hc
    rcases hc.cons with rfl | ⟨t, u, rfl, ht, hc⟩
    · exact end_one hE _
    obtain ⟨m, rfl⟩ : ∃ m, n = m + 1 := ⟨n - 1, by simp at hn; omega⟩
    unfold oneN
    rw [isS_wd ht, isS_wd ht, hk.kw (by decide), hk.sign (by decide)]
    simp only [Bool.false_eq_true, if_false]
    unfold litF
    simp only [num_wd ht, name_wd ht hk.1]
    rcases hc.cons with rfl | ⟨t2, u2, rfl, ht2, hc⟩
    · simp only [end_need hE]
    simp only [need_sg ht2]
    rw [hc.one]
    simp only [end_num hE]
  | reg j k hk =>
    intro n ts hn hc
    rcases hc.cons with rfl | ⟨t, u, rfl, ht, hc⟩
    · exact end_one hE _
    obtain ⟨m, rfl⟩ : ∃ m, n = m + 1 := ⟨n - 1, by simp at hn; omega⟩
    unfold oneN
    rw [isS_nu ht, isS_nu ht]
    simp only [Bool.false_eq_true, if_false]
    unfold litF
    simp only [num_nu ht]
    rcases hc.cons with rfl | ⟨t2, u2, rfl, ht2, hc⟩
    · simp only [end_need hE]
    simp only [need_sg ht2]
    rcases hc.cons with rfl | ⟨t3, u3, rfl, ht3, hc⟩
    · simp only [end_name hE]
    simp only [name_wd ht3 hk.1]
    rcases hc.cons with rfl | ⟨t4, u4, rfl, ht4, hc⟩
    · simp only [end_need hE]
    simp only [need_sg ht4]
    rw [hc.one]
    simp only [end_num hE]
  | not ha iha =>
    intro n ts hn hc
    rcases hc.cons with rfl | ⟨t, u, rfl, ht, hc⟩
    · exact end_one hE _
    obtain ⟨m, rfl⟩ : ∃ m, n = m + 1 := ⟨n - 1, by simp at hn; omega⟩
    have a1 := iha m _ (by simp at hn; omega) hc
    unfold oneN
    rw [isS_wd ht]
    simp [a1]
  | @and a b ba bb ha hb iha ihb =>
    intro n ts hn hc
    rcases hc.cons with rfl | ⟨t, u, rfl, ht, hc⟩
    · exact end_one hE _
    simp only [List.length_cons] at hn
    obtain ⟨k, rfl⟩ : ∃ k, n = k + 1 := ⟨n - 1, by omega⟩
    have bad : condF (oneN k) u = .error E.at' → oneN (k + 1) (t :: u) = .error E.at' := by
      intro h
      unfold oneN
      rw [isS_sg ht, isS_sg ht]
      simp [h]
    rcases hc.app with hc | ⟨m, hm1, hc⟩
    · exact bad (many_bad (many_bad (iha k _ (by omega) hc)))
    have hl1 := hm1.len
    have a1 := one_reads ha k _ _ (by omega) hm1
    have good : ∀ x, condF (oneN k) u = .ok (x, [E]) → oneN (k + 1) (t :: u) = .error E.at' := by
      intro x h
      unfold oneN
      rw [isS_sg ht, isS_sg ht]
      simp [h, end_need hE]
    rcases hc.cons with rfl | ⟨t2, u2, rfl, ht2, hc⟩
    · exact good _ (many_one (many_one a1 (end_is hE _)) (end_is hE _))
    simp only [List.length_cons] at hl1
    rcases hc.app with hc | ⟨m2, hm3, hc⟩
    · exact bad (many_bad (many_bad2 a1 (by rw [isS_wd ht2]; decide) (ihb k _ (by omega) hc)))
    · have hl3 := hm3.len
      have hm := hc.one
      subst hm
      have b1 := one_reads hb k _ _ (by omega) hm3
      exact good _ (many_one (many_two a1 (by rw [isS_wd ht2]; decide) b1 (end_is hE _)) (end_is hE _))
  | @or a b ba bb ha hb iha ihb =>
    intro n ts hn hc
    rcases hc.cons with rfl | ⟨t, u, rfl, ht, hc⟩
    · exact end_one hE _
    simp only [List.length_cons] at hn
    obtain ⟨k, rfl⟩ : ∃ k, n = k + 1 := ⟨n - 1, by omega⟩
    have bad : condF (oneN k) u = .error E.at' → oneN (k + 1) (t :: u) = .error E.at' := by
      intro h
      unfold oneN
      rw [isS_sg ht, isS_sg ht]
      simp [h]
    rcases hc.app with hc | ⟨m, hm1, hc⟩
    · exact bad (many_bad (many_bad (iha k _ (by omega) hc)))
    have hl1 := hm1.len
    have a1 := one_reads ha k _ _ (by omega) hm1
    have good : ∀ x, condF (oneN k) u = .ok (x, [E]) → oneN (k + 1) (t :: u) = .error E.at' := by
      intro x h
      unfold oneN
      rw [isS_sg ht, isS_sg ht]
      simp [h, end_need hE]
    rcases hc.cons with rfl | ⟨t2, u2, rfl, ht2, hc⟩
    · exact good _ (many_one (many_one a1 (end_is hE _)) (end_is hE _))
    simp only [List.length_cons] at hl1
    have c1 : bothF (oneN k) u = .ok (a, t2 :: u2) := many_one a1 (by rw [isS_wd ht2]; decide)
    rcases hc.app with hc | ⟨m2, hm3, hc⟩
    · exact bad (many_bad2 c1 (by rw [isS_wd ht2]; decide) (many_bad (ihb k _ (by omega) hc)))
    · have hl3 := hm3.len
      have hm := hc.one
      subst hm
      have b1 := one_reads hb k _ _ (by omega) hm3
      exact good _ (many_two c1 (by rw [isS_wd ht2]; decide) (many_one b1 (end_is hE _)) (end_is hE _))
/-- A front of a condition is refused at its end. -/
theorem cond_cut {c : CO} {b : List Bo} (h : SC c b) {E : Tok} (hE : E.kind = 4) {ts : List Tok} (hc : Cut b ts E) : pCond ts = .error E.at' :=
  many_bad (many_bad (one_cut h hE ts.length ts (Nat.le_refl _) hc))
/-! ### statements -/
theorem SX.kwCut {e : EX} {b : List Bo} (h : SX e b) {E : Tok} (hE : E.kind = 4) {ts : List Tok} (hc : Cut b ts E) {x : List UInt8} (hx : Lx.kwB x = true) : isS x ts = false := by
  cases h with
  | num n =>
    rw [hc.one]
    exact end_is hE _
  | reg hk =>
    rw [hc.one]
    exact end_is hE _
  | bin hop ha hb =>
    rcases hc.cons with rfl | ⟨t, u, rfl, ht, _⟩
    · exact end_is hE _
    rw [isS_sg ht]
    cases e : ([40] : List UInt8) == x with
    | false => rfl
    | true =>
      have := eq_of_beq e
      subst this
      exact absurd hx (by decide)
theorem HeadOk.cut {b : List Bo} (h : HeadOk b) {E : Tok} (hE : E.kind = 4) {ts : List Tok} (hh : Cut b ts E) : isS [101, 108, 115, 101] ts = false ∧ isS [125] ts = false := by
  obtain ⟨x, b', rfl, h1, h2⟩ := h
  rcases hh.cons with rfl | ⟨t, u, rfl, ht, _⟩
  · exact ⟨end_is hE _, end_is hE _⟩
  · exact ⟨by rw [isS_wd ht]; exact h1, by rw [isS_wd ht]; exact h2⟩
theorem SSs.cutFirst {l : List ST} {b : List Bo} {q : List Nat} (h : SSs l b q) {E : Tok} (hE : E.kind = 4) {c : List Bo} {ts : List Tok} (hh : Cut (b ++ (sg [125] :: c)) ts E) : isS [101, 108, 115, 101] ts = false := by
  cases h with
  | nil =>
    rcases hh.cons with rfl | ⟨t, u, rfl, ht, _⟩
    · exact end_is hE _
    rw [isS_sg ht]
    decide
  | cons hs hl =>
    rw [List.append_assoc] at hh
    rcases hh.app with hh | ⟨m, h1, _⟩
    · exact (hs.head.cut hE hh).1
    · exact (hs.head.not h1).1
theorem semi_err {p q : Nat} : semi (.error p) q = .error p := rfl
theorem semi_end {E : Tok} (hE : E.kind = 4) (s : ST) (q : Nat) : semi (.ok (s, [E])) q = .error E.at' := by
  unfold semi
  simp only [end_need hE]
mutual
theorem stmt_cut {s : ST} {b : List Bo} {q : List Nat} (h : SS s b q) {E : Tok} (hE : E.kind = 4) (n : Nat) (ts : List Tok) (hn : ts.length ≤ n) (hc : Cut b ts E) : stmtN n ts = .error E.at' ∨ ∃ x, stmtN n ts = .ok (x, [E]) := by
  cases h with
  | @set rg e bx hrg hx =>
    rcases hc.cons with rfl | ⟨t, u, rfl, ht, hc⟩
    · exact .inl (end_stmt hE _)
    obtain ⟨k, rfl⟩ : ∃ k, n = k + 1 := ⟨n - 1, by simp at hn; omega⟩
    left
    unfold stmtN
    rw [isS_wd ht, isS_wd ht, isS_wd ht, hrg.kw (by decide), hrg.kw (by decide), hrg.kw (by decide)]
    simp only [Bool.false_eq_true, if_false, name_wd ht hrg.1]
    rcases hc.cons with rfl | ⟨t2, u2, rfl, ht2, hc⟩
    · simp only [end_need hE, semi_err]
    simp only [need_sg ht2]
    unfold rightF
    rcases hc.app with hc | ⟨m, hm1, hc⟩
    · rw [hx.kwCut hE hc (by decide), hx.kwCut hE hc (by decide), hx.kwCut hE hc (by decide)]
      simp only [Bool.false_eq_true, if_false, expr_cut hx hE hc, semi_err]
    · have hm := hc.one
      subst hm
      rw [hx.kwNot hm1 (by decide), hx.kwNot hm1 (by decide), hx.kwNot hm1 (by decide)]
      simp only [Bool.false_eq_true, if_false, expr_reads hx hm1 (end_stop hE), semi_end hE]
  | @load m rg lc hm hrg hl =>
    rcases hc.cons with rfl | ⟨t, u, rfl, ht, hc⟩
    · exact .inl (end_stmt hE _)
    obtain ⟨k, rfl⟩ : ∃ k, n = k + 1 := ⟨n - 1, by simp at hn; omega⟩
    left
    unfold stmtN
    rw [isS_wd ht, isS_wd ht, isS_wd ht, hrg.kw (by decide), hrg.kw (by decide), hrg.kw (by decide)]
    simp only [Bool.false_eq_true, if_false, name_wd ht hrg.1]
    rcases hc.cons with rfl | ⟨t2, u2, rfl, ht2, hc⟩
    · simp only [end_need hE, semi_err]
    simp only [need_sg ht2]
    unfold rightF
    rcases hc.cons with rfl | ⟨t3, u3, rfl, ht3, hc⟩
    · rw [end_is hE, end_is hE, end_is hE]
      simp only [Bool.false_eq_true, if_false]
      rw [show pExpr [E] = .error E.at' from expr_bad (end_atom hE _)]
      rfl
    rw [isS_wd ht3]
    simp only [beq_self_eq_true, if_true, List.tail_cons]
    rcases hc.cons with rfl | ⟨t4, u4, rfl, ht4, hc⟩
    · simp only [end_mode hE, semi_err]
    simp only [mode_reads hm ht4]
    rcases hc.cons with rfl | ⟨t5, u5, rfl, ht5, hc⟩
    · simp only [end_name hE, semi_err]
    simp only [name_wd ht5 hl.1]
    rw [hc.one]
    exact semi_end hE _ _
  | @store m lc e bx hm hl hx =>
    rcases hc.cons with rfl | ⟨t, u, rfl, ht, hc⟩
    · exact .inl (end_stmt hE _)
    obtain ⟨k, rfl⟩ : ∃ k, n = k + 1 := ⟨n - 1, by simp at hn; omega⟩
    left
    unfold stmtN
    rw [isS_wd ht]
    simp only [beq_self_eq_true, if_true, List.tail_cons]
    rcases hc.cons with rfl | ⟨t2, u2, rfl, ht2, hc⟩
    · simp only [end_mode hE, semi_err]
    simp only [mode_reads hm ht2]
    rcases hc.cons with rfl | ⟨t3, u3, rfl, ht3, hc⟩
    · simp only [end_name hE, semi_err]
    simp only [name_wd ht3 hl.1]
    rcases hc.app with hc | ⟨m1, hm1, hc⟩
    · simp only [expr_cut hx hE hc, semi_err]
    · rw [hc.one] at hm1
      simp only [expr_reads hx hm1 (end_stop hE), semi_end hE]
  | @add m rg lc e bx hm hrg hl hx =>
    rcases hc.cons with rfl | ⟨t, u, rfl, ht, hc⟩
    · exact .inl (end_stmt hE _)
    obtain ⟨k, rfl⟩ : ∃ k, n = k + 1 := ⟨n - 1, by simp at hn; omega⟩
    left
    unfold stmtN
    rw [isS_wd ht, isS_wd ht, isS_wd ht, hrg.kw (by decide), hrg.kw (by decide), hrg.kw (by decide)]
    simp only [Bool.false_eq_true, if_false, name_wd ht hrg.1]
    rcases hc.cons with rfl | ⟨t2, u2, rfl, ht2, hc⟩
    · simp only [end_need hE, semi_err]
    simp only [need_sg ht2]
    unfold rightF
    rcases hc.cons with rfl | ⟨t3, u3, rfl, ht3, hc⟩
    · rw [end_is hE, end_is hE, end_is hE]
      simp only [Bool.false_eq_true, if_false]
      rw [show pExpr [E] = .error E.at' from expr_bad (end_atom hE _)]
      rfl
    rw [isS_wd ht3, isS_wd ht3]
    simp only [show (([97, 100, 100] : List UInt8) == [108, 111, 97, 100]) = false from by decide, Bool.false_eq_true, if_false, beq_self_eq_true, if_true, List.tail_cons]
    rcases hc.cons with rfl | ⟨t4, u4, rfl, ht4, hc⟩
    · simp only [end_mode hE, semi_err]
    simp only [mode_reads hm ht4]
    rcases hc.cons with rfl | ⟨t5, u5, rfl, ht5, hc⟩
    · simp only [end_name hE, semi_err]
    simp only [name_wd ht5 hl.1]
    rcases hc.app with hc | ⟨m1, hm1, hc⟩
    · simp only [expr_cut hx hE hc, semi_err]
    · rw [hc.one] at hm1
      simp only [expr_reads hx hm1 (end_stop hE), semi_end hE]
  | @cas m rg lc e f bx bf hm hrg hl hx hf =>
    rcases hc.cons with rfl | ⟨t, u, rfl, ht, hc⟩
    · exact .inl (end_stmt hE _)
    obtain ⟨k, rfl⟩ : ∃ k, n = k + 1 := ⟨n - 1, by simp at hn; omega⟩
    left
    unfold stmtN
    rw [isS_wd ht, isS_wd ht, isS_wd ht, hrg.kw (by decide), hrg.kw (by decide), hrg.kw (by decide)]
    simp only [Bool.false_eq_true, if_false, name_wd ht hrg.1]
    rcases hc.cons with rfl | ⟨t2, u2, rfl, ht2, hc⟩
    · simp only [end_need hE, semi_err]
    simp only [need_sg ht2]
    unfold rightF
    rcases hc.cons with rfl | ⟨t3, u3, rfl, ht3, hc⟩
    · rw [end_is hE, end_is hE, end_is hE]
      simp only [Bool.false_eq_true, if_false]
      rw [show pExpr [E] = .error E.at' from expr_bad (end_atom hE _)]
      rfl
    rw [isS_wd ht3, isS_wd ht3, isS_wd ht3]
    simp only [show (([99, 97, 115] : List UInt8) == [108, 111, 97, 100]) = false from by decide, show (([99, 97, 115] : List UInt8) == [97, 100, 100]) = false from by decide, Bool.false_eq_true, if_false, beq_self_eq_true, if_true, List.tail_cons]
    rcases hc.cons with rfl | ⟨t4, u4, rfl, ht4, hc⟩
    · simp only [end_mode hE, semi_err]
    simp only [mode_reads hm ht4]
    rcases hc.cons with rfl | ⟨t5, u5, rfl, ht5, hc⟩
    · simp only [end_name hE, semi_err]
    simp only [name_wd ht5 hl.1]
    rcases hc.app with hc | ⟨m1, hm1, hc⟩
    · simp only [expr_cut hx hE hc, semi_err]
    rcases hc.cons with rfl | ⟨t6, u6, rfl, ht6, hc⟩
    · simp only [expr_reads hx hm1 (end_stop hE), end_need hE, semi_err]
    simp only [expr_reads hx hm1 (stop_comma ht6), need_sg ht6]
    rcases hc.app with hc | ⟨m2, hm3, hc⟩
    · simp only [expr_cut hf hE hc, semi_err]
    · rw [hc.one] at hm3
      simp only [expr_reads hf hm3 (end_stop hE), semi_end hE]
  | @fence m hm =>
    rcases hc.cons with rfl | ⟨t, u, rfl, ht, hc⟩
    · exact .inl (end_stmt hE _)
    obtain ⟨k, rfl⟩ : ∃ k, n = k + 1 := ⟨n - 1, by simp at hn; omega⟩
    left
    unfold stmtN
    rw [isS_wd ht, isS_wd ht]
    simp only [show (([102, 101, 110, 99, 101] : List UInt8) == [115, 116, 111, 114, 101]) = false from by decide, Bool.false_eq_true, if_false, beq_self_eq_true, if_true, List.tail_cons]
    rcases hc.cons with rfl | ⟨t2, u2, rfl, ht2, hc⟩
    · simp only [end_mode hE, semi_err]
    simp only [mode_reads hm ht2]
    rw [hc.one]
    exact semi_end hE _ _
  | @ifs e bx bt th qt hx ht' =>
    rcases hc.cons with rfl | ⟨t, u, rfl, ht, hc⟩
    · exact .inl (end_stmt hE _)
    simp only [List.length_cons] at hn
    obtain ⟨k, rfl⟩ : ∃ k, n = k + 1 := ⟨n - 1, by omega⟩
    left
    unfold stmtN
    rw [isS_wd ht, isS_wd ht, isS_wd ht]
    simp only [show (([105, 102] : List UInt8) == [115, 116, 111, 114, 101]) = false from by decide, show (([105, 102] : List UInt8) == [102, 101, 110, 99, 101]) = false from by decide, Bool.false_eq_true, if_false, beq_self_eq_true, if_true, List.tail_cons]
    rcases hc.app with hc | ⟨m1, hm1, hc⟩
    · simp only [expr_cut hx hE hc]
    have hl1 := hm1.len
    rcases hc.cons with rfl | ⟨t2, u2, rfl, ht2, hc⟩
    · simp only [expr_reads hx hm1 (end_stop hE), blockF, end_need hE]
    simp only [List.length_cons] at hl1
    simp only [expr_reads hx hm1 (stop_open ht2), blockF, need_sg ht2, stmts_cut ht' hE k u2.length u2 (by omega) (Nat.le_refl _) hc]
  | @ife e bx bt be th el qt qe hx ht' he' =>
    rcases hc.cons with rfl | ⟨t, u, rfl, ht, hc⟩
    · exact .inl (end_stmt hE _)
    simp only [List.length_cons] at hn
    obtain ⟨k, rfl⟩ : ∃ k, n = k + 1 := ⟨n - 1, by omega⟩
    unfold stmtN
    rw [isS_wd ht, isS_wd ht, isS_wd ht]
    simp only [show (([105, 102] : List UInt8) == [115, 116, 111, 114, 101]) = false from by decide, show (([105, 102] : List UInt8) == [102, 101, 110, 99, 101]) = false from by decide, Bool.false_eq_true, if_false, beq_self_eq_true, if_true, List.tail_cons]
    rcases hc.app with hc | ⟨m1, hm1, hc⟩
    · left
      simp only [expr_cut hx hE hc]
    have hl1 := hm1.len
    rcases hc.cons with rfl | ⟨t2, u2, rfl, ht2, hc⟩
    · left
      simp only [expr_reads hx hm1 (end_stop hE), blockF, end_need hE]
    simp only [List.length_cons] at hl1
    simp only [expr_reads hx hm1 (stop_open ht2), blockF, need_sg ht2]
    have e2 : bt ++ (sg [125] :: wd [101, 108, 115, 101] :: sg [123] :: (be ++ [sg [125]])) = (bt ++ [sg [125]]) ++ (wd [101, 108, 115, 101] :: sg [123] :: (be ++ [sg [125]])) := by simp
    rw [e2] at hc
    rcases hc.app with hc | ⟨m2, hm3, hc⟩
    · left
      simp only [stmts_cut ht' hE k u2.length u2 (by omega) (Nat.le_refl _) hc]
    obtain ⟨m3, hm4, hm5⟩ := hm3.split
    obtain ⟨t3, u3, rfl, ht3, hu3⟩ := hm5.cons
    obtain rfl := hu3.nil
    have hl4 := hm4.len
    simp only [List.length_cons] at hl4
    have hb := stmts_reads ht' k u2.length u2 t3 u3 (by omega) (Nat.le_refl _) hm4 ht3
    simp only [hb]
    rcases hc.cons with rfl | ⟨t4, u4, rfl, ht4, hc⟩
    · right
      simp only [end_is hE, Bool.false_eq_true, if_false]
      exact ⟨_, rfl⟩
    left
    simp only [isS_wd ht4, beq_self_eq_true, if_true, List.tail_cons]
    rcases hc.cons with rfl | ⟨t5, u5, rfl, ht5, hc⟩
    · simp only [end_need hE]
    simp only [List.length_cons] at hl4
    simp only [need_sg ht5, stmts_cut he' hE k u5.length u5 (by omega) (Nat.le_refl _) hc]
theorem stmts_cut {l : List ST} {b : List Bo} {q : List Nat} (h : SSs l b q) {E : Tok} (hE : E.kind = 4) (n k : Nat) (ts : List Tok) (hn : ts.length ≤ n) (hk : ts.length ≤ k) (hc : Cut (b ++ [sg [125]]) ts E) : stmtsL (stmtN n) k ts = .error E.at' := by
  have hp := hc.len
  obtain ⟨j, rfl⟩ : ∃ j, k = j + 1 := ⟨k - 1, by omega⟩
  cases h with
  | nil =>
    rw [hc.one]
    unfold stmtsL
    rw [end_is hE, end_stmt hE]
    rfl
  | @cons s l b bl q ql hs hl =>
    rw [List.append_assoc] at hc
    rcases hc.app with hc | ⟨m, h1, hc⟩
    · unfold stmtsL
      rw [(hs.head.cut hE hc).2]
      rcases stmt_cut hs hE n ts hn hc with h | ⟨x, h⟩
      · rw [h]
        rfl
      · rw [h]
        simp only [Bool.false_eq_true, if_false]
        cases j with
        | zero => rfl
        | succ j =>
          unfold stmtsL
          rw [end_is hE, end_stmt hE]
          rfl
    · have hlen := h1.len
      have hnb := hs.head.not h1
      have hbp : 0 < b.length := by
        obtain ⟨x, b', rfl, _⟩ := hs.head
        simp
      have a1 := stmt_reads hs n ts m (by omega) h1 (hl.cutFirst hE hc)
      have a2 := stmts_cut hl hE n j m (by omega) (by omega) hc
      unfold stmtsL
      rw [hnb.2]
      simp only [Bool.false_eq_true, if_false, a1, a2]
end
/-- A front of a block is refused at its end. -/
theorem block_cut {l : List ST} {b : List Bo} {q : List Nat} (h : SSs l b q) {E : Tok} (hE : E.kind = 4) {ts : List Tok} (hc : Cut (sg [123] :: (b ++ [sg [125]])) ts E) : pBlock ts = .error E.at' := by
  unfold pBlock blockF
  rcases hc.cons with rfl | ⟨t, u, rfl, ht, hc⟩
  · rw [end_need hE]
  rw [need_sg ht]
  simp only
  exact stmts_cut h hE _ u.length u (by simp) (Nat.le_refl _) hc
/-! ### programs -/
theorem init_end {E : Tok} (hE : E.kind = 4) : ∀ k, initL k [E] = .ok (([], []), [E])
  | 0 => rfl
  | k + 1 => by
    unfold initL
    rw [end_is hE]
    rfl
theorem thread_end {E : Tok} (hE : E.kind = 4) : ∀ k, threadL k [E] = .ok (([], []), [E])
  | 0 => rfl
  | k + 1 => by
    unfold threadL
    rw [end_is hE]
    rfl
theorem init_cut {cs : List (List UInt8 × Int)} {b : List Bo} {q : List Nat} (h : SI cs b q) {E : Tok} (hE : E.kind = 4) : ∀ (k : Nat) (ts : List Tok), ts.length ≤ k → Cut b ts E → initL k ts = .error E.at' ∨ ∃ x, initL k ts = .ok (x, [E]) := by
  induction h with
  | nil =>
    intro k ts hk hc
    exact hc.nil.elim
  | @cons l n cs b q hl h ih =>
    intro k ts hk hc
    rcases hc.cons with rfl | ⟨t, u, rfl, ht, hc⟩
    · exact .inr ⟨_, init_end hE k⟩
    simp only [List.length_cons] at hk
    obtain ⟨j, rfl⟩ : ∃ j, k = j + 1 := ⟨k - 1, by omega⟩
    unfold initL
    rw [isS_wd ht]
    simp only [beq_self_eq_true, if_true, List.tail_cons]
    rcases hc.cons with rfl | ⟨t2, u2, rfl, ht2, hc⟩
    · left
      simp only [end_name hE]
    simp only [name_wd ht2 hl.1]
    rcases hc.cons with rfl | ⟨t3, u3, rfl, ht3, hc⟩
    · left
      simp only [end_num hE]
    simp only [num_nu ht3]
    simp only [List.length_cons] at hk
    rcases ih j u3 (by omega) hc with h | ⟨x, h⟩
    · left
      simp only [h]
    · right
      simp only [h]
      exact ⟨_, rfl⟩
theorem thread_cut {ls : List (List ST)} {b : List Bo} {q : List Nat} (h : STh ls b q) {E : Tok} (hE : E.kind = 4) : ∀ (k : Nat) (ts : List Tok), ts.length ≤ k → Cut b ts E → threadL k ts = .error E.at' ∨ ∃ x, threadL k ts = .ok (x, [E]) := by
  induction h with
  | nil =>
    intro k ts hk hc
    exact hc.nil.elim
  | @cons l ls bl b ql q hl h ih =>
    intro k ts hk hc
    rcases hc.cons with rfl | ⟨t, u, rfl, ht, hc⟩
    · exact .inr ⟨_, thread_end hE k⟩
    simp only [List.length_cons] at hk
    obtain ⟨j, rfl⟩ : ∃ j, k = j + 1 := ⟨k - 1, by omega⟩
    unfold threadL
    rw [isS_wd ht]
    simp only [beq_self_eq_true, if_true, List.tail_cons]
    rcases hc.app with hc | ⟨m, hm1, hc⟩
    · left
      simp only [block_cut hl hE hc]
    have hlen := hm1.len
    simp only [List.length_cons, List.length_append] at hlen
    simp only [block_reads hl hm1]
    rcases ih j m (by omega) hc with h | ⟨x, h⟩
    · left
      simp only [h]
    · right
      simp only [h]
      exact ⟨_, rfl⟩
theorem STh.cutFront {ls : List (List ST)} {b : List Bo} {q : List Nat} (h : STh ls b q) {E : Tok} (hE : E.kind = 4) {k : Nat} (hk : k = 1 ∨ k = 2) {c : List Bo} {ts : List Tok} (hh : Cut (b ++ (wd (askW k) :: c)) ts E) : isS [105, 110, 105, 116] ts = false := by
  cases h with
  | nil =>
    rcases hh.cons with rfl | ⟨t, u, rfl, ht, _⟩
    · exact end_is hE _
    rw [isS_wd ht]
    rcases hk with rfl | rfl <;> decide
  | cons hl h =>
    rcases hh.cons with rfl | ⟨t, u, rfl, ht, _⟩
    · exact end_is hE _
    rw [isS_wd ht]
    decide
theorem tail_end {E : Tok} (hE : E.kind = 4) : askF [E] = .error E.at' := by
  unfold askF
  rw [end_is hE, end_need hE]
  rfl
/-- A front of a program is refused at its end. -/
theorem prog_cut {p : PG} {b : List Bo} {q : List Nat} (h : SP p b q) {E : Tok} (hE : E.kind = 4) {ts : List Tok} (hc : Cut b ts E) : pProg ts = .error E.at' := by
  cases h with
  | @mk nm v k cs ls c bi bt bc qi qt hn hi ht hk hcc =>
    unfold pProg
    rcases hc.cons with rfl | ⟨t1, u1, rfl, h1, hc⟩
    · simp only [end_need hE]
    simp only [need_wd h1]
    rcases hc.cons with rfl | ⟨t2, u2, rfl, h2, hc⟩
    · simp only [end_name hE]
    simp only [name_wd h2 hn.1]
    rcases hc.cons with rfl | ⟨t3, u3, rfl, h3, hc⟩
    · simp only [end_need hE]
    simp only [need_wd h3]
    rcases hc.cons with rfl | ⟨t4, u4, rfl, h4, hc⟩
    · simp only [end_num hE]
    simp only [num_nu h4]
    rcases hc.app with hc | ⟨m, hm1, hc⟩
    · rcases init_cut hi hE u4.length u4 (Nat.le_refl _) hc with h | ⟨x, h⟩
      · simp only [h]
      · simp only [h, thread_end hE, tail_end hE]
    simp only [init_reads hi u4.length u4 m (Nat.le_refl _) hm1 (ht.cutFront hE hk hc)]
    rcases hc.app with hc | ⟨m2, hm3, hc⟩
    · rcases thread_cut ht hE m.length m (Nat.le_refl _) hc with h | ⟨x, h⟩
      · simp only [h]
      · simp only [h, tail_end hE]
    rcases hc.cons with rfl | ⟨t5, u5, rfl, h5, hc⟩
    · simp only [thread_reads ht m.length m [E] (Nat.le_refl _) hm3 (end_is hE _), tail_end hE]
    have e2 : isS [116, 104, 114, 101, 97, 100] (t5 :: u5) = false := by
      rw [isS_wd h5]
      rcases hk with rfl | rfl <;> decide
    have a3 : askF (t5 :: u5) = .ok (k, u5) := by
      unfold askF
      rw [isS_wd h5]
      rcases hk with rfl | rfl
      · have h5' : body t5 = wd [101, 120, 105, 115, 116, 115] := h5
        rw [need_wd h5']
        rfl
      · rfl
    simp only [thread_reads ht m.length m (t5 :: u5) (Nat.le_refl _) hm3 e2, a3, cond_cut hcc hE hc]
end Go.Proofs.Ytihhkppimeagfaa.P
