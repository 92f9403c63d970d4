/-
  PLAIN MATHEMATICS of programs that are shown: which tokens they have, and that these are read as just that program. It proves nothing of Go.
-/
import Derived.Test.YtchokfgffnomoaaDoorPA
namespace Go.Proofs.YtchokfgffnomoaaDoor.P
open L (Tok)
set_option maxRecDepth 100000
set_option linter.unusedVariables false
set_option linter.unusedSimpArgs false
/-- A token but for its place: kind, text, number. -/
abbrev Bo := Nat × List UInt8 × Nat
def body (t : Tok) : Bo := (t.kind, t.text, t.n)
def wd (s : List UInt8) : Bo := (1, s, 0)
def sg (s : List UInt8) : Bo := (3, s, 0)
def nu (n : Nat) : Bo := (2, L.decL n, n)
/-- ts begins with tokens of these bodies; r is what is left. -/
def Has (b : List Bo) (ts r : List Tok) : Prop := ∃ us, ts = us ++ r ∧ us.map body = b
theorem Has.nil {ts r : List Tok} (h : Has [] ts r) : ts = r := by
  obtain ⟨us, rfl, h⟩ := h
  have : us = [] := by simpa using h
  subst this
  rfl
theorem Has.cons {x : Bo} {b : List Bo} {ts r : List Tok} (h : Has (x :: b) ts r) : ∃ t u, ts = t :: u ∧ body t = x ∧ Has b u r := by
  obtain ⟨us, rfl, h⟩ := h
  cases us with
  | nil => simp at h
  | cons t us =>
    simp only [List.map_cons, List.cons.injEq] at h
    exact ⟨t, us ++ r, rfl, h.1, us, rfl, h.2⟩
theorem Has.split {a b : List Bo} {ts r : List Tok} (h : Has (a ++ b) ts r) : ∃ m, Has a ts m ∧ Has b m r := by
  obtain ⟨us, rfl, h⟩ := h
  obtain ⟨xs, ys, rfl, h1, h2⟩ := List.map_eq_append_iff.1 h
  exact ⟨ys ++ r, ⟨xs, by simp, h1⟩, ys, rfl, h2⟩
theorem Has.len {b : List Bo} {ts r : List Tok} (h : Has b ts r) : ts.length = b.length + r.length := by
  obtain ⟨us, rfl, rfl⟩ := h
  simp
theorem body_kind {t : Tok} {x : Bo} (h : body t = x) : t.kind = x.1 ∧ t.text = x.2.1 ∧ t.n = x.2.2 := by
  subst h
  exact ⟨rfl, rfl, rfl⟩
/-! ### tokens one by one -/
theorem isS_wd {s : List UInt8} {t : Tok} {r : List Tok} (h : body t = wd s) (x : List UInt8) : isS x (t :: r) = (s == x) := by
  obtain ⟨h1, h2, _⟩ := body_kind h
  simp [isS, h1, h2, wd]
theorem isS_sg {s : List UInt8} {t : Tok} {r : List Tok} (h : body t = sg s) (x : List UInt8) : isS x (t :: r) = (s == x) := by
  obtain ⟨h1, h2, _⟩ := body_kind h
  simp [isS, h1, h2, sg]
theorem isS_nu {n : Nat} {t : Tok} {r : List Tok} (h : body t = nu n) (x : List UInt8) : isS x (t :: r) = false := by
  obtain ⟨h1, h2, _⟩ := body_kind h
  simp [isS, h1, nu]
theorem need_wd {s : List UInt8} {t : Tok} {r : List Tok} (h : body t = wd s) : need s (t :: r) = .ok r := by
  unfold need
  rw [isS_wd h]
  simp
theorem need_sg {s : List UInt8} {t : Tok} {r : List Tok} (h : body t = sg s) : need s (t :: r) = .ok r := by
  unfold need
  rw [isS_sg h]
  simp
theorem name_wd {s : List UInt8} {t : Tok} {r : List Tok} (h : body t = wd s) (hk : Lx.kwB s = false) : pName (t :: r) = .ok (s, r) := by
  obtain ⟨h1, h2, _⟩ := body_kind h
  have h1' : t.kind = 1 := h1
  have h2' : t.text = s := h2
  simp [pName, isN, h1', h2', hk]
theorem name_sg {s : List UInt8} {t : Tok} {r : List Tok} (h : body t = sg s) : pName (t :: r) = .error t.at' := by
  obtain ⟨h1, h2, _⟩ := body_kind h
  have h1' : t.kind = 3 := h1
  simp [pName, isN, h1']
theorem num_nu {n : Nat} {t : Tok} {r : List Tok} (h : body t = nu n) : pNum (t :: r) = .ok (n, r) := by
  obtain ⟨h1, h2, h3⟩ := body_kind h
  have h1' : t.kind = 2 := h1
  have h3' : t.n = n := h3
  simp [pNum, isD, h1', h3']
theorem num_wd {s : List UInt8} {t : Tok} {r : List Tok} (h : body t = wd s) : pNum (t :: r) = .error t.at' := by
  obtain ⟨h1, h2, _⟩ := body_kind h
  have h1' : t.kind = 1 := h1
  simp [pNum, isD, h1']
theorem num_sg {s : List UInt8} {t : Tok} {r : List Tok} (h : body t = sg s) : pNum (t :: r) = .error t.at' := by
  obtain ⟨h1, h2, _⟩ := body_kind h
  have h1' : t.kind = 3 := h1
  simp [pNum, isD, h1']
/-- A name: a word that is no keyword. -/
def Nm (s : List UInt8) : Prop := Lx.kwB s = false ∧ ∃ b r, s = b :: r ∧ L.letB b = true
theorem Nm.kw {s x : List UInt8} (h : Nm s) (hx : Lx.kwB x = true) : (s == x) = false := by
  cases e : s == x with
  | false => rfl
  | true =>
    have := eq_of_beq e
    subst this
    rw [h.1] at hx
    cases hx
theorem Nm.sign {s : List UInt8} {c : UInt8} {x : List UInt8} (h : Nm s) (hc : L.letB c = false) : (s == c :: x) = false := by
  cases e : s == c :: x with
  | false => rfl
  | true =>
    have := eq_of_beq e
    subst this
    obtain ⟨_, b, r, hbr, hl⟩ := h
    injection hbr with h1 _
    subst h1
    rw [hl] at hc
    cases hc
/-! ### expressions -/
/-- A sign between, by its number. -/
inductive Sign2 : Int → List UInt8 → Prop where
  | plus : Sign2 3 [43]
  | minus : Sign2 4 [45]
  | eq : Sign2 5 [61, 61]
  | less : Sign2 6 [60]
/-- An expression and the bodies of its tokens. -/
inductive SX : EX → List Bo → Prop where
  | num (n : Nat) : SX (.mk 1 n [] []) [nu n]
  | reg {s : List UInt8} (hk : Nm s) : SX (.mk 2 0 s []) [wd s]
  | bin {op : Int} {s : List UInt8} {a b : EX} {ba bb : List Bo} (h : Sign2 op s) (ha : SX a ba) (hb : SX b bb) : SX (.mk op 0 [] [a, b]) (sg [40] :: (ba ++ (sg s :: (bb ++ [sg [41]]))))
/-- Nothing goes on with an expression here. -/
def StopX (r : List Tok) : Prop := isS [43] r = false ∧ isS [45] r = false ∧ isS [61, 61] r = false ∧ isS [60] r = false
theorem stopX_sg {s : List UInt8} {t : Tok} {r : List Tok} (h : body t = sg s) (h1 : s ≠ [43]) (h2 : s ≠ [45]) (h3 : s ≠ [61, 61]) (h4 : s ≠ [60]) : StopX (t :: r) := by
  refine ⟨?_, ?_, ?_, ?_⟩ <;> rw [isS_sg h] <;> simpa
theorem sumL_halt {rec : List Tok → Res EX} (k : Nat) (e : EX) {ts : List Tok} (h1 : isS [43] ts = false) (h2 : isS [45] ts = false) : sumL rec k e ts = .ok (e, ts) := by
  cases k with
  | zero => rfl
  | succ k =>
    unfold sumL
    simp [h1, h2]
theorem sumL_go {rec : List Tok → Res EX} {k : Nat} {e a : EX} {ts r : List Tok} (h : (isS [43] ts || isS [45] ts) = true) (ha : atomF rec ts.tail = .ok (a, r)) : sumL rec (k + 1) e ts = sumL rec k (.mk (if isS [45] ts then 4 else 3) 0 [] [e, a]) r := by
  rw [sumL, if_pos h, ha]
theorem expr_of_atom {rec : List Tok → Res EX} {ts r : List Tok} {e : EX} (h : atomF rec ts = .ok (e, r)) (hs : StopX r) : exprF rec ts = .ok (e, r) := by
  obtain ⟨h1, h2, h3, h4⟩ := hs
  unfold exprF sumF
  rw [h]
  simp only [sumL_halt _ _ h1 h2, h3, h4, Bool.or_self, Bool.false_eq_true, if_false]
theorem atom_reads {e : EX} {b : List Bo} (h : SX e b) : ∀ (n : Nat) (ts r : List Tok), b.length ≤ n + 1 → Has b ts r → atomF (exprN n) ts = .ok (e, r) := by
  induction h with
  | num k =>
    intro n ts r hn hh
    obtain ⟨t, u, rfl, ht, hu⟩ := hh.cons
    obtain rfl := hu.nil
    unfold atomF
    rw [num_nu ht]
  | reg hk =>
    intro n ts r hn hh
    obtain ⟨t, u, rfl, ht, hu⟩ := hh.cons
    obtain rfl := hu.nil
    unfold atomF
    rw [num_wd ht, name_wd ht hk.1]
  | @bin op s a b ba bb hop ha hb iha ihb =>
    intro n ts r hn hh
    obtain ⟨t, u, rfl, ht, hu⟩ := hh.cons
    obtain ⟨m, hm1, hm2⟩ := hu.split
    obtain ⟨t2, u2, rfl, ht2, hu2⟩ := hm2.cons
    obtain ⟨m2, hm3, hm4⟩ := hu2.split
    obtain ⟨t3, u3, rfl, ht3, hu3⟩ := hm4.cons
    obtain rfl := hu3.nil
    simp only [List.length_cons, List.length_append] at hn
    obtain ⟨k, rfl⟩ : ∃ k, n = k + 1 := ⟨n - 1, by omega⟩
    have a1 := iha k _ _ (by omega) hm1
    have b1 := ihb k _ _ (by omega) hm3
    have hst := stopX_sg (r := u3) ht3 (by decide) (by decide) (by decide) (by decide)
    obtain ⟨z1, z2, z3, z4⟩ := hst
    have hx : exprN (k + 1) u = .ok (.mk op 0 [] [a, b], t3 :: u3) := by
      show exprF (exprN k) u = _
      unfold exprF sumF
      rw [a1]
      simp only
      cases hop with
      | plus =>
        have p1 := isS_sg (r := u2) ht2 [43]
        have p2 := isS_sg (r := u2) ht2 [45]
        rw [List.length_cons, sumL_go (by rw [p1, p2]; decide) b1, p2, sumL_halt _ _ z1 z2]
        simp only [z3, z4]
        rfl
      | minus =>
        have p1 := isS_sg (r := u2) ht2 [43]
        have p2 := isS_sg (r := u2) ht2 [45]
        rw [List.length_cons, sumL_go (by rw [p1, p2]; decide) b1, p2, sumL_halt _ _ z1 z2]
        simp only [z3, z4]
        rfl
      | eq =>
        have p1 := isS_sg (r := u2) ht2 [43]
        have p2 := isS_sg (r := u2) ht2 [45]
        have p3 := isS_sg (r := u2) ht2 [61, 61]
        have p4 := isS_sg (r := u2) ht2 [60]
        rw [sumL_halt _ _ (by rw [p1]; decide) (by rw [p2]; decide)]
        simp only [p3, p4, List.tail_cons, b1, sumL_halt _ _ z1 z2]
        simp
      | less =>
        have p1 := isS_sg (r := u2) ht2 [43]
        have p2 := isS_sg (r := u2) ht2 [45]
        have p3 := isS_sg (r := u2) ht2 [61, 61]
        have p4 := isS_sg (r := u2) ht2 [60]
        rw [sumL_halt _ _ (by rw [p1]; decide) (by rw [p2]; decide)]
        simp only [p3, p4, List.tail_cons, b1, sumL_halt _ _ z1 z2]
        simp
    unfold atomF
    rw [num_sg ht, name_sg ht, need_sg ht]
    simp only [hx, need_sg ht3]
/-- A shown expression is read as just that one. -/
theorem expr_reads {e : EX} {b : List Bo} (h : SX e b) {ts r : List Tok} (hh : Has b ts r) (hs : StopX r) : pExpr ts = .ok (e, r) := by
  have hb : 0 < b.length := by cases h <;> simp
  have hl := hh.len
  obtain ⟨k, hk⟩ : ∃ k, ts.length = k + 1 := ⟨ts.length - 1, by omega⟩
  unfold pExpr
  rw [hk]
  show exprF (exprN k) ts = _
  exact expr_of_atom (atom_reads h k ts r (by omega) hh) hs
/-! ### conditions -/
inductive SC : CO → List Bo → Prop where
  | mem {s : List UInt8} (n : Nat) (hk : Nm s) : SC (.mk 1 0 s n []) [wd s, sg [61, 61], nu n]
  | reg {s : List UInt8} (k n : Nat) (hk : Nm s) : SC (.mk 2 k s n []) [nu k, sg [58], wd s, sg [61, 61], nu n]
  | not {a : CO} {ba : List Bo} (ha : SC a ba) : SC (.mk 3 0 [] 0 [a]) (wd [110, 111, 116] :: ba)
  | and {a b : CO} {ba bb : List Bo} (ha : SC a ba) (hb : SC b bb) : SC (.mk 4 0 [] 0 [a, b]) (sg [40] :: (ba ++ (wd [97, 110, 100] :: (bb ++ [sg [41]]))))
  | or {a b : CO} {ba bb : List Bo} (ha : SC a ba) (hb : SC b bb) : SC (.mk 5 0 [] 0 [a, b]) (sg [40] :: (ba ++ (wd [111, 114] :: (bb ++ [sg [41]]))))
theorem manyL_halt {one : List Tok → Res CO} {word : List UInt8} {op : Int} (k : Nat) (e : CO) {ts : List Tok} (h : isS word ts = false) : manyL one word op k e ts = .ok (e, ts) := by
  cases k with
  | zero => rfl
  | succ k =>
    unfold manyL
    simp [h]
theorem manyL_go {one : List Tok → Res CO} {word : List UInt8} {op : Int} {k : Nat} {e a : CO} {ts r : List Tok} (h : isS word ts = true) (ha : one ts.tail = .ok (a, r)) : manyL one word op (k + 1) e ts = manyL one word op k (.mk op 0 [] 0 [e, a]) r := by
  rw [manyL, if_pos h, ha]
theorem many_one {one : List Tok → Res CO} {word : List UInt8} {op : Int} {a : CO} {ts r : List Tok} (h : one ts = .ok (a, r)) (hr : isS word r = false) : manyF one word op ts = .ok (a, r) := by
  unfold manyF
  rw [h]
  exact manyL_halt _ _ hr
theorem many_two {one : List Tok → Res CO} {word : List UInt8} {op : Int} {a b : CO} {ts r u : List Tok} {t : Tok} (h : one ts = .ok (a, t :: u)) (hw : isS word (t :: u) = true) (h2 : one u = .ok (b, r)) (hr : isS word r = false) : manyF one word op ts = .ok (.mk op 0 [] 0 [a, b], r) := by
  unfold manyF
  rw [h]
  simp only [List.length_cons]
  rw [manyL_go hw h2]
  exact manyL_halt _ _ hr
theorem one_reads {c : CO} {b : List Bo} (h : SC c b) : ∀ (n : Nat) (ts r : List Tok), b.length ≤ n → Has b ts r → oneN n ts = .ok (c, r) := by
  induction h with
  | mem k hk =>
    intro n ts r hn hh
    obtain ⟨t, u, rfl, ht, hu⟩ := hh.cons
    obtain ⟨t2, u2, rfl, ht2, hu⟩ := hu.cons
    obtain ⟨t3, u3, rfl, ht3, hu⟩ := hu.cons
    obtain rfl := hu.nil
    obtain ⟨m, rfl⟩ : ∃ m, n = m + 1 := ⟨n - 1, by simp at hn; omega⟩
    unfold oneN
    rw [isS_wd ht, isS_wd ht, hk.kw (by decide), hk.sign (by decide)]
    simp only [Bool.false_eq_true, if_false]
    unfold litF
    simp only [num_wd ht, name_wd ht hk.1, need_sg ht2, num_nu ht3]
  | reg j k hk =>
    intro n ts r hn hh
    obtain ⟨t, u, rfl, ht, hu⟩ := hh.cons
    obtain ⟨t2, u2, rfl, ht2, hu⟩ := hu.cons
    obtain ⟨t3, u3, rfl, ht3, hu⟩ := hu.cons
    obtain ⟨t4, u4, rfl, ht4, hu⟩ := hu.cons
    obtain ⟨t5, u5, rfl, ht5, hu⟩ := hu.cons
    obtain rfl := hu.nil
    obtain ⟨m, rfl⟩ : ∃ m, n = m + 1 := ⟨n - 1, by simp at hn; omega⟩
    unfold oneN
    rw [isS_nu ht, isS_nu ht]
    simp only [Bool.false_eq_true, if_false]
    unfold litF
    simp only [num_nu ht, need_sg ht2, name_wd ht3 hk.1, need_sg ht4, num_nu ht5]
  | not ha iha =>
    intro n ts r hn hh
    obtain ⟨t, u, rfl, ht, hu⟩ := hh.cons
    obtain ⟨m, rfl⟩ : ∃ m, n = m + 1 := ⟨n - 1, by simp at hn; omega⟩
    have a1 := iha m _ _ (by simp at hn; omega) hu
    unfold oneN
    rw [isS_wd ht]
    simp [a1]
  | @and a b ba bb ha hb iha ihb =>
    intro n ts r hn hh
    obtain ⟨t, u, rfl, ht, hu⟩ := hh.cons
    obtain ⟨m1, hm1, hm2⟩ := hu.split
    obtain ⟨t2, u2, rfl, ht2, hu2⟩ := hm2.cons
    obtain ⟨m2, hm3, hm4⟩ := hu2.split
    obtain ⟨t3, u3, rfl, ht3, hu3⟩ := hm4.cons
    obtain rfl := hu3.nil
    simp only [List.length_cons, List.length_append] at hn
    obtain ⟨k, rfl⟩ : ∃ k, n = k + 1 := ⟨n - 1, by omega⟩
    have a1 := iha k _ _ (by omega) hm1
    have b1 := ihb k _ _ (by omega) hm3
    have hc : condF (oneN k) u = .ok (.mk 4 0 [] 0 [a, b], t3 :: u3) :=
      many_one (many_two a1 (by rw [isS_wd ht2]; decide) b1 (by rw [isS_sg ht3]; decide)) (by rw [isS_sg ht3]; decide)
    unfold oneN
    rw [isS_sg ht, isS_sg ht]
    simp [hc, need_sg ht3]
  | @or a b ba bb ha hb iha ihb =>
    intro n ts r hn hh
    obtain ⟨t, u, rfl, ht, hu⟩ := hh.cons
    obtain ⟨m1, hm1, hm2⟩ := hu.split
    obtain ⟨t2, u2, rfl, ht2, hu2⟩ := hm2.cons
    obtain ⟨m2, hm3, hm4⟩ := hu2.split
    obtain ⟨t3, u3, rfl, ht3, hu3⟩ := hm4.cons
    obtain rfl := hu3.nil
    simp only [List.length_cons, List.length_append] at hn
    obtain ⟨k, rfl⟩ : ∃ k, n = k + 1 := ⟨n - 1, by omega⟩
    have a1 := iha k _ _ (by omega) hm1
    have b1 := ihb k _ _ (by omega) hm3
    have hc : condF (oneN k) u = .ok (.mk 5 0 [] 0 [a, b], t3 :: u3) :=
      many_two (many_one a1 (by rw [isS_wd ht2]; decide)) (by rw [isS_wd ht2]; decide) (many_one b1 (by rw [isS_sg ht3]; decide)) (by rw [isS_sg ht3]; decide)
    unfold oneN
    rw [isS_sg ht, isS_sg ht]
    simp [hc, need_sg ht3]
/-- A shown condition is read as just that one. -/
theorem cond_reads {c : CO} {b : List Bo} (h : SC c b) {ts r : List Tok} (hh : Has b ts r) (h1 : isS [97, 110, 100] r = false) (h2 : isS [111, 114] r = false) : pCond ts = .ok (c, r) := by
  have hl := hh.len
  exact many_one (many_one (one_reads h ts.length ts r (by omega) hh) h1) h2
end Go.Proofs.YtchokfgffnomoaaDoor.P
/-
  PLAIN MATHEMATICS of statements that are shown: they are read as just these, with their places. It proves nothing of Go.
-/
namespace Go.Proofs.YtchokfgffnomoaaDoor.P
open L (Tok)
set_option maxRecDepth 100000
set_option linter.unusedVariables false
set_option linter.unusedSimpArgs false
/-- The places of the tokens with these numbers. -/
def plc (q : List Nat) (ts : List Tok) : List Nat := q.map fun i => here (ts.drop i)
def sh (k : Nat) (q : List Nat) : List Nat := q.map (k + ·)
theorem plc_sh {ts u : List Tok} {k : Nat} (h : ts.drop k = u) (q : List Nat) : plc q u = plc (sh k q) ts := by
  subst h
  simp [plc, sh, List.drop_drop, Function.comp_def]
theorem plc_app (a b : List Nat) (ts : List Tok) : plc (a ++ b) ts = plc a ts ++ plc b ts := by simp [plc]
theorem plc_zero (ts : List Tok) : plc [0] ts = [here ts] := by simp [plc]
theorem Has.drop {b : List Bo} {ts r : List Tok} (h : Has b ts r) : ts.drop b.length = r := by
  obtain ⟨us, rfl, rfl⟩ := h
  simp
theorem mode_kw : ∀ m, m < 5 → Lx.kwB (modeT m) = true := by decide
theorem mode_inj : ∀ m, m < 5 → ∀ k, k < 5 → (modeT m == modeT k) = decide (m = k) := by decide
theorem mode_reads {m : Nat} (hm : m < 5) {t : Tok} {r : List Tok} (h : body t = wd (modeT m)) : pMode (t :: r) = .ok (m, r) := by
  have x0 := isS_wd (r := r) h
  have y : ∀ k, k < 5 → isS (modeT k) (t :: r) = decide (m = k) := fun k hk => by rw [x0, mode_inj m hm k hk]
  unfold pMode
  simp only [pModeL, y 0 (by omega), y 1 (by omega), y 2 (by omega), y 3 (by omega), y 4 (by omega), List.tail_cons]
  rcases m with _ | _ | _ | _ | _ | m
  · simp
  · simp
  · simp
  · simp
  · simp
  · omega
mutual
/-- A statement, the bodies of its tokens, and which of them begin statements. -/
inductive SS : ST → List Bo → List Nat → Prop where
  | set {rg : List UInt8} {e : EX} {bx : List Bo} (hr : Nm rg) (hx : SX e bx) : SS (.mk 1 0 rg [] [e] [] []) (wd rg :: sg [61] :: (bx ++ [sg [59]])) [0]
  | load {m : Nat} {rg lc : List UInt8} (hm : m < 5) (hr : Nm rg) (hl : Nm lc) : SS (.mk 2 m rg lc [] [] []) [wd rg, sg [61], wd [108, 111, 97, 100], wd (modeT m), wd lc, sg [59]] [0]
  | store {m : Nat} {lc : List UInt8} {e : EX} {bx : List Bo} (hm : m < 5) (hl : Nm lc) (hx : SX e bx) : SS (.mk 3 m [] lc [e] [] []) (wd [115, 116, 111, 114, 101] :: wd (modeT m) :: wd lc :: (bx ++ [sg [59]])) [0]
  | add {m : Nat} {rg lc : List UInt8} {e : EX} {bx : List Bo} (hm : m < 5) (hr : Nm rg) (hl : Nm lc) (hx : SX e bx) : SS (.mk 4 m rg lc [e] [] []) (wd rg :: sg [61] :: wd [97, 100, 100] :: wd (modeT m) :: wd lc :: (bx ++ [sg [59]])) [0]
  | cas {m : Nat} {rg lc : List UInt8} {e f : EX} {bx bf : List Bo} (hm : m < 5) (hr : Nm rg) (hl : Nm lc) (hx : SX e bx) (hf : SX f bf) : SS (.mk 5 m rg lc [e, f] [] []) (wd rg :: sg [61] :: wd [99, 97, 115] :: wd (modeT m) :: wd lc :: (bx ++ (sg [44] :: (bf ++ [sg [59]])))) [0]
  | fence {m : Nat} (hm : m < 5) : SS (.mk 6 m [] [] [] [] []) [wd [102, 101, 110, 99, 101], wd (modeT m), sg [59]] [0]
  | ifs {e : EX} {bx bt : List Bo} {th : List ST} {qt : List Nat} (hx : SX e bx) (ht : SSs th bt qt) : SS (.mk 7 0 [] [] [e] th []) (wd [105, 102] :: (bx ++ (sg [123] :: (bt ++ [sg [125]])))) (0 :: sh (bx.length + 2) qt)
  | ife {e : EX} {bx bt be : List Bo} {th el : List ST} {qt qe : List Nat} (hx : SX e bx) (ht : SSs th bt qt) (he : SSs el be qe) : SS (.mk 7 0 [] [] [e] th el) (wd [105, 102] :: (bx ++ (sg [123] :: (bt ++ (sg [125] :: wd [101, 108, 115, 101] :: sg [123] :: (be ++ [sg [125]])))))) (0 :: (sh (bx.length + 2) qt ++ sh (bx.length + bt.length + 5) qe))
inductive SSs : List ST → List Bo → List Nat → Prop where
  | nil : SSs [] [] []
  | cons {s : ST} {l : List ST} {b bl : List Bo} {q ql : List Nat} (hs : SS s b q) (hl : SSs l bl ql) : SSs (s :: l) (b ++ bl) (q ++ sh b.length ql)
end
/-- A word that is neither 'else' nor a brace stands first. -/
def HeadOk (b : List Bo) : Prop := ∃ x b', b = wd x :: b' ∧ (x == [101, 108, 115, 101]) = false ∧ (x == [125]) = false
theorem SS.head {s : ST} {b : List Bo} {q : List Nat} (h : SS s b q) : HeadOk b := by
  cases h with
  | set hr hx => exact ⟨_, _, rfl, hr.kw (by decide), hr.sign (by decide)⟩
  | load hm hr hl => exact ⟨_, _, rfl, hr.kw (by decide), hr.sign (by decide)⟩
  | store hm hl hx => exact ⟨_, _, rfl, by decide, by decide⟩
  | add hm hr hl hx => exact ⟨_, _, rfl, hr.kw (by decide), hr.sign (by decide)⟩
  | cas hm hr hl hx hf => exact ⟨_, _, rfl, hr.kw (by decide), hr.sign (by decide)⟩
  | fence hm => exact ⟨_, _, rfl, by decide, by decide⟩
  | ifs hx ht => exact ⟨_, _, rfl, by decide, by decide⟩
  | ife hx ht he => exact ⟨_, _, rfl, by decide, by decide⟩
theorem HeadOk.not {b : List Bo} (h : HeadOk b) {ts r : List Tok} (hh : Has b ts r) : isS [101, 108, 115, 101] ts = false ∧ isS [125] ts = false := by
  obtain ⟨x, b', rfl, h1, h2⟩ := h
  obtain ⟨t, u, rfl, ht, _⟩ := hh.cons
  exact ⟨by rw [isS_wd ht]; exact h1, by rw [isS_wd ht]; exact h2⟩
/-- Behind statements up to a brace nothing is 'else'. -/
theorem SSs.first {l : List ST} {b : List Bo} {q : List Nat} (h : SSs l b q) {ts u : List Tok} {t : Tok} (hh : Has b ts (t :: u)) (ht : body t = sg [125]) : isS [101, 108, 115, 101] ts = false := by
  cases h with
  | nil =>
    obtain rfl := hh.nil
    rw [isS_sg ht]
    decide
  | cons hs hl =>
    obtain ⟨m, h1, _⟩ := hh.split
    exact (hs.head.not h1).1
theorem stop_semi {t : Tok} {r : List Tok} (h : body t = sg [59]) : StopX (t :: r) := stopX_sg h (by decide) (by decide) (by decide) (by decide)
theorem stop_open {t : Tok} {r : List Tok} (h : body t = sg [123]) : StopX (t :: r) := stopX_sg h (by decide) (by decide) (by decide) (by decide)
theorem stop_comma {t : Tok} {r : List Tok} (h : body t = sg [44]) : StopX (t :: r) := stopX_sg h (by decide) (by decide) (by decide) (by decide)
/-- An expression does not begin with a keyword. -/
theorem SX.kwNot {e : EX} {b : List Bo} (h : SX e b) {ts r : List Tok} (hh : Has b ts r) {x : List UInt8} (hx : Lx.kwB x = true) : isS x ts = false := by
  cases h with
  | num n =>
    obtain ⟨t, u, rfl, ht, _⟩ := hh.cons
    exact isS_nu ht _
  | reg hk =>
    obtain ⟨t, u, rfl, ht, _⟩ := hh.cons
    rw [isS_wd ht]
    exact hk.kw hx
  | bin hop ha hb =>
    obtain ⟨t, u, rfl, ht, _⟩ := hh.cons
    rw [isS_sg ht]
    cases e : ([40] : List UInt8) == x with
    | false => rfl
    | true =>
      have := eq_of_beq e
      subst this
      exact absurd hx (by decide)
mutual
theorem stmt_reads {s : ST} {b : List Bo} {q : List Nat} (h : SS s b q) (n : Nat) (ts r : List Tok) (hn : b.length ≤ n) (hh : Has b ts r) (hr : isS [101, 108, 115, 101] r = false) : stmtN n ts = .ok ((s, plc q ts), r) := by
  cases h with
  | @set rg e bx hrg hx =>
    obtain ⟨t, u, rfl, ht, hu⟩ := hh.cons
    obtain ⟨t2, u2, rfl, ht2, hu2⟩ := hu.cons
    obtain ⟨m, hm1, hm2⟩ := hu2.split
    obtain ⟨t3, u3, rfl, ht3, hu3⟩ := hm2.cons
    obtain rfl := hu3.nil
    obtain ⟨k, rfl⟩ : ∃ k, n = k + 1 := ⟨n - 1, by simp at hn; omega⟩
    unfold stmtN
    rw [isS_wd ht, isS_wd ht, isS_wd ht, hrg.kw (by decide), hrg.kw (by decide), hrg.kw (by decide)]
    simp only [Bool.false_eq_true, if_false, name_wd ht hrg.1, need_sg ht2]
    unfold rightF
    rw [hx.kwNot hm1 (by decide), hx.kwNot hm1 (by decide), hx.kwNot hm1 (by decide)]
    simp only [Bool.false_eq_true, if_false, expr_reads hx hm1 (stop_semi ht3), semi, need_sg ht3, plc_zero]
  | @load m rg lc hm hrg hl =>
    obtain ⟨t, u, rfl, ht, hu⟩ := hh.cons
    obtain ⟨t2, u2, rfl, ht2, hu⟩ := hu.cons
    obtain ⟨t3, u3, rfl, ht3, hu⟩ := hu.cons
    obtain ⟨t4, u4, rfl, ht4, hu⟩ := hu.cons
    obtain ⟨t5, u5, rfl, ht5, hu⟩ := hu.cons
    obtain ⟨t6, u6, rfl, ht6, hu⟩ := hu.cons
    obtain rfl := hu.nil
    obtain ⟨k, rfl⟩ : ∃ k, n = k + 1 := ⟨n - 1, by simp at hn; omega⟩
    unfold stmtN
    rw [isS_wd ht, isS_wd ht, isS_wd ht, hrg.kw (by decide), hrg.kw (by decide), hrg.kw (by decide)]
    simp only [Bool.false_eq_true, if_false, name_wd ht hrg.1, need_sg ht2]
    unfold rightF
    rw [isS_wd ht3]
    simp only [beq_self_eq_true, if_true, List.tail_cons, mode_reads hm ht4, name_wd ht5 hl.1, semi, need_sg ht6, plc_zero]
  | @store m lc e bx hm hl hx =>
    obtain ⟨t, u, rfl, ht, hu⟩ := hh.cons
    obtain ⟨t2, u2, rfl, ht2, hu⟩ := hu.cons
    obtain ⟨t3, u3, rfl, ht3, hu⟩ := hu.cons
    obtain ⟨m1, hm1, hm2⟩ := hu.split
    obtain ⟨t4, u4, rfl, ht4, hu4⟩ := hm2.cons
    obtain rfl := hu4.nil
    obtain ⟨k, rfl⟩ : ∃ k, n = k + 1 := ⟨n - 1, by simp at hn; omega⟩
    unfold stmtN
    rw [isS_wd ht]
    simp only [beq_self_eq_true, if_true, List.tail_cons, mode_reads hm ht2, name_wd ht3 hl.1, expr_reads hx hm1 (stop_semi ht4), semi, need_sg ht4, plc_zero]
  | @add m rg lc e bx hm hrg hl hx =>
    obtain ⟨t, u, rfl, ht, hu⟩ := hh.cons
    obtain ⟨t2, u2, rfl, ht2, hu⟩ := hu.cons
    obtain ⟨t3, u3, rfl, ht3, hu⟩ := hu.cons
    obtain ⟨t4, u4, rfl, ht4, hu⟩ := hu.cons
    obtain ⟨t5, u5, rfl, ht5, hu⟩ := hu.cons
    obtain ⟨m1, hm1, hm2⟩ := hu.split
    obtain ⟨t6, u6, rfl, ht6, hu6⟩ := hm2.cons
    obtain rfl := hu6.nil
    obtain ⟨k, rfl⟩ : ∃ k, n = k + 1 := ⟨n - 1, by simp at hn; omega⟩
    unfold stmtN
    rw [isS_wd ht, isS_wd ht, isS_wd ht, hrg.kw (by decide), hrg.kw (by decide), hrg.kw (by decide)]
    simp only [Bool.false_eq_true, if_false, name_wd ht hrg.1, need_sg ht2]
    unfold rightF
    rw [isS_wd ht3, isS_wd ht3]
    simp only [show (([97, 100, 100] : List UInt8) == [108, 111, 97, 100]) = false from by decide, Bool.false_eq_true, if_false, beq_self_eq_true, if_true, List.tail_cons, mode_reads hm ht4, name_wd ht5 hl.1, expr_reads hx hm1 (stop_semi ht6), semi, need_sg ht6, plc_zero]
  | @cas m rg lc e f bx bf hm hrg hl hx hf =>
    obtain ⟨t, u, rfl, ht, hu⟩ := hh.cons
    obtain ⟨t2, u2, rfl, ht2, hu⟩ := hu.cons
    obtain ⟨t3, u3, rfl, ht3, hu⟩ := hu.cons
    obtain ⟨t4, u4, rfl, ht4, hu⟩ := hu.cons
    obtain ⟨t5, u5, rfl, ht5, hu⟩ := hu.cons
    obtain ⟨m1, hm1, hm2⟩ := hu.split
    obtain ⟨t6, u6, rfl, ht6, hu6⟩ := hm2.cons
    obtain ⟨m2, hm3, hm4⟩ := hu6.split
    obtain ⟨t7, u7, rfl, ht7, hu7⟩ := hm4.cons
    obtain rfl := hu7.nil
    obtain ⟨k, rfl⟩ : ∃ k, n = k + 1 := ⟨n - 1, by simp at hn; omega⟩
    unfold stmtN
    rw [isS_wd ht, isS_wd ht, isS_wd ht, hrg.kw (by decide), hrg.kw (by decide), hrg.kw (by decide)]
    simp only [Bool.false_eq_true, if_false, name_wd ht hrg.1, need_sg ht2]
    unfold rightF
    rw [isS_wd ht3, isS_wd ht3, isS_wd ht3]
    simp only [show (([99, 97, 115] : List UInt8) == [108, 111, 97, 100]) = false from by decide, show (([99, 97, 115] : List UInt8) == [97, 100, 100]) = false from by decide, Bool.false_eq_true, if_false, beq_self_eq_true, if_true, List.tail_cons, mode_reads hm ht4, name_wd ht5 hl.1, expr_reads hx hm1 (stop_comma ht6), need_sg ht6, expr_reads hf hm3 (stop_semi ht7), semi, need_sg ht7, plc_zero]
  | @fence m hm =>
    obtain ⟨t, u, rfl, ht, hu⟩ := hh.cons
    obtain ⟨t2, u2, rfl, ht2, hu⟩ := hu.cons
    obtain ⟨t3, u3, rfl, ht3, hu⟩ := hu.cons
    obtain rfl := hu.nil
    obtain ⟨k, rfl⟩ : ∃ k, n = k + 1 := ⟨n - 1, by simp at hn; omega⟩
    unfold stmtN
    rw [isS_wd ht, isS_wd ht]
    simp only [show (([102, 101, 110, 99, 101] : List UInt8) == [115, 116, 111, 114, 101]) = false from by decide, Bool.false_eq_true, if_false, beq_self_eq_true, if_true, List.tail_cons, mode_reads hm ht2, semi, need_sg ht3, plc_zero]
  | @ifs e bx bt th qt hx ht' =>
    obtain ⟨t, u, rfl, ht, hu⟩ := hh.cons
    obtain ⟨m1, hm1, hm2⟩ := hu.split
    obtain ⟨t2, u2, rfl, ht2, hu2⟩ := hm2.cons
    obtain ⟨m2, hm3, hm4⟩ := hu2.split
    obtain ⟨t3, u3, rfl, ht3, hu3⟩ := hm4.cons
    obtain rfl := hu3.nil
    simp only [List.length_cons, List.length_append] at hn
    obtain ⟨k, rfl⟩ : ∃ k, n = k + 1 := ⟨n - 1, by omega⟩
    have hb := stmts_reads ht' k u2.length u2 t3 u3 (by omega) (Nat.le_refl _) hm3 ht3
    have hd : (t :: u).drop (bx.length + 2) = u2 := by
      have h1 := hm1.drop
      rw [show bx.length + 2 = (bx.length + 1) + 1 by omega, List.drop_succ_cons, ← List.drop_drop, h1]
      rfl
    unfold stmtN
    rw [isS_wd ht, isS_wd ht, isS_wd ht]
    simp only [show (([105, 102] : List UInt8) == [115, 116, 111, 114, 101]) = false from by decide, show (([105, 102] : List UInt8) == [102, 101, 110, 99, 101]) = false from by decide, Bool.false_eq_true, if_false, beq_self_eq_true, if_true, List.tail_cons, expr_reads hx hm1 (stop_open ht2), blockF, need_sg ht2, hb, hr]
    rw [plc_sh hd]
    rfl
  | @ife e bx bt be th el qt qe hx ht' he' =>
    obtain ⟨t, u, rfl, ht, hu⟩ := hh.cons
    obtain ⟨m1, hm1, hm2⟩ := hu.split
    obtain ⟨t2, u2, rfl, ht2, hu2⟩ := hm2.cons
    obtain ⟨m2, hm3, hm4⟩ := hu2.split
    obtain ⟨t3, u3, rfl, ht3, hu3⟩ := hm4.cons
    obtain ⟨t4, u4, rfl, ht4, hu4⟩ := hu3.cons
    obtain ⟨t5, u5, rfl, ht5, hu5⟩ := hu4.cons
    obtain ⟨m5, hm5, hm6⟩ := hu5.split
    obtain ⟨t6, u6, rfl, ht6, hu6⟩ := hm6.cons
    obtain rfl := hu6.nil
    simp only [List.length_cons, List.length_append] at hn
    obtain ⟨k, rfl⟩ : ∃ k, n = k + 1 := ⟨n - 1, by omega⟩
    have hb := stmts_reads ht' k u2.length u2 t3 (t4 :: t5 :: u5) (by omega) (Nat.le_refl _) hm3 ht3
    have hb2 := stmts_reads he' k u5.length u5 t6 u6 (by omega) (Nat.le_refl _) hm5 ht6
    have hd : (t :: u).drop (bx.length + 2) = u2 := by
      have h1 := hm1.drop
      rw [show bx.length + 2 = (bx.length + 1) + 1 by omega, List.drop_succ_cons, ← List.drop_drop, h1]
      rfl
    have hd2 : (t :: u).drop (bx.length + bt.length + 5) = u5 := by
      rw [show bx.length + bt.length + 5 = (bx.length + 2) + (bt.length + 3) by omega, ← List.drop_drop, hd, ← List.drop_drop, hm3.drop]
      rfl
    unfold stmtN
    rw [isS_wd ht, isS_wd ht, isS_wd ht]
    simp only [show (([105, 102] : List UInt8) == [115, 116, 111, 114, 101]) = false from by decide, show (([105, 102] : List UInt8) == [102, 101, 110, 99, 101]) = false from by decide, Bool.false_eq_true, if_false, beq_self_eq_true, if_true, List.tail_cons, expr_reads hx hm1 (stop_open ht2), blockF, need_sg ht2, hb, isS_wd ht4, need_sg ht5, hb2]
    rw [plc_sh hd, plc_sh hd2, ← plc_app]
    rfl
theorem stmts_reads {l : List ST} {b : List Bo} {q : List Nat} (h : SSs l b q) (n k : Nat) (ts : List Tok) (t : Tok) (r : List Tok) (hn : b.length ≤ n) (hk : ts.length ≤ k) (hh : Has b ts (t :: r)) (ht : body t = sg [125]) : stmtsL (stmtN n) k ts = .ok ((l, plc q ts), r) := by
  cases h with
  | nil =>
    obtain rfl := hh.nil
    obtain ⟨j, rfl⟩ : ∃ j, k = j + 1 := ⟨k - 1, by simp at hk; omega⟩
    unfold stmtsL
    rw [isS_sg ht]
    simp [plc]
  | @cons s l b bl q ql hs hl =>
    obtain ⟨m, h1, h2⟩ := hh.split
    have hlen := h1.len
    have hnb := hs.head.not h1
    have hbp : 0 < b.length := by
      obtain ⟨x, b', rfl, _⟩ := hs.head
      simp
    obtain ⟨j, rfl⟩ : ∃ j, k = j + 1 := ⟨k - 1, by omega⟩
    simp only [List.length_append] at hn
    have a1 := stmt_reads hs n ts m (by omega) h1 (hl.first h2 ht)
    have a2 := stmts_reads hl n j m t r (by omega) (by omega) h2 ht
    unfold stmtsL
    rw [hnb.2]
    simp only [Bool.false_eq_true, if_false, a1, a2]
    rw [plc_sh h1.drop, ← plc_app]
end
/-- A shown block is read as just that one. -/
theorem block_reads {l : List ST} {b : List Bo} {q : List Nat} (h : SSs l b q) {ts r : List Tok} (hh : Has (sg [123] :: (b ++ [sg [125]])) ts r) : pBlock ts = .ok ((l, plc (sh 1 q) ts), r) := by
  have hlen := hh.len
  obtain ⟨t, u, rfl, ht, hu⟩ := hh.cons
  obtain ⟨m, hm1, hm2⟩ := hu.split
  obtain ⟨t2, u2, rfl, ht2, hu2⟩ := hm2.cons
  obtain rfl := hu2.nil
  simp only [List.length_cons, List.length_append] at hlen
  unfold pBlock blockF
  rw [need_sg ht]
  simp only
  rw [stmts_reads h _ u.length u t2 u2 (by simp only [List.length_cons]; omega) (Nat.le_refl _) hm1 ht2, plc_sh (show (t :: u).drop 1 = u from rfl)]
end Go.Proofs.YtchokfgffnomoaaDoor.P
/-
  PLAIN MATHEMATICS of programs that are shown: they are read as just these, with their places. It proves nothing of Go.
-/
namespace Go.Proofs.YtchokfgffnomoaaDoor.P
open L (Tok)
set_option maxRecDepth 100000
set_option linter.unusedVariables false
set_option linter.unusedSimpArgs false
/-- Inits, their bodies, which of them begin parts. -/
inductive SI : List (List UInt8 × Int) → List Bo → List Nat → Prop where
  | nil : SI [] [] []
  | cons {l : List UInt8} (n : Nat) {cs : List (List UInt8 × Int)} {b : List Bo} {q : List Nat} (hl : Nm l) (h : SI cs b q) : SI ((l, (n : Int)) :: cs) (wd [105, 110, 105, 116] :: wd l :: nu n :: b) (0 :: sh 3 q)
inductive STh : List (List ST) → List Bo → List Nat → Prop where
  | nil : STh [] [] []
  | cons {l : List ST} {ls : List (List ST)} {bl b : List Bo} {ql q : List Nat} (hl : SSs l bl ql) (h : STh ls b q) : STh (l :: ls) (wd [116, 104, 114, 101, 97, 100] :: ((sg [123] :: (bl ++ [sg [125]])) ++ b)) (sh 2 ql ++ sh (bl.length + 3) q)
theorem init_reads {cs : List (List UInt8 × Int)} {b : List Bo} {q : List Nat} (h : SI cs b q) : ∀ (k : Nat) (ts r : List Tok), ts.length ≤ k → Has b ts r → isS [105, 110, 105, 116] r = false → initL k ts = .ok ((cs, plc q ts), r) := by
  induction h with
  | nil =>
    intro k ts r hk hh hr
    obtain rfl := hh.nil
    cases k with
    | zero => rfl
    | succ k =>
      unfold initL
      rw [hr]
      rfl
  | @cons l n cs b q hl h ih =>
    intro k ts r hk hh hr
    obtain ⟨t, u, rfl, ht, hu⟩ := hh.cons
    obtain ⟨t2, u2, rfl, ht2, hu⟩ := hu.cons
    obtain ⟨t3, u3, rfl, ht3, hu⟩ := hu.cons
    simp only [List.length_cons] at hk
    obtain ⟨j, rfl⟩ : ∃ j, k = j + 1 := ⟨k - 1, by omega⟩
    have a := ih j u3 r (by omega) hu hr
    unfold initL
    rw [isS_wd ht]
    simp only [beq_self_eq_true, if_true, List.tail_cons, name_wd ht2 hl.1, num_nu ht3, a]
    rw [plc_sh (show (t :: t2 :: t3 :: u3).drop 3 = u3 from rfl)]
    rfl
theorem thread_reads {ls : List (List ST)} {b : List Bo} {q : List Nat} (h : STh ls b q) : ∀ (k : Nat) (ts r : List Tok), ts.length ≤ k → Has b ts r → isS [116, 104, 114, 101, 97, 100] r = false → threadL k ts = .ok ((ls, plc q ts), r) := by
  induction h with
  | nil =>
    intro k ts r hk hh hr
    obtain rfl := hh.nil
    cases k with
    | zero => rfl
    | succ k =>
      unfold threadL
      rw [hr]
      rfl
  | @cons l ls bl b ql q hl h ih =>
    intro k ts r hk hh hr
    obtain ⟨t, u, rfl, ht, hu⟩ := hh.cons
    obtain ⟨m, hm1, hm2⟩ := hu.split
    have hlen := hm1.len
    simp only [List.length_cons, List.length_append] at hk hlen
    obtain ⟨j, rfl⟩ : ∃ j, k = j + 1 := ⟨k - 1, by omega⟩
    have a := ih j m r (by omega) hm2 hr
    have hd : (t :: u).drop (bl.length + 3) = m := by
      have h1 := hm1.drop
      simp only [List.length_cons, List.length_append, List.length_nil] at h1
      rw [show bl.length + 3 = (bl.length + 2) + 1 by omega, List.drop_succ_cons, ← h1]
    unfold threadL
    rw [isS_wd ht]
    simp only [beq_self_eq_true, if_true, List.tail_cons, block_reads hl hm1, a]
    rw [plc_sh (show (t :: u).drop 1 = u from rfl), plc_sh hd, ← plc_app]
    congr 3
    simp [sh, Function.comp_def, Nat.add_comm, Nat.add_left_comm]
def askW : Nat → List UInt8
  | 1 => [101, 120, 105, 115, 116, 115]
  | _ => [102, 111, 114, 97, 108, 108]
/-- A program, the bodies of its tokens, and which of them begin parts. -/
inductive SP : PG → List Bo → List Nat → Prop where
  | mk {nm : List UInt8} {v k : Nat} {cs : List (List UInt8 × Int)} {ls : List (List ST)} {c : CO} {bi bt bc : List Bo} {qi qt : List Nat} (hn : Nm nm) (hi : SI cs bi qi) (ht : STh ls bt qt) (hk : k = 1 ∨ k = 2) (hc : SC c bc) :
      SP ⟨nm, v, cs, ls, k, c⟩ (wd [108, 105, 116, 109, 117, 115] :: wd nm :: wd [118, 97, 108, 117, 101, 115] :: nu v :: (bi ++ (bt ++ (wd (askW k) :: bc)))) (0 :: (sh 4 qi ++ (sh (4 + bi.length) qt ++ [4 + bi.length + bt.length])))
theorem STh.front {ls : List (List ST)} {b : List Bo} {q : List Nat} (h : STh ls b q) {ts r : List Tok} (hh : Has b ts r) (hr : isS [105, 110, 105, 116] r = false) : isS [105, 110, 105, 116] ts = false := by
  cases h with
  | nil =>
    obtain rfl := hh.nil
    exact hr
  | cons hl h =>
    obtain ⟨t, u, rfl, ht, _⟩ := hh.cons
    rw [isS_wd ht]
    decide
/-- A shown program is read as just that one. -/
theorem prog_reads {p : PG} {b : List Bo} {q : List Nat} (h : SP p b q) {ts : List Tok} {t0 : Tok} (hh : Has b ts [t0]) (h4 : t0.kind = 4) : pProg ts = .ok (p, plc q ts) := by
  cases h with
  | @mk nm v k cs ls c bi bt bc qi qt hn hi ht hk hc =>
    obtain ⟨t1, u1, rfl, h1, hu⟩ := hh.cons
    obtain ⟨t2, u2, rfl, h2, hu⟩ := hu.cons
    obtain ⟨t3, u3, rfl, h3, hu⟩ := hu.cons
    obtain ⟨t4, u4, rfl, h4', hu⟩ := hu.cons
    obtain ⟨m, hm1, hm2⟩ := hu.split
    obtain ⟨m2, hm3, hm4⟩ := hm2.split
    obtain ⟨t5, u5, rfl, h5, hu5⟩ := hm4.cons
    have e1 : isS [105, 110, 105, 116] (t5 :: u5) = false := by
      rw [isS_wd h5]
      rcases hk with rfl | rfl <;> decide
    have e2 : isS [116, 104, 114, 101, 97, 100] (t5 :: u5) = false := by
      rw [isS_wd h5]
      rcases hk with rfl | rfl <;> decide
    have a1 := init_reads hi u4.length u4 m (Nat.le_refl _) hm1 (ht.front hm3 e1)
    have a2 := thread_reads ht m.length m (t5 :: u5) (Nat.le_refl _) hm3 e2
    have a3 : askF (t5 :: u5) = .ok (k, u5) := by
      unfold askF
      rw [isS_wd h5]
      rcases hk with rfl | rfl
      · have h5' : body t5 = wd [101, 120, 105, 115, 116, 115] := h5
        rw [need_wd h5']
        rfl
      · rfl
    have hne : ∀ x : List UInt8, isS x [t0] = false := fun x => by simp [isS, h4]
    have a4 := cond_reads hc hu5 (hne _) (hne _)
    have d1 : (t1 :: t2 :: t3 :: t4 :: u4).drop 4 = u4 := rfl
    have d2 : (t1 :: t2 :: t3 :: t4 :: u4).drop (4 + bi.length) = m := by rw [← List.drop_drop, d1, hm1.drop]
    have d3 : (t1 :: t2 :: t3 :: t4 :: u4).drop (4 + bi.length + bt.length) = t5 :: u5 := by rw [← List.drop_drop, d2, hm3.drop]
    unfold pProg
    simp only [need_wd h1, name_wd h2 hn.1, need_wd h3, num_nu h4', a1, a2, a3, a4, h4, beq_self_eq_true, if_true]
    rw [plc_sh d1, plc_sh d2]
    have e3 : plc [4 + bi.length + bt.length] (t1 :: t2 :: t3 :: t4 :: u4) = [here (t5 :: u5)] := by
      simp only [plc, List.map_cons, List.map_nil, d3]
    rw [← e3, ← plc_app, ← plc_app]
    rfl
end Go.Proofs.YtchokfgffnomoaaDoor.P
/-
  PLAIN MATHEMATICS of programs' texts: which text a program has, and that its tokens are those that are read as that program. It proves nothing of Go.
-/
namespace Go.Proofs.YtchokfgffnomoaaDoor.P
open L (Tok)
set_option maxRecDepth 100000
set_option linter.unusedVariables false
set_option linter.unusedSimpArgs false
/-- A text that brings just tokens of these bodies, whatever stands behind it. -/
def Un (a : List UInt8) (b : List Bo) : Prop := ∃ ts : Nat → List Tok, L.Eats a ts ∧ ∀ pos, (ts pos).map body = b
/-- The same, if nothing goes on with its last token. -/
def Ea (a : List UInt8) (b : List Bo) : Prop := ∃ ts : Nat → List Tok, (∀ pos r, L.Stops L.goesB r → L.lexL pos (a ++ r) = L.pre (ts pos) (L.lexL (pos + a.length) r)) ∧ ∀ pos, (ts pos).map body = b
/-- It begins with what parts. -/
def Front (a : List UInt8) : Prop := ∃ c r, a = c :: r ∧ L.goesB c = false
theorem Un.ea {a : List UInt8} {b : List Bo} (h : Un a b) : Ea a b := by
  obtain ⟨ts, h1, h2⟩ := h
  exact ⟨ts, fun pos r _ => h1 pos r, h2⟩
theorem Un.app {a a' : List UInt8} {b b' : List Bo} (h : Un a b) (k : Un a' b') : Un (a ++ a') (b ++ b') := by
  obtain ⟨ts, h1, h2⟩ := h
  obtain ⟨us, k1, k2⟩ := k
  exact ⟨_, h1.append k1, fun pos => by simp [h2, k2]⟩
theorem Un.then {a a' : List UInt8} {b b' : List Bo} (h : Un a b) (k : Ea a' b') : Ea (a ++ a') (b ++ b') := by
  obtain ⟨ts, h1, h2⟩ := h
  obtain ⟨us, k1, k2⟩ := k
  refine ⟨fun pos => ts pos ++ us (pos + a.length), fun pos r hr => ?_, fun pos => by simp [h2, k2]⟩
  rw [List.append_assoc, h1, k1 _ _ hr, L.pre_pre, List.length_append, Nat.add_assoc]
theorem Front.stops {a : List UInt8} (h : Front a) (r : List UInt8) : L.Stops L.goesB (a ++ r) := by
  obtain ⟨c, t, rfl, hc⟩ := h
  simp [L.Stops, hc]
/-- What parts stands behind: then it is whole. -/
theorem Ea.un {a a' : List UInt8} {b b' : List Bo} (h : Ea a b) (k : Un a' b') (hf : Front a') : Un (a ++ a') (b ++ b') := by
  obtain ⟨ts, h1, h2⟩ := h
  obtain ⟨us, k1, k2⟩ := k
  refine ⟨fun pos => ts pos ++ us (pos + a.length), fun pos r => ?_, fun pos => by simp [h2, k2]⟩
  rw [List.append_assoc, h1 _ _ (hf.stops r), k1, L.pre_pre, List.length_append, Nat.add_assoc]
theorem Ea.app {a a' : List UInt8} {b b' : List Bo} (h : Ea a b) (k : Ea a' b') (hf : Front a') : Ea (a ++ a') (b ++ b') := by
  obtain ⟨ts, h1, h2⟩ := h
  obtain ⟨us, k1, k2⟩ := k
  refine ⟨fun pos => ts pos ++ us (pos + a.length), fun pos r hr => ?_, fun pos => by simp [h2, k2]⟩
  rw [List.append_assoc, h1 _ _ (hf.stops r), k1 _ _ hr, L.pre_pre, List.length_append, Nat.add_assoc]
theorem un_nil : Un [] [] := ⟨_, L.eats_nil, fun _ => rfl⟩
theorem un_blank {c : UInt8} (h : L.blankB c = true) : Un [c] [] := ⟨_, (L.parts_blank h).eats, fun _ => rfl⟩
theorem un_sp : Un [32] [] := un_blank (by decide)
theorem un_nl : Un [10] [] := un_blank (by decide)
theorem un_sign {c : UInt8} (h : L.signB c = true) (hn : c ≠ 61) : Un [c] [sg [c]] := ⟨fun pos => [⟨3, [c], 0, pos⟩], fun pos r => L.lex_sign h (fun e => absurd e hn) pos, fun _ => rfl⟩
theorem un_two : Un [61, 61] [sg [61, 61]] := ⟨fun pos => [⟨3, [61, 61], 0, pos⟩], fun pos r => L.lex_two pos, fun _ => rfl⟩
/-- A word's text. -/
def Wo (s : List UInt8) : Prop := ∃ b r, s = b :: r ∧ L.letB b = true ∧ ∀ c ∈ r, L.alnB c = true
theorem ea_piece {k n : Nat} {a : List UInt8} (h : L.Piece k a n) : Ea a [(k, a, n)] := ⟨fun pos => [⟨k, a, n, pos⟩], fun pos r hr => h.lex hr pos, fun _ => rfl⟩
theorem ea_word {s : List UInt8} (h : Wo s) : Ea s [wd s] := by
  obtain ⟨b, r, rfl, hb, hr⟩ := h
  exact ea_piece (.word hb hr)
theorem ea_num {n : Nat} (h : n ≤ L.top) : Ea (L.decL n) [nu n] := by
  have := ea_piece (L.Piece.num (L.dec_ne n) (L.dec_digits n) (by rw [L.dec_val]; exact h))
  rw [L.dec_val] at this
  exact this
theorem ea_eq : Ea [61] [sg [61]] := ea_piece (.sign (by decide))
/-- A word in front of what parts. -/
theorem front_cons {c : UInt8} {r : List UInt8} (h : L.goesB c = false) : Front (c :: r) := ⟨c, r, rfl, h⟩
theorem Front.app {a : List UInt8} (h : Front a) (r : List UInt8) : Front (a ++ r) := by
  obtain ⟨c, t, rfl, hc⟩ := h
  exact ⟨c, t ++ r, rfl, hc⟩
/-- A name that stands in a text. -/
def Na (s : List UInt8) : Prop := Nm s ∧ Wo s
/-! ### expressions -/
inductive TX : EX → List UInt8 → List Bo → Prop where
  | num {n : Nat} (hn : n ≤ L.top) : TX (.mk 1 n [] []) (L.decL n) [nu n]
  | reg {s : List UInt8} (hk : Na s) : TX (.mk 2 0 s []) s [wd s]
  | bin {op : Int} {s : List UInt8} {a b : EX} {ta tb : List UInt8} {ba bb : List Bo} (h : Sign2 op s) (ha : TX a ta ba) (hb : TX b tb bb) : TX (.mk op 0 [] [a, b]) ([40] ++ (ta ++ ([32] ++ (s ++ ([32] ++ (tb ++ [41])))))) (sg [40] :: (ba ++ (sg s :: (bb ++ [sg [41]]))))
theorem TX.sx {e : EX} {t : List UInt8} {b : List Bo} (h : TX e t b) : SX e b := by
  induction h with
  | num hn => exact .num _
  | reg hk => exact .reg hk.1
  | bin h ha hb iha ihb => exact .bin h iha ihb
theorem sign2_un {op : Int} {s : List UInt8} (h : Sign2 op s) : Un s [sg s] := by
  cases h with
  | plus => exact un_sign (by decide) (by decide)
  | minus => exact un_sign (by decide) (by decide)
  | eq => exact un_two
  | less => exact un_sign (by decide) (by decide)
theorem TX.ea {e : EX} {t : List UInt8} {b : List Bo} (h : TX e t b) : Ea t b := by
  induction h with
  | num hn => exact ea_num hn
  | reg hk => exact ea_word hk.2
  | bin h ha hb iha ihb =>
    have h1 := ihb.un (un_sign (c := 41) (by decide) (by decide)) (front_cons (by decide))
    have h2 := un_sp.app ((sign2_un h).app (un_sp.app h1))
    have h3 := iha.un h2 (front_cons (by decide))
    exact ((un_sign (c := 40) (by decide) (by decide)).app h3).ea
/-! ### conditions -/
inductive TC : CO → List UInt8 → List Bo → Prop where
  | mem {s : List UInt8} {n : Nat} (hk : Na s) (hn : n ≤ L.top) : TC (.mk 1 0 s n []) (s ++ ([32] ++ ([61, 61] ++ ([32] ++ L.decL n)))) [wd s, sg [61, 61], nu n]
  | reg {s : List UInt8} {k n : Nat} (hk : Na s) (hn : n ≤ L.top) (hq : k ≤ L.top) : TC (.mk 2 k s n []) (L.decL k ++ ([58] ++ (s ++ ([32] ++ ([61, 61] ++ ([32] ++ L.decL n)))))) [nu k, sg [58], wd s, sg [61, 61], nu n]
  | not {a : CO} {ta : List UInt8} {ba : List Bo} (ha : TC a ta ba) : TC (.mk 3 0 [] 0 [a]) ([110, 111, 116] ++ ([32] ++ ta)) (wd [110, 111, 116] :: ba)
  | and {a b : CO} {ta tb : List UInt8} {ba bb : List Bo} (ha : TC a ta ba) (hb : TC b tb bb) : TC (.mk 4 0 [] 0 [a, b]) ([40] ++ (ta ++ ([32] ++ ([97, 110, 100] ++ ([32] ++ (tb ++ [41])))))) (sg [40] :: (ba ++ (wd [97, 110, 100] :: (bb ++ [sg [41]]))))
  | or {a b : CO} {ta tb : List UInt8} {ba bb : List Bo} (ha : TC a ta ba) (hb : TC b tb bb) : TC (.mk 5 0 [] 0 [a, b]) ([40] ++ (ta ++ ([32] ++ ([111, 114] ++ ([32] ++ (tb ++ [41])))))) (sg [40] :: (ba ++ (wd [111, 114] :: (bb ++ [sg [41]]))))
theorem TC.sc {e : CO} {t : List UInt8} {b : List Bo} (h : TC e t b) : SC e b := by
  induction h with
  | mem hk hn => exact .mem _ hk.1
  | reg hk hn hq => exact .reg _ _ hk.1
  | not ha iha => exact .not iha
  | and ha hb iha ihb => exact .and iha ihb
  | or ha hb iha ihb => exact .or iha ihb
theorem wo_of {s : List UInt8} (h : (match s with | [] => false | b :: r => L.letB b && r.all L.alnB) = true) : Wo s := by
  cases s with
  | nil => cases h
  | cons b r =>
    simp only [Bool.and_eq_true, List.all_eq_true] at h
    exact ⟨b, r, rfl, h.1, h.2⟩
/-- A word and a blank. -/
theorem un_word {s : List UInt8} (h : Wo s) : Un (s ++ [32]) [wd s] := (ea_word h).un un_sp (front_cons (by decide))
theorem TC.ea {e : CO} {t : List UInt8} {b : List Bo} (h : TC e t b) : Ea t b := by
  induction h with
  | mem hk hn =>
    have h1 := un_two.then (un_sp.then (ea_num hn))
    exact (ea_word hk.2).app (un_sp.then h1) (front_cons (by decide))
  | reg hk hn hq =>
    have h1 := un_two.then (un_sp.then (ea_num hn))
    have h2 := (ea_word hk.2).app (un_sp.then h1) (front_cons (by decide))
    exact (ea_num hq).app ((un_sign (c := 58) (by decide) (by decide)).then h2) (front_cons (by decide))
  | not ha iha => exact (ea_word (wo_of (by decide))).app (un_sp.then iha) (front_cons (by decide))
  | and ha hb iha ihb =>
    have h1 := ihb.un (un_sign (c := 41) (by decide) (by decide)) (front_cons (by decide))
    have h2 := (ea_word (s := [97, 110, 100]) (wo_of (by decide))).un (un_sp.app h1) (front_cons (by decide))
    have h3 := iha.un (un_sp.app h2) (front_cons (by decide))
    exact ((un_sign (c := 40) (by decide) (by decide)).app h3).ea
  | or ha hb iha ihb =>
    have h1 := ihb.un (un_sign (c := 41) (by decide) (by decide)) (front_cons (by decide))
    have h2 := (ea_word (s := [111, 114]) (wo_of (by decide))).un (un_sp.app h1) (front_cons (by decide))
    have h3 := iha.un (un_sp.app h2) (front_cons (by decide))
    exact ((un_sign (c := 40) (by decide) (by decide)).app h3).ea
end Go.Proofs.YtchokfgffnomoaaDoor.P
/-
  PLAIN MATHEMATICS of programs' texts: statements, programs; where their parts begin. It proves nothing of Go.
-/
namespace Go.Proofs.YtchokfgffnomoaaDoor.P
open L (Tok)
set_option maxRecDepth 100000
set_option linter.unusedVariables false
set_option linter.unusedSimpArgs false
/-- A text that brings just tokens of these bodies; those with the numbers q stand behind a blank. -/
def Uq (a : List UInt8) (b : List Bo) (q : List Nat) : Prop := ∃ ts : Nat → List Tok, L.Eats a ts ∧ (∀ pos, (ts pos).map body = b) ∧ ∀ pos, ∀ i ∈ q, i < b.length ∧ ∃ off, 1 ≤ off ∧ off < a.length ∧ here ((ts pos).drop i) = pos + off ∧ a[off - 1]? = some 32
/-- A text that begins with its first token. -/
def Fst (a : List UInt8) (b : List Bo) : Prop := ∃ ts : Nat → List Tok, L.Eats a ts ∧ (∀ pos, (ts pos).map body = b) ∧ b ≠ [] ∧ a ≠ [] ∧ ∀ pos, here (ts pos) = pos
theorem Un.uq {a : List UInt8} {b : List Bo} (h : Un a b) : Uq a b [] := by
  obtain ⟨ts, h1, h2⟩ := h
  exact ⟨ts, h1, h2, fun _ _ h => by cases h⟩
theorem Uq.un {a : List UInt8} {b : List Bo} {q : List Nat} (h : Uq a b q) : Un a b := by
  obtain ⟨ts, h1, h2, _⟩ := h
  exact ⟨ts, h1, h2⟩
theorem here_app {a b : List Tok} (h : a ≠ []) : here (a ++ b) = here a := by
  cases a with
  | nil => exact absurd rfl h
  | cons t r => rfl
theorem Uq.app {a a' : List UInt8} {b b' : List Bo} {q q' : List Nat} (h : Uq a b q) (k : Uq a' b' q') : Uq (a ++ a') (b ++ b') (q ++ sh b.length q') := by
  obtain ⟨ts, h1, h2, h3⟩ := h
  obtain ⟨us, k1, k2, k3⟩ := k
  have hl : ∀ pos, (ts pos).length = b.length := fun pos => by rw [← h2 pos]; simp
  refine ⟨_, h1.append k1, fun pos => by simp [h2, k2], fun pos i hi => ?_⟩
  rcases List.mem_append.1 hi with hi | hi
  · obtain ⟨hib, off, o1, o2, o3, o4⟩ := h3 pos i hi
    refine ⟨by simp; omega, off, o1, by simp; omega, ?_, ?_⟩
    · rw [List.drop_append_of_le_length (by rw [hl]; omega), here_app (by
        intro e
        have := congrArg List.length e
        simp [hl] at this
        omega)]
      exact o3
    · rw [List.getElem?_append_left (by omega)]
      exact o4
  · obtain ⟨j, hj, rfl⟩ := List.mem_map.1 hi
    obtain ⟨hib, off, o1, o2, o3, o4⟩ := k3 (pos + a.length) j hj
    refine ⟨by simp; omega, a.length + off, by omega, by simp; omega, ?_, ?_⟩
    · have e : (ts pos ++ us (pos + a.length)).drop (b.length + j) = (us (pos + a.length)).drop j := by
        rw [← List.drop_drop, ← hl pos, List.drop_left]
      show here ((ts pos ++ us (pos + a.length)).drop (b.length + j)) = _
      rw [e, o3]
      omega
    · rw [List.getElem?_append_right (by omega), show a.length + off - 1 - a.length = off - 1 by omega]
      exact o4
theorem Fst.app {a a' : List UInt8} {b b' : List Bo} (h : Fst a b) (k : Un a' b') : Fst (a ++ a') (b ++ b') := by
  obtain ⟨ts, h1, h2, h3, h4, h5⟩ := h
  obtain ⟨us, k1, k2⟩ := k
  refine ⟨_, h1.append k1, fun pos => by simp [h2, k2], by simp [h3], by simp [h4], fun pos => ?_⟩
  rw [here_app (by
    intro e
    have := h2 pos
    rw [e] at this
    exact h3 this.symm)]
  exact h5 pos
theorem fst_word {s : List UInt8} (h : Wo s) : Fst (s ++ [32]) [wd s] := by
  obtain ⟨b, r, rfl, hb, hr⟩ := h
  exact ⟨fun pos => [⟨1, b :: r, 0, pos⟩], (L.Piece.word hb hr).eats (by simp) rfl (L.parts_blank (by decide)), fun _ => rfl, by simp, by simp, fun _ => rfl⟩
def ind (d : Nat) : List UInt8 := List.replicate (2 * d) 32
theorem un_ind : ∀ d, Un (ind d) []
  | 0 => un_nil
  | d + 1 => by
    have h := (un_sp.app un_sp).app (un_ind d)
    have e : ([32] ++ [32] : List UInt8) ++ ind d = ind (d + 1) := by
      unfold ind
      rw [show 2 * (d + 1) = 2 * d + 1 + 1 by omega, List.replicate_succ, List.replicate_succ]
      rfl
    rw [e] at h
    exact h
/-- Inwards, then a text that begins with its first token: that one stands behind a blank. -/
theorem Fst.inw {a a' : List UInt8} {b b' : List Bo} {q' : List Nat} (h : Fst a b) (k : Uq a' b' q') {d : Nat} (hd : 1 ≤ d) : Uq (ind d ++ (a ++ a')) (b ++ b') (0 :: sh b.length q') := by
  have hb : Uq (ind d ++ a) b [0] := by
    obtain ⟨us, k1, k2⟩ := un_ind d
    obtain ⟨ts, h1, h2, h3, h4, h5⟩ := h
    have hu : ∀ pos, us pos = [] := fun pos => by simpa using k2 pos
    refine ⟨_, k1.append h1, fun pos => by simp [hu, h2], fun pos i hi => ?_⟩
    obtain rfl : i = 0 := by simpa using hi
    have hl : (ind d).length = 2 * d := by simp [ind]
    have ha : 0 < a.length := by
      cases a with
      | nil => exact absurd rfl h4
      | cons c r => simp
    refine ⟨by
      cases b with
      | nil => exact absurd rfl h3
      | cons c r => simp, 2 * d, by omega, by simp [hl]; omega, ?_, ?_⟩
    · simp only [hu, List.nil_append, List.drop_zero]
      rw [h5, hl]
    · rw [List.getElem?_append_left (by omega), ind, List.getElem?_replicate, if_pos (by omega)]
  have := hb.app k
  rw [List.append_assoc] at this
  exact this
mutual
/-- A statement so far inwards, its text, its bodies, which of them begin statements. -/
inductive TS : Nat → ST → List UInt8 → List Bo → List Nat → Prop where
  | set {d : Nat} {rg : List UInt8} {e : EX} {tx : List UInt8} {bx : List Bo} (hr : Na rg) (hx : TX e tx bx) : TS d (.mk 1 0 rg [] [e] [] []) (ind d ++ ((rg ++ [32]) ++ ([61] ++ ([32] ++ (tx ++ ([59] ++ [10])))))) (wd rg :: sg [61] :: (bx ++ [sg [59]])) [0]
  | load {d m : Nat} {rg lc : List UInt8} (hm : m < 5) (hr : Na rg) (hl : Na lc) : TS d (.mk 2 m rg lc [] [] []) (ind d ++ ((rg ++ [32]) ++ ([61] ++ ([32] ++ (([108, 111, 97, 100] ++ [32]) ++ ((modeT m ++ [32]) ++ (lc ++ ([59] ++ [10])))))))) [wd rg, sg [61], wd [108, 111, 97, 100], wd (modeT m), wd lc, sg [59]] [0]
  | store {d m : Nat} {lc : List UInt8} {e : EX} {tx : List UInt8} {bx : List Bo} (hm : m < 5) (hl : Na lc) (hx : TX e tx bx) : TS d (.mk 3 m [] lc [e] [] []) (ind d ++ (([115, 116, 111, 114, 101] ++ [32]) ++ ((modeT m ++ [32]) ++ ((lc ++ [32]) ++ (tx ++ ([59] ++ [10])))))) (wd [115, 116, 111, 114, 101] :: wd (modeT m) :: wd lc :: (bx ++ [sg [59]])) [0]
  | add {d m : Nat} {rg lc : List UInt8} {e : EX} {tx : List UInt8} {bx : List Bo} (hm : m < 5) (hr : Na rg) (hl : Na lc) (hx : TX e tx bx) : TS d (.mk 4 m rg lc [e] [] []) (ind d ++ ((rg ++ [32]) ++ ([61] ++ ([32] ++ (([97, 100, 100] ++ [32]) ++ ((modeT m ++ [32]) ++ ((lc ++ [32]) ++ (tx ++ ([59] ++ [10]))))))))) (wd rg :: sg [61] :: wd [97, 100, 100] :: wd (modeT m) :: wd lc :: (bx ++ [sg [59]])) [0]
  | cas {d m : Nat} {rg lc : List UInt8} {e f : EX} {tx tf : List UInt8} {bx bf : List Bo} (hm : m < 5) (hr : Na rg) (hl : Na lc) (hx : TX e tx bx) (hf : TX f tf bf) : TS d (.mk 5 m rg lc [e, f] [] []) (ind d ++ ((rg ++ [32]) ++ ([61] ++ ([32] ++ (([99, 97, 115] ++ [32]) ++ ((modeT m ++ [32]) ++ ((lc ++ [32]) ++ (tx ++ ([44] ++ ([32] ++ (tf ++ ([59] ++ [10])))))))))))) (wd rg :: sg [61] :: wd [99, 97, 115] :: wd (modeT m) :: wd lc :: (bx ++ (sg [44] :: (bf ++ [sg [59]])))) [0]
  | fence {d m : Nat} (hm : m < 5) : TS d (.mk 6 m [] [] [] [] []) (ind d ++ (([102, 101, 110, 99, 101] ++ [32]) ++ (modeT m ++ ([59] ++ [10])))) [wd [102, 101, 110, 99, 101], wd (modeT m), sg [59]] [0]
  | ifs {d : Nat} {e : EX} {tx tt : List UInt8} {bx bt : List Bo} {th : List ST} {qt : List Nat} (hx : TX e tx bx) (ht : TSs (d + 1) th tt bt qt) : TS d (.mk 7 0 [] [] [e] th []) (ind d ++ (([105, 102] ++ [32]) ++ ((tx ++ ([32] ++ ([123] ++ [10]))) ++ (tt ++ (ind d ++ ([125] ++ [10])))))) (wd [105, 102] :: (bx ++ (sg [123] :: (bt ++ [sg [125]])))) (0 :: sh (bx.length + 2) qt)
  | ife {d : Nat} {e : EX} {tx tt te : List UInt8} {bx bt be : List Bo} {th el : List ST} {qt qe : List Nat} (hx : TX e tx bx) (ht : TSs (d + 1) th tt bt qt) (hne : el ≠ []) (he : TSs (d + 1) el te be qe) : TS d (.mk 7 0 [] [] [e] th el) (ind d ++ (([105, 102] ++ [32]) ++ ((tx ++ ([32] ++ ([123] ++ [10]))) ++ (tt ++ ((ind d ++ ([125] ++ ([32] ++ (([101, 108, 115, 101] ++ [32]) ++ ([123] ++ [10]))))) ++ (te ++ (ind d ++ ([125] ++ [10])))))))) (wd [105, 102] :: (bx ++ (sg [123] :: (bt ++ (sg [125] :: wd [101, 108, 115, 101] :: sg [123] :: (be ++ [sg [125]])))))) (0 :: (sh (bx.length + 2) qt ++ sh (bx.length + bt.length + 5) qe))
inductive TSs : Nat → List ST → List UInt8 → List Bo → List Nat → Prop where
  | nil {d : Nat} : TSs d [] [] [] []
  | cons {d : Nat} {s : ST} {l : List ST} {t tl : List UInt8} {b bl : List Bo} {q ql : List Nat} (hs : TS d s t b q) (hl : TSs d l tl bl ql) : TSs d (s :: l) (t ++ tl) (b ++ bl) (q ++ sh b.length ql)
end
mutual
theorem TS.ss {d : Nat} {s : ST} {t : List UInt8} {b : List Bo} {q : List Nat} (h : TS d s t b q) : SS s b q := by
  cases h with
  | set hr hx => exact .set hr.1 hx.sx
  | load hm hr hl => exact .load hm hr.1 hl.1
  | store hm hl hx => exact .store hm hl.1 hx.sx
  | add hm hr hl hx => exact .add hm hr.1 hl.1 hx.sx
  | cas hm hr hl hx hf => exact .cas hm hr.1 hl.1 hx.sx hf.sx
  | fence hm => exact .fence hm
  | ifs hx ht => exact .ifs hx.sx (TSs.sss ht)
  | ife hx ht hne he => exact .ife hx.sx (TSs.sss ht) (TSs.sss he)
theorem TSs.sss {d : Nat} {l : List ST} {t : List UInt8} {b : List Bo} {q : List Nat} (h : TSs d l t b q) : SSs l b q := by
  cases h with
  | nil => exact .nil
  | cons hs hl => exact .cons (TS.ss hs) (TSs.sss hl)
end
theorem un_semi : Un ([59] ++ [10]) [sg [59]] := (un_sign (c := 59) (by decide) (by decide)).app un_nl
theorem un_set : Un ([61] ++ [32]) [sg [61]] := ea_eq.un un_sp (front_cons (by decide))
theorem mode_wo : ∀ m, m < 5 → Wo (modeT m) := fun m hm => wo_of (by
  have : ∀ m, m < 5 → (match modeT m with | [] => false | b :: r => L.letB b && r.all L.alnB) = true := by decide
  exact this m hm)
theorem un_mode {m : Nat} (hm : m < 5) : Un (modeT m ++ [32]) [wd (modeT m)] := un_word (mode_wo m hm)
theorem un_open : Un ([32] ++ ([123] ++ [10])) [sg [123]] := un_sp.app ((un_sign (c := 123) (by decide) (by decide)).app un_nl)
theorem un_close : Un ([125] ++ [10]) [sg [125]] := (un_sign (c := 125) (by decide) (by decide)).app un_nl
theorem un_else : Un ([125] ++ ([32] ++ (([101, 108, 115, 101] ++ [32]) ++ ([123] ++ [10])))) [sg [125], wd [101, 108, 115, 101], sg [123]] :=
  (un_sign (c := 125) (by decide) (by decide)).app (un_sp.app ((un_word (wo_of (by decide))).app ((un_sign (c := 123) (by decide) (by decide)).app un_nl)))
theorem sh_app (k : Nat) (a b : List Nat) : sh k (a ++ b) = sh k a ++ sh k b := by simp [sh]
theorem sh_nil (k : Nat) : sh k [] = [] := rfl
theorem sh_sh (a b : Nat) (q : List Nat) : sh a (sh b q) = sh (a + b) q := by simp [sh, Function.comp_def, Nat.add_assoc]
mutual
theorem TS.uq {d : Nat} {s : ST} {t : List UInt8} {b : List Bo} {q : List Nat} (h : TS d s t b q) (hd : 1 ≤ d) : Uq t b q := by
  cases h with
  | @set _ rg e tx bx hr hx =>
    have h1 := hx.ea.un un_semi (front_cons (by decide))
    have h2 := un_set.app h1
    rw [List.append_assoc] at h2
    exact (fst_word hr.2).inw h2.uq hd
  | load hm hr hl =>
    have h1 := (un_mode hm).app ((ea_word hl.2).un un_semi (front_cons (by decide)))
    have h2 := (un_word (s := [108, 111, 97, 100]) (wo_of (by decide))).app h1
    have h3 := un_set.app h2
    rw [List.append_assoc] at h3
    exact (fst_word hr.2).inw h3.uq hd
  | store hm hl hx =>
    have h1 := (un_word hl.2).app (hx.ea.un un_semi (front_cons (by decide)))
    have h2 := (un_mode hm).app h1
    exact (fst_word (s := [115, 116, 111, 114, 101]) (wo_of (by decide))).inw h2.uq hd
  | add hm hr hl hx =>
    have h1 := (un_word hl.2).app (hx.ea.un un_semi (front_cons (by decide)))
    have h2 := (un_word (s := [97, 100, 100]) (wo_of (by decide))).app ((un_mode hm).app h1)
    have h3 := un_set.app h2
    rw [List.append_assoc] at h3
    exact (fst_word hr.2).inw h3.uq hd
  | cas hm hr hl hx hf =>
    have h0 := hf.ea.un un_semi (front_cons (by decide))
    have hc := (un_sign (c := 44) (by decide) (by decide)).app (un_sp.app h0)
    have h1 := (un_word hl.2).app (hx.ea.un hc (front_cons (by decide)))
    have h2 := (un_word (s := [99, 97, 115]) (wo_of (by decide))).app ((un_mode hm).app h1)
    have h3 := un_set.app h2
    rw [List.append_assoc] at h3
    exact (fst_word hr.2).inw h3.uq hd
  | fence hm =>
    have h1 := (ea_word (mode_wo _ hm)).un un_semi (front_cons (by decide))
    exact (fst_word (s := [102, 101, 110, 99, 101]) (wo_of (by decide))).inw h1.uq hd
  | @ifs _ e tx tt bx bt th qt hx ht =>
    have h1 := (hx.ea.un un_open (front_cons (by decide))).uq
    have h2 := TSs.uqs ht (by omega)
    have h3 := ((un_ind d).app un_close).uq
    have h4 := h1.app (h2.app h3)
    have h5 := (fst_word (s := [105, 102]) (wo_of (by decide))).inw h4 hd
    have e1 : [wd [105, 102]] ++ (bx ++ [sg [123]] ++ (bt ++ ([] ++ [sg [125]]))) = wd [105, 102] :: (bx ++ (sg [123] :: (bt ++ [sg [125]]))) := by simp
    have e2 : 0 :: sh [wd [105, 102]].length ([] ++ sh (bx ++ [sg [123]]).length (qt ++ sh bt.length [])) = 0 :: sh (bx.length + 2) qt := by
      simp [sh_sh, sh, Function.comp_def]
      intro a ha
      omega
    rw [e1, e2] at h5
    exact h5
  | @ife _ e tx tt te bx bt be th el qt qe hx ht hne he =>
    have h1 := (hx.ea.un un_open (front_cons (by decide))).uq
    have h2 := TSs.uqs ht (by omega)
    have h3 := ((un_ind d).app un_else).uq
    have h2' := TSs.uqs he (by omega)
    have h3' := ((un_ind d).app un_close).uq
    have h4 := h1.app (h2.app (h3.app (h2'.app h3')))
    have h5 := (fst_word (s := [105, 102]) (wo_of (by decide))).inw h4 hd
    have e1 : [wd [105, 102]] ++ (bx ++ [sg [123]] ++ (bt ++ ([] ++ [sg [125], wd [101, 108, 115, 101], sg [123]] ++ (be ++ ([] ++ [sg [125]]))))) = wd [105, 102] :: (bx ++ (sg [123] :: (bt ++ (sg [125] :: wd [101, 108, 115, 101] :: sg [123] :: (be ++ [sg [125]]))))) := by simp
    have e2 : 0 :: sh [wd [105, 102]].length ([] ++ sh (bx ++ [sg [123]]).length (qt ++ sh bt.length ([] ++ sh ([] ++ [sg [125], wd [101, 108, 115, 101], sg [123]] : List Bo).length (qe ++ sh be.length [])))) = 0 :: (sh (bx.length + 2) qt ++ sh (bx.length + bt.length + 5) qe) := by
      simp only [List.length_cons, List.length_nil, List.length_append, List.nil_append, List.append_nil, sh_nil, sh_app, sh_sh]
      rw [show 0 + 1 + (bx.length + (0 + 1)) = bx.length + 2 by omega, show 0 + 1 + (bx.length + (0 + 1) + (bt.length + (0 + 1 + 1 + 1))) = bx.length + bt.length + 5 by omega]
    rw [e1, e2] at h5
    exact h5
theorem TSs.uqs {d : Nat} {l : List ST} {t : List UInt8} {b : List Bo} {q : List Nat} (h : TSs d l t b q) (hd : 1 ≤ d) : Uq t b q := by
  cases h with
  | nil => exact un_nil.uq
  | cons hs hl => exact (TS.uq hs hd).app (TSs.uqs hl hd)
end
end Go.Proofs.YtchokfgffnomoaaDoor.P
/-
  PLAIN MATHEMATICS of programs' texts: whole programs. It proves nothing of Go.
-/
namespace Go.Proofs.YtchokfgffnomoaaDoor.P
open L (Tok)
set_option maxRecDepth 100000
set_option linter.unusedVariables false
set_option linter.unusedSimpArgs false
inductive TI : List (List UInt8 × Int) → List UInt8 → List Bo → List Nat → Prop where
  | nil : TI [] [] [] []
  | cons {l : List UInt8} {n : Nat} {cs : List (List UInt8 × Int)} {t : List UInt8} {b : List Bo} {q : List Nat} (hl : Na l) (hn : n ≤ L.top) (h : TI cs t b q) : TI ((l, (n : Int)) :: cs) ((([105, 110, 105, 116] ++ [32]) ++ ((l ++ [32]) ++ (L.decL n ++ [10]))) ++ t) (wd [105, 110, 105, 116] :: wd l :: nu n :: b) (0 :: sh 3 q)
inductive TT : List (List ST) → List UInt8 → List Bo → List Nat → Prop where
  | nil : TT [] [] [] []
  | cons {l : List ST} {ls : List (List ST)} {tl t : List UInt8} {bl b : List Bo} {ql q : List Nat} (hl : TSs 1 l tl bl ql) (h : TT ls t b q) : TT (l :: ls) ((([116, 104, 114, 101, 97, 100] ++ [32]) ++ (([123] ++ [10]) ++ (tl ++ ([125] ++ [10])))) ++ t) (wd [116, 104, 114, 101, 97, 100] :: ((sg [123] :: (bl ++ [sg [125]])) ++ b)) (sh 2 ql ++ sh (bl.length + 3) q)
inductive TP : PG → List UInt8 → List Bo → List Nat → List Nat → List Nat → Prop where
  | mk {nm : List UInt8} {v k : Nat} {cs : List (List UInt8 × Int)} {ls : List (List ST)} {c : CO} {ti tt tc : List UInt8} {bi bt bc : List Bo} {qi qt : List Nat} (hn : Na nm) (hv : v ≤ L.top) (hi : TI cs ti bi qi) (ht : TT ls tt bt qt) (hk : k = 1 ∨ k = 2) (hc : TC c tc bc) :
      TP ⟨nm, v, cs, ls, k, c⟩ ((([108, 105, 116, 109, 117, 115] ++ [32]) ++ ((nm ++ [32]) ++ (([118, 97, 108, 117, 101, 115] ++ [32]) ++ (L.decL v ++ [10])))) ++ (ti ++ (tt ++ ((askW k ++ [32]) ++ (tc ++ [10]))))) (wd [108, 105, 116, 109, 117, 115] :: wd nm :: wd [118, 97, 108, 117, 101, 115] :: nu v :: (bi ++ (bt ++ (wd (askW k) :: bc)))) (sh 4 qi) (sh (4 + bi.length) qt) [4 + bi.length + bt.length]
theorem TI.si {cs : List (List UInt8 × Int)} {t : List UInt8} {b : List Bo} {q : List Nat} (h : TI cs t b q) : SI cs b q := by
  induction h with
  | nil => exact .nil
  | cons hl hn h ih => exact .cons _ hl.1 ih
theorem TT.sth {ls : List (List ST)} {t : List UInt8} {b : List Bo} {q : List Nat} (h : TT ls t b q) : STh ls b q := by
  induction h with
  | nil => exact .nil
  | cons hl h ih => exact .cons hl.sss ih
theorem TP.sp {p : PG} {t : List UInt8} {b : List Bo} {q1 q2 q3 : List Nat} (h : TP p t b q1 q2 q3) : SP p b (0 :: (q1 ++ (q2 ++ q3))) := by
  cases h with
  | mk hn hv hi ht hk hc => exact .mk hn.1 hi.si ht.sth hk hc.sc
theorem un_numl {n : Nat} (h : n ≤ L.top) : Un (L.decL n ++ [10]) [nu n] := (ea_num h).un un_nl (front_cons (by decide))
theorem TI.un {cs : List (List UInt8 × Int)} {t : List UInt8} {b : List Bo} {q : List Nat} (h : TI cs t b q) : Un t b := by
  induction h with
  | nil => exact un_nil
  | cons hl hn h ih => exact ((un_word (wo_of (by decide))).app ((un_word hl.2).app (un_numl hn))).app ih
theorem TT.uq {ls : List (List ST)} {t : List UInt8} {b : List Bo} {q : List Nat} (h : TT ls t b q) : Uq t b q := by
  induction h with
  | nil => exact un_nil.uq
  | @cons l ls tl t bl b ql q hl h ih =>
    have h1 := (un_word (s := [116, 104, 114, 101, 97, 100]) (wo_of (by decide))).uq
    have h2 := ((un_sign (c := 123) (by decide) (by decide)).app un_nl).uq
    have h3 := hl.uqs (Nat.le_refl 1)
    have h4 := (h1.app (h2.app (h3.app un_close.uq))).app ih
    have e1 : [wd [116, 104, 114, 101, 97, 100]] ++ ([sg [123]] ++ [] ++ (bl ++ [sg [125]])) ++ b = wd [116, 104, 114, 101, 97, 100] :: ((sg [123] :: (bl ++ [sg [125]])) ++ b) := by simp
    have e2 : ([] ++ sh [wd [116, 104, 114, 101, 97, 100]].length ([] ++ sh ([sg [123]] ++ [] : List Bo).length (ql ++ sh bl.length []))) ++ sh ([wd [116, 104, 114, 101, 97, 100]] ++ ([sg [123]] ++ [] ++ (bl ++ [sg [125]])) : List Bo).length q = sh 2 ql ++ sh (bl.length + 3) q := by
      simp only [List.length_cons, List.length_nil, List.length_append, List.nil_append, List.append_nil, sh_nil, sh_app, sh_sh]
      rw [show 0 + 1 + (0 + 1 + (bl.length + (0 + 1))) = bl.length + 3 by omega]
    rw [e1, e2] at h4
    exact h4
theorem ask_wo {k : Nat} (hk : k = 1 ∨ k = 2) : Wo (askW k) := by
  rcases hk with rfl | rfl <;> exact wo_of (by decide)
theorem TP.uq {p : PG} {t : List UInt8} {b : List Bo} {q1 q2 q3 : List Nat} (h : TP p t b q1 q2 q3) : Uq t b q2 := by
  cases h with
  | @mk nm v k cs ls c ti tt tc bi bt bc qi qt hn hv hi ht hk hc =>
    have h1 := ((un_word (s := [108, 105, 116, 109, 117, 115]) (wo_of (by decide))).app ((un_word hn.2).app ((un_word (s := [118, 97, 108, 117, 101, 115]) (wo_of (by decide))).app (un_numl hv)))).uq
    have h2 := hi.un.uq
    have h3 := ht.uq
    have h4 := ((un_word (ask_wo hk)).app (hc.ea.un un_nl (front_cons (by decide)))).uq
    have h5 := h1.app (h2.app (h3.app h4))
    have e1 : [wd [108, 105, 116, 109, 117, 115]] ++ ([wd nm] ++ ([wd [118, 97, 108, 117, 101, 115]] ++ [nu v])) ++ (bi ++ (bt ++ ([wd (askW k)] ++ (bc ++ [])))) = wd [108, 105, 116, 109, 117, 115] :: wd nm :: wd [118, 97, 108, 117, 101, 115] :: nu v :: (bi ++ (bt ++ (wd (askW k) :: bc))) := by simp
    have e2 : [] ++ sh ([wd [108, 105, 116, 109, 117, 115]] ++ ([wd nm] ++ ([wd [118, 97, 108, 117, 101, 115]] ++ [nu v])) : List Bo).length ([] ++ sh bi.length (qt ++ sh bt.length [])) = sh (4 + bi.length) qt := by
      simp only [List.length_cons, List.length_nil, List.length_append, List.nil_append, List.append_nil, sh_nil, sh_app, sh_sh]
    rw [e1, e2] at h5
    exact h5
/-- A text of tokens one by one, and the end. -/
theorem Un.lex {a : List UInt8} {b : List Bo} (h : Un a b) : ∃ ts t0, L.lexL 0 a = .ok ts ∧ Has b ts [t0] ∧ t0.kind = 4 := by
  obtain ⟨ts, h1, h2⟩ := h
  refine ⟨_, ⟨4, [], 0, 0 + a.length⟩, h1.all 0, ⟨ts 0, rfl, h2 0⟩, rfl⟩
/-- A program's text is read as that program. -/
theorem TP.reads {p : PG} {t : List UInt8} {b : List Bo} {q1 q2 q3 : List Nat} (h : TP p t b q1 q2 q3) : ∃ ts, L.lexL 0 t = .ok ts ∧ pProg ts = .ok (p, plc (0 :: (q1 ++ (q2 ++ q3))) ts) := by
  obtain ⟨ts, t0, h1, h2, h3⟩ := h.uq.un.lex
  exact ⟨ts, h1, prog_reads h.sp h2 h3⟩
/-- Whatever text has tokens of these bodies is read as that program. -/
theorem TP.any {p : PG} {t : List UInt8} {b : List Bo} {q1 q2 q3 : List Nat} (h : TP p t b q1 q2 q3) {a : List UInt8} (ha : Un a b) : ∃ ts l, L.lexL 0 a = .ok ts ∧ pProg ts = .ok (p, l) := by
  obtain ⟨ts, t0, h1, h2, h3⟩ := ha.lex
  exact ⟨ts, _, h1, prog_reads h.sp h2 h3⟩
end Go.Proofs.YtchokfgffnomoaaDoor.P
