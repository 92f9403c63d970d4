/-
  PLAIN MATHEMATICS of programs that are made out of numbers: what they are made of, and that they can be shown, and how long that is. It proves nothing of Go.
-/
import Derived.Test.YtchokfgffnomoaaDoorSA
namespace Go.Proofs.YtchokfgffnomoaaDoor.P
open L (Tok)
set_option maxRecDepth 100000
set_option linter.unusedVariables false
set_option linter.unusedSimpArgs false
/-- Names of locations and of registers. -/
def locB (i : Nat) : UInt8 := [120, 121, 122, 119].getD i 120
def regB (i : Nat) : UInt8 := [97, 98, 99, 100].getD i 97
theorem na_of {s : List UInt8} (hw : Wo s) (h1 : Lx.kwB s = false) : Na s := by
  obtain ⟨b, r, hbr, hb, hx⟩ := hw
  exact ⟨⟨h1, b, r, hbr, hb⟩, b, r, hbr, hb, hx⟩
theorem na_loc (i : Nat) : Na [locB i] := by
  rcases i with _ | _ | _ | _ | i
  · exact na_of (s := [120]) (wo_of (by decide)) (by decide)
  · exact na_of (s := [121]) (wo_of (by decide)) (by decide)
  · exact na_of (s := [122]) (wo_of (by decide)) (by decide)
  · exact na_of (s := [119]) (wo_of (by decide)) (by decide)
  · exact na_of (s := [120]) (wo_of (by decide)) (by decide)
theorem na_reg (i : Nat) : Na [regB i] := by
  rcases i with _ | _ | _ | _ | i
  · exact na_of (s := [97]) (wo_of (by decide)) (by decide)
  · exact na_of (s := [98]) (wo_of (by decide)) (by decide)
  · exact na_of (s := [99]) (wo_of (by decide)) (by decide)
  · exact na_of (s := [100]) (wo_of (by decide)) (by decide)
  · exact na_of (s := [97]) (wo_of (by decide)) (by decide)
/-- Names of one letter. -/
def Ones (rs : List (List UInt8)) : Prop := ∀ s ∈ rs, Na s ∧ s.length = 1
/-- An expression that is made: values below v, registers of rs, so deep at most. -/
inductive MX (v : Nat) (rs : List (List UInt8)) : Nat → EX → Prop where
  | num {d n : Nat} (hn : n < v) : MX v rs d (.mk 1 n [] [])
  | reg {d : Nat} {s : List UInt8} (hs : s ∈ rs) : MX v rs d (.mk 2 0 s [])
  | bin {d : Nat} {op : Int} {s : List UInt8} {a b : EX} (h : Sign2 op s) (ha : MX v rs d a) (hb : MX v rs d b) : MX v rs (d + 1) (.mk op 0 [] [a, b])
def lx : Nat → Nat
  | 0 => 1
  | d + 1 => 2 * lx d + 6
theorem lx_pos : ∀ d, 1 ≤ lx d
  | 0 => Nat.le_refl _
  | d + 1 => by
    unfold lx
    omega
theorem dec_one {n : Nat} (h : n < 10) : (L.decL n).length = 1 := by rw [L.dec_small h]; rfl
theorem MX.shown {v : Nat} {rs : List (List UInt8)} {d : Nat} {e : EX} (h : MX v rs d e) (hv : v ≤ 10) (hr : Ones rs) : ∃ t b, TX e t b ∧ t.length ≤ lx d := by
  induction h with
  | @num d n hn =>
    refine ⟨_, _, .num (by unfold L.top; omega), ?_⟩
    rw [dec_one (by omega)]
    exact lx_pos d
  | @reg d s hs =>
    obtain ⟨h1, h2⟩ := hr s hs
    refine ⟨_, _, .reg h1, ?_⟩
    rw [h2]
    exact lx_pos d
  | @bin d op s a b h ha hb iha ihb =>
    obtain ⟨ta, ba, ha, la⟩ := iha
    obtain ⟨tb, bb, hb, lb⟩ := ihb
    refine ⟨_, _, .bin h ha hb, ?_⟩
    have hs : s.length ≤ 2 := by cases h <;> decide
    simp only [List.length_append, List.length_cons, List.length_nil, lx]
    omega
/-- Registers with one more. -/
def wth (rs : List (List UInt8)) (s : List UInt8) : List (List UInt8) := if s ∈ rs then rs else rs ++ [s]
theorem Ones.wth {rs : List (List UInt8)} (h : Ones rs) {s : List UInt8} (hs : Na s ∧ s.length = 1) : Ones (wth rs s) := by
  unfold P.wth
  split
  · exact h
  · intro x hx
    rcases List.mem_append.1 hx with hx | hx
    · exact h x hx
    · rw [List.mem_singleton.1 hx]
      exact hs
theorem wth_len (rs : List (List UInt8)) (s : List UInt8) : (wth rs s).length ≤ rs.length + 1 := by
  unfold wth
  split <;> simp
/-- A statement within nothing that is made, with the registers ahead and behind. -/
inductive M0 (v k : Nat) : List (List UInt8) → ST → List (List UInt8) → Prop where
  | load {m i j : Nat} {rs : List (List UInt8)} (hm : m = 0 ∨ m = 1 ∨ m = 4) (hi : i < 4) (hj : j < k) : M0 v k rs (.mk 2 m [regB i] [locB j] [] [] []) (wth rs [regB i])
  | store {m j : Nat} {rs : List (List UInt8)} {e : EX} (hm : m = 0 ∨ m = 2 ∨ m = 4) (hj : j < k) (he : MX v rs 1 e) : M0 v k rs (.mk 3 m [] [locB j] [e] [] []) rs
  | add {m i j : Nat} {rs : List (List UInt8)} {e : EX} (hm : m < 5) (hi : i < 4) (hj : j < k) (he : MX v rs 1 e) : M0 v k rs (.mk 4 m [regB i] [locB j] [e] [] []) (wth rs [regB i])
  | cas {m i j : Nat} {rs : List (List UInt8)} {e f : EX} (hm : m < 5) (hi : i < 4) (hj : j < k) (he : MX v rs 0 e) (hf : MX v rs 0 f) : M0 v k rs (.mk 5 m [regB i] [locB j] [e, f] [] []) (wth rs [regB i])
  | fence {m : Nat} {rs : List (List UInt8)} (hm : 1 ≤ m) (hm5 : m < 5) : M0 v k rs (.mk 6 m [] [] [] [] []) rs
  | set {i : Nat} {rs : List (List UInt8)} {e : EX} (hi : i < 4) (he : MX v rs 2 e) : M0 v k rs (.mk 1 0 [regB i] [] [e] [] []) (wth rs [regB i])
/-- Statements one behind the other. -/
inductive Sq (R : List (List UInt8) → ST → List (List UInt8) → Prop) : List (List UInt8) → List ST → List (List UInt8) → Prop where
  | nil {rs : List (List UInt8)} : Sq R rs [] rs
  | snoc {r0 r1 r2 : List (List UInt8)} {l : List ST} {s : ST} (hl : Sq R r0 l r1) (hs : R r1 s r2) : Sq R r0 (l ++ [s]) r2
/-- A statement that is made, ifs so deep at most. -/
def MS (v k : Nat) : Nat → List (List UInt8) → ST → List (List UInt8) → Prop
  | 0, rs, s, r => M0 v k rs s r
  | d + 1, rs, s, r => M0 v k rs s r ∨ (r = rs ∧ ∃ e th el r1 r2, s = .mk 7 0 [] [] [e] th el ∧ MX v rs 1 e ∧ Sq (MS v k d) rs th r1 ∧ th.length ≤ 1 ∧ Sq (MS v k d) rs el r2 ∧ el.length ≤ 1)
abbrev MSs (v k d : Nat) := Sq (MS v k d)
theorem M0.ms {v k : Nat} {rs r : List (List UInt8)} {s : ST} (h : M0 v k rs s r) : ∀ d, MS v k d rs s r
  | 0 => h
  | d + 1 => .inl h
/-- How long a statement's text may be, so deep, so far inwards. -/
def lsb : Nat → Nat → Nat
  | 0, x => 2 * x + 50
  | d + 1, x => 6 * x + 60 + 2 * lsb d (x + 1)
theorem lsb_ge : ∀ d x, 2 * x + 50 ≤ lsb d x
  | 0, x => Nat.le_refl _
  | d + 1, x => by
    unfold lsb
    omega
theorem mode_len : ∀ m, m < 5 → (modeT m).length ≤ 6 := by decide
theorem TSs.snoc {x : Nat} {l : List ST} {t : List UInt8} {b : List Bo} {q : List Nat} (h : TSs x l t b q) {s : ST} {ts : List UInt8} {bs : List Bo} {qs : List Nat} (hs : TS x s ts bs qs) : ∃ q', TSs x (l ++ [s]) (t ++ ts) (b ++ bs) q' := by
  match l, t, b, q, h with
  | [], _, _, _, .nil =>
    have h1 := TSs.cons hs (.nil (d := x))
    simp only [List.append_nil] at h1
    exact ⟨_, by simpa using h1⟩
  | s0 :: l, _, _, _, .cons h0 hl =>
    obtain ⟨q', h1⟩ := TSs.snoc hl hs
    have h2 := TSs.cons h0 h1
    simp only [List.append_assoc] at h2 ⊢
    exact ⟨_, h2⟩
theorem len_ind (x : Nat) : (ind x).length = 2 * x := by simp [ind]
theorem M0.shown {v k : Nat} {rs r2 : List (List UInt8)} {s : ST} (h : M0 v k rs s r2) (hv : v ≤ 10) (hr : Ones rs) (x : Nat) : Ones r2 ∧ ∃ t b q, TS x s t b q ∧ t.length ≤ 2 * x + 50 := by
  have hreg : ∀ i, Na [regB i] ∧ ([regB i] : List UInt8).length = 1 := fun i => ⟨na_reg i, rfl⟩
  cases h with
  | @load m i j _ hm hi hj =>
    have hm5 : m < 5 := by omega
    refine ⟨hr.wth (hreg i), _, _, _, .load hm5 (na_reg i) (na_loc j), ?_⟩
    have := mode_len m hm5
    simp only [List.length_append, List.length_cons, List.length_nil, len_ind]
    omega
  | @store m j _ e hm hj he =>
    have hm5 : m < 5 := by omega
    obtain ⟨t, b, he, hl⟩ := he.shown hv hr
    refine ⟨hr, _, _, _, .store hm5 (na_loc j) he, ?_⟩
    have := mode_len m hm5
    have e1 : lx 1 = 8 := rfl
    simp only [List.length_append, List.length_cons, List.length_nil, len_ind]
    omega
  | @add m i j _ e hm hi hj he =>
    obtain ⟨t, b, he, hl⟩ := he.shown hv hr
    refine ⟨hr.wth (hreg i), _, _, _, .add hm (na_reg i) (na_loc j) he, ?_⟩
    have := mode_len m hm
    have e1 : lx 1 = 8 := rfl
    simp only [List.length_append, List.length_cons, List.length_nil, len_ind]
    omega
  | @cas m i j _ e f hm hi hj he hf =>
    obtain ⟨t, b, he, hl⟩ := he.shown hv hr
    obtain ⟨t2, b2, hf, hl2⟩ := hf.shown hv hr
    refine ⟨hr.wth (hreg i), _, _, _, .cas hm (na_reg i) (na_loc j) he hf, ?_⟩
    have := mode_len m hm
    have e1 : lx 0 = 1 := rfl
    simp only [List.length_append, List.length_cons, List.length_nil, len_ind]
    omega
  | @fence m _ hm hm5 =>
    refine ⟨hr, _, _, _, .fence hm5, ?_⟩
    have := mode_len m hm5
    simp only [List.length_append, List.length_cons, List.length_nil, len_ind]
    omega
  | @set i _ e hi he =>
    obtain ⟨t, b, he, hl⟩ := he.shown hv hr
    refine ⟨hr.wth (hreg i), _, _, _, .set (na_reg i) he, ?_⟩
    have e1 : lx 2 = 22 := rfl
    simp only [List.length_append, List.length_cons, List.length_nil, len_ind]
    omega
theorem Sq.shown {R : List (List UInt8) → ST → List (List UInt8) → Prop} {x B : Nat} (hR : ∀ rs s r2, Ones rs → R rs s r2 → Ones r2 ∧ ∃ t b q, TS x s t b q ∧ t.length ≤ B) {rs r2 : List (List UInt8)} {l : List ST} (h : Sq R rs l r2) (hr : Ones rs) : Ones r2 ∧ ∃ t b q, TSs x l t b q ∧ t.length ≤ l.length * B := by
  induction h with
  | nil => exact ⟨hr, _, _, _, .nil, by simp⟩
  | @snoc r1 r2 l s hl hs ih =>
    obtain ⟨o1, t1, b1, q1, h1, l1⟩ := ih
    obtain ⟨o2, t2, b2, q2, h2, l2⟩ := hR _ _ _ o1 hs
    obtain ⟨q', h3⟩ := h1.snoc h2
    refine ⟨o2, _, _, _, h3, ?_⟩
    rw [List.length_append, List.length_append, List.length_cons, List.length_nil, Nat.add_mul, Nat.one_mul]
    omega
theorem MS.shown {v k : Nat} (hv : v ≤ 10) : ∀ (d x : Nat) (rs : List (List UInt8)) (s : ST) (r2 : List (List UInt8)), Ones rs → MS v k d rs s r2 → Ones r2 ∧ ∃ t b q, TS x s t b q ∧ t.length ≤ lsb d x
  | 0, x, rs, s, r2, hr, h => M0.shown h hv hr x
  | d + 1, x, rs, s, r2, hr, h => by
    have hb := lsb_ge (d + 1) x
    rcases h with h | ⟨rfl, e, th, el, r1, r3, rfl, he, ht, h1, hel, h2⟩
    · obtain ⟨o, t, b, q, h3, h4⟩ := M0.shown h hv hr x
      exact ⟨o, t, b, q, h3, by omega⟩
    obtain ⟨t, b, he, hl⟩ := he.shown hv hr
    obtain ⟨_, t1, b1, q1, ht, hl1⟩ := ht.shown (fun rs s r2 => MS.shown hv d (x + 1) rs s r2) hr
    obtain ⟨_, t2, b2, q2, hel', hl2⟩ := hel.shown (fun rs s r2 => MS.shown hv d (x + 1) rs s r2) hr
    refine ⟨hr, ?_⟩
    have e1 : lx 1 = 8 := rfl
    have m1 : th.length * lsb d (x + 1) ≤ 1 * lsb d (x + 1) := Nat.mul_le_mul_right _ h1
    have m2 : el.length * lsb d (x + 1) ≤ 1 * lsb d (x + 1) := Nat.mul_le_mul_right _ h2
    by_cases hn : el = []
    · subst hn
      refine ⟨_, _, _, .ifs he ht, ?_⟩
      simp only [List.length_append, List.length_cons, List.length_nil, len_ind, lsb]
      omega
    · refine ⟨_, _, _, .ife he ht hn hel', ?_⟩
      simp only [List.length_append, List.length_cons, List.length_nil, len_ind, lsb]
      omega
/-- A condition that is made: registers of the threads. -/
inductive MC (v k : Nat) (rg : List (List (List UInt8))) : Nat → CO → Prop where
  | mem {d j n : Nat} (hj : j < k) (hn : n < v) : MC v k rg d (.mk 1 0 [locB j] n [])
  | reg {d t n : Nat} {rs : List (List UInt8)} {s : List UInt8} (ht : rg[t]? = some rs) (hs : s ∈ rs) (hn : n < v) : MC v k rg d (.mk 2 t s n [])
  | not {d : Nat} {a : CO} (ha : MC v k rg d a) : MC v k rg (d + 1) (.mk 3 0 [] 0 [a])
  | and {d : Nat} {a b : CO} (ha : MC v k rg d a) (hb : MC v k rg d b) : MC v k rg (d + 1) (.mk 4 0 [] 0 [a, b])
  | or {d : Nat} {a b : CO} (ha : MC v k rg d a) (hb : MC v k rg d b) : MC v k rg (d + 1) (.mk 5 0 [] 0 [a, b])
def lc : Nat → Nat
  | 0 => 30
  | d + 1 => 2 * lc d + 10
theorem lc_ge : ∀ d, 30 ≤ lc d
  | 0 => Nat.le_refl _
  | d + 1 => by
    have := lc_ge d
    unfold lc
    omega
theorem MC.shown {v k : Nat} {rg : List (List (List UInt8))} {d : Nat} {c : CO} (h : MC v k rg d c) (hv : v ≤ 10) (hr : ∀ rs ∈ rg, Ones rs) (hl : rg.length ≤ 10) : ∃ t b, TC c t b ∧ t.length ≤ lc d := by
  induction h with
  | @mem d j n hj hn =>
    refine ⟨_, _, .mem (na_loc j) (by unfold L.top; omega), ?_⟩
    have := lc_ge d
    simp only [List.length_append, List.length_cons, List.length_nil, dec_one (show n < 10 by omega)]
    omega
  | @reg d t n rs s ht hs hn =>
    obtain ⟨h1, h2⟩ := hr rs (List.mem_of_getElem? ht) s hs
    obtain ⟨htl, _⟩ := List.getElem?_eq_some_iff.1 ht
    refine ⟨_, _, .reg h1 (by unfold L.top; omega) (by unfold L.top; omega), ?_⟩
    have := lc_ge d
    simp only [List.length_append, List.length_cons, List.length_nil, dec_one (show n < 10 by omega), dec_one (show t < 10 by omega)]
    omega
  | not ha iha =>
    obtain ⟨t, b, h, hl⟩ := iha
    refine ⟨_, _, .not h, ?_⟩
    simp only [List.length_append, List.length_cons, List.length_nil, lc]
    omega
  | and ha hb iha ihb =>
    obtain ⟨t, b, h, hl⟩ := iha
    obtain ⟨t2, b2, h2, hl2⟩ := ihb
    refine ⟨_, _, .and h h2, ?_⟩
    simp only [List.length_append, List.length_cons, List.length_nil, lc]
    omega
  | or ha hb iha ihb =>
    obtain ⟨t, b, h, hl⟩ := iha
    obtain ⟨t2, b2, h2, hl2⟩ := ihb
    refine ⟨_, _, .or h h2, ?_⟩
    simp only [List.length_append, List.length_cons, List.length_nil, lc]
    omega
/-- Inits that are made: of the first locations. -/
def MI (v : Nat) (cs : List (List UInt8 × Int)) : Prop := ∀ i c, cs[i]? = some c → ∃ n : Nat, n < v ∧ c = ([locB i], (n : Int))
/-- Threads that are made, with the registers of each. -/
inductive MT (v k m d : Nat) : List (List ST) → List (List (List UInt8)) → Prop where
  | nil : MT v k m d [] []
  | snoc {ls : List (List ST)} {rg : List (List (List UInt8))} {l : List ST} {r : List (List UInt8)} (h : MT v k m d ls rg) (hl : MSs v k d [] l r) (hn : l.length ≤ m) : MT v k m d (ls ++ [l]) (rg ++ [r])
theorem MT.len {v k m d : Nat} {ls : List (List ST)} {rg : List (List (List UInt8))} (h : MT v k m d ls rg) : rg.length = ls.length := by
  induction h with
  | nil => rfl
  | snoc h hl hn ih => simp [ih]
theorem ones_nil : Ones [] := fun s hs => by cases hs
theorem TT.snoc {ls : List (List ST)} {t : List UInt8} {b : List Bo} {q : List Nat} (h : TT ls t b q) {l : List ST} {tl : List UInt8} {bl : List Bo} {ql : List Nat} (hl : TSs 1 l tl bl ql) : ∃ b' q', TT (ls ++ [l]) (t ++ (([116, 104, 114, 101, 97, 100] ++ [32]) ++ (([123] ++ [10]) ++ (tl ++ ([125] ++ [10]))))) b' q' := by
  induction h with
  | nil =>
    have h1 := TT.cons hl .nil
    simp only [List.append_nil] at h1
    exact ⟨_, _, h1⟩
  | cons h0 h ih =>
    obtain ⟨b', q', h1⟩ := ih
    have h2 := TT.cons h0 h1
    rw [← List.append_assoc] at h2
    exact ⟨_, _, h2⟩
theorem MT.shown {v k m d : Nat} {ls : List (List ST)} {rg : List (List (List UInt8))} (h : MT v k m d ls rg) (hv : v ≤ 10) : (∀ rs ∈ rg, Ones rs) ∧ ∃ t b q, TT ls t b q ∧ t.length ≤ ls.length * (m * lsb d 1 + 20) := by
  induction h with
  | nil => exact ⟨fun rs h => (by cases h), _, _, _, .nil, (by simp)⟩
  | @snoc ls rg l r h hl hn ih =>
    obtain ⟨o1, t, b, q, h1, l1⟩ := ih
    obtain ⟨o2, t2, b2, q2, h2, l2⟩ := hl.shown (fun rs s r2 => MS.shown hv d 1 rs s r2) ones_nil
    obtain ⟨b', q', h3⟩ := h1.snoc h2
    refine ⟨fun rs hrs => ?_, _, _, _, h3, ?_⟩
    · rcases List.mem_append.1 hrs with hx | hx
      · exact o1 rs hx
      · rw [List.mem_singleton.1 hx]
        exact o2
    · have m1 : l.length * lsb d 1 ≤ m * lsb d 1 := Nat.mul_le_mul_right _ hn
      simp only [List.length_append, List.length_cons, List.length_nil, Nat.add_mul, Nat.one_mul, Nat.zero_add]
      omega
theorem MI.front {v : Nat} {cs : List (List UInt8 × Int)} (h : MI v cs) (hv : v ≤ 10) : ∃ t b q, TI cs t b q ∧ t.length ≤ cs.length * 20 := by
  have key : ∀ cs : List (List UInt8 × Int), (∀ c ∈ cs, ∃ i n : Nat, n < v ∧ c = ([locB i], (n : Int))) → ∃ t b q, TI cs t b q ∧ t.length ≤ cs.length * 20 := by
    intro cs
    induction cs with
    | nil => exact fun _ => ⟨_, _, _, .nil, by simp⟩
    | cons c cs ih =>
      intro h
      obtain ⟨i, n, hn, rfl⟩ := h c (by simp)
      obtain ⟨t, b, q, h1, l1⟩ := ih fun c hc => h c (by simp [hc])
      refine ⟨_, _, _, .cons (na_loc i) (by unfold L.top; omega) h1, ?_⟩
      simp only [List.length_append, List.length_cons, List.length_nil, dec_one (show n < 10 by omega), Nat.add_mul, Nat.one_mul]
      omega
  refine key cs fun c hc => ?_
  obtain ⟨i, hi, rfl⟩ := List.getElem_of_mem hc
  obtain ⟨n, hn, e⟩ := h i _ (List.getElem?_eq_getElem hi)
  exact ⟨i, n, hn, e⟩
/-- A program that is made: v values, k locations, threads of m statements, ifs so deep. -/
structure MP (v k m d : Nat) (p : PG) : Prop where
  name : p.name = [109, 97, 100, 101]
  vals : p.vals = (v : Int)
  init : MI v p.init
  locs : p.init.length = k
  ask : ∃ a : Nat, p.ask = (a : Int) ∧ (a = 1 ∨ a = 2)
  body : ∃ rg, MT v k m d p.threads rg ∧ MC v k rg 2 p.cond
theorem MP.shown {v k m d : Nat} {p : PG} (h : MP v k m d p) (hv : v ≤ 9) (hk : k ≤ 10) (hl : p.threads.length ≤ 10) : ∃ t b q1 q2 q3, TP p t b q1 q2 q3 ∧ t.length ≤ 600 + 10 * (m * lsb d 1 + 20) := by
  obtain ⟨nm, vs, cs, ls, ak, c⟩ := p
  obtain ⟨h1, h2, h3, h4, ⟨a, h5, ha⟩, rg, h6, h7⟩ := h
  simp only at h1 h2 h3 h4 h5 h6 h7 hl
  subst h1 h2 h5
  obtain ⟨o1, tt, bt, qt, ht, lt⟩ := h6.shown (by omega)
  obtain ⟨tc, bc, hc, lcc⟩ := h7.shown (by omega) o1 (by rw [h6.len]; omega)
  obtain ⟨ti, bi, qi, hi, li⟩ := h3.front (by omega)
  refine ⟨_, _, _, _, _, .mk (na_of (wo_of (by decide)) (by decide)) (by unfold L.top; omega) hi ht ha hc, ?_⟩
  have e1 : lc 2 = 150 := rfl
  have e2 : (askW a).length = 6 := by rcases ha with rfl | rfl <;> rfl
  have m1 : ls.length * (m * lsb d 1 + 20) ≤ 10 * (m * lsb d 1 + 20) := Nat.mul_le_mul_right _ hl
  have m2 : cs.length * 20 ≤ 10 * 20 := Nat.mul_le_mul_right _ (by omega)
  simp only [List.length_append, List.length_cons, List.length_nil, dec_one (show v < 10 by omega), e2]
  omega
end Go.Proofs.YtchokfgffnomoaaDoor.P
