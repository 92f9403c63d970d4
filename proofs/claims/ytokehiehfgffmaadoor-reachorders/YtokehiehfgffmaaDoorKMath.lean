/-
  PLAIN MATHEMATICS OF REACHING: ways, what comes to what, orders and depths. It proves nothing of Go by itself.
-/
import Derived.Test.YtokehiehfgffmaaDoorRAlg
namespace Go.Proofs.YtokehiehfgffmaaDoor
set_option linter.unusedVariables false
set_option linter.unusedSimpArgs false

/-- One comes from i to j in one step or more. -/
inductive Way (xs : List Nat) : Nat → Nat → Prop
  | one {i j : Nat} : bf xs i j → Way xs i j
  | on {i k j : Nat} : bf xs i k → Way xs k j → Way xs i j
theorem Way.trans {xs : List Nat} {i k j : Nat} (h1 : Way xs i k) (h2 : Way xs k j) : Way xs i j := by
  induction h1 with
  | one h => exact .on h h2
  | on h _ ih => exact .on h (ih h2)
theorem Way.snoc {xs : List Nat} {i k j : Nat} (h1 : Way xs i k) (h2 : bf xs k j) : Way xs i j := h1.trans (.one h2)
theorem Way.last {xs : List Nat} {i j : Nat} (h : Way xs i j) : bf xs i j ∨ ∃ k, Way xs i k ∧ bf xs k j := by
  induction h with
  | one h => exact .inl h
  | on h h2 ih =>
    rcases ih with h3 | ⟨k, h3, h4⟩
    · exact .inr ⟨_, .one h, h3⟩
    · exact .inr ⟨k, .on h h3, h4⟩
theorem Way.mono {xs ys : List Nat} (hs : ∀ i j, bf xs i j → Way ys i j) {i j : Nat} (h : Way xs i j) : Way ys i j := by
  induction h with
  | one h => exact hs _ _ h
  | on h _ ih => exact (hs _ _ h).trans ih
theorem Way.turn {xs ys : List Nat} (hs : ∀ i j, bf xs i j → bf ys j i) {i j : Nat} (h : Way xs i j) : Way ys j i := by
  induction h with
  | one h => exact .one (hs _ _ h)
  | on h _ ih => exact ih.snoc (hs _ _ h)
theorem Way.lt {n : Nat} {xs : List Nat} (hr : Rel n xs) {i j : Nat} (h : Way xs i j) : i < n ∧ j < n := by
  induction h with
  | one h => exact ⟨(hr.lt h).1, (hr.lt h).2.1⟩
  | on h _ ih => exact ⟨(hr.lt h).1, ih.2⟩
theorem rel_of {n : Nat} {ms : List Nat} (hl : ms.length = n) (hn : n ≤ 64) (hw : R.Words ms) (h : ∀ i j, bf ms i j → j < n) : Rel n ms :=
  ⟨hl, hw, (R.may_iff hw).2 ⟨by omega, fun i j _ hb => by rw [hl]; exact h i j hb⟩⟩

/-! ### what comes to what -/
/-- The rows, with ways led through k. -/
def thru (rs : List Nat) (k : Nat) : List Nat := R.tab rs.length fun x => if (R.row rs x).testBit k then R.row rs x ||| R.row rs k else R.row rs x
theorem thru_len (rs : List Nat) (k : Nat) : (thru rs k).length = rs.length := R.tab_len _ _
theorem thru_iff (rs : List Nat) (k i j : Nat) : bf (thru rs k) i j ↔ bf rs i j ∨ (bf rs i k ∧ bf rs k j) := by
  unfold bf thru
  rw [R.tab_row]
  by_cases hi : i < rs.length
  · rw [if_pos hi]
    by_cases hk : (R.row rs i).testBit k = true
    · rw [if_pos hk, Nat.testBit_or]
      simp [hk]
    · rw [if_neg hk]
      simp [hk]
  · have := R.row_out (xs := rs) (i := i) (by omega)
    simp [hi, this]
theorem thru_words {rs : List Nat} (h : R.Words rs) (k : Nat) : R.Words (thru rs k) := by
  refine R.tab_words fun i _ => ?_
  split
  · exact Nat.or_lt_two_pow (h i) (h k)
  · exact h i
theorem thru_rel {n : Nat} {rs : List Nat} (h : Rel n rs) (k : Nat) : Rel n (thru rs k) := by
  refine rel_of (by rw [thru_len, h.1]) h.le (thru_words h.2.1 k) fun i j hb => ?_
  rcases (thru_iff rs k i j).1 hb with hb | ⟨_, hb⟩
  · exact (h.lt hb).2.1
  · exact (h.lt hb).2.1
structure PInv (n : Nat) (xs D rs : List Nat) : Prop where
  rel : Rel n rs
  sub : ∀ i j, bf xs i j → bf rs i j
  way : ∀ i j, bf rs i j → Way xs i j
  cl : ∀ d ∈ D, ∀ i j, bf rs i d → bf rs d j → bf rs i j
theorem PInv.step {n : Nat} {xs D rs : List Nat} (h : PInv n xs D rs) (k : Nat) : PInv n xs (D ++ [k]) (thru rs k) := by
  refine ⟨thru_rel h.rel k, fun i j hb => (thru_iff _ _ _ _).2 (.inl (h.sub i j hb)), fun i j hb => ?_, fun d hd i j h1 h2 => ?_⟩
  · rcases (thru_iff _ _ _ _).1 hb with hb | ⟨h1, h2⟩
    · exact h.way _ _ hb
    · exact (h.way _ _ h1).trans (h.way _ _ h2)
  · rw [thru_iff] at h1 h2 ⊢
    simp only [List.mem_append, List.mem_singleton] at hd
    rcases hd with hd | rfl
    · rcases h1 with h1 | ⟨h1, h1'⟩ <;> rcases h2 with h2 | ⟨h2, h2'⟩
      · exact .inl (h.cl d hd i j h1 h2)
      · exact .inr ⟨h.cl d hd i k h1 h2, h2'⟩
      · exact .inr ⟨h1, h.cl d hd k j h1' h2⟩
      · exact .inr ⟨h1, h2'⟩
    · rcases h1 with h1 | ⟨h1, _⟩ <;> rcases h2 with h2 | ⟨_, h2⟩ <;> exact .inr ⟨h1, h2⟩
theorem PInv.fold {n : Nat} {xs : List Nat} : ∀ (l D rs : List Nat), PInv n xs D rs → PInv n xs (D ++ l) (l.foldl thru rs)
  | [], D, rs, h => by simpa using h
  | k :: l, D, rs, h => by
    have := PInv.fold l (D ++ [k]) (thru rs k) (h.step k)
    simpa using this
def plusR (xs : List Nat) : List Nat := if R.mayR xs then (List.range xs.length).foldl thru xs else []
theorem plus_inv {n : Nat} {xs : List Nat} (h : Rel n xs) : PInv n xs (List.range n) (plusR xs) := by
  have h0 : PInv n xs [] xs := ⟨h, fun _ _ hb => hb, fun _ _ hb => .one hb, fun d hd => by simp at hd⟩
  have := PInv.fold (List.range n) [] xs h0
  unfold plusR
  rw [if_pos h.2.2, h.1]
  simpa using this
theorem plus_rel {n : Nat} {xs : List Nat} (h : Rel n xs) : Rel n (plusR xs) := (plus_inv h).rel
theorem plus_trans {n : Nat} {xs : List Nat} (h : Rel n xs) {i k j : Nat} (h1 : bf (plusR xs) i k) (h2 : bf (plusR xs) k j) : bf (plusR xs) i j :=
  (plus_inv h).cl k (List.mem_range.2 ((plus_rel h).lt h1).2.1) i j h1 h2
theorem plus_iff {n : Nat} {xs : List Nat} (h : Rel n xs) (i j : Nat) : bf (plusR xs) i j ↔ Way xs i j := by
  constructor
  · exact (plus_inv h).way i j
  · intro hw
    induction hw with
    | one hb => exact (plus_inv h).sub _ _ hb
    | on hb _ ih => exact plus_trans h ((plus_inv h).sub _ _ hb) ih
theorem plusR_words {xs : List Nat} (hw : R.Words xs) : R.Words (plusR xs) := by
  unfold plusR
  split
  · rename_i hm
    have h : Rel xs.length xs := ⟨rfl, hw, hm⟩
    have := (plus_rel h).2.1
    unfold plusR at this
    rwa [if_pos hm] at this
  · exact R.words_of (by simp)
def starR (xs : List Nat) : List Nat := R.tab (plusR xs).length fun x => M.putN (R.row (plusR xs) x) (x : Int)
theorem star_len (xs : List Nat) : (starR xs).length = (plusR xs).length := R.tab_len _ _
theorem star_iff {n : Nat} {xs : List Nat} (h : Rel n xs) (i j : Nat) : bf (starR xs) i j ↔ (i = j ∧ i < n) ∨ Way xs i j := by
  rw [← plus_iff h]
  unfold bf starR
  have hp := plus_rel h
  rw [R.tab_row, hp.1]
  by_cases hi : i < n
  · rw [if_pos hi]
    by_cases hj : j < 64
    · rw [M.putN_testBit _ _ _ hj]
      simp only [Bool.or_eq_true, decide_eq_true_eq]
      constructor
      · rintro (h1 | h1)
        · exact .inr h1
        · exact .inl ⟨by omega, hi⟩
      · rintro (⟨h1, _⟩ | h1)
        · exact .inr (by omega)
        · exact .inl h1
    · rw [M.high _ j (M.putN_lt _ _ (hp.2.1 i)) (by omega), M.high _ j (hp.2.1 i) (by omega)]
      have := h.le
      simp
      omega
  · rw [if_neg hi, R.row_out (by rw [hp.1]; omega)]
    simp [hi]
theorem starR_words {xs : List Nat} (hw : R.Words xs) : R.Words (starR xs) := R.tab_words fun i _ => M.putN_lt _ _ (plusR_words hw i)
theorem star_rel {n : Nat} {xs : List Nat} (h : Rel n xs) : Rel n (starR xs) := by
  refine rel_of (by rw [star_len, (plus_rel h).1]) h.le (starR_words h.2.1) fun i j hb => ?_
  rcases (star_iff h i j).1 hb with ⟨rfl, h1⟩ | h1
  · exact h1
  · exact (h1.lt h).2

/-! ### what is above and below a set -/
def upN (xs : List Nat) (s : Nat) : Nat := (s &&& R.things xs.length) ||| R.intoN (plusR xs) (s &&& R.things xs.length)
def upR (xs : List Nat) (s : Nat) : Nat := if R.mayR xs then upN xs s else 0
def downR (xs : List Nat) (s : Nat) : Nat := upN (R.backR xs) s
theorem upN_lt {xs : List Nat} (hw : R.Words xs) (s : Nat) (hs : s < 2 ^ 64) : upN xs s < 2 ^ 64 :=
  Nat.or_lt_two_pow (Nat.lt_of_le_of_lt Nat.and_le_left hs) (R.intoN_lt _ _ (plusR_words hw))
theorem upN_bit {n : Nat} {xs : List Nat} (h : Rel n xs) (s j : Nat) (hj : j < 64) : (upN xs s).testBit j = true ↔ (j < n ∧ s.testBit j = true) ∨ ∃ i, i < n ∧ s.testBit i = true ∧ Way xs i j := by
  unfold upN
  have hn := h.le
  rw [Nat.testBit_or, Bool.or_eq_true, R.intoN_bit, Nat.testBit_and, h.1, R.things_bit _ _ hj]
  simp only [Bool.and_eq_true, decide_eq_true_eq]
  refine or_congr ⟨fun ⟨a, b⟩ => ⟨b, a⟩, fun ⟨a, b⟩ => ⟨b, a⟩⟩ ?_
  constructor
  · rintro ⟨i, hi, h1, h2⟩
    rw [Nat.testBit_and, R.things_bit _ _ hi] at h1
    simp only [Bool.and_eq_true, decide_eq_true_eq] at h1
    exact ⟨i, h1.2, h1.1, (plus_iff h i j).1 h2⟩
  · rintro ⟨i, hi, h1, h2⟩
    refine ⟨i, by omega, ?_, (plus_iff h i j).2 h2⟩
    rw [Nat.testBit_and, R.things_bit _ _ (by omega)]
    simp [h1, hi]
theorem up_of {n : Nat} {xs : List Nat} (h : Rel n xs) (s met : Nat) (hs : s < 2 ^ 64) (hm : met < 2 ^ 64)
    (h1 : ∀ j, met.testBit j = true → (j < n ∧ s.testBit j = true) ∨ ∃ i, i < n ∧ s.testBit i = true ∧ Way xs i j)
    (h2 : ∀ j, j < n → s.testBit j = true → met.testBit j = true) (h3 : ∀ i j, met.testBit i = true → bf xs i j → met.testBit j = true) : met = upN xs s := by
  refine M.ext _ _ hm (upN_lt h.2.1 s hs) fun j hj => ?_
  rw [Bool.eq_iff_iff, upN_bit h s j hj]
  constructor
  · exact h1 j
  · rintro (⟨a, b⟩ | ⟨i, a, b, c⟩)
    · exact h2 j a b
    · have key : ∀ {i j}, Way xs i j → met.testBit i = true → met.testBit j = true := by
        intro i j hw
        induction hw with
        | one hb => exact fun hi => h3 _ _ hi hb
        | on hb _ ih => exact fun hi => ih (h3 _ _ hi hb)
      exact key c (h2 i a b)

/-! ### counting -/
theorem filter_lt {p q : Nat → Bool} : ∀ (l : List Nat), (∀ x ∈ l, p x = true → q x = true) → (∃ x ∈ l, q x = true ∧ p x = false) → (l.filter p).length < (l.filter q).length
  | [], _, h => by
    obtain ⟨x, hx, _⟩ := h
    simp at hx
  | a :: l, hs, h => by
    have hle : (l.filter p).length ≤ (l.filter q).length := by
      have : ∀ (l : List Nat), (∀ x ∈ l, p x = true → q x = true) → (l.filter p).length ≤ (l.filter q).length := by
        intro l
        induction l with
        | nil => intro _; simp
        | cons b l ih =>
          intro hs
          have h1 := ih (fun x hx => hs x (by simp [hx]))
          have h2 := hs b (by simp)
          simp only [List.filter_cons]
          cases hp : p b <;> cases hq : q b <;> simp [hp, hq] at h2 ⊢ <;> omega
      exact this l (fun x hx => hs x (by simp [hx]))
    have ha := hs a (by simp)
    simp only [List.filter_cons]
    by_cases hx : q a = true ∧ p a = false
    · rw [hx.1, hx.2]
      simp
      omega
    · have hex : ∃ x ∈ l, q x = true ∧ p x = false := by
        obtain ⟨x, hxl, hx2⟩ := h
        rcases List.mem_cons.1 hxl with rfl | hxl
        · exact absurd hx2 hx
        · exact ⟨x, hxl, hx2⟩
      have := filter_lt l (fun x hx => hs x (by simp [hx])) hex
      cases hp : p a <;> cases hq : q a <;> simp [hp, hq] at ha ⊢ <;> omega
theorem filter_drop {p : Nat → Bool} (x : Nat) : ∀ (l : List Nat), l.Nodup → x ∈ l → p x = true → (l.filter fun i => p i && !decide ((x : Int) = (i : Int))).length + 1 = (l.filter p).length
  | [], _, h, _ => by simp at h
  | a :: l, hn, h, hp => by
    obtain ⟨hn1, hn2⟩ := List.nodup_cons.1 hn
    simp only [List.filter_cons]
    rcases List.mem_cons.1 h with hxa | hl
    · subst hxa
      have e : l.filter (fun i => p i && !decide ((x : Int) = (i : Int))) = l.filter p := by
        apply List.filter_congr
        intro i hi
        have : ¬ (x : Int) = (i : Int) := by
          intro e
          have : x = i := by omega
          subst this
          exact hn1 hi
        simp [this]
      simp [hp, e]
    · have ih := filter_drop x l hn2 hl hp
      have : ¬ (x : Int) = (a : Int) := by
        intro e
        have : x = a := by omega
        subst this
        exact hn1 hl
      simp only [this, decide_false, Bool.not_false, Bool.and_true]
      cases hpa : p a <;> simp <;> omega
theorem cnt_drop (s x : Nat) (hs : s < 2 ^ 64) (hx : x < 64) (hb : s.testBit x = true) : M.cnt (M.dropN s (x : Nat)) + 1 = M.cnt s := by
  unfold M.cnt M.bl
  have e : (List.range 64).filter (fun i => (M.dropN s (x : Nat)).testBit i) = (List.range 64).filter (fun i => s.testBit i && !decide ((x : Int) = (i : Int))) := by
    apply List.filter_congr
    intro i hi
    rw [M.dropN_testBit _ _ _ (List.mem_range.1 hi) hs]
  rw [e]
  exact filter_drop x _ List.nodup_range (List.mem_range.2 hx) hb
theorem cnt_less (s t : Nat) (hs : s < 2 ^ 64) (ht : t < 2 ^ 64) (x : Nat) (h1 : s.testBit x = true) (h2 : t.testBit x = true) : M.cnt (M.lessN s t) < M.cnt s := by
  unfold M.cnt M.bl
  apply filter_lt
  · intro i _ hb
    rw [M.lessN_testBit _ _ _ hs ht] at hb
    simp at hb
    exact hb.1
  · refine ⟨x, ?_, h1, by rw [M.lessN_testBit _ _ _ hs ht]; simp [h2]⟩
    apply List.mem_range.2
    apply Nat.lt_of_not_le
    intro hge
    rw [M.high s x hs hge] at h1
    cases h1
theorem cnt_zero {s : Nat} (hs : s < 2 ^ 64) (h : M.cnt s = 0) : s = 0 := by
  apply Classical.byContradiction
  intro h0
  have := M.cnt_pos s h0 hs
  omega
theorem cnt_things (n : Nat) (hn : n ≤ 64) : M.cnt (R.things n) = n := by
  unfold M.cnt
  rw [R.bl_things n hn]
  simp
theorem bit_lt {s x : Nat} (hs : s < 2 ^ 64) (hb : s.testBit x = true) : x < 64 := by
  apply Nat.lt_of_not_le
  intro hge
  rw [M.high s x hs hge] at hb
  cases hb
theorem ne_bit {s : Nat} (h : s ≠ 0) : ∃ x, s.testBit x = true := Nat.exists_testBit_of_ne_zero h

/-! ### ways round -/
theorem round_of_stuck {n : Nat} {xs : List Nat} (h : Rel n xs) (F : Nat → Prop) (hne : ∃ x, F x) (hF : ∀ x, F x → ∃ y, F y ∧ bf xs y x) : ∃ x, Way xs x x := by
  apply Classical.byContradiction
  intro hno
  have key : ∀ m x, F x → ((List.range n).filter (fun y => (R.row (plusR xs) y).testBit x)).length ≤ m → False := by
    intro m
    induction m with
    | zero =>
      intro x hx hl
      obtain ⟨y, hy, hb⟩ := hF x hx
      have : y ∈ (List.range n).filter (fun y => (R.row (plusR xs) y).testBit x) := List.mem_filter.2 ⟨List.mem_range.2 (h.lt hb).1, (plus_iff h y x).2 (.one hb)⟩
      have := List.length_pos_of_mem this
      omega
    | succ m ih =>
      intro x hx hl
      obtain ⟨y, hy, hb⟩ := hF x hx
      refine ih y hy ?_
      have := filter_lt (p := fun z => (R.row (plusR xs) z).testBit y) (q := fun z => (R.row (plusR xs) z).testBit x) (List.range n) (fun z _ hz => (plus_iff h z x).2 (((plus_iff h z y).1 hz).snoc hb)) ⟨y, List.mem_range.2 (h.lt hb).1, (plus_iff h y x).2 (.one hb), ?_⟩
      · omega
      · rw [Bool.eq_false_iff]
        intro hz
        exact hno ⟨y, (plus_iff h y y).1 hz⟩
  obtain ⟨x, hx⟩ := hne
  exact key _ x hx (Nat.le_refl _)

/-! ### what is free -/
def freeN (xs : List Nat) (L : Nat) : Nat := M.lessN L (R.intoR xs L)
theorem intoR_lt {xs : List Nat} (hw : R.Words xs) (s : Nat) : R.intoR xs s < 2 ^ 64 := by
  unfold R.intoR
  split
  · exact R.intoN_lt _ _ hw
  · decide
theorem freeN_lt (xs : List Nat) {L : Nat} (hL : L < 2 ^ 64) : freeN xs L < 2 ^ 64 := M.lessN_lt _ _ hL
theorem free_bit {n : Nat} {xs : List Nat} (h : Rel n xs) {L : Nat} (hL : L < 2 ^ 64) (hs : ∀ x, L.testBit x = true → x < n) (x : Nat) : (freeN xs L).testBit x = true ↔ L.testBit x = true ∧ ∀ y, L.testBit y = true → ¬ bf xs y x := by
  unfold freeN
  rw [M.lessN_testBit _ _ _ hL (intoR_lt h.2.1 _)]
  simp only [Bool.and_eq_true, Bool.not_eq_true']
  refine and_congr_right fun hx => ?_
  have e : R.intoR xs L = R.intoN xs (L &&& R.things n) := by unfold R.intoR; rw [if_pos h.2.2, h.1]
  rw [e, Bool.eq_false_iff, Ne, R.intoN_bit]
  constructor
  · intro hn y hy hb
    refine hn ⟨y, bit_lt hL hy, ?_, hb⟩
    rw [Nat.testBit_and, R.things_bit _ _ (bit_lt hL hy)]
    simp [hy, hs y hy]
  · rintro hn ⟨y, h64, hy, hb⟩
    rw [Nat.testBit_and] at hy
    simp only [Bool.and_eq_true] at hy
    exact hn y hy.1 hb
theorem stuck {n : Nat} {xs : List Nat} (h : Rel n xs) {L : Nat} (hL : L < 2 ^ 64) (hs : ∀ x, L.testBit x = true → x < n) (h0 : L ≠ 0) (hf : freeN xs L = 0) : ∃ x, Way xs x x := by
  refine round_of_stuck h (fun x => L.testBit x = true) (ne_bit h0) fun x hx => ?_
  apply Classical.byContradiction
  intro hno
  have : (freeN xs L).testBit x = true := (free_bit h hL hs x).2 ⟨hx, fun y hy hb => hno ⟨y, hy, hb⟩⟩
  rw [hf] at this
  simp at this

/-! ### the order -/
/-- The least that is free. -/
def nextN (xs : List Nat) (L : Nat) : Nat := Lib.ctz 64 (freeN xs L)
theorem next_bits {n : Nat} {xs : List Nat} (h : Rel n xs) {L : Nat} (hL : L < 2 ^ 64) (hs : ∀ x, L.testBit x = true → x < n) (hf : freeN xs L ≠ 0) : nextN xs L < n ∧ L.testBit (nextN xs L) = true ∧ (∀ y, L.testBit y = true → ¬ bf xs y (nextN xs L)) ∧ ∀ y, (freeN xs L).testBit y = true → nextN xs L ≤ y := by
  obtain ⟨h1, h2, h3⟩ := M.ctz_bits _ hf (freeN_lt xs hL)
  obtain ⟨h4, h5⟩ := (free_bit h hL hs _).1 h2
  refine ⟨hs _ h4, h4, h5, fun y hy => ?_⟩
  apply Nat.le_of_not_lt
  intro hlt
  have := h3 y hlt
  rw [hy] at this
  cases this
def peelO (xs : List Nat) : Nat → Nat → List Nat → List Nat × Nat
  | 0, L, l => (l, L)
  | f + 1, L, l => if freeN xs L = 0 then (l, L) else peelO xs f (M.dropN L (nextN xs L : Nat)) (l ++ [nextN xs L])
theorem peelO_stop {xs : List Nat} {L : Nat} (h : freeN xs L = 0) (f : Nat) (l : List Nat) : peelO xs f L l = (l, L) := by
  cases f with
  | zero => rfl
  | succ f => simp [peelO, h]
theorem peelO_go {xs : List Nat} {L : Nat} (h : freeN xs L ≠ 0) (f : Nat) (l : List Nat) : peelO xs (f + 1) L l = peelO xs f (M.dropN L (nextN xs L : Nat)) (l ++ [nextN xs L]) := by
  simp [peelO, h]
def ordEnd (xs : List Nat) : List Nat × Nat := peelO xs 64 (R.things xs.length) []
structure OInv (n : Nat) (xs l : List Nat) (L : Nat) : Prop where
  lt : L < 2 ^ 64
  bit : ∀ x, L.testBit x = true ↔ x < n ∧ x ∉ l
  nd : l.Nodup
  ins : ∀ x ∈ l, x < n
  cnt : M.cnt L + l.length = n
  pre : ∀ i, i < l.length → ∀ y, bf xs y (l.getD i 0) → ∃ j, j < i ∧ l.getD j 0 = y
  asc : ∀ i, i + 1 < l.length → l.getD (i + 1) 0 < l.getD i 0 → bf xs (l.getD i 0) (l.getD (i + 1) 0)
  last : ∀ i, i + 1 = l.length → ∀ y, (freeN xs L).testBit y = true → y < l.getD i 0 → bf xs (l.getD i 0) y
theorem getD_snoc_old {l : List Nat} {x i : Nat} (h : i < l.length) : (l ++ [x]).getD i 0 = l.getD i 0 := by
  simp [List.getD, h, List.getElem?_append_left h]
theorem getD_snoc_new {l : List Nat} {x : Nat} : (l ++ [x]).getD l.length 0 = x := by
  simp [List.getD]
theorem mem_getD {l : List Nat} {x : Nat} (h : x ∈ l) : ∃ i, i < l.length ∧ l.getD i 0 = x := by
  obtain ⟨i, hi, rfl⟩ := List.getElem_of_mem h
  exact ⟨i, hi, by simp [List.getD, hi]⟩
theorem getD_mem {l : List Nat} {i : Nat} (h : i < l.length) : l.getD i 0 ∈ l := by
  simp [List.getD, h]
theorem OInv.start {n : Nat} {xs : List Nat} (h : Rel n xs) : OInv n xs [] (R.things n) := by
  have hn := h.le
  refine ⟨R.things_lt n, fun x => ?_, List.nodup_nil, fun x hx => by simp at hx, by simpa using cnt_things n hn, fun i hi => by simp at hi, fun i hi => by simp at hi, fun i hi => by simp at hi⟩
  constructor
  · intro hb
    rw [R.things_bit _ _ (bit_lt (R.things_lt n) hb)] at hb
    simpa using hb
  · rintro ⟨hx, _⟩
    rw [R.things_bit _ _ (by omega)]
    simpa using hx
theorem OInv.step {n : Nat} {xs l : List Nat} {L : Nat} (hr : Rel n xs) (h : OInv n xs l L) (hf : freeN xs L ≠ 0) : OInv n xs (l ++ [nextN xs L]) (M.dropN L (nextN xs L : Nat)) := by
  have hs : ∀ x, L.testBit x = true → x < n := fun x hx => ((h.bit x).1 hx).1
  obtain ⟨hx1, hx2, hx3, hx4⟩ := next_bits hr h.lt hs hf
  have hn := hr.le
  generalize hx : nextN xs L = x at *
  have hxl : x ∉ l := ((h.bit x).1 hx2).2
  have hbit : ∀ y, (M.dropN L (x : Nat)).testBit y = true ↔ y < n ∧ y ∉ l ++ [x] := by
    intro y
    by_cases hy : y < 64
    · rw [M.dropN_testBit _ _ _ hy h.lt]
      simp only [Bool.and_eq_true, Bool.not_eq_true', decide_eq_false_iff_not, h.bit, List.mem_append, List.mem_singleton, not_or]
      constructor
      · rintro ⟨⟨a, b⟩, c⟩
        exact ⟨a, b, by omega⟩
      · rintro ⟨a, b, c⟩
        exact ⟨⟨a, b⟩, by omega⟩
    · rw [M.high _ y (M.dropN_lt _ _ h.lt) (by omega)]
      simp
      omega
  refine ⟨M.dropN_lt _ _ h.lt, hbit, ?_, ?_, ?_, ?_, ?_, ?_⟩
  · rw [List.nodup_append]
    refine ⟨h.nd, by simp, fun a ha b hb => ?_⟩
    simp only [List.mem_singleton] at hb
    rintro rfl
    subst hb
    exact hxl ha
  · intro y hy
    simp only [List.mem_append, List.mem_singleton] at hy
    rcases hy with hy | rfl
    · exact h.ins y hy
    · exact hx1
  · have := cnt_drop L x h.lt (by omega) hx2
    have := h.cnt
    simp
    omega
  · intro i hi y hb
    simp only [List.length_append, List.length_singleton] at hi
    by_cases hil : i < l.length
    · rw [getD_snoc_old hil] at hb
      obtain ⟨j, hj, e⟩ := h.pre i hil y hb
      exact ⟨j, hj, by rw [getD_snoc_old (by omega)]; exact e⟩
    · obtain rfl : i = l.length := by omega
      rw [getD_snoc_new] at hb
      have : y ∈ l := by
        apply Classical.byContradiction
        intro hy
        exact hx3 y ((h.bit y).2 ⟨(hr.lt hb).1, hy⟩) hb
      obtain ⟨j, hj, e⟩ := mem_getD this
      exact ⟨j, hj, by rw [getD_snoc_old hj]; exact e⟩
  · intro i hi hlt
    simp only [List.length_append, List.length_singleton] at hi
    by_cases hil : i + 1 < l.length
    · rw [getD_snoc_old hil, getD_snoc_old (by omega)] at *
      exact h.asc i hil hlt
    · have e : i + 1 = l.length := by omega
      have e1 : (l ++ [x]).getD (i + 1) 0 = x := by rw [e]; exact getD_snoc_new
      have e2 : (l ++ [x]).getD i 0 = l.getD i 0 := getD_snoc_old (by omega)
      rw [e1, e2] at hlt ⊢
      refine h.last i e x ?_ hlt
      exact (free_bit hr h.lt hs x).2 ⟨hx2, hx3⟩
  · intro i hi y hy hlt
    simp only [List.length_append, List.length_singleton] at hi
    obtain rfl : i = l.length := by omega
    rw [getD_snoc_new] at *
    have hs' : ∀ y, (M.dropN L (x : Nat)).testBit y = true → y < n := fun y hy => ((hbit y).1 hy).1
    obtain ⟨h1, h2⟩ := (free_bit hr (M.dropN_lt _ _ h.lt) hs' y).1 hy
    obtain ⟨h3, h4⟩ := (hbit y).1 h1
    have hyL : L.testBit y = true := (h.bit y).2 ⟨h3, fun hc => h4 (by simp [hc])⟩
    apply Classical.byContradiction
    intro hno
    have : (freeN xs L).testBit y = true := by
      refine (free_bit hr h.lt hs y).2 ⟨hyL, fun z hz hb => ?_⟩
      by_cases hzx : z = x
      · subst hzx
        exact hno hb
      · have hz' := (h.bit z).1 hz
        exact h2 z ((hbit z).2 ⟨hz'.1, by simp [hz'.2, hzx]⟩) hb
    have := hx4 y this
    omega
theorem peelO_inv {n : Nat} {xs : List Nat} (hr : Rel n xs) : ∀ (f L : Nat) (l : List Nat), M.cnt L ≤ f → OInv n xs l L → OInv n xs (peelO xs f L l).1 (peelO xs f L l).2 ∧ freeN xs (peelO xs f L l).2 = 0
  | 0, L, l, hc, h => by
    refine ⟨h, ?_⟩
    have : L = 0 := cnt_zero h.lt (by omega)
    subst this
    show M.lessN 0 _ = 0
    simp [M.lessN]
  | f + 1, L, l, hc, h => by
    by_cases hf : freeN xs L = 0
    · rw [peelO_stop hf]
      exact ⟨h, hf⟩
    · rw [peelO_go hf]
      obtain ⟨h1, h2, _⟩ := next_bits hr h.lt (fun x hx => ((h.bit x).1 hx).1) hf
      have := cnt_drop L _ h.lt (bit_lt h.lt h2) h2
      exact peelO_inv hr f _ _ (by omega) (h.step hr hf)
theorem ord_inv {n : Nat} {xs : List Nat} (hr : Rel n xs) : OInv n xs (ordEnd xs).1 (ordEnd xs).2 ∧ freeN xs (ordEnd xs).2 = 0 := by
  unfold ordEnd
  rw [hr.1]
  exact peelO_inv hr 64 _ _ (M.cnt_le _) (OInv.start hr)
def ordOk (xs : List Nat) : Bool := R.mayR xs && ((ordEnd xs).2 == 0)
def ordL (xs : List Nat) : List Nat := if ordOk xs then (ordEnd xs).1 else []
/-- l is all things, each behind all that are before it, the least first where it may be chosen. -/
structure Ordered (n : Nat) (xs l : List Nat) : Prop where
  len : l.length = n
  nd : l.Nodup
  ins : ∀ x ∈ l, x < n
  all : ∀ x, x < n → x ∈ l
  pre : ∀ i, i < n → ∀ y, bf xs y (l.getD i 0) → ∃ j, j < i ∧ l.getD j 0 = y
  asc : ∀ i, i + 1 < n → l.getD (i + 1) 0 < l.getD i 0 → bf xs (l.getD i 0) (l.getD (i + 1) 0)
theorem ordered {n : Nat} {xs : List Nat} (hr : Rel n xs) (h0 : (ordEnd xs).2 = 0) : Ordered n xs (ordEnd xs).1 := by
  obtain ⟨h, _⟩ := ord_inv hr
  have hl : (ordEnd xs).1.length = n := by
    have := h.cnt
    rw [h0] at this
    have e : M.cnt 0 = 0 := by decide
    omega
  refine ⟨hl, h.nd, h.ins, fun x hx => ?_, by have := h.pre; rwa [hl] at this, by have := h.asc; rwa [hl] at this⟩
  apply Classical.byContradiction
  intro hn
  have := (h.bit x).2 ⟨hx, hn⟩
  rw [h0] at this
  simp at this

/-! ### the depth -/
def IsDeep (n : Nat) (xs : List Nat) (d : Nat → Nat) : Prop := (∀ a b, bf xs a b → d a + 1 ≤ d b) ∧ ∀ b, b < n → d b = 0 ∨ ∃ a, bf xs a b ∧ d b = d a + 1
theorem IsDeep.way {n : Nat} {xs : List Nat} {d : Nat → Nat} (h : IsDeep n xs d) {i j : Nat} (hw : Way xs i j) : d i < d j := by
  induction hw with
  | one hb => exact h.1 _ _ hb
  | on hb _ ih =>
    have := h.1 _ _ hb
    omega
theorem IsDeep.uniq {n : Nat} {xs : List Nat} {d d' : Nat → Nat} (hr : Rel n xs) (h : IsDeep n xs d) (h' : IsDeep n xs d') : ∀ m b, b < n → d b ≤ m → d b = d' b := by
  intro m
  induction m with
  | zero =>
    intro b hb hm
    rcases h'.2 b hb with e | ⟨a, ha, e⟩
    · omega
    · have := h.1 a b ha
      omega
  | succ m ih =>
    intro b hb hm
    have up : ∀ a, bf xs a b → d a = d' a := fun a ha => ih a (hr.lt ha).1 (by have := h.1 a b ha; omega)
    rcases h.2 b hb with e | ⟨a, ha, e⟩
    · exact ih b hb (by omega)
    · have h1 := up a ha
      have h2 := h'.1 a b ha
      rcases h'.2 b hb with e' | ⟨a', ha', e'⟩
      · omega
      · have h3 := up a' ha'
        have h4 := h.1 a' b ha'
        omega
/-- r is written at all of l. -/
def setAll (r : Nat) (l ds : List Nat) : List Nat := l.foldl (fun ds x => ds.set x r) ds
theorem setAll_len (r : Nat) : ∀ (l ds : List Nat), (setAll r l ds).length = ds.length
  | [], _ => rfl
  | x :: l, ds => by
    show (setAll r l (ds.set x r)).length = _
    rw [setAll_len r l]
    simp
theorem setAll_snoc (r x : Nat) (l ds : List Nat) : setAll r (l ++ [x]) ds = (setAll r l ds).set x r := by simp [setAll, List.foldl_append]
theorem setAll_row (r i : Nat) : ∀ (l ds : List Nat), i < ds.length → R.row (setAll r l ds) i = if i ∈ l then r else R.row ds i
  | [], _, _ => by simp [setAll]
  | x :: l, ds, hi => by
    show R.row (setAll r l (ds.set x r)) i = _
    rw [setAll_row r i l _ (by simpa using hi)]
    by_cases h : i ∈ l
    · simp [h]
    · by_cases hx : x = i
      · subst hx
        simp [h, R.row, List.getD, hi]
      · have hx' : ¬ i = x := fun e => hx e.symm
        simp [h, hx', R.row, List.getD, List.getElem?_set, hx]
def peelD (xs : List Nat) : Nat → Nat → Nat → List Nat → List Nat × Nat
  | 0, L, _, ds => (ds, L)
  | f + 1, L, r, ds => if freeN xs L = 0 then (ds, L) else peelD xs f (M.lessN L (freeN xs L)) (r + 1) (setAll r (M.bl (freeN xs L)) ds)
theorem peelD_stop {xs : List Nat} {L : Nat} (h : freeN xs L = 0) (f r : Nat) (ds : List Nat) : peelD xs f L r ds = (ds, L) := by
  cases f with
  | zero => rfl
  | succ f => simp [peelD, h]
theorem peelD_go {xs : List Nat} {L : Nat} (h : freeN xs L ≠ 0) (f r : Nat) (ds : List Nat) : peelD xs (f + 1) L r ds = peelD xs f (M.lessN L (freeN xs L)) (r + 1) (setAll r (M.bl (freeN xs L)) ds) := by
  simp [peelD, h]
def deepEnd (xs : List Nat) : List Nat × Nat := peelD xs 64 (R.things xs.length) 0 (List.replicate xs.length 0)
structure DInv (n : Nat) (xs : List Nat) (L r : Nat) (ds : List Nat) : Prop where
  lt : L < 2 ^ 64
  ins : ∀ x, L.testBit x = true → x < n
  len : ds.length = n
  cnt : r + M.cnt L ≤ 64
  low : ∀ x, x < n → L.testBit x = false → R.row ds x < r
  pre : ∀ a b, bf xs a b → L.testBit b = false → L.testBit a = false ∧ R.row ds a + 1 ≤ R.row ds b
  why : ∀ b, b < n → L.testBit b = false → R.row ds b = 0 ∨ ∃ a, bf xs a b ∧ R.row ds b = R.row ds a + 1
  new : ∀ b, L.testBit b = true → r = 0 ∨ ∃ a, bf xs a b ∧ (L.testBit a = true ∨ R.row ds a + 1 = r)
theorem DInv.start {n : Nat} {xs : List Nat} (h : Rel n xs) : DInv n xs (R.things n) 0 (List.replicate n 0) := by
  have hn := h.le
  have hbit : ∀ x, x < n → (R.things n).testBit x = true := fun x hx => by
    rw [R.things_bit _ _ (by omega)]
    simpa using hx
  refine ⟨R.things_lt n, fun x hb => ?_, by simp, by have := cnt_things n hn; omega, fun x hx hf => ?_, fun a b hb hf => ?_, fun b hb hf => ?_, fun b _ => .inl rfl⟩
  · rw [R.things_bit _ _ (bit_lt (R.things_lt n) hb)] at hb
    simpa using hb
  · rw [hbit x hx] at hf
    cases hf
  · rw [hbit b (h.lt hb).2.1] at hf
    cases hf
  · rw [hbit b hb] at hf
    cases hf
theorem DInv.step {n : Nat} {xs : List Nat} {L r : Nat} {ds : List Nat} (hr : Rel n xs) (h : DInv n xs L r ds) (hf : freeN xs L ≠ 0) : DInv n xs (M.lessN L (freeN xs L)) (r + 1) (setAll r (M.bl (freeN xs L)) ds) := by
  have hfr := free_bit hr h.lt h.ins
  have hflt := freeN_lt xs h.lt
  generalize hF : freeN xs L = F at *
  have hbit : ∀ x, (M.lessN L F).testBit x = true ↔ L.testBit x = true ∧ F.testBit x = false := fun x => by
    rw [M.lessN_testBit _ _ _ h.lt hflt]
    simp
  have hmem : ∀ x, x ∈ M.bl F ↔ F.testBit x = true := fun x => by
    rw [M.mem_bl]
    exact ⟨fun a => a.2, fun a => ⟨bit_lt hflt a, a⟩⟩
  have hrow : ∀ x, x < n → R.row (setAll r (M.bl F) ds) x = if F.testBit x = true then r else R.row ds x := fun x hx => by
    rw [setAll_row r x _ _ (by rw [h.len]; exact hx)]
    by_cases hx2 : F.testBit x = true
    · rw [if_pos ((hmem x).2 hx2), if_pos hx2]
    · rw [if_neg (fun hc => hx2 ((hmem x).1 hc)), if_neg hx2]
  have hout : ∀ x, (M.lessN L F).testBit x = false ↔ L.testBit x = false ∨ F.testBit x = true := fun x => by
    rw [Bool.eq_false_iff, Ne, hbit]
    cases L.testBit x <;> cases F.testBit x <;> simp
  have hno : ∀ x, L.testBit x = false → ¬ F.testBit x = true := fun x hx hc => by
    have := ((hfr x).1 hc).1
    rw [hx] at this
    cases this
  obtain ⟨z, hz⟩ := ne_bit hf
  refine ⟨M.lessN_lt _ _ h.lt, fun x hx => h.ins x ((hbit x).1 hx).1, by rw [setAll_len, h.len], ?_, fun x hx hL => ?_, fun a b hb hL => ?_, fun b hb hL => ?_, fun b hL => .inr ?_⟩
  · have := cnt_less L F h.lt hflt z ((hfr z).1 hz).1 hz
    have := h.cnt
    omega
  · rw [hrow x hx]
    split
    · omega
    · rename_i hF
      rcases (hout x).1 hL with h1 | h1
      · have := h.low x hx h1
        omega
      · exact absurd h1 hF
  · have hab := hr.lt hb
    rw [hrow a hab.1, hrow b hab.2.1]
    by_cases hFb : F.testBit b = true
    · have ha : L.testBit a = false := by
        rw [Bool.eq_false_iff]
        intro hc
        exact ((hfr b).1 hFb).2 a hc hb
      rw [if_pos hFb, if_neg (hno a ha)]
      exact ⟨(hout a).2 (.inl ha), h.low a hab.1 ha⟩
    · have hLb : L.testBit b = false := by
        rcases (hout b).1 hL with h1 | h1
        · exact h1
        · exact absurd h1 hFb
      obtain ⟨ha, hle⟩ := h.pre a b hb hLb
      rw [if_neg hFb, if_neg (hno a ha)]
      exact ⟨(hout a).2 (.inl ha), hle⟩
  · rw [hrow b hb]
    by_cases hFb : F.testBit b = true
    · rw [if_pos hFb]
      obtain ⟨hLb, hfree⟩ := (hfr b).1 hFb
      rcases h.new b hLb with h0 | ⟨a, ha, ha2⟩
      · exact .inl h0
      · rcases ha2 with ha2 | ha2
        · exact absurd ha (hfree a ha2)
        · have hLa : L.testBit a = false := by
            rw [Bool.eq_false_iff]
            intro hc
            exact hfree a hc ha
          refine .inr ⟨a, ha, ?_⟩
          rw [hrow a (hr.lt ha).1, if_neg (hno a hLa)]
          exact ha2.symm
    · have hLb : L.testBit b = false := by
        rcases (hout b).1 hL with h1 | h1
        · exact h1
        · exact absurd h1 hFb
      rw [if_neg hFb]
      rcases h.why b hb hLb with e | ⟨a, ha, e⟩
      · exact .inl e
      · refine .inr ⟨a, ha, ?_⟩
        rw [hrow a (hr.lt ha).1, if_neg (hno a (h.pre a b ha hLb).1)]
        exact e
  · obtain ⟨h1, h2⟩ := (hbit b).1 hL
    have hex : ∃ y, L.testBit y = true ∧ bf xs y b := by
      apply Classical.byContradiction
      intro hc
      have := (hfr b).2 ⟨h1, fun y hy hb => hc ⟨y, hy, hb⟩⟩
      rw [h2] at this
      cases this
    obtain ⟨y, hy, hb⟩ := hex
    refine ⟨y, hb, ?_⟩
    by_cases hFy : F.testBit y = true
    · right
      rw [hrow y (hr.lt hb).1, if_pos hFy]
    · left
      exact (hbit y).2 ⟨hy, by simpa using hFy⟩
theorem peelD_inv {n : Nat} {xs : List Nat} (hr : Rel n xs) : ∀ (f L r : Nat) (ds : List Nat), M.cnt L ≤ f → DInv n xs L r ds → (∃ r', DInv n xs (peelD xs f L r ds).2 r' (peelD xs f L r ds).1) ∧ freeN xs (peelD xs f L r ds).2 = 0
  | 0, L, r, ds, hc, h => by
    refine ⟨⟨r, h⟩, ?_⟩
    have : L = 0 := cnt_zero h.lt (by omega)
    subst this
    show M.lessN 0 _ = 0
    simp [M.lessN]
  | f + 1, L, r, ds, hc, h => by
    by_cases hf : freeN xs L = 0
    · rw [peelD_stop hf]
      exact ⟨⟨r, h⟩, hf⟩
    · rw [peelD_go hf]
      obtain ⟨z, hz⟩ := ne_bit hf
      have := cnt_less L _ h.lt (freeN_lt xs h.lt) z ((free_bit hr h.lt h.ins z).1 hz).1 hz
      exact peelD_inv hr f _ _ _ (by omega) (h.step hr hf)
theorem deep_inv {n : Nat} {xs : List Nat} (hr : Rel n xs) : (∃ r', DInv n xs (deepEnd xs).2 r' (deepEnd xs).1) ∧ freeN xs (deepEnd xs).2 = 0 := by
  unfold deepEnd
  rw [hr.1]
  exact peelD_inv hr 64 _ _ _ (M.cnt_le _) (DInv.start hr)
def acyB (xs : List Nat) : Bool := R.mayR xs && ((deepEnd xs).2 == 0)
def deepL (xs : List Nat) : List Nat := if acyB xs then (deepEnd xs).1 else []
theorem deep_is {n : Nat} {xs : List Nat} (hr : Rel n xs) (h0 : (deepEnd xs).2 = 0) : (deepEnd xs).1.length = n ∧ (∀ x, x < n → R.row (deepEnd xs).1 x < 64) ∧ IsDeep n xs (R.row (deepEnd xs).1) := by
  obtain ⟨⟨r, h⟩, _⟩ := deep_inv hr
  rw [h0] at h
  have hz : ∀ x, (0 : Nat).testBit x = false := fun x => Nat.zero_testBit x
  refine ⟨h.len, fun x hx => ?_, fun a b hb => (h.pre a b hb (hz b)).2, fun b hb => h.why b hb (hz b)⟩
  have := h.low x hx (hz x)
  have := h.cnt
  omega
theorem acy_iff {n : Nat} {xs : List Nat} (hr : Rel n xs) : acyB xs = true ↔ ∀ i, ¬ Way xs i i := by
  unfold acyB
  rw [hr.2.2, Bool.true_and, beq_iff_eq]
  constructor
  · intro h0 i hw
    have := (deep_is hr h0).2.2.way hw
    omega
  · intro hno
    obtain ⟨⟨r, h⟩, hf⟩ := deep_inv hr
    apply Classical.byContradiction
    intro h0
    obtain ⟨x, hx⟩ := stuck hr h.lt h.ins h0 hf
    exact hno x hx
/-- The place of x in l. -/
theorem ordered_way {n : Nat} {xs l : List Nat} (hr : Rel n xs) (h : Ordered n xs l) {a b : Nat} (hw : Way xs a b) : ∀ i, i < n → l.getD i 0 = b → ∃ j, j < i ∧ l.getD j 0 = a := by
  induction hw with
  | one hb =>
    intro i hi e
    subst e
    exact h.pre i hi _ hb
  | on hb _ ih =>
    intro i hi e
    obtain ⟨j, hj, e2⟩ := ih i hi e
    subst e2
    obtain ⟨k, hk, e3⟩ := h.pre j (by omega) _ hb
    exact ⟨k, by omega, e3⟩
theorem getD_inj {l : List Nat} (h : l.Nodup) {i j : Nat} (hi : i < l.length) (hj : j < l.length) (e : l.getD i 0 = l.getD j 0) : i = j := by
  have e1 : l[i] = l[j] := by simpa [List.getD, hi, hj] using e
  have hp := List.pairwise_iff_getElem.1 h
  rcases Nat.lt_trichotomy i j with hlt | rfl | hlt
  · exact absurd e1 (hp i j hi hj hlt)
  · rfl
  · exact absurd e1.symm (hp j i hj hi hlt)
theorem ord_iff {n : Nat} {xs : List Nat} (hr : Rel n xs) : ordOk xs = true ↔ ∀ i, ¬ Way xs i i := by
  unfold ordOk
  rw [hr.2.2, Bool.true_and, beq_iff_eq]
  constructor
  · intro h0 a hw
    have ho := ordered hr h0
    obtain ⟨i, hi, e⟩ := mem_getD (ho.all a (hw.lt hr).1)
    rw [ho.len] at hi
    obtain ⟨j, hj, e2⟩ := ordered_way hr ho hw i hi e
    have := getD_inj ho.nd (by rw [ho.len]; omega) (by rw [ho.len]; omega) (e2.trans e.symm)
    omega
  · intro hno
    obtain ⟨h, hf⟩ := ord_inv hr
    apply Classical.byContradiction
    intro h0
    obtain ⟨x, hx⟩ := stuck hr h.lt (fun x hx => ((h.bit x).1 hx).1) h0 hf
    exact hno x hx
theorem ord_acy {n : Nat} {xs : List Nat} (hr : Rel n xs) : ordOk xs = acyB xs := by
  rw [Bool.eq_iff_iff, ord_iff hr, acy_iff hr]
/-- A thing's place is no less than its depth. -/
theorem place_deep {n : Nat} {xs l : List Nat} {d : Nat → Nat} (hr : Rel n xs) (ho : Ordered n xs l) (hd : IsDeep n xs d) : ∀ i, i < n → d (l.getD i 0) ≤ i := by
  intro i
  induction i using Nat.strongRecOn with
  | ind i ih =>
    intro hi
    have hb : l.getD i 0 < n := ho.ins _ (getD_mem (by rw [ho.len]; exact hi))
    rcases hd.2 _ hb with e | ⟨a, ha, e⟩
    · omega
    · obtain ⟨j, hj, ej⟩ := ho.pre i hi a ha
      have := ih j hj (by omega)
      rw [ej] at this
      omega
def totB (xs : List Nat) (s : Nat) : Bool := R.mayR xs && (M.bl (s &&& R.things xs.length)).all fun x => M.withinB (M.dropN (s &&& R.things xs.length) (x : Nat)) (R.row (R.orR xs (R.backR xs)) x)
theorem tot_iff {n : Nat} {xs : List Nat} (hr : Rel n xs) (s : Nat) (hs : s < 2 ^ 64) : totB xs s = true ↔ ∀ i j, i < n → j < n → s.testBit i = true → s.testBit j = true → i ≠ j → bf xs i j ∨ bf xs j i := by
  unfold totB
  rw [hr.2.2, Bool.true_and, List.all_eq_true, hr.1]
  have hn := hr.le
  have hs' : s &&& R.things n < 2 ^ 64 := Nat.lt_of_le_of_lt Nat.and_le_left hs
  have hbit : ∀ i, (s &&& R.things n).testBit i = true ↔ i < n ∧ s.testBit i = true := fun i => by
    by_cases hi : i < 64
    · rw [Nat.testBit_and, R.things_bit _ _ hi]
      simp
      exact And.comm
    · rw [M.high _ i hs' (by omega)]
      simp
      omega
  have hor := or_rel hr (back_rel hr)
  have hw : ∀ x, R.row (R.orR xs (R.backR xs)) x < 2 ^ 64 := hor.2.1
  constructor
  · intro h i j hi hj hsi hsj hne
    have h1 := h i ((M.mem_bl _ _).2 ⟨by omega, (hbit i).2 ⟨hi, hsi⟩⟩)
    have h2 := (M.withinB_iff _ _ (M.dropN_lt _ _ hs') (hw i)).1 h1 j (by omega) (by
      rw [M.dropN_testBit _ _ _ (by omega) hs', (hbit j).2 ⟨hj, hsj⟩]
      simp
      omega)
    rcases (or_iff' hr (back_rel hr) i j).1 h2 with h3 | h3
    · exact .inl h3
    · exact .inr ((back_iff hr i j).1 h3)
  · intro h x hx
    obtain ⟨hx64, hxb⟩ := (M.mem_bl _ _).1 hx
    obtain ⟨hxn, hxs⟩ := (hbit x).1 hxb
    refine (M.withinB_iff _ _ (M.dropN_lt _ _ hs') (hw x)).2 fun j hj hb => ?_
    rw [M.dropN_testBit _ _ _ hj hs'] at hb
    simp only [Bool.and_eq_true, Bool.not_eq_true', decide_eq_false_iff_not] at hb
    obtain ⟨hjn, hjs⟩ := (hbit j).1 hb.1
    refine (or_iff' hr (back_rel hr) x j).2 ?_
    rcases h x j hxn hjn hxs hjs (by omega) with h3 | h3
    · exact .inl h3
    · exact .inr ((back_iff hr x j).2 h3)
end Go.Proofs.YtokehiehfgffmaaDoor
