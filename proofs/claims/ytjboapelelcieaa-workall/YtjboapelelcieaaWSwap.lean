/-
  What pile.Swap does, as a contract: two things of the row change places, and nothing else turns.
-/
import Derived.Test.YtjboapelelcieaaWMem
namespace Go.Proofs.Ytjboapelelcieaa.Wk
open Go.RowKit
set_option linter.unusedVariables false
set_option linter.unusedSimpArgs false

/-- Of the blocks that were there only those of S may have turned. -/
structure Only (S : Nat → Prop) (w w' : World) : Prop where
  os : w'.os = w.os
  tape : w'.tape = w.tape
  output : w'.output = w.output
  size : w.heap.size ≤ w'.heap.size
  block : ∀ k, k < w.heap.size → ¬ S k → w'.heap[k]? = w.heap[k]?
theorem Only.refl (S : Nat → Prop) (w : World) : Only S w w := ⟨rfl, rfl, rfl, Nat.le_refl _, fun _ _ _ => rfl⟩
theorem Only.trans {S : Nat → Prop} {a b c : World} (h : Only S a b) (k : Only S b c) : Only S a c :=
  ⟨k.os.trans h.os, k.tape.trans h.tape, k.output.trans h.output, Nat.le_trans h.size k.size, fun i hi hs => (k.block i (Nat.lt_of_lt_of_le hi h.size) hs).trans (h.block i hi hs)⟩
theorem Only.mono {S S' : Nat → Prop} {a b : World} (h : Only S a b) (hS : ∀ k, k < a.heap.size → S k → S' k) : Only S' a b :=
  ⟨h.os, h.tape, h.output, h.size, fun i hi hs => h.block i hi fun hc => hs (hS i hi hc)⟩
theorem Only.drewN {S : Nat → Prop} {a b : World} (h : Only S a b) (n : Nat) : Only S a (b.drewN n) := h.trans ⟨rfl, rfl, rfl, Nat.le_refl _, fun _ _ _ => rfl⟩
theorem Only.drew {S : Nat → Prop} {a b : World} (h : Only S a b) : Only S a b.drew := h.trans ⟨rfl, rfl, rfl, Nat.le_refl _, fun _ _ _ => rfl⟩
theorem Only.alloc {S : Nat → Prop} {a b : World} (h : Only S a b) (o : Obj) : Only S a (b.alloc o) := h.trans ⟨rfl, rfl, rfl, by simp, fun k hk _ => Below.heap_alloc _ _ _ hk⟩
theorem Only.setCell {S : Nat → Prop} {a b : World} (h : Only S a b) {p : Addr} (hp : S p.block ∨ a.heap.size ≤ p.block) (u : Value) : Only S a (b.setCell p u) :=
  ⟨h.os, h.tape, h.output, by simpa [World.setCell] using h.size, fun k hk hs => by
    rw [Below.heap_setCell _ _ _ _ (by rintro rfl; exact hp.elim hs (by omega))]
    exact h.block k hk hs⟩
theorem Only.grown {S : Nat → Prop} {a b c : World} {row : Option Nat} (h : Only S a b) (hg : b.grownBy c row) (hr : ∀ k, row = some k → S k ∨ a.heap.size ≤ k) : Only S a c :=
  ⟨hg.os.trans h.os, hg.tape.trans h.tape, hg.output.trans h.output, Nat.le_trans h.size hg.size, fun k hk hs =>
    (hg.block k (Nat.lt_of_lt_of_le hk h.size) (fun e => (hr k e.symm).elim hs (by omega))).trans (h.block k hk hs)⟩
theorem Only.below {S : Nat → Prop} {w w' : World} {B : Nat} (h : Only S w w') (hB : B ≤ w.heap.size) (hS : ∀ k, k < B → ¬ S k) : Below B w w' :=
  ⟨h.os, h.tape, h.output, h.size, fun k hk => h.block k (by omega) (hS k hk)⟩
theorem Only.of_below {S : Nat → Prop} {w w' : World} (h : Below w.heap.size w w') : Only S w w' :=
  ⟨h.os, h.tape, h.output, h.size, fun k hk _ => h.block k hk⟩
theorem Blk.only {w w' : World} {S : Nat → Prop} {g : Nat} {t : TypeId} {cs : Array Value} (h : Blk w g t cs) (ho : Only S w w') (hg : ¬ S g) : Blk w' g t cs := (ho.block g h.lt hg).trans h

/-- A thing laid at a place of a row. -/
def put3 (w : World) (g i : Nat) (t : Th) : World := ((w.setCell ⟨g, i * 3, none⟩ (.int .i64 t.n)).setCell ⟨g, i * 3 + 1, none⟩ (.int .i64 t.key)).setCell ⟨g, i * 3 + 2, none⟩ (.int .i64 t.turn)
theorem flat_set : ∀ (ts : List Th) (i : Nat) (x : Th), flat (ts.set i x) = (((flat ts).set (i * 3) (.int .i64 x.n)).set (i * 3 + 1) (.int .i64 x.key)).set (i * 3 + 2) (.int .i64 x.turn)
  | [], i, x => by simp [flat]
  | p :: ps, 0, x => rfl
  | p :: ps, i + 1, x => by
    rw [List.set_cons_succ, flat_cons, flat_set ps i x, flat_cons, show (i + 1) * 3 = i * 3 + 1 + 1 + 1 by omega, show i * 3 + 1 + 1 + 1 + 1 = (i * 3 + 1) + 1 + 1 + 1 by omega, show i * 3 + 1 + 1 + 1 + 2 = (i * 3 + 2) + 1 + 1 + 1 by omega]
    simp only [List.set_cons_succ]
theorem take_set (l : List Value) (n i : Nat) (v : Value) : (l.set i v).take n = (l.take n).set i v := by
  rw [List.take_set]
theorem Row.put {w : World} {t : TypeId} {g cap : Nat} {ts : List Th} {cur : Array Value} (h : Row w t g cap ts cur) (i : Nat) (x : Th) :
    ∃ cur', Row (put3 w g i x) t g cap (ts.set i x) cur' := by
  refine ⟨((cur.setIfInBounds (i * 3) (.int .i64 x.n)).setIfInBounds (i * 3 + 1) (.int .i64 x.key)).setIfInBounds (i * 3 + 2) (.int .i64 x.turn), ?_, ?_, h.max, ?_, ?_⟩
  · exact ((h.blk.set _ _).set _ _).set _ _
  · simpa using h.fit
  · simpa using h.size
  · rw [List.length_set, flat_set, ← h.take]
    simp only [Array.toList_setIfInBounds, take_set]
theorem Row.drew {w : World} {t : TypeId} {g cap : Nat} {ts : List Th} {cur : Array Value} (h : Row w t g cap ts cur) : Row w.drew t g cap ts cur := ⟨h.blk, h.fit, h.max, h.size, h.take⟩
theorem Row.drewN {w : World} {t : TypeId} {g cap : Nat} {ts : List Th} {cur : Array Value} (h : Row w t g cap ts cur) (n : Nat) : Row (w.drewN n) t g cap ts cur := ⟨h.blk, h.fit, h.max, h.size, h.take⟩
theorem Only.put {S : Nat → Prop} {a b : World} (h : Only S a b) {g : Nat} (hg : S g) (i : Nat) (x : Th) : Only S a (put3 b g i x) :=
  ((h.setCell (p := ⟨g, i * 3, none⟩) (.inl hg) _).setCell (p := ⟨g, i * 3 + 1, none⟩) (.inl hg) _).setCell (p := ⟨g, i * 3 + 2, none⟩) (.inl hg) _
/-- Two things exchanged. -/
def tsw (ts : List Th) (i j : Nat) : List Th := (ts.set i (tat ts j)).set j (tat ts i)
theorem tsw_len (ts : List Th) (i j : Nat) : (tsw ts i j).length = ts.length := by simp [tsw]
theorem tat_set (ts : List Th) (i k : Nat) (x : Th) (hi : i < ts.length) : tat (ts.set i x) k = if k = i then x else tat ts k := by
  unfold tat
  simp only [List.getD_eq_getElem?_getD, List.getElem?_set]
  by_cases h : i = k
  · subst h
    simp [hi]
  · have : ¬ k = i := by omega
    simp [h, this]
theorem tat_sw (ts : List Th) (i j : Nat) (hi : i < ts.length) (hj : j < ts.length) : tat (tsw ts i j) = H.sw (tat ts) i j := by
  funext k
  unfold tsw H.sw
  rw [tat_set _ _ _ _ (by simpa using hj), tat_set _ _ _ _ hi]
  by_cases h1 : k = j
  · subst h1
    by_cases h2 : k = i
    · subst h2
      simp
    · simp [h2]
  · by_cases h2 : k = i
    · subst h2
      simp [h1]
    · simp [h1, h2]
theorem lst_tat (ts : List Th) : H.lst ts.length (tat ts) = ts := by
  apply List.ext_getElem
  · simp [H.lst]
  · intro i h1 h2
    simp [H.lst, tat, List.getD_eq_getElem?_getD, h2]
theorem tsw_perm (ts : List Th) (i j : Nat) (hi : i < ts.length) (hj : j < ts.length) : (tsw ts i j).Perm ts := by
  have h := H.sw_perm (n := ts.length) (tat ts) hi hj
  rw [← tat_sw ts i j hi hj, lst_tat] at h
  have e := lst_tat (tsw ts i j)
  rw [tsw_len] at e
  rwa [e] at h
/-- What an exchange leaves. -/
def Swapped (g cap : Nat) (ts : List Th) (w : World) (e : Ending) (w' : World) : Prop :=
  e = .returned (.tuple #[]) ∧ (∃ cur', Row w' 49 g cap ts cur') ∧ Only (· = g) w w'
theorem swapped_of {w : World} {g cap i j : Nat} {ts : List Th} {cur : Array Value} (h : Row w 49 g cap ts cur) :
    (∃ cur', Row (put3 (put3 w g i (tat ts j)) g j (tat ts i)).drew 49 g cap (tsw ts i j) cur') ∧ Only (· = g) w (put3 (put3 w g i (tat ts j)) g j (tat ts i)).drew := by
  obtain ⟨c1, h1⟩ := h.put i (tat ts j)
  obtain ⟨c2, h2⟩ := h1.put j (tat ts i)
  exact ⟨⟨c2, h2.drew⟩, (((Only.refl (· = g) w).put rfl i _).put rfl j _).drew⟩
set_option maxHeartbeats 800000 in
theorem swap_any (g cap i j : Nat) (ts : List Th) (cur : Array Value) (w : World) (h : Row w 49 g cap ts cur) (hi : i < ts.length) (hj : j < ts.length) (hm : ts.length ≤ 4611686018427387904) :
    Calls Try.prog 40 #[.slice (some ⟨g, 0, none⟩) ts.length cap, .int .i64 (i : Nat), .int .i64 (j : Nat)] w (Swapped g cap (tsw ts i j) w) := by
  obtain ⟨ci0, ci1, ci2⟩ := h.cells i hi
  obtain ⟨cj0, cj1, cj2⟩ := h.cells j hj
  have fi0 := h.blk.free (i * 3)
  have fi1 := h.blk.free (i * 3 + 1)
  have fi2 := h.blk.free (i * 3 + 2)
  have fj0 := h.blk.free (j * 3)
  have fj1 := h.blk.free (j * 3 + 1)
  have fj2 := h.blk.free (j * 3 + 2)
  have HS := Lib.hid (swapped_of (i := i) (j := j) h)
  clear h
  by_cases hij : i = j
  · subst hij
    clear cj0 cj1 cj2 fj0 fj1 fj2 hj
    generalize tsw ts i i = us at *
    generalize tat ts i = x at *
    obtain ⟨xn, xk, xt⟩ := x
    simp only at *
    go_enter Try.func40, Try.ntmps40
    go_wp2
    go_region
    go_end0
    exact ⟨rfl, HS.out⟩
  · have hn1 : ¬ i * 3 = j * 3 := by omega
    have hn2 : ¬ j * 3 = i * 3 := by omega
    generalize tsw ts i j = us at *
    generalize tat ts i = x at *
    generalize tat ts j = y at *
    obtain ⟨xn, xk, xt⟩ := x
    obtain ⟨yn, yk, yt⟩ := y
    simp only at *
    go_enter Try.func40, Try.ntmps40
    go_wp2
    go_region
    go_end0
    exact ⟨rfl, HS.out⟩
end Go.Proofs.Ytjboapelelcieaa.Wk
