/-
  Words for memory that the contracts of package work use: a block that is known whole, a row of things in a block of their own.
-/
import Derived.Test.YtjboapelelcieaaRows
import Derived.Test.YtjboapelelcieaaHMath
import Derived.WalkKit
import Derived.WalkSpells
import Derived.WalkLawsBesides
import Derived.Deep.Light
import Derived.Deep.DeepAppendRoom
import Derived.Lib.Hide
import Derived.Deep.QuietTactic
import Derived.BigQuiet
import Derived.WalkSmall
namespace Go.Proofs.Ytjboapelelcieaa.Wk
open Go.RowKit
set_option linter.unusedVariables false
set_option linter.unusedSimpArgs false

theorem ret_int {k : IntKind} {a b : Int} (h : a = b) : Ending.returned (.int k a) = .returned (.int k b) := by rw [h]
theorem ret_bool {a b : Bool} (h : a = b) : Ending.returned (.bool a) = .returned (.bool b) := by rw [h]

/-- Block g is just these cells, none frozen. -/
def Blk (w : World) (g : Nat) (t : TypeId) (cs : Array Value) : Prop := w.heap[g]? = some (.cells cs t (0, 0))
theorem Blk.lt {w : World} {g : Nat} {t : TypeId} {cs : Array Value} (h : Blk w g t cs) : g < w.heap.size := lt_of_block h
theorem Blk.cell {w : World} {g : Nat} {t : TypeId} {cs : Array Value} (h : Blk w g t cs) (i : Nat) : w.cell? ⟨g, i, none⟩ = cs[i]? := by
  unfold Blk at h
  simp [World.cell?, h]
theorem Blk.free {w : World} {g : Nat} {t : TypeId} {cs : Array Value} (h : Blk w g t cs) (i : Nat) : w.frozen? ⟨g, i, none⟩ = false := by
  unfold Blk at h
  simp [World.frozen?, h]
theorem Blk.new (w : World) (t : TypeId) (cs : Array Value) : Blk (w.alloc (.cells cs t)) w.heap.size t cs := heap_alloc_new w _
theorem Blk.alloc {w : World} {g : Nat} {t : TypeId} {cs : Array Value} (h : Blk w g t cs) (o : Obj) : Blk (w.alloc o) g t cs := (Below.heap_alloc w o g h.lt).trans h
theorem Blk.set {w : World} {g : Nat} {t : TypeId} {cs : Array Value} (h : Blk w g t cs) (i : Nat) (u : Value) : Blk (w.setCell ⟨g, i, none⟩ u) g t (cs.setIfInBounds i u) := by
  unfold Blk at h ⊢
  simp [World.setCell, Array.getElem?_modify, h]
theorem Blk.far {w : World} {g : Nat} {t : TypeId} {cs : Array Value} (h : Blk w g t cs) {p : Addr} (hp : g ≠ p.block) (u : Value) : Blk (w.setCell p u) g t cs := (Below.heap_setCell w p u g hp).trans h
theorem Blk.below {w w' : World} {g B : Nat} {t : TypeId} {cs : Array Value} (h : Blk w g t cs) (hb : Below B w w') (hg : g < B) : Blk w' g t cs := (hb.block g hg).trans h
theorem Blk.ne {w : World} {g g' : Nat} {t t' : TypeId} {cs cs' : Array Value} (h : Blk w g t cs) (h' : Blk w g' t' cs') (hne : t ≠ t') : g ≠ g' := by
  rintro rfl
  unfold Blk at h h'
  rw [h] at h'
  injection h' with h'
  injection h' with _ ht
  exact hne ht
theorem own_ne {w : World} {base B : Nat} {t t' : TypeId} {size n : Nat} {v : Value} {xs : List Value} {cs : Array Value} (h : w.ownsRow base t size v n xs) (hB : Blk w B t' cs) (hne : t ≠ t') : v.ownBlock ≠ some B := by
  rcases h.2 with ⟨rfl, _⟩ | ⟨g, cap, cur, rfl, _, hh, _⟩
  · simp [Value.ownBlock]
  · intro e
    have e' : g = B := by simpa [Value.ownBlock] using e
    subst e'
    exact Blk.ne (t := t) hh hB hne rfl
theorem slice_of_own {w : World} {base : Nat} {t : TypeId} {size n : Nat} {v : Value} {xs : List Value} (h : w.ownsRow base t size v n xs) : ∃ a c, v = .slice a n c := by
  rcases h.2 with ⟨h0, rfl⟩ | ⟨g, cap, cur, hv, _⟩
  · exact ⟨_, _, h0⟩
  · exact ⟨_, _, hv⟩

/-- A thing: what was pushed, its key, its turn. -/
structure Th where
  n : Int
  key : Int
  turn : Int
/-- A thing's three cells. -/
def Th.cells (t : Th) : List Value := [.int .i64 t.n, .int .i64 t.key, .int .i64 t.turn]
/-- Things as cells. -/
def flat (ts : List Th) : List Value := ts.flatMap Th.cells
/-- The thing at a place. -/
def tat (ts : List Th) (i : Nat) : Th := ts.getD i ⟨0, 0, 0⟩
theorem flat_cons (t : Th) (ts : List Th) : flat (t :: ts) = .int .i64 t.n :: .int .i64 t.key :: .int .i64 t.turn :: flat ts := rfl
theorem flat_len (ts : List Th) : (flat ts).length = ts.length * 3 := by
  induction ts with
  | nil => rfl
  | cons p ps ih =>
    rw [flat_cons]
    simp [ih]
    omega
theorem flat_app (a b : List Th) : flat (a ++ b) = flat a ++ flat b := by simp [flat]
theorem flat_at : ∀ (ts : List Th) (i : Nat), i < ts.length → (flat ts)[i * 3]? = some (.int .i64 (tat ts i).n) ∧ (flat ts)[i * 3 + 1]? = some (.int .i64 (tat ts i).key) ∧ (flat ts)[i * 3 + 2]? = some (.int .i64 (tat ts i).turn)
  | [], i, h => by simp at h
  | p :: ps, 0, _ => ⟨rfl, rfl, rfl⟩
  | p :: ps, i + 1, h => by
    have := flat_at ps i (by simpa using h)
    rw [flat_cons, show (i + 1) * 3 = i * 3 + 1 + 1 + 1 by omega, show i * 3 + 1 + 1 + 1 + 1 = (i * 3 + 1) + 1 + 1 + 1 by omega, show i * 3 + 1 + 1 + 1 + 2 = (i * 3 + 2) + 1 + 1 + 1 by omega]
    simpa [tat] using this
/-- A pile that has something: a row of things in block g, with room for cap, and that all its cells. -/
structure Row (w : World) (t : TypeId) (g cap : Nat) (ts : List Th) (cur : Array Value) : Prop where
  blk : Blk w g t cur
  fit : ts.length ≤ cap
  max : cap ≤ maxLen
  size : cur.size = cap * 3
  take : cur.toList.take (ts.length * 3) = flat ts
theorem Row.cells {w : World} {t : TypeId} {g cap : Nat} {ts : List Th} {cur : Array Value} (h : Row w t g cap ts cur) (i : Nat) (hi : i < ts.length) :
    w.cell? ⟨g, i * 3, none⟩ = some (.int .i64 (tat ts i).n) ∧ w.cell? ⟨g, i * 3 + 1, none⟩ = some (.int .i64 (tat ts i).key) ∧ w.cell? ⟨g, i * 3 + 2, none⟩ = some (.int .i64 (tat ts i).turn) := by
  obtain ⟨h0, h1, h2⟩ := flat_at ts i hi
  have key : ∀ k v, (flat ts)[k]? = some v → w.cell? ⟨g, k, none⟩ = some v := by
    intro k v hv
    rw [h.blk.cell]
    rw [← h.take, List.getElem?_take] at hv
    split at hv
    · simpa using hv
    · cases hv
  exact ⟨key _ _ h0, key _ _ h1, key _ _ h2⟩
theorem Row.own {w : World} {t : TypeId} {g cap base : Nat} {ts : List Th} {cur : Array Value} (h : Row w t g cap ts cur) (hb : base ≤ g) : w.ownsRow base t 3 (.slice (some ⟨g, 0, none⟩) ts.length cap) ts.length (flat ts) :=
  ⟨flat_len ts, .inr ⟨g, cap, cur, rfl, hb, h.blk, h.fit, h.max, h.size, h.take⟩⟩
theorem row_of_own {w : World} {base : Nat} {t : TypeId} {v : Value} {ts : List Th} (h : w.ownsRow base t 3 v ts.length (flat ts)) (h0 : 0 < ts.length) : ∃ g cap cur, v = .slice (some ⟨g, 0, none⟩) ts.length cap ∧ base ≤ g ∧ Row w t g cap ts cur := by
  rcases h.2 with ⟨_, hz⟩ | ⟨g, cap, cur, rfl, hg, hh, hn, hcm, hs, ht⟩
  · omega
  · exact ⟨g, cap, cur, rfl, hg, hh, hn, hcm, hs, ht⟩
/-- One before another one. -/
def lt (a b : Th) : Bool := H.klt (a.key, a.turn) (b.key, b.turn)
theorem lt_key {a b : Th} (h : a.key ≠ b.key) : lt a b = decide (a.key < b.key) := by
  simp only [lt, H.klt, decide_eq_decide]
  omega
theorem lt_turn {a b : Th} (h : a.key = b.key) : lt a b = decide (a.turn < b.turn) := by
  simp only [lt, H.klt, decide_eq_decide]
  omega

set_option maxHeartbeats 400000 in
theorem len_any (a : Option Addr) (n c : Nat) (w : World) :
    Calls Try.prog 38 #[.slice a n c] w fun e w' => e = .returned (.int .i64 n) ∧ w = w' := by
  go_enter Try.func38, Try.ntmps38
  go_wp2
  go_ret
  exact ⟨rfl, rfl⟩

/-- A call that answers v, and at most draws. -/
def Drew (v : Value) (w : World) (e : Ending) (w' : World) : Prop := e = .returned v ∧ ∃ n, w' = w.drewN n
set_option maxHeartbeats 400000 in
theorem less_any (g cap n i j : Nat) (ts : List Th) (cur : Array Value) (w : World) (h : Row w 49 g cap ts cur) (hn : n ≤ ts.length) (hi : i < ts.length) (hj : j < ts.length) (hm : ts.length ≤ 4611686018427387904) :
    Calls Try.prog 39 #[.slice (some ⟨g, 0, none⟩) ts.length cap, .int .i64 (i : Nat), .int .i64 (j : Nat)] w (Drew (.bool (lt (tat ts i) (tat ts j))) w) := by
  obtain ⟨ci0, ci1, ci2⟩ := h.cells i hi
  obtain ⟨cj0, cj1, cj2⟩ := h.cells j hj
  by_cases hk : (tat ts i).key = (tat ts j).key
  · have H := Lib.hid (lt_turn hk)
    have hb : ((tat ts i).key != (tat ts j).key) = false := by simp [hk]
    clear hk h
    generalize tat ts i = x at *
    generalize tat ts j = y at *
    obtain ⟨xn, xk, xt⟩ := x
    obtain ⟨yn, yk, yt⟩ := y
    simp only at *
    go_enter Try.func39, Try.ntmps39
    go_wp2
    go_quiet (fail)
    go_wp2
    go_quiet (fail)
    go_wp2
    go_ret
    exact ⟨ret_bool H.out.symm, _, by rw [World.drewN_drewN]⟩
  · have H := Lib.hid (lt_key hk)
    have hb : ((tat ts i).key != (tat ts j).key) = true := by simp [hk]
    clear hk h
    generalize tat ts i = x at *
    generalize tat ts j = y at *
    obtain ⟨xn, xk, xt⟩ := x
    obtain ⟨yn, yk, yt⟩ := y
    simp only at *
    go_enter Try.func39, Try.ntmps39
    go_wp2
    go_quiet (fail)
    go_wp2
    go_quiet (fail)
    go_wp2
    go_ret
    exact ⟨ret_bool H.out.symm, _, by rw [World.drewN_drewN]⟩
end Go.Proofs.Ytjboapelelcieaa.Wk
