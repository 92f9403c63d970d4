/-
  Words for memory that the contracts of package lex use: a block that is known whole, a row of tokens in a block of their own, what Lex tells.
-/
import Derived.Test.YtchokfgffnomoaaDoorLB
import Derived.Deep.DeepAppendRoom
import Derived.Deep.QuietTactic
import Derived.BigQuiet
import Derived.WalkSmall
import Derived.Deep.AppendLies
namespace Go.Proofs.YtchokfgffnomoaaDoor.Lx
open Go.RowKit
set_option maxRecDepth 100000
set_option linter.unusedVariables false
set_option linter.unusedSimpArgs false
/-- Block g is just these cells, none frozen. -/
def Blk (w : World) (g : Nat) (t : TypeId) (cs : Array Value) : Prop := w.heap[g]? = some (.cells cs t (0, 0))
theorem Blk.lt {w : World} {g : Nat} {t : TypeId} {cs : Array Value} (h : Blk w g t cs) : g < w.heap.size := lt_of_block h
theorem Blk.cell {w : World} {g : Nat} {t : TypeId} {cs : Array Value} (h : Blk w g t cs) (i : Nat) : w.cell? ⟨g, i, none⟩ = cs[i]? := by
  unfold Blk at h
  simp [World.cell?, h]
theorem Blk.free {w : World} {g : Nat} {t : TypeId} {cs : Array Value} (h : Blk w g t cs) (i : Nat) : w.frozen? ⟨g, i, none⟩ = false := by
  unfold Blk at h
  simp [World.frozen?, h]
theorem Blk.new (w : World) (t : TypeId) (cs : Array Value) : Blk (w.alloc (.cells cs t)) w.heap.size t cs := heap_alloc_new w _
theorem Blk.alloc {w : World} {g : Nat} {t : TypeId} {cs : Array Value} (h : Blk w g t cs) (o : Obj) : Blk (w.alloc o) g t cs := (Below.heap_alloc w o g h.lt).trans h
theorem Blk.set {w : World} {g : Nat} {t : TypeId} {cs : Array Value} (h : Blk w g t cs) (i : Nat) (u : Value) : Blk (w.setCell ⟨g, i, none⟩ u) g t (cs.setIfInBounds i u) := by
  unfold Blk at h ⊢
  simp [World.setCell, Array.getElem?_modify, h]
theorem Blk.far {w : World} {g : Nat} {t : TypeId} {cs : Array Value} (h : Blk w g t cs) {p : Addr} (hp : g ≠ p.block) (u : Value) : Blk (w.setCell p u) g t cs := (Below.heap_setCell w p u g hp).trans h
theorem Blk.below {w w' : World} {g B : Nat} {t : TypeId} {cs : Array Value} (h : Blk w g t cs) (hb : Below B w w') (hg : g < B) : Blk w' g t cs := (hb.block g hg).trans h
theorem Blk.ne {w : World} {g g' : Nat} {t t' : TypeId} {cs cs' : Array Value} (h : Blk w g t cs) (h' : Blk w g' t' cs') (hne : t ≠ t') : g ≠ g' := by
  rintro rfl
  unfold Blk at h h'
  rw [h] at h'
  injection h' with h'
  injection h' with _ ht
  exact hne ht
theorem own_ne {w : World} {base B : Nat} {t t' : TypeId} {size n : Nat} {v : Value} {xs : List Value} {cs : Array Value} (h : w.ownsRow base t size v n xs) (hB : Blk w B t' cs) (hne : t ≠ t') : v.ownBlock ≠ some B := by
  rcases h.2 with ⟨rfl, _⟩ | ⟨g, cap, cur, rfl, _, hh, _⟩
  · simp [Value.ownBlock]
  · intro e
    have e' : g = B := by simpa [Value.ownBlock] using e
    subst e'
    exact Blk.ne (t := t) hh hB hne rfl
theorem slice_of_own {w : World} {base : Nat} {t : TypeId} {size n : Nat} {v : Value} {xs : List Value} (h : w.ownsRow base t size v n xs) : ∃ a c, v = .slice a n c := by
  rcases h.2 with ⟨h0, rfl⟩ | ⟨g, cap, cur, hv, _⟩
  · exact ⟨_, _, h0⟩
  · exact ⟨_, _, hv⟩
theorem own_below {w w' : World} {base : Nat} {t : TypeId} {size n : Nat} {v : Value} {xs : List Value} (h : w.ownsRow base t size v n xs) (hb : Below w.heap.size w w') : w'.ownsRow base t size v n xs := by
  refine ⟨h.1, ?_⟩
  rcases h.2 with h0 | ⟨g, cap, cur, hv, hg, hh, r⟩
  · exact .inl h0
  · exact .inr ⟨g, cap, cur, hv, hg, (hb.block g (lt_of_block hh)).trans hh, r⟩
theorem own_mono {w : World} {base base' : Nat} {t : TypeId} {size n : Nat} {v : Value} {xs : List Value} (h : w.ownsRow base t size v n xs) (hb : base' ≤ base) : w.ownsRow base' t size v n xs := by
  refine ⟨h.1, ?_⟩
  rcases h.2 with h0 | ⟨g, cap, cur, hv, hg, hh, r⟩
  · exact .inl h0
  · exact .inr ⟨g, cap, cur, hv, Nat.le_trans hb hg, hh, r⟩
theorem info_parts {P : Program} {e : TypeId} {z : Option Value} {size bytes : Nat} (h : (P.info? e).map (fun i => (i.zero, i.size, i.bytes)) = some (z, size, bytes)) : ∃ i, P.info? e = some i ∧ i.zero = z ∧ i.size = size ∧ i.bytes = bytes := by
  cases hi : P.info? e with
  | none => rw [hi] at h; cases h
  | some i =>
    rw [hi] at h
    simp only [Option.map_some, Option.some.injEq, Prod.mk.injEq] at h
    exact ⟨i, rfl, h.1, h.2.1, h.2.2⟩
/-! ### tokens -/
/-- A token's four cells. -/
def cells (t : L.Tok) : List Value := [.int .i64 t.kind, .string (bs t.text), .int .i64 t.n, .int .i64 t.at']
/-- Tokens as cells. -/
def flat (ts : List L.Tok) : List Value := ts.flatMap cells
/-- The token at a place. -/
def tat (ts : List L.Tok) (i : Nat) : L.Tok := ts.getD i ⟨0, [], 0, 0⟩
theorem flat_cons (t : L.Tok) (ts : List L.Tok) : flat (t :: ts) = .int .i64 t.kind :: .string (bs t.text) :: .int .i64 t.n :: .int .i64 t.at' :: flat ts := rfl
theorem flat_len (ts : List L.Tok) : (flat ts).length = ts.length * 4 := by
  induction ts with
  | nil => rfl
  | cons p ps ih =>
    rw [flat_cons]
    simp [ih]
    omega
theorem flat_app (a b : List L.Tok) : flat (a ++ b) = flat a ++ flat b := by simp [flat]
theorem flat_at : ∀ (ts : List L.Tok) (i : Nat), i < ts.length → (flat ts)[i * 4]? = some (.int .i64 (tat ts i).kind) ∧ (flat ts)[i * 4 + 1]? = some (.string (bs (tat ts i).text)) ∧ (flat ts)[i * 4 + 2]? = some (.int .i64 (tat ts i).n) ∧ (flat ts)[i * 4 + 3]? = some (.int .i64 (tat ts i).at')
  | [], i, h => by simp at h
  | p :: ps, 0, _ => ⟨rfl, rfl, rfl, rfl⟩
  | p :: ps, i + 1, h => by
    have := flat_at ps i (by simpa using h)
    rw [flat_cons, show (i + 1) * 4 = i * 4 + 1 + 1 + 1 + 1 by omega, show i * 4 + 1 + 1 + 1 + 1 + 1 = (i * 4 + 1) + 1 + 1 + 1 + 1 by omega, show i * 4 + 1 + 1 + 1 + 1 + 2 = (i * 4 + 2) + 1 + 1 + 1 + 1 by omega, show i * 4 + 1 + 1 + 1 + 1 + 3 = (i * 4 + 3) + 1 + 1 + 1 + 1 by omega]
    simpa [tat] using this
theorem one4 (a c d : Int) (b : ByteArray) : ∀ u ∈ [Value.int .i64 a, .string b, .int .i64 c, .int .i64 d], u.oneCell' = true := by
  intro u hu
  simp at hu
  rcases hu with rfl | rfl | rfl | rfl <;> rfl
theorem new4 (w : World) (a c d : Int) (b : ByteArray) (t : TypeId) : ∀ j u, [Value.int .i64 a, .string b, .int .i64 c, .int .i64 d][j]? = some u → (w.alloc (.cells #[.int .i64 a, .string b, .int .i64 c, .int .i64 d] t)).cell? ((⟨w.heap.size, 0, none⟩ : Addr).add j) = some u :=
  World.news_of_block (w := w.alloc (.cells #[.int .i64 a, .string b, .int .i64 c, .int .i64 d] t)) (heap_alloc_new w _)
/-! ### what Lex tells -/
def toks : L.Out → List L.Tok
  | .ok ts => ts
  | .error _ => []
def flt : L.Out → Value
  | .ok _ => .agg #[.int .i64 0, .int .i64 0]
  | .error (e, p) => .agg #[.int .i64 (eno e : Nat), .int .i64 (p : Nat)]
/-- A text's tokens, or what is wrong of it. -/
def lexA (s : ByteArray) : L.Out := if s.size ≤ 4096 then L.lexL 0 (by' s) else .error (.long, 0)
theorem results_two {P : Program} {fn : Func} {q p : Tmp} {ty : TypeId} (h : fn.results = #[.tmp q, .cell p ty]) (tmps : Array Value) (w : World) (v : Value) (g : Nat) (t : TypeId) (cs : Array Value) (fr : Nat × Nat) (d : TypeDesc)
    (hq : tmps.getD q undef = v) (hp : tmps.getD p undef = .pointer (some ⟨g, 0, none⟩)) (hg : w.heap[g]? = some (.cells cs t fr))
    (hu : P.underlying ty = some d) (hd : (match d with | .struct _ | .array _ _ => true | _ => false) = true) (hi : (P.info? ty).map (·.size) = some cs.size) :
    (results fn tmps).run P w = .ok (.tuple #[v, .agg cs]) w := by
  have hp' : tmps[p]?.getD undef = .pointer (some ⟨g, 0, none⟩) := by simpa using hp
  have hq' : tmps[q]?.getD undef = v := by simpa using hq
  simp [results, h, hp', hq', asAddr, run_loadVar_row w g t ty cs fr d hg hu hd hi]
/-! ### a text's tokens from a place on -/
theorem tok_at {s : ByteArray} {m kind n v : Nat} (hm : m < s.size) (h : L.nx s[m] (rest s (m + 1)) = .tok kind n v) : L.lexL m (rest s m) = L.pre [⟨kind, by' (s.extract m (m + n)), v, m⟩] (L.lexL (m + n) (rest s (m + n))) := by
  obtain ⟨h0, _⟩ := nx_in hm h
  obtain ⟨j, rfl⟩ : ∃ j, n = j + 1 := ⟨n - 1, by omega⟩
  rw [ext_take, ← rest_drop s m (j + 1), rest_lt hm]
  exact L.lex_tok h
theorem bad_at {s : ByteArray} {m : Nat} {e : L.Bad} (hm : m < s.size) (h : L.nx s[m] (rest s (m + 1)) = .bad e) : L.lexL m (rest s m) = .error (e, m) := by
  rw [rest_lt hm]
  exact L.lex_bad h
theorem end_at {s : ByteArray} {m : Nat} (hm : ¬ m < s.size) : L.lexL m (rest s m) = .ok [⟨4, [], 0, m⟩] := by
  rw [rest_ge (by omega), L.lex_nil]
end Go.Proofs.YtchokfgffnomoaaDoor.Lx
