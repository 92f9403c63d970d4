/-
  many of cells, of threads: contracts.
-/
import Derived.Test.YtchokfgffnomoaaDoorDSt
namespace Go.Proofs.YtchokfgffnomoaaDoor.Lx
open Go.RowKit
open L (Tok)
open P (EX CO ST Gl nextR)
set_option maxRecDepth 100000
set_option linter.unusedVariables false
set_option linter.unusedSimpArgs false
/-- A cell: a location and a number. -/
abbrev CE := List UInt8 × Int
/-- A cell as a value. -/
def LE (Q : Nat → Prop) (w : World) (v : Value) (c : CE) : Prop := v = .agg #[.string (bs c.1), .int .i64 c.2]
def AnyE (w : World) (v : Value) : Prop := ∃ (s : ByteArray) (n : Int), v = .agg #[.string s, .int .i64 n]
/-- Cells side by side. -/
def LEs (w : World) (g off : Nat) : List CE → Prop
  | [] => True
  | e :: es => (w.cell? ⟨g, off, none⟩ = some (.string (bs e.1)) ∧ w.cell? ⟨g, off + 1, none⟩ = some (.int .i64 e.2)) ∧ LEs w g (off + 2) es
/-- A slice of cells. -/
def IsEs (Q : Nat → Prop) (w : World) (v : Value) (es : List CE) : Prop := ∃ a c, v = .slice a es.length c ∧ es.length ≤ maxLen ∧ (es = [] ∨ ∃ g off, a = some ⟨g, off, none⟩ ∧ Q g ∧ LEs w g off es)
theorem LEs.same {w w' : World} {g : Nat} (h : w'.heap[g]? = w.heap[g]?) : ∀ (es : List CE) {off : Nat}, LEs w g off es → LEs w' g off es
  | [], off, hv => trivial
  | e :: es, off, hv => by
    have hc : ∀ o, w'.cell? ⟨g, o, none⟩ = w.cell? ⟨g, o, none⟩ := fun o => by simp only [World.cell?, h]
    unfold LEs at hv ⊢
    exact ⟨⟨(hc _).trans hv.1.1, (hc _).trans hv.1.2⟩, LEs.same h es hv.2⟩
theorem LEs.lt {w : World} {g off : Nat} {e : CE} {es : List CE} (h : LEs w g off (e :: es)) : g < w.heap.size := World.block_lt_of_cell? w ⟨g, off, none⟩ h.1.1
theorem IsEs.step {Q Q' : Nat → Prop} {w w' : World} (h : Same Q Q' w w') {v : Value} {es : List CE} (hv : IsEs Q w v es) : IsEs Q' w' v es := by
  obtain ⟨a, c, rfl, hm, hr⟩ := hv
  refine ⟨a, c, rfl, hm, ?_⟩
  cases es with
  | nil => exact .inl rfl
  | cons e es =>
    rcases hr with h1 | ⟨g, off, rfl, hg, hs⟩
    · cases h1
    · obtain ⟨h1, h2⟩ := h g hg hs.lt
      exact .inr ⟨g, off, rfl, h1, LEs.same h2 _ hs⟩
/-- Threads side by side: a slice of statements each. -/
def LTs (Q : Nat → Prop) (w : World) (g off : Nat) : List (List ST) → Prop
  | [] => True
  | e :: es => (∃ v, w.cell? ⟨g, off, none⟩ = some v ∧ IsSs Q w v e) ∧ LTs Q w g (off + 1) es
def IsTs (Q : Nat → Prop) (w : World) (v : Value) (es : List (List ST)) : Prop := ∃ a c, v = .slice a es.length c ∧ es.length ≤ maxLen ∧ (es = [] ∨ ∃ g off, a = some ⟨g, off, none⟩ ∧ Q g ∧ LTs Q w g off es)
theorem LTs.lt {Q : Nat → Prop} {w : World} {g off : Nat} {e : List ST} {es : List (List ST)} (h : LTs Q w g off (e :: es)) : g < w.heap.size := by
  obtain ⟨⟨v, hc, _⟩, _⟩ := h
  exact World.block_lt_of_cell? w ⟨g, off, none⟩ hc
theorem LTs.step {Q Q' : Nat → Prop} {w w' : World} (h : Same Q Q' w w') {g : Nat} (hg : w'.heap[g]? = w.heap[g]?) : ∀ (es : List (List ST)) {off : Nat}, LTs Q w g off es → LTs Q' w' g off es
  | [], off, hv => trivial
  | e :: es, off, hv => by
    have hc : ∀ o, w'.cell? ⟨g, o, none⟩ = w.cell? ⟨g, o, none⟩ := fun o => by simp only [World.cell?, hg]
    unfold LTs at hv ⊢
    obtain ⟨⟨v, h1, h2⟩, h3⟩ := hv
    exact ⟨⟨v, (hc _).trans h1, IsSs.step h h2⟩, LTs.step h hg es h3⟩
theorem IsTs.step {Q Q' : Nat → Prop} {w w' : World} (h : Same Q Q' w w') {v : Value} {es : List (List ST)} (hv : IsTs Q w v es) : IsTs Q' w' v es := by
  obtain ⟨a, c, rfl, hm, hr⟩ := hv
  refine ⟨a, c, rfl, hm, ?_⟩
  cases es with
  | nil => exact .inl rfl
  | cons e es =>
    rcases hr with h1 | ⟨g, off, rfl, hg, hs⟩
    · cases h1
    · obtain ⟨h1, h2⟩ := h g hg hs.lt
      exact .inr ⟨g, off, rfl, h1, LTs.step h h2 _ hs⟩
theorem Tryd.infoCe : (Tryd.prog.info? 65).map (fun i => (i.zero, i.size, i.bytes)) = some (some (.agg #[.string ⟨#[]⟩, .int .i64 0]), 2, 24) := by kernel_rfl
theorem Tryd.infoSl : (Tryd.prog.info? 66).map (fun i => (i.zero, i.size, i.bytes)) = some (some (.slice none 0 0), 1, 24) := by kernel_rfl
theorem cells_new (w : World) (cs : Array Value) (t : TypeId) : ∀ j u, cs.toList[j]? = some u → (w.alloc (.cells cs t)).cell? ((⟨w.heap.size, 0, none⟩ : Addr).add j) = some u := by
  intro j u hu
  have hB := Blk.new w t cs
  have h := hB.cell j
  have e : ((⟨w.heap.size, 0, none⟩ : Addr).add j) = ⟨w.heap.size, j, none⟩ := by simp [Addr.add]; intro h; exact h.symm
  rw [e, h]
  simpa using hu
theorem two_one (s : ByteArray) (n : Int) : ∀ u ∈ [Value.string s, .int .i64 n], u.oneCell' = true := by
  intro u hu
  simp only [List.mem_cons, List.not_mem_nil, or_false] at hu
  rcases hu with rfl | rfl <;> rfl
theorem sl_one (a : Option Addr) (n c : Nat) : ∀ u ∈ [Value.slice a n c], u.oneCell' = true := by
  intro u hu
  simp only [List.mem_cons, List.not_mem_nil, or_false] at hu
  subst hu
  rfl
def hd1 : List Value → Value
  | [v] => v
  | _ => .tuple #[]
theorem leStep : StepV LE := by
  intro Q Q' w w' h v a hv
  exact hv
theorem issStep : StepV IsSs := by
  intro Q Q' w w' h v a hv
  exact IsSs.step h hv
theorem rowsE {Q : Nat → Prop} {w : World} {g : Nat} : ∀ (es : List CE) (vals : List Value) (off : Nat), RowsV 2 agg LE Q w vals es → (∀ i u, vals[i]? = some u → w.cell? ⟨g, off + i, none⟩ = some u) → LEs w g off es
  | [], vals, off, h, hc => trivial
  | e :: es, vals, off, h, hc => by
    obtain ⟨cs, rest, rfl, hl, hv, hr⟩ := h
    match cs, hl with
    | [c0, c1], _ =>
      have hv' : Value.agg #[c0, c1] = .agg #[.string (bs e.1), .int .i64 e.2] := hv
      injection hv' with hv'
      obtain ⟨rfl, rfl⟩ : c0 = _ ∧ c1 = _ := by simpa using hv'
      unfold LEs
      refine ⟨⟨hc 0 _ rfl, hc 1 _ rfl⟩, ?_⟩
      refine rowsE es rest (off + 2) hr (fun i u hu => ?_)
      have := hc (i + 2) u (by simpa using hu)
      rw [show off + (i + 2) = off + 2 + i by omega] at this
      exact this
theorem rowsT {Q : Nat → Prop} {w : World} {g : Nat} : ∀ (es : List (List ST)) (vals : List Value) (off : Nat), RowsV 1 hd1 IsSs Q w vals es → (∀ i u, vals[i]? = some u → w.cell? ⟨g, off + i, none⟩ = some u) → LTs Q w g off es
  | [], vals, off, h, hc => trivial
  | e :: es, vals, off, h, hc => by
    obtain ⟨cs, rest, rfl, hl, hv, hr⟩ := h
    match cs, hl with
    | [c0], _ =>
      unfold LTs
      refine ⟨⟨c0, hc 0 _ rfl, hv⟩, ?_⟩
      refine rowsT es rest (off + 1) hr (fun i u hu => ?_)
      have := hc (i + 1) u (by simpa using hu)
      rw [show off + (i + 1) = off + 1 + i by omega] at this
      exact this
theorem LTs.mono {Q Q' : Nat → Prop} {w : World} (h : ∀ b, Q b → b < w.heap.size → Q' b) {g off : Nat} {es : List (List ST)} (hv : LTs Q w g off es) : LTs Q' w g off es := LTs.step (fun b hb hl => ⟨h b hb hl, rfl⟩) rfl es hv
end Go.Proofs.YtchokfgffnomoaaDoor.Lx
