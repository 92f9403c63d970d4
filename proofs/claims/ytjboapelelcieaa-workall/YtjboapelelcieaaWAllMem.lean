/-
  What lies in memory while WorkAll goes on: the list, the statement's own row of things, its copy of the picks.
-/
import Derived.Test.YtjboapelelcieaaWLawPop
import Derived.Deep.RegionLaw
import Derived.Deep.AppendLies
namespace Go.Proofs.Ytjboapelelcieaa.Wk
open Go.RowKit
set_option linter.unusedVariables false
set_option linter.unusedSimpArgs false
/-- The list at L has the things m; the row v has the things mm; the picks lie in block gi. -/
structure AllW (base L Q gi ci : Nat) (ps : List Int) (k : Nat) (m mm : List Th) (v : Value) (w0 w : World) : Prop where
  ls : ∃ F, Ls w base F L Q ps k m ∧ ¬ F gi ∧ ∀ g, v.ownBlock = some g → ¬ F g
  row : w.ownsRow base 28 3 v mm.length (flat mm)
  inn : w.ownsRow base 3 1 (.slice (some ⟨gi, 0, none⟩) (ps.length + 1) ci) (ps.length + 1) (ints (ps ++ [99]))
  bel : Below base w0 w
theorem own_only {w w' : World} {base : Nat} {t : TypeId} {size n : Nat} {v : Value} {xs : List Value} (h : w.ownsRow base t size v n xs) {S : Nat → Prop} (ho : Only S w w') (hS : ∀ g, v.ownBlock = some g → ¬ S g) : w'.ownsRow base t size v n xs := by
  refine ⟨h.1, ?_⟩
  rcases h.2 with h0 | ⟨g, cap, cur, hv, hg, hh, r⟩
  · exact .inl h0
  · exact .inr ⟨g, cap, cur, hv, hg, (ho.block g (lt_of_block hh) (hS g (by rw [hv]; rfl))).trans hh, r⟩
theorem AllW.size {base L Q gi ci : Nat} {ps : List Int} {k : Nat} {m mm : List Th} {v : Value} {w0 w : World} (h : AllW base L Q gi ci ps k m mm v w0 w) : base ≤ w.heap.size := by
  obtain ⟨F, hl, _⟩ := h.ls
  exact hl.base
theorem AllW.ord {base L Q gi ci : Nat} {ps : List Int} {k : Nat} {m mm : List Th} {v : Value} {w0 w : World} (h : AllW base L Q gi ci ps k m mm v w0 w) : Ordered ps k m := by
  obtain ⟨F, hl, _⟩ := h.ls
  exact hl.ord
/-- A call of the list leaves the rest. -/
theorem AllW.goes {base L Q gi ci : Nat} {ps : List Int} {k k' : Nat} {m m' mm : List Th} {v : Value} {w0 w w' : World} (h : AllW base L Q gi ci ps k m mm v w0 w) {F : Nat → Prop} (hl : Ls w base F L Q ps k m) (hgi : ¬ F gi) (hv : ∀ g, v.ownBlock = some g → ¬ F g)
    (hg : Goes base F L Q ps k' m' w w') : AllW base L Q gi ci ps k' m' mm v w0 w' := by
  have hbel := hg.below hl
  obtain ⟨F', hl', hF', ho⟩ := hg
  have hgi' := (h.inn.lt gi rfl).2
  refine ⟨⟨F', hl', fun hc => ?_, fun g hg hc => ?_⟩, own_only h.row ho hv, own_only h.inn ho (fun g hg => ?_), h.bel.trans hbel⟩
  · rcases hF' gi hc with h1 | h1
    · exact hgi h1
    · omega
  · rcases hF' g hc with h1 | h1
    · exact hv g hg h1
    · have := (h.row.lt g hg).2
      omega
  · have e : gi = g := by simpa [Value.ownBlock] using hg
    subst e
    exact hgi
/-- What Push leaves here. -/
def APushed (base L Q gi ci : Nat) (ps : List Int) (k : Nat) (m mm : List Th) (v : Value) (w0 : World) (e : Ending) (w' : World) : Prop :=
  e = .returned (.tuple #[]) ∧ AllW base L Q gi ci ps k m mm v w0 w'
theorem all_push (base L Q gi ci : Nat) (ps : List Int) (k : Nat) (m mm : List Th) (v : Value) (n : Int) (w0 w : World) (h : AllW base L Q gi ci ps k m mm v w0 w) (hk : k < 1000000000) (hm : m.length < 1000000000) :
    Calls Try.prog 9 #[.pointer (some ⟨L, 0, none⟩), .int .i64 n] w (APushed base L Q gi ci ps (k + 1) (m ++ [⟨n, keyOf ps k, k⟩]) mm v w0) := by
  obtain ⟨F, hl, hgi, hv⟩ := h.ls
  exact (push_any base F L Q ps k m n w hl hk hm).mono fun _ _ ⟨he, hg⟩ => ⟨he, h.goes hl hgi hv hg⟩
def APopped (base L Q gi ci : Nat) (ps : List Int) (k : Nat) (m mm : List Th) (v : Value) (w0 : World) (e : Ending) (w' : World) : Prop :=
  ∃ b, Best m b ∧ e = .returned (.tuple #[.int .i64 (tat m b).n, .bool true]) ∧ AllW base L Q gi ci ps k (m.eraseIdx b) mm v w0 w'
theorem all_pop (base L Q gi ci : Nat) (ps : List Int) (k : Nat) (m mm : List Th) (v : Value) (w0 w : World) (h : AllW base L Q gi ci ps k m mm v w0 w) (h0 : 0 < m.length) (hm : m.length < 1000000000) :
    Calls Try.prog 11 #[.pointer (some ⟨L, 0, none⟩)] w (APopped base L Q gi ci ps k m mm v w0) := by
  obtain ⟨F, hl, hgi, hv⟩ := h.ls
  refine (pop_some base F L Q ps k m w hl h0 hm).mono ?_
  rintro e w' ⟨b, hb, he, hg⟩
  exact ⟨b, hb, he, h.goes hl hgi hv hg⟩
theorem all_pop0 (base L Q gi ci : Nat) (ps : List Int) (k : Nat) (mm : List Th) (v : Value) (w0 w : World) (h : AllW base L Q gi ci ps k [] mm v w0 w) :
    Calls Try.prog 11 #[.pointer (some ⟨L, 0, none⟩)] w fun e w' => e = .returned (.tuple #[.int .i64 0, .bool false]) ∧ w = w' := by
  obtain ⟨F, hl, _⟩ := h.ls
  exact pop_none base F L Q ps k w hl
theorem all_len (base L Q gi ci : Nat) (ps : List Int) (k : Nat) (m mm : List Th) (v : Value) (w0 w : World) (h : AllW base L Q gi ci ps k m mm v w0 w) :
    Calls Try.prog 12 #[.pointer (some ⟨L, 0, none⟩)] w fun e w' => e = .returned (.int .i64 (m.length : Nat)) ∧ w = w' := by
  obtain ⟨F, hl, _⟩ := h.ls
  exact len_of base F L Q ps k m w hl
theorem AllW.drewN {base L Q gi ci : Nat} {ps : List Int} {k : Nat} {m mm : List Th} {v : Value} {w0 w : World} (h : AllW base L Q gi ci ps k m mm v w0 w) (n : Nat) : AllW base L Q gi ci ps k m mm v w0 (w.drewN n) := by
  obtain ⟨F, hl, h2⟩ := h.ls
  exact ⟨⟨F, hl.only (S := fun _ => False) ((Only.refl _ w).drewN n) (fun _ _ h => h), h2⟩, h.row, h.inn, h.bel.trans ⟨rfl, rfl, rfl, Nat.le_refl _, fun _ _ => rfl⟩⟩
/-- The row is another one, in its old block or a new one. -/
theorem AllW.rowTo {base L Q gi ci : Nat} {ps : List Int} {k : Nat} {m mm mm' : List Th} {v v' : Value} {w0 w w' : World} (h : AllW base L Q gi ci ps k m mm v w0 w) (ho : Only (fun g => v.ownBlock = some g) w w')
    (hrow : w'.ownsRow base 28 3 v' mm'.length (flat mm')) (hv' : ∀ g, v'.ownBlock = some g → v.ownBlock = some g ∨ w.heap.size ≤ g) : AllW base L Q gi ci ps k m mm' v' w0 w' := by
  obtain ⟨F, hl, hgi, hv⟩ := h.ls
  refine ⟨⟨F, hl.only ho (fun g hF hc => hv g hc hF), hgi, fun g hg hF => ?_⟩, hrow, own_only h.inn ho (fun g hg hc => ?_), h.bel.trans (ho.below h.size (fun g hg hc => ?_))⟩
  · rcases hv' g hg with h1 | h1
    · exact hv g h1 hF
    · have := (hl.ins g hF).2
      omega
  · exact own_apart h.row h.inn (by decide) g hc hg
  · have := (h.row.lt g hc).1
    omega
theorem Row.cellAt {w : World} {t : TypeId} {g cap : Nat} {ts : List Th} {cur : Array Value} (h : Row w t g cap ts cur) (k : Nat) (v : Value) (hv : (flat ts)[k]? = some v) : w.cell? ⟨g, k, none⟩ = some v := by
  rw [h.blk.cell]
  rw [← h.take, List.getElem?_take] at hv
  split at hv
  · simpa using hv
  · cases hv
theorem add_at (g o j : Nat) : (⟨g, o, none⟩ : Addr).add j = ⟨g, o + j, none⟩ := by
  unfold Addr.add
  split <;> simp_all
theorem Row.news_take {w : World} {t : TypeId} {g cap : Nat} {ts : List Th} {cur : Array Value} (h : Row w t g cap ts cur) (b : Nat) : ∀ j u, (flat (ts.take b))[j]? = some u → w.cell? ((⟨g, 0, none⟩ : Addr).add j) = some u := by
  intro j u hu
  rw [add_at, Nat.zero_add]
  refine h.cellAt j u ?_
  have e : flat ts = flat (ts.take b) ++ flat (ts.drop b) := by rw [← flat_app, List.take_append_drop]
  rw [e, List.getElem?_append_left (List.getElem?_eq_some_iff.1 hu).1]
  exact hu
theorem Row.news_drop {w : World} {t : TypeId} {g cap : Nat} {ts : List Th} {cur : Array Value} (h : Row w t g cap ts cur) (q : Nat) (hq : q ≤ ts.length) : ∀ j u, (flat (ts.drop q))[j]? = some u → w.cell? ((⟨g, q * 3, none⟩ : Addr).add j) = some u := by
  intro j u hu
  rw [add_at]
  refine h.cellAt _ u ?_
  have e : flat ts = flat (ts.take q) ++ flat (ts.drop q) := by rw [← flat_app, List.take_append_drop]
  have hl : (flat (ts.take q)).length = q * 3 := by rw [flat_len, List.length_take]; omega
  rw [e, List.getElem?_append_right (by omega), hl, Nat.add_sub_cancel_left]
  exact hu
theorem news_none {w : World} {ts : List Th} {q : Nat} {ad : Addr} (h : ts.length ≤ q) : ∀ j u, (flat (ts.drop q))[j]? = some u → w.cell? (ad.add j) = some u := by
  intro j u hu
  rw [List.drop_eq_nil_of_le h] at hu
  simp [flat] at hu
theorem Row.grown {w w' : World} {t : TypeId} {g cap : Nat} {ts : List Th} {cur : Array Value} (h : Row w t g cap ts cur) {row : Option Nat} (hg : w.grownBy w' row) (hne : some g ≠ row) : Row w' t g cap ts cur :=
  ⟨(hg.block g h.blk.lt hne).trans h.blk, h.fit, h.max, h.size, h.take⟩
theorem flat_one (ts : List Th) : ∀ u ∈ flat ts, u.oneCell' = true := by
  intro u hu
  obtain ⟨t, _, ht⟩ := List.mem_flatMap.1 hu
  simp only [Th.cells, List.mem_cons, List.not_mem_nil, or_false] at ht
  rcases ht with rfl | rfl | rfl <;> rfl
theorem flat_take_len (ts : List Th) (b : Nat) (h : b ≤ ts.length) : (flat (ts.take b)).length = b * 3 := by rw [flat_len, List.length_take]; omega
theorem flat_drop_len (ts : List Th) (q : Nat) : (flat (ts.drop q)).length = (ts.length - q) * 3 := by rw [flat_len, List.length_drop]
theorem flat_erase (ts : List Th) (b : Nat) : flat (ts.eraseIdx b) = flat (ts.take b) ++ flat (ts.drop (b + 1)) := by rw [List.eraseIdx_eq_take_drop_succ, flat_app]
theorem made_ad (w : World) (base : Nat) (t : TypeId) (hb : base ≤ w.heap.size) : (w.alloc (.cells #[] t)).drew.ownsRow base t 3 (.slice (some ⟨w.heap.size, 0, none⟩) 0 0) 0 [] := World.ownsRow_made w #[] 0 hb (by decide) rfl
/-- The row without one, in a new block. -/
theorem AllW.cut {base L Q gi ci : Nat} {ps : List Int} {k : Nat} {m mm : List Th} {v : Value} {w0 w w7 w8 : World} (h : AllW base L Q gi ci ps k m mm v w0 w) {o : Obj} {g7 g8 c8 n1 b : Nat} (hg7 : (w.alloc o).drew.grownBy w7 (some w.heap.size)) (h7 : w.heap.size ≤ g7) (hg8 : w7.grownBy w8 (some g7)) (h8 : w.heap.size ≤ g8)
    (hl : (mm.eraseIdx b).length = n1) (hrow : w8.ownsRow base 28 3 (.slice (some ⟨g8, 0, none⟩) n1 c8) n1 (flat (mm.take b) ++ flat (mm.drop (b + 1)))) : AllW base L Q gi ci ps k m (mm.eraseIdx b) (.slice (some ⟨g8, 0, none⟩) n1 c8) w0 w8 := by
  subst hl
  refine h.rowTo ((((Only.refl _ w).alloc o).drew.grown hg7 (fun k hk => ?_)).grown hg8 (fun k hk => ?_)) ?_ (fun q hq => ?_)
  · cases hk
    exact .inr (Nat.le_refl _)
  · cases hk
    exact .inr h7
  · rw [flat_erase]
    exact hrow
  · have e : g8 = q := by simpa [Value.ownBlock] using hq
    subst e
    exact .inr h8
/-- An append of whatever length to a row of the call's own that is not nil, at a step of a region that draws its order. -/
theorem step_append_any {P : Program} (w : World) {ops : Array Oper} {o : Oper} {a : Act} {K : Act → World → Prop} {Q : Exit → Act → World → Prop} {E : Prop} (hgd : o.guard = none) (s x : Operand) (t : TypeId)
    (ho : o.op = .call { callee := .builtin .append, args := #[s, x], argTypes := #[t, t] })
    (base : Nat) (e : TypeId) (i : TypeInfo) (z : Value) (size bytes : Nat) (ht : P.underlying t = some (.slice e)) (hi : P.info? e = some i) (hz : i.zero = some z)
    (hsize : i.size = size) (hby : i.bytes = bytes) (hzs : z.cells.size = size) (hsz : 0 < size)
    (g0 n c0 : Nat) (xs : List Value) (hs : a.eval s = .slice (some ⟨g0, 0, none⟩) n c0) (hown : w.ownsRow base e size (.slice (some ⟨g0, 0, none⟩) n c0) n xs)
    (ad : Addr) (m c : Nat) (news : List Value) (hx : a.eval x = .slice (some ad) m c) (hl : news.length = m * size) (hnews : ∀ j u, news[j]? = some u → w.cell? (ad.add j) = some u) (h1 : ∀ u ∈ news, u.oneCell' = true)
    (h63 : n + m ≤ maxLen) (hbytes : (n + m) * bytes ≤ 140737488355328) (hbase : base ≤ w.heap.size) (N : Nat) (hN : n + m = N)
    (h : ∀ g cap w', w'.ownsRow base e size (.slice (some ⟨g, 0, none⟩) N cap) N (xs ++ news) → w.grownBy w' (some g0) → (g = g0 ∨ g = w.heap.size) → g < w'.heap.size → K (a.put o.dst (.slice (some ⟨g, 0, none⟩) N cap)) w') :
    if Region.wanted o (yielded ops a.tmps) = true then Oper.wp P o a w K Q else E := by
  have hw : Region.wanted o (yielded ops a.tmps) = true := by simp [Region.wanted, hgd]
  rw [if_pos hw]
  subst hN
  by_cases hm : m = 0
  · subst hm
    have hc : n + 0 ≤ c0 := by
      rcases hown.2 with ⟨h0, _⟩ | ⟨g, cap, cur, hv, _, _, hn, _⟩
      · cases h0
      · cases hv
        exact hn
    refine wp_append_own_spare w s x t ho base e i size ht hi hsize g0 n c0 xs hs hown ad 0 c news hx (by simpa using hl) hnews h1 hc ?_
    intro w' hown' hg'
    exact h g0 c0 w' hown' hg' (.inl rfl) (hown'.lt g0 rfl).2
  · refine wp_append_lies w s x t ho base e i z size bytes ht hi hz hsize hby hzs hsz _ n xs hs hown ad m c news hx hl hnews h1 (by omega) h63 hbytes hbase w.heap.size rfl ?_
    intro g cap w' hown' hg' hat hlt
    refine h g cap w' hown' hg' ?_ hlt
    rcases hat with hat | hat
    · simp only [Value.ownBlock, Option.some.injEq] at hat
      exact .inl hat.symm
    · exact .inr hat
end Go.Proofs.Ytjboapelelcieaa.Wk
