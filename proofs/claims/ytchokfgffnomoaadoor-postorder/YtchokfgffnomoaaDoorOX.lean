/-
  How data that came in are opened: fields, rows, expressions as trees. It proves nothing of Go by itself.
-/
import Derived.Test.YtchokfgffnomoaaDoorPB
import Derived.ProofKit
import Derived.OpenShut
import Derived.ChangeOld
import Derived.ChangeArms
import Derived.SizedLaws
namespace Go.Proofs.YtchokfgffnomoaaDoor.Lx
open Go.RowKit
open P (EX)
set_option maxRecDepth 100000
set_option linter.unusedVariables false
set_option linter.unusedSimpArgs false
/-- A number is an int. -/
def W64 (n : Int) : Prop := -9223372036854775808 ≤ n ∧ n ≤ 9223372036854775807
theorem w64_of {n : Int} (h : (Lit.int .i64 n).wf = true) : W64 n := by
  have : -9223372036854775808 ≤ n ∧ n ≤ 9223372036854775807 := by simpa [Lit.wf, IntKind.min, IntKind.max, IntKind.signed, IntKind.bits] using h
  exact this
section
variable {H : Type} {enc : TypeId × Value → H} {W : World} {base : Nat} {spare : Nat → Bool} {held : Bool}
theorem fld {n : Nat} {t : TypeId} {fs : Array Field} {cs : List Value} {x : DataW H × List MemPlace} (ht : Tryd.prog.underlying t = some (.struct fs)) (h : DataW.trod enc Tryd.prog W base spare held (n + 1) t cs = some x) (i : Nat) (f : Field) (hf : fs[i]? = some f) :
    ∃ y, DataW.trod enc Tryd.prog W base spare held n f.type ((cs.drop f.offset).take (Tryd.prog.cellsOf f.type)) = some y := by
  obtain ⟨xs, m, hm, _, _, hl, hg⟩ := DataW.trod_struct ht h
  obtain rfl : n = m := by omega
  have hi : i < fs.size := by
    rcases Nat.lt_or_ge i fs.size with h | h
    · exact h
    · rw [Array.getElem?_eq_none h] at hf
      cases hf
  have h1 := hg i f hf
  rw [List.getElem?_eq_getElem (by omega)] at h1
  exact ⟨_, h1⟩
theorem fldc {n : Nat} {t t' : TypeId} {fs : Array Field} {cs cs' : List Value} {x : DataW H × List MemPlace} {k : Nat} (ht : Tryd.prog.underlying t = some (.struct fs)) (h : DataW.trod enc Tryd.prog W base spare held (n + 1) t cs = some x) (i : Nat) (f : Field) (hf : fs[i]? = some f) (ht' : f.type = t') (hk : Tryd.prog.cellsOf t' = k) (hcs : (cs.drop f.offset).take k = cs') :
    ∃ y, DataW.trod enc Tryd.prog W base spare held n t' cs' = some y := by
  subst ht' hk hcs
  exact fld ht h i f hf
theorem fld_len {n : Nat} {t : TypeId} {fs : Array Field} {cs : List Value} {x : DataW H × List MemPlace} (ht : Tryd.prog.underlying t = some (.struct fs)) (h : DataW.trod enc Tryd.prog W base spare held n t cs = some x) : cs.length = Tryd.prog.cellsOf t := by
  obtain ⟨xs, m, hm, _, hc, hl, hg⟩ := DataW.trod_struct ht h
  exact hc
theorem add_off (g off m : Nat) : (⟨g, off, none⟩ : Addr).add m = ⟨g, off + m, none⟩ := by
  unfold Addr.add
  split
  · subst_vars
    rfl
  · rfl
/-- A row of things of k cells each. -/
theorem elems {n : Nat} {t e : TypeId} {k : Nat} {c : Value} {x : DataW H × List MemPlace} (ht : Tryd.prog.underlying t = some (.slice e)) (hk : Tryd.prog.cellsOf e = k) (h0 : 0 < k) (h : DataW.trod enc Tryd.prog W base spare held (n + 1) t [c] = some x) :
    ∃ (a : Option Addr) (len cap : Nat), c = .slice a len cap ∧ len ≤ cap ∧ cap ≤ maxLen ∧ (len = 0 ∨ ∃ g off, a = some ⟨g, off, none⟩ ∧ ∀ i, i < len → ∃ ds y, ds.length = k ∧ DataW.trod enc Tryd.prog W base spare held n e ds = some y ∧ ∀ j, j < k → W.cell? ⟨g, off + i * k + j, none⟩ = ds[j]?) := by
  rcases DataW.trod_slice ht h with ⟨hc, _⟩ | ⟨a, len, cap, el, re, m, hm, hc, _, _, hlc, hcm, hel, hat, _, _⟩
  · simp at hc
    subst hc
    exact ⟨none, 0, 0, rfl, Nat.le_refl _, Nat.zero_le _, .inl rfl⟩
  · obtain rfl : n = m := by omega
    simp at hc
    subst hc
    refine ⟨some a, len, cap, rfl, hlc, hcm, ?_⟩
    by_cases hz : len = 0
    · exact .inl hz
    right
    have key : ∀ i, i < len → ∃ ds y, W.cells? base (a.add (i * Tryd.prog.cellsOf e)) (Tryd.prog.cellsOf e) = some ds ∧ DataW.trod enc Tryd.prog W base spare held n e ds = some y := by
      intro i hi
      have h1 := hat i hi
      rw [List.getElem?_eq_getElem (by omega)] at h1
      obtain ⟨ds, h2, h3⟩ := Option.bind_eq_some_iff.1 h1
      exact ⟨ds, _, h2, h3⟩
    have spot : a.spot = none := by
      obtain ⟨ds, y, h1, _⟩ := key 0 (by omega)
      obtain ⟨_, hl, hcs⟩ := World.cells?_some h1
      have h2 := hcs 0 (by omega)
      rw [List.getElem?_eq_getElem (by omega)] at h2
      have h3 := World.cell?_spot h2
      simpa [Addr.add] using h3
    obtain ⟨g, off, sp⟩ := a
    simp only at spot
    subst spot
    refine ⟨g, off, rfl, fun i hi => ?_⟩
    obtain ⟨ds, y, h1, h2⟩ := key i hi
    obtain ⟨_, hl, hcs⟩ := World.cells?_some h1
    refine ⟨ds, y, by omega, h2, fun j hj => ?_⟩
    have h3 := hcs j (by omega)
    rw [hk, add_off, add_off] at h3
    exact h3
end
theorem pick_list {α : Type} {R : Nat → α → Prop} : ∀ (n : Nat), (∀ i, i < n → ∃ a, R i a) → ∃ l : List α, l.length = n ∧ ∀ i, i < n → ∃ a, l[i]? = some a ∧ R i a
  | 0, _ => ⟨[], rfl, fun i hi => absurd hi (Nat.not_lt_zero _)⟩
  | n + 1, h => by
    obtain ⟨l, hl, hr⟩ := pick_list n (fun i hi => h i (by omega))
    obtain ⟨a, ha⟩ := h n (by omega)
    refine ⟨l ++ [a], by simp [hl], fun i hi => ?_⟩
    by_cases hin : i < n
    · obtain ⟨b, hb, hrb⟩ := hr i hin
      exact ⟨b, by rw [List.getElem?_append_left (by omega)]; exact hb, hrb⟩
    · obtain rfl : i = n := by omega
      refine ⟨a, ?_, ha⟩
      rw [List.getElem?_append_right (by omega)]
      simp [hl]
mutual
/-- Its numbers are ints, its names may be. -/
def wfX : EX → Prop
  | .mk o n s ks => W64 o ∧ W64 n ∧ s.length ≤ maxLen ∧ wfXs ks
def wfXs : List EX → Prop
  | [] => True
  | e :: es => wfX e ∧ wfXs es
end
theorem wfXs_mem : ∀ {es : List EX}, wfXs es → ∀ e ∈ es, wfX e
  | [], _, e, he => by cases he
  | x :: es, h, e, he => by
    unfold wfXs at h
    rcases List.mem_cons.1 he with rfl | he
    · exact h.1
    · exact wfXs_mem h.2 e he
theorem wfXs_of : ∀ {es : List EX}, (∀ e ∈ es, wfX e) → wfXs es
  | [], _ => by
    unfold wfXs
    trivial
  | x :: es, h => by
    unfold wfXs
    exact ⟨h x (.head _), wfXs_of (fun e he => h e (.tail _ he))⟩
theorem LXs.of {Q : Nat → Prop} {W : World} {g : Nat} : ∀ (es : List EX) (off : Nat), (∀ i, i < es.length → ∃ e c0 c1 c2 c3, es[i]? = some e ∧ W.cell? ⟨g, off + i * 4, none⟩ = some c0 ∧ W.cell? ⟨g, off + i * 4 + 1, none⟩ = some c1 ∧ W.cell? ⟨g, off + i * 4 + 2, none⟩ = some c2 ∧ W.cell? ⟨g, off + i * 4 + 3, none⟩ = some c3 ∧ LX Q W (.agg #[c0, c1, c2, c3]) e) → LXs Q W g off es
  | [], _, _ => by
    unfold LXs
    trivial
  | e :: es, off, h => by
    unfold LXs
    constructor
    · obtain ⟨e', c0, c1, c2, c3, he, h0, h1, h2, h3, hx⟩ := h 0 (by simp)
      obtain rfl : e = e' := by simpa using he
      rw [Nat.zero_mul, Nat.add_zero] at h0 h1 h2 h3
      exact ⟨c0, c1, c2, c3, h0, h1, h2, h3, hx⟩
    · refine LXs.of es (off + 4) (fun i hi => ?_)
      have h1 := h (i + 1) (by simp; omega)
      rw [show off + (i + 1) * 4 = off + 4 + i * 4 by omega] at h1
      simpa using h1
theorem cellsI : Tryd.prog.cellsOf 3 = 1 := by kernel_rfl
theorem cellsS : Tryd.prog.cellsOf 9 = 1 := by kernel_rfl
theorem cellsXs : Tryd.prog.cellsOf 29 = 1 := by kernel_rfl
theorem cellsX : Tryd.prog.cellsOf 31 = 4 := by kernel_rfl
theorem list4 {α : Type} {cs : List α} (h : cs.length = 4) : ∃ c0 c1 c2 c3, cs = [c0, c1, c2, c3] := by
  match cs, h with
  | [c0, c1, c2, c3], _ => exact ⟨c0, c1, c2, c3, rfl⟩
set_option maxHeartbeats 1000000 in
/-- An expression that came in is one. -/
theorem open_lx {H : Type} {enc : TypeId × Value → H} {W : World} {base : Nat} {spare : Nat → Bool} {held : Bool} : ∀ (n : Nat) (cs : List Value) (x : DataW H × List MemPlace), DataW.trod enc Tryd.prog W base spare held n 31 cs = some x → ∃ e, LX (fun _ => True) W (.agg cs.toArray) e ∧ wfX e
  | 0, cs, x, h => by simp [DataW.trod] at h
  | 1, cs, x, h => by
    obtain ⟨y, hy⟩ := fld Tryd.underlying31 h 0 _ rfl
    simp [DataW.trod] at hy
  | n + 2, cs, x, h => by
    obtain ⟨c0, c1, c2, c3, rfl⟩ := list4 ((fld_len Tryd.underlying31 h).trans cellsX)
    obtain ⟨y0, h0⟩ := fldc Tryd.underlying31 h 0 _ rfl (t' := 3) rfl cellsI (cs' := [c0]) rfl
    obtain ⟨y1, h1⟩ := fldc Tryd.underlying31 h 1 _ rfl (t' := 3) rfl cellsI (cs' := [c1]) rfl
    obtain ⟨y2, h2⟩ := fldc Tryd.underlying31 h 2 _ rfl (t' := 9) rfl cellsS (cs' := [c2]) rfl
    obtain ⟨y3, h3⟩ := fldc Tryd.underlying31 h 3 _ rfl (t' := 29) rfl cellsXs (cs' := [c3]) rfl
    obtain ⟨o, ho, _, wo⟩ := DataW.trod_int Tryd.underlying3 h0
    obtain ⟨m, hm, _, wm⟩ := DataW.trod_int Tryd.underlying3 h1
    obtain ⟨s, hs, _, ws⟩ := DataW.trod_string Tryd.underlying9 h2
    obtain ⟨a, len, cap, hc, hlc, hcm, hrow⟩ := elems Tryd.underlying29 cellsX (by decide) h3
    simp at ho hm hs
    subst ho hm hs hc
    rcases hrow with h0 | ⟨g, off, rfl, hrow⟩
    · subst h0
      exact ⟨.mk o m (by' s) [], by unfold LX; exact ⟨a, cap, rfl, Nat.zero_le _, .inl rfl⟩, by unfold wfX wfXs; exact ⟨w64_of wo, w64_of wm, ws, trivial⟩⟩
    · obtain ⟨ks, hkl, hks⟩ := pick_list (R := fun i e => ∃ c0 c1 c2 c3, W.cell? ⟨g, off + i * 4, none⟩ = some c0 ∧ W.cell? ⟨g, off + i * 4 + 1, none⟩ = some c1 ∧ W.cell? ⟨g, off + i * 4 + 2, none⟩ = some c2 ∧ W.cell? ⟨g, off + i * 4 + 3, none⟩ = some c3 ∧ LX (fun _ => True) W (.agg #[c0, c1, c2, c3]) e ∧ wfX e) len (fun i hi => by
        obtain ⟨ds, y, hd, hy, hcell⟩ := hrow i hi
        obtain ⟨d0, d1, d2, d3, rfl⟩ := list4 hd
        obtain ⟨e, he, hw⟩ := open_lx n _ y hy
        exact ⟨e, d0, d1, d2, d3, hcell 0 (by decide), hcell 1 (by decide), hcell 2 (by decide), hcell 3 (by decide), he, hw⟩)
      subst hkl
      refine ⟨.mk o m (by' s) ks, ?_, ?_⟩
      · unfold LX
        refine ⟨some ⟨g, off, none⟩, cap, rfl, by omega, .inr ⟨g, off, rfl, trivial, LXs.of ks off (fun i hi => ?_)⟩⟩
        obtain ⟨e, he, c0, c1, c2, c3, k0, k1, k2, k3, hx, _⟩ := hks i hi
        exact ⟨e, c0, c1, c2, c3, he, k0, k1, k2, k3, hx⟩
      · unfold wfX
        refine ⟨w64_of wo, w64_of wm, ws, wfXs_of (fun e he => ?_)⟩
        obtain ⟨i, hi⟩ := List.getElem?_of_mem he
        have hil : i < ks.length := by
          rcases Nat.lt_or_ge i ks.length with h | h
          · exact h
          · rw [List.getElem?_eq_none h] at hi
            cases hi
        obtain ⟨e', he', _, _, _, _, _, _, _, _, _, hw⟩ := hks i hil
        obtain rfl : e = e' := by
          rw [hi] at he'
          exact Option.some.inj he'
        exact hw
end Go.Proofs.YtchokfgffnomoaaDoor.Lx
