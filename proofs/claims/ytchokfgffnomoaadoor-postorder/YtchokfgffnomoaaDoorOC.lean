/-
  How conditions, rows of names, rows of numbers and outcomes that came in are opened. It proves nothing of Go by itself.
-/
import Derived.Test.YtchokfgffnomoaaDoorOF
import Derived.Test.YtchokfgffnomoaaDoorPTMem
namespace Go.Proofs.YtchokfgffnomoaaDoor.Lx
open Go.RowKit
open P (CO)
set_option maxRecDepth 100000
set_option linter.unusedVariables false
set_option linter.unusedSimpArgs false
mutual
/-- Its numbers are ints, its names may be. -/
def wfK : CO → Prop
  | .mk o t s n ks => W64 o ∧ W64 t ∧ s.length ≤ maxLen ∧ W64 n ∧ wfKs ks
def wfKs : List CO → Prop
  | [] => True
  | e :: es => wfK e ∧ wfKs es
end
theorem wfKs_mem : ∀ {es : List CO}, wfKs es → ∀ e ∈ es, wfK e
  | [], _, e, he => by cases he
  | x :: es, h, e, he => by
    unfold wfKs at h
    rcases List.mem_cons.1 he with rfl | he
    · exact h.1
    · exact wfKs_mem h.2 e he
theorem wfKs_of : ∀ {es : List CO}, (∀ e ∈ es, wfK e) → wfKs es
  | [], _ => by
    unfold wfKs
    trivial
  | x :: es, h => by
    unfold wfKs
    exact ⟨h x (.head _), wfKs_of (fun e he => h e (.tail _ he))⟩
theorem LCs.of {Q : Nat → Prop} {W : World} {g : Nat} : ∀ (es : List CO) (off : Nat), (∀ i, i < es.length → ∃ e c0 c1 c2 c3 c4, es[i]? = some e ∧ W.cell? ⟨g, off + i * 5, none⟩ = some c0 ∧ W.cell? ⟨g, off + i * 5 + 1, none⟩ = some c1 ∧ W.cell? ⟨g, off + i * 5 + 2, none⟩ = some c2 ∧ W.cell? ⟨g, off + i * 5 + 3, none⟩ = some c3 ∧ W.cell? ⟨g, off + i * 5 + 4, none⟩ = some c4 ∧ LC Q W (.agg #[c0, c1, c2, c3, c4]) e) → LCs Q W g off es
  | [], _, _ => by
    unfold LCs
    trivial
  | e :: es, off, h => by
    unfold LCs
    constructor
    · obtain ⟨e', c0, c1, c2, c3, c4, he, h0, h1, h2, h3, h4, hx⟩ := h 0 (by simp)
      obtain rfl : e = e' := by simpa using he
      rw [Nat.zero_mul, Nat.add_zero] at h0 h1 h2 h3 h4
      exact ⟨c0, c1, c2, c3, c4, h0, h1, h2, h3, h4, hx⟩
    · refine LCs.of es (off + 5) (fun i hi => ?_)
      have h1 := h (i + 1) (by simp; omega)
      rw [show off + (i + 1) * 5 = off + 5 + i * 5 by omega] at h1
      simpa using h1
theorem cellsCs : Tryd.prog.cellsOf 24 = 1 := by kernel_rfl
theorem cellsC : Tryd.prog.cellsOf 26 = 5 := by kernel_rfl
theorem cellsSs : Tryd.prog.cellsOf 41 = 1 := by kernel_rfl
theorem cellsIs : Tryd.prog.cellsOf 44 = 1 := by kernel_rfl
theorem cellsIss : Tryd.prog.cellsOf 43 = 1 := by kernel_rfl
theorem cellsOut : Tryd.prog.cellsOf 46 = 2 := by kernel_rfl
theorem list5 {α : Type} {cs : List α} (h : cs.length = 5) : ∃ c0 c1 c2 c3 c4, cs = [c0, c1, c2, c3, c4] := by
  match cs, h with
  | [c0, c1, c2, c3, c4], _ => exact ⟨c0, c1, c2, c3, c4, rfl⟩
theorem list2 {α : Type} {cs : List α} (h : cs.length = 2) : ∃ c0 c1, cs = [c0, c1] := by
  match cs, h with
  | [c0, c1], _ => exact ⟨c0, c1, rfl⟩
set_option maxHeartbeats 1000000 in
/-- A condition that came in is one. -/
theorem open_lk {H : Type} {enc : TypeId × Value → H} {W : World} {base : Nat} {spare : Nat → Bool} {held : Bool} : ∀ (n : Nat) (cs : List Value) (x : DataW H × List MemPlace), DataW.trod enc Tryd.prog W base spare held n 26 cs = some x → ∃ e, LC (fun _ => True) W (.agg cs.toArray) e ∧ wfK e
  | 0, cs, x, h => by simp [DataW.trod] at h
  | 1, cs, x, h => by
    obtain ⟨y, hy⟩ := fld Tryd.underlying26 h 0 _ rfl
    simp [DataW.trod] at hy
  | n + 2, cs, x, h => by
    obtain ⟨c0, c1, c2, c3, c4, rfl⟩ := list5 ((fld_len Tryd.underlying26 h).trans cellsC)
    obtain ⟨y0, h0⟩ := fldc Tryd.underlying26 h 0 _ rfl (t' := 3) rfl cellsI (cs' := [c0]) rfl
    obtain ⟨y1, h1⟩ := fldc Tryd.underlying26 h 1 _ rfl (t' := 3) rfl cellsI (cs' := [c1]) rfl
    obtain ⟨y2, h2⟩ := fldc Tryd.underlying26 h 2 _ rfl (t' := 9) rfl cellsS (cs' := [c2]) rfl
    obtain ⟨y3, h3⟩ := fldc Tryd.underlying26 h 3 _ rfl (t' := 3) rfl cellsI (cs' := [c3]) rfl
    obtain ⟨y4, h4⟩ := fldc Tryd.underlying26 h 4 _ rfl (t' := 24) rfl cellsCs (cs' := [c4]) rfl
    obtain ⟨o, ho, _, wo⟩ := DataW.trod_int Tryd.underlying3 h0
    obtain ⟨t, ht, _, wt⟩ := DataW.trod_int Tryd.underlying3 h1
    obtain ⟨s, hs, _, ws⟩ := DataW.trod_string Tryd.underlying9 h2
    obtain ⟨m, hm, _, wm⟩ := DataW.trod_int Tryd.underlying3 h3
    obtain ⟨a, len, cap, hc, hlc, hcm, hrow⟩ := elems Tryd.underlying24 cellsC (by decide) h4
    simp at ho ht hm hs
    subst ho ht hm hs hc
    rcases hrow with h0 | ⟨g, off, rfl, hrow⟩
    · subst h0
      exact ⟨.mk o t (by' s) m [], by unfold LC; exact ⟨a, cap, rfl, Nat.zero_le _, .inl rfl⟩, by unfold wfK wfKs; exact ⟨w64_of wo, w64_of wt, ws, w64_of wm, trivial⟩⟩
    · obtain ⟨ks, hkl, hks⟩ := pick_list (R := fun i e => ∃ c0 c1 c2 c3 c4, W.cell? ⟨g, off + i * 5, none⟩ = some c0 ∧ W.cell? ⟨g, off + i * 5 + 1, none⟩ = some c1 ∧ W.cell? ⟨g, off + i * 5 + 2, none⟩ = some c2 ∧ W.cell? ⟨g, off + i * 5 + 3, none⟩ = some c3 ∧ W.cell? ⟨g, off + i * 5 + 4, none⟩ = some c4 ∧ LC (fun _ => True) W (.agg #[c0, c1, c2, c3, c4]) e ∧ wfK e) len (fun i hi => by
        obtain ⟨ds, y, hd, hy, hcell⟩ := hrow i hi
        obtain ⟨d0, d1, d2, d3, d4, rfl⟩ := list5 hd
        obtain ⟨e, he, hw⟩ := open_lk n _ y hy
        exact ⟨e, d0, d1, d2, d3, d4, hcell 0 (by decide), hcell 1 (by decide), hcell 2 (by decide), hcell 3 (by decide), hcell 4 (by decide), he, hw⟩)
      subst hkl
      refine ⟨.mk o t (by' s) m ks, ?_, ?_⟩
      · unfold LC
        refine ⟨some ⟨g, off, none⟩, cap, rfl, by omega, .inr ⟨g, off, rfl, trivial, LCs.of ks off (fun i hi => ?_)⟩⟩
        obtain ⟨e, he, c0, c1, c2, c3, c4, k0, k1, k2, k3, k4, hx, _⟩ := hks i hi
        exact ⟨e, c0, c1, c2, c3, c4, he, k0, k1, k2, k3, k4, hx⟩
      · unfold wfK
        refine ⟨w64_of wo, w64_of wt, ws, w64_of wm, wfKs_of (fun e he => ?_)⟩
        obtain ⟨i, hi⟩ := List.getElem?_of_mem he
        have hil : i < ks.length := by
          rcases Nat.lt_or_ge i ks.length with h | h
          · exact h
          · rw [List.getElem?_eq_none h] at hi
            cases hi
        obtain ⟨e', he', _, _, _, _, _, _, _, _, _, _, _, hw⟩ := hks i hil
        obtain rfl : e = e' := by
          rw [hi] at he'
          exact Option.some.inj he'
        exact hw
section
variable {H : Type} {enc : TypeId × Value → H} {W : World} {base : Nat} {spare : Nat → Bool} {held : Bool}
theorem open_c {v : Value} {d : DataW H} {p : List MemPlace} (hv : Value.okWide Tryd.prog W .any 0 26 v) (h : DataW.Trod enc Tryd.prog W base spare held 26 v d p) : ∃ e, LC (fun _ => True) W v e ∧ wfK e := by
  obtain ⟨cs, rfl, _⟩ := Go.WideShapes.okWide_struct Tryd.underlying26 hv
  obtain ⟨n, hn⟩ := h
  obtain ⟨e, he, hw⟩ := open_lk n _ _ hn
  exact ⟨e, by simpa [Value.cells] using he, hw⟩
/-- Rows of names that came in. -/
theorem open_nss {a : Option Addr} {len cap : Nat} {d : DataW H} {p : List MemPlace} (h : DataW.Trod enc Tryd.prog W base spare held 42 (.slice a len cap) d p) : ∃ rg : List (List (List UInt8)), rg.length = len ∧ NssA W a rg ∧ NsOk rg := by
  obtain ⟨n, hn⟩ := h
  rcases n with _ | n
  · simp [DataW.trod] at hn
  obtain ⟨a', len', cap', he, hlc, hcm, hr⟩ := elems Tryd.underlying42 cellsSs (by decide) (show DataW.trod enc Tryd.prog W base spare held (n + 1) 42 [.slice a len cap] = some (d, p) by simpa [Value.cells] using hn)
  injection he with e1 e2 e3
  subst e1 e2 e3
  rcases hr with h0 | ⟨g, off, rfl, hr⟩
  · subst h0
    exact ⟨[], rfl, .inl rfl, Nat.zero_le _, fun i => by simp⟩
  · obtain ⟨rs, hl, hrs⟩ := pick_list (R := fun i (s : List (List UInt8)) => ∃ u, W.cell? ⟨g, off + i, none⟩ = some u ∧ Nms (fun _ => True) W u s ∧ s.length ≤ maxLen) len (fun i hi => by
      obtain ⟨ds, y, hd, hy, hcell⟩ := hr i hi
      match ds, hd with
      | [u], _ =>
        rcases n with _ | n
        · simp [DataW.trod] at hy
        obtain ⟨ra, rl, rc, he, _, _, _⟩ := elems Tryd.underlying41 cellsS (by decide) hy
        obtain rfl : u = .slice ra rl rc := by simpa using he
        obtain ⟨d2, p2⟩ := y
        obtain ⟨s, hs, hsl⟩ := open_names (a := ra) (len := rl) (cap := rc) (d := d2) (p := p2) ⟨n + 1, by simpa [Value.cells] using hy⟩
        have h1 := hcell 0 (by decide)
        exact ⟨s, _, by simpa using h1, hs, hsl⟩)
    subst hl
    refine ⟨rs, rfl, .inr ⟨g, off, rfl, fun i hi => ?_⟩, by omega, fun i => ?_⟩
    · obtain ⟨s, hs, u, hc, hn, _⟩ := hrs i hi
      rw [List.getD_eq_getElem?_getD, hs]
      exact ⟨u, hc, hn⟩
    · by_cases hi : i < rs.length
      · obtain ⟨s, hs, u, hc, hn, hl⟩ := hrs i hi
        rw [List.getD_eq_getElem?_getD, hs]
        exact hl
      · rw [List.getD_eq_getElem?_getD, List.getElem?_eq_none (by omega)]
        exact Nat.zero_le _
/-- Rows of numbers that came in. -/
theorem open_vss {m : Nat} {a : Value} {x : DataW H × List MemPlace} (hn : DataW.trod enc Tryd.prog W base spare held m 43 [a] = some x) : ∃ (ra : Option Addr) (rc : Nat) (rv : List (List Int)), a = .slice ra rv.length rc ∧ VssA W ra rv ∧ VsOk rv := by
  have hz : W64 0 := ⟨by omega, by omega⟩
  rcases m with _ | n
  · simp [DataW.trod] at hn
  obtain ⟨a', len, cap', he, hlc, hcm, hr⟩ := elems Tryd.underlying43 cellsIs (by decide) hn
  obtain rfl : a = .slice a' len cap' := by simpa using he
  rcases hr with h0 | ⟨g, off, rfl, hr⟩
  · subst h0
    exact ⟨a', cap', [], rfl, .inl rfl, Nat.zero_le _, fun i => ⟨by simp, fun k => by simpa using hz⟩⟩
  · obtain ⟨rs, hl, hrs⟩ := pick_list (R := fun i (s : List Int) => ∃ u, W.cell? ⟨g, off + i, none⟩ = some u ∧ Ivs (fun _ => True) W u s ∧ s.length ≤ maxLen ∧ ∀ k, W64 (s.getD k 0)) len (fun i hi => by
      obtain ⟨ds, y, hd, hy, hcell⟩ := hr i hi
      match ds, hd with
      | [u], _ =>
        rcases n with _ | n
        · simp [DataW.trod] at hy
        obtain ⟨ra, rl, rc, he, _, _, _⟩ := elems Tryd.underlying44 cellsI (by decide) hy
        obtain rfl : u = .slice ra rl rc := by simpa using he
        obtain ⟨d2, p2⟩ := y
        obtain ⟨s, hs, hsl, h64⟩ := open_nums (a := ra) (len := rl) (cap := rc) (d := d2) (p := p2) ⟨n + 1, by simpa [Value.cells] using hy⟩
        have h1 := hcell 0 (by decide)
        exact ⟨s, _, by simpa using h1, hs, hsl, h64⟩)
    subst hl
    refine ⟨_, cap', rs, rfl, .inr ⟨g, off, rfl, fun i hi => ?_⟩, by omega, fun i => ?_⟩
    · obtain ⟨s, hs, u, hc, hn, _⟩ := hrs i hi
      rw [List.getD_eq_getElem?_getD, hs]
      exact ⟨u, hc, hn⟩
    · by_cases hi : i < rs.length
      · obtain ⟨s, hs, u, hc, hn, hl, h64⟩ := hrs i hi
        rw [List.getD_eq_getElem?_getD, hs]
        exact ⟨hl, h64⟩
      · rw [List.getD_eq_getElem?_getD, List.getElem?_eq_none (by omega)]
        exact ⟨Nat.zero_le _, fun k => by simpa using hz⟩
/-- An outcome that came in. -/
theorem open_out {v : Value} {d : DataW H} {p : List MemPlace} (hv : Value.okWide Tryd.prog W .any 0 46 v) (h : DataW.Trod enc Tryd.prog W base spare held 46 v d p) : ∃ (ra ma : Option Addr) (rv : List (List Int)) (mv : List Int) (rc mc : Nat), v = .agg #[.slice ra rv.length rc, .slice ma mv.length mc] ∧ OutIn W ra ma rv mv mc := by
  obtain ⟨cs, rfl, _⟩ := Go.WideShapes.okWide_struct Tryd.underlying46 hv
  obtain ⟨n, hn⟩ := h
  have hcs : (Value.agg cs).cells.toList = cs.toList := by simp [Value.cells]
  rw [hcs] at hn
  rcases n with _ | n
  · simp [DataW.trod] at hn
  obtain ⟨c0, c1, hc⟩ := list2 ((fld_len Tryd.underlying46 hn).trans cellsOut)
  obtain rfl : cs = #[c0, c1] := by cases cs; simp_all
  obtain ⟨y0, h0⟩ := fldc Tryd.underlying46 hn 0 _ rfl (t' := 43) rfl cellsIss (cs' := [c0]) rfl
  obtain ⟨y1, h1⟩ := fldc Tryd.underlying46 hn 1 _ rfl (t' := 44) rfl cellsIs (cs' := [c1]) rfl
  obtain ⟨ra, rc, rv, rfl, hrv, hro⟩ := open_vss h0
  rcases n with _ | n
  · simp [DataW.trod] at h1
  obtain ⟨ma, ml, mc, he, _, _, _⟩ := elems Tryd.underlying44 cellsI (by decide) h1
  obtain rfl : c1 = .slice ma ml mc := by simpa using he
  obtain ⟨d2, p2⟩ := y1
  obtain ⟨mv, hmv, hml, h64⟩ := open_nums (a := ma) (len := ml) (cap := mc) (d := d2) (p := p2) ⟨n + 1, by simpa [Value.cells] using h1⟩
  have hmv0 := hmv
  obtain ⟨a', c', he, _⟩ := hmv0
  injection he with e1 e2 e3
  subst e2
  exact ⟨ra, ma, rv, mv, rc, mc, rfl, hrv, hmv, hro, hml, h64⟩
end
end Go.Proofs.YtchokfgffnomoaaDoor.Lx
