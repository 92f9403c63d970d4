/-
  What work's New does, as a contract: a list of its own, that has nothing, and a copy of the picks.
-/
import Derived.Test.YtjboapelelcieaaWOps
import Derived.Laws.AppendOwnNone
import Derived.Laws.EntriesVeiled
namespace Go.Proofs.Ytjboapelelcieaa.Wk
open Go.RowKit
set_option linter.unusedVariables false
set_option linter.unusedSimpArgs false
theorem Try.infoI : (Try.prog.info? 3).map (fun i => (i.zero, i.size, i.bytes)) = some (some (.int .i64 0), 1, 8) := by kernel_rfl
/-- A slice of ints that came in, or was made: its ints are xs. -/
def IsInts (w : World) (a : Option Addr) (len cap : Nat) (xs : List Int) : Prop :=
  xs.length = len ∧ len ≤ 4611686018427387904 ∧ (a = none → cap = 0) ∧ (len = 0 ∨ ∃ b off, a = some ⟨b, off, none⟩ ∧ ∀ i, i < len → w.cell? ⟨b, off + i, none⟩ = some (.int .i64 (xs.getD i 0)))
theorem IsInts.only {w w' : World} {a : Option Addr} {len cap : Nat} {xs : List Int} (h : IsInts w a len cap xs) {S : Nat → Prop} (ho : Only S w w') (hS : ∀ b off, a = some ⟨b, off, none⟩ → ¬ S b) : IsInts w' a len cap xs := by
  obtain ⟨hl, hm, hz, h | ⟨b, off, rfl, hc⟩⟩ := h
  · exact ⟨hl, hm, hz, .inl h⟩
  · refine ⟨hl, hm, hz, .inr ⟨b, off, rfl, fun i hi => ?_⟩⟩
    have h0 := hc i hi
    have hlt : b < w.heap.size := World.block_lt_of_cell? w ⟨b, off + i, none⟩ h0
    rw [World.cell?_of_block (a := ⟨b, off + i, none⟩) (ho.block b hlt (hS b off rfl))]
    exact h0
theorem IsInts.below {w w' : World} {a : Option Addr} {len cap : Nat} {xs : List Int} (h : IsInts w a len cap xs) (hb : Below w.heap.size w w') : IsInts w' a len cap xs :=
  h.only (S := fun _ => False) (Only.of_below hb) (fun _ _ _ h => h)
theorem IsInts.news {w : World} {ad : Addr} {len cap : Nat} {xs : List Int} (h : IsInts w (some ad) len cap xs) : ∀ j u, (ints xs)[j]? = some u → w.cell? (ad.add j) = some u := by
  obtain ⟨hl, hm, hz, h | ⟨b, off, e, hc⟩⟩ := h
  · have : xs = [] := List.eq_nil_of_length_eq_zero (by omega)
    subst this
    intro j u hu
    simp [ints] at hu
  · cases e
    intro j u hu
    have hj : j < xs.length := by
      have := (List.getElem?_eq_some_iff.1 hu).1
      simpa [ints] using this
    have h1 := hc j (by omega)
    have h2 : (ints xs)[j]? = some (.int .i64 (xs.getD j 0)) := by simp [ints, List.getD_eq_getElem?_getD, hj]
    rw [h2] at hu
    cases hu
    by_cases hj0 : j = 0
    · subst hj0
      simpa [Addr.add] using h1
    · simpa [Addr.add, hj0] using h1
theorem ints_one (xs : List Int) : ∀ u ∈ ints xs, u.oneCell' = true := by
  intro u hu
  obtain ⟨x, _, rfl⟩ := List.mem_map.1 hu
  rfl
theorem ints_len (xs : List Int) : (ints xs).length = xs.length := by simp [ints]
/-- What open leaves of a list at L. -/
def Opened (base L : Nat) (ps : List Int) (w : World) (e : Ending) (w' : World) : Prop :=
  e = .returned (.tuple #[]) ∧ ∃ (F : Nat → Prop) (Q : Nat), Ls w' base F L Q ps 0 [] ∧ (∀ g, F g → g = L ∨ w.heap.size ≤ g) ∧ Only (· = L) w w'
/-- The three calls, laid. -/
def calls3 (w : World) (L Q : Nat) : World := ((w.setCell ⟨L, 0, none⟩ (mval 14 Q)).setCell ⟨L, 1, none⟩ (mval 15 Q)).setCell ⟨L, 2, none⟩ (mval 16 Q)
theorem calls3_size (w : World) (L Q : Nat) : (calls3 w L Q).heap.size = w.heap.size := by simp [calls3, World.setCell]
theorem opened_of {w w1 : World} {base L : Nat} {ps : List Int} {pv c0 c1 c2 : Value} (hL : Blk w L 39 #[c0, c1, c2]) (hb : base ≤ L) (hps : ps.length ≤ 1000000000)
    (hown : w1.ownsRow w.heap.size 3 1 pv ps.length (ints ps)) (hg : Below w.heap.size w w1) :
    Opened base L ps w (.returned (.tuple #[])) ((calls3 w1 L w1.heap.size).alloc (.cells #[.slice none 0 0, pv, .int .i64 0] 45)) := by
  have hsz := hg.size
  have hLw := hL.lt
  have hL1 : Blk w1 L 39 #[c0, c1, c2] := hL.below hg hLw
  have hL2 : Blk (calls3 w1 L w1.heap.size) L 39 #[mval 14 w1.heap.size, mval 15 w1.heap.size, mval 16 w1.heap.size] := ((hL1.set 0 _).set 1 _).set 2 _
  have hO : Only (· = L) w (calls3 w1 L w1.heap.size) :=
    (((Only.of_below (S := (· = L)) hg).setCell (p := ⟨L, 0, none⟩) (.inl rfl) _).setCell (p := ⟨L, 1, none⟩) (.inl rfl) _).setCell (p := ⟨L, 2, none⟩) (.inl rfl) _
  have hpne : pv.ownBlock ≠ some L := by
    intro e
    have := (hown.lt L e).1
    omega
  have hown1 : (calls3 w1 L w1.heap.size).ownsRow w.heap.size 3 1 pv ps.length (ints ps) :=
    ownsRow_setCell_other (a := ⟨L, 2, none⟩) (ownsRow_setCell_other (a := ⟨L, 1, none⟩) (ownsRow_setCell_other (a := ⟨L, 0, none⟩) hown hpne _) hpne _) hpne _
  have hs2 := calls3_size w1 L w1.heap.size
  generalize calls3 w1 L w1.heap.size = wA at *
  have hQ2 : Blk (wA.alloc (.cells #[.slice none 0 0, pv, .int .i64 0] 45)) w1.heap.size 45 #[.slice none 0 0, pv, .int .i64 0] := by
    rw [← hs2]
    exact Blk.new wA _ _
  have hown2 := hown1.alloc (.cells #[.slice none 0 0, pv, .int .i64 0] 45)
  have hown3 : (wA.alloc (.cells #[.slice none 0 0, pv, .int .i64 0] 45)).ownsRow base 3 1 pv ps.length (ints ps) := by
    refine ⟨hown2.1, ?_⟩
    rcases hown2.2 with h0 | ⟨g, cap, cur, hv, hg', r⟩
    · exact .inl h0
    · exact .inr ⟨g, cap, cur, hv, by omega, r⟩
  have hsz2 : (wA.alloc (.cells #[.slice none 0 0, pv, .int .i64 0] 45)).heap.size = w1.heap.size + 1 := by simp [hs2]
  refine ⟨rfl, fun g => g = L ∨ g = w1.heap.size ∨ pv.ownBlock = some g, w1.heap.size, ⟨hL2.alloc _, ⟨[], .slice none 0 0, pv, ⟨hQ2, World.ownsRow_nil _ _ _ _, fun i _ h => by simp at h⟩, ⟨hown3, hps⟩, .refl _, fun g hg => by simp [Value.ownBlock] at hg, fun g hg => .inr (.inr hg)⟩, Ordered.nil _ _, .inl rfl, .inr (.inl rfl), ?_⟩, ?_, hO.alloc _⟩
  · rintro g (rfl | rfl | h)
    · exact ⟨hb, by omega⟩
    · exact ⟨by omega, by omega⟩
    · have := hown.lt g h
      exact ⟨by omega, by omega⟩
  · rintro g (rfl | rfl | h)
    · exact .inl rfl
    · exact .inr hsz
    · exact .inr (hown.lt g h).1
set_option maxHeartbeats 800000 in
theorem open_any (base L : Nat) (ps : List Int) (a : Option Addr) (cap : Nat) (c0 c1 c2 : Value) (w : World) (hL : Blk w L 39 #[c0, c1, c2]) (hb : base ≤ L) (hps : ps.length ≤ 1000000000) (hx : IsInts w a ps.length cap ps) :
    Calls Try.prog 13 #[.pointer (some ⟨L, 0, none⟩), .slice a ps.length cap] w (Opened base L ps w) := by
  obtain ⟨i0, hi, hz0, hz1, hz2⟩ := info_parts Try.infoI
  have HI := Lib.hid hi
  have HZ0 := Lib.hid hz0
  have HZ1 := Lib.hid hz1
  have HZ2 := Lib.hid hz2
  clear hi hz0 hz1 hz2
  have HO := Lib.hid fun w1 pv => opened_of (w1 := w1) (pv := pv) hL hb hps
  have k0 : w.cell? ⟨L, 0, none⟩ = some c0 := Blk.cell hL 0
  have k1 : w.cell? ⟨L, 1, none⟩ = some c1 := Blk.cell hL 1
  have k2 : w.cell? ⟨L, 2, none⟩ = some c2 := Blk.cell hL 2
  have f0 := hL.free 0
  have f1 := hL.free 1
  have f2 := hL.free 2
  have hlt := hL.lt
  cases a with
  | none =>
    have hc := hx.2.2.1 rfl
    have hl0 : ps = [] := by
      rcases hx.2.2.2 with h | ⟨b, off, e, _⟩
      · exact List.eq_nil_of_length_eq_zero h
      · cases e
    subst hl0
    subst hc
    clear hx hL
    go_enter Try.func13, Try.ntmps13
    go_wp2_with (at_builtin; refine wpList_append_own_none rfl (.const (.slice none 0 0)) (.tmp 5) 22 rfl w.heap.size 3 i0 1 Try.underlying22 HI.out _ 0 [] rfl (World.ownsRow_nil _ _ _ _) rfl ?_)
    go_end0
    exact HO.out w (.slice none 0 0) (World.ownsRow_nil _ _ _ _) (Below.refl _ _)
  | some ad =>
    have HN := Lib.hid hx.news
    clear hx
    go_enter Try.func13, Try.ntmps13
    go_wp2_with (at_builtin; refine wpList_append_own _ rfl (.const (.slice none 0 0)) (.tmp 5) 22 rfl w.heap.size 3 i0 (.int .i64 0) 1 8 Try.underlying22 HI.out HZ0.out HZ1.out HZ2.out rfl (by decide) (.slice none 0 0) 0 [] rfl (World.ownsRow_nil _ _ _ _) ad ps.length cap (ints ps) rfl (by rw [ints_len]; omega) HN.out (ints_one _) (by unfold maxLen; omega) (by omega) (Nat.le_refl _) ?_; intro pv w1 hown1 hgrow1 _; have hb1 : Below w.heap.size w w1 := (Below.refl w.heap.size w).grown hgrow1 (Nat.le_refl _) (fun k hk => by simp [Value.ownBlock] at hk); have hL1 := hL.below hb1 hlt; have d0 : w1.cell? ⟨L, 0, none⟩ = some c0 := Blk.cell hL1 0; have d1 : w1.cell? ⟨L, 1, none⟩ = some c1 := Blk.cell hL1 1; have d2 : w1.cell? ⟨L, 2, none⟩ = some c2 := Blk.cell hL1 2; have e0 := hL1.free 0; have e1 := hL1.free 1; have e2 := hL1.free 2; have hlt1 := hL1.lt; obtain ⟨pa, pc, rfl⟩ := slice_of_own hown1)
    go_end0
    rw [List.nil_append, Nat.zero_add] at hown1
    exact HO.out w1 _ hown1 hb1
/-- What New leaves. -/
def Makes (base : Nat) (ps : List Int) (w : World) (e : Ending) (w' : World) : Prop :=
  ∃ (F : Nat → Prop) (L Q : Nat), e = .returned (.pointer (some ⟨L, 0, none⟩)) ∧ Ls w' base F L Q ps 0 [] ∧ (∀ g, F g → w.heap.size ≤ g) ∧ Below w.heap.size w w'
set_option maxHeartbeats 800000 in
theorem new_any (base : Nat) (ps : List Int) (a : Option Addr) (cap : Nat) (w : World) (hb : base ≤ w.heap.size) (hps : ps.length ≤ 1000000000) (hx : IsInts w a ps.length cap ps) :
    Calls Try.prog 8 #[.slice a ps.length cap] w (Makes base ps w) := by
  have HO := Lib.hid (open_any base w.heap.size ps a cap .nilFunc .nilFunc .nilFunc (w.alloc (.cells #[.nilFunc, .nilFunc, .nilFunc] 39)) (Blk.new _ _ _) hb hps (hx.below ((Below.refl _ _).alloc (Nat.le_refl _) _)))
  clear hx
  go_enter Try.func8, Try.ntmps8
  go_wp2_with fail
  refine HO.out.mono ?_
  rintro e w1 ⟨rfl, F, Q, hLs, hF, ho⟩
  have H1 := Lib.hid hLs
  have H2 := Lib.hid hF
  have H3 := Lib.hid ho
  clear hLs hF ho
  go_wp2
  go_ret
  refine ⟨F, _, Q, rfl, H1.out, fun g hg => ?_, ?_⟩
  · rcases H2.out g hg with h | h
    · omega
    · simp at h
      omega
  · exact ((Below.refl w.heap.size w).alloc (Nat.le_refl _) _).trans (H3.out.below (by simp) (fun k hk e => by omega))
end Go.Proofs.Ytjboapelelcieaa.Wk
