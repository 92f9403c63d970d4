/-
  What names of package check tell, as contracts: has, add: a list and a set that hold the same.
-/
import Derived.Test.YtlgnagmmljdkiabMWith
import Derived.Test.YtlgnagmmljdkiabLDig
import Derived.Maps.OwnSet
import Derived.Maps.OwnOps
import Derived.Maps.Views
import Derived.Maps.AppendAt
import Derived.Laws.AppendOwn
import Derived.Test.YtlgnagmmljdkiabMMath
import Derived.Test.YtlgnagmmljdkiabLC
import Derived.Test.YtlgnagmmljdkiabPSameS
import Derived.Test.YtlgnagmmljdkiabOX
namespace Go.Proofs.Ytlgnagmmljdkiab.Lx
open Go.RowKit Go.Maps
open P (wth)
set_option maxRecDepth 100000
set_option linter.unusedVariables false
set_option linter.unusedSimpArgs false
theorem Only.grown {S : Nat → Prop} {a b c : World} (h : Only S a b) {row : Option Nat} (hg : b.grownBy c row) (hr : ∀ k, row = some k → S k ∨ a.heap.size ≤ k) : Only S a c :=
  ⟨hg.os.trans h.os, hg.tape.trans h.tape, hg.output.trans h.output, Nat.le_trans h.size hg.size, fun k hk hs => (hg.block k (Nat.lt_of_lt_of_le hk h.size) (fun e => (hr k e.symm).elim hs (by omega))).trans (h.block k hk hs)⟩
/-- A string as a key. -/
def ky (s : List UInt8) : Lit := .string s
theorem lawS : Keyed Try.prog 9 := string_keyed Try.underlying9
theorem zeroU (w : World) : (zeroValue 111).run Try.prog w = .ok (.agg #[]) w := by kernel_rfl
theorem key_of {s : List UInt8} (h : s.length ≤ maxLen) : keyOf Try.prog 9 (.string (bs s)) = some (ky s) := by
  have h1 : (bs s).size ≤ maxLen := by rw [bs_size]; exact h
  rw [keyOf_string Try.underlying9]
  unfold mapKey
  rw [Try.underlying9]
  simp only [h1, if_true]
  rfl
theorem keyLit (s : List UInt8) (h : s.length ≤ maxLen) : WideAt.IsKeyLit (ky s) := lawS.key (key_of h)
/-- A set of names: nil, or a map whose keys are just these. -/
def MapOf (w : World) (m : Option Nat) (rs : List (List UInt8)) : Prop := (m = none ∧ rs = []) ∨ ∃ mb D, m = some mb ∧ w.ownsMap (H := Unit) Try.prog 9 unitElem mb rs.length D ∧ IsMap D ∧ ∀ s : List UInt8, has D (ky s) = decide (s ∈ rs)
theorem MapOf.block {w w' : World} {m : Option Nat} {rs : List (List UInt8)} (h : MapOf w m rs) (hk : ∀ mb, m = some mb → w'.heap[mb]? = w.heap[mb]?) : MapOf w' m rs := by
  rcases h with h | ⟨mb, D, rfl, hown, hm, hd⟩
  · exact .inl h
  · refine .inr ⟨mb, D, rfl, ?_, hm, hd⟩
    obtain ⟨es, clock, hb, hr⟩ := hown
    exact ⟨es, clock, (hk mb rfl).trans hb, hr⟩
theorem MapOf.lt {w : World} {m : Option Nat} {rs : List (List UInt8)} (h : MapOf w m rs) : ∀ mb, m = some mb → mb < w.heap.size := by
  rintro mb rfl
  rcases h with ⟨h, _⟩ | ⟨mb', D, he, hown, _⟩
  · cases h
  · cases he
    exact hown.lt
theorem MapOf.only {w w' : World} {S : Nat → Prop} {m : Option Nat} {rs : List (List UInt8)} (h : MapOf w m rs) (ho : Only S w w') (hS : ∀ mb, m = some mb → ¬ S mb) : MapOf w' m rs :=
  h.block fun mb e => ho.block mb (h.lt mb e) (hS mb e)
theorem MapOf.low {w w' : World} {m : Option Nat} {rs : List (List UInt8)} (h : MapOf w m rs) (hb : Below w.heap.size w w') : MapOf w' m rs :=
  h.block fun mb e => hb.block mb (h.lt mb e)
theorem mapNil (w : World) : MapOf w none [] := .inl ⟨rfl, rfl⟩
/-- A list of names and its set, in blocks from B on. -/
structure NmV (B : Nat) (w : World) (v : Value) (m : Option Nat) (rs : List (List UInt8)) : Prop where
  row : w.ownsRow B 9 1 v rs.length (strs rs)
  map : MapOf w m rs
  low : ∀ mb, m = some mb → B ≤ mb
theorem nmvNil (B : Nat) (w : World) : NmV B w (.slice none 0 0) none [] := ⟨World.ownsRow_nil _ _ _ _, mapNil w, fun _ h => by cases h⟩
theorem NmV.below {B : Nat} {w w' : World} {v : Value} {m : Option Nat} {rs : List (List UInt8)} (h : NmV B w v m rs) (hb : Below w.heap.size w w') : NmV B w' v m rs := ⟨own_below h.row hb, h.map.low hb, h.low⟩
set_option maxHeartbeats 1600000 in
/-- has: is a name there? -/
theorem has_any (g off : Nat) (m : Option Nat) (rs : List (List UInt8)) (s : List UInt8) (w : World) (hc : w.cell? ⟨g, off + 1, none⟩ = some (.map m)) (hm : MapOf w m rs) (hs : s.length ≤ maxLen) :
    Calls Try.prog 57 #[.pointer (some ⟨g, off, none⟩), .string (bs s)] w (fun e w' => e = .returned (.bool (decide (s ∈ rs))) ∧ Below w.heap.size w w') := by
  have hkey := key_of hs
  have hbb : ∀ o, Below w.heap.size w (w.alloc o) := fun o => (Below.refl _ _).alloc (Nat.le_refl _) o
  rcases hm with ⟨rfl, rfl⟩ | ⟨mb, D, rfl, hown, hmp, hd⟩
  · have hlk : (Instr.lookup 72 (.map none) (.string (bs s)) true).run Try.prog w = .ok (.tuple #[.agg #[], .bool false]) w := by
      have h := Maps.look_nil (P := Try.prog) true lawS Try.underlying72 (zeroU w) hkey
      exact h
    generalize bs s = S at *
    go_enter Try.func57, Try.ntmps57
    go_wp2_with fail
    go_ret
    exact ⟨by simp, hbb _⟩
  · have hh := hd s
    have hlk : (Instr.lookup 72 (.map (some mb)) (.string (bs s)) true).run Try.prog w = .ok (.tuple #[.agg #[], .bool (decide (s ∈ rs))]) w := by
      obtain ⟨v, ps, hrun, hv⟩ := hown.look_ok lawS Try.underlying72 (zeroU w) unitElem_mk hkey
      obtain ⟨rfl, _⟩ := unitElem_inv hv
      rw [hrun, hh]
    generalize decide (s ∈ rs) = bb at *
    generalize bs s = S at *
    clear hh
    go_enter Try.func57, Try.ntmps57
    go_wp2_with fail
    go_ret
    exact ⟨rfl, hbb _⟩
theorem strs_snoc (rs : List (List UInt8)) (s : List UInt8) : strs rs ++ [.string (bs s)] = strs (rs ++ [s]) := by simp [strs]
theorem mapOf_put {w' : World} {mb : Nat} {rs : List (List UInt8)} {s : List UInt8} {D : DataW Unit} (hs : s.length ≤ maxLen) (hn : s ∉ rs) (hmp : IsMap D) (hd : ∀ t : List UInt8, has D (ky t) = decide (t ∈ rs)) (hown : w'.ownsMap (H := Unit) Try.prog 9 unitElem mb (rs.length + 1) (D.put (ky s) (.agg []))) : MapOf w' (some mb) (rs ++ [s]) := by
  refine .inr ⟨mb, _, rfl, by simpa using hown, hmp.put _ _, fun t => ?_⟩
  by_cases e : t = s
  · subst e
    rw [has_put_same hmp (keyLit t hs)]
    simp
  · have hne : ky t ≠ ky s := fun h => e (by unfold ky at h; injection h)
    rw [has_put_other hne, hd t]
    simp [e]
/-- Below B all is as it was but block g; from B on nothing turns but rows of names and sets. -/
structure Kq (B g : Nat) (w w' : World) : Prop where
  only : Only (fun k => k = g ∨ B ≤ k) w w'
  keep : ∀ (k : Nat) (t : TypeId) (cs : Array Value), k ≠ g → 9 ≠ t → Blk w k t cs → Blk w' k t cs
theorem Kq.refl (B g : Nat) (w : World) : Kq B g w w := ⟨Only.refl _ _, fun _ _ _ _ _ h => h⟩
theorem Kq.trans {B g : Nat} {a b c : World} (h : Kq B g a b) (k : Kq B g b c) : Kq B g a c := ⟨h.only.trans k.only, fun i t cs h1 h2 h3 => k.keep i t cs h1 h2 (h.keep i t cs h1 h2 h3)⟩
theorem Kq.below {B g : Nat} {w w' : World} (h : Below w.heap.size w w') : Kq B g w w' := ⟨Only.of_below h, fun k t cs _ _ hb => hb.live' h⟩
theorem Kq.size {B g : Nat} {w w' : World} (h : Kq B g w w') : w.heap.size ≤ w'.heap.size := h.only.size
theorem Kq.set {B g : Nat} {w w' : World} (h : Kq B g w w') (i : Nat) (u : Value) : Kq B g w (w'.setCell ⟨g, i, none⟩ u) := ⟨h.only.setCell (.inl (.inl rfl)) _, fun k t cs h1 h2 h3 => (h.keep k t cs h1 h2 h3).far (p := ⟨g, i, none⟩) h1 u⟩
/-- What add leaves: the list and the set with one more, in the two cells that it turns. -/
def AddTo (B g off : Nat) (t : TypeId) (cs : Array Value) (rs : List (List UInt8)) (w : World) (e : Ending) (w' : World) : Prop :=
  e = .returned (.tuple #[]) ∧ ∃ v m, Blk w' g t ((cs.setIfInBounds (off + 1) (.map m)).setIfInBounds off v) ∧ NmV B w' v m rs ∧ Kq B g w w'
theorem set_same {cs : Array Value} {i : Nat} {v : Value} (h : cs[i]? = some v) : cs.setIfInBounds i v = cs := by
  obtain ⟨l⟩ := cs
  rw [List.setIfInBounds_toArray]
  congr 1
  apply List.ext_getElem?
  intro j
  rw [List.getElem?_set]
  have h' : l[i]? = some v := by simpa using h
  split
  · subst_vars
    split
    · exact h'.symm
    · rename_i h2
      rw [List.getElem?_eq_none (by omega)] at h'
      cases h'
  · rfl
theorem set_get0 {cs : Array Value} {i : Nat} {v : Value} (h : cs[i]? = some v) (u : Value) : (cs.setIfInBounds (i + 1) u)[i]? = some v := by
  rw [Array.getElem?_setIfInBounds_ne (by omega)]
  exact h
theorem set_get1 {cs : Array Value} {i : Nat} {v : Value} (h : cs[i + 1]? = some v) (u : Value) : (cs.setIfInBounds (i + 1) u)[i + 1]? = some u := by
  obtain ⟨hi, _⟩ := Array.getElem?_eq_some_iff.1 h
  rw [Array.getElem?_setIfInBounds_self]
  simp [hi]
theorem set_two {cs : Array Value} {i j : Nat} {u v : Value} (hij : i ≠ j) (hi : cs[i]? = some u) (hj : cs[j]? = some v) : (cs.setIfInBounds j v).setIfInBounds i u = cs := by
  rw [set_same hj, set_same hi]
theorem row_map_ne {w : World} {B n mb k : Nat} {v : Value} {xs : List Value} {D : DataW Unit} (h : w.ownsRow B 9 1 v n xs) (hm : w.ownsMap (H := Unit) Try.prog 9 unitElem mb k D) : v.ownBlock ≠ some mb := by
  obtain ⟨es, ck, hh, _⟩ := hm
  rcases h.2 with ⟨h0, _⟩ | ⟨g', cap', cur, hv, hg, hc, _⟩
  · subst h0
    intro e
    cases e
  · subst hv
    intro e
    have e' : g' = mb := Option.some.inj e
    subst e'
    rw [hh] at hc
    cases hc
theorem blk_map_ne {w : World} {g mb k : Nat} {t : TypeId} {cs : Array Value} {D : DataW Unit} (h : Blk w g t cs) (hm : w.ownsMap (H := Unit) Try.prog 9 unitElem mb k D) : g ≠ mb := by
  rintro rfl
  obtain ⟨es, ck, hh, _⟩ := hm
  unfold Blk at h
  rw [hh] at h
  cases h
theorem one_belowN (w : World) (o : Obj) : Below w.heap.size w (w.alloc o) := (Below.refl _ _).alloc (Nat.le_refl _) _
theorem blkMapOf {w : World} {g mb : Nat} {t : TypeId} {cs : Array Value} {m : Option Nat} {rs : List (List UInt8)} (h : Blk w g t cs) (hm : MapOf w m rs) (he : m = some mb) : g ≠ mb := by
  subst he
  rcases hm with ⟨e, _⟩ | ⟨mb', D, e, hmo, _⟩
  · cases e
  · cases e
    exact blk_map_ne h hmo
/-- On the way through add: list and set, the set in block mb. -/
structure NX (B g off : Nat) (t : TypeId) (cs : Array Value) (mb : Nat) (v : Value) (n : Nat) (xs : List Value) (rs : List (List UInt8)) (w X : World) : Prop where
  blk : Blk X g t (cs.setIfInBounds (off + 1) (.map (some mb)))
  row : X.ownsRow B 9 1 v n xs
  map : MapOf X (some mb) rs
  only : Kq B g w X
  mg : g ≠ mb
  mB : B ≤ mb
  ne : v.ownBlock ≠ some g
  nm : v.ownBlock ≠ some mb
theorem NX.put {B g off : Nat} {t : TypeId} {cs : Array Value} {mb : Nat} {v : Value} {n k : Nat} {xs : List Value} {rs : List (List UInt8)} {s : List UInt8} {w X w2 : World} {D : DataW Unit} (h : NX B g off t cs mb v n xs rs w X) (hk : k = rs.length) (hs : s.length ≤ maxLen) (hn : s ∉ rs) (hmp : IsMap D) (hd : ∀ t : List UInt8, has D (ky t) = decide (t ∈ rs)) (hown : w2.ownsMap (H := Unit) Try.prog 9 unitElem mb (k + 1) (D.put (ky s) (.agg []))) (hg : X.grownBy w2 (some mb)) : NX B g off t cs mb v n xs (rs ++ [s]) w w2 := by
  subst hk
  refine ⟨(hg.block g h.blk.lt (fun e => h.mg (Option.some.inj e))).trans h.blk, h.row.kept hg (Or.inr h.nm), mapOf_put hs hn hmp hd hown, ⟨h.only.only.grown hg (fun k hk => ?_), fun k t cs h1 h2 h3 => ?_⟩, h.mg, h.mB, h.ne, h.nm⟩
  · cases hk
    exact .inl (.inr h.mB)
  · have hk := h.only.keep k t cs h1 h2 h3
    refine (hg.block k hk.lt (fun e => ?_)).trans hk
    cases e
    exact blkMapOf hk h.map rfl rfl
theorem NX.app {B g off : Nat} {t : TypeId} {cs : Array Value} {mb : Nat} {v v' : Value} {n n' : Nat} {xs xs' : List Value} {rs : List (List UInt8)} {w X w4 : World} {o : Obj} (ht : 9 ≠ t) (h : NX B g off t cs mb v n xs rs w X) (hown : w4.ownsRow B 9 1 v' n' xs') (hg : (X.alloc o).grownBy w4 v.ownBlock) : NX B g off t cs mb v' n' xs' rs w w4 := by
  have hb : Blk w4 g t (cs.setIfInBounds (off + 1) (.map (some mb))) := (hg.block g (by have := h.blk.lt; simp; omega) (fun e => h.ne e.symm)).trans (h.blk.alloc o)
  have hm : MapOf w4 (some mb) rs := (h.map.low (one_belowN X o)).block (fun k hk => by
    cases hk
    exact hg.block mb (by have := h.map.lt mb rfl; simp; omega) (fun e => h.nm e.symm))
  refine ⟨hb, hown, hm, ⟨(h.only.only.alloc o).grown hg (fun k hk => .inl (.inr (h.row.lt k hk).1)), fun k t cs h1 h2 h3 => (by
    have hk := h.only.keep k t cs h1 h2 h3
    exact (hg.block k (by have := hk.lt; simp; omega) (fun e => own_ne h.row hk h2 e.symm)).trans (hk.alloc o))⟩, h.mg, h.mB, own_ne hown hb ht, ?_⟩
  rcases hm with ⟨e, _⟩ | ⟨mb', D, e, hmo, _⟩
  · cases e
  · cases e
    exact row_map_ne hown hmo
theorem NX.done {B g off : Nat} {t : TypeId} {cs : Array Value} {mb : Nat} {v : Value} {n : Nat} {xs : List Value} {rs : List (List UInt8)} {w X : World} (h : NX B g off t cs mb v n xs rs w X) (hn : n = rs.length) (hx : xs = strs rs) : AddTo B g off t cs rs w (.returned (.tuple #[])) (X.setCell ⟨g, off, none⟩ v) := by
  subst hn hx
  refine ⟨rfl, v, some mb, h.blk.set off _, ⟨ownsRow_setCell_other h.row (a := ⟨g, off, none⟩) h.ne v, h.map.block (fun k hk => ?_), fun k hk => (by cases hk; exact h.mB)⟩, h.only.set off _⟩
  cases hk
  exact Below.heap_setCell _ _ _ _ (fun e => h.mg e.symm)
theorem wth_yes {rs : List (List UInt8)} {s : List UInt8} (h : s ∈ rs) : wth rs s = rs := by unfold P.wth; rw [if_pos h]
theorem wth_no {rs : List (List UInt8)} {s : List UInt8} (h : s ∉ rs) : wth rs s = rs ++ [s] := by unfold P.wth; rw [if_neg h]
set_option maxHeartbeats 6400000 in
theorem add_any (B g off : Nat) (t : TypeId) (cs : Array Value) (v : Value) (m : Option Nat) (rs : List (List UInt8)) (s : List UInt8) (w : World) (hb : Blk w g t cs) (ht : 9 ≠ t) (h0 : cs[off]? = some v) (h1 : cs[off + 1]? = some (.map m)) (hn : NmV B w v m rs) (hB : B ≤ w.heap.size) (hs : s.length ≤ maxLen) (hl : rs.length ≤ 1000000) :
    Calls Try.prog 42 #[.pointer (some ⟨g, off, none⟩), .string (bs s)] w (AddTo B g off t cs (wth rs s) w) := by
  have c0 := hb.cell off
  have c1 := hb.cell (off + 1)
  rw [h0] at c0
  rw [h1] at c1
  obtain ⟨av, cv, rfl⟩ := slice_of_own hn.row
  have HB := Lib.hid hb
  have HN := Lib.hid hn
  have HH := Lib.hid (has_any g off m rs s w c1 hn.map hs)
  have hgl := hb.lt
  by_cases hin : s ∈ rs
  · rw [wth_yes hin]
    have HH1 := HH.out
    rw [decide_eq_true hin] at HH1
    have HH2 := Lib.hid HH1
    have HS := Lib.hid (set_two (by omega) h0 h1)
    clear hb hn hin HH HH1 h0 h1
    generalize bs s = S at *
    go_enter Try.func42, Try.ntmps42
    go_wp2_with fail
    with_reducible refine HH2.out.mono ?_
    rintro e w1 ⟨rfl, hb1⟩
    go_wp2_with fail
    go_end0
    exact ⟨rfl, _, m, by rw [HS.out]; exact HB.out.live' hb1, HN.out.below hb1, Kq.below hb1⟩
  · rw [wth_no hin]
    have HH1 := HH.out
    rw [decide_eq_false hin] at HH1
    have HH2 := Lib.hid HH1
    have HIN := Lib.hid hin
    have hkey := key_of hs
    have HKEY := Lib.hid hkey
    have HS := Lib.hid hs
    have hmm := @run_makeMap Try.prog
    obtain ⟨i0, hi, hz0, hz1, hz2⟩ := info_parts Try.infoStr
    have HI := Lib.hid hi
    have HZ0 := Lib.hid hz0
    have HZ1 := Lib.hid hz1
    have HZ2 := Lib.hid hz2
    have H0 := Lib.hid h0
    have H1 := Lib.hid h1
    have HC0 := Lib.hid c0
    have HSN := Lib.hid (strs_snoc rs s)
    clear hi hz0 hz1 hz2 hin HH HH1 hkey h0 h1 c0 c1
    generalize hS : bs s = S at *
    have HSe := Lib.hid hS
    clear hS
    go_enter Try.func42, Try.ntmps42
    go_wp2_with fail
    with_reducible refine HH2.out.mono ?_
    rintro e w1 ⟨rfl, hb1⟩
    have HB1 := Lib.hid (HB.out.live' hb1)
    have HN1 := Lib.hid (HN.out.below hb1)
    have HO1 := Lib.hid (Kq.below (B := B) (g := g) hb1)
    have hs1 := hb1.size
    have c0 := HB1.out.cell off
    have c1 := HB1.out.cell (off + 1)
    have f0 := HB1.out.free off
    have f1 := HB1.out.free (off + 1)
    rw [H0.out] at c0
    rw [H1.out] at c1
    clear hb1 HB HN HH2
    rcases HN1.out.map with ⟨rfl, hrs⟩ | ⟨mb, D, rfl, hown, hmp, hd⟩
    · have HRS := Lib.hid hrs
      clear hrs
      have hnil : Sem.run Try.prog (binOp BinOp.eql 72 (.map none) (.map none)) w1 = .ok (.bool true) w1 := by kernel_rfl
      have hBa := HB1.out.alloc (.map #[] 0)
      have c1a : (w1.alloc (.map #[] 0)).cell? ⟨g, off + 1, none⟩ = some (.map none) := (hBa.cell (off + 1)).trans H1.out
      have f1a := hBa.free (off + 1)
      have HXB0 := Lib.hid (hBa.set (off + 1) (.map (some w1.heap.size)))
      clear hBa
      go_upto_region 3 with (fail)
      have HXM := Lib.hid (show ((w1.alloc (.map #[] 0)).setCell ⟨g, off + 1, none⟩ (.map (some w1.heap.size))).ownsMap (H := Unit) Try.prog 9 unitElem w1.heap.size rs.length (.map []) from ((World.ownsMap_made w1 _ _ _).setCell (by have := HB1.out.lt; show w1.heap.size ≠ g; omega) _).mono (Nat.zero_le _))
      have HMP := Lib.hid (isMap_empty (H := Unit))
      have HD := Lib.hid (show ∀ s : List UInt8, has (.map [] : DataW Unit) (ky s) = decide (s ∈ rs) from fun s => by rw [HRS.out]; simp [has])
      have HXO := Lib.hid ((HO1.out.trans (Kq.below (one_belowN w1 (.map #[] 0)))).set (off + 1) (.map (some w1.heap.size)))
      have HXR := Lib.hid (ownsRow_setCell_other (HN1.out.row.alloc (.map #[] 0)) (a := ⟨g, off + 1, none⟩) (own_ne (HN1.out.row.alloc (.map #[] 0)) (HB1.out.alloc _) ht) (.map (some w1.heap.size)))
      clear HB1 HN1 HO1 c0 c1 f0 f1 c1a f1a hnil
      have hmbB : B ≤ w1.heap.size := by omega
      generalize hX : (w1.alloc (.map #[] 0)).setCell ⟨g, off + 1, none⟩ (.map (some w1.heap.size)) = X at *
      generalize hMb : w1.heap.size = mb at *
      have HXB := HXB0
      have HC0x := Lib.hid (set_get0 H0.out (.map (some mb)))
      have HC1x := Lib.hid (set_get1 H1.out (.map (some mb)))
      clear hX hMb HXB0
      have HXc0 := HXB.out.cell off
      have HXc1 := HXB.out.cell (off + 1)
      rw [HC0x.out] at HXc0
      rw [HC1x.out] at HXc1
      have HNX := Lib.hid (show NX B g off t cs mb (.slice av rs.length cv) rs.length (strs rs) rs w _ from ⟨HXB.out, HXR.out, .inr ⟨mb, _, rfl, HXM.out, HMP.out, HD.out⟩, HXO.out, blk_map_ne HXB.out HXM.out, hmbB, own_ne HXR.out HXB.out ht, row_map_ne HXR.out HXM.out⟩)
      have hsB := HXO.out.size
      clear HXR HXO HXB
      go_wp2_with (first
        | (at_mapUpdate; refine wpList_mapUpdate_own _ rfl _ _ _ 72 rfl 9 111 lawS Try.underlying72 (unitElem (H := Unit)) mb rs.length _ rfl HXM.out (by unfold maxLen; omega) _ _ _ rfl rfl HKEY.out _ [] unitElem_mk ?_; intro w2 hown2 hgrow2; have hN2 := HNX.out.put rfl HS.out HIN.out HMP.out HD.out hown2 hgrow2; have HN2 := Lib.hid hN2; have hs2 := hgrow2.size; have c20 := (hN2.blk.cell off).trans HC0x.out; have HSRC := Lib.hid (new_one1 w2 (.string S) 9); clear hown2 hgrow2 hN2)
        | (at_builtin; refine wpList_append_lies _ rfl (.tmp 26) (.tmp 28) 52 rfl B 9 i0 (.string ⟨#[]⟩) 1 16 Try.underlying52 HI.out HZ0.out HZ1.out HZ2.out rfl (by decide) (.slice av rs.length cv) rs.length (strs rs) rfl (HN2.out.row.alloc _) ⟨w2.heap.size, 0, none⟩ 1 1 [.string S] rfl rfl HSRC.out (fun u hu => by rw [List.mem_singleton.1 hu]; rfl) (by decide) (by unfold maxLen; omega) (by omega) (by simp; omega) (w2.heap.size + 1) (by simp) ?_; intro g4 c4 w4 hown4 hgrow4 hat4 hlt4; have hN4 := HN2.out.app ht hown4 hgrow4; have HN4 := Lib.hid hN4; have c40 := (hN4.blk.cell off).trans HC0x.out; have f40 := hN4.blk.free off; clear hown4 hgrow4 hN4 hat4))
      go_end0
      exact HN4.out.done (by simp) HSN.out
    · have hnil : Sem.run Try.prog (binOp BinOp.eql 72 (.map (some mb)) (.map none)) w1 = .ok (.bool false) w1 := by kernel_rfl
      have hmbB := HN1.out.low mb rfl
      have HXM := Lib.hid hown
      have HMP := Lib.hid hmp
      have HD := Lib.hid hd
      have HXO := HO1
      have HXR := Lib.hid HN1.out.row
      have HXB := Lib.hid (show Blk w1 g t (cs.setIfInBounds (off + 1) (.map (some mb))) by rw [set_same H1.out]; exact HB1.out)
      have HC0x := Lib.hid (set_get0 H0.out (.map (some mb)))
      have HC1x := Lib.hid (set_get1 H1.out (.map (some mb)))
      clear hown hmp hd HB1 HN1 HO1 c0 c1 f0 f1
      have HXc0 := HXB.out.cell off
      have HXc1 := HXB.out.cell (off + 1)
      rw [HC0x.out] at HXc0
      rw [HC1x.out] at HXc1
      have HNX := Lib.hid (show NX B g off t cs mb (.slice av rs.length cv) rs.length (strs rs) rs w _ from ⟨HXB.out, HXR.out, .inr ⟨mb, _, rfl, HXM.out, HMP.out, HD.out⟩, HXO.out, blk_map_ne HXB.out HXM.out, hmbB, own_ne HXR.out HXB.out ht, row_map_ne HXR.out HXM.out⟩)
      have hsB := HXO.out.size
      clear HXR HXO HXB
      go_wp2_with (first
        | (at_mapUpdate; refine wpList_mapUpdate_own _ rfl _ _ _ 72 rfl 9 111 lawS Try.underlying72 (unitElem (H := Unit)) mb rs.length _ rfl HXM.out (by unfold maxLen; omega) _ _ _ rfl rfl HKEY.out _ [] unitElem_mk ?_; intro w2 hown2 hgrow2; have hN2 := HNX.out.put rfl HS.out HIN.out HMP.out HD.out hown2 hgrow2; have HN2 := Lib.hid hN2; have hs2 := hgrow2.size; have c20 := (hN2.blk.cell off).trans HC0x.out; have HSRC := Lib.hid (new_one1 w2 (.string S) 9); clear hown2 hgrow2 hN2)
        | (at_builtin; refine wpList_append_lies _ rfl (.tmp 26) (.tmp 28) 52 rfl B 9 i0 (.string ⟨#[]⟩) 1 16 Try.underlying52 HI.out HZ0.out HZ1.out HZ2.out rfl (by decide) (.slice av rs.length cv) rs.length (strs rs) rfl (HN2.out.row.alloc _) ⟨w2.heap.size, 0, none⟩ 1 1 [.string S] rfl rfl HSRC.out (fun u hu => by rw [List.mem_singleton.1 hu]; rfl) (by decide) (by unfold maxLen; omega) (by omega) (by simp; omega) (w2.heap.size + 1) (by simp) ?_; intro g4 c4 w4 hown4 hgrow4 hat4 hlt4; have hN4 := HN2.out.app ht hown4 hgrow4; have HN4 := Lib.hid hN4; have c40 := (hN4.blk.cell off).trans HC0x.out; have f40 := hN4.blk.free off; clear hown4 hgrow4 hN4 hat4))
      go_end0
      exact HN4.out.done (by simp) HSN.out
end Go.Proofs.Ytlgnagmmljdkiab.Lx
/-
  PLAIN MATHEMATICS of which programs may be: what is wrong first, and in which part. It proves nothing of Go.
-/
namespace Go.Proofs.Ytlgnagmmljdkiab.P
set_option maxRecDepth 100000
set_option linter.unusedVariables false
set_option linter.unusedSimpArgs false
abbrev Nms' := List (List UInt8)
def setsB (k : Int) : Bool := decide (k = 1 ∨ k = 2 ∨ k = 4 ∨ k = 5)
def accB (k : Int) : Bool := decide (k = 2 ∨ k = 3 ∨ k = 4 ∨ k = 5)
def argsN (k : Int) : Nat := if k = 5 then 2 else if k = 2 ∨ k = 6 then 0 else 1
def modeB (k m : Int) : Bool :=
  if k = 2 then decide (m = 0 ∨ m = 1 ∨ m = 4) else if k = 3 then decide (m = 0 ∨ m = 2 ∨ m = 4) else if k = 4 ∨ k = 5 then decide (0 ≤ m ∧ m ≤ 4) else if k = 6 then decide (1 ≤ m ∧ m ≤ 4) else decide (m = 0)
/-- One thing behind the other: the first that is wrong. -/
def andE (a b : Nat) : Nat := if a = 0 then b else a
mutual
def dpX : EX → Nat
  | .mk _ _ _ ks => dpXs ks + 1
def dpXs : List EX → Nat
  | [] => 0
  | e :: es => max (dpX e) (dpXs es)
end
mutual
def dpC : CO → Nat
  | .mk _ _ _ _ ks => dpCs ks + 1
def dpCs : List CO → Nat
  | [] => 0
  | e :: es => max (dpC e) (dpCs es)
end
/-- What is wrong of an expression itself. -/
def nodeE (vals : Int) (regs : Nms') : EX → Nat
  | .mk o n s ks =>
    if o = 1 then (if ks.length = 0 ∧ s = [] ∧ 0 ≤ n ∧ n < vals then 0 else 1)
    else if o = 2 then (if 0 < ks.length ∨ n ≠ 0 then 1 else if s ∈ regs then 0 else 4)
    else if 3 ≤ o ∧ o ≤ 6 then (if ks.length = 2 ∧ s = [] ∧ n = 0 then 0 else 1)
    else 1
mutual
def eachX (f : EX → Nat) : EX → Nat
  | .mk o n s ks => andE (f (.mk o n s ks)) (eachXs f ks)
def eachXs (f : EX → Nat) : List EX → Nat
  | [] => 0
  | e :: es => andE (eachX f e) (eachXs f es)
end
mutual
def eachC (f : CO → Nat) : CO → Nat
  | .mk o t s n ks => andE (f (.mk o t s n ks)) (eachCs f ks)
def eachCs (f : CO → Nat) : List CO → Nat
  | [] => 0
  | e :: es => andE (eachC f e) (eachCs f es)
end
def withinX (f : EX → Nat) (e : EX) : Nat := if 6 < dpX e then 3 else eachX f e
def withinC (f : CO → Nat) (e : CO) : Nat := if 6 < dpC e then 3 else eachC f e
def argsE (f : EX → Nat) : List EX → Nat
  | [] => 0
  | e :: es => andE (withinX f e) (argsE f es)
/-- What is wrong of the register, of the location. -/
def regE (locs regs : Nms') (k : Int) (r : List UInt8) : Nat :=
  if setsB k = true then (if Lx.nameB r = false ∨ r ∈ locs then 4 else if r ∈ regs ∨ regs.length < 4 then 0 else 3) else if r = [] then 0 else 1
def locE (locs : Nms') (k : Int) (l : List UInt8) : Nat := if accB k = true then (if l ∈ locs then 0 else 4) else if l = [] then 0 else 1
/-- What is wrong of a statement itself: the n-th of its thread, within so many ifs. -/
def stE (vals : Int) (locs regs : Nms') (n ifs : Nat) : ST → Nat
  | .mk k m r l a th el =>
    if 16 < n ∨ 6 < ifs then 3
    else if ¬ (1 ≤ k ∧ k ≤ 7) ∨ modeB k m = false ∨ a.length ≠ argsN k ∨ (k ≠ 7 ∧ 0 < th.length + el.length) then 1
    else andE (regE locs regs k r) (andE (locE locs k l) (argsE (nodeE vals regs) a))
/-- Where a walk stands: the part, the registers, how many statements. -/
structure Wk3 where
  part : Nat
  regs : Nms'
  n : Nat
mutual
def blkS (vals : Int) (locs : Nms') (ifs : Nat) : ST → Wk3 → Except (Nat × Nat) Wk3
  | .mk k m r l a th el, c =>
    if stE vals locs c.regs (c.n + 1) ifs (.mk k m r l a th el) ≠ 0 then .error (stE vals locs c.regs (c.n + 1) ifs (.mk k m r l a th el), c.part + 1)
    else (blkL vals locs (ifs + 1) th ⟨c.part + 1, if setsB k = true then wth c.regs r else c.regs, c.n + 1⟩).bind fun c' => blkL vals locs (ifs + 1) el c'
def blkL (vals : Int) (locs : Nms') (ifs : Nat) : List ST → Wk3 → Except (Nat × Nat) Wk3
  | [], c => .ok c
  | s :: ss, c => (blkS vals locs ifs s c).bind fun c' => blkL vals locs ifs ss c'
end
def thrL (vals : Int) (locs : Nms') : List (List ST) → Nat → Except (Nat × Nat) Nat
  | [], p => .ok p
  | l :: ls, p => (blkL vals locs 0 l ⟨p, [], 0⟩).bind fun c => thrL vals locs ls c.part
mutual
/-- The registers that statements set. -/
def regsS (acc : Nms') : ST → Nms'
  | .mk k _ r _ _ th el => regsL (regsL (if setsB k = true then wth acc r else acc) th) el
def regsL (acc : Nms') : List ST → Nms'
  | [] => acc
  | s :: ss => regsL (regsS acc s) ss
end
mutual
def cntS : ST → Nat
  | .mk _ _ _ _ _ th el => 1 + cntL th + cntL el
def cntL : List ST → Nat
  | [] => 0
  | s :: ss => cntS s + cntL ss
end
/-- What is wrong of a condition itself. -/
def nodeC (vals : Int) (locs : Nms') (ts : List (List ST)) : CO → Nat
  | .mk o t s n ks =>
    if o = 1 then (if 0 < ks.length ∨ t ≠ 0 then 1 else if s ∈ locs then (if 0 ≤ n ∧ n < vals then 0 else 1) else 4)
    else if o = 2 then (if 0 < ks.length ∨ t < 0 ∨ (ts.length : Int) ≤ t then 1 else if s ∈ regsL [] (ts.getD t.toNat []) then (if 0 ≤ n ∧ n < vals then 0 else 1) else 4)
    else if o = 3 then (if ks.length = 1 ∧ t = 0 ∧ s = [] ∧ n = 0 then 0 else 1)
    else if o = 4 ∨ o = 5 then (if ks.length = 2 ∧ t = 0 ∧ s = [] ∧ n = 0 then 0 else 1)
    else 1
def cellE (vals : Int) (locs : Nms') (c : List UInt8 × Int) : Nat := if Lx.nameB c.1 = false ∨ c.1 ∈ locs then 4 else if 0 ≤ c.2 ∧ c.2 < vals then 0 else 1
def celL (vals : Int) : List (List UInt8 × Int) → Nms' → Nat → Except (Nat × Nat) Nms'
  | [], locs, _ => .ok locs
  | c :: cs, locs, p => if cellE vals locs c ≠ 0 then .error (cellE vals locs c, p + 1) else celL vals cs (wth locs c.1) (p + 1)
def headE (p : PG) : Nat :=
  if Lx.nameB p.name = false then 4 else if p.vals < 2 ∨ 4 < p.vals then 1 else if 4 < p.init.length then 3 else if p.threads.length = 0 then 1 else if 4 < p.threads.length then 3 else 0
def askE (p : PG) (locs : Nms') : Nat := if p.ask ≠ 1 ∧ p.ask ≠ 2 then 1 else withinC (nodeC p.vals locs p.threads) p.cond
/-- What is wrong first, and of which part. -/
def mayP (p : PG) : Nat × Nat :=
  if headE p ≠ 0 then (headE p, 0)
  else match celL p.vals p.init [] 0 with
    | .error x => x
    | .ok locs => (match thrL p.vals locs p.threads p.init.length with
      | .error x => x
      | .ok n => if askE p locs ≠ 0 then (askE p locs, n + 1) else (0, 0))
theorem cntS_pos (s : ST) : 1 ≤ cntS s := by
  cases s
  unfold cntS
  omega
theorem len_cnt : ∀ l : List ST, l.length ≤ cntL l
  | [] => Nat.zero_le _
  | s :: ss => by
    have h1 := cntS_pos s
    have h2 := len_cnt ss
    rw [cntL, List.length_cons]
    omega
theorem wthLen (rs : Nms') (s : List UInt8) : (wth rs s).length ≤ rs.length + 1 := by
  unfold wth
  split
  · omega
  · simp
mutual
theorem regsS_len : ∀ (s : ST) (acc : Nms'), (regsS acc s).length ≤ acc.length + cntS s
  | .mk k m r l a th el, acc => by
    have h1 := regsL_len th (if setsB k = true then wth acc r else acc)
    have h2 := regsL_len el (regsL (if setsB k = true then wth acc r else acc) th)
    have h3 := wthLen acc r
    have h4 : (if setsB k = true then wth acc r else acc).length ≤ acc.length + 1 := by split <;> omega
    rw [regsS, cntS]
    omega
theorem regsL_len : ∀ (l : List ST) (acc : Nms'), (regsL acc l).length ≤ acc.length + cntL l
  | [], acc => by
    rw [regsL]
    omega
  | s :: ss, acc => by
    have h1 := regsS_len s acc
    have h2 := regsL_len ss (regsS acc s)
    rw [regsL, cntL]
    omega
end
theorem dpXs_le {m : Nat} : ∀ {es : List EX}, (∀ e ∈ es, dpX e ≤ m) → dpXs es ≤ m
  | [], _ => Nat.zero_le _
  | e :: es, h => by
    have h1 := h e (.head _)
    have h2 := dpXs_le (m := m) (es := es) (fun x hx => h x (.tail _ hx))
    rw [dpXs]
    omega
theorem dpXs_mem : ∀ {es : List EX} {e : EX}, e ∈ es → dpX e ≤ dpXs es
  | x :: es, e, h => by
    rw [dpXs]
    rcases List.mem_cons.1 h with rfl | h
    · omega
    · have := dpXs_mem h
      omega
theorem dpCs_mem : ∀ {es : List CO} {e : CO}, e ∈ es → dpC e ≤ dpCs es
  | x :: es, e, h => by
    rw [dpCs]
    rcases List.mem_cons.1 h with rfl | h
    · omega
    · have := dpCs_mem h
      omega
theorem dpCs_le {m : Nat} : ∀ {es : List CO}, (∀ e ∈ es, dpC e ≤ m) → dpCs es ≤ m
  | [], _ => Nat.zero_le _
  | e :: es, h => by
    have h1 := h e (.head _)
    have h2 := dpCs_le (m := m) (es := es) (fun x hx => h x (.tail _ hx))
    rw [dpCs]
    omega
end Go.Proofs.Ytlgnagmmljdkiab.P
/-
  What addSet of names tells, as a contract: the registers that statements set.
-/
namespace Go.Proofs.Ytlgnagmmljdkiab.Lx
open Go.RowKit
open P (wth EX CO ST setsB regsS regsL cntS cntL)
set_option maxRecDepth 100000
set_option linter.unusedVariables false
set_option linter.unusedSimpArgs false
/-- Names at two cells of a block. -/
def NA (B g off : Nat) (t : TypeId) (cs : Array Value) (rs : List (List UInt8)) (w : World) : Prop := ∃ v m, Blk w g t ((cs.setIfInBounds (off + 1) (.map m)).setIfInBounds off v) ∧ NmV B w v m rs
theorem NA.below {B g off : Nat} {t : TypeId} {cs : Array Value} {rs : List (List UInt8)} {w w' : World} (h : NA B g off t cs rs w) (hb : Below w.heap.size w w') : NA B g off t cs rs w' := by
  obtain ⟨v, m, h1, h2⟩ := h
  exact ⟨v, m, h1.live' hb, h2.below hb⟩
theorem NA.lt {B g off : Nat} {t : TypeId} {cs : Array Value} {rs : List (List UInt8)} {w : World} (h : NA B g off t cs rs w) : g < w.heap.size := by
  obtain ⟨v, m, h1, h2⟩ := h
  exact h1.lt
theorem set_at0 {cs : Array Value} {off : Nat} {m v : Value} (h : off + 1 < cs.size) : ((cs.setIfInBounds (off + 1) m).setIfInBounds off v)[off]? = some v := by
  rw [Array.getElem?_setIfInBounds_self]
  simp; omega
theorem set_at1 {cs : Array Value} {off : Nat} {m v : Value} (h : off + 1 < cs.size) : ((cs.setIfInBounds (off + 1) m).setIfInBounds off v)[off + 1]? = some m := by
  rw [Array.getElem?_setIfInBounds_ne (by omega), Array.getElem?_setIfInBounds_self]
  simp; omega
theorem set_four {cs : Array Value} {off : Nat} {m v m' v' : Value} : ((((cs.setIfInBounds (off + 1) m).setIfInBounds off v).setIfInBounds (off + 1) m').setIfInBounds off v') = (cs.setIfInBounds (off + 1) m').setIfInBounds off v' := by
  apply Array.ext_getElem?
  intro j
  simp only [Array.getElem?_setIfInBounds, Array.size_setIfInBounds]
  by_cases h0 : off = j
  · subst h0
    simp
  · by_cases h1 : off + 1 = j
    · subst h1
      simp
    · simp [h0, h1]
/-- What add, addSet leave. -/
def NaTo (B g off : Nat) (t : TypeId) (cs : Array Value) (rs : List (List UInt8)) (w : World) (e : Ending) (w' : World) : Prop := e = .returned (.tuple #[]) ∧ NA B g off t cs rs w' ∧ Kq B g w w'
theorem has_at {B g off : Nat} {t : TypeId} {cs : Array Value} {rs : List (List UInt8)} {w : World} (h : NA B g off t cs rs w) (hsz : off + 1 < cs.size) (s : List UInt8) (hs : s.length ≤ maxLen) :
    Calls Try.prog 57 #[.pointer (some ⟨g, off, none⟩), .string (bs s)] w (fun e w' => e = .returned (.bool (decide (s ∈ rs))) ∧ Below w.heap.size w w') := by
  obtain ⟨v, m, h1, h2⟩ := h
  exact has_any g off m rs s w ((h1.cell (off + 1)).trans (set_at1 hsz)) h2.map hs
theorem add_at {B g off : Nat} {t : TypeId} {cs : Array Value} {rs : List (List UInt8)} {w : World} (h : NA B g off t cs rs w) (hsz : off + 1 < cs.size) (ht : 9 ≠ t) (hB : B ≤ w.heap.size) (hl : rs.length ≤ 1000000) (s : List UInt8) (hs : s.length ≤ maxLen) :
    Calls Try.prog 42 #[.pointer (some ⟨g, off, none⟩), .string (bs s)] w (NaTo B g off t cs (wth rs s) w) := by
  obtain ⟨v, m, h1, h2⟩ := h
  refine (add_any B g off t _ v m rs s w h1 ht (set_at0 hsz) (set_at1 hsz) h2 hB hs hl).mono fun e w' hh => ?_
  obtain ⟨rfl, v', m', hb, hn, hk⟩ := hh
  rw [set_four] at hb
  exact ⟨rfl, ⟨v', m', hb, hn⟩, hk⟩
set_option maxHeartbeats 400000 in
theorem sets_any (k : Int) (w : World) : Calls Try.prog 51 #[.int .i64 k] w (fun e w' => e = .returned (.bool (setsB k)) ∧ w = w') := by
  by_cases h : k = 1 ∨ k = 2 ∨ k = 4 ∨ k = 5
  · have hb : setsB k = true := decide_eq_true h
    rw [hb]
    clear hb
    rcases h with rfl | rfl | rfl | rfl
    all_goals
      go_enter Try.func51, Try.ntmps51
      go_wp2_with fail
      go_ret
      exact ⟨rfl, rfl⟩
  · have hb : setsB k = false := decide_eq_false h
    rw [hb]
    have e1 : (k == 1) = false := by simp; omega
    have e2 : (k == 2) = false := by simp; omega
    have e4 : (k == 4) = false := by simp; omega
    have e5 : (k == 5) = false := by simp; omega
    clear hb h
    go_enter Try.func51, Try.ntmps51
    go_wp2_with fail
    go_ret
    exact ⟨rfl, rfl⟩
mutual
/-- Its numbers are ints, its names may be. -/
def wfS : ST → Prop
  | .mk k m r l a th el => W64 k ∧ W64 m ∧ r.length ≤ maxLen ∧ l.length ≤ maxLen ∧ wfXs a ∧ wfSs th ∧ wfSs el
def wfSs : List ST → Prop
  | [] => True
  | e :: es => wfS e ∧ wfSs es
end
theorem wfSs_mem : ∀ {es : List ST}, wfSs es → ∀ e ∈ es, wfS e
  | [], _, e, he => by cases he
  | x :: es, h, e, he => by
    unfold wfSs at h
    rcases List.mem_cons.1 he with rfl | he
    · exact h.1
    · exact wfSs_mem h.2 e he
theorem regsL_take {acc : List (List UInt8)} : ∀ {ss : List ST} {j : Nat} {s : ST}, ss[j]? = some s → regsL acc (ss.take (j + 1)) = regsS (regsL acc (ss.take j)) s
  | [], j, s, h => by simp at h
  | x :: ss, 0, s, h => by
    simp at h
    subst h
    simp only [List.take_succ_cons, List.take_zero]
    rw [P.regsL, P.regsL, P.regsL]
  | x :: ss, j + 1, s, h => by
    rw [List.take_succ_cons, List.take_succ_cons, P.regsL, P.regsL]
    exact regsL_take (by simpa using h)
theorem cntL_mem : ∀ {ss : List ST} {j : Nat} {s : ST}, ss[j]? = some s → cntL (ss.take j) + cntS s ≤ cntL ss
  | [], j, s, h => by simp at h
  | x :: ss, 0, s, h => by
    simp at h
    subst h
    rw [List.take_zero, P.cntL, P.cntL]
    omega
  | x :: ss, j + 1, s, h => by
    have h1 := cntL_mem (ss := ss) (j := j) (s := s) (by simpa using h)
    rw [List.take_succ_cons, P.cntL, P.cntL]
    omega
theorem Q_keep {B g : Nat} {w w' : World} (h : Kq B g w w') : Keeps (fun k => k < B ∧ k ≠ g) w w' := fun k hk hl => h.only.block k hl (by rintro (e | e) <;> omega)
theorem seven_cellsK {w : World} {g : Nat} {t : TypeId} {a b c d e f h : Value} (hb : Blk w g t #[a, b, c, d, e, f, h]) : w.cell? ⟨g, 0, none⟩ = some a ∧ w.cell? ⟨g, 1, none⟩ = some b ∧ w.cell? ⟨g, 2, none⟩ = some c ∧ w.cell? ⟨g, 3, none⟩ = some d ∧ w.cell? ⟨g, 4, none⟩ = some e ∧ w.cell? ⟨g, 5, none⟩ = some f ∧ w.cell? ⟨g, 6, none⟩ = some h :=
  ⟨hb.cell 0, hb.cell 1, hb.cell 2, hb.cell 3, hb.cell 4, hb.cell 5, hb.cell 6⟩
set_option maxHeartbeats 12800000 in
theorem addSet_any (B g off : Nat) (t : TypeId) (cs : Array Value) (ht : 9 ≠ t) (hsz : off + 1 < cs.size) : ∀ (N : Nat) (es : List ST), sizeSs es < N → ∀ (rs : List (List UInt8)) (a : Option Addr) (ca : Nat) (w : World), NA B g off t cs rs w → RowS (fun k => k < B ∧ k ≠ g) w a es → B ≤ w.heap.size → es.length ≤ maxLen → rs.length + cntL es ≤ 1000000 → wfSs es →
    Calls Try.prog 35 #[.pointer (some ⟨g, off, none⟩), .slice a es.length ca] w (NaTo B g off t cs (regsL rs es) w)
  | 0, es, hN, rs, a, ca, w, _, _, _, _, _, _ => by omega
  | N + 1, es, hN, rs, a, ca, w, hna, hrow, hB, hm, hcnt, hwf => by
    have IH := Lib.hid (addSet_any B g off t cs ht hsz N)
    have HSZ := Lib.hid (show ∀ i e, es[i]? = some e → ST.size e ≤ N from fun i e he => by
      have h1 := sizes_mem es i e he
      omega)
    have HNA := Lib.hid hna
    have HR := Lib.hid hrow
    have HC := Lib.hid hcnt
    have HWF := Lib.hid hwf
    have HT := Lib.hid ht
    unfold maxLen at hm
    clear hna hrow hN hcnt hwf ht
    go_enter Try.func35, Try.ntmps35
    go_wp2_with fail
    go_loopw [8] (fun i wr => ∃ j : Nat, i = .int .i64 (j : Nat) ∧ j ≤ es.length ∧ NA B g off t cs (regsL rs (es.take j)) wr ∧ Kq B g w wr) (fun i _ => es.length - (intOf i).toNat)
    case atStart => exact ⟨0, rfl, Nat.zero_le _, by rw [List.take_zero, P.regsL]; exact HNA.out, Kq.refl _ _ _⟩
    case round =>
      obtain ⟨j, rfl, hj, hna, hkq⟩ := hrel
      have HNAr := Lib.hid hna
      have HKr := Lib.hid hkq
      have hszr := hkq.size
      have hgl := hna.lt
      clear hna hkq
      by_cases hlt : j < es.length
      · obtain ⟨ga, oa, rfl, hga, hs⟩ : ∃ ga oa, a = some ⟨ga, oa, none⟩ ∧ (ga < B ∧ ga ≠ g) ∧ LSs (fun k => k < B ∧ k ≠ g) wr ga oa es := by
          rcases HR.out.keep (Q_keep HKr.out) with h0 | h0
          · rw [h0] at hlt
            simp at hlt
          · exact h0
        obtain ⟨s, k0, k1, k2, k3, k4, k5, k6, hs0, c0, c1, c2, c3, c4, c5, c6, hls⟩ := LSs.at es hs j hlt
        have hcm := cntL_mem hs0
        have hszs := HSZ.out j s hs0
        have hwfs := wfSs_mem HWF.out s (List.mem_of_getElem? hs0)
        have HTK := Lib.hid (regsL_take (acc := rs) hs0)
        have hrl := P.regsL_len (es.take j) rs
        obtain ⟨kd, md, rg, lc, ar, th, el⟩ := s
        unfold LS at hls
        obtain ⟨aa, ca', at', ct, ae, ce, hv, m1, m2, m3, l1, l2, l3⟩ := hls
        injection hv with hv
        injection hv with hv
        injection hv with e0 hv
        injection hv with e1 hv
        injection hv with e2 hv
        injection hv with e3 hv
        injection hv with e4 hv
        injection hv with e5 hv
        injection hv with e6 hv
        subst e0 e1 e2 e3 e4 e5 e6
        clear hv
        unfold wfS at hwfs
        obtain ⟨_, _, hrg, _, _, hwth, hwel⟩ := hwfs
        unfold ST.size at hszs
        unfold P.cntS at hcm
        unfold P.regsS at HTK
        have HRG := Lib.hid hrg
        have HWT := Lib.hid hwth
        have HWE := Lib.hid hwel
        have HLT := Lib.hid (show RowS (fun k => k < B ∧ k ≠ g) wr at' th from l2)
        have HLE := Lib.hid (show RowS (fun k => k < B ∧ k ≠ g) wr ae el from l3)
        have HM2 := Lib.hid m2
        have HM3 := Lib.hid m3
        have hC := HC.out
        have d1 : (0 : Int) ≤ (j : Int) := by omega
        have d2 : (j : Int) < (es.length : Int) := by omega
        have d3 : decide ((j : Int) < (es.length : Int)) = true := decide_eq_true (by omega)
        have d4 : decide (j < es.length) = true := decide_eq_true (by omega)
        clear hs hs0 l1 l2 l3 m1 m2 m3 hrg hwth hwel
        go_wp2_with fail
        have hbx := one_belowN wr (.cells #[.int .i64 kd, .int .i64 md, .string (bs rg), .string (bs lc), .slice aa ar.length ca', .slice at' th.length ct, .slice ae el.length ce] 45)
        have HBX := Lib.hid (Blk.new wr 45 #[.int .i64 kd, .int .i64 md, .string (bs rg), .string (bs lc), .slice aa ar.length ca', .slice at' th.length ct, .slice ae el.length ce])
        have HN1 := Lib.hid (HNAr.out.below hbx)
        have HK1 := Lib.hid (HKr.out.trans (Kq.below hbx))
        have HL1 := Lib.hid (HLT.out.keep (Keeps.below hbx (Nat.le_refl _)))
        have HE1 := Lib.hid (HLE.out.keep (Keeps.below hbx (Nat.le_refl _)))
        have hs1 := hbx.size
        have hgb : wr.heap.size ≠ g := by omega
        have hx1 := HBX.out.lt
        clear hbx HNAr HKr HLT HLE c0 c1 c2 c3 c4 c5 c6
        generalize hw1 : wr.alloc (.cells #[.int .i64 kd, .int .i64 md, .string (bs rg), .string (bs lc), .slice aa ar.length ca', .slice at' th.length ct, .slice ae el.length ce] 45) = w1 at *
        generalize hbx : wr.heap.size = bx at *
        clear hw1 hbx
        with_reducible refine (sets_any kd w1).mono ?_
        rintro e w1' ⟨rfl, rfl⟩
        have hne9 : 9 ≠ 45 := by decide
        have HNE9 := Lib.hid hne9
        clear hne9
        generalize hrs0 : regsL rs (es.take j) = rs0 at *
        clear hrs0
        cases hset : setsB kd
        all_goals
          rw [hset] at HTK
          simp only [if_true, if_false, Bool.false_eq_true] at HTK
        · have HSET := Lib.hid hset
          clear hset
          obtain ⟨q0, q1, q2, q3, q4, q5, q6⟩ := seven_cellsK HBX.out
          have HA := Lib.hid (IH.out th (by omega) rs0 at' ct w1 HN1.out HL1.out (by omega) HM2.out (by omega) HWT.out)
          go_wp2_with fail
          with_reducible refine HA.out.mono ?_
          rintro e w2 ⟨rfl, hn2, hk2⟩
          have hl2 := P.regsL_len th rs0
          have HBX2 := Lib.hid (hk2.keep bx _ _ hgb HNE9.out HBX.out)
          have HE2 := Lib.hid (HE1.out.keep (Q_keep hk2))
          have HN2 := Lib.hid hn2
          have HK2 := Lib.hid (HK1.out.trans hk2)
          have hs2 := hk2.size
          clear hn2 hk2 HA q0 q1 q2 q3 q4 q5 q6
          obtain ⟨q0, q1, q2, q3, q4, q5, q6⟩ := seven_cellsK HBX2.out
          have HA := Lib.hid (IH.out el (by omega) _ ae ce w2 HN2.out HE2.out (by omega) HM3.out (by omega) HWE.out)
          go_wp2_with fail
          with_reducible refine HA.out.mono ?_
          rintro e w3 ⟨rfl, hn3, hk3⟩
          have HN3 := Lib.hid hn3
          have HK3 := Lib.hid (HK2.out.trans hk3)
          clear hn3 hk3 HA q0 q1 q2 q3 q4 q5 q6
          go_wp2_with fail
          go_roundw
          case rel => exact ⟨j + 1, by go_num, by omega, by rw [HTK.out]; exact HN3.out, HK3.out⟩
          case measure => simp [intOf]; omega
        · have HSET := Lib.hid hset
          clear hset
          obtain ⟨q0, q1, q2, q3, q4, q5, q6⟩ := seven_cellsK HBX.out
          have HA := Lib.hid (add_at HN1.out hsz HT.out (by omega) (by omega) rg HRG.out)
          go_wp2_with fail
          with_reducible refine HA.out.mono ?_
          rintro e wa ⟨rfl, hna, hka⟩
          have hla := P.wthLen rs0 rg
          have HBXa := Lib.hid (hka.keep bx _ _ hgb HNE9.out HBX.out)
          have HLa := Lib.hid (HL1.out.keep (Q_keep hka))
          have HEa := Lib.hid (HE1.out.keep (Q_keep hka))
          have HNa := Lib.hid hna
          have HKa := Lib.hid (HK1.out.trans hka)
          have hsa := hka.size
          clear hna hka HA q0 q1 q2 q3 q4 q5 q6
          generalize hrs1 : wth rs0 rg = rs1 at *
          clear hrs1
          obtain ⟨q0, q1, q2, q3, q4, q5, q6⟩ := seven_cellsK HBXa.out
          have HA := Lib.hid (IH.out th (by omega) rs1 at' ct wa HNa.out HLa.out (by omega) HM2.out (by omega) HWT.out)
          go_wp2_with fail
          with_reducible refine HA.out.mono ?_
          rintro e w2 ⟨rfl, hn2, hk2⟩
          have hl2 := P.regsL_len th rs1
          have HBX2 := Lib.hid (hk2.keep bx _ _ hgb HNE9.out HBXa.out)
          have HE2 := Lib.hid (HEa.out.keep (Q_keep hk2))
          have HN2 := Lib.hid hn2
          have HK2 := Lib.hid (HKa.out.trans hk2)
          have hs2 := hk2.size
          clear hn2 hk2 HA q0 q1 q2 q3 q4 q5 q6
          obtain ⟨q0, q1, q2, q3, q4, q5, q6⟩ := seven_cellsK HBX2.out
          have HA := Lib.hid (IH.out el (by omega) _ ae ce w2 HN2.out HE2.out (by omega) HM3.out (by omega) HWE.out)
          go_wp2_with fail
          with_reducible refine HA.out.mono ?_
          rintro e w3 ⟨rfl, hn3, hk3⟩
          have HN3 := Lib.hid hn3
          have HK3 := Lib.hid (HK2.out.trans hk3)
          clear hn3 hk3 HA q0 q1 q2 q3 q4 q5 q6
          go_wp2_with fail
          go_roundw
          case rel => exact ⟨j + 1, by go_num, by omega, by rw [HTK.out]; exact HN3.out, HK3.out⟩
          case measure => simp [intOf]; omega
      · obtain rfl : j = es.length := by omega
        have HTL := Lib.hid (List.take_length (l := es))
        clear hlt
        go_wp2_with fail
        go_end0
        exact ⟨rfl, by have h := HNAr.out; rw [HTL.out] at h; exact h, HKr.out⟩
end Go.Proofs.Ytlgnagmmljdkiab.Lx
/-
  An audit's state in memory, and what it is asked of names and numbers, as contracts.
-/

namespace Go.Proofs.Ytlgnagmmljdkiab.Lx
open Go.RowKit
open P (wth EX CO ST PG setsB regsL nodeE nodeC eachX eachXs eachC eachCs withinX withinC dpX dpXs dpC dpCs andE regE locE)
set_option maxRecDepth 100000
set_option linter.unusedVariables false
set_option linter.unusedSimpArgs false

/-- A program's ten cells. -/
structure PV where
  nm : ByteArray
  vals : Int
  vi : Value
  vt : Value
  ask : Int
  o : Int
  t : Int
  s : ByteArray
  n : Int
  ka : Option Addr
  km : Nat
  kc : Nat
/-- An audit's sixteen cells. -/
abbrev auC (x : PV) (part : Int) (lv : Value) (lm : Option Nat) (rv : Value) (rm : Option Nat) (st : Int) : Array Value :=
  #[.string x.nm, .int .i64 x.vals, x.vi, x.vt, .int .i64 x.ask, .int .i64 x.o, .int .i64 x.t, .string x.s, .int .i64 x.n, .slice x.ka x.km x.kc, .int .i64 part, lv, .map lm, rv, .map rm, .int .i64 st]
theorem auC_regs (x : PV) (part : Int) (lv : Value) (lm : Option Nat) (rv : Value) (rm : Option Nat) (st : Int) (v : Value) (m : Option Nat) : ((auC x part lv lm rv rm st).setIfInBounds (13 + 1) (.map m)).setIfInBounds 13 v = auC x part lv lm v m st := rfl
theorem auC_locs (x : PV) (part : Int) (lv : Value) (lm : Option Nat) (rv : Value) (rm : Option Nat) (st : Int) (v : Value) (m : Option Nat) : ((auC x part lv lm rv rm st).setIfInBounds (11 + 1) (.map m)).setIfInBounds 11 v = auC x part v m rv rm st := rfl
/-- An audit at block a, what it has made of registers from B on. -/
def Ad (B a : Nat) (x : PV) (part : Int) (lv : Value) (lm : Option Nat) (st : Int) (locs regs : List (List UInt8)) (w : World) : Prop :=
  ∃ rv rm, Blk w a 76 (auC x part lv lm rv rm st) ∧ NmV B w rv rm regs ∧ MapOf w lm locs ∧ (∀ mb, lm = some mb → mb < B) ∧ a < B ∧ B ≤ w.heap.size
theorem Ad.below {B a : Nat} {x : PV} {part : Int} {lv : Value} {lm : Option Nat} {st : Int} {locs regs : List (List UInt8)} {w w' : World} (h : Ad B a x part lv lm st locs regs w) (hb : Below w.heap.size w w') : Ad B a x part lv lm st locs regs w' := by
  obtain ⟨rv, rm, h1, h2, h3, h4, h5, h6⟩ := h
  exact ⟨rv, rm, h1.live' hb, h2.below hb, h3.low hb, h4, h5, Nat.le_trans h6 hb.size⟩
theorem Ad.na {B a : Nat} {x : PV} {part : Int} {lv : Value} {lm : Option Nat} {st : Int} {locs regs : List (List UInt8)} {w : World} (h : Ad B a x part lv lm st locs regs w) : NA B a 13 76 (auC x part lv lm (.slice none 0 0) none st) regs w := by
  obtain ⟨rv, rm, h1, h2, h3, h4, h5, h6⟩ := h
  exact ⟨rv, rm, by rw [auC_regs]; exact h1, h2⟩
theorem Ad.hasR {B a : Nat} {x : PV} {part : Int} {lv : Value} {lm : Option Nat} {st : Int} {locs regs : List (List UInt8)} {w : World} (h : Ad B a x part lv lm st locs regs w) (s : List UInt8) (hs : s.length ≤ maxLen) :
    Calls Try.prog 57 #[.pointer (some ⟨a, 13, none⟩), .string (bs s)] w (fun e w' => e = .returned (.bool (decide (s ∈ regs))) ∧ Below w.heap.size w w') := has_at h.na (show 13 + 1 < 16 by decide) s hs
theorem Ad.hasL {B a : Nat} {x : PV} {part : Int} {lv : Value} {lm : Option Nat} {st : Int} {locs regs : List (List UInt8)} {w : World} (h : Ad B a x part lv lm st locs regs w) (s : List UInt8) (hs : s.length ≤ maxLen) :
    Calls Try.prog 57 #[.pointer (some ⟨a, 11, none⟩), .string (bs s)] w (fun e w' => e = .returned (.bool (decide (s ∈ locs))) ∧ Below w.heap.size w w') := by
  obtain ⟨rv, rm, h1, h2, h3, h4, h5, h6⟩ := h
  exact has_any a 11 lm locs s w (h1.cell 12) h3 hs
/-- What is wrong is told; nothing that was there turns. -/
def ErTo (n : Nat) (w : World) (e : Ending) (w' : World) : Prop := e = .returned (.int .i64 (n : Nat)) ∧ Below w.heap.size w w'
set_option maxHeartbeats 400000 in
theorem unless_any (b : Bool) (e : Int) (w : World) : Calls Try.prog 40 #[.bool b, .int .i64 e] w (fun x w' => x = .returned (.int .i64 (if b = true then 0 else e)) ∧ w = w') := by
  cases b
  all_goals
    go_enter Try.func40, Try.ntmps40
    go_wp2_with fail
    go_ret
    exact ⟨rfl, rfl⟩
theorem empty_is {s : List UInt8} (h : s = []) : (bs s).toList = [] ∧ (bs s).toList.isEmpty = true := by
  subst h
  have me1 : (bs ([] : List UInt8)).toList = [] := by rw [toList_by, by_bs]
  exact ⟨me1, by rw [me1]; rfl⟩
theorem empty_no {s : List UInt8} (h : s ≠ []) : ¬ (bs s).toList = [] ∧ (bs s).toList.isEmpty = false := by
  have h1 : ¬ (bs s).toList = [] := by
    rw [toList_by, by_bs]
    exact h
  exact ⟨h1, by simpa using h1⟩
set_option maxHeartbeats 800000 in
theorem absent_any (a : Nat) (s : List UInt8) (w : World) : Calls Try.prog 94 #[.pointer (some ⟨a, 0, none⟩), .string (bs s)] w (ErTo (if s = [] then 0 else 1) w) := by
  by_cases h : s = []
  · rw [if_pos h]
    obtain ⟨e1, e2⟩ := empty_is h
    clear h
    generalize bs s = S at *
    go_enter Try.func94, Try.ntmps94
    go_wp2_with fail
    with_reducible refine (unless_any _ 1 w).mono ?_
    rintro e w2 ⟨rfl, rfl⟩
    go_wp2_with fail
    go_ret
    exact ⟨rfl, Below.refl _ _⟩
  · rw [if_neg h]
    obtain ⟨e1, e2⟩ := empty_no h
    clear h
    generalize bs s = S at *
    go_enter Try.func94, Try.ntmps94
    go_wp2_with fail
    with_reducible refine (unless_any _ 1 w).mono ?_
    rintro e w2 ⟨rfl, rfl⟩
    go_wp2_with fail
    go_ret
    exact ⟨rfl, Below.refl _ _⟩
set_option maxHeartbeats 800000 in
theorem location_any {B a : Nat} {x : PV} {part : Int} {lv : Value} {lm : Option Nat} {st : Int} {locs regs : List (List UInt8)} {w : World} (h : Ad B a x part lv lm st locs regs w) (s : List UInt8) (hs : s.length ≤ maxLen) :
    Calls Try.prog 95 #[.pointer (some ⟨a, 0, none⟩), .string (bs s)] w (ErTo (if s ∈ locs then 0 else 4) w) := by
  have HA := Lib.hid (h.hasL s hs)
  by_cases hin : s ∈ locs
  all_goals
    first
      | (rw [if_pos hin]; rw [decide_eq_true hin] at HA)
      | (rw [if_neg hin]; rw [decide_eq_false hin] at HA)
    clear h hin
    generalize bs s = S at *
    go_enter Try.func95, Try.ntmps95
    go_wp2_with fail
    with_reducible refine HA.out.mono ?_
    rintro e w2 ⟨rfl, hb⟩
    go_wp2_with fail
    with_reducible refine (unless_any _ 4 w2).mono ?_
    rintro e w3 ⟨rfl, rfl⟩
    go_wp2_with fail
    go_ret
    exact ⟨rfl, hb⟩
set_option maxHeartbeats 800000 in
theorem value_any {B a : Nat} {x : PV} {part : Int} {lv : Value} {lm : Option Nat} {st : Int} {locs regs : List (List UInt8)} {w : World} (h : Ad B a x part lv lm st locs regs w) (n : Int) :
    Calls Try.prog 58 #[.pointer (some ⟨a, 0, none⟩), .int .i64 n] w (fun e w' => e = .returned (.bool (decide (0 ≤ n ∧ n < x.vals))) ∧ w = w') := by
  obtain ⟨rv, rm, h1, _⟩ := h
  have c1 := h1.cell 1
  have c1' : w.cell? ⟨a, 1, none⟩ = some (.int .i64 x.vals) := c1
  generalize x.vals = V at *
  clear c1 h1
  by_cases h0 : 0 ≤ n
  · by_cases h2 : n < V
    · rw [decide_eq_true (show 0 ≤ n ∧ n < V from ⟨h0, h2⟩)]
      go_enter Try.func58, Try.ntmps58
      go_wp2_with fail
      go_ret
      exact ⟨rfl, rfl⟩
    · rw [decide_eq_false (show ¬ (0 ≤ n ∧ n < V) from fun hh => h2 hh.2)]
      go_enter Try.func58, Try.ntmps58
      go_wp2_with fail
      go_ret
      exact ⟨rfl, rfl⟩
  · rw [decide_eq_false (show ¬ (0 ≤ n ∧ n < V) from fun hh => h0 hh.1)]
    go_enter Try.func58, Try.ntmps58
    go_wp2_with fail
    go_ret
    exact ⟨rfl, rfl⟩

set_option maxHeartbeats 3200000 in
theorem register_any {B a : Nat} {x : PV} {part : Int} {lv : Value} {lm : Option Nat} {st : Int} {locs regs : List (List UInt8)} {w : World} (h : Ad B a x part lv lm st locs regs w) (s : List UInt8) (hs : s.length ≤ maxLen) (hrl : regs.length ≤ 1000000) :
    Calls Try.prog 93 #[.pointer (some ⟨a, 0, none⟩), .string (bs s)] w (ErTo (if nameB s = false ∨ s ∈ locs then 4 else if s ∈ regs ∨ regs.length < 4 then 0 else 3) w) := by
  have hsz : (bs s).size ≤ maxLen := by rw [bs_size]; exact hs
  have hnm := name_any (bs s) w hsz
  rw [by_bs] at hnm
  have HL := Lib.hid (h.hasL s hs)
  have HR := Lib.hid (fun w' (hb : Below w.heap.size w w') => (h.below hb).hasR s hs)
  have HAd := Lib.hid h
  clear h hsz hs
  cases hn : nameB s
  · rw [hn] at hnm
    have HNM := Lib.hid hnm
    rw [if_pos (.inl rfl)]
    clear hn hnm HL HR
    generalize bs s = S at *
    go_enter Try.func93, Try.ntmps93
    go_wp2_with fail
    with_reducible refine HNM.out.mono ?_
    rintro e w2 ⟨rfl, rfl⟩
    go_wp2_with fail
    go_ret
    exact ⟨rfl, Below.refl _ _⟩
  · rw [hn] at hnm
    have HNM := Lib.hid hnm
    clear hn hnm
    by_cases hl : s ∈ locs
    · rw [if_pos (.inr hl)]
      rw [decide_eq_true hl] at HL
      clear hl HR
      generalize bs s = S at *
      go_enter Try.func93, Try.ntmps93
      go_wp2_with fail
      with_reducible refine HNM.out.mono ?_
      rintro e w2 ⟨rfl, rfl⟩
      go_wp2_with fail
      with_reducible refine HL.out.mono ?_
      rintro e w3 ⟨rfl, hb3⟩
      go_wp2_with fail
      go_ret
      exact ⟨rfl, hb3⟩
    · rw [if_neg (by rintro (h | h); cases h; exact hl h)]
      rw [decide_eq_false hl] at HL
      clear hl
      by_cases hr : s ∈ regs
      · rw [if_pos (.inl hr)]
        rw [decide_eq_true hr] at HR
        clear hr
        generalize bs s = S at *
        go_enter Try.func93, Try.ntmps93
        go_wp2_with fail
        with_reducible refine HNM.out.mono ?_
        rintro e w2 ⟨rfl, rfl⟩
        go_wp2_with fail
        with_reducible refine HL.out.mono ?_
        rintro e w3 ⟨rfl, hb3⟩
        have HR3 := Lib.hid (HR.out w3 hb3)
        have HB3 := Lib.hid hb3
        clear hb3 HR
        go_wp2_with fail
        with_reducible refine HR3.out.mono ?_
        rintro e w4 ⟨rfl, hb4⟩
        go_wp2_with fail
        with_reducible refine (unless_any _ 3 w4).mono ?_
        rintro e w5 ⟨rfl, rfl⟩
        go_wp2_with fail
        go_ret
        exact ⟨rfl, HB3.out.trans (hb4.mono HB3.out.size)⟩
      · rw [decide_eq_false hr] at HR
        have HRN := Lib.hid hr
        clear hr
        generalize bs s = S at *
        by_cases h4 : regs.length < 4
        all_goals
          first
            | (rw [if_pos (.inr h4)]; have d1 : decide ((regs.length : Int) < 4) = true := decide_eq_true (by omega); have d2 : decide (regs.length < 4) = true := decide_eq_true (by omega))
            | (rw [if_neg (fun hh => hh.elim HRN.out h4)]; have d1 : decide ((regs.length : Int) < 4) = false := decide_eq_false (by omega); have d2 : decide (regs.length < 4) = false := decide_eq_false (by omega))
          go_enter Try.func93, Try.ntmps93
          go_wp2_with fail
          with_reducible refine HNM.out.mono ?_
          rintro e w2 ⟨rfl, rfl⟩
          go_wp2_with fail
          with_reducible refine HL.out.mono ?_
          rintro e w3 ⟨rfl, hb3⟩
          have HR3 := Lib.hid (HR.out w3 hb3)
          have HB3 := Lib.hid hb3
          clear hb3
          go_wp2_with fail
          with_reducible refine HR3.out.mono ?_
          rintro e w4 ⟨rfl, hb4⟩
          have HB4 := Lib.hid (HB3.out.trans (hb4.mono HB3.out.size))
          obtain ⟨rv, rm, g1, g2, _⟩ := HAd.out.below HB4.out
          obtain ⟨ra, rc, rfl⟩ := slice_of_own g2.row
          have c13 := g1.cell 13
          have c13' : w4.cell? ⟨a, 13, none⟩ = some (.slice ra regs.length rc) := c13
          clear c13 g1 g2 hb4
          go_wp2_with fail
          with_reducible refine (unless_any _ 3 w4).mono ?_
          rintro e w5 ⟨rfl, rfl⟩
          go_wp2_with fail
          go_ret
          exact ⟨rfl, HB4.out⟩
end Go.Proofs.Ytlgnagmmljdkiab.Lx
