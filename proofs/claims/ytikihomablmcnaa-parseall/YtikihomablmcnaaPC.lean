/-
  What sum of the document's cursor tells, as a contract.
-/
import Derived.Test.YtikihomablmcnaaPB
import Derived.Deep.RegionWith
namespace Go.Proofs.Ytikihomablmcnaa.Lx
open Go.RowKit
open L (Tok)
open P (EX)
set_option maxRecDepth 100000
set_option linter.unusedVariables false
set_option linter.unusedSimpArgs false
/-- What was read, whether it goes on or not. -/
def RX (Q : Nat → Prop) (w' : World) (v : Value) (TS : List Tok) (k k2 : Nat) (bad : Int) : P.Res EX → Prop
  | .ok (x, ts) => LX Q w' v x ∧ ts = TS.drop k2 ∧ k < k2 ∧ bad = -1
  | .error p => bad = (p : Nat)
def BothX (C g cap : Nat) (TS : List Tok) (pv : Value) (k : Nat) (r : P.Res EX) (w : World) (e : Ending) (w' : World) : Prop :=
  ∃ (o m : Int) (s : ByteArray) (a : Option Addr) (n c k2 : Nat) (bad : Int), e = .returned (.agg #[.int .i64 o, .int .i64 m, .string s, .slice a n c]) ∧ k ≤ k2 ∧ Cur w' C g cap TS pv k2 bad ∧ Only (· = C) w w' ∧ RX (From w.heap.size) w' (.agg #[.int .i64 o, .int .i64 m, .string s, .slice a n c]) TS k k2 bad r
theorem both_of {C g cap : Nat} {TS : List Tok} {pv : Value} {k : Nat} {r : P.Res EX} {w w' : World} {e : Ending} (h : XTo C g cap TS pv k r w e w') : BothX C g cap TS pv k r w e w' := by
  rcases r with p | ⟨x, ts⟩
  · obtain ⟨v, k', rfl, ⟨o, m, s, a, n, c, rfl⟩, hk, hc, ho⟩ := h
    exact ⟨o, m, s, a, n, c, k', _, rfl, hk, hc, ho, rfl⟩
  · obtain ⟨v, k', rfl, hx, hd, hk, hc, ho⟩ := h
    obtain ⟨o, m, s, a, n, c, rfl⟩ := hx.any
    exact ⟨o, m, s, a, n, c, k', _, rfl, by omega, hc, ho, hx, hd, hk, rfl⟩
/-- Where a cursor is. -/
def mAt (C : Nat) (w : World) : Nat :=
  match w.cell? ⟨C, 1, none⟩ with
  | some (.int _ i) => i.toNat
  | _ => 0
theorem Cur.mAt {w : World} {C g cap : Nat} {TS : List Tok} {pv : Value} {k : Nat} {bad : Int} (h : Cur w C g cap TS pv k bad) : mAt C w = k := by
  unfold Lx.mAt
  rw [h.cells.2.1]
  simp
/-- Blocks behind R but E. -/
def Sm (R E g : Nat) : Prop := R < g ∧ g ≠ E
/-- What a round of sum leaves: E has the expression so far. -/
def SumR (C g cap : Nat) (TS : List Tok) (pv : Value) (k E R : Nat) (rec : List Tok → P.Res EX) (w0 : World) (wr : World) : Prop :=
  ∃ (o m : Int) (s : ByteArray) (a : Option Addr) (n c k2 : Nat) (bad : Int), Blk wr E 93 #[.int .i64 o, .int .i64 m, .string s, .slice a n c] ∧ Blk wr R 93 zx ∧ Cur wr C g cap TS pv k2 bad ∧ Only (· = C) w0 wr ∧ k ≤ k2 ∧
    ((bad = -1 ∧ k < k2 ∧ ∃ x f, LX (Sm R E) wr (.agg #[.int .i64 o, .int .i64 m, .string s, .slice a n c]) x ∧ TS.length - k2 ≤ f ∧ P.sumF rec (TS.drop k) = P.sumL rec f x (TS.drop k2)) ∨ ∃ p : Nat, bad = (p : Nat) ∧ P.sumF rec (TS.drop k) = .error p)
theorem sumL_stop (rec : List Tok → P.Res EX) (f : Nat) (x : EX) {ts : List Tok} (h : (P.isS [43] ts || P.isS [45] ts) = false) : P.sumL rec f x ts = .ok (x, ts) := by
  cases f with
  | zero => rfl
  | succ f =>
    unfold P.sumL
    rw [h]
    rfl
theorem sumL_more (rec : List Tok → P.Res EX) (f : Nat) (x : EX) {ts : List Tok} (h : (P.isS [43] ts || P.isS [45] ts) = true) : P.sumL rec (f + 1) x ts = (match P.atomF rec ts.tail with
      | .error p => .error p
      | .ok (a, r) => P.sumL rec f (.mk (if P.isS [45] ts then 4 else 3) 0 [] [x, a]) r) := by
  conv => lhs; unfold P.sumL
  rw [h, if_pos rfl]
  rfl
theorem sum_round {C g cap : Nat} {TS : List Tok} {pv : Value} {k E k2 k7 n c n7 c7 f : Nat} {rec : List Tok → P.Res EX} {w w6 w7 : World} {x : EX} {o m o7 m7 bad7 : Int} {s s7 : ByteArray} {a a7 : Option Addr} {op : Int}
    (hop : op = if P.isS [45] (TS.drop k2) then 4 else 3) (hCl : C < w.heap.size) (hgl : g < w.heap.size) (hE : w.heap.size < E) (hk2 : k < k2) (hq1 : k2 + 1 < TS.length) (hb : (P.isS [43] (TS.drop k2) || P.isS [45] (TS.drop k2)) = true)
    (hf : TS.length - k2 ≤ f) (hS : P.sumF rec (TS.drop k) = P.sumL rec f x (TS.drop k2)) (hO6 : Only (· = C) w w6) (hE6 : Blk w6 E 93 #[.int .i64 o, .int .i64 m, .string s, .slice a n c]) (hR6 : Blk w6 w.heap.size 93 zx) (hX6 : LX (Sm w.heap.size E) w6 (.agg #[.int .i64 o, .int .i64 m, .string s, .slice a n c]) x)
    (hk7 : k2 + 1 ≤ k7) (hc7 : Cur w7 C g cap TS pv k7 bad7) (ho7 : Only (· = C) w6.drew w7) (hx7 : RX (From w6.drew.heap.size) w7 (.agg #[.int .i64 o7, .int .i64 m7, .string s7, .slice a7 n7 c7]) TS (k2 + 1) k7 bad7 (P.atomF rec (TS.drop (k2 + 1)))) :
    SumR C g cap TS pv k E w.heap.size rec w (((((w7.setCell ⟨E, 0, none⟩ (.int .i64 op)).setCell ⟨E, 1, none⟩ (.int .i64 0)).setCell ⟨E, 2, none⟩ (.string ⟨#[]⟩)).setCell ⟨E, 3, none⟩ (.slice (some ⟨w7.heap.size, 0, none⟩) 2 2)).alloc (.cells #[.int .i64 o, .int .i64 m, .string s, .slice a n c, .int .i64 o7, .int .i64 m7, .string s7, .slice a7 n7 c7] 93)) ∧ mAt C (((((w7.setCell ⟨E, 0, none⟩ (.int .i64 op)).setCell ⟨E, 1, none⟩ (.int .i64 0)).setCell ⟨E, 2, none⟩ (.string ⟨#[]⟩)).setCell ⟨E, 3, none⟩ (.slice (some ⟨w7.heap.size, 0, none⟩) 2 2)).alloc (.cells #[.int .i64 o, .int .i64 m, .string s, .slice a n c, .int .i64 o7, .int .i64 m7, .string s7, .slice a7 n7 c7] 93)) = k7 := by
  have hEl := hE6.lt
  have ho7' : Only (· = C) w6 w7 := ((Only.refl (· = C) w6).drew).trans ho7
  have hs7 := ho7'.size
  have hE7 := hE6.only ho7' (by omega)
  have hR7 := hR6.only ho7' (by omega)
  have hX7 := hX6.keep (Keeps.only ho7' (by intro q hq e; have := hq.1; omega))
  have hp4 : Only (fun b => b = E) w7 ((((w7.setCell ⟨E, 0, none⟩ (.int .i64 op)).setCell ⟨E, 1, none⟩ (.int .i64 0)).setCell ⟨E, 2, none⟩ (.string ⟨#[]⟩)).setCell ⟨E, 3, none⟩ (.slice (some ⟨w7.heap.size, 0, none⟩) 2 2)) := Only.put4 (Only.refl (fun b => b = E) w7) (.inl rfl) _ _ _ _
  have hO8 := Only.put4 (hO6.trans ho7') (R := E) (.inr (by omega)) (.int .i64 op) (.int .i64 0) (.string ⟨#[]⟩) (.slice (some ⟨w7.heap.size, 0, none⟩) 2 2)
  have hsz : ((((w7.setCell ⟨E, 0, none⟩ (.int .i64 op)).setCell ⟨E, 1, none⟩ (.int .i64 0)).setCell ⟨E, 2, none⟩ (.string ⟨#[]⟩)).setCell ⟨E, 3, none⟩ (.slice (some ⟨w7.heap.size, 0, none⟩) 2 2)).heap.size = w7.heap.size := by simp [World.setCell]
  have hbP := put4 (a' := .int .i64 op) (b' := .int .i64 0) (c' := .string ⟨#[]⟩) (d' := .slice (some ⟨w7.heap.size, 0, none⟩) 2 2) hE7
  generalize (((w7.setCell ⟨E, 0, none⟩ (.int .i64 op)).setCell ⟨E, 1, none⟩ (.int .i64 0)).setCell ⟨E, 2, none⟩ (.string ⟨#[]⟩)).setCell ⟨E, 3, none⟩ (.slice (some ⟨w7.heap.size, 0, none⟩) 2 2) = w8 at *
  have hK := Blk.new w8 93 #[.int .i64 o, .int .i64 m, .string s, .slice a n c, .int .i64 o7, .int .i64 m7, .string s7, .slice a7 n7 c7]
  have hb9 : Below w8.heap.size w8 (w8.alloc (.cells #[.int .i64 o, .int .i64 m, .string s, .slice a n c, .int .i64 o7, .int .i64 m7, .string s7, .slice a7 n7 c7] 93)) := (Below.refl _ _).alloc (Nat.le_refl _) _
  generalize w8.alloc (.cells #[.int .i64 o, .int .i64 m, .string s, .slice a n c, .int .i64 o7, .int .i64 m7, .string s7, .slice a7 n7 c7] 93) = w9 at *
  have hC9 := (hc7.other hp4 (by omega) (by omega)).below hb9
  have hR9 := (hR7.only hp4 (by omega)).live' hb9
  have hE9 := hbP.live' hb9
  have hX9 := (hX7.keep (Keeps.only hp4 (by intro q hq e; exact hq.2 e))).keep (Keeps.below hb9 (Nat.le_refl _))
  have hO9 : Only (· = C) w w9 := hO8.trans (Only.of_below hb9)
  rw [hsz] at hK
  obtain ⟨f', rfl⟩ : ∃ f', f = f' + 1 := ⟨f - 1, by omega⟩
  have hmo := sumL_more rec f' x hb
  rw [List.tail_drop] at hmo
  refine ⟨⟨op, 0, ⟨#[]⟩, some ⟨w7.heap.size, 0, none⟩, 2, 2, k7, bad7, hE9, hR9, hC9, hO9, by omega, ?_⟩, hC9.mAt⟩
  cases hat : P.atomF rec (TS.drop (k2 + 1)) with
  | error p =>
    rw [hat] at hx7 hmo
    exact .inr ⟨p, hx7, by rw [hS, hmo]⟩
  | ok y =>
    obtain ⟨y, ts⟩ := y
    rw [hat] at hx7 hmo
    obtain ⟨hy, hts, hkk, hbd⟩ := hx7
    have hY := LX.mono (Q := From w6.drew.heap.size) (Q' := Sm w.heap.size E) (by
      intro q hq _
      have h1 : w6.heap.size ≤ q := hq
      exact ⟨by omega, by omega⟩) _ hy
    have hY9 := (hY.keep (Keeps.only hp4 (by intro q hq e; exact hq.2 e))).keep (Keeps.below hb9 (Nat.le_refl _))
    refine .inl ⟨hbd, by omega, .mk op 0 [] [x, y], f', lx_two (s := []) ⟨by omega, by omega⟩ hK hX9 hY9, by omega, ?_⟩
    rw [hS, hmo, ← hop, ← hts]
set_option maxHeartbeats 3200000 in
theorem sum_live (C g cap : Nat) (TS : List Tok) (pv : Value) (k : Nat) (rec : List Tok → P.Res EX) (w : World) (h : Cur w C g cap TS pv k (-1)) (hr : Reads C g cap TS pv (k + 1) 92 rec) :
    Calls Try.prog 108 #[.pointer (some ⟨C, 0, none⟩)] w (XTo C g cap TS pv k (P.sumF rec (TS.drop k)) w) := by
  have hlt := h.lt
  have hmx := h.max
  obtain ⟨hCl, hgl⟩ := h.lts
  have HC := Lib.hid h
  have HR := Lib.hid hr
  have HAT := Lib.hid (fun k' w' (hk : k ≤ k') (hc : Cur w' C g cap TS pv k' (-1)) => (atom_live C g cap TS pv k' rec w' hc (hr.later (by omega))).mono fun e w'' hh => both_of hh)
  clear h hr
  go_enter Try.func108, Try.ntmps108
  go_wp2_with fail
  have HC0 := Lib.hid (HC.out.below (w' := w.alloc (.cells zx 93)) ((Below.refl _ _).alloc (Nat.le_refl _) _))
  have HO0 := Lib.hid ((Only.refl (· = C) w).alloc (.cells zx 93))
  have HB0 := Lib.hid (Blk.new w 93 zx)
  have hsA : w.heap.size < (w.alloc (.cells zx 93)).heap.size := HB0.out.lt
  generalize w.alloc (.cells zx 93) = w0 at *
  with_reducible refine (HAT.out k _ (Nat.le_refl _) HC0.out).mono ?_
  rintro e w1 ⟨o, m, s, a, n, c, k1, bad1, rfl, hk1, hc1, ho1, hx1⟩
  have HB1 := Lib.hid (HB0.out.only ho1 (by omega))
  have HO1 := Lib.hid (HO0.out.trans ho1)
  have hs1 := ho1.size
  have HC1 := Lib.hid hc1
  have HX1 := Lib.hid hx1
  clear hc1 ho1 hx1
  go_wp2_with fail
  have HC2 := Lib.hid (HC1.out.below (w' := w1.alloc (.cells #[.int .i64 o, .int .i64 m, .string s, .slice a n c] 93)) ((Below.refl _ _).alloc (Nat.le_refl _) _))
  have HO2 := Lib.hid (HO1.out.alloc (.cells #[.int .i64 o, .int .i64 m, .string s, .slice a n c] 93))
  have HB2 := Lib.hid (HB1.out.alloc (.cells #[.int .i64 o, .int .i64 m, .string s, .slice a n c] 93))
  have HE2 := Lib.hid (Blk.new w1 93 #[.int .i64 o, .int .i64 m, .string s, .slice a n c])
  have HK2 := Lib.hid (show Keeps (fun _ => True) w1 (w1.alloc (.cells #[.int .i64 o, .int .i64 m, .string s, .slice a n c] 93)) from Keeps.below ((Below.refl _ _).alloc (Nat.le_refl _) _) (Nat.le_refl _))
  have H0 : Hid (SumR C g cap TS pv k w1.heap.size w.heap.size rec w (w1.alloc (.cells #[.int .i64 o, .int .i64 m, .string s, .slice a n c] 93))) := by
    refine Lib.hid ⟨o, m, s, a, n, c, k1, bad1, HE2.out, HB2.out, HC2.out, HO2.out, hk1, ?_⟩
    have hx := HX1.out
    cases hat : P.atomF rec (TS.drop k) with
    | error p =>
      rw [hat] at hx
      refine .inr ⟨p, hx, ?_⟩
      unfold P.sumF
      rw [hat]
    | ok x =>
      obtain ⟨x, ts⟩ := x
      rw [hat] at hx
      obtain ⟨hx, hts, hkk, hbd⟩ := hx
      refine .inl ⟨hbd, hkk, x, ts.length, LX.keep (w := w1) (fun q hq hl => HK2.out q trivial hl) _ (LX.mono (Q := From w0.heap.size) (by intro q hq hl; unfold From at hq; exact ⟨by omega, by omega⟩) _ hx), by rw [hts, List.length_drop]; omega, ?_⟩
      conv => lhs; unfold P.sumF
      rw [hat, hts]
  have hE : w.heap.size < w1.heap.size := by omega
  generalize hw2 : w1.alloc (.cells #[.int .i64 o, .int .i64 m, .string s, .slice a n c] 93) = w2 at *
  generalize w1.heap.size = E at *
  clear HC1 HX1 HC2 HO2 HB2 HE2 HK2 hw2 HO1 HB1 HC0 HO0 HB0 hs1
  go_wp2_with fail
  go_loopw [4] (fun _ wr => SumR C g cap TS pv k E w.heap.size rec w wr) (fun _ wr => TS.length - mAt C wr)
  case atStart => exact H0.out
  case round =>
    obtain ⟨o, m, s, a, n, c, k2, bad, hE2, hR2, hc2, ho2, hkk, hcase⟩ := hrel
    have HE := Lib.hid hE2
    have HRB := Lib.hid hR2
    have HC2 := Lib.hid hc2
    have HO2 := Lib.hid ho2
    have HM0 := Lib.hid hc2.mAt
    clear hE2 hR2 hc2 ho2
    rcases hcase with ⟨rfl, hk2, x, f, hlx, hf, hsum⟩ | ⟨p, rfl, hsum⟩
    · have HLX := Lib.hid hlx
      have HS := Lib.hid hsum
      clear hlx hsum
      cases h43 : P.isS [43] (TS.drop k2)
      · have H43 := Lib.hid h43
        clear h43
        cases h45 : P.isS [45] (TS.drop k2)
        · have H45 := Lib.hid h45
          clear h45
          go_wp2_with fail
          with_reducible refine (is_live C g cap TS pv k2 ⟨#[43]⟩ _ HC2.out).mono ?_
          rintro e wi ⟨rfl, hbi⟩
          rw [show by' (⟨#[43]⟩ : ByteArray) = [43] from rfl, H43.out]
          have HC2 := Lib.hid (HC2.out.below hbi)
          have HO2 := Lib.hid (HO2.out.trans (Only.of_below hbi))
          have HE := Lib.hid (HE.out.live' hbi)
          have HRB := Lib.hid (HRB.out.live' hbi)
          have HLX := Lib.hid (HLX.out.keep (Keeps.below hbi (Nat.le_refl _)))
          clear hbi
          go_wp2_with fail
          with_reducible refine (is_live C g cap TS pv k2 ⟨#[45]⟩ _ HC2.out).mono ?_
          rintro e wi ⟨rfl, hbi⟩
          rw [show by' (⟨#[45]⟩ : ByteArray) = [45] from rfl, H45.out]
          have HC2 := Lib.hid (HC2.out.below hbi)
          have HO2 := Lib.hid (HO2.out.trans (Only.of_below hbi))
          have HE := Lib.hid (HE.out.live' hbi)
          have HRB := Lib.hid (HRB.out.live' hbi)
          have HLX := Lib.hid (HLX.out.keep (Keeps.below hbi (Nat.le_refl _)))
          clear hbi
          have HST := Lib.hid (show P.sumF rec (TS.drop k) = .ok (x, TS.drop k2) by rw [HS.out]; exact sumL_stop rec f x (by rw [H43.out, H45.out]; rfl))
          obtain ⟨c0, c1, c2, c3, f0, f1, f2, f3⟩ := four_free HRB.out
          obtain ⟨d0, d1, d2, d3, _, _, _, _⟩ := four_free HE.out
          go_wp2_with fail
          refine bodyPost_ret (results_cell_row (p := 2) rfl _ _ w.heap.size 93 #[.int .i64 o, .int .i64 m, .string s, .slice a n c] (0, 0) _ rfl (put4 HRB.out) Try.underlying93 rfl (by kernel_rfl)) rfl ?_
          rw [HST.out]
          exact ⟨_, k2, rfl, LX.mono (Q := Sm w.heap.size E) (by intro q hq _; have := hq.1; show w.heap.size ≤ q; omega) _ (HLX.out.keep (Keeps.only (S := fun b => b = w.heap.size) (Only.put4 (Only.refl (fun b => b = w.heap.size) _) (.inl rfl) _ _ _ _) (by intro q hq e; have := hq.1; omega))), rfl, hk2, HC2.out.put4 (by omega) (by omega) _ _ _ _, Only.put4 HO2.out (.inr (Nat.le_refl _)) _ _ _ _⟩
        · have H45 := Lib.hid h45
          clear h45
          have hq1 : k2 + 1 < TS.length := HC2.out.more (isS_kind (s := [45]) (by rw [← drop_tat HC2.out.lt]; exact H45.out))
          go_wp2_with fail
          with_reducible refine (is_live C g cap TS pv k2 ⟨#[43]⟩ _ HC2.out).mono ?_
          rintro e wi ⟨rfl, hbi⟩
          rw [show by' (⟨#[43]⟩ : ByteArray) = [43] from rfl, H43.out]
          have HC2 := Lib.hid (HC2.out.below hbi)
          have HO2 := Lib.hid (HO2.out.trans (Only.of_below hbi))
          have HE := Lib.hid (HE.out.live' hbi)
          have HRB := Lib.hid (HRB.out.live' hbi)
          have HLX := Lib.hid (HLX.out.keep (Keeps.below hbi (Nat.le_refl _)))
          clear hbi
          go_wp2_with fail
          with_reducible refine (is_live C g cap TS pv k2 ⟨#[45]⟩ _ HC2.out).mono ?_
          rintro e wi ⟨rfl, hbi⟩
          rw [show by' (⟨#[45]⟩ : ByteArray) = [45] from rfl, H45.out]
          have HC2 := Lib.hid (HC2.out.below hbi)
          have HO2 := Lib.hid (HO2.out.trans (Only.of_below hbi))
          have HE := Lib.hid (HE.out.live' hbi)
          have HRB := Lib.hid (HRB.out.live' hbi)
          have HLX := Lib.hid (HLX.out.keep (Keeps.below hbi (Nat.le_refl _)))
          clear hbi
          go_wp2_with fail
          with_reducible refine (is_live C g cap TS pv k2 ⟨#[45]⟩ _ HC2.out).mono ?_
          rintro e wi ⟨rfl, hbi⟩
          rw [show by' (⟨#[45]⟩ : ByteArray) = [45] from rfl, H45.out]
          have HC2 := Lib.hid (HC2.out.below hbi)
          have HO2 := Lib.hid (HO2.out.trans (Only.of_below hbi))
          have HE := Lib.hid (HE.out.live' hbi)
          have HRB := Lib.hid (HRB.out.live' hbi)
          have HLX := Lib.hid (HLX.out.keep (Keeps.below hbi (Nat.le_refl _)))
          clear hbi
          have HU := Lib.hid (fun (f' : Nat) (hf' : f = f' + 1) => sumL_more rec f' x (ts := TS.drop k2) (by rw [H43.out, H45.out]; rfl))
          obtain ⟨b0, b1, b2, b3, fb1, _, _⟩ := HC2.out.cells
          go_upto_region 7 with (fail)
          have HC6 := Lib.hid (HC2.out.step hq1)
          have HO6 := Lib.hid (HO2.out.trans (Only.step (.int .i64 ((k2 : Int) + 1))))
          have HE6 := Lib.hid (HE.out.only (Only.step (C := C) (.int .i64 ((k2 : Int) + 1))) (by omega))
          have HR6 := Lib.hid (HRB.out.only (Only.step (C := C) (.int .i64 ((k2 : Int) + 1))) (by omega))
          have HX6 := Lib.hid (HLX.out.keep (Keeps.only (Only.step (C := C) (.int .i64 ((k2 : Int) + 1))) (by intro q hq e; have := hq.1; omega)))
          clear b0 b1 b2 b3 fb1
          generalize World.setCell _ ⟨C, 1, none⟩ (.int .i64 ((k2 : Int) + 1)) = w6 at *
          have HAT2 := Lib.hid (fun w' hc => HAT.out (k2 + 1) w' (by omega) hc)
          obtain ⟨d0, d1, d2, d3, g0, g1, g2, g3⟩ := four_free HE6.out
          have hEl := HE6.out.lt
          go_region_with ((go_at_call 115; (with_reducible refine (HAT2.out _ HC6.out.drew).mono ?_); rintro e w7 ⟨o7, m7, s7, a7, n7, c7, k7, bad7, rfl, hk7, hc7, ho7, hx7⟩; have hE7 := (HE6.out.only (S := (· = C)) ((Only.refl (· = C) w6).drew) (by omega)).only ho7 (by omega); have hl7 := hE7.lt; obtain ⟨p0, p1, p2, p3, r0, r1, r2, r3⟩ := four_free hE7))
          all_goals
            go_wp2_with fail
            go_roundw
            case rel => exact (sum_round (by rw [H45.out]; rfl) hCl hgl hE hk2 hq1 (by rw [H43.out, H45.out]; rfl) hf HS.out HO6.out HE6.out HR6.out HX6.out hk7 hc7 ho7 hx7).1
            case measure =>
              rw [(sum_round (by rw [H45.out]; rfl) hCl hgl hE hk2 hq1 (by rw [H43.out, H45.out]; rfl) hf HS.out HO6.out HE6.out HR6.out HX6.out hk7 hc7 ho7 hx7).2, HM0.out]
              omega
      · have H43 := Lib.hid h43
        clear h43
        cases h45 : P.isS [45] (TS.drop k2)
        · have H45 := Lib.hid h45
          clear h45
          have hq1 : k2 + 1 < TS.length := HC2.out.more (isS_kind (s := [43]) (by rw [← drop_tat HC2.out.lt]; exact H43.out))
          go_wp2_with fail
          with_reducible refine (is_live C g cap TS pv k2 ⟨#[43]⟩ _ HC2.out).mono ?_
          rintro e wi ⟨rfl, hbi⟩
          rw [show by' (⟨#[43]⟩ : ByteArray) = [43] from rfl, H43.out]
          have HC2 := Lib.hid (HC2.out.below hbi)
          have HO2 := Lib.hid (HO2.out.trans (Only.of_below hbi))
          have HE := Lib.hid (HE.out.live' hbi)
          have HRB := Lib.hid (HRB.out.live' hbi)
          have HLX := Lib.hid (HLX.out.keep (Keeps.below hbi (Nat.le_refl _)))
          clear hbi
          go_wp2_with fail
          with_reducible refine (is_live C g cap TS pv k2 ⟨#[45]⟩ _ HC2.out).mono ?_
          rintro e wi ⟨rfl, hbi⟩
          rw [show by' (⟨#[45]⟩ : ByteArray) = [45] from rfl, H45.out]
          have HC2 := Lib.hid (HC2.out.below hbi)
          have HO2 := Lib.hid (HO2.out.trans (Only.of_below hbi))
          have HE := Lib.hid (HE.out.live' hbi)
          have HRB := Lib.hid (HRB.out.live' hbi)
          have HLX := Lib.hid (HLX.out.keep (Keeps.below hbi (Nat.le_refl _)))
          clear hbi
          have HU := Lib.hid (fun (f' : Nat) (hf' : f = f' + 1) => sumL_more rec f' x (ts := TS.drop k2) (by rw [H43.out, H45.out]; rfl))
          obtain ⟨b0, b1, b2, b3, fb1, _, _⟩ := HC2.out.cells
          go_upto_region 7 with (fail)
          have HC6 := Lib.hid (HC2.out.step hq1)
          have HO6 := Lib.hid (HO2.out.trans (Only.step (.int .i64 ((k2 : Int) + 1))))
          have HE6 := Lib.hid (HE.out.only (Only.step (C := C) (.int .i64 ((k2 : Int) + 1))) (by omega))
          have HR6 := Lib.hid (HRB.out.only (Only.step (C := C) (.int .i64 ((k2 : Int) + 1))) (by omega))
          have HX6 := Lib.hid (HLX.out.keep (Keeps.only (Only.step (C := C) (.int .i64 ((k2 : Int) + 1))) (by intro q hq e; have := hq.1; omega)))
          clear b0 b1 b2 b3 fb1
          generalize World.setCell _ ⟨C, 1, none⟩ (.int .i64 ((k2 : Int) + 1)) = w6 at *
          have HAT2 := Lib.hid (fun w' hc => HAT.out (k2 + 1) w' (by omega) hc)
          obtain ⟨d0, d1, d2, d3, g0, g1, g2, g3⟩ := four_free HE6.out
          have hEl := HE6.out.lt
          go_region_with ((go_at_call 115; (with_reducible refine (HAT2.out _ HC6.out.drew).mono ?_); rintro e w7 ⟨o7, m7, s7, a7, n7, c7, k7, bad7, rfl, hk7, hc7, ho7, hx7⟩; have hE7 := (HE6.out.only (S := (· = C)) ((Only.refl (· = C) w6).drew) (by omega)).only ho7 (by omega); have hl7 := hE7.lt; obtain ⟨p0, p1, p2, p3, r0, r1, r2, r3⟩ := four_free hE7))
          all_goals
            go_wp2_with fail
            go_roundw
            case rel => exact (sum_round (by rw [H45.out]; rfl) hCl hgl hE hk2 hq1 (by rw [H43.out, H45.out]; rfl) hf HS.out HO6.out HE6.out HR6.out HX6.out hk7 hc7 ho7 hx7).1
            case measure =>
              rw [(sum_round (by rw [H45.out]; rfl) hCl hgl hE hk2 hq1 (by rw [H43.out, H45.out]; rfl) hf HS.out HO6.out HE6.out HR6.out HX6.out hk7 hc7 ho7 hx7).2, HM0.out]
              omega
        · have H45 := Lib.hid h45
          clear h45
          have hq1 : k2 + 1 < TS.length := HC2.out.more (isS_kind (s := [43]) (by rw [← drop_tat HC2.out.lt]; exact H43.out))
          go_wp2_with fail
          with_reducible refine (is_live C g cap TS pv k2 ⟨#[43]⟩ _ HC2.out).mono ?_
          rintro e wi ⟨rfl, hbi⟩
          rw [show by' (⟨#[43]⟩ : ByteArray) = [43] from rfl, H43.out]
          have HC2 := Lib.hid (HC2.out.below hbi)
          have HO2 := Lib.hid (HO2.out.trans (Only.of_below hbi))
          have HE := Lib.hid (HE.out.live' hbi)
          have HRB := Lib.hid (HRB.out.live' hbi)
          have HLX := Lib.hid (HLX.out.keep (Keeps.below hbi (Nat.le_refl _)))
          clear hbi
          go_wp2_with fail
          with_reducible refine (is_live C g cap TS pv k2 ⟨#[45]⟩ _ HC2.out).mono ?_
          rintro e wi ⟨rfl, hbi⟩
          rw [show by' (⟨#[45]⟩ : ByteArray) = [45] from rfl, H45.out]
          have HC2 := Lib.hid (HC2.out.below hbi)
          have HO2 := Lib.hid (HO2.out.trans (Only.of_below hbi))
          have HE := Lib.hid (HE.out.live' hbi)
          have HRB := Lib.hid (HRB.out.live' hbi)
          have HLX := Lib.hid (HLX.out.keep (Keeps.below hbi (Nat.le_refl _)))
          clear hbi
          have HU := Lib.hid (fun (f' : Nat) (hf' : f = f' + 1) => sumL_more rec f' x (ts := TS.drop k2) (by rw [H43.out, H45.out]; rfl))
          obtain ⟨b0, b1, b2, b3, fb1, _, _⟩ := HC2.out.cells
          go_upto_region 7 with (fail)
          have HC6 := Lib.hid (HC2.out.step hq1)
          have HO6 := Lib.hid (HO2.out.trans (Only.step (.int .i64 ((k2 : Int) + 1))))
          have HE6 := Lib.hid (HE.out.only (Only.step (C := C) (.int .i64 ((k2 : Int) + 1))) (by omega))
          have HR6 := Lib.hid (HRB.out.only (Only.step (C := C) (.int .i64 ((k2 : Int) + 1))) (by omega))
          have HX6 := Lib.hid (HLX.out.keep (Keeps.only (Only.step (C := C) (.int .i64 ((k2 : Int) + 1))) (by intro q hq e; have := hq.1; omega)))
          clear b0 b1 b2 b3 fb1
          generalize World.setCell _ ⟨C, 1, none⟩ (.int .i64 ((k2 : Int) + 1)) = w6 at *
          have HAT2 := Lib.hid (fun w' hc => HAT.out (k2 + 1) w' (by omega) hc)
          obtain ⟨d0, d1, d2, d3, g0, g1, g2, g3⟩ := four_free HE6.out
          have hEl := HE6.out.lt
          go_region_with ((go_at_call 115; (with_reducible refine (HAT2.out _ HC6.out.drew).mono ?_); rintro e w7 ⟨o7, m7, s7, a7, n7, c7, k7, bad7, rfl, hk7, hc7, ho7, hx7⟩; have hE7 := (HE6.out.only (S := (· = C)) ((Only.refl (· = C) w6).drew) (by omega)).only ho7 (by omega); have hl7 := hE7.lt; obtain ⟨p0, p1, p2, p3, r0, r1, r2, r3⟩ := four_free hE7))
          all_goals
            go_wp2_with fail
            go_roundw
            case rel => exact (sum_round (by rw [H45.out]; rfl) hCl hgl hE hk2 hq1 (by rw [H43.out, H45.out]; rfl) hf HS.out HO6.out HE6.out HR6.out HX6.out hk7 hc7 ho7 hx7).1
            case measure =>
              rw [(sum_round (by rw [H45.out]; rfl) hCl hgl hE hk2 hq1 (by rw [H43.out, H45.out]; rfl) hf HS.out HO6.out HE6.out HR6.out HX6.out hk7 hc7 ho7 hx7).2, HM0.out]
              omega
    · have HS := Lib.hid hsum
      clear hsum
      go_wp2_with fail
      with_reducible refine (is_dead C g cap TS pv k2 p ⟨#[43]⟩ _ HC2.out (by omega)).mono ?_
      rintro e w3 ⟨rfl, hb3⟩
      have HC3 := Lib.hid (HC2.out.below hb3)
      go_wp2_with fail
      with_reducible refine (is_dead C g cap TS pv k2 p ⟨#[45]⟩ _ HC3.out (by omega)).mono ?_
      rintro e w4 ⟨rfl, hb4⟩
      have HC4 := Lib.hid (HC3.out.below hb4)
      have HO4 := Lib.hid ((HO2.out.trans (Only.of_below hb3)).trans (Only.of_below hb4))
      have HE4 := Lib.hid ((HE.out.live' hb3).live' hb4)
      have HR4 := Lib.hid ((HRB.out.live' hb3).live' hb4)
      clear hb3 hb4
      obtain ⟨c0, c1, c2, c3, f0, f1, f2, f3⟩ := four_free HR4.out
      obtain ⟨d0, d1, d2, d3, _, _, _, _⟩ := four_free HE4.out
      go_wp2_with fail
      refine bodyPost_ret (results_cell_row (p := 2) rfl _ _ w.heap.size 93 #[.int .i64 o, .int .i64 m, .string s, .slice a n c] (0, 0) _ rfl (put4 HR4.out) Try.underlying93 rfl (by kernel_rfl)) rfl ?_
      rw [HS.out]
      exact ⟨_, k2, rfl, ⟨_, _, _, _, _, _, rfl⟩, hkk, HC4.out.put4 (by omega) (by omega) _ _ _ _, Only.put4 HO4.out (.inr (Nat.le_refl _)) _ _ _ _⟩
end Go.Proofs.Ytikihomablmcnaa.Lx
/-
  What sum (where nothing goes on) and expr of the document's cursor tell, as contracts.
-/
namespace Go.Proofs.Ytikihomablmcnaa.Lx
open Go.RowKit
open L (Tok)
open P (EX)
set_option maxRecDepth 100000
set_option linter.unusedVariables false
set_option linter.unusedSimpArgs false
/-- Two expressions become one: what is known behind it. -/
theorem pair_round {C g cap : Nat} {TS : List Tok} {pv : Value} {E k7 n c n7 c7 : Nat} {w w6 w7 : World} {x : EX} {o m o7 m7 bad7 : Int} {s s7 : ByteArray} {a a7 : Option Addr} (op : Int)
    (hCl : C < w.heap.size) (hgl : g < w.heap.size) (hE : w.heap.size < E) (hO6 : Only (· = C) w w6) (hE6 : Blk w6 E 93 #[.int .i64 o, .int .i64 m, .string s, .slice a n c]) (hR6 : Blk w6 w.heap.size 93 zx) (hX6 : LX (Sm w.heap.size E) w6 (.agg #[.int .i64 o, .int .i64 m, .string s, .slice a n c]) x)
    (hc7 : Cur w7 C g cap TS pv k7 bad7) (ho7 : Only (· = C) w6.drew w7) :
    Blk (((((w7.setCell ⟨E, 0, none⟩ (.int .i64 op)).setCell ⟨E, 1, none⟩ (.int .i64 0)).setCell ⟨E, 2, none⟩ (.string ⟨#[]⟩)).setCell ⟨E, 3, none⟩ (.slice (some ⟨w7.heap.size, 0, none⟩) 2 2)).alloc (.cells #[.int .i64 o, .int .i64 m, .string s, .slice a n c, .int .i64 o7, .int .i64 m7, .string s7, .slice a7 n7 c7] 93)) E 93 #[.int .i64 op, .int .i64 0, .string ⟨#[]⟩, .slice (some ⟨w7.heap.size, 0, none⟩) 2 2] ∧ Blk (((((w7.setCell ⟨E, 0, none⟩ (.int .i64 op)).setCell ⟨E, 1, none⟩ (.int .i64 0)).setCell ⟨E, 2, none⟩ (.string ⟨#[]⟩)).setCell ⟨E, 3, none⟩ (.slice (some ⟨w7.heap.size, 0, none⟩) 2 2)).alloc (.cells #[.int .i64 o, .int .i64 m, .string s, .slice a n c, .int .i64 o7, .int .i64 m7, .string s7, .slice a7 n7 c7] 93)) w.heap.size 93 zx ∧ Cur (((((w7.setCell ⟨E, 0, none⟩ (.int .i64 op)).setCell ⟨E, 1, none⟩ (.int .i64 0)).setCell ⟨E, 2, none⟩ (.string ⟨#[]⟩)).setCell ⟨E, 3, none⟩ (.slice (some ⟨w7.heap.size, 0, none⟩) 2 2)).alloc (.cells #[.int .i64 o, .int .i64 m, .string s, .slice a n c, .int .i64 o7, .int .i64 m7, .string s7, .slice a7 n7 c7] 93)) C g cap TS pv k7 bad7 ∧ Only (· = C) w (((((w7.setCell ⟨E, 0, none⟩ (.int .i64 op)).setCell ⟨E, 1, none⟩ (.int .i64 0)).setCell ⟨E, 2, none⟩ (.string ⟨#[]⟩)).setCell ⟨E, 3, none⟩ (.slice (some ⟨w7.heap.size, 0, none⟩) 2 2)).alloc (.cells #[.int .i64 o, .int .i64 m, .string s, .slice a n c, .int .i64 o7, .int .i64 m7, .string s7, .slice a7 n7 c7] 93)) ∧
      ∀ y, LX (From w6.drew.heap.size) w7 (.agg #[.int .i64 o7, .int .i64 m7, .string s7, .slice a7 n7 c7]) y → LX (Sm w.heap.size E) (((((w7.setCell ⟨E, 0, none⟩ (.int .i64 op)).setCell ⟨E, 1, none⟩ (.int .i64 0)).setCell ⟨E, 2, none⟩ (.string ⟨#[]⟩)).setCell ⟨E, 3, none⟩ (.slice (some ⟨w7.heap.size, 0, none⟩) 2 2)).alloc (.cells #[.int .i64 o, .int .i64 m, .string s, .slice a n c, .int .i64 o7, .int .i64 m7, .string s7, .slice a7 n7 c7] 93)) (.agg #[.int .i64 op, .int .i64 0, .string ⟨#[]⟩, .slice (some ⟨w7.heap.size, 0, none⟩) 2 2]) (.mk op 0 [] [x, y]) := by
  have hEl := hE6.lt
  have ho7' : Only (· = C) w6 w7 := ((Only.refl (· = C) w6).drew).trans ho7
  have hs7 := ho7'.size
  have hE7 := hE6.only ho7' (by omega)
  have hR7 := hR6.only ho7' (by omega)
  have hX7 := hX6.keep (Keeps.only ho7' (by intro q hq e; have := hq.1; omega))
  have hp4 : Only (fun b => b = E) w7 ((((w7.setCell ⟨E, 0, none⟩ (.int .i64 op)).setCell ⟨E, 1, none⟩ (.int .i64 0)).setCell ⟨E, 2, none⟩ (.string ⟨#[]⟩)).setCell ⟨E, 3, none⟩ (.slice (some ⟨w7.heap.size, 0, none⟩) 2 2)) := Only.put4 (Only.refl (fun b => b = E) w7) (.inl rfl) _ _ _ _
  have hO8 := Only.put4 (hO6.trans ho7') (R := E) (.inr (by omega)) (.int .i64 op) (.int .i64 0) (.string ⟨#[]⟩) (.slice (some ⟨w7.heap.size, 0, none⟩) 2 2)
  have hsz : ((((w7.setCell ⟨E, 0, none⟩ (.int .i64 op)).setCell ⟨E, 1, none⟩ (.int .i64 0)).setCell ⟨E, 2, none⟩ (.string ⟨#[]⟩)).setCell ⟨E, 3, none⟩ (.slice (some ⟨w7.heap.size, 0, none⟩) 2 2)).heap.size = w7.heap.size := by simp [World.setCell]
  have hbP := put4 (a' := .int .i64 op) (b' := .int .i64 0) (c' := .string ⟨#[]⟩) (d' := .slice (some ⟨w7.heap.size, 0, none⟩) 2 2) hE7
  generalize (((w7.setCell ⟨E, 0, none⟩ (.int .i64 op)).setCell ⟨E, 1, none⟩ (.int .i64 0)).setCell ⟨E, 2, none⟩ (.string ⟨#[]⟩)).setCell ⟨E, 3, none⟩ (.slice (some ⟨w7.heap.size, 0, none⟩) 2 2) = w8 at *
  have hK := Blk.new w8 93 #[.int .i64 o, .int .i64 m, .string s, .slice a n c, .int .i64 o7, .int .i64 m7, .string s7, .slice a7 n7 c7]
  have hb9 : Below w8.heap.size w8 (w8.alloc (.cells #[.int .i64 o, .int .i64 m, .string s, .slice a n c, .int .i64 o7, .int .i64 m7, .string s7, .slice a7 n7 c7] 93)) := (Below.refl _ _).alloc (Nat.le_refl _) _
  generalize w8.alloc (.cells #[.int .i64 o, .int .i64 m, .string s, .slice a n c, .int .i64 o7, .int .i64 m7, .string s7, .slice a7 n7 c7] 93) = w9 at *
  have hC9 := (hc7.other hp4 (by omega) (by omega)).below hb9
  have hR9 := (hR7.only hp4 (by omega)).live' hb9
  have hE9 := hbP.live' hb9
  have hX9 := (hX7.keep (Keeps.only hp4 (by intro q hq e; exact hq.2 e))).keep (Keeps.below hb9 (Nat.le_refl _))
  have hO9 : Only (· = C) w w9 := hO8.trans (Only.of_below hb9)
  rw [hsz] at hK
  refine ⟨hE9, hR9, hC9, hO9, fun y hy => ?_⟩
  have hY := LX.mono (Q := From w6.drew.heap.size) (Q' := Sm w.heap.size E) (by
    intro q hq _
    have h1 : w6.heap.size ≤ q := hq
    exact ⟨by omega, by omega⟩) _ hy
  have hY9 := (hY.keep (Keeps.only hp4 (by intro q hq e; exact hq.2 e))).keep (Keeps.below hb9 (Nat.le_refl _))
  exact lx_two (s := []) ⟨by omega, by omega⟩ hK hX9 hY9
set_option maxHeartbeats 3200000 in
theorem expr_live (C g cap : Nat) (TS : List Tok) (pv : Value) (k : Nat) (rec : List Tok → P.Res EX) (w : World) (h : Cur w C g cap TS pv k (-1)) (hr : Reads C g cap TS pv (k + 1) 92 rec) :
    Calls Try.prog 92 #[.pointer (some ⟨C, 0, none⟩)] w (XTo C g cap TS pv k (P.exprF rec (TS.drop k)) w) := by
  have hlt := h.lt
  have hmx := h.max
  obtain ⟨hCl, hgl⟩ := h.lts
  have HC := Lib.hid h
  have HAT := Lib.hid (fun k' w' (hk : k ≤ k') (hc : Cur w' C g cap TS pv k' (-1)) => (sum_live C g cap TS pv k' rec w' hc (hr.later (by omega))).mono fun e w'' hh => both_of hh)
  clear h hr
  go_enter Try.func92, Try.ntmps92
  go_wp2_with fail
  have HC0 := Lib.hid (HC.out.below (w' := w.alloc (.cells zx 93)) ((Below.refl _ _).alloc (Nat.le_refl _) _))
  have HO0 := Lib.hid ((Only.refl (· = C) w).alloc (.cells zx 93))
  have HB0 := Lib.hid (Blk.new w 93 zx)
  have hsA : w.heap.size < (w.alloc (.cells zx 93)).heap.size := HB0.out.lt
  generalize w.alloc (.cells zx 93) = w0 at *
  with_reducible refine (HAT.out k _ (Nat.le_refl _) HC0.out).mono ?_
  rintro e w1 ⟨o, m, s, a, n, c, k2, bad, rfl, hk1, hc1, ho1, hx1⟩
  have HB1 := Lib.hid (HB0.out.only ho1 (by omega))
  have HO1 := Lib.hid (HO0.out.trans ho1)
  have hs1 := ho1.size
  have HC1 := Lib.hid hc1
  have HX1 := Lib.hid hx1
  clear hc1 ho1 hx1
  go_wp2_with fail
  have HC2 := Lib.hid (HC1.out.below (w' := w1.alloc (.cells #[.int .i64 o, .int .i64 m, .string s, .slice a n c] 93)) ((Below.refl _ _).alloc (Nat.le_refl _) _))
  have HO2 := Lib.hid (HO1.out.alloc (.cells #[.int .i64 o, .int .i64 m, .string s, .slice a n c] 93))
  have HRB := Lib.hid (HB1.out.alloc (.cells #[.int .i64 o, .int .i64 m, .string s, .slice a n c] 93))
  have HE := Lib.hid (Blk.new w1 93 #[.int .i64 o, .int .i64 m, .string s, .slice a n c])
  have HK2 := Lib.hid (show Keeps (fun _ => True) w1 (w1.alloc (.cells #[.int .i64 o, .int .i64 m, .string s, .slice a n c] 93)) from Keeps.below ((Below.refl _ _).alloc (Nat.le_refl _) _) (Nat.le_refl _))
  have hE : w.heap.size < w1.heap.size := by omega
  cases hsm : P.sumF rec (TS.drop k) with
  | error p =>
    have HST := Lib.hid (show P.exprF rec (TS.drop k) = .error p by unfold P.exprF; rw [hsm])
    have hbd := HX1.out
    rw [hsm] at hbd
    obtain rfl : bad = (p : Nat) := hbd
    clear hsm HX1 HK2
    generalize w1.alloc (.cells #[.int .i64 o, .int .i64 m, .string s, .slice a n c] 93) = w2 at *
    generalize w1.heap.size = E at *
    with_reducible refine (is_dead C g cap TS pv k2 p ⟨#[61, 61]⟩ _ HC2.out (by omega)).mono ?_
    rintro e w3 ⟨rfl, hb3⟩
    have HC3 := Lib.hid (HC2.out.below hb3)
    go_wp2_with fail
    with_reducible refine (is_dead C g cap TS pv k2 p ⟨#[60]⟩ _ HC3.out (by omega)).mono ?_
    rintro e w4 ⟨rfl, hb4⟩
    have HC4 := Lib.hid (HC3.out.below hb4)
    have HO4 := Lib.hid ((HO2.out.trans (Only.of_below hb3)).trans (Only.of_below hb4))
    have HE4 := Lib.hid ((HE.out.live' hb3).live' hb4)
    have HR4 := Lib.hid ((HRB.out.live' hb3).live' hb4)
    clear hb3 hb4
    obtain ⟨c0, c1, c2, c3, f0, f1, f2, f3⟩ := four_free HR4.out
    obtain ⟨d0, d1, d2, d3, _, _, _, _⟩ := four_free HE4.out
    go_wp2_with fail
    refine bodyPost_ret (results_cell_row (p := 2) rfl _ _ w.heap.size 93 #[.int .i64 o, .int .i64 m, .string s, .slice a n c] (0, 0) _ rfl (put4 HR4.out) Try.underlying93 rfl (by kernel_rfl)) rfl ?_
    rw [HST.out]
    exact ⟨_, k2, rfl, ⟨_, _, _, _, _, _, rfl⟩, hk1, HC4.out.put4 (by omega) (by omega) _ _ _ _, Only.put4 HO4.out (.inr (Nat.le_refl _)) _ _ _ _⟩
  | ok y =>
    obtain ⟨x, ts⟩ := y
    have hx := HX1.out
    rw [hsm] at hx
    obtain ⟨hx, hts, hk2, rfl⟩ := hx
    have hlx : LX (Sm w.heap.size w1.heap.size) (w1.alloc (.cells #[.int .i64 o, .int .i64 m, .string s, .slice a n c] 93)) (.agg #[.int .i64 o, .int .i64 m, .string s, .slice a n c]) x := LX.keep (w := w1) (fun q hq hl => HK2.out q trivial hl) _ (LX.mono (Q := From w0.heap.size) (by intro q hq hl; unfold From at hq; exact ⟨by omega, by omega⟩) _ hx)
    have HS := Lib.hid (show P.exprF rec (TS.drop k) = (if P.isS [61, 61] (TS.drop k2) || P.isS [60] (TS.drop k2) then
        match P.sumF rec (TS.drop k2).tail with
        | .error p => .error p
        | .ok (a, r2) => .ok (.mk (if P.isS [60] (TS.drop k2) then 6 else 5) 0 [] [x, a], r2)
      else .ok (x, TS.drop k2)) by
      conv => lhs; unfold P.exprF
      rw [hsm, hts]
      rfl)
    clear hsm hx hts HX1 HK2
    generalize w1.alloc (.cells #[.int .i64 o, .int .i64 m, .string s, .slice a n c] 93) = w2 at *
    generalize w1.heap.size = E at *
    have HLX := Lib.hid hlx
    cases heq : P.isS [61, 61] (TS.drop k2)
    · have HEQ := Lib.hid heq
      clear heq
      cases hlq : P.isS [60] (TS.drop k2)
      · have HLT := Lib.hid hlq
        clear hlq
        go_wp2_with fail
        with_reducible refine (is_live C g cap TS pv k2 ⟨#[61, 61]⟩ _ HC2.out).mono ?_
        rintro e wi ⟨rfl, hbi⟩
        rw [show by' (⟨#[61, 61]⟩ : ByteArray) = [61, 61] from rfl, HEQ.out]
        have HC2 := Lib.hid (HC2.out.below hbi)
        have HO2 := Lib.hid (HO2.out.trans (Only.of_below hbi))
        have HE := Lib.hid (HE.out.live' hbi)
        have HRB := Lib.hid (HRB.out.live' hbi)
        have HLX := Lib.hid (HLX.out.keep (Keeps.below hbi (Nat.le_refl _)))
        clear hbi
        go_wp2_with fail
        with_reducible refine (is_live C g cap TS pv k2 ⟨#[60]⟩ _ HC2.out).mono ?_
        rintro e wi ⟨rfl, hbi⟩
        rw [show by' (⟨#[60]⟩ : ByteArray) = [60] from rfl, HLT.out]
        have HC2 := Lib.hid (HC2.out.below hbi)
        have HO2 := Lib.hid (HO2.out.trans (Only.of_below hbi))
        have HE := Lib.hid (HE.out.live' hbi)
        have HRB := Lib.hid (HRB.out.live' hbi)
        have HLX := Lib.hid (HLX.out.keep (Keeps.below hbi (Nat.le_refl _)))
        clear hbi
        have HST := Lib.hid (show P.exprF rec (TS.drop k) = .ok (x, TS.drop k2) by rw [HS.out, HEQ.out, HLT.out]; rfl)
        obtain ⟨c0, c1, c2, c3, f0, f1, f2, f3⟩ := four_free HRB.out
        obtain ⟨d0, d1, d2, d3, _, _, _, _⟩ := four_free HE.out
        go_wp2_with fail
        refine bodyPost_ret (results_cell_row (p := 2) rfl _ _ w.heap.size 93 #[.int .i64 o, .int .i64 m, .string s, .slice a n c] (0, 0) _ rfl (put4 HRB.out) Try.underlying93 rfl (by kernel_rfl)) rfl ?_
        rw [HST.out]
        exact ⟨_, k2, rfl, LX.mono (Q := Sm w.heap.size E) (by intro q hq _; have := hq.1; show w.heap.size ≤ q; omega) _ (HLX.out.keep (Keeps.only (S := fun b => b = w.heap.size) (Only.put4 (Only.refl (fun b => b = w.heap.size) _) (.inl rfl) _ _ _ _) (by intro q hq e; have := hq.1; omega))), rfl, hk2, HC2.out.put4 (by omega) (by omega) _ _ _ _, Only.put4 HO2.out (.inr (Nat.le_refl _)) _ _ _ _⟩
      · have HLT := Lib.hid hlq
        clear hlq
        have hq1 : k2 + 1 < TS.length := HC2.out.more (isS_kind (s := [60]) (by rw [← drop_tat HC2.out.lt]; exact HLT.out))
        go_wp2_with fail
        with_reducible refine (is_live C g cap TS pv k2 ⟨#[61, 61]⟩ _ HC2.out).mono ?_
        rintro e wi ⟨rfl, hbi⟩
        rw [show by' (⟨#[61, 61]⟩ : ByteArray) = [61, 61] from rfl, HEQ.out]
        have HC2 := Lib.hid (HC2.out.below hbi)
        have HO2 := Lib.hid (HO2.out.trans (Only.of_below hbi))
        have HE := Lib.hid (HE.out.live' hbi)
        have HRB := Lib.hid (HRB.out.live' hbi)
        have HLX := Lib.hid (HLX.out.keep (Keeps.below hbi (Nat.le_refl _)))
        clear hbi
        go_wp2_with fail
        with_reducible refine (is_live C g cap TS pv k2 ⟨#[60]⟩ _ HC2.out).mono ?_
        rintro e wi ⟨rfl, hbi⟩
        rw [show by' (⟨#[60]⟩ : ByteArray) = [60] from rfl, HLT.out]
        have HC2 := Lib.hid (HC2.out.below hbi)
        have HO2 := Lib.hid (HO2.out.trans (Only.of_below hbi))
        have HE := Lib.hid (HE.out.live' hbi)
        have HRB := Lib.hid (HRB.out.live' hbi)
        have HLX := Lib.hid (HLX.out.keep (Keeps.below hbi (Nat.le_refl _)))
        clear hbi
        go_wp2_with fail
        with_reducible refine (is_live C g cap TS pv k2 ⟨#[60]⟩ _ HC2.out).mono ?_
        rintro e wi ⟨rfl, hbi⟩
        rw [show by' (⟨#[60]⟩ : ByteArray) = [60] from rfl, HLT.out]
        have HC2 := Lib.hid (HC2.out.below hbi)
        have HO2 := Lib.hid (HO2.out.trans (Only.of_below hbi))
        have HE := Lib.hid (HE.out.live' hbi)
        have HRB := Lib.hid (HRB.out.live' hbi)
        have HLX := Lib.hid (HLX.out.keep (Keeps.below hbi (Nat.le_refl _)))
        clear hbi
        obtain ⟨b0, b1, b2, b3, fb1, _, _⟩ := HC2.out.cells
        go_upto_region 7 with (fail)
        have HC6 := Lib.hid (HC2.out.step hq1)
        have HO6 := Lib.hid (HO2.out.trans (Only.step (.int .i64 ((k2 : Int) + 1))))
        have HE6 := Lib.hid (HE.out.only (Only.step (C := C) (.int .i64 ((k2 : Int) + 1))) (by omega))
        have HR6 := Lib.hid (HRB.out.only (Only.step (C := C) (.int .i64 ((k2 : Int) + 1))) (by omega))
        have HX6 := Lib.hid (HLX.out.keep (Keeps.only (Only.step (C := C) (.int .i64 ((k2 : Int) + 1))) (by intro q hq e; have := hq.1; omega)))
        clear b0 b1 b2 b3 fb1
        generalize World.setCell _ ⟨C, 1, none⟩ (.int .i64 ((k2 : Int) + 1)) = w6 at *
        have HAT2 := Lib.hid (fun w' hc => HAT.out (k2 + 1) w' (by omega) hc)
        obtain ⟨d0, d1, d2, d3, g0, g1, g2, g3⟩ := four_free HE6.out
        have hEl := HE6.out.lt
        have HPR := Lib.hid (fun (w7 : World) (o7 m7 : Int) (s7 : ByteArray) (a7 : Option Addr) (n7 c7 k7 : Nat) (bad7 : Int) (hc7 : Cur w7 C g cap TS pv k7 bad7) (ho7 : Only (· = C) w6.drew w7) => pair_round (w7 := w7) (o7 := o7) (m7 := m7) (s7 := s7) (a7 := a7) (n7 := n7) (c7 := c7) 6 hCl hgl hE HO6.out HE6.out HR6.out HX6.out hc7 ho7)
        have HEB := HE6
        clear HE6 HR6 HX6 HO6
        go_region_with ((go_at_call 108; (with_reducible refine (HAT2.out _ HC6.out.drew).mono ?_); rintro e w7 ⟨o7, m7, s7, a7, n7, c7, k7, bad7, rfl, hk7, hc7, ho7, hx7⟩; have hE7 := (Blk.only (S := (· = C)) (HEB.out) ((Only.refl (· = C) w6).drew) (by omega)).only ho7 (by omega); have hl7 := hE7.lt; obtain ⟨p0, p1, p2, p3, r0, r1, r2, r3⟩ := four_free hE7))
        all_goals
          have hpr := HPR.out w7 o7 m7 s7 a7 n7 c7 k7 bad7 hc7 ho7
          have HX7 := Lib.hid hx7
          clear p0 p1 p2 p3 r0 r1 r2 r3 hE7 hl7 hc7 ho7 hx7 d0 d1 d2 d3 g0 g1 g2 g3 hEl
          generalize World.alloc _ _ = w9 at *
          obtain ⟨hE9, hR9, hC9, hO9, hX9⟩ := hpr
          have HE9 := Lib.hid hE9
          have HR9 := Lib.hid hR9
          have HC9 := Lib.hid hC9
          have HO9 := Lib.hid hO9
          have HX9 := Lib.hid hX9
          clear hE9 hR9 hC9 hO9 hX9
          cases hsm : P.sumF rec (TS.drop (k2 + 1)) with
          | error p =>
            have HST := Lib.hid (show P.exprF rec (TS.drop k) = .error p by rw [HS.out, HEQ.out, HLT.out, List.tail_drop, hsm]; rfl)
            have hbd := HX7.out
            rw [hsm] at hbd
            obtain rfl : bad7 = (p : Nat) := hbd
            clear hsm
            obtain ⟨c0, c1, c2, c3, f0, f1, f2, f3⟩ := four_free HR9.out
            obtain ⟨d0, d1, d2, d3, _, _, _, _⟩ := four_free HE9.out
            go_wp2_with fail
            refine bodyPost_ret (results_cell_row (p := 2) rfl _ _ w.heap.size 93 #[.int .i64 6, .int .i64 0, .string ⟨#[]⟩, .slice (some ⟨w7.heap.size, 0, none⟩) 2 2] (0, 0) _ rfl (put4 HR9.out) Try.underlying93 rfl (by kernel_rfl)) rfl ?_
            rw [HST.out]
            exact ⟨_, k7, rfl, ⟨_, _, _, _, _, _, rfl⟩, by omega, HC9.out.put4 (by omega) (by omega) _ _ _ _, Only.put4 HO9.out (.inr (Nat.le_refl _)) _ _ _ _⟩
          | ok y =>
            obtain ⟨y, ts⟩ := y
            have hx := HX7.out
            rw [hsm] at hx
            obtain ⟨hy, hts, hkk, rfl⟩ := hx
            have HST := Lib.hid (show P.exprF rec (TS.drop k) = .ok (.mk 6 0 [] [x, y], ts) by rw [HS.out, HEQ.out, HLT.out, List.tail_drop, hsm]; rfl)
            have HXY := Lib.hid (HX9.out y hy)
            have HTS := Lib.hid hts
            clear hsm hy hts
            obtain ⟨c0, c1, c2, c3, f0, f1, f2, f3⟩ := four_free HR9.out
            obtain ⟨d0, d1, d2, d3, _, _, _, _⟩ := four_free HE9.out
            go_wp2_with fail
            refine bodyPost_ret (results_cell_row (p := 2) rfl _ _ w.heap.size 93 #[.int .i64 6, .int .i64 0, .string ⟨#[]⟩, .slice (some ⟨w7.heap.size, 0, none⟩) 2 2] (0, 0) _ rfl (put4 HR9.out) Try.underlying93 rfl (by kernel_rfl)) rfl ?_
            rw [HST.out]
            exact ⟨_, k7, rfl, LX.mono (Q := Sm w.heap.size E) (by intro q hq _; have := hq.1; show w.heap.size ≤ q; omega) _ (HXY.out.keep (Keeps.only (S := fun b => b = w.heap.size) (Only.put4 (Only.refl (fun b => b = w.heap.size) _) (.inl rfl) _ _ _ _) (by intro q hq e; have := hq.1; omega))), HTS.out, by omega, HC9.out.put4 (by omega) (by omega) _ _ _ _, Only.put4 HO9.out (.inr (Nat.le_refl _)) _ _ _ _⟩
    · have HEQ := Lib.hid heq
      clear heq
      cases hlq : P.isS [60] (TS.drop k2)
      · have HLT := Lib.hid hlq
        clear hlq
        have hq1 : k2 + 1 < TS.length := HC2.out.more (isS_kind (s := [61, 61]) (by rw [← drop_tat HC2.out.lt]; exact HEQ.out))
        go_wp2_with fail
        with_reducible refine (is_live C g cap TS pv k2 ⟨#[61, 61]⟩ _ HC2.out).mono ?_
        rintro e wi ⟨rfl, hbi⟩
        rw [show by' (⟨#[61, 61]⟩ : ByteArray) = [61, 61] from rfl, HEQ.out]
        have HC2 := Lib.hid (HC2.out.below hbi)
        have HO2 := Lib.hid (HO2.out.trans (Only.of_below hbi))
        have HE := Lib.hid (HE.out.live' hbi)
        have HRB := Lib.hid (HRB.out.live' hbi)
        have HLX := Lib.hid (HLX.out.keep (Keeps.below hbi (Nat.le_refl _)))
        clear hbi
        go_wp2_with fail
        with_reducible refine (is_live C g cap TS pv k2 ⟨#[60]⟩ _ HC2.out).mono ?_
        rintro e wi ⟨rfl, hbi⟩
        rw [show by' (⟨#[60]⟩ : ByteArray) = [60] from rfl, HLT.out]
        have HC2 := Lib.hid (HC2.out.below hbi)
        have HO2 := Lib.hid (HO2.out.trans (Only.of_below hbi))
        have HE := Lib.hid (HE.out.live' hbi)
        have HRB := Lib.hid (HRB.out.live' hbi)
        have HLX := Lib.hid (HLX.out.keep (Keeps.below hbi (Nat.le_refl _)))
        clear hbi
        obtain ⟨b0, b1, b2, b3, fb1, _, _⟩ := HC2.out.cells
        go_upto_region 7 with (fail)
        have HC6 := Lib.hid (HC2.out.step hq1)
        have HO6 := Lib.hid (HO2.out.trans (Only.step (.int .i64 ((k2 : Int) + 1))))
        have HE6 := Lib.hid (HE.out.only (Only.step (C := C) (.int .i64 ((k2 : Int) + 1))) (by omega))
        have HR6 := Lib.hid (HRB.out.only (Only.step (C := C) (.int .i64 ((k2 : Int) + 1))) (by omega))
        have HX6 := Lib.hid (HLX.out.keep (Keeps.only (Only.step (C := C) (.int .i64 ((k2 : Int) + 1))) (by intro q hq e; have := hq.1; omega)))
        clear b0 b1 b2 b3 fb1
        generalize World.setCell _ ⟨C, 1, none⟩ (.int .i64 ((k2 : Int) + 1)) = w6 at *
        have HAT2 := Lib.hid (fun w' hc => HAT.out (k2 + 1) w' (by omega) hc)
        obtain ⟨d0, d1, d2, d3, g0, g1, g2, g3⟩ := four_free HE6.out
        have hEl := HE6.out.lt
        have HPR := Lib.hid (fun (w7 : World) (o7 m7 : Int) (s7 : ByteArray) (a7 : Option Addr) (n7 c7 k7 : Nat) (bad7 : Int) (hc7 : Cur w7 C g cap TS pv k7 bad7) (ho7 : Only (· = C) w6.drew w7) => pair_round (w7 := w7) (o7 := o7) (m7 := m7) (s7 := s7) (a7 := a7) (n7 := n7) (c7 := c7) 5 hCl hgl hE HO6.out HE6.out HR6.out HX6.out hc7 ho7)
        have HEB := HE6
        clear HE6 HR6 HX6 HO6
        go_region_with ((go_at_call 108; (with_reducible refine (HAT2.out _ HC6.out.drew).mono ?_); rintro e w7 ⟨o7, m7, s7, a7, n7, c7, k7, bad7, rfl, hk7, hc7, ho7, hx7⟩; have hE7 := (Blk.only (S := (· = C)) (HEB.out) ((Only.refl (· = C) w6).drew) (by omega)).only ho7 (by omega); have hl7 := hE7.lt; obtain ⟨p0, p1, p2, p3, r0, r1, r2, r3⟩ := four_free hE7))
        all_goals
          have hpr := HPR.out w7 o7 m7 s7 a7 n7 c7 k7 bad7 hc7 ho7
          have HX7 := Lib.hid hx7
          clear p0 p1 p2 p3 r0 r1 r2 r3 hE7 hl7 hc7 ho7 hx7 d0 d1 d2 d3 g0 g1 g2 g3 hEl
          generalize World.alloc _ _ = w9 at *
          obtain ⟨hE9, hR9, hC9, hO9, hX9⟩ := hpr
          have HE9 := Lib.hid hE9
          have HR9 := Lib.hid hR9
          have HC9 := Lib.hid hC9
          have HO9 := Lib.hid hO9
          have HX9 := Lib.hid hX9
          clear hE9 hR9 hC9 hO9 hX9
          cases hsm : P.sumF rec (TS.drop (k2 + 1)) with
          | error p =>
            have HST := Lib.hid (show P.exprF rec (TS.drop k) = .error p by rw [HS.out, HEQ.out, HLT.out, List.tail_drop, hsm]; rfl)
            have hbd := HX7.out
            rw [hsm] at hbd
            obtain rfl : bad7 = (p : Nat) := hbd
            clear hsm
            obtain ⟨c0, c1, c2, c3, f0, f1, f2, f3⟩ := four_free HR9.out
            obtain ⟨d0, d1, d2, d3, _, _, _, _⟩ := four_free HE9.out
            go_wp2_with fail
            refine bodyPost_ret (results_cell_row (p := 2) rfl _ _ w.heap.size 93 #[.int .i64 5, .int .i64 0, .string ⟨#[]⟩, .slice (some ⟨w7.heap.size, 0, none⟩) 2 2] (0, 0) _ rfl (put4 HR9.out) Try.underlying93 rfl (by kernel_rfl)) rfl ?_
            rw [HST.out]
            exact ⟨_, k7, rfl, ⟨_, _, _, _, _, _, rfl⟩, by omega, HC9.out.put4 (by omega) (by omega) _ _ _ _, Only.put4 HO9.out (.inr (Nat.le_refl _)) _ _ _ _⟩
          | ok y =>
            obtain ⟨y, ts⟩ := y
            have hx := HX7.out
            rw [hsm] at hx
            obtain ⟨hy, hts, hkk, rfl⟩ := hx
            have HST := Lib.hid (show P.exprF rec (TS.drop k) = .ok (.mk 5 0 [] [x, y], ts) by rw [HS.out, HEQ.out, HLT.out, List.tail_drop, hsm]; rfl)
            have HXY := Lib.hid (HX9.out y hy)
            have HTS := Lib.hid hts
            clear hsm hy hts
            obtain ⟨c0, c1, c2, c3, f0, f1, f2, f3⟩ := four_free HR9.out
            obtain ⟨d0, d1, d2, d3, _, _, _, _⟩ := four_free HE9.out
            go_wp2_with fail
            refine bodyPost_ret (results_cell_row (p := 2) rfl _ _ w.heap.size 93 #[.int .i64 5, .int .i64 0, .string ⟨#[]⟩, .slice (some ⟨w7.heap.size, 0, none⟩) 2 2] (0, 0) _ rfl (put4 HR9.out) Try.underlying93 rfl (by kernel_rfl)) rfl ?_
            rw [HST.out]
            exact ⟨_, k7, rfl, LX.mono (Q := Sm w.heap.size E) (by intro q hq _; have := hq.1; show w.heap.size ≤ q; omega) _ (HXY.out.keep (Keeps.only (S := fun b => b = w.heap.size) (Only.put4 (Only.refl (fun b => b = w.heap.size) _) (.inl rfl) _ _ _ _) (by intro q hq e; have := hq.1; omega))), HTS.out, by omega, HC9.out.put4 (by omega) (by omega) _ _ _ _, Only.put4 HO9.out (.inr (Nat.le_refl _)) _ _ _ _⟩
      · have HLT := Lib.hid hlq
        clear hlq
        have hq1 : k2 + 1 < TS.length := HC2.out.more (isS_kind (s := [61, 61]) (by rw [← drop_tat HC2.out.lt]; exact HEQ.out))
        go_wp2_with fail
        with_reducible refine (is_live C g cap TS pv k2 ⟨#[61, 61]⟩ _ HC2.out).mono ?_
        rintro e wi ⟨rfl, hbi⟩
        rw [show by' (⟨#[61, 61]⟩ : ByteArray) = [61, 61] from rfl, HEQ.out]
        have HC2 := Lib.hid (HC2.out.below hbi)
        have HO2 := Lib.hid (HO2.out.trans (Only.of_below hbi))
        have HE := Lib.hid (HE.out.live' hbi)
        have HRB := Lib.hid (HRB.out.live' hbi)
        have HLX := Lib.hid (HLX.out.keep (Keeps.below hbi (Nat.le_refl _)))
        clear hbi
        go_wp2_with fail
        with_reducible refine (is_live C g cap TS pv k2 ⟨#[60]⟩ _ HC2.out).mono ?_
        rintro e wi ⟨rfl, hbi⟩
        rw [show by' (⟨#[60]⟩ : ByteArray) = [60] from rfl, HLT.out]
        have HC2 := Lib.hid (HC2.out.below hbi)
        have HO2 := Lib.hid (HO2.out.trans (Only.of_below hbi))
        have HE := Lib.hid (HE.out.live' hbi)
        have HRB := Lib.hid (HRB.out.live' hbi)
        have HLX := Lib.hid (HLX.out.keep (Keeps.below hbi (Nat.le_refl _)))
        clear hbi
        obtain ⟨b0, b1, b2, b3, fb1, _, _⟩ := HC2.out.cells
        go_upto_region 7 with (fail)
        have HC6 := Lib.hid (HC2.out.step hq1)
        have HO6 := Lib.hid (HO2.out.trans (Only.step (.int .i64 ((k2 : Int) + 1))))
        have HE6 := Lib.hid (HE.out.only (Only.step (C := C) (.int .i64 ((k2 : Int) + 1))) (by omega))
        have HR6 := Lib.hid (HRB.out.only (Only.step (C := C) (.int .i64 ((k2 : Int) + 1))) (by omega))
        have HX6 := Lib.hid (HLX.out.keep (Keeps.only (Only.step (C := C) (.int .i64 ((k2 : Int) + 1))) (by intro q hq e; have := hq.1; omega)))
        clear b0 b1 b2 b3 fb1
        generalize World.setCell _ ⟨C, 1, none⟩ (.int .i64 ((k2 : Int) + 1)) = w6 at *
        have HAT2 := Lib.hid (fun w' hc => HAT.out (k2 + 1) w' (by omega) hc)
        obtain ⟨d0, d1, d2, d3, g0, g1, g2, g3⟩ := four_free HE6.out
        have hEl := HE6.out.lt
        have HPR := Lib.hid (fun (w7 : World) (o7 m7 : Int) (s7 : ByteArray) (a7 : Option Addr) (n7 c7 k7 : Nat) (bad7 : Int) (hc7 : Cur w7 C g cap TS pv k7 bad7) (ho7 : Only (· = C) w6.drew w7) => pair_round (w7 := w7) (o7 := o7) (m7 := m7) (s7 := s7) (a7 := a7) (n7 := n7) (c7 := c7) 6 hCl hgl hE HO6.out HE6.out HR6.out HX6.out hc7 ho7)
        have HEB := HE6
        clear HE6 HR6 HX6 HO6
        go_region_with ((go_at_call 108; (with_reducible refine (HAT2.out _ HC6.out.drew).mono ?_); rintro e w7 ⟨o7, m7, s7, a7, n7, c7, k7, bad7, rfl, hk7, hc7, ho7, hx7⟩; have hE7 := (Blk.only (S := (· = C)) (HEB.out) ((Only.refl (· = C) w6).drew) (by omega)).only ho7 (by omega); have hl7 := hE7.lt; obtain ⟨p0, p1, p2, p3, r0, r1, r2, r3⟩ := four_free hE7))
        all_goals
          have hpr := HPR.out w7 o7 m7 s7 a7 n7 c7 k7 bad7 hc7 ho7
          have HX7 := Lib.hid hx7
          clear p0 p1 p2 p3 r0 r1 r2 r3 hE7 hl7 hc7 ho7 hx7 d0 d1 d2 d3 g0 g1 g2 g3 hEl
          generalize World.alloc _ _ = w9 at *
          obtain ⟨hE9, hR9, hC9, hO9, hX9⟩ := hpr
          have HE9 := Lib.hid hE9
          have HR9 := Lib.hid hR9
          have HC9 := Lib.hid hC9
          have HO9 := Lib.hid hO9
          have HX9 := Lib.hid hX9
          clear hE9 hR9 hC9 hO9 hX9
          cases hsm : P.sumF rec (TS.drop (k2 + 1)) with
          | error p =>
            have HST := Lib.hid (show P.exprF rec (TS.drop k) = .error p by rw [HS.out, HEQ.out, HLT.out, List.tail_drop, hsm]; rfl)
            have hbd := HX7.out
            rw [hsm] at hbd
            obtain rfl : bad7 = (p : Nat) := hbd
            clear hsm
            obtain ⟨c0, c1, c2, c3, f0, f1, f2, f3⟩ := four_free HR9.out
            obtain ⟨d0, d1, d2, d3, _, _, _, _⟩ := four_free HE9.out
            go_wp2_with fail
            refine bodyPost_ret (results_cell_row (p := 2) rfl _ _ w.heap.size 93 #[.int .i64 6, .int .i64 0, .string ⟨#[]⟩, .slice (some ⟨w7.heap.size, 0, none⟩) 2 2] (0, 0) _ rfl (put4 HR9.out) Try.underlying93 rfl (by kernel_rfl)) rfl ?_
            rw [HST.out]
            exact ⟨_, k7, rfl, ⟨_, _, _, _, _, _, rfl⟩, by omega, HC9.out.put4 (by omega) (by omega) _ _ _ _, Only.put4 HO9.out (.inr (Nat.le_refl _)) _ _ _ _⟩
          | ok y =>
            obtain ⟨y, ts⟩ := y
            have hx := HX7.out
            rw [hsm] at hx
            obtain ⟨hy, hts, hkk, rfl⟩ := hx
            have HST := Lib.hid (show P.exprF rec (TS.drop k) = .ok (.mk 6 0 [] [x, y], ts) by rw [HS.out, HEQ.out, HLT.out, List.tail_drop, hsm]; rfl)
            have HXY := Lib.hid (HX9.out y hy)
            have HTS := Lib.hid hts
            clear hsm hy hts
            obtain ⟨c0, c1, c2, c3, f0, f1, f2, f3⟩ := four_free HR9.out
            obtain ⟨d0, d1, d2, d3, _, _, _, _⟩ := four_free HE9.out
            go_wp2_with fail
            refine bodyPost_ret (results_cell_row (p := 2) rfl _ _ w.heap.size 93 #[.int .i64 6, .int .i64 0, .string ⟨#[]⟩, .slice (some ⟨w7.heap.size, 0, none⟩) 2 2] (0, 0) _ rfl (put4 HR9.out) Try.underlying93 rfl (by kernel_rfl)) rfl ?_
            rw [HST.out]
            exact ⟨_, k7, rfl, LX.mono (Q := Sm w.heap.size E) (by intro q hq _; have := hq.1; show w.heap.size ≤ q; omega) _ (HXY.out.keep (Keeps.only (S := fun b => b = w.heap.size) (Only.put4 (Only.refl (fun b => b = w.heap.size) _) (.inl rfl) _ _ _ _) (by intro q hq e; have := hq.1; omega))), HTS.out, by omega, HC9.out.put4 (by omega) (by omega) _ _ _ _, Only.put4 HO9.out (.inr (Nat.le_refl _)) _ _ _ _⟩
end Go.Proofs.Ytikihomablmcnaa.Lx
/-
  sum and expr of the document's cursor where nothing goes on any more; and expr by the plain reader.
-/
namespace Go.Proofs.Ytikihomablmcnaa.Lx
open Go.RowKit
open L (Tok)
open P (EX)
set_option maxRecDepth 100000
set_option linter.unusedVariables false
set_option linter.unusedSimpArgs false
set_option maxHeartbeats 1600000 in
theorem sum_dead (C g cap : Nat) (TS : List Tok) (pv : Value) (k : Nat) (bad : Int) (w : World) (h : Cur w C g cap TS pv k bad) (hb : 0 ≤ bad) :
    Calls Try.prog 108 #[.pointer (some ⟨C, 0, none⟩)] w (DeadTo AnyX C g cap TS pv k bad w) := by
  obtain ⟨hCl, hgl⟩ := h.lts
  have HC := Lib.hid h
  clear h
  go_enter Try.func108, Try.ntmps108
  go_wp2_with fail
  have HC0 := Lib.hid (HC.out.below (w' := w.alloc (.cells zx 93)) ((Below.refl _ _).alloc (Nat.le_refl _) _))
  have HO0 := Lib.hid ((Only.refl (· = C) w).alloc (.cells zx 93))
  have HB0 := Lib.hid (Blk.new w 93 zx)
  have hsA : w.heap.size < (w.alloc (.cells zx 93)).heap.size := HB0.out.lt
  generalize w.alloc (.cells zx 93) = w0 at *
  with_reducible refine (atom_dead C g cap TS pv k bad _ HC0.out hb).mono ?_
  rintro e w1 ⟨v, rfl, ⟨o, m, s, a, n, c, rfl⟩, hc1, ho1⟩
  have HB1 := Lib.hid (HB0.out.only ho1 (by omega))
  have HO1 := Lib.hid (HO0.out.trans ho1)
  have hs1 := ho1.size
  have HC1 := Lib.hid hc1
  clear hc1 ho1
  go_wp2_with fail
  have HC2 := Lib.hid (HC1.out.below (w' := w1.alloc (.cells #[.int .i64 o, .int .i64 m, .string s, .slice a n c] 93)) ((Below.refl _ _).alloc (Nat.le_refl _) _))
  have HO2 := Lib.hid (HO1.out.alloc (.cells #[.int .i64 o, .int .i64 m, .string s, .slice a n c] 93))
  have HRB := Lib.hid (HB1.out.alloc (.cells #[.int .i64 o, .int .i64 m, .string s, .slice a n c] 93))
  have HE := Lib.hid (Blk.new w1 93 #[.int .i64 o, .int .i64 m, .string s, .slice a n c])
  have hE : w.heap.size < w1.heap.size := by omega
  generalize w1.alloc (.cells #[.int .i64 o, .int .i64 m, .string s, .slice a n c] 93) = w2 at *
  generalize w1.heap.size = E at *
  go_loopw [4] (fun _ wr => wr = w2) (fun _ _ => 0)
  case atStart => rfl
  case round =>
    subst hrel
    go_wp2_with fail
    with_reducible refine (is_dead C g cap TS pv k bad ⟨#[43]⟩ _ HC2.out hb).mono ?_
    rintro e w3 ⟨rfl, hb3⟩
    have HC3 := Lib.hid (HC2.out.below hb3)
    go_wp2_with fail
    with_reducible refine (is_dead C g cap TS pv k bad ⟨#[45]⟩ _ HC3.out hb).mono ?_
    rintro e w4 ⟨rfl, hb4⟩
    have HC4 := Lib.hid (HC3.out.below hb4)
    have HO4 := Lib.hid ((HO2.out.trans (Only.of_below hb3)).trans (Only.of_below hb4))
    have HE4 := Lib.hid ((HE.out.live' hb3).live' hb4)
    have HR4 := Lib.hid ((HRB.out.live' hb3).live' hb4)
    clear hb3 hb4
    obtain ⟨c0, c1, c2, c3, f0, f1, f2, f3⟩ := four_free HR4.out
    obtain ⟨d0, d1, d2, d3, _, _, _, _⟩ := four_free HE4.out
    go_wp2_with fail
    refine bodyPost_ret (results_cell_row (p := 2) rfl _ _ w.heap.size 93 #[.int .i64 o, .int .i64 m, .string s, .slice a n c] (0, 0) _ rfl (put4 HR4.out) Try.underlying93 rfl (by kernel_rfl)) rfl ?_
    exact ⟨_, rfl, ⟨_, _, _, _, _, _, rfl⟩, HC4.out.put4 (by omega) (by omega) _ _ _ _, Only.put4 HO4.out (.inr (Nat.le_refl _)) _ _ _ _⟩
set_option maxHeartbeats 1600000 in
theorem expr_dead (C g cap : Nat) (TS : List Tok) (pv : Value) (k : Nat) (bad : Int) (w : World) (h : Cur w C g cap TS pv k bad) (hb : 0 ≤ bad) :
    Calls Try.prog 92 #[.pointer (some ⟨C, 0, none⟩)] w (DeadTo AnyX C g cap TS pv k bad w) := by
  obtain ⟨hCl, hgl⟩ := h.lts
  have HC := Lib.hid h
  clear h
  go_enter Try.func92, Try.ntmps92
  go_wp2_with fail
  have HC0 := Lib.hid (HC.out.below (w' := w.alloc (.cells zx 93)) ((Below.refl _ _).alloc (Nat.le_refl _) _))
  have HO0 := Lib.hid ((Only.refl (· = C) w).alloc (.cells zx 93))
  have HB0 := Lib.hid (Blk.new w 93 zx)
  have hsA : w.heap.size < (w.alloc (.cells zx 93)).heap.size := HB0.out.lt
  generalize w.alloc (.cells zx 93) = w0 at *
  with_reducible refine (sum_dead C g cap TS pv k bad _ HC0.out hb).mono ?_
  rintro e w1 ⟨v, rfl, ⟨o, m, s, a, n, c, rfl⟩, hc1, ho1⟩
  have HB1 := Lib.hid (HB0.out.only ho1 (by omega))
  have HO1 := Lib.hid (HO0.out.trans ho1)
  have hs1 := ho1.size
  have HC1 := Lib.hid hc1
  clear hc1 ho1
  go_wp2_with fail
  have HC2 := Lib.hid (HC1.out.below (w' := w1.alloc (.cells #[.int .i64 o, .int .i64 m, .string s, .slice a n c] 93)) ((Below.refl _ _).alloc (Nat.le_refl _) _))
  have HO2 := Lib.hid (HO1.out.alloc (.cells #[.int .i64 o, .int .i64 m, .string s, .slice a n c] 93))
  have HRB := Lib.hid (HB1.out.alloc (.cells #[.int .i64 o, .int .i64 m, .string s, .slice a n c] 93))
  have HE := Lib.hid (Blk.new w1 93 #[.int .i64 o, .int .i64 m, .string s, .slice a n c])
  have hE : w.heap.size < w1.heap.size := by omega
  generalize w1.alloc (.cells #[.int .i64 o, .int .i64 m, .string s, .slice a n c] 93) = w2 at *
  generalize w1.heap.size = E at *
  with_reducible refine (is_dead C g cap TS pv k bad ⟨#[61, 61]⟩ _ HC2.out hb).mono ?_
  rintro e w3 ⟨rfl, hb3⟩
  have HC3 := Lib.hid (HC2.out.below hb3)
  go_wp2_with fail
  with_reducible refine (is_dead C g cap TS pv k bad ⟨#[60]⟩ _ HC3.out hb).mono ?_
  rintro e w4 ⟨rfl, hb4⟩
  have HC4 := Lib.hid (HC3.out.below hb4)
  have HO4 := Lib.hid ((HO2.out.trans (Only.of_below hb3)).trans (Only.of_below hb4))
  have HE4 := Lib.hid ((HE.out.live' hb3).live' hb4)
  have HR4 := Lib.hid ((HRB.out.live' hb3).live' hb4)
  clear hb3 hb4
  obtain ⟨c0, c1, c2, c3, f0, f1, f2, f3⟩ := four_free HR4.out
  obtain ⟨d0, d1, d2, d3, _, _, _, _⟩ := four_free HE4.out
  go_wp2_with fail
  refine bodyPost_ret (results_cell_row (p := 2) rfl _ _ w.heap.size 93 #[.int .i64 o, .int .i64 m, .string s, .slice a n c] (0, 0) _ rfl (put4 HR4.out) Try.underlying93 rfl (by kernel_rfl)) rfl ?_
  exact ⟨_, rfl, ⟨_, _, _, _, _, _, rfl⟩, HC4.out.put4 (by omega) (by omega) _ _ _ _, Only.put4 HO4.out (.inr (Nat.le_refl _)) _ _ _ _⟩
theorem expr_n (C g cap : Nat) (TS : List Tok) (pv : Value) : ∀ (n k : Nat) (w : World), TS.length - k ≤ n → Cur w C g cap TS pv k (-1) → Calls Try.prog 92 #[.pointer (some ⟨C, 0, none⟩)] w (XTo C g cap TS pv k (P.exprN n (TS.drop k)) w)
  | 0, k, w, hn, hc => by
    have := hc.lt
    omega
  | n + 1, k, w, hn, hc => expr_live C g cap TS pv k (P.exprN n) w hc (fun k' w' hk hc' => expr_n C g cap TS pv n k' w' (by omega) hc')
/-- expr tells what the plain reader does. -/
theorem expr_any (C g cap : Nat) (TS : List Tok) (pv : Value) (k : Nat) (w : World) (h : Cur w C g cap TS pv k (-1)) : Calls Try.prog 92 #[.pointer (some ⟨C, 0, none⟩)] w (XTo C g cap TS pv k (P.pExpr (TS.drop k)) w) :=
  expr_n C g cap TS pv _ k w (by rw [List.length_drop]; omega) h
end Go.Proofs.Ytikihomablmcnaa.Lx
/-
  How conditions lie in memory.
-/
namespace Go.Proofs.Ytikihomablmcnaa.Lx
open Go.RowKit
open L (Tok)
open P (CO)
set_option maxRecDepth 100000
set_option linter.unusedVariables false
set_option linter.unusedSimpArgs false
mutual
/-- v is the condition, its kids in blocks of Q. -/
def LC (Q : Nat → Prop) (w : World) (v : Value) : CO → Prop
  | .mk o m s u ks => ∃ a cap, v = .agg #[.int .i64 o, .int .i64 m, .string (bs s), .int .i64 u, .slice a ks.length cap] ∧ ks.length ≤ maxLen ∧ (ks = [] ∨ ∃ g off, a = some ⟨g, off, none⟩ ∧ Q g ∧ LCs Q w g off ks)
/-- Conditions side by side. -/
def LCs (Q : Nat → Prop) (w : World) (g off : Nat) : List CO → Prop
  | [] => True
  | e :: es => (∃ c0 c1 c2 c3 c4, w.cell? ⟨g, off, none⟩ = some c0 ∧ w.cell? ⟨g, off + 1, none⟩ = some c1 ∧ w.cell? ⟨g, off + 2, none⟩ = some c2 ∧ w.cell? ⟨g, off + 3, none⟩ = some c3 ∧ w.cell? ⟨g, off + 4, none⟩ = some c4 ∧ LC Q w (.agg #[c0, c1, c2, c3, c4]) e) ∧ LCs Q w g (off + 5) es
end
mutual
theorem LC.keep {Q : Nat → Prop} {w w' : World} (h : Keeps Q w w') : ∀ (e : CO) {v : Value}, LC Q w v e → LC Q w' v e
  | .mk o m s u ks, v, hv => by
    unfold LC at hv ⊢
    obtain ⟨a, cap, rfl, hm, hk⟩ := hv
    refine ⟨a, cap, rfl, hm, ?_⟩
    rcases hk with hk | ⟨g, off, ha, hg, hs⟩
    · exact .inl hk
    · exact .inr ⟨g, off, ha, hg, LCs.keep h ks hg hs⟩
theorem LCs.keep {Q : Nat → Prop} {w w' : World} (h : Keeps Q w w') : ∀ (es : List CO) {g off : Nat}, Q g → LCs Q w g off es → LCs Q w' g off es
  | [], g, off, hg, hv => by
    unfold LCs
    trivial
  | e :: es, g, off, hg, hv => by
    unfold LCs at hv ⊢
    obtain ⟨⟨c0, c1, c2, c3, c4, h0, h1, h2, h3, h4, hx⟩, hs⟩ := hv
    exact ⟨⟨c0, c1, c2, c3, c4, h.cell hg h0, h.cell hg h1, h.cell hg h2, h.cell hg h3, h.cell hg h4, LC.keep h e hx⟩, LCs.keep h es hg hs⟩
end
mutual
/-- Blocks of Q that are there are of Q'. -/
theorem LC.mono {Q Q' : Nat → Prop} {w : World} (h : ∀ g, Q g → g < w.heap.size → Q' g) : ∀ (e : CO) {v : Value}, LC Q w v e → LC Q' w v e
  | .mk o m s u ks, v, hv => by
    unfold LC at hv ⊢
    obtain ⟨a, cap, rfl, hm, hk⟩ := hv
    refine ⟨a, cap, rfl, hm, ?_⟩
    rcases hk with hk | ⟨g, off, ha, hg, hs⟩
    · exact .inl hk
    · cases ks with
      | nil => exact .inl rfl
      | cons x xs =>
        have hl : g < w.heap.size := by
          unfold LCs at hs
          obtain ⟨⟨c0, _, _, _, _, h0, _⟩, _⟩ := hs
          exact World.block_lt_of_cell? w ⟨g, off, none⟩ h0
        exact .inr ⟨g, off, ha, h g hg hl, LCs.mono h (x :: xs) hs⟩
theorem LCs.mono {Q Q' : Nat → Prop} {w : World} (h : ∀ g, Q g → g < w.heap.size → Q' g) : ∀ (es : List CO) {g off : Nat}, LCs Q w g off es → LCs Q' w g off es
  | [], g, off, hv => by
    unfold LCs
    trivial
  | e :: es, g, off, hv => by
    unfold LCs at hv ⊢
    obtain ⟨⟨c0, c1, c2, c3, c4, h0, h1, h2, h3, h4, hx⟩, hs⟩ := hv
    exact ⟨⟨c0, c1, c2, c3, c4, h0, h1, h2, h3, h4, LC.mono h e hx⟩, LCs.mono h es hs⟩
end
/-- v has a condition's form. -/
def AnyC (w : World) (v : Value) : Prop := ∃ (o m : Int) (s : ByteArray) (u : Int) (a : Option Addr) (n c : Nat), v = .agg #[.int .i64 o, .int .i64 m, .string s, .int .i64 u, .slice a n c]
theorem LC.any {Q : Nat → Prop} {w : World} {v : Value} {e : CO} (h : LC Q w v e) : ∃ (o m : Int) (s : ByteArray) (u : Int) (a : Option Addr) (n c : Nat), v = .agg #[.int .i64 o, .int .i64 m, .string s, .int .i64 u, .slice a n c] := by
  cases e with
  | mk o m s u ks =>
    unfold LC at h
    obtain ⟨a, cap, rfl, _⟩ := h
    exact ⟨_, _, _, _, _, _, _, rfl⟩
theorem lc_leaf (Q : Nat → Prop) (w : World) (o m : Int) (s : List UInt8) (u : Int) (a : Option Addr) (c : Nat) : LC Q w (.agg #[.int .i64 o, .int .i64 m, .string (bs s), .int .i64 u, .slice a 0 c]) (.mk o m s u []) := by
  unfold LC
  exact ⟨a, c, rfl, Nat.zero_le _, .inl rfl⟩
theorem lc_one {Q : Nat → Prop} {g : Nat} {w : World} {o m u : Int} {s : List UInt8} {c : Nat} {x : CO} {x0 x1 x2 x3 x4 : Value} (hg : Q g) (hB : Blk w g 27 #[x0, x1, x2, x3, x4])
    (hx : LC Q w (.agg #[x0, x1, x2, x3, x4]) x) : LC Q w (.agg #[.int .i64 o, .int .i64 m, .string (bs s), .int .i64 u, .slice (some ⟨g, 0, none⟩) 1 c]) (.mk o m s u [x]) := by
  unfold LC
  refine ⟨_, c, rfl, show 1 ≤ maxLen by decide, .inr ⟨g, 0, rfl, hg, ?_⟩⟩
  unfold LCs
  refine ⟨⟨x0, x1, x2, x3, x4, hB.cell 0, hB.cell 1, hB.cell 2, hB.cell 3, hB.cell 4, hx⟩, ?_⟩
  unfold LCs
  trivial
theorem lc_two {Q : Nat → Prop} {g : Nat} {w : World} {o m u : Int} {s : List UInt8} {c : Nat} {x y : CO} {x0 x1 x2 x3 x4 y0 y1 y2 y3 y4 : Value} (hg : Q g) (hB : Blk w g 27 #[x0, x1, x2, x3, x4, y0, y1, y2, y3, y4])
    (hx : LC Q w (.agg #[x0, x1, x2, x3, x4]) x) (hy : LC Q w (.agg #[y0, y1, y2, y3, y4]) y) : LC Q w (.agg #[.int .i64 o, .int .i64 m, .string (bs s), .int .i64 u, .slice (some ⟨g, 0, none⟩) 2 c]) (.mk o m s u [x, y]) := by
  unfold LC
  refine ⟨_, c, rfl, show 2 ≤ maxLen by decide, .inr ⟨g, 0, rfl, hg, ?_⟩⟩
  unfold LCs
  refine ⟨⟨x0, x1, x2, x3, x4, hB.cell 0, hB.cell 1, hB.cell 2, hB.cell 3, hB.cell 4, hx⟩, ?_⟩
  unfold LCs
  refine ⟨⟨y0, y1, y2, y3, y4, hB.cell 5, hB.cell 6, hB.cell 7, hB.cell 8, hB.cell 9, hy⟩, ?_⟩
  unfold LCs
  trivial
theorem put5 {w : World} {R : Nat} {t : TypeId} {a b c d f a' b' c' d' f' : Value} (h : Blk w R t #[a, b, c, d, f]) : Blk (((((w.setCell ⟨R, 0, none⟩ a').setCell ⟨R, 1, none⟩ b').setCell ⟨R, 2, none⟩ c').setCell ⟨R, 3, none⟩ d').setCell ⟨R, 4, none⟩ f') R t #[a', b', c', d', f'] := ((((h.set 0 a').set 1 b').set 2 c').set 3 d').set 4 f'
theorem Only.put5 {S : Nat → Prop} {a b : World} (h : Only S a b) {R : Nat} (hR : S R ∨ a.heap.size ≤ R) (u0 u1 u2 u3 u4 : Value) : Only S a (((((b.setCell ⟨R, 0, none⟩ u0).setCell ⟨R, 1, none⟩ u1).setCell ⟨R, 2, none⟩ u2).setCell ⟨R, 3, none⟩ u3).setCell ⟨R, 4, none⟩ u4) :=
  (Only.put4 h hR u0 u1 u2 u3).setCell (p := ⟨R, 4, none⟩) hR _
theorem Cur.put5 {w : World} {C g cap : Nat} {TS : List Tok} {pv : Value} {k : Nat} {bad : Int} (h : Cur w C g cap TS pv k bad) {R : Nat} (hC : ¬ C = R) (hg : ¬ g = R) (u0 u1 u2 u3 u4 : Value) : Cur (((((w.setCell ⟨R, 0, none⟩ u0).setCell ⟨R, 1, none⟩ u1).setCell ⟨R, 2, none⟩ u2).setCell ⟨R, 3, none⟩ u3).setCell ⟨R, 4, none⟩ u4) C g cap TS pv k bad :=
  h.other (S := fun b => b = R) (Only.put5 (Only.refl (fun b => b = R) w) (.inl rfl) u0 u1 u2 u3 u4) hC hg
theorem five_free {w : World} {g : Nat} {t : TypeId} {a b c d f : Value} (h : Blk w g t #[a, b, c, d, f]) : w.cell? ⟨g, 0, none⟩ = some a ∧ w.cell? ⟨g, 1, none⟩ = some b ∧ w.cell? ⟨g, 2, none⟩ = some c ∧ w.cell? ⟨g, 3, none⟩ = some d ∧ w.cell? ⟨g, 4, none⟩ = some f ∧ w.frozen? ⟨g, 0, none⟩ = false ∧ w.frozen? ⟨g, 1, none⟩ = false ∧ w.frozen? ⟨g, 2, none⟩ = false ∧ w.frozen? ⟨g, 3, none⟩ = false ∧ w.frozen? ⟨g, 4, none⟩ = false := ⟨h.cell 0, h.cell 1, h.cell 2, h.cell 3, h.cell 4, h.free 0, h.free 1, h.free 2, h.free 3, h.free 4⟩
/-- The zero condition's cells. -/
abbrev zc : Array Value := #[.int .i64 0, .int .i64 0, .string ⟨#[]⟩, .int .i64 0, .slice none 0 0]
/-- What a condition's reader tells. -/
abbrev CTo (C g cap : Nat) (TS : List Tok) (pv : Value) (k : Nat) (r : P.Res CO) (w : World) : Ending → World → Prop := StepTo (LC (From w.heap.size)) AnyC C g cap TS pv k r w
def RC (Q : Nat → Prop) (w' : World) (v : Value) (TS : List Tok) (k k2 : Nat) (bad : Int) : P.Res CO → Prop
  | .ok (x, ts) => LC Q w' v x ∧ ts = TS.drop k2 ∧ k < k2 ∧ bad = -1
  | .error p => bad = (p : Nat)
def BothC (C g cap : Nat) (TS : List Tok) (pv : Value) (k : Nat) (r : P.Res CO) (w : World) (e : Ending) (w' : World) : Prop :=
  ∃ (o m : Int) (s : ByteArray) (u : Int) (a : Option Addr) (n c k2 : Nat) (bad : Int), e = .returned (.agg #[.int .i64 o, .int .i64 m, .string s, .int .i64 u, .slice a n c]) ∧ k ≤ k2 ∧ Cur w' C g cap TS pv k2 bad ∧ Only (· = C) w w' ∧ RC (From w.heap.size) w' (.agg #[.int .i64 o, .int .i64 m, .string s, .int .i64 u, .slice a n c]) TS k k2 bad r
theorem bothc_of {C g cap : Nat} {TS : List Tok} {pv : Value} {k : Nat} {r : P.Res CO} {w w' : World} {e : Ending} (h : CTo C g cap TS pv k r w e w') : BothC C g cap TS pv k r w e w' := by
  rcases r with p | ⟨x, ts⟩
  · obtain ⟨v, k', rfl, ⟨o, m, s, u, a, n, c, rfl⟩, hk, hc, ho⟩ := h
    exact ⟨o, m, s, u, a, n, c, k', _, rfl, hk, hc, ho, rfl⟩
  · obtain ⟨v, k', rfl, hx, hd, hk, hc, ho⟩ := h
    obtain ⟨o, m, s, u, a, n, c, rfl⟩ := hx.any
    exact ⟨o, m, s, u, a, n, c, k', _, rfl, by omega, hc, ho, hx, hd, hk, rfl⟩
def ReadsC (C g cap : Nat) (TS : List Tok) (pv : Value) (k : Nat) (F : Nat) (rec : List Tok → P.Res CO) : Prop := ∀ (k' : Nat) (w' : World), k ≤ k' → Cur w' C g cap TS pv k' (-1) → Calls Try.prog F #[.pointer (some ⟨C, 0, none⟩)] w' (CTo C g cap TS pv k' (rec (TS.drop k')) w')
theorem ReadsC.later {C g cap : Nat} {TS : List Tok} {pv : Value} {k k' F : Nat} {rec : List Tok → P.Res CO} (h : ReadsC C g cap TS pv k F rec) (hk : k ≤ k') : ReadsC C g cap TS pv k' F rec := fun j w hj hc => h j w (by omega) hc
end Go.Proofs.Ytikihomablmcnaa.Lx
