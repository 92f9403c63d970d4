/-
  What both and cond of the document's cursor tell, as contracts.
-/
import Derived.Test.YtikihomablmcnaaPC
namespace Go.Proofs.Ytikihomablmcnaa.Lx
open Go.RowKit
open L (Tok)
open P (CO)
set_option maxRecDepth 100000
set_option linter.unusedVariables false
set_option linter.unusedSimpArgs false
theorem manyL_stop (one : List Tok → P.Res CO) (word : List UInt8) (op : Int) (f : Nat) (x : CO) {ts : List Tok} (h : P.isS word ts = false) : P.manyL one word op f x ts = .ok (x, ts) := by
  cases f with
  | zero => rfl
  | succ f =>
    unfold P.manyL
    rw [h]
    rfl
theorem manyL_more (one : List Tok → P.Res CO) (word : List UInt8) (op : Int) (f : Nat) (x : CO) {ts : List Tok} (h : P.isS word ts = true) : P.manyL one word op (f + 1) x ts = (match one ts.tail with
      | .error p => .error p
      | .ok (a, r) => P.manyL one word op f (.mk op 0 [] 0 [x, a]) r) := by
  conv => lhs; unfold P.manyL
  rw [h, if_pos rfl]
  rfl
/-- What a round leaves: E has the condition so far. -/
def ManyR (C g cap : Nat) (TS : List Tok) (pv : Value) (k E R : Nat) (one : List Tok → P.Res CO) (word : List UInt8) (op : Int) (w0 : World) (wr : World) : Prop :=
  ∃ (o m : Int) (s : ByteArray) (u : Int) (a : Option Addr) (n c k2 : Nat) (bad : Int), Blk wr E 27 #[.int .i64 o, .int .i64 m, .string s, .int .i64 u, .slice a n c] ∧ Blk wr R 27 zc ∧ Cur wr C g cap TS pv k2 bad ∧ Only (· = C) w0 wr ∧ k ≤ k2 ∧
    ((bad = -1 ∧ k < k2 ∧ ∃ x f, LC (Sm R E) wr (.agg #[.int .i64 o, .int .i64 m, .string s, .int .i64 u, .slice a n c]) x ∧ TS.length - k2 ≤ f ∧ P.manyF one word op (TS.drop k) = P.manyL one word op f x (TS.drop k2)) ∨ ∃ p : Nat, bad = (p : Nat) ∧ P.manyF one word op (TS.drop k) = .error p)
theorem many_round {C g cap : Nat} {TS : List Tok} {pv : Value} {k E k2 k7 n c n7 c7 f : Nat} {one : List Tok → P.Res CO} {word : List UInt8} {op : Int} {w w6 w7 : World} {x : CO} {o m u o7 m7 u7 bad7 : Int} {s s7 : ByteArray} {a a7 : Option Addr}
    (hCl : C < w.heap.size) (hgl : g < w.heap.size) (hE : w.heap.size < E) (hk2 : k < k2) (hq1 : k2 + 1 < TS.length) (hb : P.isS word (TS.drop k2) = true)
    (hf : TS.length - k2 ≤ f) (hS : P.manyF one word op (TS.drop k) = P.manyL one word op f x (TS.drop k2)) (hO6 : Only (· = C) w w6) (hE6 : Blk w6 E 27 #[.int .i64 o, .int .i64 m, .string s, .int .i64 u, .slice a n c]) (hR6 : Blk w6 w.heap.size 27 zc) (hX6 : LC (Sm w.heap.size E) w6 (.agg #[.int .i64 o, .int .i64 m, .string s, .int .i64 u, .slice a n c]) x)
    (hk7 : k2 + 1 ≤ k7) (hc7 : Cur w7 C g cap TS pv k7 bad7) (ho7 : Only (· = C) w6.drew w7) (hx7 : RC (From w6.drew.heap.size) w7 (.agg #[.int .i64 o7, .int .i64 m7, .string s7, .int .i64 u7, .slice a7 n7 c7]) TS (k2 + 1) k7 bad7 (one (TS.drop (k2 + 1)))) :
    ManyR C g cap TS pv k E w.heap.size one word op w ((((((w7.setCell ⟨E, 0, none⟩ (.int .i64 op)).setCell ⟨E, 1, none⟩ (.int .i64 0)).setCell ⟨E, 2, none⟩ (.string ⟨#[]⟩)).setCell ⟨E, 3, none⟩ (.int .i64 0)).setCell ⟨E, 4, none⟩ (.slice (some ⟨w7.heap.size, 0, none⟩) 2 2)).alloc (.cells #[.int .i64 o, .int .i64 m, .string s, .int .i64 u, .slice a n c, .int .i64 o7, .int .i64 m7, .string s7, .int .i64 u7, .slice a7 n7 c7] 27)) ∧ mAt C ((((((w7.setCell ⟨E, 0, none⟩ (.int .i64 op)).setCell ⟨E, 1, none⟩ (.int .i64 0)).setCell ⟨E, 2, none⟩ (.string ⟨#[]⟩)).setCell ⟨E, 3, none⟩ (.int .i64 0)).setCell ⟨E, 4, none⟩ (.slice (some ⟨w7.heap.size, 0, none⟩) 2 2)).alloc (.cells #[.int .i64 o, .int .i64 m, .string s, .int .i64 u, .slice a n c, .int .i64 o7, .int .i64 m7, .string s7, .int .i64 u7, .slice a7 n7 c7] 27)) = k7 := by
  have hEl := hE6.lt
  have ho7' : Only (· = C) w6 w7 := ((Only.refl (· = C) w6).drew).trans ho7
  have hs7 := ho7'.size
  have hE7 := hE6.only ho7' (by omega)
  have hR7 := hR6.only ho7' (by omega)
  have hX7 := hX6.keep (Keeps.only ho7' (by intro q hq e; have := hq.1; omega))
  have hp4 : Only (fun b => b = E) w7 (((((w7.setCell ⟨E, 0, none⟩ (.int .i64 op)).setCell ⟨E, 1, none⟩ (.int .i64 0)).setCell ⟨E, 2, none⟩ (.string ⟨#[]⟩)).setCell ⟨E, 3, none⟩ (.int .i64 0)).setCell ⟨E, 4, none⟩ (.slice (some ⟨w7.heap.size, 0, none⟩) 2 2)) := Only.put5 (Only.refl (fun b => b = E) w7) (.inl rfl) _ _ _ _ _
  have hO8 := Only.put5 (hO6.trans ho7') (R := E) (.inr (by omega)) (.int .i64 op) (.int .i64 0) (.string ⟨#[]⟩) (.int .i64 0) (.slice (some ⟨w7.heap.size, 0, none⟩) 2 2)
  have hsz : ((((((w7.setCell ⟨E, 0, none⟩ (.int .i64 op)).setCell ⟨E, 1, none⟩ (.int .i64 0)).setCell ⟨E, 2, none⟩ (.string ⟨#[]⟩)).setCell ⟨E, 3, none⟩ (.int .i64 0)).setCell ⟨E, 4, none⟩ (.slice (some ⟨w7.heap.size, 0, none⟩) 2 2))).heap.size = w7.heap.size := by simp [World.setCell]
  have hbP := put5 (a' := .int .i64 op) (b' := .int .i64 0) (c' := .string ⟨#[]⟩) (d' := .int .i64 0) (f' := .slice (some ⟨w7.heap.size, 0, none⟩) 2 2) hE7
  generalize (((((w7.setCell ⟨E, 0, none⟩ (.int .i64 op)).setCell ⟨E, 1, none⟩ (.int .i64 0)).setCell ⟨E, 2, none⟩ (.string ⟨#[]⟩)).setCell ⟨E, 3, none⟩ (.int .i64 0)).setCell ⟨E, 4, none⟩ (.slice (some ⟨w7.heap.size, 0, none⟩) 2 2)) = w8 at *
  have hK := Blk.new w8 27 #[.int .i64 o, .int .i64 m, .string s, .int .i64 u, .slice a n c, .int .i64 o7, .int .i64 m7, .string s7, .int .i64 u7, .slice a7 n7 c7]
  have hb9 : Below w8.heap.size w8 (w8.alloc (.cells #[.int .i64 o, .int .i64 m, .string s, .int .i64 u, .slice a n c, .int .i64 o7, .int .i64 m7, .string s7, .int .i64 u7, .slice a7 n7 c7] 27)) := (Below.refl _ _).alloc (Nat.le_refl _) _
  generalize w8.alloc (.cells #[.int .i64 o, .int .i64 m, .string s, .int .i64 u, .slice a n c, .int .i64 o7, .int .i64 m7, .string s7, .int .i64 u7, .slice a7 n7 c7] 27) = w9 at *
  have hC9 := (hc7.other hp4 (by omega) (by omega)).below hb9
  have hR9 := (hR7.only hp4 (by omega)).live' hb9
  have hE9 := hbP.live' hb9
  have hX9 := (hX7.keep (Keeps.only hp4 (by intro q hq e; exact hq.2 e))).keep (Keeps.below hb9 (Nat.le_refl _))
  have hO9 : Only (· = C) w w9 := hO8.trans (Only.of_below hb9)
  rw [hsz] at hK
  obtain ⟨f', rfl⟩ : ∃ f', f = f' + 1 := ⟨f - 1, by omega⟩
  have hmo := manyL_more one word op f' x hb
  rw [List.tail_drop] at hmo
  refine ⟨⟨op, 0, ⟨#[]⟩, 0, some ⟨w7.heap.size, 0, none⟩, 2, 2, k7, bad7, hE9, hR9, hC9, hO9, by omega, ?_⟩, hC9.mAt⟩
  cases hat : one (TS.drop (k2 + 1)) with
  | error p =>
    rw [hat] at hx7 hmo
    exact .inr ⟨p, hx7, by rw [hS, hmo]⟩
  | ok y =>
    obtain ⟨y, ts⟩ := y
    rw [hat] at hx7 hmo
    obtain ⟨hy, hts, hkk, hbd⟩ := hx7
    have hY := LC.mono (Q := From w6.drew.heap.size) (Q' := Sm w.heap.size E) (by
      intro q hq _
      have h1 : w6.heap.size ≤ q := hq
      exact ⟨by omega, by omega⟩) _ hy
    have hY9 := (hY.keep (Keeps.only hp4 (by intro q hq e; exact hq.2 e))).keep (Keeps.below hb9 (Nat.le_refl _))
    refine .inl ⟨hbd, by omega, .mk op 0 [] 0 [x, y], f', lc_two (s := []) ⟨by omega, by omega⟩ hK hX9 hY9, by omega, ?_⟩
    rw [hS, hmo, ← hts]
set_option maxHeartbeats 3200000 in
theorem both_live (C g cap : Nat) (TS : List Tok) (pv : Value) (k : Nat) (one : List Tok → P.Res CO) (w : World) (h : Cur w C g cap TS pv k (-1)) (hr : ReadsC C g cap TS pv k 94 one) :
    Calls Try.prog 68 #[.pointer (some ⟨C, 0, none⟩)] w (CTo C g cap TS pv k (P.manyF one [97, 110, 100] 4 (TS.drop k)) w) := by
  have hlt := h.lt
  have hmx := h.max
  obtain ⟨hCl, hgl⟩ := h.lts
  have HC := Lib.hid h
  have HAT := Lib.hid (fun k' w' (hk : k ≤ k') (hc : Cur w' C g cap TS pv k' (-1)) => (hr k' w' hk hc).mono fun e w'' hh => bothc_of hh)
  clear h hr
  go_enter Try.func68, Try.ntmps68
  go_wp2_with fail
  have HC0 := Lib.hid (HC.out.below (w' := w.alloc (.cells zc 27)) ((Below.refl _ _).alloc (Nat.le_refl _) _))
  have HO0 := Lib.hid ((Only.refl (· = C) w).alloc (.cells zc 27))
  have HB0 := Lib.hid (Blk.new w 27 zc)
  have hsA : w.heap.size < (w.alloc (.cells zc 27)).heap.size := HB0.out.lt
  generalize w.alloc (.cells zc 27) = w0 at *
  with_reducible refine (HAT.out k _ (Nat.le_refl _) HC0.out).mono ?_
  rintro e w1 ⟨o, m, s, u, a, n, c, k1, bad1, rfl, hk1, hc1, ho1, hx1⟩
  have HB1 := Lib.hid (HB0.out.only ho1 (by omega))
  have HO1 := Lib.hid (HO0.out.trans ho1)
  have hs1 := ho1.size
  have HC1 := Lib.hid hc1
  have HX1 := Lib.hid hx1
  clear hc1 ho1 hx1
  go_wp2_with fail
  have HC2 := Lib.hid (HC1.out.below (w' := w1.alloc (.cells #[.int .i64 o, .int .i64 m, .string s, .int .i64 u, .slice a n c] 27)) ((Below.refl _ _).alloc (Nat.le_refl _) _))
  have HO2 := Lib.hid (HO1.out.alloc (.cells #[.int .i64 o, .int .i64 m, .string s, .int .i64 u, .slice a n c] 27))
  have HB2 := Lib.hid (HB1.out.alloc (.cells #[.int .i64 o, .int .i64 m, .string s, .int .i64 u, .slice a n c] 27))
  have HE2 := Lib.hid (Blk.new w1 27 #[.int .i64 o, .int .i64 m, .string s, .int .i64 u, .slice a n c])
  have HK2 := Lib.hid (show Keeps (fun _ => True) w1 (w1.alloc (.cells #[.int .i64 o, .int .i64 m, .string s, .int .i64 u, .slice a n c] 27)) from Keeps.below ((Below.refl _ _).alloc (Nat.le_refl _) _) (Nat.le_refl _))
  have H0 : Hid (ManyR C g cap TS pv k w1.heap.size w.heap.size one [97, 110, 100] 4 w (w1.alloc (.cells #[.int .i64 o, .int .i64 m, .string s, .int .i64 u, .slice a n c] 27))) := by
    refine Lib.hid ⟨o, m, s, u, a, n, c, k1, bad1, HE2.out, HB2.out, HC2.out, HO2.out, hk1, ?_⟩
    have hx := HX1.out
    cases hat : one (TS.drop k) with
    | error p =>
      rw [hat] at hx
      refine .inr ⟨p, hx, ?_⟩
      unfold P.manyF
      rw [hat]
    | ok x =>
      obtain ⟨x, ts⟩ := x
      rw [hat] at hx
      obtain ⟨hx, hts, hkk, hbd⟩ := hx
      refine .inl ⟨hbd, hkk, x, ts.length, LC.keep (w := w1) (fun q hq hl => HK2.out q trivial hl) _ (LC.mono (Q := From w0.heap.size) (by intro q hq hl; unfold From at hq; exact ⟨by omega, by omega⟩) _ hx), by rw [hts, List.length_drop]; omega, ?_⟩
      conv => lhs; unfold P.manyF
      rw [hat, hts]
  have hE : w.heap.size < w1.heap.size := by omega
  generalize hw2 : w1.alloc (.cells #[.int .i64 o, .int .i64 m, .string s, .int .i64 u, .slice a n c] 27) = w2 at *
  generalize w1.heap.size = E at *
  clear HC1 HX1 HC2 HO2 HB2 HE2 HK2 hw2 HO1 HB1 HC0 HO0 HB0 hs1
  go_wp2_with fail
  go_loopw [7] (fun _ wr => ManyR C g cap TS pv k E w.heap.size one [97, 110, 100] 4 w wr) (fun _ wr => TS.length - mAt C wr)
  case atStart => exact H0.out
  case round =>
    obtain ⟨o, m, s, u, a, n, c, k2, bad, hE2, hR2, hc2, ho2, hkk, hcase⟩ := hrel
    have HE := Lib.hid hE2
    have HRB := Lib.hid hR2
    have HC2 := Lib.hid hc2
    have HO2 := Lib.hid ho2
    have HM0 := Lib.hid hc2.mAt
    clear hE2 hR2 hc2 ho2
    rcases hcase with ⟨rfl, hk2, x, f, hlx, hf, hsum⟩ | ⟨p, rfl, hsum⟩
    · have HLX := Lib.hid hlx
      have HS := Lib.hid hsum
      clear hlx hsum
      have HIS := is_live C g cap TS pv k2 ⟨#[97, 110, 100]⟩ wr HC2.out
      rw [show by' (⟨#[97, 110, 100]⟩ : ByteArray) = [97, 110, 100] from rfl] at HIS
      cases hw : P.isS [97, 110, 100] (TS.drop k2)
      · have HW := Lib.hid hw
        rw [hw] at HIS
        clear hw
        have HST := Lib.hid (show P.manyF one [97, 110, 100] 4 (TS.drop k) = .ok (x, TS.drop k2) by rw [HS.out]; exact manyL_stop one _ _ f x HW.out)
        have HI := Lib.hid HIS
        clear HIS
        go_wp2_with fail
        with_reducible refine HI.out.mono ?_
        rintro e wi ⟨rfl, hbi⟩
        have HC2 := Lib.hid (HC2.out.below hbi)
        have HO2 := Lib.hid (HO2.out.trans (Only.of_below hbi))
        have HE := Lib.hid (HE.out.live' hbi)
        have HRB := Lib.hid (HRB.out.live' hbi)
        have HLX := Lib.hid (HLX.out.keep (Keeps.below hbi (Nat.le_refl _)))
        clear hbi
        obtain ⟨c0, c1, c2, c3, c4, f0, f1, f2, f3, f4⟩ := five_free HRB.out
        obtain ⟨d0, d1, d2, d3, d4, _, _, _, _, _⟩ := five_free HE.out
        go_wp2_with fail
        refine bodyPost_ret (results_cell_row (p := 2) rfl _ _ w.heap.size 27 #[.int .i64 o, .int .i64 m, .string s, .int .i64 u, .slice a n c] (0, 0) _ rfl (put5 HRB.out) Try.underlying27 rfl (by kernel_rfl)) rfl ?_
        rw [HST.out]
        exact ⟨_, k2, rfl, LC.mono (Q := Sm w.heap.size E) (by intro q hq _; have := hq.1; show w.heap.size ≤ q; omega) _ (HLX.out.keep (Keeps.only (S := fun b => b = w.heap.size) (Only.put5 (Only.refl (fun b => b = w.heap.size) _) (.inl rfl) _ _ _ _ _) (by intro q hq e; have := hq.1; omega))), rfl, hk2, HC2.out.put5 (by omega) (by omega) _ _ _ _ _, Only.put5 HO2.out (.inr (Nat.le_refl _)) _ _ _ _ _⟩
      · have HW := Lib.hid hw
        rw [hw] at HIS
        clear hw
        have hq1 : k2 + 1 < TS.length := HC2.out.more (isS_kind (s := [97, 110, 100]) (by rw [← drop_tat HC2.out.lt]; exact HW.out))
        have HI := Lib.hid HIS
        clear HIS
        go_wp2_with fail
        with_reducible refine HI.out.mono ?_
        rintro e wi ⟨rfl, hbi⟩
        have HC2 := Lib.hid (HC2.out.below hbi)
        have HO2 := Lib.hid (HO2.out.trans (Only.of_below hbi))
        have HE := Lib.hid (HE.out.live' hbi)
        have HRB := Lib.hid (HRB.out.live' hbi)
        have HLX := Lib.hid (HLX.out.keep (Keeps.below hbi (Nat.le_refl _)))
        clear hbi
        obtain ⟨b0, b1, b2, b3, fb1, _, _⟩ := HC2.out.cells
        go_upto_region 4 with (fail)
        have HC6 := Lib.hid (HC2.out.step hq1)
        have HO6 := Lib.hid (HO2.out.trans (Only.step (.int .i64 ((k2 : Int) + 1))))
        have HE6 := Lib.hid (HE.out.only (Only.step (C := C) (.int .i64 ((k2 : Int) + 1))) (by omega))
        have HR6 := Lib.hid (HRB.out.only (Only.step (C := C) (.int .i64 ((k2 : Int) + 1))) (by omega))
        have HX6 := Lib.hid (HLX.out.keep (Keeps.only (Only.step (C := C) (.int .i64 ((k2 : Int) + 1))) (by intro q hq e; have := hq.1; omega)))
        clear b0 b1 b2 b3 fb1
        generalize World.setCell _ ⟨C, 1, none⟩ (.int .i64 ((k2 : Int) + 1)) = w6 at *
        have HAT2 := Lib.hid (fun w' hc => HAT.out (k2 + 1) w' (by omega) hc)
        obtain ⟨d0, d1, d2, d3, d4, g0, g1, g2, g3, g4⟩ := five_free HE6.out
        have hEl := HE6.out.lt
        go_region_with ((go_at_call 94; (with_reducible refine (HAT2.out _ HC6.out.drew).mono ?_); rintro e w7 ⟨o7, m7, s7, u7, a7, n7, c7, k7, bad7, rfl, hk7, hc7, ho7, hx7⟩; have hE7 := (HE6.out.only (S := (· = C)) ((Only.refl (· = C) w6).drew) (by omega)).only ho7 (by omega); have hl7 := hE7.lt; obtain ⟨p0, p1, p2, p3, p4, r0, r1, r2, r3, r4⟩ := five_free hE7))
        all_goals
          go_wp2_with fail
          go_roundw
          case rel => exact (many_round hCl hgl hE hk2 hq1 HW.out hf HS.out HO6.out HE6.out HR6.out HX6.out hk7 hc7 ho7 hx7).1
          case measure =>
            rw [(many_round hCl hgl hE hk2 hq1 HW.out hf HS.out HO6.out HE6.out HR6.out HX6.out hk7 hc7 ho7 hx7).2, HM0.out]
            omega
    · have HS := Lib.hid hsum
      clear hsum
      go_wp2_with fail
      with_reducible refine (is_dead C g cap TS pv k2 p ⟨#[97, 110, 100]⟩ _ HC2.out (by omega)).mono ?_
      rintro e w4 ⟨rfl, hb4⟩
      have HC4 := Lib.hid (HC2.out.below hb4)
      have HO4 := Lib.hid (HO2.out.trans (Only.of_below hb4))
      have HE4 := Lib.hid (HE.out.live' hb4)
      have HR4 := Lib.hid (HRB.out.live' hb4)
      clear hb4
      obtain ⟨c0, c1, c2, c3, c4, f0, f1, f2, f3, f4⟩ := five_free HR4.out
      obtain ⟨d0, d1, d2, d3, d4, _, _, _, _, _⟩ := five_free HE4.out
      go_wp2_with fail
      refine bodyPost_ret (results_cell_row (p := 2) rfl _ _ w.heap.size 27 #[.int .i64 o, .int .i64 m, .string s, .int .i64 u, .slice a n c] (0, 0) _ rfl (put5 HR4.out) Try.underlying27 rfl (by kernel_rfl)) rfl ?_
      rw [HS.out]
      exact ⟨_, k2, rfl, ⟨_, _, _, _, _, _, _, rfl⟩, hkk, HC4.out.put5 (by omega) (by omega) _ _ _ _ _, Only.put5 HO4.out (.inr (Nat.le_refl _)) _ _ _ _ _⟩
set_option maxHeartbeats 3200000 in
theorem cond_live (C g cap : Nat) (TS : List Tok) (pv : Value) (k : Nat) (one : List Tok → P.Res CO) (w : World) (h : Cur w C g cap TS pv k (-1)) (hr : ReadsC C g cap TS pv k 68 one) :
    Calls Try.prog 39 #[.pointer (some ⟨C, 0, none⟩)] w (CTo C g cap TS pv k (P.manyF one [111, 114] 5 (TS.drop k)) w) := by
  have hlt := h.lt
  have hmx := h.max
  obtain ⟨hCl, hgl⟩ := h.lts
  have HC := Lib.hid h
  have HAT := Lib.hid (fun k' w' (hk : k ≤ k') (hc : Cur w' C g cap TS pv k' (-1)) => (hr k' w' hk hc).mono fun e w'' hh => bothc_of hh)
  clear h hr
  obtain ⟨cb0, cb1, cb2, cb3, _, _, _⟩ := HC.out.cells
  go_enter Try.func39, Try.ntmps39
  go_wp2_with fail
  have HC0 := Lib.hid (HC.out.below (w' := w.alloc (.cells zc 27)) ((Below.refl _ _).alloc (Nat.le_refl _) _))
  have HO0 := Lib.hid ((Only.refl (· = C) w).alloc (.cells zc 27))
  have HB0 := Lib.hid (Blk.new w 27 zc)
  have hsA : w.heap.size < (w.alloc (.cells zc 27)).heap.size := HB0.out.lt
  generalize w.alloc (.cells zc 27) = w0 at *
  with_reducible refine (HAT.out k _ (Nat.le_refl _) HC0.out).mono ?_
  rintro e w1 ⟨o, m, s, u, a, n, c, k1, bad1, rfl, hk1, hc1, ho1, hx1⟩
  have HB1 := Lib.hid (HB0.out.only ho1 (by omega))
  have HO1 := Lib.hid (HO0.out.trans ho1)
  have hs1 := ho1.size
  have HC1 := Lib.hid hc1
  have HX1 := Lib.hid hx1
  clear hc1 ho1 hx1
  go_wp2_with fail
  have HC2 := Lib.hid (HC1.out.below (w' := w1.alloc (.cells #[.int .i64 o, .int .i64 m, .string s, .int .i64 u, .slice a n c] 27)) ((Below.refl _ _).alloc (Nat.le_refl _) _))
  have HO2 := Lib.hid (HO1.out.alloc (.cells #[.int .i64 o, .int .i64 m, .string s, .int .i64 u, .slice a n c] 27))
  have HB2 := Lib.hid (HB1.out.alloc (.cells #[.int .i64 o, .int .i64 m, .string s, .int .i64 u, .slice a n c] 27))
  have HE2 := Lib.hid (Blk.new w1 27 #[.int .i64 o, .int .i64 m, .string s, .int .i64 u, .slice a n c])
  have HK2 := Lib.hid (show Keeps (fun _ => True) w1 (w1.alloc (.cells #[.int .i64 o, .int .i64 m, .string s, .int .i64 u, .slice a n c] 27)) from Keeps.below ((Below.refl _ _).alloc (Nat.le_refl _) _) (Nat.le_refl _))
  have H0 : Hid (ManyR C g cap TS pv k w1.heap.size w.heap.size one [111, 114] 5 w (w1.alloc (.cells #[.int .i64 o, .int .i64 m, .string s, .int .i64 u, .slice a n c] 27))) := by
    refine Lib.hid ⟨o, m, s, u, a, n, c, k1, bad1, HE2.out, HB2.out, HC2.out, HO2.out, hk1, ?_⟩
    have hx := HX1.out
    cases hat : one (TS.drop k) with
    | error p =>
      rw [hat] at hx
      refine .inr ⟨p, hx, ?_⟩
      unfold P.manyF
      rw [hat]
    | ok x =>
      obtain ⟨x, ts⟩ := x
      rw [hat] at hx
      obtain ⟨hx, hts, hkk, hbd⟩ := hx
      refine .inl ⟨hbd, hkk, x, ts.length, LC.keep (w := w1) (fun q hq hl => HK2.out q trivial hl) _ (LC.mono (Q := From w0.heap.size) (by intro q hq hl; unfold From at hq; exact ⟨by omega, by omega⟩) _ hx), by rw [hts, List.length_drop]; omega, ?_⟩
      conv => lhs; unfold P.manyF
      rw [hat, hts]
  have hE : w.heap.size < w1.heap.size := by omega
  generalize hw2 : w1.alloc (.cells #[.int .i64 o, .int .i64 m, .string s, .int .i64 u, .slice a n c] 27) = w2 at *
  generalize w1.heap.size = E at *
  clear HC1 HX1 HC2 HO2 HB2 HE2 HK2 hw2 HO1 HB1 HC0 HO0 HB0 hs1
  go_wp2_with fail
  go_loopw [13] (fun _ wr => ManyR C g cap TS pv k E w.heap.size one [111, 114] 5 w wr) (fun _ wr => TS.length - mAt C wr)
  case atStart => exact H0.out
  case round =>
    obtain ⟨o, m, s, u, a, n, c, k2, bad, hE2, hR2, hc2, ho2, hkk, hcase⟩ := hrel
    have HE := Lib.hid hE2
    have HRB := Lib.hid hR2
    have HC2 := Lib.hid hc2
    have HO2 := Lib.hid ho2
    have HM0 := Lib.hid hc2.mAt
    clear hE2 hR2 hc2 ho2
    rcases hcase with ⟨rfl, hk2, x, f, hlx, hf, hsum⟩ | ⟨p, rfl, hsum⟩
    · have HLX := Lib.hid hlx
      have HS := Lib.hid hsum
      clear hlx hsum
      have HIS := is_live C g cap TS pv k2 ⟨#[111, 114]⟩ wr HC2.out
      rw [show by' (⟨#[111, 114]⟩ : ByteArray) = [111, 114] from rfl] at HIS
      cases hw : P.isS [111, 114] (TS.drop k2)
      · have HW := Lib.hid hw
        rw [hw] at HIS
        clear hw
        have HST := Lib.hid (show P.manyF one [111, 114] 5 (TS.drop k) = .ok (x, TS.drop k2) by rw [HS.out]; exact manyL_stop one _ _ f x HW.out)
        have HI := Lib.hid HIS
        clear HIS
        go_wp2_with fail
        with_reducible refine HI.out.mono ?_
        rintro e wi ⟨rfl, hbi⟩
        have HC2 := Lib.hid (HC2.out.below hbi)
        have HO2 := Lib.hid (HO2.out.trans (Only.of_below hbi))
        have HE := Lib.hid (HE.out.live' hbi)
        have HRB := Lib.hid (HRB.out.live' hbi)
        have HLX := Lib.hid (HLX.out.keep (Keeps.below hbi (Nat.le_refl _)))
        clear hbi
        obtain ⟨c0, c1, c2, c3, c4, f0, f1, f2, f3, f4⟩ := five_free HRB.out
        obtain ⟨d0, d1, d2, d3, d4, _, _, _, _, _⟩ := five_free HE.out
        go_wp2_with fail
        refine bodyPost_ret (results_cell_row (p := 2) rfl _ _ w.heap.size 27 #[.int .i64 o, .int .i64 m, .string s, .int .i64 u, .slice a n c] (0, 0) _ rfl (put5 HRB.out) Try.underlying27 rfl (by kernel_rfl)) rfl ?_
        rw [HST.out]
        exact ⟨_, k2, rfl, LC.mono (Q := Sm w.heap.size E) (by intro q hq _; have := hq.1; show w.heap.size ≤ q; omega) _ (HLX.out.keep (Keeps.only (S := fun b => b = w.heap.size) (Only.put5 (Only.refl (fun b => b = w.heap.size) _) (.inl rfl) _ _ _ _ _) (by intro q hq e; have := hq.1; omega))), rfl, hk2, HC2.out.put5 (by omega) (by omega) _ _ _ _ _, Only.put5 HO2.out (.inr (Nat.le_refl _)) _ _ _ _ _⟩
      · have HW := Lib.hid hw
        rw [hw] at HIS
        clear hw
        have hq1 : k2 + 1 < TS.length := HC2.out.more (isS_kind (s := [111, 114]) (by rw [← drop_tat HC2.out.lt]; exact HW.out))
        have HI := Lib.hid HIS
        clear HIS
        go_wp2_with fail
        with_reducible refine HI.out.mono ?_
        rintro e wi ⟨rfl, hbi⟩
        have HC2 := Lib.hid (HC2.out.below hbi)
        have HO2 := Lib.hid (HO2.out.trans (Only.of_below hbi))
        have HE := Lib.hid (HE.out.live' hbi)
        have HRB := Lib.hid (HRB.out.live' hbi)
        have HLX := Lib.hid (HLX.out.keep (Keeps.below hbi (Nat.le_refl _)))
        clear hbi
        obtain ⟨b0, b1, b2, b3, fb1, _, _⟩ := HC2.out.cells
        go_upto_region 6 with (fail)
        have HC6 := Lib.hid (HC2.out.step hq1)
        have HO6 := Lib.hid (HO2.out.trans (Only.step (.int .i64 ((k2 : Int) + 1))))
        have HE6 := Lib.hid (HE.out.only (Only.step (C := C) (.int .i64 ((k2 : Int) + 1))) (by omega))
        have HR6 := Lib.hid (HRB.out.only (Only.step (C := C) (.int .i64 ((k2 : Int) + 1))) (by omega))
        have HX6 := Lib.hid (HLX.out.keep (Keeps.only (Only.step (C := C) (.int .i64 ((k2 : Int) + 1))) (by intro q hq e; have := hq.1; omega)))
        clear b0 b1 b2 b3 fb1
        generalize World.setCell _ ⟨C, 1, none⟩ (.int .i64 ((k2 : Int) + 1)) = w6 at *
        have HAT2 := Lib.hid (fun w' hc => HAT.out (k2 + 1) w' (by omega) hc)
        obtain ⟨d0, d1, d2, d3, d4, g0, g1, g2, g3, g4⟩ := five_free HE6.out
        have hEl := HE6.out.lt
        go_region_with ((go_at_call 68; (with_reducible refine (HAT2.out _ HC6.out.drew).mono ?_); rintro e w7 ⟨o7, m7, s7, u7, a7, n7, c7, k7, bad7, rfl, hk7, hc7, ho7, hx7⟩; have hE7 := (HE6.out.only (S := (· = C)) ((Only.refl (· = C) w6).drew) (by omega)).only ho7 (by omega); have hl7 := hE7.lt; obtain ⟨p0, p1, p2, p3, p4, r0, r1, r2, r3, r4⟩ := five_free hE7))
        all_goals
          go_wp2_with fail
          go_roundw
          case rel => exact (many_round hCl hgl hE hk2 hq1 HW.out hf HS.out HO6.out HE6.out HR6.out HX6.out hk7 hc7 ho7 hx7).1
          case measure =>
            rw [(many_round hCl hgl hE hk2 hq1 HW.out hf HS.out HO6.out HE6.out HR6.out HX6.out hk7 hc7 ho7 hx7).2, HM0.out]
            omega
    · have HS := Lib.hid hsum
      clear hsum
      go_wp2_with fail
      with_reducible refine (is_dead C g cap TS pv k2 p ⟨#[111, 114]⟩ _ HC2.out (by omega)).mono ?_
      rintro e w4 ⟨rfl, hb4⟩
      have HC4 := Lib.hid (HC2.out.below hb4)
      have HO4 := Lib.hid (HO2.out.trans (Only.of_below hb4))
      have HE4 := Lib.hid (HE.out.live' hb4)
      have HR4 := Lib.hid (HRB.out.live' hb4)
      clear hb4
      obtain ⟨c0, c1, c2, c3, c4, f0, f1, f2, f3, f4⟩ := five_free HR4.out
      obtain ⟨d0, d1, d2, d3, d4, _, _, _, _, _⟩ := five_free HE4.out
      go_wp2_with fail
      refine bodyPost_ret (results_cell_row (p := 2) rfl _ _ w.heap.size 27 #[.int .i64 o, .int .i64 m, .string s, .int .i64 u, .slice a n c] (0, 0) _ rfl (put5 HR4.out) Try.underlying27 rfl (by kernel_rfl)) rfl ?_
      rw [HS.out]
      exact ⟨_, k2, rfl, ⟨_, _, _, _, _, _, _, rfl⟩, hkk, HC4.out.put5 (by omega) (by omega) _ _ _ _ _, Only.put5 HO4.out (.inr (Nat.le_refl _)) _ _ _ _ _⟩
end Go.Proofs.Ytikihomablmcnaa.Lx
/-
  What one of the document's cursor tells, as a contract.
-/
namespace Go.Proofs.Ytikihomablmcnaa.Lx
open Go.RowKit
open L (Tok)
open P (CO)
set_option maxRecDepth 100000
set_option linter.unusedVariables false
set_option linter.unusedSimpArgs false
set_option maxHeartbeats 3200000 in
theorem lit_name (C g cap : Nat) (TS : List Tok) (pv : Value) (k n : Nat) (w : World) (h : Cur w C g cap TS pv k (-1)) (hn : P.isS [110, 111, 116] (TS.drop k) = false) (hp : P.isS [40] (TS.drop k) = false) (hd : P.isD (TS.drop k) = false) :
    Calls Try.prog 94 #[.pointer (some ⟨C, 0, none⟩)] w (CTo C g cap TS pv k (P.litF (TS.drop k)) w) := by
  have HD := Lib.hid hd
  have HNO := Lib.hid (num_no h.lt hd)
  clear hd
  have HNT := Lib.hid hn
  have HPA := Lib.hid hp
  clear hn hp
  have hlt := h.lt
  have hmx := h.max
  obtain ⟨hCl, hgl⟩ := h.lts
  have HC := Lib.hid h
  clear h
  go_enter Try.func94, Try.ntmps94
  go_wp2_with fail
  have HO := Lib.hid ((Only.refl (· = C) w).alloc (.cells zc 27))
  have HR := Lib.hid (Blk.new w 27 zc)
  have HC := Lib.hid (HC.out.below (w' := w.alloc (.cells zc 27)) ((Below.refl _ _).alloc (Nat.le_refl _) _))
  have hsA : w.heap.size < (w.alloc (.cells zc 27)).heap.size := HR.out.lt
  generalize w.alloc (.cells zc 27) = w0 at *
  with_reducible refine (is_live C g cap TS pv k ⟨#[110, 111, 116]⟩ _ HC.out).mono ?_
  rintro e wi1 ⟨rfl, hbi⟩
  rw [show by' (⟨#[110, 111, 116]⟩ : ByteArray) = [110, 111, 116] from rfl, HNT.out]
  have hsz1 := hbi.size
  have HC := Lib.hid (HC.out.below hbi)
  have HO := Lib.hid (HO.out.trans (Only.of_below hbi))
  have HR := Lib.hid (HR.out.live' hbi)
  clear hbi
  go_wp2_with fail
  with_reducible refine (is_live C g cap TS pv k ⟨#[40]⟩ _ HC.out).mono ?_
  rintro e wi2 ⟨rfl, hbi⟩
  rw [show by' (⟨#[40]⟩ : ByteArray) = [40] from rfl, HPA.out]
  have hsz2 := hbi.size
  have HC := Lib.hid (HC.out.below hbi)
  have HO := Lib.hid (HO.out.trans (Only.of_below hbi))
  have HR := Lib.hid (HR.out.live' hbi)
  clear hbi
  go_wp2_with fail
  have HO := Lib.hid (HO.out.alloc (.cells #[.int .i64 1, .int .i64 0, .string ⟨#[]⟩, .int .i64 0, .slice none 0 0] 27))
  have HR := Lib.hid (HR.out.alloc (.cells #[.int .i64 1, .int .i64 0, .string ⟨#[]⟩, .int .i64 0, .slice none 0 0] 27))
  have HX := Lib.hid (Blk.new wi2 27 #[.int .i64 1, .int .i64 0, .string ⟨#[]⟩, .int .i64 0, .slice none 0 0])
  have HC := Lib.hid (HC.out.below (w' := wi2.alloc (.cells #[.int .i64 1, .int .i64 0, .string ⟨#[]⟩, .int .i64 0, .slice none 0 0] 27)) ((Below.refl _ _).alloc (Nat.le_refl _) _))
  have hXl : w.heap.size < wi2.heap.size := by omega
  have hXs : wi2.heap.size < (wi2.alloc (.cells #[.int .i64 1, .int .i64 0, .string ⟨#[]⟩, .int .i64 0, .slice none 0 0] 27)).heap.size := HX.out.lt
  generalize wi2.alloc (.cells #[.int .i64 1, .int .i64 0, .string ⟨#[]⟩, .int .i64 0, .slice none 0 0] 27) = wx at *
  generalize wi2.heap.size = X at *
  with_reducible refine (isNumber_live C g cap TS pv k _ HC.out).mono ?_
  rintro e wb ⟨rfl, hbi⟩
  rw [HD.out]
  have HC := Lib.hid (HC.out.below hbi)
  have HO := Lib.hid (HO.out.trans (Only.of_below hbi))
  have HR := Lib.hid (HR.out.live' hbi)
  have HX := Lib.hid (HX.out.live' hbi)
  clear hbi
  obtain ⟨x0, x1, x2, x3, x4, y0, y1, y2, y3, y4⟩ := five_free HX.out
  obtain ⟨b0, b1, b2, b3, _, _, _⟩ := HC.out.cells
  go_wp2_with fail
  clear x0 x1 x2 x3 x4 y0 y1 y2 y3 y4 b0 b1 b2 b3
  have hnm := name_live C g cap TS pv k _ HC.out
  cases hN : P.pName (TS.drop k) with
  | error p =>
    rw [hN] at hnm
    have HST := Lib.hid (show P.litF (TS.drop k) = .error p by simp only [P.litF, HNO.out, hN])
    clear hN
    with_reducible refine hnm.mono ?_
    clear hnm
    rintro e wn ⟨v, k3, rfl, ⟨s, rfl⟩, hk3, hc3, ho3⟩
    have HR := Lib.hid (HR.out.only ho3 (by omega))
    have HX := Lib.hid (HX.out.only ho3 (by omega))
    have hsN := ho3.size
    have HO := Lib.hid (HO.out.trans ho3)
    have HC := Lib.hid hc3
    clear hc3 ho3
    obtain ⟨x0, x1, x2, x3, x4, y0, y1, y2, y3, y4⟩ := five_free HX.out
    obtain ⟨b0, b1, b2, b3, _, _, _⟩ := HC.out.cells
    go_wp2_with fail
    clear x0 x1 x2 x3 x4 y0 y1 y2 y3 y4 b0 b1 b2 b3
    have hoX : Only (fun b => b = X) wn (wn.setCell ⟨X, 2, none⟩ (.string s)) := (Only.refl (fun b => b = X) wn).setCell (p := ⟨X, 2, none⟩) (.inl rfl) _
    have HC := Lib.hid (HC.out.other hoX (by omega) (by omega))
    have HR := Lib.hid (HR.out.only hoX (by omega))
    have HX := Lib.hid (HX.out.set 2 (.string s))
    have HO := Lib.hid (HO.out.setCell (p := ⟨X, 2, none⟩) (.inr (show w.heap.size ≤ X by omega)) (.string s))
    clear hoX
    generalize wn.setCell ⟨X, 2, none⟩ (.string s) = wm at *
    with_reducible refine (need_dead C g cap TS pv k3 p ⟨#[61, 61]⟩ _ HC.out (by omega)).mono ?_
    rintro e wd ⟨rfl, hbd⟩
    have HC := Lib.hid (HC.out.below hbd)
    have HO := Lib.hid (HO.out.trans (Only.of_below hbd))
    have HR := Lib.hid (HR.out.live' hbd)
    have HX := Lib.hid (HX.out.live' hbd)
    clear hbd
    obtain ⟨c0, c1, c2, c3, c4, f0, f1, f2, f3, f4⟩ := five_free HR.out
    obtain ⟨x0, x1, x2, x3, x4, _, _, _, _, _⟩ := five_free HX.out
    obtain ⟨b0, b1, b2, b3, _, _, _⟩ := HC.out.cells
    go_wp2_with fail
    refine bodyPost_ret (results_cell_row (p := 2) rfl _ _ w.heap.size 27 #[.int .i64 1, .int .i64 0, .string s, .int .i64 0, .slice none 0 0] (0, 0) _ rfl (put5 HR.out) Try.underlying27 rfl (by kernel_rfl)) rfl ?_
    rw [HST.out]
    exact ⟨_, k3, rfl, ⟨_, _, _, _, _, _, _, rfl⟩, by omega, HC.out.put5 (by omega) (by omega) _ _ _ _ _, Only.put5 HO.out (.inr (Nat.le_refl _)) _ _ _ _ _⟩
  | ok q =>
    obtain ⟨nm, r3⟩ := q
    rw [hN] at hnm
    have HN := Lib.hid hN
    clear hN
    with_reducible refine hnm.mono ?_
    clear hnm
    rintro e wn ⟨v, k3, rfl, hv, rfl, hk3, hc3, ho3⟩
    obtain rfl : v = .string (bs nm) := hv
    have HR := Lib.hid (HR.out.only ho3 (by omega))
    have HX := Lib.hid (HX.out.only ho3 (by omega))
    have hsN := ho3.size
    have HO := Lib.hid (HO.out.trans ho3)
    have HC := Lib.hid hc3
    clear hc3 ho3
    obtain ⟨x0, x1, x2, x3, x4, y0, y1, y2, y3, y4⟩ := five_free HX.out
    obtain ⟨b0, b1, b2, b3, _, _, _⟩ := HC.out.cells
    go_wp2_with fail
    clear x0 x1 x2 x3 x4 y0 y1 y2 y3 y4 b0 b1 b2 b3
    have hoX : Only (fun b => b = X) wn (wn.setCell ⟨X, 2, none⟩ (.string (bs nm))) := (Only.refl (fun b => b = X) wn).setCell (p := ⟨X, 2, none⟩) (.inl rfl) _
    have HC := Lib.hid (HC.out.other hoX (by omega) (by omega))
    have HR := Lib.hid (HR.out.only hoX (by omega))
    have HX := Lib.hid (HX.out.set 2 (.string (bs nm)))
    have HO := Lib.hid (HO.out.setCell (p := ⟨X, 2, none⟩) (.inr (show w.heap.size ≤ X by omega)) (.string (bs nm)))
    clear hoX
    generalize wn.setCell ⟨X, 2, none⟩ (.string (bs nm)) = wm at *
    have hnd := need_live C g cap TS pv k3 ⟨#[61, 61]⟩ _ HC.out
    rw [show by' (⟨#[61, 61]⟩ : ByteArray) = [61, 61] from rfl] at hnd
    cases hE : P.need [61, 61] (TS.drop k3) with
    | error p =>
      rw [hE] at hnd
      have HST := Lib.hid (show P.litF (TS.drop k) = .error p by simp only [P.litF, HNO.out, HN.out, hE])
      clear hE
      with_reducible refine hnd.mono ?_
      clear hnd
      rintro e we ⟨rfl, ho4, hc4'⟩
      have hc4 : Cur we C g cap TS pv k3 (p : Nat) := hc4'
      clear hc4'
      have HR := Lib.hid (HR.out.only ho4 (by omega))
      have HX := Lib.hid (HX.out.only ho4 (by omega))
      have hsN := ho4.size
      have HO := Lib.hid (HO.out.trans ho4)
      have HC := Lib.hid hc4
      clear hc4 ho4
      obtain ⟨c0, c1, c2, c3, c4, f0, f1, f2, f3, f4⟩ := five_free HR.out
      obtain ⟨x0, x1, x2, x3, x4, _, _, _, _, _⟩ := five_free HX.out
      obtain ⟨b0, b1, b2, b3, _, _, _⟩ := HC.out.cells
      go_wp2_with fail
      refine bodyPost_ret (results_cell_row (p := 2) rfl _ _ w.heap.size 27 #[.int .i64 1, .int .i64 0, .string (bs nm), .int .i64 0, .slice none 0 0] (0, 0) _ rfl (put5 HR.out) Try.underlying27 rfl (by kernel_rfl)) rfl ?_
      rw [HST.out]
      exact ⟨_, k3, rfl, ⟨_, _, _, _, _, _, _, rfl⟩, by omega, HC.out.put5 (by omega) (by omega) _ _ _ _ _, Only.put5 HO.out (.inr (Nat.le_refl _)) _ _ _ _ _⟩
    | ok r4 =>
      rw [hE] at hnd
      have HQ := Lib.hid hE
      clear hE
      with_reducible refine hnd.mono ?_
      clear hnd
      rintro e we ⟨rfl, ho4, hr4, hc4'⟩
      have hc4 : Cur we C g cap TS pv (k3 + 1) (-1) := hc4'
      clear hc4'
      subst hr4
      have HR := Lib.hid (HR.out.only ho4 (by omega))
      have HX := Lib.hid (HX.out.only ho4 (by omega))
      have hsN := ho4.size
      have HO := Lib.hid (HO.out.trans ho4)
      have HC := Lib.hid hc4
      clear hc4 ho4
      obtain ⟨x0, x1, x2, x3, x4, y0, y1, y2, y3, y4⟩ := five_free HX.out
      obtain ⟨b0, b1, b2, b3, _, _, _⟩ := HC.out.cells
      go_wp2_with fail
      clear x0 x1 x2 x3 x4 y0 y1 y2 y3 y4 b0 b1 b2 b3
      have hnu := number_live C g cap TS pv (k3 + 1) _ HC.out
      cases hU : P.pNum (TS.drop (k3 + 1)) with
      | error p =>
        rw [hU] at hnu
        have HST := Lib.hid (show P.litF (TS.drop k) = .error p by simp only [P.litF, HNO.out, HN.out, HQ.out, hU])
        clear hU
        with_reducible refine hnu.mono ?_
        clear hnu
        rintro e wf ⟨v, k5, rfl, ⟨i, rfl⟩, hk5, hc5, ho5⟩
        have HR := Lib.hid (HR.out.only ho5 (by omega))
        have HX := Lib.hid (HX.out.only ho5 (by omega))
        have hsN := ho5.size
        have HO := Lib.hid (HO.out.trans ho5)
        have HC := Lib.hid hc5
        clear hc5 ho5
        obtain ⟨c0, c1, c2, c3, c4, f0, f1, f2, f3, f4⟩ := five_free HR.out
        obtain ⟨x0, x1, x2, x3, x4, y0, y1, y2, y3, y4⟩ := five_free HX.out
        have hXR : ¬ w.heap.size = X := by omega
        have hXR' : ¬ X = w.heap.size := by omega
        go_wp2_with fail
        have HC := Lib.hid (HC.out.other (w' := wf.setCell ⟨X, 3, none⟩ (.int .i64 i)) ((Only.refl (fun b => b = X) wf).setCell (p := ⟨X, 3, none⟩) (.inl rfl) _) (by omega) (by omega))
        have HR := Lib.hid (HR.out.only (w' := wf.setCell ⟨X, 3, none⟩ (.int .i64 i)) ((Only.refl (fun b => b = X) wf).setCell (p := ⟨X, 3, none⟩) (.inl rfl) _) (by omega))
        have HO := Lib.hid (HO.out.setCell (p := ⟨X, 3, none⟩) (.inr (show w.heap.size ≤ X by omega)) (.int .i64 i))
        refine bodyPost_ret (results_cell_row (p := 2) rfl _ _ w.heap.size 27 #[.int .i64 1, .int .i64 0, .string (bs nm), .int .i64 i, .slice none 0 0] (0, 0) _ rfl (put5 HR.out) Try.underlying27 rfl (by kernel_rfl)) rfl ?_
        rw [HST.out]
        exact ⟨_, k5, rfl, ⟨_, _, _, _, _, _, _, rfl⟩, by omega, HC.out.put5 (by omega) (by omega) _ _ _ _ _, Only.put5 HO.out (.inr (Nat.le_refl _)) _ _ _ _ _⟩
      | ok q =>
        obtain ⟨nn, r5⟩ := q
        rw [hU] at hnu
        have HST := Lib.hid (show P.litF (TS.drop k) = .ok (.mk 1 0 nm nn [], r5) by simp only [P.litF, HNO.out, HN.out, HQ.out, hU])
        clear hU
        with_reducible refine hnu.mono ?_
        clear hnu
        rintro e wf ⟨v, k5, rfl, hv, hr5, hk5, hc5, ho5⟩
        obtain rfl : v = .int .i64 (nn : Nat) := hv
        have HR := Lib.hid (HR.out.only ho5 (by omega))
        have HX := Lib.hid (HX.out.only ho5 (by omega))
        have hsN := ho5.size
        have HO := Lib.hid (HO.out.trans ho5)
        have HC := Lib.hid hc5
        clear hc5 ho5
        obtain ⟨c0, c1, c2, c3, c4, f0, f1, f2, f3, f4⟩ := five_free HR.out
        obtain ⟨x0, x1, x2, x3, x4, y0, y1, y2, y3, y4⟩ := five_free HX.out
        have hXR : ¬ w.heap.size = X := by omega
        have hXR' : ¬ X = w.heap.size := by omega
        go_wp2_with fail
        have HC := Lib.hid (HC.out.other (w' := wf.setCell ⟨X, 3, none⟩ (.int .i64 (nn : Nat))) ((Only.refl (fun b => b = X) wf).setCell (p := ⟨X, 3, none⟩) (.inl rfl) _) (by omega) (by omega))
        have HR := Lib.hid (HR.out.only (w' := wf.setCell ⟨X, 3, none⟩ (.int .i64 (nn : Nat))) ((Only.refl (fun b => b = X) wf).setCell (p := ⟨X, 3, none⟩) (.inl rfl) _) (by omega))
        have HO := Lib.hid (HO.out.setCell (p := ⟨X, 3, none⟩) (.inr (show w.heap.size ≤ X by omega)) (.int .i64 (nn : Nat)))
        refine bodyPost_ret (results_cell_row (p := 2) rfl _ _ w.heap.size 27 #[.int .i64 1, .int .i64 0, .string (bs nm), .int .i64 (nn : Nat), .slice none 0 0] (0, 0) _ rfl (put5 HR.out) Try.underlying27 rfl (by kernel_rfl)) rfl ?_
        rw [HST.out]
        exact ⟨_, k5, rfl, lc_leaf _ _ _ _ _ _ _ _, hr5, by omega, HC.out.put5 (by omega) (by omega) _ _ _ _ _, Only.put5 HO.out (.inr (Nat.le_refl _)) _ _ _ _ _⟩
set_option maxHeartbeats 3200000 in
theorem lit_num (C g cap : Nat) (TS : List Tok) (pv : Value) (k n : Nat) (w : World) (h : Cur w C g cap TS pv k (-1)) (hn : P.isS [110, 111, 116] (TS.drop k) = false) (hp : P.isS [40] (TS.drop k) = false) (hd : P.isD (TS.drop k) = true) :
    Calls Try.prog 94 #[.pointer (some ⟨C, 0, none⟩)] w (CTo C g cap TS pv k (P.litF (TS.drop k)) w) := by
  have HD := Lib.hid hd
  have HNO := Lib.hid (num_d h.lt hd)
  clear hd
  have HNT := Lib.hid hn
  have HPA := Lib.hid hp
  clear hn hp
  have hlt := h.lt
  have hmx := h.max
  obtain ⟨hCl, hgl⟩ := h.lts
  have HC := Lib.hid h
  clear h
  go_enter Try.func94, Try.ntmps94
  go_wp2_with fail
  have HO := Lib.hid ((Only.refl (· = C) w).alloc (.cells zc 27))
  have HR := Lib.hid (Blk.new w 27 zc)
  have HC := Lib.hid (HC.out.below (w' := w.alloc (.cells zc 27)) ((Below.refl _ _).alloc (Nat.le_refl _) _))
  have hsA : w.heap.size < (w.alloc (.cells zc 27)).heap.size := HR.out.lt
  generalize w.alloc (.cells zc 27) = w0 at *
  with_reducible refine (is_live C g cap TS pv k ⟨#[110, 111, 116]⟩ _ HC.out).mono ?_
  rintro e wi1 ⟨rfl, hbi⟩
  rw [show by' (⟨#[110, 111, 116]⟩ : ByteArray) = [110, 111, 116] from rfl, HNT.out]
  have hsz1 := hbi.size
  have HC := Lib.hid (HC.out.below hbi)
  have HO := Lib.hid (HO.out.trans (Only.of_below hbi))
  have HR := Lib.hid (HR.out.live' hbi)
  clear hbi
  go_wp2_with fail
  with_reducible refine (is_live C g cap TS pv k ⟨#[40]⟩ _ HC.out).mono ?_
  rintro e wi2 ⟨rfl, hbi⟩
  rw [show by' (⟨#[40]⟩ : ByteArray) = [40] from rfl, HPA.out]
  have hsz2 := hbi.size
  have HC := Lib.hid (HC.out.below hbi)
  have HO := Lib.hid (HO.out.trans (Only.of_below hbi))
  have HR := Lib.hid (HR.out.live' hbi)
  clear hbi
  go_wp2_with fail
  have HO := Lib.hid (HO.out.alloc (.cells #[.int .i64 1, .int .i64 0, .string ⟨#[]⟩, .int .i64 0, .slice none 0 0] 27))
  have HR := Lib.hid (HR.out.alloc (.cells #[.int .i64 1, .int .i64 0, .string ⟨#[]⟩, .int .i64 0, .slice none 0 0] 27))
  have HX := Lib.hid (Blk.new wi2 27 #[.int .i64 1, .int .i64 0, .string ⟨#[]⟩, .int .i64 0, .slice none 0 0])
  have HC := Lib.hid (HC.out.below (w' := wi2.alloc (.cells #[.int .i64 1, .int .i64 0, .string ⟨#[]⟩, .int .i64 0, .slice none 0 0] 27)) ((Below.refl _ _).alloc (Nat.le_refl _) _))
  have hXl : w.heap.size < wi2.heap.size := by omega
  have hXs : wi2.heap.size < (wi2.alloc (.cells #[.int .i64 1, .int .i64 0, .string ⟨#[]⟩, .int .i64 0, .slice none 0 0] 27)).heap.size := HX.out.lt
  generalize wi2.alloc (.cells #[.int .i64 1, .int .i64 0, .string ⟨#[]⟩, .int .i64 0, .slice none 0 0] 27) = wx at *
  generalize wi2.heap.size = X at *
  with_reducible refine (isNumber_live C g cap TS pv k _ HC.out).mono ?_
  rintro e wb ⟨rfl, hbi⟩
  rw [HD.out]
  have HC := Lib.hid (HC.out.below hbi)
  have HO := Lib.hid (HO.out.trans (Only.of_below hbi))
  have HR := Lib.hid (HR.out.live' hbi)
  have HX := Lib.hid (HX.out.live' hbi)
  clear hbi
  obtain ⟨x0, x1, x2, x3, x4, y0, y1, y2, y3, y4⟩ := five_free HX.out
  obtain ⟨b0, b1, b2, b3, _, _, _⟩ := HC.out.cells
  go_wp2_with fail
  clear x0 x1 x2 x3 x4 y0 y1 y2 y3 y4 b0 b1 b2 b3
  have hoX : Only (fun b => b = X) wb (wb.setCell ⟨X, 0, none⟩ (.int .i64 2)) := (Only.refl (fun b => b = X) wb).setCell (p := ⟨X, 0, none⟩) (.inl rfl) _
  have HC := Lib.hid (HC.out.other hoX (by omega) (by omega))
  have HR := Lib.hid (HR.out.only hoX (by omega))
  have HX := Lib.hid (HX.out.set 0 (.int .i64 2))
  have HO := Lib.hid (HO.out.setCell (p := ⟨X, 0, none⟩) (.inr (show w.heap.size ≤ X by omega)) (.int .i64 2))
  clear hoX
  generalize wb.setCell ⟨X, 0, none⟩ (.int .i64 2) = wc at *
  have hnu := number_live C g cap TS pv k _ HC.out
  rw [HNO.out] at hnu
  with_reducible refine hnu.mono ?_
  clear hnu
  rintro e wg ⟨v, k1, rfl, hv, hr1, hk1, hc1, ho1⟩
  obtain rfl : v = .int .i64 ((tat TS k).n : Nat) := hv
  generalize (tat TS k).n = tn at *
  rw [hr1] at HNO
  have HR := Lib.hid (HR.out.only ho1 (by omega))
  have HX := Lib.hid (HX.out.only ho1 (by omega))
  have hsN := ho1.size
  have HO := Lib.hid (HO.out.trans ho1)
  have HC := Lib.hid hc1
  clear hc1 ho1
  obtain ⟨x0, x1, x2, x3, x4, y0, y1, y2, y3, y4⟩ := five_free HX.out
  obtain ⟨b0, b1, b2, b3, _, _, _⟩ := HC.out.cells
  go_wp2_with fail
  clear x0 x1 x2 x3 x4 y0 y1 y2 y3 y4 b0 b1 b2 b3
  have hoX : Only (fun b => b = X) wg (wg.setCell ⟨X, 1, none⟩ (.int .i64 (tn : Nat))) := (Only.refl (fun b => b = X) wg).setCell (p := ⟨X, 1, none⟩) (.inl rfl) _
  have HC := Lib.hid (HC.out.other hoX (by omega) (by omega))
  have HR := Lib.hid (HR.out.only hoX (by omega))
  have HX := Lib.hid (HX.out.set 1 (.int .i64 (tn : Nat)))
  have HO := Lib.hid (HO.out.setCell (p := ⟨X, 1, none⟩) (.inr (show w.heap.size ≤ X by omega)) (.int .i64 (tn : Nat)))
  clear hoX
  generalize wg.setCell ⟨X, 1, none⟩ (.int .i64 (tn : Nat)) = wh at *
  have hnc := need_live C g cap TS pv k1 ⟨#[58]⟩ _ HC.out
  rw [show by' (⟨#[58]⟩ : ByteArray) = [58] from rfl] at hnc
  cases hK : P.need [58] (TS.drop k1) with
  | error p =>
    rw [hK] at hnc
    have HST := Lib.hid (show P.litF (TS.drop k) = .error p by simp only [P.litF, HNO.out, hK])
    clear hK
    with_reducible refine hnc.mono ?_
    clear hnc
    rintro e we ⟨rfl, ho4, hc4'⟩
    have hc4 : Cur we C g cap TS pv k1 (p : Nat) := hc4'
    clear hc4'
    have HR := Lib.hid (HR.out.only ho4 (by omega))
    have HX := Lib.hid (HX.out.only ho4 (by omega))
    have hsN := ho4.size
    have HO := Lib.hid (HO.out.trans ho4)
    have HC := Lib.hid hc4
    clear hc4 ho4
    obtain ⟨c0, c1, c2, c3, c4, f0, f1, f2, f3, f4⟩ := five_free HR.out
    obtain ⟨x0, x1, x2, x3, x4, _, _, _, _, _⟩ := five_free HX.out
    obtain ⟨b0, b1, b2, b3, _, _, _⟩ := HC.out.cells
    go_wp2_with fail
    refine bodyPost_ret (results_cell_row (p := 2) rfl _ _ w.heap.size 27 #[.int .i64 2, .int .i64 (tn : Nat), .string ⟨#[]⟩, .int .i64 0, .slice none 0 0] (0, 0) _ rfl (put5 HR.out) Try.underlying27 rfl (by kernel_rfl)) rfl ?_
    rw [HST.out]
    exact ⟨_, k1, rfl, ⟨_, _, _, _, _, _, _, rfl⟩, by omega, HC.out.put5 (by omega) (by omega) _ _ _ _ _, Only.put5 HO.out (.inr (Nat.le_refl _)) _ _ _ _ _⟩
  | ok r2 =>
    rw [hK] at hnc
    have HK := Lib.hid hK
    clear hK
    with_reducible refine hnc.mono ?_
    clear hnc
    rintro e we ⟨rfl, ho4, hr4, hc4'⟩
    have hc4 : Cur we C g cap TS pv (k1 + 1) (-1) := hc4'
    clear hc4'
    subst hr4
    have HR := Lib.hid (HR.out.only ho4 (by omega))
    have HX := Lib.hid (HX.out.only ho4 (by omega))
    have hsN := ho4.size
    have HO := Lib.hid (HO.out.trans ho4)
    have HC := Lib.hid hc4
    clear hc4 ho4
    obtain ⟨x0, x1, x2, x3, x4, y0, y1, y2, y3, y4⟩ := five_free HX.out
    obtain ⟨b0, b1, b2, b3, _, _, _⟩ := HC.out.cells
    go_wp2_with fail
    clear x0 x1 x2 x3 x4 y0 y1 y2 y3 y4 b0 b1 b2 b3
    have hnm := name_live C g cap TS pv (k1 + 1) _ HC.out
    cases hN : P.pName (TS.drop (k1 + 1)) with
    | error p =>
      rw [hN] at hnm
      have HST := Lib.hid (show P.litF (TS.drop k) = .error p by simp only [P.litF, HNO.out, HK.out, hN])
      clear hN
      with_reducible refine hnm.mono ?_
      clear hnm
      rintro e wn ⟨v, k3, rfl, ⟨s, rfl⟩, hk3, hc3, ho3⟩
      have HR := Lib.hid (HR.out.only ho3 (by omega))
      have HX := Lib.hid (HX.out.only ho3 (by omega))
      have hsN := ho3.size
      have HO := Lib.hid (HO.out.trans ho3)
      have HC := Lib.hid hc3
      clear hc3 ho3
      obtain ⟨x0, x1, x2, x3, x4, y0, y1, y2, y3, y4⟩ := five_free HX.out
      obtain ⟨b0, b1, b2, b3, _, _, _⟩ := HC.out.cells
      go_wp2_with fail
      clear x0 x1 x2 x3 x4 y0 y1 y2 y3 y4 b0 b1 b2 b3
      have hoX : Only (fun b => b = X) wn (wn.setCell ⟨X, 2, none⟩ (.string s)) := (Only.refl (fun b => b = X) wn).setCell (p := ⟨X, 2, none⟩) (.inl rfl) _
      have HC := Lib.hid (HC.out.other hoX (by omega) (by omega))
      have HR := Lib.hid (HR.out.only hoX (by omega))
      have HX := Lib.hid (HX.out.set 2 (.string s))
      have HO := Lib.hid (HO.out.setCell (p := ⟨X, 2, none⟩) (.inr (show w.heap.size ≤ X by omega)) (.string s))
      clear hoX
      generalize wn.setCell ⟨X, 2, none⟩ (.string s) = wm at *
      with_reducible refine (need_dead C g cap TS pv k3 p ⟨#[61, 61]⟩ _ HC.out (by omega)).mono ?_
      rintro e wd ⟨rfl, hbd⟩
      have HC := Lib.hid (HC.out.below hbd)
      have HO := Lib.hid (HO.out.trans (Only.of_below hbd))
      have HR := Lib.hid (HR.out.live' hbd)
      have HX := Lib.hid (HX.out.live' hbd)
      clear hbd
      obtain ⟨c0, c1, c2, c3, c4, f0, f1, f2, f3, f4⟩ := five_free HR.out
      obtain ⟨x0, x1, x2, x3, x4, _, _, _, _, _⟩ := five_free HX.out
      obtain ⟨b0, b1, b2, b3, _, _, _⟩ := HC.out.cells
      go_wp2_with fail
      refine bodyPost_ret (results_cell_row (p := 2) rfl _ _ w.heap.size 27 #[.int .i64 2, .int .i64 (tn : Nat), .string s, .int .i64 0, .slice none 0 0] (0, 0) _ rfl (put5 HR.out) Try.underlying27 rfl (by kernel_rfl)) rfl ?_
      rw [HST.out]
      exact ⟨_, k3, rfl, ⟨_, _, _, _, _, _, _, rfl⟩, by omega, HC.out.put5 (by omega) (by omega) _ _ _ _ _, Only.put5 HO.out (.inr (Nat.le_refl _)) _ _ _ _ _⟩
    | ok q =>
      obtain ⟨nm, r3⟩ := q
      rw [hN] at hnm
      have HN := Lib.hid hN
      clear hN
      with_reducible refine hnm.mono ?_
      clear hnm
      rintro e wn ⟨v, k3, rfl, hv, rfl, hk3, hc3, ho3⟩
      obtain rfl : v = .string (bs nm) := hv
      have HR := Lib.hid (HR.out.only ho3 (by omega))
      have HX := Lib.hid (HX.out.only ho3 (by omega))
      have hsN := ho3.size
      have HO := Lib.hid (HO.out.trans ho3)
      have HC := Lib.hid hc3
      clear hc3 ho3
      obtain ⟨x0, x1, x2, x3, x4, y0, y1, y2, y3, y4⟩ := five_free HX.out
      obtain ⟨b0, b1, b2, b3, _, _, _⟩ := HC.out.cells
      go_wp2_with fail
      clear x0 x1 x2 x3 x4 y0 y1 y2 y3 y4 b0 b1 b2 b3
      have hoX : Only (fun b => b = X) wn (wn.setCell ⟨X, 2, none⟩ (.string (bs nm))) := (Only.refl (fun b => b = X) wn).setCell (p := ⟨X, 2, none⟩) (.inl rfl) _
      have HC := Lib.hid (HC.out.other hoX (by omega) (by omega))
      have HR := Lib.hid (HR.out.only hoX (by omega))
      have HX := Lib.hid (HX.out.set 2 (.string (bs nm)))
      have HO := Lib.hid (HO.out.setCell (p := ⟨X, 2, none⟩) (.inr (show w.heap.size ≤ X by omega)) (.string (bs nm)))
      clear hoX
      generalize wn.setCell ⟨X, 2, none⟩ (.string (bs nm)) = wm at *
      have hnd := need_live C g cap TS pv k3 ⟨#[61, 61]⟩ _ HC.out
      rw [show by' (⟨#[61, 61]⟩ : ByteArray) = [61, 61] from rfl] at hnd
      cases hE : P.need [61, 61] (TS.drop k3) with
      | error p =>
        rw [hE] at hnd
        have HST := Lib.hid (show P.litF (TS.drop k) = .error p by simp only [P.litF, HNO.out, HK.out, HN.out, hE])
        clear hE
        with_reducible refine hnd.mono ?_
        clear hnd
        rintro e we ⟨rfl, ho4, hc4'⟩
        have hc4 : Cur we C g cap TS pv k3 (p : Nat) := hc4'
        clear hc4'
        have HR := Lib.hid (HR.out.only ho4 (by omega))
        have HX := Lib.hid (HX.out.only ho4 (by omega))
        have hsN := ho4.size
        have HO := Lib.hid (HO.out.trans ho4)
        have HC := Lib.hid hc4
        clear hc4 ho4
        obtain ⟨c0, c1, c2, c3, c4, f0, f1, f2, f3, f4⟩ := five_free HR.out
        obtain ⟨x0, x1, x2, x3, x4, _, _, _, _, _⟩ := five_free HX.out
        obtain ⟨b0, b1, b2, b3, _, _, _⟩ := HC.out.cells
        go_wp2_with fail
        refine bodyPost_ret (results_cell_row (p := 2) rfl _ _ w.heap.size 27 #[.int .i64 2, .int .i64 (tn : Nat), .string (bs nm), .int .i64 0, .slice none 0 0] (0, 0) _ rfl (put5 HR.out) Try.underlying27 rfl (by kernel_rfl)) rfl ?_
        rw [HST.out]
        exact ⟨_, k3, rfl, ⟨_, _, _, _, _, _, _, rfl⟩, by omega, HC.out.put5 (by omega) (by omega) _ _ _ _ _, Only.put5 HO.out (.inr (Nat.le_refl _)) _ _ _ _ _⟩
      | ok r4 =>
        rw [hE] at hnd
        have HQ := Lib.hid hE
        clear hE
        with_reducible refine hnd.mono ?_
        clear hnd
        rintro e we ⟨rfl, ho4, hr4, hc4'⟩
        have hc4 : Cur we C g cap TS pv (k3 + 1) (-1) := hc4'
        clear hc4'
        subst hr4
        have HR := Lib.hid (HR.out.only ho4 (by omega))
        have HX := Lib.hid (HX.out.only ho4 (by omega))
        have hsN := ho4.size
        have HO := Lib.hid (HO.out.trans ho4)
        have HC := Lib.hid hc4
        clear hc4 ho4
        obtain ⟨x0, x1, x2, x3, x4, y0, y1, y2, y3, y4⟩ := five_free HX.out
        obtain ⟨b0, b1, b2, b3, _, _, _⟩ := HC.out.cells
        go_wp2_with fail
        clear x0 x1 x2 x3 x4 y0 y1 y2 y3 y4 b0 b1 b2 b3
        have hnu := number_live C g cap TS pv (k3 + 1) _ HC.out
        cases hU : P.pNum (TS.drop (k3 + 1)) with
        | error p =>
          rw [hU] at hnu
          have HST := Lib.hid (show P.litF (TS.drop k) = .error p by simp only [P.litF, HNO.out, HK.out, HN.out, HQ.out, hU])
          clear hU
          with_reducible refine hnu.mono ?_
          clear hnu
          rintro e wf ⟨v, k5, rfl, ⟨i, rfl⟩, hk5, hc5, ho5⟩
          have HR := Lib.hid (HR.out.only ho5 (by omega))
          have HX := Lib.hid (HX.out.only ho5 (by omega))
          have hsN := ho5.size
          have HO := Lib.hid (HO.out.trans ho5)
          have HC := Lib.hid hc5
          clear hc5 ho5
          obtain ⟨c0, c1, c2, c3, c4, f0, f1, f2, f3, f4⟩ := five_free HR.out
          obtain ⟨x0, x1, x2, x3, x4, y0, y1, y2, y3, y4⟩ := five_free HX.out
          have hXR : ¬ w.heap.size = X := by omega
          have hXR' : ¬ X = w.heap.size := by omega
          go_wp2_with fail
          have HC := Lib.hid (HC.out.other (w' := wf.setCell ⟨X, 3, none⟩ (.int .i64 i)) ((Only.refl (fun b => b = X) wf).setCell (p := ⟨X, 3, none⟩) (.inl rfl) _) (by omega) (by omega))
          have HR := Lib.hid (HR.out.only (w' := wf.setCell ⟨X, 3, none⟩ (.int .i64 i)) ((Only.refl (fun b => b = X) wf).setCell (p := ⟨X, 3, none⟩) (.inl rfl) _) (by omega))
          have HO := Lib.hid (HO.out.setCell (p := ⟨X, 3, none⟩) (.inr (show w.heap.size ≤ X by omega)) (.int .i64 i))
          refine bodyPost_ret (results_cell_row (p := 2) rfl _ _ w.heap.size 27 #[.int .i64 2, .int .i64 (tn : Nat), .string (bs nm), .int .i64 i, .slice none 0 0] (0, 0) _ rfl (put5 HR.out) Try.underlying27 rfl (by kernel_rfl)) rfl ?_
          rw [HST.out]
          exact ⟨_, k5, rfl, ⟨_, _, _, _, _, _, _, rfl⟩, by omega, HC.out.put5 (by omega) (by omega) _ _ _ _ _, Only.put5 HO.out (.inr (Nat.le_refl _)) _ _ _ _ _⟩
        | ok q =>
          obtain ⟨nn, r5⟩ := q
          rw [hU] at hnu
          have HST := Lib.hid (show P.litF (TS.drop k) = .ok (.mk 2 tn nm nn [], r5) by simp only [P.litF, HNO.out, HK.out, HN.out, HQ.out, hU])
          clear hU
          with_reducible refine hnu.mono ?_
          clear hnu
          rintro e wf ⟨v, k5, rfl, hv, hr5, hk5, hc5, ho5⟩
          obtain rfl : v = .int .i64 (nn : Nat) := hv
          have HR := Lib.hid (HR.out.only ho5 (by omega))
          have HX := Lib.hid (HX.out.only ho5 (by omega))
          have hsN := ho5.size
          have HO := Lib.hid (HO.out.trans ho5)
          have HC := Lib.hid hc5
          clear hc5 ho5
          obtain ⟨c0, c1, c2, c3, c4, f0, f1, f2, f3, f4⟩ := five_free HR.out
          obtain ⟨x0, x1, x2, x3, x4, y0, y1, y2, y3, y4⟩ := five_free HX.out
          have hXR : ¬ w.heap.size = X := by omega
          have hXR' : ¬ X = w.heap.size := by omega
          go_wp2_with fail
          have HC := Lib.hid (HC.out.other (w' := wf.setCell ⟨X, 3, none⟩ (.int .i64 (nn : Nat))) ((Only.refl (fun b => b = X) wf).setCell (p := ⟨X, 3, none⟩) (.inl rfl) _) (by omega) (by omega))
          have HR := Lib.hid (HR.out.only (w' := wf.setCell ⟨X, 3, none⟩ (.int .i64 (nn : Nat))) ((Only.refl (fun b => b = X) wf).setCell (p := ⟨X, 3, none⟩) (.inl rfl) _) (by omega))
          have HO := Lib.hid (HO.out.setCell (p := ⟨X, 3, none⟩) (.inr (show w.heap.size ≤ X by omega)) (.int .i64 (nn : Nat)))
          refine bodyPost_ret (results_cell_row (p := 2) rfl _ _ w.heap.size 27 #[.int .i64 2, .int .i64 (tn : Nat), .string (bs nm), .int .i64 (nn : Nat), .slice none 0 0] (0, 0) _ rfl (put5 HR.out) Try.underlying27 rfl (by kernel_rfl)) rfl ?_
          rw [HST.out]
          exact ⟨_, k5, rfl, lc_leaf _ _ _ _ _ _ _ _, hr5, by omega, HC.out.put5 (by omega) (by omega) _ _ _ _ _, Only.put5 HO.out (.inr (Nat.le_refl _)) _ _ _ _ _⟩
end Go.Proofs.Ytikihomablmcnaa.Lx
/-
  What one and cond of the document's cursor tell, as contracts; cond by the plain reader.
-/
namespace Go.Proofs.Ytikihomablmcnaa.Lx
open Go.RowKit
open L (Tok)
open P (CO)
set_option maxRecDepth 100000
set_option linter.unusedVariables false
set_option linter.unusedSimpArgs false
set_option maxHeartbeats 3200000 in
theorem one_not (C g cap : Nat) (TS : List Tok) (pv : Value) (k n : Nat) (w : World) (h : Cur w C g cap TS pv k (-1)) (hn : P.isS [110, 111, 116] (TS.drop k) = true) (hr : ReadsC C g cap TS pv (k + 1) 94 (P.oneN n)) :
    Calls Try.prog 94 #[.pointer (some ⟨C, 0, none⟩)] w (CTo C g cap TS pv k (P.oneN (n + 1) (TS.drop k)) w) := by
  have hq1 : k + 1 < TS.length := h.more (isS_kind (s := [110, 111, 116]) (by rw [← drop_tat h.lt]; exact hn))
  have HU := Lib.hid (show P.oneN (n + 1) (TS.drop k) = (match P.oneN n (TS.drop (k + 1)) with
        | .error p => .error p
        | .ok (a, r) => .ok (.mk 3 0 [] 0 [a], r)) by
    conv => lhs; unfold P.oneN
    rw [hn, if_pos rfl, List.tail_drop]
    rfl)
  have HNT := Lib.hid hn
  have HRD := Lib.hid hr
  clear hn hr
  have hlt := h.lt
  have hmx := h.max
  obtain ⟨hCl, hgl⟩ := h.lts
  have HC := Lib.hid h
  clear h
  go_enter Try.func94, Try.ntmps94
  go_wp2_with fail
  have HO := Lib.hid ((Only.refl (· = C) w).alloc (.cells zc 27))
  have HR := Lib.hid (Blk.new w 27 zc)
  have HC := Lib.hid (HC.out.below (w' := w.alloc (.cells zc 27)) ((Below.refl _ _).alloc (Nat.le_refl _) _))
  have hsA : w.heap.size < (w.alloc (.cells zc 27)).heap.size := HR.out.lt
  generalize w.alloc (.cells zc 27) = w0 at *
  with_reducible refine (is_live C g cap TS pv k ⟨#[110, 111, 116]⟩ _ HC.out).mono ?_
  rintro e wi1 ⟨rfl, hbi⟩
  rw [show by' (⟨#[110, 111, 116]⟩ : ByteArray) = [110, 111, 116] from rfl, HNT.out]
  have hsz1 := hbi.size
  have HC := Lib.hid (HC.out.below hbi)
  have HO := Lib.hid (HO.out.trans (Only.of_below hbi))
  have HR := Lib.hid (HR.out.live' hbi)
  clear hbi
  obtain ⟨b0, b1, b2, b3, fb1, _, _⟩ := HC.out.cells
  go_wp2_with fail
  clear b0 b1 b2 b3 fb1
  have HR := Lib.hid (HR.out.only (Only.step (C := C) (.int .i64 ((k : Int) + 1))) (by omega))
  have HO := Lib.hid (HO.out.trans (Only.step (.int .i64 ((k : Int) + 1))))
  have HC := Lib.hid (HC.out.step hq1)
  have hsS : wi1.heap.size ≤ (wi1.setCell ⟨C, 1, none⟩ (.int .i64 ((k : Int) + 1))).heap.size := by simp [World.setCell]
  generalize wi1.setCell ⟨C, 1, none⟩ (.int .i64 ((k : Int) + 1)) = w6 at *
  have hcall := HRD.out (k + 1) _ (Nat.le_refl _) HC.out
  with_reducible refine hcall.mono ?_
  clear hcall
  rintro e w7 hh
  obtain ⟨o, m, s, u, a, n0, c, k7, bad7, rfl, hk7, hc7, ho7, hx7⟩ := bothc_of hh
  clear hh
  have HX7 := Lib.hid hx7
  clear hx7
  have hs7 := ho7.size
  have HR := Lib.hid (HR.out.only ho7 (by omega))
  have hsN := ho7.size
  have HO := Lib.hid (HO.out.trans ho7)
  have HC := Lib.hid hc7
  clear hc7 ho7
  obtain ⟨c0, c1, c2, c3, c4, f0, f1, f2, f3, f4⟩ := five_free HR.out
  have hRl := HR.out.lt
  go_wp2_with fail
  have hp5 : Only (fun b => b = w.heap.size) w7 (((((w7.setCell ⟨w.heap.size, 0, none⟩ (.int .i64 3)).setCell ⟨w.heap.size, 1, none⟩ (.int .i64 0)).setCell ⟨w.heap.size, 2, none⟩ (.string ⟨#[]⟩)).setCell ⟨w.heap.size, 3, none⟩ (.int .i64 0)).setCell ⟨w.heap.size, 4, none⟩ (.slice (some ⟨w7.heap.size, 0, none⟩) 1 1)) := Only.put5 (Only.refl (fun b => b = w.heap.size) w7) (.inl rfl) _ _ _ _ _
  have hsz : ((((((w7.setCell ⟨w.heap.size, 0, none⟩ (.int .i64 3)).setCell ⟨w.heap.size, 1, none⟩ (.int .i64 0)).setCell ⟨w.heap.size, 2, none⟩ (.string ⟨#[]⟩)).setCell ⟨w.heap.size, 3, none⟩ (.int .i64 0)).setCell ⟨w.heap.size, 4, none⟩ (.slice (some ⟨w7.heap.size, 0, none⟩) 1 1))).heap.size = w7.heap.size := by simp [World.setCell]
  have HB8 := Lib.hid (put5 (a' := .int .i64 3) (b' := .int .i64 0) (c' := .string ⟨#[]⟩) (d' := .int .i64 0) (f' := .slice (some ⟨w7.heap.size, 0, none⟩) 1 1) HR.out)
  have HO8 := Lib.hid (Only.put5 HO.out (R := w.heap.size) (.inr (Nat.le_refl _)) (.int .i64 3) (.int .i64 0) (.string ⟨#[]⟩) (.int .i64 0) (.slice (some ⟨w7.heap.size, 0, none⟩) 1 1))
  have HC8 := Lib.hid (HC.out.other hp5 (by omega) (by omega))
  refine bodyPost_ret (results_cell_row (p := 2) rfl _ _ w.heap.size 27 #[.int .i64 3, .int .i64 0, .string ⟨#[]⟩, .int .i64 0, .slice (some ⟨w7.heap.size, 0, none⟩) 1 1] (0, 0) _ rfl (Blk.alloc HB8.out _) Try.underlying27 rfl (by kernel_rfl)) rfl ?_
  generalize (((((w7.setCell ⟨w.heap.size, 0, none⟩ (.int .i64 3)).setCell ⟨w.heap.size, 1, none⟩ (.int .i64 0)).setCell ⟨w.heap.size, 2, none⟩ (.string ⟨#[]⟩)).setCell ⟨w.heap.size, 3, none⟩ (.int .i64 0)).setCell ⟨w.heap.size, 4, none⟩ (.slice (some ⟨w7.heap.size, 0, none⟩) 1 1)) = w8 at *
  have hK := Blk.new w8 27 #[.int .i64 o, .int .i64 m, .string s, .int .i64 u, .slice a n0 c]
  rw [hsz] at hK
  have hb9 : Below w8.heap.size w8 (w8.alloc (.cells #[.int .i64 o, .int .i64 m, .string s, .int .i64 u, .slice a n0 c] 27)) := (Below.refl _ _).alloc (Nat.le_refl _) _
  have hx7 := HX7.out
  rw [HU.out]
  cases hrc : P.oneN n (TS.drop (k + 1)) with
  | error p =>
    rw [hrc] at hx7
    obtain rfl : bad7 = (p : Nat) := hx7
    exact ⟨_, k7, rfl, ⟨_, _, _, _, _, _, _, rfl⟩, by omega, HC8.out.below hb9, HO8.out.trans (Only.of_below hb9)⟩
  | ok y =>
    obtain ⟨y, ts⟩ := y
    rw [hrc] at hx7
    obtain ⟨hy, hts, hkk, rfl⟩ := hx7
    have hY := ((LC.mono (Q := From w6.heap.size) (Q' := From (w.heap.size + 1)) (by intro q hq _; unfold From at hq ⊢; omega) _ hy).keep (Keeps.only hp5 (by intro q hq e; unfold From at hq; omega))).keep (Keeps.below hb9 (Nat.le_refl _))
    exact ⟨_, k7, rfl, LC.mono (Q := From (w.heap.size + 1)) (by intro q hq _; unfold From at hq ⊢; omega) _ (lc_one (s := []) (show w.heap.size + 1 ≤ w7.heap.size by omega) hK hY), hts, by omega, HC8.out.below hb9, HO8.out.trans (Only.of_below hb9)⟩
set_option maxHeartbeats 3200000 in
theorem one_open (C g cap : Nat) (TS : List Tok) (pv : Value) (k n : Nat) (w : World) (h : Cur w C g cap TS pv k (-1)) (hn : P.isS [110, 111, 116] (TS.drop k) = false) (hp : P.isS [40] (TS.drop k) = true) (hr : ReadsC C g cap TS pv (k + 1) 94 (P.oneN n)) :
    Calls Try.prog 94 #[.pointer (some ⟨C, 0, none⟩)] w (CTo C g cap TS pv k (P.oneN (n + 1) (TS.drop k)) w) := by
  have hq1 : k + 1 < TS.length := h.more (isS_kind (s := [40]) (by rw [← drop_tat h.lt]; exact hp))
  have HU := Lib.hid (show P.oneN (n + 1) (TS.drop k) = (match P.condF (P.oneN n) (TS.drop (k + 1)) with
        | .error p => .error p
        | .ok (a, r) =>
          match P.need [41] r with
          | .error p => .error p
          | .ok r2 => .ok (a, r2)) by
    conv => lhs; unfold P.oneN
    rw [hn, if_neg (by decide), hp, if_pos rfl, List.tail_drop]
    rfl)
  have HNT := Lib.hid hn
  have HPA := Lib.hid hp
  have HRD := Lib.hid (fun w' (hc : Cur w' C g cap TS pv (k + 1) (-1)) => show Calls Try.prog 39 #[.pointer (some ⟨C, 0, none⟩)] w' (CTo C g cap TS pv (k + 1) (P.condF (P.oneN n) (TS.drop (k + 1))) w') from cond_live C g cap TS pv (k + 1) (P.bothF (P.oneN n)) w' hc (fun k' w'' hk' hc' => both_live C g cap TS pv k' (P.oneN n) w'' hc' (hr.later hk')))
  clear hn hp hr
  have hlt := h.lt
  have hmx := h.max
  obtain ⟨hCl, hgl⟩ := h.lts
  have HC := Lib.hid h
  clear h
  go_enter Try.func94, Try.ntmps94
  go_wp2_with fail
  have HO := Lib.hid ((Only.refl (· = C) w).alloc (.cells zc 27))
  have HR := Lib.hid (Blk.new w 27 zc)
  have HC := Lib.hid (HC.out.below (w' := w.alloc (.cells zc 27)) ((Below.refl _ _).alloc (Nat.le_refl _) _))
  have hsA : w.heap.size < (w.alloc (.cells zc 27)).heap.size := HR.out.lt
  generalize w.alloc (.cells zc 27) = w0 at *
  with_reducible refine (is_live C g cap TS pv k ⟨#[110, 111, 116]⟩ _ HC.out).mono ?_
  rintro e wi1 ⟨rfl, hbi⟩
  rw [show by' (⟨#[110, 111, 116]⟩ : ByteArray) = [110, 111, 116] from rfl, HNT.out]
  have hsz1 := hbi.size
  have HC := Lib.hid (HC.out.below hbi)
  have HO := Lib.hid (HO.out.trans (Only.of_below hbi))
  have HR := Lib.hid (HR.out.live' hbi)
  clear hbi
  go_wp2_with fail
  with_reducible refine (is_live C g cap TS pv k ⟨#[40]⟩ _ HC.out).mono ?_
  rintro e wi2 ⟨rfl, hbi⟩
  rw [show by' (⟨#[40]⟩ : ByteArray) = [40] from rfl, HPA.out]
  have hsz2 := hbi.size
  have HC := Lib.hid (HC.out.below hbi)
  have HO := Lib.hid (HO.out.trans (Only.of_below hbi))
  have HR := Lib.hid (HR.out.live' hbi)
  clear hbi
  obtain ⟨b0, b1, b2, b3, fb1, _, _⟩ := HC.out.cells
  go_wp2_with fail
  clear b0 b1 b2 b3 fb1
  have HR := Lib.hid (HR.out.only (Only.step (C := C) (.int .i64 ((k : Int) + 1))) (by omega))
  have HO := Lib.hid (HO.out.trans (Only.step (.int .i64 ((k : Int) + 1))))
  have HC := Lib.hid (HC.out.step hq1)
  have hsS : wi2.heap.size ≤ (wi2.setCell ⟨C, 1, none⟩ (.int .i64 ((k : Int) + 1))).heap.size := by simp [World.setCell]
  generalize wi2.setCell ⟨C, 1, none⟩ (.int .i64 ((k : Int) + 1)) = w6 at *
  have hcall := HRD.out _ HC.out
  with_reducible refine hcall.mono ?_
  clear hcall
  rintro e w7 hh
  obtain ⟨o, m, s, u, a, n0, c, k7, bad7, rfl, hk7, hc7, ho7, hx7⟩ := bothc_of hh
  clear hh
  have HX7 := Lib.hid hx7
  clear hx7
  have hs7 := ho7.size
  have HR := Lib.hid (HR.out.only ho7 (by omega))
  have hsN := ho7.size
  have HO := Lib.hid (HO.out.trans ho7)
  have HC := Lib.hid hc7
  clear hc7 ho7
  go_wp2_with fail
  have HE := Lib.hid (Blk.new w7 27 #[.int .i64 o, .int .i64 m, .string s, .int .i64 u, .slice a n0 c])
  have hbE : Below w7.heap.size w7 (w7.alloc (.cells #[.int .i64 o, .int .i64 m, .string s, .int .i64 u, .slice a n0 c] 27)) := (Below.refl _ _).alloc (Nat.le_refl _) _
  have HKE := Lib.hid (show Keeps (fun _ => True) w7 (w7.alloc (.cells #[.int .i64 o, .int .i64 m, .string s, .int .i64 u, .slice a n0 c] 27)) from Keeps.below hbE (Nat.le_refl _))
  have hEl : w.heap.size < w7.heap.size := by have := HR.out.lt; omega
  have HC := Lib.hid (HC.out.below hbE)
  have HO := Lib.hid (HO.out.trans (Only.of_below hbE))
  have HR := Lib.hid (HR.out.live' hbE)
  clear hbE
  generalize w7.alloc (.cells #[.int .i64 o, .int .i64 m, .string s, .int .i64 u, .slice a n0 c] 27) = w8 at *
  cases hrc : P.condF (P.oneN n) (TS.drop (k + 1)) with
  | error p =>
    have hx7 := HX7.out
    rw [hrc] at hx7
    obtain rfl : bad7 = (p : Nat) := hx7
    have HST := Lib.hid (show P.oneN (n + 1) (TS.drop k) = .error p by rw [HU.out, hrc])
    clear hrc
    with_reducible refine (need_dead C g cap TS pv k7 p ⟨#[41]⟩ _ HC.out (by omega)).mono ?_
    rintro e w9 ⟨rfl, hb9⟩
    have HE := Lib.hid (HE.out.live' hb9)
    have HC := Lib.hid (HC.out.below hb9)
    have HO := Lib.hid (HO.out.trans (Only.of_below hb9))
    have HR := Lib.hid (HR.out.live' hb9)
    clear hb9
    obtain ⟨c0, c1, c2, c3, c4, f0, f1, f2, f3, f4⟩ := five_free HR.out
    obtain ⟨x0, x1, x2, x3, x4, _, _, _, _, _⟩ := five_free HE.out
    go_wp2_with fail
    refine bodyPost_ret (results_cell_row (p := 2) rfl _ _ w.heap.size 27 #[.int .i64 o, .int .i64 m, .string s, .int .i64 u, .slice a n0 c] (0, 0) _ rfl (put5 HR.out) Try.underlying27 rfl (by kernel_rfl)) rfl ?_
    rw [HST.out]
    exact ⟨_, k7, rfl, ⟨_, _, _, _, _, _, _, rfl⟩, by omega, HC.out.put5 (by omega) (by omega) _ _ _ _ _, Only.put5 HO.out (.inr (Nat.le_refl _)) _ _ _ _ _⟩
  | ok y =>
    obtain ⟨y, ts⟩ := y
    have hx7 := HX7.out
    rw [hrc] at hx7
    obtain ⟨hy, hts, hkk, rfl⟩ := hx7
    subst hts
    have HY := Lib.hid (LC.keep (w := w7) (fun q hq hl => HKE.out q trivial hl) _ (LC.mono (Q := From w6.heap.size) (Q' := Sm w.heap.size w7.heap.size) (by intro q hq hl; unfold From at hq; exact ⟨by omega, by omega⟩) _ hy))
    clear hy HX7
    have hnd := need_live C g cap TS pv k7 ⟨#[41]⟩ _ HC.out
    rw [show by' (⟨#[41]⟩ : ByteArray) = [41] from rfl] at hnd
    cases hq : P.need [41] (TS.drop k7) with
    | error p =>
      rw [hq] at hnd
      have HST := Lib.hid (show P.oneN (n + 1) (TS.drop k) = .error p by simp only [HU.out, hrc, hq])
      clear hq hrc
      with_reducible refine hnd.mono ?_
      clear hnd
      rintro e w9 ⟨rfl, ho9, hc9'⟩
      have hc9 : Cur w9 C g cap TS pv k7 (p : Nat) := hc9'
      clear hc9'
      have HE := Lib.hid (HE.out.only ho9 (by omega))
      have HR := Lib.hid (HR.out.only ho9 (by omega))
      have hsN := ho9.size
      have HO := Lib.hid (HO.out.trans ho9)
      have HC := Lib.hid hc9
      clear hc9 ho9
      obtain ⟨c0, c1, c2, c3, c4, f0, f1, f2, f3, f4⟩ := five_free HR.out
      obtain ⟨x0, x1, x2, x3, x4, _, _, _, _, _⟩ := five_free HE.out
      go_wp2_with fail
      refine bodyPost_ret (results_cell_row (p := 2) rfl _ _ w.heap.size 27 #[.int .i64 o, .int .i64 m, .string s, .int .i64 u, .slice a n0 c] (0, 0) _ rfl (put5 HR.out) Try.underlying27 rfl (by kernel_rfl)) rfl ?_
      rw [HST.out]
      exact ⟨_, k7, rfl, ⟨_, _, _, _, _, _, _, rfl⟩, by omega, HC.out.put5 (by omega) (by omega) _ _ _ _ _, Only.put5 HO.out (.inr (Nat.le_refl _)) _ _ _ _ _⟩
    | ok r3 =>
      rw [hq] at hnd
      have HST := Lib.hid (show P.oneN (n + 1) (TS.drop k) = .ok (y, r3) by simp only [HU.out, hrc, hq])
      clear hq hrc
      with_reducible refine hnd.mono ?_
      clear hnd
      rintro e w9 ⟨rfl, ho9, hr3, hc9'⟩
      have hc9 : Cur w9 C g cap TS pv (k7 + 1) (-1) := hc9'
      clear hc9'
      have HE := Lib.hid (HE.out.only ho9 (by omega))
      have HY := Lib.hid (HY.out.keep (Keeps.only ho9 (by intro q hq e; have := hq.1; omega)))
      have HR := Lib.hid (HR.out.only ho9 (by omega))
      have hsN := ho9.size
      have HO := Lib.hid (HO.out.trans ho9)
      have HC := Lib.hid hc9
      clear hc9 ho9
      obtain ⟨c0, c1, c2, c3, c4, f0, f1, f2, f3, f4⟩ := five_free HR.out
      obtain ⟨x0, x1, x2, x3, x4, _, _, _, _, _⟩ := five_free HE.out
      go_wp2_with fail
      refine bodyPost_ret (results_cell_row (p := 2) rfl _ _ w.heap.size 27 #[.int .i64 o, .int .i64 m, .string s, .int .i64 u, .slice a n0 c] (0, 0) _ rfl (put5 HR.out) Try.underlying27 rfl (by kernel_rfl)) rfl ?_
      rw [HST.out]
      exact ⟨_, k7 + 1, rfl, LC.mono (Q := Sm w.heap.size w7.heap.size) (by intro q hq _; have := hq.1; show w.heap.size ≤ q; omega) _ (HY.out.keep (Keeps.only (S := fun b => b = w.heap.size) (Only.put5 (Only.refl (fun b => b = w.heap.size) _) (.inl rfl) _ _ _ _ _) (by intro q hq e; have := hq.1; omega))), hr3, by omega, HC.out.put5 (by omega) (by omega) _ _ _ _ _, Only.put5 HO.out (.inr (Nat.le_refl _)) _ _ _ _ _⟩
theorem one_live (C g cap : Nat) (TS : List Tok) (pv : Value) (k n : Nat) (w : World) (h : Cur w C g cap TS pv k (-1)) (hr : ReadsC C g cap TS pv (k + 1) 94 (P.oneN n)) :
    Calls Try.prog 94 #[.pointer (some ⟨C, 0, none⟩)] w (CTo C g cap TS pv k (P.oneN (n + 1) (TS.drop k)) w) := by
  cases hn : P.isS [110, 111, 116] (TS.drop k)
  · cases hp : P.isS [40] (TS.drop k)
    · have e : P.oneN (n + 1) (TS.drop k) = P.litF (TS.drop k) := by
        conv => lhs; unfold P.oneN
        rw [hn, if_neg (by decide), hp, if_neg (by decide)]
      rw [e]
      cases hd : P.isD (TS.drop k)
      · exact lit_name C g cap TS pv k n w h hn hp hd
      · exact lit_num C g cap TS pv k n w h hn hp hd
    · exact one_open C g cap TS pv k n w h hn hp hr
  · exact one_not C g cap TS pv k n w h hn hr
theorem one_n (C g cap : Nat) (TS : List Tok) (pv : Value) : ∀ (n k : Nat) (w : World), TS.length - k ≤ n → Cur w C g cap TS pv k (-1) → Calls Try.prog 94 #[.pointer (some ⟨C, 0, none⟩)] w (CTo C g cap TS pv k (P.oneN n (TS.drop k)) w)
  | 0, k, w, hn, hc => by
    have := hc.lt
    omega
  | n + 1, k, w, hn, hc => one_live C g cap TS pv k n w hc (fun k' w' hk hc' => one_n C g cap TS pv n k' w' (by omega) hc')
/-- cond tells what the plain reader does. -/
theorem cond_any (C g cap : Nat) (TS : List Tok) (pv : Value) (k : Nat) (w : World) (h : Cur w C g cap TS pv k (-1)) : Calls Try.prog 39 #[.pointer (some ⟨C, 0, none⟩)] w (CTo C g cap TS pv k (P.pCond (TS.drop k)) w) :=
  cond_live C g cap TS pv k (P.bothF (P.oneN (TS.drop k).length)) w h (fun k' w' hk' hc' => both_live C g cap TS pv k' (P.oneN (TS.drop k).length) w' hc' (fun k'' w'' hk'' hc'' => one_n C g cap TS pv _ k'' w'' (by rw [List.length_drop]; omega) hc''))
end Go.Proofs.Ytikihomablmcnaa.Lx
