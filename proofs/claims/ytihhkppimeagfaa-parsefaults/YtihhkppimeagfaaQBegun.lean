/-
  That parse does something: begun.
-/
import Derived.Test.YtihhkppimeagfaaDR
namespace Go.Proofs.Ytihhkppimeagfaa.Lx
open Go.RowKit
open L (Tok)
open P (EX CO ST PG)
set_option maxRecDepth 100000
set_option linter.unusedVariables false
set_option linter.unusedSimpArgs false
def parF (f : Nat) (l : List UInt8) : Except (Nat × Nat) (PG × List Nat) :=
  match L.lexF f 0 l with
  | .error (e, p) => .error (eno e, p)
  | .ok ts =>
    match P.pProg ts with
    | .error q => .error (2, q)
    | .ok x => .ok x
theorem parA_fuel (s : ByteArray) (hs : s.size ≤ 4096) (f : Nat) (hf : (by' s).length ≤ f) : parA s = parF f (by' s) := by
  unfold parA lexA parF
  rw [if_pos hs, L.lexF_eq f 0 _ hf]
  rfl
def pg1 : PG := ⟨[97], 2, [([120], 0)], [[.mk 3 4 [] [120] [.mk 1 1 [] []] [] [], .mk 2 4 [114] [120] [] [] []]], 1, .mk 2 0 [114] 1 []⟩
theorem par_first : parA ⟨#[108, 105, 116, 109, 117, 115, 32, 97, 32, 118, 97, 108, 117, 101, 115, 32, 50, 32, 105, 110, 105, 116, 32, 120, 32, 48, 32, 116, 104, 114, 101, 97, 100, 32, 123, 32, 115, 116, 111, 114, 101, 32, 115, 99, 32, 120, 32, 49, 59, 32, 114, 32, 61, 32, 108, 111, 97, 100, 32, 115, 99, 32, 120, 59, 32, 125, 32, 101, 120, 105, 115, 116, 115, 32, 48, 58, 114, 32, 61, 61, 32, 49]⟩ = .ok (pg1, [0, 18, 36, 50, 67]) := by
  rw [parA_fuel _ (by decide) 100 (by decide)]
  kernel_rfl
theorem par_second : parA ⟨#[108, 105, 116, 109, 117, 115, 32, 97, 32, 118, 97, 108, 117, 101, 115, 32, 120]⟩ = .error (2, 16) := by
  rw [parA_fuel _ (by decide) 100 (by decide)]
  kernel_rfl
theorem parse_at (s : ByteArray) (o : Except (Nat × Nat) (PG × List Nat)) (w : World) (h : parA s = o) : Calls Try.prog 11 #[.string s] w (ParseTo o w) := by
  subst h
  exact parse_any s w
theorem places_at (s : ByteArray) (o : Except (Nat × Nat) (PG × List Nat)) (w : World) (h : parA s = o) : Calls Try.prog 14 #[.string s] w (PlacesTo o w) := by
  subst h
  exact places_any s w
theorem lpg_first {Q : Nat → Prop} {w : World} {v : Value} (h : LPg Q w v pg1) : ∃ (s0 : ByteArray) (ai : Option Addr) (ni ki gt ot kt : Nat) (xt : Int) (xs : ByteArray) (xn : Int) (xa : Option Addr) (xm xc g2 o2 k2 : Nat), v = .agg #[.string s0, .int .i64 2, .slice ai ni ki, .slice (some ⟨gt, ot, none⟩) 1 kt, .int .i64 1, .int .i64 2, .int .i64 xt, .string xs, .int .i64 xn, .slice xa xm xc] ∧ w.cell? ⟨gt, ot, none⟩ = some (.slice (some ⟨g2, o2, none⟩) 2 k2) ∧ w.cell? ⟨g2, o2 + 7 + 2, none⟩ = some (.string ⟨#[114]⟩) := by
  obtain ⟨vi, vt, o, t, s, n, a, m, c, rfl, ⟨a1, c1, rfl, _, _⟩, ⟨a2, c2, rfl, _, hr⟩, hc⟩ := h
  rcases hr with hr | ⟨gt, ot, rfl, _, ht⟩
  · cases hr
  obtain ⟨⟨v, hv, a3, c3, rfl, _, hs⟩, _⟩ := ht
  rcases hs with hs | ⟨g2, o2, rfl, _, hs⟩
  · cases hs
  unfold LSs at hs
  obtain ⟨_, hs⟩ := hs
  unfold LSs at hs
  obtain ⟨⟨c0, c1', c2', c3', c4, c5, c6, _, _, h2, _, _, _, _, hl⟩, _⟩ := hs
  unfold LS at hl
  obtain ⟨_, _, _, _, _, _, hl, _⟩ := hl
  injection hl with hl
  simp only [Array.mk.injEq, List.cons.injEq, and_true] at hl
  obtain ⟨_, _, rfl, _⟩ := hl
  unfold pg1 LC at hc
  obtain ⟨_, _, hc, _⟩ := hc
  injection hc with hc
  simp only [Array.mk.injEq, List.cons.injEq, and_true] at hc
  obtain ⟨ho, _⟩ := hc
  injection ho with _ ho
  subst ho
  exact ⟨_, _, _, _, _, _, _, _, _, _, _, _, _, _, _, _, rfl, hv, h2⟩
set_option maxHeartbeats 3200000 in
theorem begun7_any (w : World) : Calls Try.prog 6 #[] w (BoolTo true w) := by
  have q1 := eqFlt_self 0 0
  have q2 := eqFlt_self 2 16
  have Q1 := Lib.hid q1
  have Q2 := Lib.hid q2
  clear q1 q2
  go_enter Try.func6, Try.ntmps6
  go_wp2_with fail
  with_reducible refine (parse_at _ _ _ par_first).mono ?_
  rintro e w1 ⟨vp, rfl, hlp, hb1⟩
  obtain ⟨s0, ai, ni, ki, gt, ot, kt, xt, xs, xn, xa, xm, xc, g2, o2, k2, rfl, hc1, hc2⟩ := lpg_first hlp
  rw [show pfl (.ok (pg1, [0, 18, 36, 50, 67])) = .agg #[.int .i64 0, .int .i64 0] from rfl]
  clear hlp
  go_wp2_with fail
  have hbA : Below w1.heap.size w1 ((w1.alloc (.cells #[.string s0, .int .i64 2, .slice ai ni ki, .slice (some ⟨gt, ot, none⟩) 1 kt, .int .i64 1, .int .i64 2, .int .i64 xt, .string xs, .int .i64 xn, .slice xa xm xc] 30)).alloc (.cells #[.int .i64 0, .int .i64 0] 38)) := ((Below.refl _ _).alloc (Nat.le_refl _) _).alloc (by simp) _
  have HP2 := Lib.hid ((Blk.new w1 30 #[.string s0, .int .i64 2, .slice ai ni ki, .slice (some ⟨gt, ot, none⟩) 1 kt, .int .i64 1, .int .i64 2, .int .i64 xt, .string xs, .int .i64 xn, .slice xa xm xc]).alloc (.cells #[.int .i64 0, .int .i64 0] 38))
  have hF0 := Blk.new (w1.alloc (.cells #[.string s0, .int .i64 2, .slice ai ni ki, .slice (some ⟨gt, ot, none⟩) 1 kt, .int .i64 1, .int .i64 2, .int .i64 xt, .string xs, .int .i64 xn, .slice xa xm xc] 30)) 38 #[.int .i64 0, .int .i64 0]
  rw [show (w1.alloc (.cells #[.string s0, .int .i64 2, .slice ai ni ki, .slice (some ⟨gt, ot, none⟩) 1 kt, .int .i64 1, .int .i64 2, .int .i64 xt, .string xs, .int .i64 xn, .slice xa xm xc] 30)).heap.size = w1.heap.size + 1 by simp] at hF0
  have HF2 := Lib.hid hF0
  have hl1 : gt < w1.heap.size := World.block_lt_of_cell? w1 _ hc1
  have hl2 : g2 < w1.heap.size := World.block_lt_of_cell? w1 _ hc2
  have d1 := (hbA.cell (p := ⟨gt, ot, none⟩) hl1).trans hc1
  have d2 := (hbA.cell (p := ⟨g2, o2 + 7 + 2, none⟩) hl2).trans hc2
  have hs2 : w1.heap.size + 1 < ((w1.alloc (.cells #[.string s0, .int .i64 2, .slice ai ni ki, .slice (some ⟨gt, ot, none⟩) 1 kt, .int .i64 1, .int .i64 2, .int .i64 xt, .string xs, .int .i64 xn, .slice xa xm xc] 30)).alloc (.cells #[.int .i64 0, .int .i64 0] 38)).heap.size := HF2.out.lt
  have HB2 := Lib.hid (hb1.trans (hbA.mono hb1.size))
  have D1 := Lib.hid d1
  have D2 := Lib.hid d2
  clear hbA hF0 hc1 hc2 d1 d2 hb1
  generalize ((w1.alloc (.cells #[.string s0, .int .i64 2, .slice ai ni ki, .slice (some ⟨gt, ot, none⟩) 1 kt, .int .i64 1, .int .i64 2, .int .i64 xt, .string xs, .int .i64 xn, .slice xa xm xc] 30)).alloc (.cells #[.int .i64 0, .int .i64 0] 38)) = w2 at *
  with_reducible refine (places_at _ _ _ par_first).mono ?_
  rintro e w3 ⟨vl, rfl, hown, hb3⟩
  rw [show pfl (.ok (pg1, [0, 18, 36, 50, 67])) = .agg #[.int .i64 0, .int .i64 0] from rfl]
  have hown' : OwnP w3 w2.heap.size vl [0, 18, 36, 50, 67] := hown
  obtain ⟨gl, kl, rfl, hgl1, hgl2, hrow⟩ := ownp_row hown' (by decide)
  have L2 := Lib.hid (hrow 2 (by decide))
  have HP3 := Lib.hid (HP2.out.live' hb3)
  have HF3 := Lib.hid (HF2.out.live' hb3)
  have D1 := Lib.hid ((hb3.cell (p := ⟨gt, ot, none⟩) (by show gt < _; omega)).trans D1.out)
  have D2 := Lib.hid ((hb3.cell (p := ⟨g2, o2 + 7 + 2, none⟩) (by show g2 < _; omega)).trans D2.out)
  have HB3 := Lib.hid (HB2.out.trans (hb3.mono HB2.out.size))
  have hs3 := hb3.size
  clear hown hown' hrow hb3 HP2 HF2
  go_wp2_with fail
  have hbA : Below w3.heap.size w3 (w3.alloc (.cells #[.int .i64 0, .int .i64 0] 38)) := (Below.refl _ _).alloc (Nat.le_refl _) _
  have HG4 := Lib.hid (Blk.new w3 38 #[.int .i64 0, .int .i64 0])
  have HP4 := Lib.hid (HP3.out.live' hbA)
  have HF4 := Lib.hid (HF3.out.live' hbA)
  have D1 := Lib.hid ((hbA.cell (p := ⟨gt, ot, none⟩) (by show gt < _; omega)).trans D1.out)
  have D2 := Lib.hid ((hbA.cell (p := ⟨g2, o2 + 7 + 2, none⟩) (by show g2 < _; omega)).trans D2.out)
  have L2 := Lib.hid ((hbA.cell (p := ⟨gl, 2, none⟩) hgl2).trans L2.out)
  have HB4 := Lib.hid (HB3.out.trans (hbA.mono HB3.out.size))
  have hs4 : w3.heap.size < (w3.alloc (.cells #[.int .i64 0, .int .i64 0] 38)).heap.size := HG4.out.lt
  clear hbA HP3 HF3
  generalize w3.alloc (.cells #[.int .i64 0, .int .i64 0] 38) = w4 at *
  with_reducible refine (parse_at _ _ _ par_second).mono ?_
  rintro e w5 ⟨vp, rfl, hlp, hb5⟩
  obtain ⟨nm, vl', a1, n1, k1, a2, n2, k2', ak, yo, yt, ys, yn, ya, ym, yc, rfl⟩ := hlp.any
  rw [show pfl (.error (2, 16)) = .agg #[.int .i64 2, .int .i64 16] from rfl]
  have HP5 := Lib.hid (HP4.out.live' hb5)
  have HF5 := Lib.hid (HF4.out.live' hb5)
  have HG5 := Lib.hid (HG4.out.live' hb5)
  have d1 := (hb5.cell (p := ⟨gt, ot, none⟩) (by show gt < _; omega)).trans D1.out
  have d2 := (hb5.cell (p := ⟨g2, o2 + 7 + 2, none⟩) (by show g2 < _; omega)).trans D2.out
  have l2 : w5.cell? ⟨gl, 2, none⟩ = some (.int .i64 36) := (hb5.cell (p := ⟨gl, 2, none⟩) (by show gl < _; omega)).trans L2.out
  have HB5 := Lib.hid (HB4.out.trans (hb5.mono HB4.out.size))
  have hs5 := hb5.size
  have hs0 := HB5.out.size
  clear hlp hb5 HP4 HF4 HG4 D1 D2 L2
  obtain ⟨⟨c0, c1, c2, c3, c4, c5, c6, c7, c8, c9⟩, _⟩ := ten_free HP5.out
  obtain ⟨f0, f1, _, _⟩ := two_free HF5.out
  obtain ⟨e0, e1, _, _⟩ := two_free HG5.out
  have n1 : w1.heap.size < w5.heap.size := by omega
  have n2 : w1.heap.size + 1 < w5.heap.size := by omega
  have n3 : w3.heap.size < w5.heap.size := by omega
  have n4 : gt < w5.heap.size := by omega
  have n5 : g2 < w5.heap.size := by omega
  have n6 : gl < w5.heap.size := by omega
  have q1 := Q1.out
  have q2 := Q2.out
  go_wp2_with fail
  go_ret
  exact ⟨rfl, (HB5.out.alloc (by omega) _).alloc (by simp; omega) _⟩
end Go.Proofs.Ytihhkppimeagfaa.Lx
