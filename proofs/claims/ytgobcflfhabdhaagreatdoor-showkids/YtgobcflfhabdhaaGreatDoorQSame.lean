/-
  What SameProg of the document's answer tells of programs that are alike, as a contract.
-/
import Derived.Test.YtgobcflfhabdhaaGreatDoorDR
import Derived.Test.YtgobcflfhabdhaaGreatDoorPSameS
namespace Go.Proofs.YtgobcflfhabdhaaGreatDoor.Lx
open Go.RowKit
open L (Tok)
open P (EX CO ST PG)
set_option maxRecDepth 100000
set_option linter.unusedVariables false
set_option linter.unusedSimpArgs false
theorem Tryz.eqUnderCell : Tryz.prog.underlying 55 = some (.struct (Tryz.prog.fieldsOf 55)) := by kernel_rfl
theorem Tryz.eqFieldsCell : (Tryz.prog.fieldsOf 55).toList.map (fun f => (f.name, f.type, f.offset)) = [("Loc", 9, 0), ("N", 3, 1)] := by kernel_rfl
theorem Tryz.eqHeldCell : Tryz.prog.stoodInHeld 55 = false := by kernel_rfl
theorem eqCell (d d' : Int) (b b' : ByteArray) (w : World) : (Op.equalIn 10000 55 (.agg #[.string b, .int .i64 d]) (.agg #[.string b', .int .i64 d'])).run Tryz.prog w = .ok (b.toList == b'.toList && d == d') w := by
  rw [run_equalIn_agg w 9999 _ _ _ Tryz.eqUnderCell Tryz.eqHeldCell]
  have h := Tryz.eqFieldsCell
  have u3 := Tryz.underlying3
  have a3 := Tryz.isAgg3
  have z3 := Tryz.sizeOf3
  have u9 := Tryz.underlying9
  have a9 := Tryz.isAgg9
  have z9 := Tryz.sizeOf9
  generalize (Tryz.prog.fieldsOf 55).toList = fs at *
  rcases fs with _ | ⟨f0, _ | ⟨f1, _ | ⟨f2, fs⟩⟩⟩ <;> simp only [List.map_cons, List.map_nil, List.cons.injEq, Prod.mk.injEq, and_true, reduceCtorEq, and_false] at h
  obtain ⟨⟨n0, t0, o0⟩, n1, t1, o1⟩ := h
  simp only [Op.eqFields, n0, t0, o0, n1, t1, o1]
  clear n0 t0 o0 n1 t1 o1
  go_simp
  by_cases h1 : b.toList = b'.toList <;> by_cases h4 : d = d' <;> simp [h1, h4]
theorem eqCell_self (d : Int) (b : ByteArray) : ∀ w : World, (Op.equalIn 10000 55 (.agg #[.string b, .int .i64 d]) (.agg #[.string b, .int .i64 d])).run Tryz.prog w = .ok true w := fun w => by
  rw [eqCell]
  simp
theorem LEs.at {w : World} : ∀ (es : List CE) {g off : Nat}, LEs w g off es → ∀ i, i < es.length → ∃ e : CE, es[i]? = some e ∧ w.cell? ⟨g, off + i * 2, none⟩ = some (.string (bs e.1)) ∧ w.cell? ⟨g, off + i * 2 + 1, none⟩ = some (.int .i64 e.2)
  | [], g, off, h, i, hi => by simp at hi
  | x :: es, g, off, h, 0, hi => ⟨x, rfl, by simpa using h.1.1, by simpa using h.1.2⟩
  | x :: es, g, off, h, i + 1, hi => by
    obtain ⟨e, he, h0, h1⟩ := LEs.at es h.2 i (by simpa using hi)
    refine ⟨e, by simpa using he, ?_, ?_⟩
    · rw [show off + (i + 1) * 2 = off + 2 + i * 2 by omega]; exact h0
    · rw [show off + (i + 1) * 2 + 1 = off + 2 + i * 2 + 1 by omega]; exact h1
theorem LTs.at {Q : Nat → Prop} {w : World} : ∀ (es : List (List ST)) {g off : Nat}, LTs Q w g off es → ∀ i, i < es.length → ∃ e v, es[i]? = some e ∧ w.cell? ⟨g, off + i, none⟩ = some v ∧ IsSs Q w v e
  | [], g, off, h, i, hi => by simp at hi
  | x :: es, g, off, h, 0, hi => by
    obtain ⟨⟨v, h1, h2⟩, _⟩ := h
    exact ⟨x, v, rfl, by simpa using h1, h2⟩
  | x :: es, g, off, h, i + 1, hi => by
    obtain ⟨e, v, he, h0, h1⟩ := LTs.at es h.2 i (by simpa using hi)
    exact ⟨e, v, by simpa using he, by rw [show off + (i + 1) = off + 1 + i by omega]; exact h0, h1⟩
/-- Nothing old turns: programs stay. -/
theorem LPg.below {Q : Nat → Prop} {w w' : World} {v : Value} {p : PG} (h : LPg Q w v p) (hb : Below w.heap.size w w') : LPg Q w' v p := h.step (fun b hq hl => ⟨hq, hb.block b hl⟩)
set_option maxHeartbeats 6400000 in
theorem sameG (p : PG) (Q Q' : Nat → Prop) (va vb : Value) (w : World) (ha : LPg Q w va p) (hb : LPg Q' w vb p) : Calls Tryz.prog 11 #[va, vb] w (BoolTo true w) := by
  have HPA := Lib.hid ha
  have HPB := Lib.hid hb
  obtain ⟨vi, vt, o, t, s, n, a, m, c, rfl, ⟨a1, c1, rfl, hm1, hr1⟩, ⟨a2, c2, rfl, hm2, hr2⟩, hlc⟩ := ha
  obtain ⟨vi', vt', o', t', s', n', a', m', c', rfl, ⟨b1, d1, rfl, _, hr1'⟩, ⟨b2, d2, rfl, _, hr2'⟩, hlc'⟩ := hb
  obtain ⟨pn, pvl, pin, pth, pak, pco⟩ := p
  have HM1 := Lib.hid hm1
  have HM2 := Lib.hid hm2
  unfold maxLen at hm1 hm2
  simp only at hm1 hm2 hr1 hr2 hr1' hr2' hlc hlc' HM1 HM2
  have HR1 := Lib.hid hr1
  have HR2 := Lib.hid hr2
  have HS1 := Lib.hid hr1'
  have HS2 := Lib.hid hr2'
  have HL := Lib.hid hlc
  have HL' := Lib.hid hlc'
  have HSC := Lib.hid (fun w' (h1 : LC Q w' (.agg #[.int .i64 o, .int .i64 t, .string s, .int .i64 n, .slice a m c]) pco) (h2 : LC Q' w' (.agg #[.int .i64 o', .int .i64 t', .string s', .int .i64 n', .slice a' m' c']) pco) => sameC (CO.size pco) pco (Nat.le_refl _) Q Q' _ _ w' h1 h2)
  clear hr1 hr2 hr1' hr2' hlc hlc'
  simp only
  generalize bs pn = PN at *
  go_enter Tryz.func11, Tryz.ntmps11
  go_wp2_with fail
  have hA := (Blk.new w 30 #[.string PN, .int .i64 pvl, .slice a1 pin.length c1, .slice a2 pth.length c2, .int .i64 pak, .int .i64 o, .int .i64 t, .string s, .int .i64 n, .slice a m c]).alloc (.cells #[.string PN, .int .i64 pvl, .slice b1 pin.length d1, .slice b2 pth.length d2, .int .i64 pak, .int .i64 o', .int .i64 t', .string s', .int .i64 n', .slice a' m' c'] 30)
  have hB := Blk.new (w.alloc (.cells #[.string PN, .int .i64 pvl, .slice a1 pin.length c1, .slice a2 pth.length c2, .int .i64 pak, .int .i64 o, .int .i64 t, .string s, .int .i64 n, .slice a m c] 30)) 30 #[.string PN, .int .i64 pvl, .slice b1 pin.length d1, .slice b2 pth.length d2, .int .i64 pak, .int .i64 o', .int .i64 t', .string s', .int .i64 n', .slice a' m' c']
  rw [show (w.alloc (.cells #[.string PN, .int .i64 pvl, .slice a1 pin.length c1, .slice a2 pth.length c2, .int .i64 pak, .int .i64 o, .int .i64 t, .string s, .int .i64 n, .slice a m c] 30)).heap.size = w.heap.size + 1 by simp] at hB
  have hbl : Below w.heap.size w ((w.alloc (.cells #[.string PN, .int .i64 pvl, .slice a1 pin.length c1, .slice a2 pth.length c2, .int .i64 pak, .int .i64 o, .int .i64 t, .string s, .int .i64 n, .slice a m c] 30)).alloc (.cells #[.string PN, .int .i64 pvl, .slice b1 pin.length d1, .slice b2 pth.length d2, .int .i64 pak, .int .i64 o', .int .i64 t', .string s', .int .i64 n', .slice a' m' c'] 30)) := ((Below.refl _ _).alloc (Nat.le_refl _) _).alloc (by simp) _
  have HA0 := Lib.hid hA
  have HB0 := Lib.hid hB
  have HBL := Lib.hid hbl
  clear hA hB hbl
  generalize (w.alloc (.cells #[.string PN, .int .i64 pvl, .slice a1 pin.length c1, .slice a2 pth.length c2, .int .i64 pak, .int .i64 o, .int .i64 t, .string s, .int .i64 n, .slice a m c] 30)).alloc (.cells #[.string PN, .int .i64 pvl, .slice b1 pin.length d1, .slice b2 pth.length d2, .int .i64 pak, .int .i64 o', .int .i64 t', .string s', .int .i64 n', .slice a' m' c'] 30) = W at *
  have hcall := HSC.out W (HL.out.step (fun b hq hl => ⟨hq, HBL.out.block b hl⟩)) (HL'.out.step (fun b hq hl => ⟨hq, HBL.out.block b hl⟩))
  with_reducible refine hcall.mono ?_
  rintro e w1 ⟨rfl, hb1⟩
  clear hcall
  have HA1 := Lib.hid (HA0.out.live' hb1)
  have HB1 := Lib.hid (HB0.out.live' hb1)
  have hW : w.heap.size + 1 < W.heap.size := HB0.out.lt
  have HBW := Lib.hid (HBL.out.trans (hb1.mono HBL.out.size))
  have hw1 := hb1.size
  clear hb1 HA0 HB0 HSC HL HL'
  generalize hA0 : w.heap.size = A0 at *
  generalize hB0 : A0 + 1 = B0 at *
  have hAB : A0 < B0 := by omega
  have HAe := Lib.hid hA0
  clear hA0 hB0
  obtain ⟨⟨x0, x1, x2, x3, x4, x5, x6, x7, x8, x9⟩, _⟩ := ten_free HA1.out
  obtain ⟨⟨y0, y1, y2, y3, y4, y5, y6, y7, y8, y9⟩, _⟩ := ten_free HB1.out
  go_wp2_with fail
  clear x0 x1 x2 x3 x4 x5 x6 x7 x8 x9 y0 y1 y2 y3 y4 y5 y6 y7 y8 y9
  go_loopw [5] (fun t wr => (∃ j : Nat, t = .int .i64 j ∧ j ≤ pin.length) ∧ Below w1.heap.size w1 wr) (fun t _ => pin.length - (intOf t).toNat)
  case atStart => exact ⟨⟨0, rfl, Nat.zero_le _⟩, Below.refl _ _⟩
  case round =>
    obtain ⟨⟨j, rfl, hj⟩, hbr⟩ := hrel
    have HBR := Lib.hid hbr
    have hszr := hbr.size
    have HAr := Lib.hid (HA1.out.live' hbr)
    have HBr := Lib.hid (HB1.out.live' hbr)
    have HWR := Lib.hid (HBW.out.trans (hbr.mono (show A0 ≤ w1.heap.size by omega)))
    clear hbr
    have p2 : wr.cell? ⟨A0, 2, none⟩ = some (.slice a1 pin.length c1) := HAr.out.cell 2
    have q2 : wr.cell? ⟨B0, 2, none⟩ = some (.slice b1 pin.length d1) := HBr.out.cell 2
    by_cases hlt : j < pin.length
    · rcases HR1.out with hz | ⟨ga, oa, hga, _, hla⟩
      · rw [hz] at hlt
        simp at hlt
      rcases HS1.out with hz | ⟨gb, ob, hgb, _, hlb⟩
      · rw [hz] at hlt
        simp at hlt
      have hbw : Below w.heap.size w wr := by rw [HAe.out]; exact HWR.out
      obtain ⟨e1, he1, ha0, ha1⟩ := LEs.at pin hla j hlt
      obtain ⟨e2, he2, hb0, hb1⟩ := LEs.at pin hlb j hlt
      have hgl : ga < w.heap.size := World.block_lt_of_cell? w _ ha0
      have hgl' : gb < w.heap.size := World.block_lt_of_cell? w _ hb0
      obtain rfl : e2 = e1 := by rw [he1] at he2; exact (Option.some.inj he2).symm
      subst hga hgb
      have r0 := (hbw.cell (p := ⟨ga, _, none⟩) hgl).trans ha0
      have r1 := (hbw.cell (p := ⟨ga, _, none⟩) hgl).trans ha1
      have s0 := (hbw.cell (p := ⟨gb, _, none⟩) hgl').trans hb0
      have s1 := (hbw.cell (p := ⟨gb, _, none⟩) hgl').trans hb1
      obtain ⟨el, en⟩ := e2
      simp only at r0 r1 s0 s1
      clear hla hlb ha0 ha1 hb0 hb1 he1 he2 hbw hgl hgl'
      generalize bs el = EL at *
      have heq := eqCell_self en EL
      have m1 : (0 : Int) ≤ (j : Int) := by omega
      have m2 : (j : Int) < (pin.length : Int) := by omega
      go_wp2_with fail
      go_quiet (fail)
      go_wp2
      go_roundw
      case rel => exact ⟨⟨j + 1, by go_num, by omega⟩, below_drewN HBR.out _⟩
      case measure => simp [intOf]; omega
    · have hd1 : decide (j < pin.length) = false := by simpa using hlt
      have hd2 : decide ((j : Int) < (pin.length : Int)) = false := by simpa using hlt
      go_wp2_with fail
      clear hd1 hd2 p2 q2
      generalize wr = wq at *
      go_loopw [6] (fun t wr => (∃ j : Nat, t = .int .i64 j ∧ j ≤ pth.length) ∧ Below wq.heap.size wq wr) (fun t _ => pth.length - (intOf t).toNat)
      case atStart => exact ⟨⟨0, rfl, Nat.zero_le _⟩, Below.refl _ _⟩
      case round =>
        obtain ⟨⟨k, rfl, hk⟩, hbr⟩ := hrel
        have HBR2 := Lib.hid hbr
        have hszr2 := hbr.size
        have HA2 := Lib.hid (HAr.out.live' hbr)
        have HB2 := Lib.hid (HBr.out.live' hbr)
        have HWR2 := Lib.hid (HWR.out.trans (hbr.mono (show A0 ≤ wq.heap.size by omega)))
        clear hbr
        have p3 : wr.cell? ⟨A0, 3, none⟩ = some (.slice a2 pth.length c2) := HA2.out.cell 3
        have q3 : wr.cell? ⟨B0, 3, none⟩ = some (.slice b2 pth.length d2) := HB2.out.cell 3
        by_cases hlt2 : k < pth.length
        · rcases HR2.out with hz | ⟨ga, oa, hga, hqa, hla⟩
          · rw [hz] at hlt2
            simp at hlt2
          rcases HS2.out with hz | ⟨gb, ob, hgb, hqb, hlb⟩
          · rw [hz] at hlt2
            simp at hlt2
          have hbw : Below w.heap.size w wr := by rw [HAe.out]; exact HWR2.out
          obtain ⟨e1, v1, he1, ha0, hi1⟩ := LTs.at pth hla k hlt2
          obtain ⟨e2, v2, he2, hb0, hi2⟩ := LTs.at pth hlb k hlt2
          have hgl : ga < w.heap.size := World.block_lt_of_cell? w _ ha0
          have hgl' : gb < w.heap.size := World.block_lt_of_cell? w _ hb0
          obtain rfl : e2 = e1 := by rw [he1] at he2; exact (Option.some.inj he2).symm
          subst hga hgb
          have r0 := (hbw.cell (p := ⟨ga, _, none⟩) hgl).trans ha0
          have s0 := (hbw.cell (p := ⟨gb, _, none⟩) hgl').trans hb0
          obtain ⟨sa, sca, rfl, hml, hrw⟩ := hi1
          obtain ⟨sb, scb, rfl, _, hrw'⟩ := hi2
          have HST := Lib.hid (fun w' (hw : Below wr.heap.size wr w') => sameS (sizeSs e2 + 1) e2 (Nat.lt_succ_self _) hml Q Q' sa sb sca scb w' (RowS.keep (w := w) hrw (fun g hg hl => (hw.block g (by have := hbw.size; omega)).trans (hbw.block g hl))) (RowS.keep (w := w) hrw' (fun g hg hl => (hw.block g (by have := hbw.size; omega)).trans (hbw.block g hl))))
          have hlA : A0 < wr.heap.size := by omega
          have hlB : B0 < wr.heap.size := by omega
          have hlga : ga < wr.heap.size := World.block_lt_of_cell? wr _ r0
          have hlgb : gb < wr.heap.size := World.block_lt_of_cell? wr _ s0
          have m1 : (0 : Int) ≤ (k : Int) := by omega
          have m2 : (k : Int) < (pth.length : Int) := by omega
          have HK0 : Hid (wr.cell? ⟨A0, 3, none⟩ = some (.slice (some ⟨ga, oa, none⟩) pth.length c2) ∧ wr.cell? ⟨B0, 3, none⟩ = some (.slice (some ⟨gb, ob, none⟩) pth.length d2) ∧ wr.cell? ⟨ga, oa + k, none⟩ = some (.slice sa e2.length sca) ∧ wr.cell? ⟨gb, ob + k, none⟩ = some (.slice sb e2.length scb)) := ⟨p3, q3, r0, s0⟩
          have HK7 : Hid (∀ w7, Below wr.heap.size wr w7 → w7.cell? ⟨A0, 3, none⟩ = some (.slice (some ⟨ga, oa, none⟩) pth.length c2) ∧ w7.cell? ⟨B0, 3, none⟩ = some (.slice (some ⟨gb, ob, none⟩) pth.length d2) ∧ w7.cell? ⟨ga, oa + k, none⟩ = some (.slice sa e2.length sca) ∧ w7.cell? ⟨gb, ob + k, none⟩ = some (.slice sb e2.length scb)) := fun w7 h7 => ⟨(h7.cell (p := ⟨A0, 3, none⟩) hlA).trans p3, (h7.cell (p := ⟨B0, 3, none⟩) hlB).trans q3, (h7.cell (p := ⟨ga, _, none⟩) hlga).trans r0, (h7.cell (p := ⟨gb, _, none⟩) hlgb).trans s0⟩
          clear hla hlb ha0 hb0 he1 he2 hbw hgl hgl' hrw hrw'
          go_wp2_with fail
          go_region_held3 (fun w' => w'.cell? ⟨A0, 3, none⟩ = some (.slice (some ⟨ga, oa, none⟩) pth.length c2) ∧ w'.cell? ⟨B0, 3, none⟩ = some (.slice (some ⟨gb, ob, none⟩) pth.length d2) ∧ w'.cell? ⟨ga, oa + k, none⟩ = some (.slice sa e2.length sca) ∧ w'.cell? ⟨gb, ob + k, none⟩ = some (.slice sb e2.length scb))
            (first
              | exact HK0.out
              | assumption
              | go_keep)
            (first
              | (go_at_call 23; refine (HST.out _ (below_drewN (Below.refl _ _) 1)).mono ?_; rintro e w7 ⟨rfl, hb7⟩; have hb7' := (below_drewN (Below.refl _ _) 1).trans hb7; have hS7 := HK7.out w7 hb7'; clear hb7))
          all_goals
            have HB7 := Lib.hid hb7'
            clear hb7' hS7
            go_wp2
            go_roundw
            case rel => exact ⟨⟨k + 1, by go_num, by omega⟩, HBR2.out.trans (HB7.out.mono hszr2)⟩
            case measure => simp [intOf]; omega
        · have hd1 : decide (k < pth.length) = false := by simpa using hlt2
          have hd2 : decide ((k : Int) < (pth.length : Int)) = false := by simpa using hlt2
          go_wp2_with fail
          go_ret
          exact ⟨rfl, by rw [HAe.out]; exact HWR2.out⟩
end Go.Proofs.YtgobcflfhabdhaaGreatDoor.Lx
