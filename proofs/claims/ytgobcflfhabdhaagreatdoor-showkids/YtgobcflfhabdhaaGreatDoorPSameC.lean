/-
  What SameCond of the document's answer tells of conditions that are alike, as a contract.
-/
import Derived.Test.YtgobcflfhabdhaaGreatDoorPC
import Derived.Deep.RegionHeld3
namespace Go.Proofs.YtgobcflfhabdhaaGreatDoor.Lx
open Go.RowKit
open P (CO)
set_option linter.unusedVariables false
set_option linter.unusedSimpArgs false
/-- A kid's cells, and that it lies there. -/
theorem LCs.at {Q : Nat → Prop} {w : World} : ∀ (es : List CO) {g off : Nat}, LCs Q w g off es → ∀ i, i < es.length → ∃ e c0 c1 c2 c3 c4, es[i]? = some e ∧ w.cell? ⟨g, off + i * 5, none⟩ = some c0 ∧ w.cell? ⟨g, off + i * 5 + 1, none⟩ = some c1 ∧ w.cell? ⟨g, off + i * 5 + 2, none⟩ = some c2 ∧ w.cell? ⟨g, off + i * 5 + 3, none⟩ = some c3 ∧ w.cell? ⟨g, off + i * 5 + 4, none⟩ = some c4 ∧ LC Q w (.agg #[c0, c1, c2, c3, c4]) e
  | [], g, off, h, i, hi => by simp at hi
  | x :: es, g, off, h, 0, hi => by
    unfold LCs at h
    obtain ⟨⟨c0, c1, c2, c3, c4, h0, h1, h2, h3, h4, hx⟩, _⟩ := h
    exact ⟨x, c0, c1, c2, c3, c4, rfl, by simpa using h0, by simpa using h1, by simpa using h2, by simpa using h3, by simpa using h4, hx⟩
  | x :: es, g, off, h, i + 1, hi => by
    unfold LCs at h
    obtain ⟨_, hs⟩ := h
    obtain ⟨e, c0, c1, c2, c3, c4, he, h0, h1, h2, h3, h4, hx⟩ := LCs.at es hs i (by simpa using hi)
    refine ⟨e, c0, c1, c2, c3, c4, by simpa using he, ?_, ?_, ?_, ?_, ?_, hx⟩
    · rw [show off + (i + 1) * 5 = off + 5 + i * 5 by omega]; exact h0
    · rw [show off + (i + 1) * 5 + 1 = off + 5 + i * 5 + 1 by omega]; exact h1
    · rw [show off + (i + 1) * 5 + 2 = off + 5 + i * 5 + 2 by omega]; exact h2
    · rw [show off + (i + 1) * 5 + 3 = off + 5 + i * 5 + 3 by omega]; exact h3
    · rw [show off + (i + 1) * 5 + 4 = off + 5 + i * 5 + 4 by omega]; exact h4
def CO.size : CO → Nat
  | .mk _ _ _ _ ks => 1 + sizeL ks
where sizeL : List CO → Nat
  | [] => 0
  | e :: es => CO.size e + sizeL es
theorem sizec_mem : ∀ (es : List CO) (i : Nat) (e : CO), es[i]? = some e → CO.size e ≤ CO.size.sizeL es
  | [], i, e, h => by simp at h
  | x :: es, 0, e, h => by
    simp at h
    subst h
    unfold CO.size.sizeL
    omega
  | x :: es, i + 1, e, h => by
    have := sizec_mem es i e (by simpa using h)
    unfold CO.size.sizeL
    omega
theorem LC.drew {Q : Nat → Prop} {w : World} {v : Value} {e : CO} (h : LC Q w v e) : LC Q w.drew v e := LC.keep (w := w) (w' := w.drew) (fun g hg hl => rfl) e h
set_option maxRecDepth 100000 in
set_option maxHeartbeats 3200000 in
theorem sameC : ∀ (N : Nat) (e : CO), CO.size e ≤ N → ∀ (Q Q' : Nat → Prop) (va vb : Value) (w : World), LC Q w va e → LC Q' w vb e → Calls Tryz.prog 22 #[va, vb] w (BoolTo true w)
  | 0, .mk o m s u ks, hN, Q, Q', va, vb, w, ha, hb => by
    unfold CO.size at hN
    omega
  | N + 1, .mk o m s u ks, hN, Q, Q', va, vb, w, ha, hb => by
    have IH := Lib.hid (fun e (he : CO.size e ≤ N) => sameC N e he)
    have HA := Lib.hid ha
    have HB := Lib.hid hb
    have hm : ks.length ≤ maxLen := by
      unfold LC at ha
      obtain ⟨_, _, _, h, _⟩ := ha
      exact h
    have HM := Lib.hid hm
    unfold maxLen at hm
    have HSZ := Lib.hid (show ∀ i e, ks[i]? = some e → CO.size e ≤ N by
      intro i e he
      have h1 := sizec_mem ks i e he
      unfold CO.size at hN
      omega)
    unfold LC at ha hb
    obtain ⟨a, ca, rfl, _, hka⟩ := ha
    obtain ⟨b, cb, rfl, _, hkb⟩ := hb
    have HKA := Lib.hid hka
    have HKB := Lib.hid hkb
    clear hka hkb hN
    generalize bs s = S at *
    go_enter Tryz.func22, Tryz.ntmps22
    go_wp2_with fail
    have hA := (Blk.new w 28 #[.int .i64 o, .int .i64 m, .string S, .int .i64 u, .slice a ks.length ca]).alloc (.cells #[.int .i64 o, .int .i64 m, .string S, .int .i64 u, .slice b ks.length cb] 28)
    have hB := Blk.new (w.alloc (.cells #[.int .i64 o, .int .i64 m, .string S, .int .i64 u, .slice a ks.length ca] 28)) 28 #[.int .i64 o, .int .i64 m, .string S, .int .i64 u, .slice b ks.length cb]
    rw [show (w.alloc (.cells #[.int .i64 o, .int .i64 m, .string S, .int .i64 u, .slice a ks.length ca] 28)).heap.size = w.heap.size + 1 by simp] at hB
    have hbl : Below w.heap.size w ((w.alloc (.cells #[.int .i64 o, .int .i64 m, .string S, .int .i64 u, .slice a ks.length ca] 28)).alloc (.cells #[.int .i64 o, .int .i64 m, .string S, .int .i64 u, .slice b ks.length cb] 28)) := ((Below.refl _ _).alloc (Nat.le_refl _) _).alloc (by simp) _
    have HA0 := Lib.hid hA
    have HB0 := Lib.hid hB
    have HBL := Lib.hid hbl
    clear hA hB hbl
    generalize ((w.alloc (.cells #[.int .i64 o, .int .i64 m, .string S, .int .i64 u, .slice a ks.length ca] 28)).alloc (.cells #[.int .i64 o, .int .i64 m, .string S, .int .i64 u, .slice b ks.length cb] 28)) = W at *
    generalize hA0 : w.heap.size = A0 at *
    generalize hB0 : A0 + 1 = B0 at *
    have hAB : A0 < B0 := by omega
    have hW : B0 < W.heap.size := HB0.out.lt
    have HAe := Lib.hid hA0
    clear hA0 hB0
    go_loopw [5] (fun t wr => (∃ j : Nat, t = .int .i64 j ∧ j ≤ ks.length) ∧ Below W.heap.size W wr) (fun t _ => ks.length - (intOf t).toNat)
    case atStart => exact ⟨⟨0, rfl, Nat.zero_le _⟩, Below.refl _ _⟩
    case round =>
      obtain ⟨⟨j, rfl, hj⟩, hbr⟩ := hrel
      have HBR := Lib.hid hbr
      have hszr := hbr.size
      have HAr := Lib.hid (HA0.out.live' hbr)
      have HBr := Lib.hid (HB0.out.live' hbr)
      have HWR := Lib.hid (HBL.out.trans (hbr.mono (show A0 ≤ W.heap.size by omega)))
      clear hbr
      have p3 := HAr.out.cell 4
      have q3 := HBr.out.cell 4
      have p3' : wr.cell? ⟨A0, 4, none⟩ = some (.slice a ks.length ca) := p3
      have q3' : wr.cell? ⟨B0, 4, none⟩ = some (.slice b ks.length cb) := q3
      clear p3 q3
      by_cases hlt : j < ks.length
      · rcases HKA.out with hz | ⟨ga, oa, hga, _, hla⟩
        · rw [hz] at hlt
          simp at hlt
        rcases HKB.out with hz | ⟨gb, ob, hgb, _, hlb⟩
        · rw [hz] at hlt
          simp at hlt
        have hbw : Below w.heap.size w wr := by rw [HAe.out]; exact HWR.out
        obtain ⟨x, a0, a1, a2, a3, a4, hx, ha0, ha1, ha2, ha3, ha4, hxa⟩ := LCs.at ks (LCs.keep (Keeps.below hbw (Nat.le_refl _)) ks ‹_› hla) j hlt
        obtain ⟨y, b0, b1, b2, b3, b4, hy, hb0, hb1, hb2, hb3, hb4, hxb⟩ := LCs.at ks (LCs.keep (Keeps.below hbw (Nat.le_refl _)) ks ‹_› hlb) j hlt
        subst hga hgb
        have hyx : y = x := by rw [hx] at hy; exact (Option.some.inj hy).symm
        subst hyx
        have HIH := Lib.hid (fun w' => IH.out y (HSZ.out j y hx) Q Q' (.agg #[a0, a1, a2, a3, a4]) (.agg #[b0, b1, b2, b3, b4]) w')
        have HXA := Lib.hid hxa
        have HXB := Lib.hid hxb
        have hlA : A0 < wr.heap.size := by omega
        have hlB : B0 < wr.heap.size := by omega
        have hlga : ga < wr.heap.size := World.block_lt_of_cell? wr _ ha0
        have hlgb : gb < wr.heap.size := World.block_lt_of_cell? wr _ hb0
        have m1 : (0 : Int) ≤ (j : Int) := by omega
        have m2 : (j : Int) < (ks.length : Int) := by omega
        have HK0 : Hid (wr.cell? ⟨A0, 4, none⟩ = some (.slice (some ⟨ga, oa, none⟩) ks.length ca) ∧ wr.cell? ⟨B0, 4, none⟩ = some (.slice (some ⟨gb, ob, none⟩) ks.length cb) ∧ wr.cell? ⟨ga, oa + j * 5, none⟩ = some a0 ∧ wr.cell? ⟨ga, oa + j * 5 + 1, none⟩ = some a1 ∧ wr.cell? ⟨ga, oa + j * 5 + 2, none⟩ = some a2 ∧ wr.cell? ⟨ga, oa + j * 5 + 3, none⟩ = some a3 ∧ wr.cell? ⟨ga, oa + j * 5 + 4, none⟩ = some a4 ∧ wr.cell? ⟨gb, ob + j * 5, none⟩ = some b0 ∧ wr.cell? ⟨gb, ob + j * 5 + 1, none⟩ = some b1 ∧ wr.cell? ⟨gb, ob + j * 5 + 2, none⟩ = some b2 ∧ wr.cell? ⟨gb, ob + j * 5 + 3, none⟩ = some b3 ∧ wr.cell? ⟨gb, ob + j * 5 + 4, none⟩ = some b4) := ⟨p3', q3', ha0, ha1, ha2, ha3, ha4, hb0, hb1, hb2, hb3, hb4⟩
        have HK7 : Hid (∀ w7, Below wr.heap.size wr w7 → w7.cell? ⟨A0, 4, none⟩ = some (.slice (some ⟨ga, oa, none⟩) ks.length ca) ∧ w7.cell? ⟨B0, 4, none⟩ = some (.slice (some ⟨gb, ob, none⟩) ks.length cb) ∧ w7.cell? ⟨ga, oa + j * 5, none⟩ = some a0 ∧ w7.cell? ⟨ga, oa + j * 5 + 1, none⟩ = some a1 ∧ w7.cell? ⟨ga, oa + j * 5 + 2, none⟩ = some a2 ∧ w7.cell? ⟨ga, oa + j * 5 + 3, none⟩ = some a3 ∧ w7.cell? ⟨ga, oa + j * 5 + 4, none⟩ = some a4 ∧ w7.cell? ⟨gb, ob + j * 5, none⟩ = some b0 ∧ w7.cell? ⟨gb, ob + j * 5 + 1, none⟩ = some b1 ∧ w7.cell? ⟨gb, ob + j * 5 + 2, none⟩ = some b2 ∧ w7.cell? ⟨gb, ob + j * 5 + 3, none⟩ = some b3 ∧ w7.cell? ⟨gb, ob + j * 5 + 4, none⟩ = some b4) := fun w7 h7 => ⟨(h7.cell (p := ⟨A0, 4, none⟩) hlA).trans p3', (h7.cell (p := ⟨B0, 4, none⟩) hlB).trans q3', (h7.cell (p := ⟨ga, _, none⟩) hlga).trans ha0, (h7.cell (p := ⟨ga, _, none⟩) hlga).trans ha1, (h7.cell (p := ⟨ga, _, none⟩) hlga).trans ha2, (h7.cell (p := ⟨ga, _, none⟩) hlga).trans ha3, (h7.cell (p := ⟨ga, _, none⟩) hlga).trans ha4, (h7.cell (p := ⟨gb, _, none⟩) hlgb).trans hb0, (h7.cell (p := ⟨gb, _, none⟩) hlgb).trans hb1, (h7.cell (p := ⟨gb, _, none⟩) hlgb).trans hb2, (h7.cell (p := ⟨gb, _, none⟩) hlgb).trans hb3, (h7.cell (p := ⟨gb, _, none⟩) hlgb).trans hb4⟩
        clear hla hlb hxa hxb hx hy hbw
        go_wp2_with fail
        go_region_held3 (fun w' => w'.cell? ⟨A0, 4, none⟩ = some (.slice (some ⟨ga, oa, none⟩) ks.length ca) ∧ w'.cell? ⟨B0, 4, none⟩ = some (.slice (some ⟨gb, ob, none⟩) ks.length cb) ∧ w'.cell? ⟨ga, oa + j * 5, none⟩ = some a0 ∧ w'.cell? ⟨ga, oa + j * 5 + 1, none⟩ = some a1 ∧ w'.cell? ⟨ga, oa + j * 5 + 2, none⟩ = some a2 ∧ w'.cell? ⟨ga, oa + j * 5 + 3, none⟩ = some a3 ∧ w'.cell? ⟨ga, oa + j * 5 + 4, none⟩ = some a4 ∧ w'.cell? ⟨gb, ob + j * 5, none⟩ = some b0 ∧ w'.cell? ⟨gb, ob + j * 5 + 1, none⟩ = some b1 ∧ w'.cell? ⟨gb, ob + j * 5 + 2, none⟩ = some b2 ∧ w'.cell? ⟨gb, ob + j * 5 + 3, none⟩ = some b3 ∧ w'.cell? ⟨gb, ob + j * 5 + 4, none⟩ = some b4)
          (first
            | exact HK0.out
            | assumption
            | go_keep)
          (first
            | (go_at_call 22; refine (HIH.out _ HXA.out.drew HXB.out.drew).mono ?_; rintro e w7 ⟨rfl, hb7⟩; have hb7' := (below_drewN (Below.refl _ _) 1).trans hb7; have hS7 := HK7.out w7 hb7'; clear hb7))
        all_goals
          have HB7 := Lib.hid hb7'
          clear hb7' hS7
          go_wp2
          go_roundw
          case rel => exact ⟨⟨j + 1, by go_num, by omega⟩, HBR.out.trans (HB7.out.mono hszr)⟩
          case measure => simp [intOf]; omega
      · have d1 : decide (j < ks.length) = false := by simpa using hlt
        have d2 : decide ((j : Int) < (ks.length : Int)) = false := by simpa using hlt
        go_wp2_with fail
        go_ret
        exact ⟨rfl, by rw [HAe.out]; exact HWR.out⟩
end Go.Proofs.YtgobcflfhabdhaaGreatDoor.Lx
