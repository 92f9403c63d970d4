/-
  What SameExpr of the document's answer tells of expressions that are alike, as a contract.
-/
import Derived.Test.YtgobcflfhabdhaaGreatDoorPB
import Derived.Deep.RegionHeld3
namespace Go.Proofs.YtgobcflfhabdhaaGreatDoor.Lx
open Go.RowKit
open P (EX)
set_option linter.unusedVariables false
set_option linter.unusedSimpArgs false
/-- A kid's cells, and that it lies there. -/
theorem LXs.at {Q : Nat → Prop} {w : World} : ∀ (es : List EX) {g off : Nat}, LXs Q w g off es → ∀ i, i < es.length → ∃ e c0 c1 c2 c3, es[i]? = some e ∧ w.cell? ⟨g, off + i * 4, none⟩ = some c0 ∧ w.cell? ⟨g, off + i * 4 + 1, none⟩ = some c1 ∧ w.cell? ⟨g, off + i * 4 + 2, none⟩ = some c2 ∧ w.cell? ⟨g, off + i * 4 + 3, none⟩ = some c3 ∧ LX Q w (.agg #[c0, c1, c2, c3]) e
  | [], g, off, h, i, hi => by simp at hi
  | x :: es, g, off, h, 0, hi => by
    unfold LXs at h
    obtain ⟨⟨c0, c1, c2, c3, h0, h1, h2, h3, hx⟩, _⟩ := h
    exact ⟨x, c0, c1, c2, c3, rfl, by simpa using h0, by simpa using h1, by simpa using h2, by simpa using h3, hx⟩
  | x :: es, g, off, h, i + 1, hi => by
    unfold LXs at h
    obtain ⟨_, hs⟩ := h
    obtain ⟨e, c0, c1, c2, c3, he, h0, h1, h2, h3, hx⟩ := LXs.at es hs i (by simpa using hi)
    refine ⟨e, c0, c1, c2, c3, by simpa using he, ?_, ?_, ?_, ?_, hx⟩
    · rw [show off + (i + 1) * 4 = off + 4 + i * 4 by omega]; exact h0
    · rw [show off + (i + 1) * 4 + 1 = off + 4 + i * 4 + 1 by omega]; exact h1
    · rw [show off + (i + 1) * 4 + 2 = off + 4 + i * 4 + 2 by omega]; exact h2
    · rw [show off + (i + 1) * 4 + 3 = off + 4 + i * 4 + 3 by omega]; exact h3
def EX.size : EX → Nat
  | .mk _ _ _ ks => 1 + sizeL ks
where sizeL : List EX → Nat
  | [] => 0
  | e :: es => EX.size e + sizeL es
theorem size_mem : ∀ (es : List EX) (i : Nat) (e : EX), es[i]? = some e → EX.size e ≤ EX.size.sizeL es
  | [], i, e, h => by simp at h
  | x :: es, 0, e, h => by
    simp at h
    subst h
    unfold EX.size.sizeL
    omega
  | x :: es, i + 1, e, h => by
    have := size_mem es i e (by simpa using h)
    unfold EX.size.sizeL
    omega
theorem LX.drew {Q : Nat → Prop} {w : World} {v : Value} {e : EX} (h : LX Q w v e) : LX Q w.drew v e := LX.keep (w := w) (w' := w.drew) (fun g hg hl => rfl) e h
set_option maxRecDepth 100000 in
set_option maxHeartbeats 3200000 in
theorem sameX : ∀ (N : Nat) (e : EX), EX.size e ≤ N → ∀ (Q Q' : Nat → Prop) (va vb : Value) (w : World), LX Q w va e → LX Q' w vb e → Calls Tryz.prog 14 #[va, vb] w (BoolTo true w)
  | 0, .mk o m s ks, hN, Q, Q', va, vb, w, ha, hb => by
    unfold EX.size at hN
    omega
  | N + 1, .mk o m s ks, hN, Q, Q', va, vb, w, ha, hb => by
    have IH := Lib.hid (fun e (he : EX.size e ≤ N) => sameX N e he)
    have HA := Lib.hid ha
    have HB := Lib.hid hb
    have hm : ks.length ≤ maxLen := by
      unfold LX at ha
      obtain ⟨_, _, _, h, _⟩ := ha
      exact h
    have HM := Lib.hid hm
    unfold maxLen at hm
    have HSZ := Lib.hid (show ∀ i e, ks[i]? = some e → EX.size e ≤ N by
      intro i e he
      have h1 := size_mem ks i e he
      unfold EX.size at hN
      omega)
    unfold LX at ha hb
    obtain ⟨a, ca, rfl, _, hka⟩ := ha
    obtain ⟨b, cb, rfl, _, hkb⟩ := hb
    have HKA := Lib.hid hka
    have HKB := Lib.hid hkb
    clear hka hkb hN
    generalize bs s = S at *
    go_enter Tryz.func14, Tryz.ntmps14
    go_wp2_with fail
    have hA := (Blk.new w 46 #[.int .i64 o, .int .i64 m, .string S, .slice a ks.length ca]).alloc (.cells #[.int .i64 o, .int .i64 m, .string S, .slice b ks.length cb] 46)
    have hB := Blk.new (w.alloc (.cells #[.int .i64 o, .int .i64 m, .string S, .slice a ks.length ca] 46)) 46 #[.int .i64 o, .int .i64 m, .string S, .slice b ks.length cb]
    rw [show (w.alloc (.cells #[.int .i64 o, .int .i64 m, .string S, .slice a ks.length ca] 46)).heap.size = w.heap.size + 1 by simp] at hB
    have hbl : Below w.heap.size w ((w.alloc (.cells #[.int .i64 o, .int .i64 m, .string S, .slice a ks.length ca] 46)).alloc (.cells #[.int .i64 o, .int .i64 m, .string S, .slice b ks.length cb] 46)) := ((Below.refl _ _).alloc (Nat.le_refl _) _).alloc (by simp) _
    have HA0 := Lib.hid hA
    have HB0 := Lib.hid hB
    have HBL := Lib.hid hbl
    clear hA hB hbl
    generalize ((w.alloc (.cells #[.int .i64 o, .int .i64 m, .string S, .slice a ks.length ca] 46)).alloc (.cells #[.int .i64 o, .int .i64 m, .string S, .slice b ks.length cb] 46)) = W at *
    generalize hA0 : w.heap.size = A0 at *
    generalize hB0 : A0 + 1 = B0 at *
    have hAB : A0 < B0 := by omega
    have hW : B0 < W.heap.size := HB0.out.lt
    have HAe := Lib.hid hA0
    clear hA0 hB0
    go_loopw [5] (fun t wr => (∃ j : Nat, t = .int .i64 j ∧ j ≤ ks.length) ∧ Below W.heap.size W wr) (fun t _ => ks.length - (intOf t).toNat)
    case atStart => exact ⟨⟨0, rfl, Nat.zero_le _⟩, Below.refl _ _⟩
    case round =>
      obtain ⟨⟨j, rfl, hj⟩, hbr⟩ := hrel
      have HBR := Lib.hid hbr
      have hszr := hbr.size
      have HAr := Lib.hid (HA0.out.live' hbr)
      have HBr := Lib.hid (HB0.out.live' hbr)
      have HWR := Lib.hid (HBL.out.trans (hbr.mono (show A0 ≤ W.heap.size by omega)))
      clear hbr
      obtain ⟨p0, p1, p2, p3⟩ := (show _ ∧ _ ∧ _ ∧ _ from ⟨HAr.out.cell 0, HAr.out.cell 1, HAr.out.cell 2, HAr.out.cell 3⟩)
      obtain ⟨q0, q1, q2, q3⟩ := (show _ ∧ _ ∧ _ ∧ _ from ⟨HBr.out.cell 0, HBr.out.cell 1, HBr.out.cell 2, HBr.out.cell 3⟩)
      have p3' : wr.cell? ⟨A0, 3, none⟩ = some (.slice a ks.length ca) := p3
      have q3' : wr.cell? ⟨B0, 3, none⟩ = some (.slice b ks.length cb) := q3
      clear p0 p1 p2 p3 q0 q1 q2 q3
      by_cases hlt : j < ks.length
      · rcases HKA.out with hz | ⟨ga, oa, hga, _, hla⟩
        · rw [hz] at hlt
          simp at hlt
        rcases HKB.out with hz | ⟨gb, ob, hgb, _, hlb⟩
        · rw [hz] at hlt
          simp at hlt
        have hbw : Below w.heap.size w wr := by rw [HAe.out]; exact HWR.out
        obtain ⟨x, a0, a1, a2, a3, hx, ha0, ha1, ha2, ha3, hxa⟩ := LXs.at ks (LXs.keep (Keeps.below hbw (Nat.le_refl _)) ks ‹_› hla) j hlt
        obtain ⟨y, b0, b1, b2, b3, hy, hb0, hb1, hb2, hb3, hxb⟩ := LXs.at ks (LXs.keep (Keeps.below hbw (Nat.le_refl _)) ks ‹_› hlb) j hlt
        subst hga hgb
        have hyx : y = x := by rw [hx] at hy; exact (Option.some.inj hy).symm
        subst hyx
        have HIH := Lib.hid (fun w' => IH.out y (HSZ.out j y hx) Q Q' (.agg #[a0, a1, a2, a3]) (.agg #[b0, b1, b2, b3]) w')
        have HXA := Lib.hid hxa
        have HXB := Lib.hid hxb
        have hlA : A0 < wr.heap.size := by omega
        have hlB : B0 < wr.heap.size := by omega
        have hlga : ga < wr.heap.size := World.block_lt_of_cell? wr _ ha0
        have hlgb : gb < wr.heap.size := World.block_lt_of_cell? wr _ hb0
        have m1 : (0 : Int) ≤ (j : Int) := by omega
        have m2 : (j : Int) < (ks.length : Int) := by omega
        have HK0 : Hid (wr.cell? ⟨A0, 3, none⟩ = some (.slice (some ⟨ga, oa, none⟩) ks.length ca) ∧ wr.cell? ⟨B0, 3, none⟩ = some (.slice (some ⟨gb, ob, none⟩) ks.length cb) ∧ wr.cell? ⟨ga, oa + j * 4, none⟩ = some a0 ∧ wr.cell? ⟨ga, oa + j * 4 + 1, none⟩ = some a1 ∧ wr.cell? ⟨ga, oa + j * 4 + 2, none⟩ = some a2 ∧ wr.cell? ⟨ga, oa + j * 4 + 3, none⟩ = some a3 ∧ wr.cell? ⟨gb, ob + j * 4, none⟩ = some b0 ∧ wr.cell? ⟨gb, ob + j * 4 + 1, none⟩ = some b1 ∧ wr.cell? ⟨gb, ob + j * 4 + 2, none⟩ = some b2 ∧ wr.cell? ⟨gb, ob + j * 4 + 3, none⟩ = some b3) := ⟨p3', q3', ha0, ha1, ha2, ha3, hb0, hb1, hb2, hb3⟩
        have HK7 : Hid (∀ w7, Below wr.heap.size wr w7 → w7.cell? ⟨A0, 3, none⟩ = some (.slice (some ⟨ga, oa, none⟩) ks.length ca) ∧ w7.cell? ⟨B0, 3, none⟩ = some (.slice (some ⟨gb, ob, none⟩) ks.length cb) ∧ w7.cell? ⟨ga, oa + j * 4, none⟩ = some a0 ∧ w7.cell? ⟨ga, oa + j * 4 + 1, none⟩ = some a1 ∧ w7.cell? ⟨ga, oa + j * 4 + 2, none⟩ = some a2 ∧ w7.cell? ⟨ga, oa + j * 4 + 3, none⟩ = some a3 ∧ w7.cell? ⟨gb, ob + j * 4, none⟩ = some b0 ∧ w7.cell? ⟨gb, ob + j * 4 + 1, none⟩ = some b1 ∧ w7.cell? ⟨gb, ob + j * 4 + 2, none⟩ = some b2 ∧ w7.cell? ⟨gb, ob + j * 4 + 3, none⟩ = some b3) := fun w7 h7 => ⟨(h7.cell (p := ⟨A0, 3, none⟩) hlA).trans p3', (h7.cell (p := ⟨B0, 3, none⟩) hlB).trans q3', (h7.cell (p := ⟨ga, _, none⟩) hlga).trans ha0, (h7.cell (p := ⟨ga, _, none⟩) hlga).trans ha1, (h7.cell (p := ⟨ga, _, none⟩) hlga).trans ha2, (h7.cell (p := ⟨ga, _, none⟩) hlga).trans ha3, (h7.cell (p := ⟨gb, _, none⟩) hlgb).trans hb0, (h7.cell (p := ⟨gb, _, none⟩) hlgb).trans hb1, (h7.cell (p := ⟨gb, _, none⟩) hlgb).trans hb2, (h7.cell (p := ⟨gb, _, none⟩) hlgb).trans hb3⟩
        clear hla hlb hxa hxb hx hy hbw
        go_wp2_with fail
        go_region_held3 (fun w' => w'.cell? ⟨A0, 3, none⟩ = some (.slice (some ⟨ga, oa, none⟩) ks.length ca) ∧ w'.cell? ⟨B0, 3, none⟩ = some (.slice (some ⟨gb, ob, none⟩) ks.length cb) ∧ w'.cell? ⟨ga, oa + j * 4, none⟩ = some a0 ∧ w'.cell? ⟨ga, oa + j * 4 + 1, none⟩ = some a1 ∧ w'.cell? ⟨ga, oa + j * 4 + 2, none⟩ = some a2 ∧ w'.cell? ⟨ga, oa + j * 4 + 3, none⟩ = some a3 ∧ w'.cell? ⟨gb, ob + j * 4, none⟩ = some b0 ∧ w'.cell? ⟨gb, ob + j * 4 + 1, none⟩ = some b1 ∧ w'.cell? ⟨gb, ob + j * 4 + 2, none⟩ = some b2 ∧ w'.cell? ⟨gb, ob + j * 4 + 3, none⟩ = some b3)
          (first
            | exact HK0.out
            | assumption
            | go_keep)
          (first
            | (go_at_call 14; refine (HIH.out _ HXA.out.drew HXB.out.drew).mono ?_; rintro e w7 ⟨rfl, hb7⟩; have hb7' := (below_drewN (Below.refl _ _) 1).trans hb7; have hS7 := HK7.out w7 hb7'; clear hb7))
        all_goals
          have HB7 := Lib.hid hb7'
          clear hb7' hS7
          go_wp2
          go_roundw
          case rel => exact ⟨⟨j + 1, by go_num, by omega⟩, HBR.out.trans (HB7.out.mono hszr)⟩
          case measure => simp [intOf]; omega
      · have d1 : decide (j < ks.length) = false := by simpa using hlt
        have d2 : decide ((j : Int) < (ks.length : Int)) = false := by simpa using hlt
        go_wp2_with fail
        go_ret
        exact ⟨rfl, by rw [HAe.out]; exact HWR.out⟩
end Go.Proofs.YtgobcflfhabdhaaGreatDoor.Lx
