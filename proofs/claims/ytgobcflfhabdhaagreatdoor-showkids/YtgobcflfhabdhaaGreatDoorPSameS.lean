/-
  What SameStmts of the document's answer tells of statements that are alike, as a contract.
-/
import Derived.Test.YtgobcflfhabdhaaGreatDoorPE
import Derived.Test.YtgobcflfhabdhaaGreatDoorPSame
import Derived.Deep.RegionHeld3
namespace Go.Proofs.YtgobcflfhabdhaaGreatDoor.Lx
open Go.RowKit
open P (EX ST)
set_option linter.unusedVariables false
set_option linter.unusedSimpArgs false
mutual
def ST.size : ST → Nat
  | .mk _ _ _ _ _ th el => 1 + sizeSs th + sizeSs el
def sizeSs : List ST → Nat
  | [] => 0
  | e :: es => ST.size e + sizeSs es
end
theorem sizes_mem : ∀ (es : List ST) (i : Nat) (e : ST), es[i]? = some e → ST.size e ≤ sizeSs es
  | [], i, e, h => by simp at h
  | x :: es, 0, e, h => by
    simp at h
    subst h
    unfold sizeSs
    omega
  | x :: es, i + 1, e, h => by
    have := sizes_mem es i e (by simpa using h)
    unfold sizeSs
    omega
/-- A slice's row of statements. -/
def RowS (Q : Nat → Prop) (w : World) (a : Option Addr) (es : List ST) : Prop := es = [] ∨ ∃ g off, a = some ⟨g, off, none⟩ ∧ Q g ∧ LSs Q w g off es
theorem RowS.keep {Q : Nat → Prop} {w w' : World} {a : Option Addr} {es : List ST} (h : RowS Q w a es) (hk : Keeps Q w w') : RowS Q w' a es := by
  rcases h with h | ⟨g, off, ha, hg, hs⟩
  · exact .inl h
  · exact .inr ⟨g, off, ha, hg, LSs.keep hk es hg hs⟩
set_option maxRecDepth 100000 in
set_option maxHeartbeats 3200000 in
theorem sameS : ∀ (N : Nat) (es : List ST), sizeSs es < N → es.length ≤ maxLen → ∀ (Q Q' : Nat → Prop) (a b : Option Addr) (ca cb : Nat) (w : World), RowS Q w a es → RowS Q' w b es → Calls Tryz.prog 23 #[.slice a es.length ca, .slice b es.length cb] w (BoolTo true w)
  | 0, es, hN, hm, Q, Q', a, b, ca, cb, w, ha, hb => by
    omega
  | N + 1, es, hN, hm, Q, Q', a, b, ca, cb, w, ha, hb => by
    have IH := Lib.hid (fun es (he : sizeSs es < N) => sameS N es he)
    have HSZ := Lib.hid (show ∀ i e, es[i]? = some e → ST.size e ≤ N by
      intro i e he
      have h1 := sizes_mem es i e he
      omega)
    have HA := Lib.hid ha
    have HB := Lib.hid hb
    unfold maxLen at hm
    clear ha hb hN
    go_enter Tryz.func23, Tryz.ntmps23
    go_wp2_with fail
    go_loopw [5] (fun t wr => (∃ j : Nat, t = .int .i64 j ∧ j ≤ es.length) ∧ Below w.heap.size w wr) (fun t _ => es.length - (intOf t).toNat)
    case atStart => exact ⟨⟨0, rfl, Nat.zero_le _⟩, Below.refl _ _⟩
    case round =>
      obtain ⟨⟨j, rfl, hj⟩, hbr⟩ := hrel
      have HBR := Lib.hid hbr
      have hszr := hbr.size
      clear hbr
      by_cases hlt : j < es.length
      · have hra := HA.out.keep (Keeps.below HBR.out (Nat.le_refl _))
        have hrb := HB.out.keep (Keeps.below HBR.out (Nat.le_refl _))
        rcases hra with hz | ⟨ga, oa, hga, _, hla⟩
        · rw [hz] at hlt
          simp at hlt
        rcases hrb with hz | ⟨gb, ob, hgb, _, hlb⟩
        · rw [hz] at hlt
          simp at hlt
        obtain ⟨x, a0, a1, a2, a3, a4, a5, a6, hx, ha0, ha1, ha2, ha3, ha4, ha5, ha6, hxa⟩ := LSs.at es hla j hlt
        obtain ⟨y, b0, b1, b2, b3, b4, b5, b6, hy, hb0, hb1, hb2, hb3, hb4, hb5, hb6, hxb⟩ := LSs.at es hlb j hlt
        subst hga hgb
        have hyx : y = x := by rw [hx] at hy; exact (Option.some.inj hy).symm
        subst hyx
        obtain ⟨kd, md, rg, lc, ar, th, el⟩ := y
        have HS := Lib.hid (HSZ.out j _ hx)
        unfold LS at hxa hxb
        obtain ⟨aa, caa, at', cat, ae, cae, hva, m1, m2, m3, r1, r2, r3⟩ := hxa
        obtain ⟨ba, cba, bt', cbt, be, cbe, hvb, n1, n2, n3, s1, s2, s3⟩ := hxb
        injection hva with hva
        injection hvb with hvb
        simp only [Array.mk.injEq, List.cons.injEq, and_true] at hva hvb
        obtain ⟨rfl, rfl, rfl, rfl, rfl, rfl, rfl⟩ := hva
        obtain ⟨rfl, rfl, rfl, rfl, rfl, rfl, rfl⟩ := hvb
        have R1 := Lib.hid r1
        have R2 := Lib.hid (show RowS Q wr at' th from r2)
        have R3 := Lib.hid (show RowS Q wr ae el from r3)
        have S1 := Lib.hid s1
        have S2 := Lib.hid (show RowS Q' wr bt' th from s2)
        have S3 := Lib.hid (show RowS Q' wr be el from s3)
        have M1 := Lib.hid m1
        have M2 := Lib.hid m2
        have M3 := Lib.hid m3
        have hlga : ga < wr.heap.size := World.block_lt_of_cell? wr _ ha0
        have hlgb : gb < wr.heap.size := World.block_lt_of_cell? wr _ hb0
        have c1 : (0 : Int) ≤ (j : Int) := by omega
        have c2 : (j : Int) < (es.length : Int) := by omega
        have d1 : decide (j < es.length) = true := by simpa using hlt
        have d2 : decide ((j : Int) < (es.length : Int)) = true := by simpa using hlt
        generalize bs rg = RG at *
        generalize bs lc = LC' at *
        clear hla hlb hx hy r1 r2 r3 s1 s2 s3 m1 m2 m3 n1 n2 n3
        go_wp2_with fail
        have hA := (Blk.new wr 52 #[.int .i64 kd, .int .i64 md, .string RG, .string LC', .slice aa ar.length caa, .slice at' th.length cat, .slice ae el.length cae]).alloc (.cells #[.int .i64 kd, .int .i64 md, .string RG, .string LC', .slice ba ar.length cba, .slice bt' th.length cbt, .slice be el.length cbe] 52)
        have hB := Blk.new (wr.alloc (.cells #[.int .i64 kd, .int .i64 md, .string RG, .string LC', .slice aa ar.length caa, .slice at' th.length cat, .slice ae el.length cae] 52)) 52 #[.int .i64 kd, .int .i64 md, .string RG, .string LC', .slice ba ar.length cba, .slice bt' th.length cbt, .slice be el.length cbe]
        rw [show (wr.alloc (.cells #[.int .i64 kd, .int .i64 md, .string RG, .string LC', .slice aa ar.length caa, .slice at' th.length cat, .slice ae el.length cae] 52)).heap.size = wr.heap.size + 1 by simp] at hB
        have hbl : Below wr.heap.size wr ((wr.alloc (.cells #[.int .i64 kd, .int .i64 md, .string RG, .string LC', .slice aa ar.length caa, .slice at' th.length cat, .slice ae el.length cae] 52)).alloc (.cells #[.int .i64 kd, .int .i64 md, .string RG, .string LC', .slice ba ar.length cba, .slice bt' th.length cbt, .slice be el.length cbe] 52)) := ((Below.refl _ _).alloc (Nat.le_refl _) _).alloc (by simp) _
        have HA0 := Lib.hid hA
        have HB0 := Lib.hid hB
        have HBL := Lib.hid hbl
        clear hA hB hbl ha0 ha1 ha2 ha3 ha4 ha5 ha6 hb0 hb1 hb2 hb3 hb4 hb5 hb6
        generalize ((wr.alloc (.cells #[.int .i64 kd, .int .i64 md, .string RG, .string LC', .slice aa ar.length caa, .slice at' th.length cat, .slice ae el.length cae] 52)).alloc (.cells #[.int .i64 kd, .int .i64 md, .string RG, .string LC', .slice ba ar.length cba, .slice bt' th.length cbt, .slice be el.length cbe] 52)) = W at *
        generalize hA0 : wr.heap.size = A0 at *
        generalize hB0 : A0 + 1 = B0 at *
        have hAB : A0 < B0 := by omega
        have hW : B0 < W.heap.size := HB0.out.lt
        have HAe := Lib.hid hA0
        clear hB0 hA0
        have HT : Hid (sizeSs th < N ∧ sizeSs el < N) := by
          have h := HS.out
          unfold ST.size at h
          exact ⟨by omega, by omega⟩
        have hk0 : Below wr.heap.size wr W := by rw [HAe.out]; exact HBL.out
        with_reducible refine (IH.out th HT.out.1 M2.out Q Q' at' bt' cat cbt W (R2.out.keep (Keeps.below hk0 (Nat.le_refl _))) (S2.out.keep (Keeps.below hk0 (Nat.le_refl _)))).mono ?_
        rintro e w1 ⟨rfl, hb1⟩
        have HB1 := Lib.hid hb1
        have hz1 := hb1.size
        have HA1 := Lib.hid (HA0.out.live' hb1)
        have HBb1 := Lib.hid (HB0.out.live' hb1)
        have p6 : w1.cell? ⟨A0, 6, none⟩ = some (.slice ae el.length cae) := HA1.out.cell 6
        have q6 : w1.cell? ⟨B0, 6, none⟩ = some (.slice be el.length cbe) := HBb1.out.cell 6
        clear hb1 hk0
        go_wp2_with fail
        have hk1 : Below wr.heap.size wr w1 := by rw [HAe.out]; exact HBL.out.trans (HB1.out.mono (show A0 ≤ W.heap.size by omega))
        with_reducible refine (IH.out el HT.out.2 M3.out Q Q' ae be cae cbe w1 (R3.out.keep (Keeps.below hk1 (Nat.le_refl _))) (S3.out.keep (Keeps.below hk1 (Nat.le_refl _)))).mono ?_
        rintro e w2 ⟨rfl, hb2⟩
        have hz2 := hb2.size
        have hk2 : Below wr.heap.size wr w2 := hk1.trans (hb2.mono (by have := hk1.size; omega))
        have HA2 := Lib.hid (HA1.out.live' hb2)
        have HBb2 := Lib.hid (HBb1.out.live' hb2)
        have HK2 := Lib.hid hk2
        have hma : ar.length ≤ maxLen := M1.out
        unfold maxLen at hma
        clear hb2 hk1 hk2 p6 q6
        go_wp2_with fail
        go_loopw [8] (fun t wr => (∃ i : Nat, t = .int .i64 i ∧ i ≤ ar.length) ∧ Below w2.heap.size w2 wr) (fun t _ => ar.length - (intOf t).toNat)
        case atStart => exact ⟨⟨0, rfl, Nat.zero_le _⟩, Below.refl _ _⟩
        case round =>
          obtain ⟨⟨i, rfl, hi⟩, hbi⟩ := hrel
          have HBI := Lib.hid hbi
          have hszi := hbi.size
          have HAi := Lib.hid (HA2.out.live' hbi)
          have HBi := Lib.hid (HBb2.out.live' hbi)
          have HWI := Lib.hid (HK2.out.trans (hbi.mono HK2.out.size))
          clear hbi
          have p4 : wr.cell? ⟨A0, 4, none⟩ = some (.slice aa ar.length caa) := HAi.out.cell 4
          have q4 : wr.cell? ⟨B0, 4, none⟩ = some (.slice ba ar.length cba) := HBi.out.cell 4
          by_cases hil : i < ar.length
          · rcases R1.out with hz | ⟨pa, qa, hpa, _, hxa⟩
            · rw [hz] at hil
              simp at hil
            rcases S1.out with hz | ⟨pb, qb, hpb, _, hxb⟩
            · rw [hz] at hil
              simp at hil
            obtain ⟨x, e0, e1, e2, e3, hx, he0, he1, he2, he3, hxe⟩ := LXs.at ar (LXs.keep (Keeps.below HWI.out (Nat.le_refl _)) ar ‹_› hxa) i hil
            obtain ⟨y, f0, f1, f2, f3, hy, hf0, hf1, hf2, hf3, hxf⟩ := LXs.at ar (LXs.keep (Keeps.below HWI.out (Nat.le_refl _)) ar ‹_› hxb) i hil
            subst hpa hpb
            have hyx : y = x := by rw [hx] at hy; exact (Option.some.inj hy).symm
            subst hyx
            have HIH := Lib.hid (fun w' => sameX (EX.size y) y (Nat.le_refl _) Q Q' (.agg #[e0, e1, e2, e3]) (.agg #[f0, f1, f2, f3]) w')
            have HXA := Lib.hid hxe
            have HXB := Lib.hid hxf
            have hlA : A0 < wr.heap.size := by omega
            have hlB : B0 < wr.heap.size := by omega
            have hlpa : pa < wr.heap.size := World.block_lt_of_cell? wr _ he0
            have hlpb : pb < wr.heap.size := World.block_lt_of_cell? wr _ hf0
            have k1 : (0 : Int) ≤ (i : Int) := by omega
            have k2 : (i : Int) < (ar.length : Int) := by omega
            have HK0 : Hid (wr.cell? ⟨A0, 4, none⟩ = some (.slice (some ⟨pa, qa, none⟩) ar.length caa) ∧ wr.cell? ⟨B0, 4, none⟩ = some (.slice (some ⟨pb, qb, none⟩) ar.length cba) ∧ wr.cell? ⟨pa, qa + i * 4, none⟩ = some e0 ∧ wr.cell? ⟨pa, qa + i * 4 + 1, none⟩ = some e1 ∧ wr.cell? ⟨pa, qa + i * 4 + 2, none⟩ = some e2 ∧ wr.cell? ⟨pa, qa + i * 4 + 3, none⟩ = some e3 ∧ wr.cell? ⟨pb, qb + i * 4, none⟩ = some f0 ∧ wr.cell? ⟨pb, qb + i * 4 + 1, none⟩ = some f1 ∧ wr.cell? ⟨pb, qb + i * 4 + 2, none⟩ = some f2 ∧ wr.cell? ⟨pb, qb + i * 4 + 3, none⟩ = some f3) := ⟨p4, q4, he0, he1, he2, he3, hf0, hf1, hf2, hf3⟩
            have HK7 : Hid (∀ w7, Below wr.heap.size wr w7 → w7.cell? ⟨A0, 4, none⟩ = some (.slice (some ⟨pa, qa, none⟩) ar.length caa) ∧ w7.cell? ⟨B0, 4, none⟩ = some (.slice (some ⟨pb, qb, none⟩) ar.length cba) ∧ w7.cell? ⟨pa, qa + i * 4, none⟩ = some e0 ∧ w7.cell? ⟨pa, qa + i * 4 + 1, none⟩ = some e1 ∧ w7.cell? ⟨pa, qa + i * 4 + 2, none⟩ = some e2 ∧ w7.cell? ⟨pa, qa + i * 4 + 3, none⟩ = some e3 ∧ w7.cell? ⟨pb, qb + i * 4, none⟩ = some f0 ∧ w7.cell? ⟨pb, qb + i * 4 + 1, none⟩ = some f1 ∧ w7.cell? ⟨pb, qb + i * 4 + 2, none⟩ = some f2 ∧ w7.cell? ⟨pb, qb + i * 4 + 3, none⟩ = some f3) := fun w7 h7 => ⟨(h7.cell (p := ⟨A0, 4, none⟩) hlA).trans p4, (h7.cell (p := ⟨B0, 4, none⟩) hlB).trans q4, (h7.cell (p := ⟨pa, _, none⟩) hlpa).trans he0, (h7.cell (p := ⟨pa, _, none⟩) hlpa).trans he1, (h7.cell (p := ⟨pa, _, none⟩) hlpa).trans he2, (h7.cell (p := ⟨pa, _, none⟩) hlpa).trans he3, (h7.cell (p := ⟨pb, _, none⟩) hlpb).trans hf0, (h7.cell (p := ⟨pb, _, none⟩) hlpb).trans hf1, (h7.cell (p := ⟨pb, _, none⟩) hlpb).trans hf2, (h7.cell (p := ⟨pb, _, none⟩) hlpb).trans hf3⟩
            clear hxa hxb hxe hxf hx hy
            go_wp2_with fail
            go_region_held3 (fun w' => w'.cell? ⟨A0, 4, none⟩ = some (.slice (some ⟨pa, qa, none⟩) ar.length caa) ∧ w'.cell? ⟨B0, 4, none⟩ = some (.slice (some ⟨pb, qb, none⟩) ar.length cba) ∧ w'.cell? ⟨pa, qa + i * 4, none⟩ = some e0 ∧ w'.cell? ⟨pa, qa + i * 4 + 1, none⟩ = some e1 ∧ w'.cell? ⟨pa, qa + i * 4 + 2, none⟩ = some e2 ∧ w'.cell? ⟨pa, qa + i * 4 + 3, none⟩ = some e3 ∧ w'.cell? ⟨pb, qb + i * 4, none⟩ = some f0 ∧ w'.cell? ⟨pb, qb + i * 4 + 1, none⟩ = some f1 ∧ w'.cell? ⟨pb, qb + i * 4 + 2, none⟩ = some f2 ∧ w'.cell? ⟨pb, qb + i * 4 + 3, none⟩ = some f3)
              (first
                | exact HK0.out
                | assumption
                | go_keep)
              (first
                | (go_at_call 14; refine (HIH.out _ HXA.out.drew HXB.out.drew).mono ?_; rintro e w7 ⟨rfl, hb7⟩; have hb7' := (below_drewN (Below.refl _ _) 1).trans hb7; have hS7 := HK7.out w7 hb7'; clear hb7))
            all_goals
              have HB7 := Lib.hid hb7'
              clear hb7' hS7
              go_wp2
              go_roundw
              case rel => exact ⟨⟨i + 1, by go_num, by omega⟩, HBI.out.trans (HB7.out.mono hszi)⟩
              case measure => simp [intOf]; omega
          · have d3 : decide (i < ar.length) = false := by simpa using hil
            have d4 : decide ((i : Int) < (ar.length : Int)) = false := by simpa using hil
            go_wp2_with fail
            go_roundw
            case rel => exact ⟨⟨j + 1, by go_num, by omega⟩, HBR.out.trans (HWI.out.mono HBR.out.size)⟩
            case measure => simp [intOf]; omega
      · have d1 : decide (j < es.length) = false := by simpa using hlt
        have d2 : decide ((j : Int) < (es.length : Int)) = false := by simpa using hlt
        go_wp2_with fail
        go_ret
        exact ⟨rfl, HBR.out⟩
end Go.Proofs.YtgobcflfhabdhaaGreatDoor.Lx
