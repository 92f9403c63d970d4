/-
  LexTight's walk: for any signs and numbers it returns true, and nothing old turns.
-/
import Derived.Test.YtlnhhfmgciaaeaaLTight
namespace Go.Proofs.Ytlnhhfmgciaaeaa.Lx
open Go.RowKit
set_option linter.unusedVariables false
set_option linter.unusedSimpArgs false
set_option maxRecDepth 100000 in
set_option maxHeartbeats 8000000 in
theorem tight_law (a : Option Addr) (len cap : Nat) (xs : List Nat) (m n : Nat) (w : World) (hx : IsBytes w a len xs) (hm : m < 256) (hn : n < 256) : Calls Try.prog 5 #[.slice a len cap, .int .u8 (m : Nat), .int .u8 (n : Nat)] w (BoolTo true w) := by
  obtain ⟨i0, hi, hz0, hz1, hz2⟩ := info_parts Try.infoTok
  have HI := Lib.hid hi
  have HZ0 := Lib.hid hz0
  have HZ1 := Lib.hid hz1
  have HZ2 := Lib.hid hz2
  clear hi hz0 hz1 hz2
  have hlm := hx.2.1
  have HX := Lib.hid hx
  clear hx
  by_cases hl : len ≤ 30
  · have e1 : decide ((30 : Int) < (len : Int)) = false := by simp; omega
    have hX3 : (bs (L.decL m)).size ≤ 19 := by rw [bs_size]; exact dec_max m (by omega)
    have hY3 : (bs (L.decL n)).size ≤ 19 := by rw [bs_size]; exact dec_max n (by omega)
    have HDM := Lib.hid (fun w => digits_any m w (by omega))
    have HDN := Lib.hid (fun w => digits_any n w (by omega))
    have HWT := Lib.hid (word_toks m n _ _ rfl rfl (by omega))
    obtain ⟨nv, hnt⟩ := num_toks m n hm hn _ _ rfl rfl (by omega)
    have HNT := Lib.hid hnt
    have HPT := Lib.hid (pair_toks m n hm _ _ rfl rfl (by omega))
    have Q := Lib.hid (eqFlt_self 0 0)
    clear hnt
    generalize bs (L.decL m) = X at *
    generalize bs (L.decL n) = Y at *
    have z1 : ¬ 1 + X.size > 9223372036854775807 := by omega
    have z2 : ¬ 1 + X.size + Y.size > 9223372036854775807 := by omega
    have z3 : ¬ X.size + Y.size > 9223372036854775807 := by omega
    have z4 : ¬ X.size + 1 > 9223372036854775807 := by omega
    have z5 : ¬ X.size + 1 + Y.size > 9223372036854775807 := by omega
    have z6 : ¬ 1 + Y.size > 9223372036854775807 := by omega
    go_enter Try.func5, Try.ntmps5
    go_wp2_with fail
    with_reducible refine (begun_any _).mono ?_
    rintro e w0 ⟨rfl, hb0⟩
    have HX0 := Lib.hid (HX.out.below hb0)
    have HB0 := Lib.hid hb0
    clear hb0 HX
    go_wp2_with fail
    go_loopw [7, 8, 9] (fun tv vv iv wr => TightR len w0 tv vv iv wr) (fun _ _ iv _ => 100 - (intOf iv).toNat)
    case atStart => exact ⟨0, ⟨#[]⟩, [], rfl, rfl, by omega, by decide, by simp, fun r => by rw [L.pre_nil]; rfl, World.ownsRow_nil _ _ _ _, Below.refl _ _⟩
    case round =>
      obtain ⟨i, T, ts, rfl, rfl, hi, hT, hts, hBr, hown, hbel⟩ := hrel
      have HBr := Lib.hid hBr
      have HOW := Lib.hid hown
      have HBE := Lib.hid hbel
      have hsz := hbel.size
      clear hBr hown hbel
      by_cases hlt : i < len
      · have hxr := HX0.out.below HBE.out
        obtain ⟨b, off, rfl, hc⟩ := hxr.at (by omega)
        have c1 := hc i hlt
        have x1 := hxr.2.2.1 i
        clear hc hxr
        generalize xs.getD i 0 = y at *
        have HPC := Lib.hid (fun w => piece_two y w x1)
        have HTE := Lib.hid (sg_test y)
        have n1 : (0 : Int) ≤ (i : Int) := by omega
        have n2 : (i : Int) < (len : Int) := by omega
        go_wp2_with fail
        with_reducible refine (HPC.out _).mono ?_
        rintro e w7 ⟨rfl, hb7⟩
        have hsz7 := hb7.size
        have HB7 := Lib.hid hb7
        have HO7 := Lib.hid (own_below HOW.out hb7)
        clear hb7 HPC
        rcases HTE.out with ⟨t1, hq⟩ | ⟨t1, t2, hq⟩ | ⟨t1, t2, hq⟩
        · have HQ := Lib.hid hq
          clear hq HTE
          have s1 : ¬ T.size + (⟨#[61, 61]⟩ : ByteArray).size > 9223372036854775807 := by
            have : (⟨#[61, 61]⟩ : ByteArray).size = 2 := rfl
            omega
          have s2 : ¬ T.size + 2 > 9223372036854775807 := by omega
          generalize bs (signs12.getD (y % 12) []) = P0 at *
          have HPE := Lib.hid (show bs (sgT y) = ⟨#[61, 61]⟩ by rw [HQ.out]; rfl)
          go_wp2_with (at_builtin; refine wpList_append_own _ rfl (.tmp 47) (.tmp 52) 23 rfl w0.heap.size 37 i0 (.agg #[.int .i64 0, .string ⟨#[]⟩, .int .i64 0, .int .i64 0]) 4 40 Try.underlying23 HI.out HZ0.out HZ1.out HZ2.out rfl (by decide) _ _ _ rfl (HO7.out.alloc _) ⟨w7.heap.size, 0, none⟩ 1 1 [.int .i64 3, .string ⟨#[61, 61]⟩, .int .i64 0, .int .i64 (T.size : Nat)] rfl rfl (new4' _ _ rfl _ _ _ _ _) (one4 _ _ _ _) (by unfold maxLen; omega) (by omega) (by simp; omega) ?_; intro v' w2 hown2 hgrow2 _)
          go_roundw
          case rel => exact tight_step hlt hT hts HBr.out HPE.out HOW.out HBE.out HB7.out _ hown2 hgrow2
          case measure => simp [intOf]; omega
        · have HQ := Lib.hid hq
          clear hq HTE
          have s1 : ¬ T.size + (⟨#[61, 61]⟩ : ByteArray).size > 9223372036854775807 := by
            have : (⟨#[61, 61]⟩ : ByteArray).size = 2 := rfl
            omega
          have s2 : ¬ T.size + 2 > 9223372036854775807 := by omega
          generalize bs (signs12.getD (y % 12) []) = P0 at *
          have HPE := Lib.hid (show bs (sgT y) = ⟨#[61, 61]⟩ by rw [HQ.out]; rfl)
          go_wp2_with (at_builtin; refine wpList_append_own _ rfl (.tmp 47) (.tmp 52) 23 rfl w0.heap.size 37 i0 (.agg #[.int .i64 0, .string ⟨#[]⟩, .int .i64 0, .int .i64 0]) 4 40 Try.underlying23 HI.out HZ0.out HZ1.out HZ2.out rfl (by decide) _ _ _ rfl (HO7.out.alloc _) ⟨w7.heap.size, 0, none⟩ 1 1 [.int .i64 3, .string ⟨#[61, 61]⟩, .int .i64 0, .int .i64 (T.size : Nat)] rfl rfl (new4' _ _ rfl _ _ _ _ _) (one4 _ _ _ _) (by unfold maxLen; omega) (by omega) (by simp; omega) ?_; intro v' w2 hown2 hgrow2 _)
          go_roundw
          case rel => exact tight_step hlt hT hts HBr.out HPE.out HOW.out HBE.out HB7.out _ hown2 hgrow2
          case measure => simp [intOf]; omega
        · have HPE := Lib.hid (show bs (sgT y) = bs (signs12.getD (y % 12) []) by rw [hq])
          clear hq HTE
          have hpl : (bs (signs12.getD (y % 12) [])).size ≤ 2 := by rw [← HPE.out, bs_size]; exact sg_len y
          generalize bs (signs12.getD (y % 12) []) = P at *
          have s1 : ¬ T.size + P.size > 9223372036854775807 := by omega
          go_wp2_with (at_builtin; refine wpList_append_own _ rfl (.tmp 47) (.tmp 52) 23 rfl w0.heap.size 37 i0 (.agg #[.int .i64 0, .string ⟨#[]⟩, .int .i64 0, .int .i64 0]) 4 40 Try.underlying23 HI.out HZ0.out HZ1.out HZ2.out rfl (by decide) _ _ _ rfl (HO7.out.alloc _) ⟨w7.heap.size, 0, none⟩ 1 1 [.int .i64 3, .string P, .int .i64 0, .int .i64 (T.size : Nat)] rfl rfl (new4' _ _ rfl _ _ _ _ _) (one4 _ _ _ _) (by unfold maxLen; omega) (by omega) (by simp; omega) ?_; intro v' w2 hown2 hgrow2 _)
          go_roundw
          case rel => exact tight_step hlt hT hts HBr.out HPE.out HOW.out HBE.out HB7.out _ hown2 hgrow2
          case measure => simp [intOf]; omega
      · have d1 : decide (i < len) = false := by simpa using hlt
        have HAL := Lib.hid (HBr.out.all (by omega))
        go_wp2_with (at_builtin; refine wpList_append_own _ rfl (.tmp 57) (.tmp 61) 23 rfl w0.heap.size 37 i0 (.agg #[.int .i64 0, .string ⟨#[]⟩, .int .i64 0, .int .i64 0]) 4 40 Try.underlying23 HI.out HZ0.out HZ1.out HZ2.out rfl (by decide) _ _ _ rfl (HOW.out.alloc _) ⟨wr.heap.size, 0, none⟩ 1 1 [.int .i64 4, .string ⟨#[]⟩, .int .i64 0, .int .i64 (T.size : Nat)] rfl rfl (new4' _ _ rfl _ _ _ _ _) (one4 _ _ _ _) (by unfold maxLen; omega) (by omega) (by simp; omega) ?_; intro v' w2 hown2 hgrow2 _)
        have hb2 : Below w0.heap.size w0 w2 := (HBE.out.alloc hsz _).grown hgrow2 (by simp; omega) (fun k hk => (HOW.out.lt k hk).1)
        have hown3 : Own w2 w0.heap.size v' (ts ++ [⟨4, [], 0, T.size⟩]) := own_snoc hown2 rfl rfl rfl rfl
        have hsz0 := HB0.out.size
        have E := Lib.hid (HB0.out.trans (hb2.mono hsz0))
        have O1 := Lib.hid hown3
        clear hb2 hown3 hown2 hgrow2
        with_reducible refine (lex_ok T _ _ HAL.out).mono ?_
        rintro e w3 ⟨v3, rfl, ho3, hb3⟩
        generalize ts ++ [⟨4, [], 0, T.size⟩] = us at *
        have E := Lib.hid (E.out.trans (hb3.mono E.out.size))
        have O1 := Lib.hid (own_below O1.out hb3)
        have O2 := Lib.hid ho3
        clear hb3 ho3
        go_wp2_with fail
        have hbA : Below w3.heap.size w3 (w3.alloc (.cells #[.int .i64 0, .int .i64 0] 26)) := (Below.refl _ _).alloc (Nat.le_refl _) _
        have E := Lib.hid (E.out.trans (hbA.mono E.out.size))
        have O1 := Lib.hid (own_below O1.out hbA)
        have O2 := Lib.hid (own_below O2.out hbA)
        have B1 := Lib.hid (Blk.new w3 26 #[.int .i64 0, .int .i64 0])
        clear hbA
        generalize w3.alloc (.cells #[.int .i64 0, .int .i64 0] 26) = W3 at *
        generalize w3.heap.size = f1 at *
        with_reducible refine (HDM.out _).mono ?_
        rintro e w4 ⟨rfl, hb4⟩
        have E := Lib.hid (E.out.trans (hb4.mono E.out.size))
        have O1 := Lib.hid (own_below O1.out hb4)
        have O2 := Lib.hid (own_below O2.out hb4)
        have B1 := Lib.hid (B1.out.live hb4)
        clear hb4
        go_wp2_with fail
        with_reducible refine (HDN.out _).mono ?_
        rintro e w5 ⟨rfl, hb5⟩
        have E := Lib.hid (E.out.trans (hb5.mono E.out.size))
        have O1 := Lib.hid (own_below O1.out hb5)
        have O2 := Lib.hid (own_below O2.out hb5)
        have B1 := Lib.hid (B1.out.live hb5)
        clear hb5
        go_wp2_with fail
        with_reducible refine (lex_row _ _ _ HWT.out (Nat.zero_lt_succ _)).mono ?_
        rintro e w6 ⟨ga, capga, rfl, hg0, hg1, hF, hbR⟩
        have E := Lib.hid (E.out.trans (hbR.mono E.out.size))
        have O1 := Lib.hid (own_below O1.out hbR)
        have O2 := Lib.hid (own_below O2.out hbR)
        have B1 := Lib.hid (B1.out.live hbR)
        have R1 := Lib.hid (show Fr w6 ga (0 * 4) _ from ⟨hF 0 (by simp), hg1⟩)
        clear hF hbR hg0 hg1
        go_wp2_with fail
        have hbA : Below w6.heap.size w6 (w6.alloc (.cells #[.int .i64 0, .int .i64 0] 26)) := (Below.refl _ _).alloc (Nat.le_refl _) _
        have E := Lib.hid (E.out.trans (hbA.mono E.out.size))
        have O1 := Lib.hid (own_below O1.out hbA)
        have O2 := Lib.hid (own_below O2.out hbA)
        have B1 := Lib.hid (B1.out.live hbA)
        have R1 := Lib.hid (R1.out.below hbA)
        have B2 := Lib.hid (Blk.new w6 26 #[.int .i64 0, .int .i64 0])
        clear hbA
        generalize w6.alloc (.cells #[.int .i64 0, .int .i64 0] 26) = W6 at *
        generalize w6.heap.size = f2 at *
        with_reducible refine (lex_row _ _ _ HNT.out (Nat.zero_lt_succ _)).mono ?_
        rintro e w8 ⟨gb, capgb, rfl, hg0, hg1, hF, hbR⟩
        have E := Lib.hid (E.out.trans (hbR.mono E.out.size))
        have O1 := Lib.hid (own_below O1.out hbR)
        have O2 := Lib.hid (own_below O2.out hbR)
        have B1 := Lib.hid (B1.out.live hbR)
        have R1 := Lib.hid (R1.out.below hbR)
        have B2 := Lib.hid (B2.out.live hbR)
        have R2 := Lib.hid (show Fr w8 gb (0 * 4) _ from ⟨hF 0 (by simp), hg1⟩)
        clear hF hbR hg0 hg1
        go_wp2_with fail
        have hbA : Below w8.heap.size w8 (w8.alloc (.cells #[.int .i64 0, .int .i64 0] 26)) := (Below.refl _ _).alloc (Nat.le_refl _) _
        have E := Lib.hid (E.out.trans (hbA.mono E.out.size))
        have O1 := Lib.hid (own_below O1.out hbA)
        have O2 := Lib.hid (own_below O2.out hbA)
        have B1 := Lib.hid (B1.out.live hbA)
        have R1 := Lib.hid (R1.out.below hbA)
        have B2 := Lib.hid (B2.out.live hbA)
        have R2 := Lib.hid (R2.out.below hbA)
        have B3 := Lib.hid (Blk.new w8 26 #[.int .i64 0, .int .i64 0])
        clear hbA
        generalize w8.alloc (.cells #[.int .i64 0, .int .i64 0] 26) = W8 at *
        generalize w8.heap.size = f3 at *
        with_reducible refine (lex_row _ _ _ HPT.out (Nat.zero_lt_succ _)).mono ?_
        rintro e w9 ⟨gc, capgc, rfl, hg0, hg1, hF, hbR⟩
        have E := Lib.hid (E.out.trans (hbR.mono E.out.size))
        have O1 := Lib.hid (own_below O1.out hbR)
        have O2 := Lib.hid (own_below O2.out hbR)
        have B1 := Lib.hid (B1.out.live hbR)
        have R1 := Lib.hid (R1.out.below hbR)
        have B2 := Lib.hid (B2.out.live hbR)
        have R2 := Lib.hid (R2.out.below hbR)
        have B3 := Lib.hid (B3.out.live hbR)
        have R3 := Lib.hid (show Fr w9 gc (1 * 4) _ from ⟨hF 1 (by simp), hg1⟩)
        clear hF hbR hg0 hg1
        have hl1 := B1.out.lt
        have hl2 := B2.out.lt
        have hl3 := B3.out.lt
        have hl4 := R1.out.2
        have hl5 := R2.out.2
        have hl6 := R3.out.2
        obtain ⟨p0, p1, _, _⟩ := two_cells B1.out
        obtain ⟨p2, p3, _, _⟩ := two_cells B2.out
        obtain ⟨p4, p5, _, _⟩ := two_cells B3.out
        have r1 : w9.cell? ⟨ga, 1, none⟩ = some (.string (⟨#[120]⟩ ++ X ++ Y)) := R1.out.1.2.1
        have r2 : w9.cell? ⟨gb, 1, none⟩ = some (.string (X ++ Y)) := R2.out.1.2.1
        have r3 : w9.cell? ⟨gc, 5, none⟩ = some (.string (⟨#[120]⟩ ++ Y)) := R3.out.1.2.1
        have q := Q.out
        have hszE := E.out.size
        go_wp2_with fail
        with_reducible refine (same_any v3 v' _ _ us _ (O2.out.alloc _) (O1.out.alloc _)).mono ?_
        rintro e w10 ⟨rfl, nd, rfl⟩
        go_wp2_with fail
        go_ret
        exact ⟨rfl, below_drewN (E.out.alloc hszE _) nd⟩
  · have e1 : decide ((30 : Int) < (len : Int)) = true := by simp; omega
    go_enter Try.func5, Try.ntmps5
    go_wp2_with fail
    with_reducible refine (begun_any _).mono ?_
    rintro e w0 ⟨rfl, hb0⟩
    go_wp2_with fail
    go_ret
    exact ⟨rfl, hb0⟩
end Go.Proofs.Ytlnhhfmgciaaeaa.Lx
