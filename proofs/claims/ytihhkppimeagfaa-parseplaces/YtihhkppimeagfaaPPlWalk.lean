/-
  ParsePlaces: its walk. Parts begin where they stand, rising.
-/
import Derived.Test.YtihhkppimeagfaaPPlM
import Derived.Test.YtihhkppimeagfaaLBytes
namespace Go.Proofs.Ytihhkppimeagfaa.Lx
open Go.RowKit
open L (Tok)
open P (EX CO ST PG TP MP Bo PlOk cT)
set_option maxRecDepth 100000
set_option linter.unusedVariables false
set_option linter.unusedSimpArgs false
theorem ext_from {t : List UInt8} (A : Nat) : (bs t).extract A (bs t).size = bs (t.drop A) := by
  rw [ext_bs, by_bs, bs_size]
  congr 1
  exact List.take_of_length_le (by rw [List.length_drop]; omega)
theorem get_of {T : ByteArray} {t : List UInt8} (hT : bs t = T) {i : Nat} {v : UInt8} (h : i < T.size) (hv : t[i]? = some v) : T[i] = v := by
  subst hT
  have h1 := congrArg List.head? (rest_lt h)
  rw [rest, by_bs, List.head?_drop, hv] at h1
  exact (Option.some.inj h1).symm
theorem pre_ext {s l : List UInt8} {n : Nat} (h : s <+: l) (hn : n = s.length) : n ≤ (bs l).size ∧ (bs l).extract 0 n = bs s := by
  subst hn
  refine ⟨by rw [bs_size]; exact h.length_le, ?_⟩
  rw [ext_bs, by_bs, List.drop_zero, Nat.sub_zero]
  congr 1
  exact (List.prefix_iff_eq_take.1 h).symm
set_option maxHeartbeats 6400000 in
theorem places7_law (a : Option Addr) (len cap : Nat) (xs : List Nat) (w : World) (hx : IsBytes w a len xs) : Calls Try.prog 4 #[.slice a len cap] w (fun e w' => e = .returned (.bool true) ∧ Below w.heap.size w w') := by
  have hlm := hx.2.1
  have HX := Lib.hid hx
  clear hx
  go_enter Try.func4, Try.ntmps4
  go_wp2_with fail
  with_reducible refine (begun7_any _).mono ?_
  rintro e w1 ⟨rfl, hb1⟩
  by_cases h80 : len ≤ 80
  · have d8 : decide ((80 : Int) < (len : Int)) = false := by simp; omega
    have d8' : decide (80 < len) = false := by simp; omega
    go_wp2_with fail
    clear d8 d8'
    with_reducible refine (made_any a len cap xs w1 (HX.out.below hb1)).mono ?_
    rintro e w2 ⟨M, rfl, hmk, hM, hb2⟩
    go_wp2_with fail
    with_reducible refine (prog7_any w2.heap.size M w2 hmk).mono ?_
    rintro e w3 ⟨vp, p, v, k, rfl, hlp, hmp, hv1, hv2, hk1, hk2, ht1, ht2, hmk3, ho3⟩
    obtain ⟨t, b, q1, q2, q3, htp, htl⟩ := made_tp hmp hv2 hk2 ht2
    have hs1 := hb1.size
    have hs2 := hb2.size
    have hs3 := ho3.size
    have HB3 := Lib.hid ((hb1.trans (hb2.mono hs1)).trans (ho3.below (B := w.heap.size) (by omega) (fun j hj e => by omega)))
    have HTP := Lib.hid htp
    have HTL := Lib.hid htl
    have HLP3 := Lib.hid hlp
    obtain ⟨vi, vt, po, pt, ps, pn, pa, pm, pc, rfl, ⟨a1, c1, rfl, hm1, hr1⟩, ⟨a2, c2, rfl, hm2, hr2⟩, _⟩ := hlp
    have HR2 := Lib.hid hr2
    unfold maxLen at hm1 hm2
    clear hmp hmk hmk3 ho3 hb1 hb2 htp htl hM hv1 hv2 hk1 hk2 ht1 ht2 hs1 hs2 hs3 hr1 hr2
    go_wp2_with fail
    obtain ⟨hbA, hPA, hs4⟩ := new_one w3 30 #[.string (bs p.name), .int .i64 p.vals, .slice a1 p.init.length c1, .slice a2 p.threads.length c2, .int .i64 p.ask, .int .i64 po, .int .i64 pt, .string ps, .int .i64 pn, .slice pa pm pc]
    have HP4 := Lib.hid hPA
    have HLP4 := Lib.hid (HLP3.out.below hbA)
    have HBQ := Lib.hid hbA
    have HB4 := Lib.hid (HB3.out.trans (hbA.mono HB3.out.size))
    have hw3 : w.heap.size ≤ w3.heap.size := HB3.out.size
    clear hbA hPA HB3 HLP3
    generalize w3.alloc (.cells #[.string (bs p.name), .int .i64 p.vals, .slice a1 p.init.length c1, .slice a2 p.threads.length c2, .int .i64 p.ask, .int .i64 po, .int .i64 pt, .string ps, .int .i64 pn, .slice pa pm pc] 30) = w4 at *
    have HCP := Lib.hid (prog_text HTP.out HTL.out _ _ w4 HLP4.out)
    with_reducible refine HCP.out.mono ?_
    rintro e w5 ⟨rfl, hb5⟩
    have HP5 := Lib.hid (HP4.out.live' hb5)
    have HB5 := Lib.hid (HB4.out.trans (hb5.mono HB4.out.size))
    have HBQ5 := Lib.hid (HBQ.out.trans (hb5.mono (by omega)))
    have hs5 := hb5.size
    clear hb5 HP4 HLP4 HB4 HCP HBQ
    by_cases hsz : (bs t).size ≤ 4096
    · obtain ⟨PL, hpar, hok⟩ := tp_places HTP.out hsz
      have HPR := Lib.hid hpar
      have HOK := Lib.hid hok
      have HTS := Lib.hid (show (bs t).size = t.length from bs_size _)
      clear hpar hok HTP HTL
      generalize hT : bs t = T at *
      have HTE := Lib.hid hT
      clear hT
      have d4 : decide ((4096 : Int) < (T.size : Int)) = false := by simp; omega
      have d4' : decide (4096 < T.size) = false := by simp; omega
      obtain ⟨⟨x0, x1, x2, x3, x4, x5, x6, x7, x8, x9⟩, _⟩ := ten_free HP5.out
      have hcnt : 2 + p.init.length + cT p.threads ≤ 4096 := by
        have h1 := HOK.out.len
        have h2 := HOK.out.few
        have h3 := HTS.out
        omega
      go_wp2_with fail
      clear d4 d4' x0 x1 x2 x3 x4 x5 x6 x7 x8 x9
      go_loopw [5, 6] (fun nv iv wr => ∃ k z : Nat, iv = .int .i64 k ∧ k ≤ p.threads.length ∧ nv = .int .i64 (z : Nat) ∧ z = 2 + p.init.length + cT (p.threads.take k) ∧ Below w5.heap.size w5 wr) (fun _ iv _ => p.threads.length - (intOf iv).toNat)
      case atStart => exact ⟨0, 2 + p.init.length, rfl, Nat.zero_le _, by go_num, by simp [cT], Below.refl _ _⟩
      case round =>
        obtain ⟨k, z, rfl, hk, rfl, hz, hbr⟩ := hrel
        have HZ := Lib.hid hz
        have HPr := Lib.hid (HP5.out.live' hbr)
        have HBr := Lib.hid hbr
        have hszr := hbr.size
        have hzb : z ≤ 4096 := by
          have := P.cT_le (ls := p.threads) k
          omega
        clear hbr hz
        have y3 : wr.cell? ⟨w3.heap.size, 3, none⟩ = some (.slice a2 p.threads.length c2) := HPr.out.cell 3
        by_cases hlt : k < p.threads.length
        · rcases HR2.out with hq | ⟨g, off, hg, hqa, hla⟩
          · rw [hq] at hlt
            simp at hlt
          obtain ⟨e1, v1, he1, ha0, hi1⟩ := LTs.at p.threads hla k hlt
          have hgl : g < w3.heap.size := World.block_lt_of_cell? w3 _ ha0
          subst hg
          have HQr := Lib.hid (HBQ5.out.trans (HBr.out.mono (by omega)))
          have r0 := (HQr.out.cell (p := ⟨g, _, none⟩) hgl).trans ha0
          have hi2 := Below.isSs HQr.out hi1
          obtain ⟨sa, sca, rfl, hml, hrw⟩ := hi2
          have HTK := Lib.hid (P.cT_take he1)
          have hsb : z + sizeSs e1 ≤ 4096 := by
            have h1 := P.cT_le (ls := p.threads) (k + 1)
            have h2 := HTK.out
            have h3 := HZ.out
            omega
          have HCN := Lib.hid (count_row (sizeSs e1 + 1) e1 (Nat.lt_succ_self _) hml (by omega) _ sa sca wr hrw)
          clear hla ha0 hi1 hrw hml he1 hgl hqa
          have m1 : (0 : Int) ≤ (k : Int) := by omega
          have m2 : (k : Int) < (p.threads.length : Int) := by omega
          go_wp2_with fail
          with_reducible refine HCN.out.mono ?_
          rintro e w8 ⟨rfl, m, rfl⟩
          have HZ2 := Lib.hid (show z + sizeSs e1 = 2 + p.init.length + cT (p.threads.take (k + 1)) by
            rw [HTK.out, HZ.out]
            omega)
          generalize sizeSs e1 = S at *
          go_wp2_with fail
          go_roundw
          case rel => exact ⟨k + 1, z + S, by go_num, by omega, by go_num, HZ2.out, below_drewN HBr.out m⟩
          case measure => simp [intOf]; omega
        · have hd1 : decide (k < p.threads.length) = false := by simpa using hlt
          have hd2 : decide ((k : Int) < (p.threads.length : Int)) = false := by simpa using hlt
          obtain rfl : k = p.threads.length := by omega
          have hzl : z = PL.length := by
            rw [HZ.out, List.take_length, HOK.out.len]
          subst hzl
          have HBw := Lib.hid (HB5.out.trans (HBr.out.mono HB5.out.size))
          go_wp2_with fail
          clear hd1 hd2 y3 HZ hlt hk
          with_reducible refine (places_at T _ wr HPR.out).mono ?_
          rintro e w9 ⟨vl, rfl, hown, hb9⟩
          rw [show pfl (.ok (p, PL)) = .agg #[.int .i64 0, .int .i64 0] from rfl]
          have hpos : 0 < PL.length := by
            have := HOK.out.len
            omega
          obtain ⟨gl, cl, rfl, _, hgl, hrow⟩ := ownp_row (show OwnP w9 wr.heap.size vl PL from hown) hpos
          have HP9 := Lib.hid (HPr.out.live' hb9)
          have HB9 := Lib.hid (HBw.out.trans (hb9.mono HBw.out.size))
          have HRW := Lib.hid hrow
          have hs9 := hb9.size
          clear hown hb9 hrow
          go_upto_region 15 with (fail)
          obtain ⟨hbA, hFA, hs10⟩ := new_one w9 38 #[.int .i64 0, .int .i64 0]
          have HP10 := Lib.hid (HP9.out.live' hbA)
          have HB10 := Lib.hid (HB9.out.trans (hbA.mono HB9.out.size))
          have HRW10 := Lib.hid (show ∀ i, i < PL.length → (w9.alloc (.cells #[.int .i64 0, .int .i64 0] 38)).cell? ⟨gl, i, none⟩ = some (.int .i64 (PL.getD i 0 : Nat)) from fun i hi => (hbA.cell (p := ⟨gl, i, none⟩) hgl).trans (HRW.out i hi))
          obtain ⟨f0, f1, _, _⟩ := two_free hFA
          have hgl10 : gl < (w9.alloc (.cells #[.int .i64 0, .int .i64 0] 38)).heap.size := by omega
          clear hbA hFA HP9 HB9 HRW hgl
          generalize w9.alloc (.cells #[.int .i64 0, .int .i64 0] 38) = w10 at *
          go_wp2_with fail
          clear f0 f1
          go_loopw [9] (fun iv wr => ∃ (k m : Nat), iv = .int .i64 k ∧ k ≤ PL.length ∧ wr = w10.drewN m) (fun iv _ => PL.length - (intOf iv).toNat)
          case atStart => exact ⟨0, 0, rfl, Nat.zero_le _, rfl⟩
          case round =>
            obtain ⟨k, m, rfl, hk, hw⟩ := hrel
            have HW := Lib.hid hw
            clear hw
            by_cases hlt : k < PL.length
            · have r0 : wr.cell? ⟨gl, k, none⟩ = some (.int .i64 (PL.getD k 0 : Nat)) := by
                rw [HW.out]
                exact HRW10.out k hlt
              have hA : PL.getD k 0 < T.size := by
                rw [HTS.out]
                exact HOK.out.in' k hlt
              generalize hAe : PL.getD k 0 = A at *
              have HAE := Lib.hid hAe
              clear hAe
              have d1 : decide ((A : Int) < 0) = false := by simp
              have d2 : decide ((T.size : Int) ≤ (A : Int)) = false := by simp; omega
              have d2' : decide (T.size ≤ A) = false := by simp; omega
              have m1 : (0 : Int) ≤ (k : Int) := by omega
              have m2 : (k : Int) < (PL.length : Int) := by omega
              have m3 : (0 : Int) ≤ (A : Int) := by omega
              have m4 : (A : Int) ≤ (T.size : Int) := by omega
              by_cases h0 : k = 0
              · have HH := Lib.hid (show [108, 105, 116, 109, 117, 115] <+: t.drop A by
                  have h1 := HOK.out.head
                  have h2 := HAE.out
                  rw [h0] at h2
                  rw [h2] at h1
                  exact h1)
                have d3 : decide ((0 : Int) < (k : Int)) = false := by simp; omega
                have d3' : decide (0 < k) = false := by simp; omega
                have d5 : ((k : Int) == 0) = true := by simp; omega
                clear h0
                go_wp2_with fail
                go_quiet (fail)
                go_upto_region 25 with (fail)
                generalize hbg : T.extract A T.size = BG at *
                obtain ⟨g1, g2⟩ := pre_ext (n := 6) HH.out rfl
                have hbt : BG = bs (t.drop A) := by rw [← hbg, ← HTE.out, ext_from]
                rw [← hbt] at g1 g2
                clear hbg hbt
                have g3 : (6 : Int) ≤ (BG.size : Int) := by omega
                have g4 : ((BG.extract 0 6).toList == [108, 105, 116, 109, 117, 115]) = true := by
                  rw [g2, toList_by, by_bs]
                  decide
                clear g2
                go_wp2_with fail
                go_roundw
                case rel => exact ⟨k + 1, m + nq, by go_num, by omega, by rw [HW.out, World.drewN_drewN]⟩
                case measure => simp [intOf]; omega
              · have hkp : 0 < k := by omega
                have d3 : decide ((0 : Int) < (k : Int)) = true := by simp; omega
                have d3' : decide (0 < k) = true := by simp; omega
                have d5 : ((k : Int) == 0) = false := by simp; omega
                have hrs : PL.getD (k - 1) 0 < A := by
                  have h1 := HOK.out.rise (k - 1) (by omega)
                  rw [show k - 1 + 1 = k by omega, HAE.out] at h1
                  exact h1
                have r1 : wr.cell? ⟨gl, k - 1, none⟩ = some (.int .i64 (PL.getD (k - 1) 0 : Nat)) := by
                  rw [HW.out]
                  exact HRW10.out (k - 1) (by omega)
                generalize PL.getD (k - 1) 0 = B at *
                have d7 : decide ((A : Int) ≤ (B : Int)) = false := by simp; omega
                have d7' : decide (A ≤ B) = false := by simp; omega
                have x1 : IntKind.i64.wrap ((k : Int) - 1) = (k : Int) - 1 := IntWalk.i64_in _ (by omega)
                have x2 : ((k : Int) - 1).toNat = k - 1 := by omega
                have x3 : (0 : Int) ≤ (k : Int) - 1 := by omega
                have x4 : (k : Int) - 1 < (PL.length : Int) := by omega
                have y2 : wr.cell? ⟨w3.heap.size, 2, none⟩ = some (.slice a1 p.init.length c1) := by
                  rw [HW.out]
                  exact HP10.out.cell 2
                clear h0
                by_cases hi : k ≤ p.init.length
                · have HH := Lib.hid (show [105, 110, 105, 116] <+: t.drop A by
                    have h1 := HOK.out.inits k (by omega) hi
                    rw [HAE.out] at h1
                    exact h1)
                  have d8 : decide ((k : Int) ≤ (p.init.length : Int)) = true := by simp; omega
                  have d8' : decide (k ≤ p.init.length) = true := by simp; omega
                  go_wp2_with fail
                  go_quiet (fail)
                  clear x1 x2 x3 x4
                  go_upto_region 25 with (fail)
                  generalize hbg : T.extract A T.size = BG at *
                  obtain ⟨g1, g2⟩ := pre_ext (n := 4) HH.out rfl
                  have hbt : BG = bs (t.drop A) := by rw [← hbg, ← HTE.out, ext_from]
                  rw [← hbt] at g1 g2
                  clear hbg hbt
                  have g3 : (4 : Int) ≤ (BG.size : Int) := by omega
                  have g4 : ((BG.extract 0 4).toList == [105, 110, 105, 116]) = true := by
                    rw [g2, toList_by, by_bs]
                    decide
                  clear g2
                  go_wp2_with fail
                  go_roundw
                  case rel => exact ⟨k + 1, m + nq, by go_num, by omega, by rw [HW.out, World.drewN_drewN]⟩
                  case measure => simp [intOf]; omega
                · have d8 : decide ((k : Int) ≤ (p.init.length : Int)) = false := by simp; omega
                  have d8' : decide (k ≤ p.init.length) = false := by simp; omega
                  by_cases hl : k + 1 = PL.length
                  · have HH := Lib.hid (show [101, 120, 105, 115, 116, 115] <+: t.drop A ∨ [102, 111, 114, 97, 108, 108] <+: t.drop A by
                      have h1 := HOK.out.last
                      rw [show PL.length - 1 = k by omega, HAE.out] at h1
                      exact h1)
                    have d9 : ((k : Int) == (PL.length : Int) - 1) = true := by simp; omega
                    have HL := Lib.hid hl
                    clear hl
                    go_wp2_with fail
                    go_quiet (fail)
                    clear x1 x2 x3 x4
                    go_upto_region 25 with (fail)
                    rcases HH.out with hh | hh
                    · skip
                      generalize hbg : T.extract A T.size = BG at *
                      obtain ⟨g1, g2⟩ := pre_ext (n := 6) hh rfl
                      have hbt : BG = bs (t.drop A) := by rw [← hbg, ← HTE.out, ext_from]
                      rw [← hbt] at g1 g2
                      clear hbg hbt
                      have g3 : (6 : Int) ≤ (BG.size : Int) := by omega
                      clear hh
                      have g4 : ((BG.extract 0 6).toList == [101, 120, 105, 115, 116, 115]) = true := by
                        rw [g2, toList_by, by_bs]
                        decide
                      clear g2
                      go_wp2_with fail
                      go_roundw
                      case rel => exact ⟨k + 1, m + nq, by go_num, by omega, by rw [HW.out, World.drewN_drewN]⟩
                      case measure => simp [intOf]; omega
                    · skip
                      generalize hbg : T.extract A T.size = BG at *
                      obtain ⟨g1, g2⟩ := pre_ext (n := 6) hh rfl
                      have hbt : BG = bs (t.drop A) := by rw [← hbg, ← HTE.out, ext_from]
                      rw [← hbt] at g1 g2
                      clear hbg hbt
                      have g3 : (6 : Int) ≤ (BG.size : Int) := by omega
                      clear hh
                      have g4 : ((BG.extract 0 6).toList == [101, 120, 105, 115, 116, 115]) = false := by
                        rw [g2, toList_by, by_bs]
                        decide
                      have g5 : ((BG.extract 0 6).toList == [102, 111, 114, 97, 108, 108]) = true := by
                        rw [g2, toList_by, by_bs]
                        decide
                      clear g2
                      go_wp2_with fail
                      go_roundw
                      case rel => exact ⟨k + 1, m + nq, by go_num, by omega, by rw [HW.out, World.drewN_drewN]⟩
                      case measure => simp [intOf]; omega
                  · obtain ⟨hA1, hA2⟩ := HOK.out.mid k (by omega) (by omega)
                    rw [HAE.out] at hA1 hA2
                    have d9 : ((k : Int) == (PL.length : Int) - 1) = false := by simp; omega
                    go_wp2_with fail
                    go_quiet (fail)
                    clear x1 x2 x3 x4
                    go_upto_region 23 with (fail)
                    have p1 : (0 : Int) ≤ (A : Int) - 1 := by omega
                    have p2 : (A : Int) - 1 < (T.size : Int) := by omega
                    have p3 : ((A : Int) - 1).toNat = A - 1 := by omega
                    have p4 : A - 1 < T.size := by omega
                    have p5 : (((T[A - 1]'p4).toNat : Int) != 32) = false := by
                      rw [get_of HTE.out p4 hA2]
                      decide
                    have p6 : (1 : Int) ≤ (A : Int) := by omega
                    go_wp2_with fail
                    go_roundw
                    case rel => exact ⟨k + 1, m + nq, by go_num, by omega, by rw [HW.out, World.drewN_drewN]⟩
                    case measure => simp [intOf]; omega
            · have hd1 : decide (k < PL.length) = false := by simpa using hlt
              have hd2 : decide ((k : Int) < (PL.length : Int)) = false := by simpa using hlt
              go_wp2_with fail
              go_ret
              exact ⟨rfl, by rw [HW.out]; exact below_drewN HB10.out m⟩
    · have d4 : decide ((4096 : Int) < ((bs t).size : Int)) = true := by simp; omega
      have d4' : decide (4096 < (bs t).size) = true := by simp; omega
      generalize bs t = T at *
      go_wp2_with fail
      go_ret
      exact ⟨rfl, HB5.out⟩
  · have d8 : decide ((80 : Int) < (len : Int)) = true := by simp; omega
    have d8' : decide (80 < len) = true := by simp; omega
    go_wp2_with fail
    go_ret
    exact ⟨rfl, hb1⟩
end Go.Proofs.Ytihhkppimeagfaa.Lx
