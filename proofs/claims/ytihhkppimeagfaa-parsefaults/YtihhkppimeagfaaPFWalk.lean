/-
  ParseFaults: its walk. A spoilt text is a program, or refused at a place of it.
-/
import Derived.Test.YtihhkppimeagfaaPFM
import Derived.Test.YtihhkppimeagfaaLBytes
import Derived.Deep.DeepCutAuto
namespace Go.Proofs.Ytihhkppimeagfaa.Lx
open Go.RowKit
open L (Tok)
open P (EX CO ST PG TP MP Bo fall oddL Spoilt)
set_option maxRecDepth 100000
set_option linter.unusedVariables false
set_option linter.unusedSimpArgs false
def OddR (j : Nat) (w0 : World) (s : Value) (wx : World) : Prop := s = .string (bs (oddL j)) ∧ Below w0.heap.size w0 wx
theorem bs_sp (a : List UInt8) : bs a ++ ⟨#[32]⟩ = bs (a ++ [32]) := bs_app a [32]
set_option maxHeartbeats 12800000 in
theorem faults7_law (a : Option Addr) (len cap : Nat) (xs : List Nat) (at' how other : Nat) (w : World) (hx : IsBytes w a len xs) (hat : at' < 65536) (hh : how < 256) (ho : other < 256) : Calls Try.prog 5 #[.slice a len cap, .int .u16 (at' : Nat), .int .u8 (how : Nat), .int .u8 (other : Nat)] w (fun e w' => e = .returned (.bool true) ∧ Below w.heap.size w w') := by
  have hlm := hx.2.1
  have HX := Lib.hid hx
  clear hx
  go_enter Try.func5, Try.ntmps5
  go_wp2_with fail
  with_reducible refine (begun7_any _).mono ?_
  rintro e w1 ⟨rfl, hb1⟩
  by_cases h80 : len ≤ 80
  · have d8 : decide ((80 : Int) < (len : Int)) = false := by simp; omega
    have d8' : decide (80 < len) = false := by simp; omega
    go_wp2_with fail
    clear d8 d8'
    with_reducible refine (made_any a len cap xs w1 (HX.out.below hb1)).mono ?_
    rintro e w2 ⟨M, rfl, hmk, hM, hb2⟩
    go_wp2_with fail
    with_reducible refine (prog7_any w2.heap.size M w2 hmk).mono ?_
    rintro e w3 ⟨vp, p, v, k, rfl, hlp, hmp, hv1, hv2, hk1, hk2, ht1, ht2, hmk3, ho3⟩
    obtain ⟨t, b, q1, q2, q3, htp, htl⟩ := made_tp hmp hv2 hk2 ht2
    have hs1 := hb1.size
    have hs2 := hb2.size
    have hs3 := ho3.size
    have HB3 := Lib.hid ((hb1.trans (hb2.mono hs1)).trans (ho3.below (B := w.heap.size) (by omega) (fun j hj e => by omega)))
    have HTP := Lib.hid htp
    have HTL := Lib.hid htl
    have HLP3 := Lib.hid hlp
    obtain ⟨pnm, pvl, pa1, pn1, pk1, pa2, pn2, pk2, pak, pxo, pxt, pxs, pxn, pxa, pxm, pxc, rfl⟩ := hlp.any
    clear hmp hmk hmk3 ho3 hb1 hb2 hlp htp htl hM hv1 hv2 hk1 hk2 ht1 ht2 hs1 hs2 hs3
    go_wp2_with fail
    have HCP := Lib.hid (prog_text HTP.out HTL.out _ _ w3 HLP3.out)
    with_reducible refine HCP.out.mono ?_
    rintro e w5 ⟨rfl, hb5⟩
    have HB5 := Lib.hid (HB3.out.trans (hb5.mono HB3.out.size))
    have hs5 := hb5.size
    clear hb5 HB3 HLP3 HCP
    by_cases hsz : (bs t).size ≤ 4096
    · obtain ⟨us, hlx, hl0, hub, hin, hpar, _⟩ := tp_lex HTP.out hsz
      have hst : t.length ≤ 4096 := by rw [bs_size] at hsz; exact hsz
      have HLX := Lib.hid hlx
      have HSE := Lib.hid (fun n how od i hn hi hs => P.spoilt_exit HTP.out hub hin n how od i hn hi hs)
      have HTS := Lib.hid (show ∀ x ∈ us, x.text.length ≤ 4096 from fun x hx => by
        have := (hin.all x hx).to
        omega)
      have hun : us.length ≤ 4096 := by
        have := hin.count
        omega
      clear hlx hl0 hub hin hpar hst HTP HTL
      have HEN := Lib.hid (show (us ++ [(⟨4, [], 0, t.length⟩ : Tok)]).length = us.length + 1 by simp)
      have HTA := Lib.hid (show ∀ i, i < us.length → tat (us ++ [(⟨4, [], 0, t.length⟩ : Tok)]) i = tat us i from fun i hi => by
        unfold tat
        rw [List.getD_eq_getElem?_getD, List.getD_eq_getElem?_getD, List.getElem?_append_left hi])
      generalize us ++ [(⟨4, [], 0, t.length⟩ : Tok)] = TS at *
      generalize bs t = T at *
      go_wp2_with fail
      with_reducible refine (rlex_any T w5).mono ?_
      rintro e w6 ⟨vt, rfl, hown, hb6⟩
      rw [HLX.out] at hown ⊢
      rw [show flt (.ok TS) = .agg #[.int .i64 0, .int .i64 0] from rfl]
      obtain ⟨gt, ct, rfl, _, hgt, hrow⟩ := own_row (show Own w6 w5.heap.size vt TS from hown) (by rw [HEN.out]; omega)
      rw [HEN.out]
      have HRW := Lib.hid (show ∀ i, i < us.length → Four w6 gt (i * 4) (tat us i) from fun i hi => by
        have := hrow i (by rw [HEN.out]; omega)
        rw [HTA.out i hi] at this
        exact this)
      have HB6 := Lib.hid (HB5.out.trans (hb6.mono HB5.out.size))
      have hs6 := hb6.size
      clear hown hrow hb6 HB5 HTA HLX HEN TS
      go_upto_region 8 with (fail)
      obtain ⟨hbA, hFA, hs7⟩ := new_one w6 38 #[.int .i64 0, .int .i64 0]
      have HRW7 := Lib.hid (show ∀ i, i < us.length → Four (w6.alloc (.cells #[.int .i64 0, .int .i64 0] 38)) gt (i * 4) (tat us i) from fun i hi => (HRW.out i hi).only (Only.of_below (S := fun _ => False) hbA) id)
      have HB7 := Lib.hid (HB6.out.trans (hbA.mono HB6.out.size))
      clear hbA hFA HB6 HRW
      generalize w6.alloc (.cells #[.int .i64 0, .int .i64 0] 38) = w7 at *
      have g1 : ¬ us.length + 1 = 0 := by omega
      have g2 : ¬ (us.length : Int) + 1 = 0 := by omega
      go_upto_region 9 with (fail)
      obtain ⟨n, hne, hnl⟩ : ∃ n : Nat, (at' : Int) % ((us.length : Int) + 1) = (n : Int) ∧ n ≤ us.length := ⟨at' % (us.length + 1), by
        rw [Int.natCast_emod]
        rfl, by
        have := Nat.mod_lt at' (show us.length + 1 > 0 by omega)
        omega⟩
      rw [hne]
      clear hne g1 g2
      go_cut [12] (fun s wx => OddR (other % 9) w7 s wx)
      case first =>
        have h9 : other % 9 = 0 ∨ other % 9 = 1 ∨ other % 9 = 2 ∨ other % 9 = 3 ∨ other % 9 = 4 ∨ other % 9 = 5 ∨ other % 9 = 6 ∨ other % 9 = 7 ∨ other % 9 = 8 := by omega
        rcases h9 with h | h | h | h | h | h | h | h | h
        all_goals
          have HR := Lib.hid h
          first | have m1 : (other : Int) % 9 = 0 := by omega | have m1 : (other : Int) % 9 = 1 := by omega | have m1 : (other : Int) % 9 = 2 := by omega | have m1 : (other : Int) % 9 = 3 := by omega | have m1 : (other : Int) % 9 = 4 := by omega | have m1 : (other : Int) % 9 = 5 := by omega | have m1 : (other : Int) % 9 = 6 := by omega | have m1 : (other : Int) % 9 = 7 := by omega | have m1 : (other : Int) % 9 = 8 := by omega
          clear h
          go_wp2_with fail
          go_meet
          case rel => exact ⟨by rw [HR.out]; rfl, (Below.refl _ _).alloc (Nat.le_refl _) _⟩
      case rest =>
        obtain ⟨rfl, hbc⟩ := hcut
        have HRW8 := Lib.hid (show ∀ i, i < us.length → Four wc gt (i * 4) (tat us i) from fun i hi => (HRW7.out i hi).only (Only.of_below (S := fun _ => False) hbc) id)
        have HB8 := Lib.hid (HB7.out.trans (hbc.mono HB7.out.size))
        clear hbc HB7 HRW7
        have hol : (bs (oddL (other % 9))).size ≤ 6 := by rw [bs_size]; exact P.odd_len _
        have HOD := Lib.hid (show bs (oddL (other % 9)) = bs (oddL (other % 9)) from rfl)
        go_wp2_with fail
        go_loop [13, 14] (fun sv iv => ∃ i : Nat, iv = .int .i64 i ∧ i ≤ us.length ∧ sv = .string (bs (fall us n (how % 4) (other % 9) i)) ∧ (how % 4 = 3 → i ≤ n)) (fun _ iv => us.length - (intOf iv).toNat)
        case atStart => exact ⟨0, rfl, Nat.zero_le _, rfl, fun _ => Nat.zero_le _⟩
        case round =>
          obtain ⟨i, rfl, hi, rfl, hcn⟩ := hrel
          by_cases hlt : i < us.length
          · obtain ⟨_, r1, _, _⟩ := HRW8.out i hlt
            have d1 : decide ((i : Int) + 1 < (us.length : Int) + 1) = true := by simp; omega
            have d1' : decide ((i : Int) < (us.length : Int)) = true := by simp; omega
            have d1'' : decide (i < us.length) = true := by simp; omega
            have m1 : (0 : Int) ≤ (i : Int) := by omega
            have m2 : (i : Int) < (us.length : Int) + 1 := by omega
            have hF := P.fall_len HTS.out n (how % 4) (other % 9) i hi
            have hF' : (bs (fall us n (how % 4) (other % 9) i)).size ≤ 8300 * i := by rw [bs_size]; exact hF
            have hX : (bs (tat us i).text).size ≤ 4096 := by rw [bs_size]; exact HTS.out _ (tat_mem hlt)
            have HST := Lib.hid (show fall us n (how % 4) (other % 9) (i + 1) = fall us n (how % 4) (other % 9) i ++ P.fpc us n (how % 4) (other % 9) i from rfl)
            have HSX := Lib.hid (HSE.out n (how % 4) (other % 9) i hnl)
            clear hF
            by_cases hin : i = n
            · have e1 : ((i : Int) == (n : Int)) = true := by simp; omega
              have e1' : (i == n) = true := by simp; omega
              by_cases h3 : how % 4 = 3
              · have HSX := Lib.hid (HSX.out (.inr ⟨h3, hin⟩))
                have q0 : (((how : Int) % 4) == 0) = false := by simp; omega
                have q1 : (((how : Int) % 4) == 1) = false := by simp; omega
                have q2 : (((how : Int) % 4) == 2) = false := by simp; omega
                have q3 : (((how : Int) % 4) == 3) = true := by simp; omega
                have q4 : decide ((n : Int) ≤ (i : Int)) = true := by simp; omega
                have q4' : decide (n ≤ i) = true := by simp; omega
                have y1 : ¬ 9223372036854775807 < (bs (tat us i).text).size + 1 := by omega
                clear HST h3 hin
                generalize (tat us i).text = tx at *
                go_upto_region 26 with (fail)
                clear d1 d1' d1'' m1 m2 e1 e1' q0 q1 q2 q3 q4 q4' y1 r1
                generalize hF : fall us n (how % 4) (other % 9) i = FL at *
                have hTsz : (bs FL).size = FL.length := bs_size _
                have HBY := Lib.hid hTsz
                clear hF hTsz
                generalize hbf : bs FL = F at *
                have HBF := Lib.hid hbf
                clear hbf
                by_cases hfs : F.size ≤ 4096
                · have d4 : decide ((4096 : Int) < (F.size : Int)) = false := by simp; omega
                  have d4' : decide (4096 < F.size) = false := by simp; omega
                  have hsp := HSX.out hfs
                  unfold Spoilt at hsp
                  rw [HBF.out] at hsp
                  rcases hsp with ⟨p2, l2, t2, b2, x1, x2, x3, hpar, htp, htl⟩ | ⟨fa, hpar, hfa, hcut⟩
                  · have HPR := Lib.hid hpar
                    have HTP := Lib.hid htp
                    have HTL := Lib.hid htl
                    clear hpar htp htl
                    go_wp2_with fail
                    clear d4 d4'
                    with_reducible refine (parse_at F _ wc HPR.out).mono ?_
                    rintro e w9 ⟨vq, rfl, hlq, hb9⟩
                    rw [show pfl (.ok (p2, l2)) = .agg #[.int .i64 0, .int .i64 0] from rfl]
                    obtain ⟨qnm, qvl, qa1, qn1, qk1, qa2, qn2, qk2, qak, qxo, qxt, qxs, qxn, qxa, qxm, qxc, rfl⟩ := hlq.any
                    have HLQ9 := Lib.hid (show LPg (From wc.heap.size) w9 _ p2 from hlq)
                    have HB9 := Lib.hid (HB8.out.trans (hb9.mono HB8.out.size))
                    clear hlq hb9 HB8
                    go_upto_region 29 with (fail)
                    obtain ⟨hbA, hPA, hFA, hs10⟩ := two_new w9 30 38 #[.string qnm, .int .i64 qvl, .slice qa1 qn1 qk1, .slice qa2 qn2 qk2, .int .i64 qak, .int .i64 qxo, .int .i64 qxt, .string qxs, .int .i64 qxn, .slice qxa qxm qxc] #[.int .i64 0, .int .i64 0]
                    have HQ10 := Lib.hid hPA
                    have HLQ10 := Lib.hid (HLQ9.out.below hbA)
                    have HB10 := Lib.hid (HB9.out.trans (hbA.mono HB9.out.size))
                    obtain ⟨⟨e0, e1, e2, e3, e4, e5, e6, e7, e8, e9⟩, _⟩ := ten_free hPA
                    obtain ⟨f0, f1, _, _⟩ := two_free hFA
                    clear hbA hPA hFA HLQ9 HB9
                    generalize (w9.alloc (.cells #[.string qnm, .int .i64 qvl, .slice qa1 qn1 qk1, .slice qa2 qn2 qk2, .int .i64 qak, .int .i64 qxo, .int .i64 qxt, .string qxs, .int .i64 qxn, .slice qxa qxm qxc] 30)).alloc (.cells #[.int .i64 0, .int .i64 0] 38) = w10 at *
                    go_wp2_with fail
                    with_reducible refine (prog_text HTP.out HTL.out _ _ w10 HLQ10.out).mono ?_
                    rintro e w11 ⟨rfl, hb11⟩
                    have HQ11 := Lib.hid (HQ10.out.live' hb11)
                    have HLQ11 := Lib.hid (HLQ10.out.below hb11)
                    have HB11 := Lib.hid (HB10.out.trans (hb11.mono HB10.out.size))
                    have hs11 := hb11.size
                    clear hb11 HQ10 HLQ10 HB10 e0 e1 e2 e3 e4 e5 e6 e7 e8 e9 f0 f1
                    by_cases ht2 : (bs t2).size ≤ 4096
                    · obtain ⟨us2, _, _, _, _, hpar2, _⟩ := tp_lex HTP.out ht2
                      have HPR2 := Lib.hid hpar2
                      have HPT := Lib.hid (fun w' (h : LPg (From wc.heap.size) w' (.agg #[.string qnm, .int .i64 qvl, .slice qa1 qn1 qk1, .slice qa2 qn2 qk2, .int .i64 qak, .int .i64 qxo, .int .i64 qxt, .string qxs, .int .i64 qxn, .slice qxa qxm qxc]) p2) => prog_text HTP.out HTL.out _ _ w' h)
                      clear hpar2
                      generalize P.plc (0 :: (x1 ++ (x2 ++ x3))) (us2 ++ [⟨4, [], 0, t2.length⟩]) = L2 at *
                      clear HTP HTL
                      have d6 : decide ((4096 : Int) < ((bs t2).size : Int)) = false := by simp; omega
                      have d6' : decide (4096 < (bs t2).size) = false := by simp; omega
                      generalize bs t2 = T2 at *
                      go_wp2_with fail
                      with_reducible refine (parse_at T2 _ w11 HPR2.out).mono ?_
                      rintro e w12 ⟨vr, rfl, hlr, hb12⟩
                      rw [show pfl (.ok (p2, L2)) = .agg #[.int .i64 0, .int .i64 0] from rfl]
                      obtain ⟨rnm, rvl, ra1, rn1, rk1, ra2, rn2, rk2, rak, rxo, rxt, rxs, rxn, rxa, rxm, rxc, rfl⟩ := hlr.any
                      have HLR12 := Lib.hid (show LPg (From w11.heap.size) w12 _ p2 from hlr)
                      have HQ12 := Lib.hid (HQ11.out.live' hb12)
                      have HLQ12 := Lib.hid (HLQ11.out.below hb12)
                      have HB12 := Lib.hid (HB11.out.trans (hb12.mono HB11.out.size))
                      clear hlr hb12 HQ11 HLQ11 HB11
                      go_upto_region 31 with (fail)
                      obtain ⟨hbA, hPA, hFA, hs13⟩ := two_new w12 30 38 #[.string rnm, .int .i64 rvl, .slice ra1 rn1 rk1, .slice ra2 rn2 rk2, .int .i64 rak, .int .i64 rxo, .int .i64 rxt, .string rxs, .int .i64 rxn, .slice rxa rxm rxc] #[.int .i64 0, .int .i64 0]
                      have HQ13 := Lib.hid (HQ12.out.live' hbA)
                      have HR13 := Lib.hid hPA
                      have HF13 := Lib.hid hFA
                      have HLQ13 := Lib.hid (HLQ12.out.below hbA)
                      have HLR13 := Lib.hid (HLR12.out.below hbA)
                      have HB13 := Lib.hid (HB12.out.trans (hbA.mono HB12.out.size))
                      clear hbA hPA hFA HLQ12 HLR12 HB12 HQ12
                      generalize (w12.alloc (.cells #[.string rnm, .int .i64 rvl, .slice ra1 rn1 rk1, .slice ra2 rn2 rk2, .int .i64 rak, .int .i64 rxo, .int .i64 rxt, .string rxs, .int .i64 rxn, .slice rxa rxm rxc] 30)).alloc (.cells #[.int .i64 0, .int .i64 0] 38) = w13 at *
                      obtain ⟨⟨e0, e1, e2, e3, e4, e5, e6, e7, e8, e9⟩, _⟩ := ten_free HQ13.out
                      go_wp2_with fail
                      with_reducible refine (HPT.out w13 HLQ13.out).mono ?_
                      rintro e w14 ⟨rfl, hb14⟩
                      have HQ14 := Lib.hid (HQ13.out.live' hb14)
                      have HR14 := Lib.hid (HR13.out.live' hb14)
                      have HF14 := Lib.hid (HF13.out.live' hb14)
                      have HLQ14 := Lib.hid (HLQ13.out.below hb14)
                      have HLR14 := Lib.hid (HLR13.out.below hb14)
                      have HB14 := Lib.hid (HB13.out.trans (hb14.mono HB13.out.size))
                      clear hb14 HQ13 HR13 HF13 HLQ13 HLR13 HB13 e0 e1 e2 e3 e4 e5 e6 e7 e8 e9
                      obtain ⟨⟨e0, e1, e2, e3, e4, e5, e6, e7, e8, e9⟩, _⟩ := ten_free HQ14.out
                      obtain ⟨⟨c0, c1, c2, c3, c4, c5, c6, c7, c8, c9⟩, _⟩ := ten_free HR14.out
                      obtain ⟨f0, f1, _, _⟩ := two_free HF14.out
                      go_wp2_with fail
                      with_reducible refine (sameG p2 _ _ _ _ w14 HLQ14.out HLR14.out).mono ?_
                      rintro e w15 ⟨rfl, hb15⟩
                      go_wp2_with fail
                      go_ret
                      exact ⟨rfl, HB14.out.trans (hb15.mono HB14.out.size)⟩
                    · have HPR2 := Lib.hid (parA_long ht2)
                      have HPT := Lib.hid (fun w' (h : LPg (From wc.heap.size) w' (.agg #[.string qnm, .int .i64 qvl, .slice qa1 qn1 qk1, .slice qa2 qn2 qk2, .int .i64 qak, .int .i64 qxo, .int .i64 qxt, .string qxs, .int .i64 qxn, .slice qxa qxm qxc]) p2) => prog_text HTP.out HTL.out _ _ w' h)
                      clear HTP HTL
                      have d6 : decide ((4096 : Int) < ((bs t2).size : Int)) = true := by simp; omega
                      have d6' : decide (4096 < (bs t2).size) = true := by simp; omega
                      generalize bs t2 = T2 at *
                      go_wp2_with fail
                      with_reducible refine (parse_at T2 _ w11 HPR2.out).mono ?_
                      rintro e w12 ⟨vr, rfl, hlr, hb12⟩
                      rw [show pfl (.error (3, 0)) = .agg #[.int .i64 3, .int .i64 0] from rfl]
                      obtain ⟨rnm, rvl, ra1, rn1, rk1, ra2, rn2, rk2, rak, rxo, rxt, rxs, rxn, rxa, rxm, rxc, rfl⟩ := hlr.any
                      have HQ12 := Lib.hid (HQ11.out.live' hb12)
                      have HLQ12 := Lib.hid (HLQ11.out.below hb12)
                      have HB12 := Lib.hid (HB11.out.trans (hb12.mono HB11.out.size))
                      clear hlr hb12 HQ11 HLQ11 HB11
                      go_upto_region 31 with (fail)
                      obtain ⟨hbA, hPA, hFA, hs13⟩ := two_new w12 30 38 #[.string rnm, .int .i64 rvl, .slice ra1 rn1 rk1, .slice ra2 rn2 rk2, .int .i64 rak, .int .i64 rxo, .int .i64 rxt, .string rxs, .int .i64 rxn, .slice rxa rxm rxc] #[.int .i64 3, .int .i64 0]
                      have HQ13 := Lib.hid (HQ12.out.live' hbA)
                      have HF13 := Lib.hid hFA
                      have HLQ13 := Lib.hid (HLQ12.out.below hbA)
                      have HB13 := Lib.hid (HB12.out.trans (hbA.mono HB12.out.size))
                      clear hbA hPA hFA HLQ12 HB12 HQ12
                      generalize (w12.alloc (.cells #[.string rnm, .int .i64 rvl, .slice ra1 rn1 rk1, .slice ra2 rn2 rk2, .int .i64 rak, .int .i64 rxo, .int .i64 rxt, .string rxs, .int .i64 rxn, .slice rxa rxm rxc] 30)).alloc (.cells #[.int .i64 3, .int .i64 0] 38) = w13 at *
                      obtain ⟨⟨e0, e1, e2, e3, e4, e5, e6, e7, e8, e9⟩, _⟩ := ten_free HQ13.out
                      go_wp2_with fail
                      with_reducible refine (HPT.out w13 HLQ13.out).mono ?_
                      rintro e w14 ⟨rfl, hb14⟩
                      go_wp2_with fail
                      go_ret
                      exact ⟨rfl, HB13.out.trans (hb14.mono HB13.out.size)⟩
                  · have HPR := Lib.hid hpar
                    have hfl : fa ≤ F.size := by
                      rw [HBY.out]
                      exact hfa
                    have HCT := Lib.hid (show how % 4 = 3 → fa = F.size from fun h => by
                      rw [HBY.out]
                      exact hcut h)
                    clear hpar hfa hcut
                    go_wp2_with fail
                    clear d4 d4'
                    with_reducible refine (parse_at F _ wc HPR.out).mono ?_
                    rintro e w9 ⟨vq, rfl, hlq, hb9⟩
                    rw [show pfl (.error (2, fa)) = .agg #[.int .i64 2, .int .i64 (fa : Nat)] from rfl]
                    obtain ⟨qnm, qvl, qa1, qn1, qk1, qa2, qn2, qk2, qak, qxo, qxt, qxs, qxn, qxa, qxm, qxc, rfl⟩ := hlq.any
                    have HB9 := Lib.hid (HB8.out.trans (hb9.mono HB8.out.size))
                    clear hlq hb9 HB8
                    go_upto_region 29 with (fail)
                    obtain ⟨hbA, hPA, hFA, hs10⟩ := two_new w9 30 38 #[.string qnm, .int .i64 qvl, .slice qa1 qn1 qk1, .slice qa2 qn2 qk2, .int .i64 qak, .int .i64 qxo, .int .i64 qxt, .string qxs, .int .i64 qxn, .slice qxa qxm qxc] #[.int .i64 2, .int .i64 (fa : Nat)]
                    have HB10 := Lib.hid (HB9.out.trans (hbA.mono HB9.out.size))
                    obtain ⟨f0, f1, _, _⟩ := two_free hFA
                    clear hbA hPA hFA HB9
                    generalize (w9.alloc (.cells #[.string qnm, .int .i64 qvl, .slice qa1 qn1 qk1, .slice qa2 qn2 qk2, .int .i64 qak, .int .i64 qxo, .int .i64 qxt, .string qxs, .int .i64 qxn, .slice qxa qxm qxc] 30)).alloc (.cells #[.int .i64 2, .int .i64 (fa : Nat)] 38) = w10 at *
                    have k1 : decide ((0 : Int) ≤ (fa : Int)) = true := by simp
                    have k2 : decide ((fa : Int) ≤ (F.size : Int)) = true := by simp; omega
                    have k2' : decide (fa ≤ F.size) = true := by simp; omega
                    by_cases h3 : how % 4 = 3
                    · have hfe := HCT.out h3
                      have k3 : (((how : Int) % 4) != 3) = false := by simp; omega
                      have k4 : ((fa : Int) == (F.size : Int)) = true := by simp; omega
                      have k4' : (fa == F.size) = true := by simp; omega
                      clear hfe h3
                      go_wp2_with fail
                      go_ret
                      exact ⟨rfl, HB10.out⟩
                    · have k3 : (((how : Int) % 4) != 3) = true := by simp; omega
                      clear h3
                      go_wp2_with fail
                      go_ret
                      exact ⟨rfl, HB10.out⟩
                · have d4 : decide ((4096 : Int) < (F.size : Int)) = true := by simp; omega
                  have d4' : decide (4096 < F.size) = true := by simp; omega
                  go_wp2_with fail
                  go_ret
                  exact ⟨rfl, HB8.out⟩
              · have q3 : (((how : Int) % 4) == 3) = false := by simp; omega
                by_cases h0 : how % 4 = 0
                · have q0 : (((how : Int) % 4) == 0) = true := by simp; omega
                  have HTX := Lib.hid (show bs (fall us n (how % 4) (other % 9) i) ++ ⟨#[]⟩ = bs (fall us n (how % 4) (other % 9) (i + 1)) by
                    rw [HST.out, P.fpc, if_pos hin, if_pos h0]
                    show bs _ ++ bs [] = _
                    rw [bs_app])
                  have hn3 : how % 4 = 3 → i + 1 ≤ n := fun h => absurd h h3
                  have HN3 := Lib.hid hn3
                  clear hn3 HST HSX h0 h3 hin hcn
                  generalize bs (fall us n (how % 4) (other % 9) i) = O at *
                  generalize bs (tat us i).text = X at *
                  have y1 : ¬ 9223372036854775807 < X.size + 1 := by omega
                  have y2 : ¬ 9223372036854775807 < O.size + 0 := by omega
                  have y3 : ¬ 9223372036854775807 < O.size := by omega
                  go_wp2_with fail
                  go_round
                  case rel => exact ⟨i + 1, by go_num, by omega, by rw [← HTX.out], HN3.out⟩
                  case measure => simp [intOf]; omega
                · have q0 : (((how : Int) % 4) == 0) = false := by simp; omega
                  by_cases h1 : how % 4 = 1
                  · have q1 : (((how : Int) % 4) == 1) = true := by simp; omega
                    have HTX := Lib.hid (show bs (fall us n (how % 4) (other % 9) i) ++ ((bs (tat us i).text ++ ⟨#[32]⟩) ++ (bs (tat us i).text ++ ⟨#[32]⟩)) = bs (fall us n (how % 4) (other % 9) (i + 1)) by
                      rw [HST.out, P.fpc, if_pos hin, if_neg h0, if_pos h1, bs_sp, bs_app, bs_app])
                    have HN3 := Lib.hid (show how % 4 = 3 → i + 1 ≤ n from fun h => absurd h h3)
                    clear HST HSX h0 h1 h3 hin hcn
                    generalize bs (fall us n (how % 4) (other % 9) i) = O at *
                    generalize bs (tat us i).text = X at *
                    have y1 : ¬ 9223372036854775807 < X.size + 1 := by omega
                    have y2 : ¬ 9223372036854775807 < X.size + 1 + (X.size + 1) := by omega
                    have y3 : ¬ 9223372036854775807 < O.size + (X.size + 1 + (X.size + 1)) := by omega
                    go_wp2_with fail
                    go_round
                    case rel => exact ⟨i + 1, by go_num, by omega, by rw [← HTX.out], HN3.out⟩
                    case measure => simp [intOf]; omega
                  · have q1 : (((how : Int) % 4) == 1) = false := by simp; omega
                    have h2 : how % 4 = 2 := by omega
                    have q2 : (((how : Int) % 4) == 2) = true := by simp; omega
                    have HTX := Lib.hid (show bs (fall us n (how % 4) (other % 9) i) ++ ((bs (oddL (other % 9)) ++ ⟨#[32]⟩) ++ (bs (tat us i).text ++ ⟨#[32]⟩)) = bs (fall us n (how % 4) (other % 9) (i + 1)) by
                      rw [HST.out, P.fpc, if_pos hin, if_neg h0, if_neg h1, if_pos h2, bs_sp, bs_sp, bs_app, bs_app])
                    have HN3 := Lib.hid (show how % 4 = 3 → i + 1 ≤ n from fun h => absurd h h3)
                    clear HST HSX h0 h1 h2 h3 hin hcn
                    generalize bs (fall us n (how % 4) (other % 9) i) = O at *
                    generalize bs (tat us i).text = X at *
                    generalize bs (oddL (other % 9)) = OD at *
                    have y0 : ¬ 9223372036854775807 < OD.size + 1 := by omega
                    have y1 : ¬ 9223372036854775807 < X.size + 1 := by omega
                    have y2 : ¬ 9223372036854775807 < OD.size + 1 + (X.size + 1) := by omega
                    have y3 : ¬ 9223372036854775807 < O.size + (OD.size + 1 + (X.size + 1)) := by omega
                    go_wp2_with fail
                    go_round
                    case rel => exact ⟨i + 1, by go_num, by omega, by rw [← HTX.out], HN3.out⟩
                    case measure => simp [intOf]; omega
            · have e1 : ((i : Int) == (n : Int)) = false := by simp; omega
              have e1' : (i == n) = false := by simp; omega
              have HTX := Lib.hid (show bs (fall us n (how % 4) (other % 9) i) ++ (bs (tat us i).text ++ ⟨#[32]⟩) = bs (fall us n (how % 4) (other % 9) (i + 1)) by
                rw [HST.out, P.fpc, if_neg hin, bs_sp, bs_app])
              have HN3 := Lib.hid (show how % 4 = 3 → i + 1 ≤ n from fun h => by
                have := hcn h
                omega)
              by_cases h3 : how % 4 = 3
              · have q3 : (((how : Int) % 4) == 3) = true := by simp; omega
                have hni := hcn h3
                have q4 : decide ((n : Int) ≤ (i : Int)) = false := by simp; omega
                have q4' : decide (n ≤ i) = false := by simp; omega
                clear HST HSX h3 hin hcn
                generalize bs (fall us n (how % 4) (other % 9) i) = O at *
                generalize bs (tat us i).text = X at *
                have y1 : ¬ 9223372036854775807 < X.size + 1 := by omega
                have y3 : ¬ 9223372036854775807 < O.size + (X.size + 1) := by omega
                go_wp2_with fail
                go_round
                case rel => exact ⟨i + 1, by go_num, by omega, by rw [← HTX.out], HN3.out⟩
                case measure => simp [intOf]; omega
              · have q3 : (((how : Int) % 4) == 3) = false := by simp; omega
                clear HST HSX h3 hin hcn
                generalize bs (fall us n (how % 4) (other % 9) i) = O at *
                generalize bs (tat us i).text = X at *
                have y1 : ¬ 9223372036854775807 < X.size + 1 := by omega
                have y3 : ¬ 9223372036854775807 < O.size + (X.size + 1) := by omega
                go_wp2_with fail
                go_round
                case rel => exact ⟨i + 1, by go_num, by omega, by rw [← HTX.out], HN3.out⟩
                case measure => simp [intOf]; omega
          · have d1 : decide ((i : Int) + 1 < (us.length : Int) + 1) = false := by simp; omega
            have d1' : decide ((i : Int) < (us.length : Int)) = false := by simp; omega
            have d1'' : decide (i < us.length) = false := by simp; omega
            have HSX := Lib.hid (show (bs (fall us n (how % 4) (other % 9) i)).size ≤ 4096 → Spoilt (fall us n (how % 4) (other % 9) i) (how % 4 = 3) from fun hs => by
              refine HSE.out n (how % 4) (other % 9) i hnl ?_ hs
              by_cases h3 : how % 4 = 3
              · have := hcn h3
                exact .inr ⟨h3, by omega⟩
              · exact .inl ⟨h3, by omega⟩)
            go_upto_region 26 with (fail)
            clear d1 d1' d1'' hcn hlt hi
            generalize hF : fall us n (how % 4) (other % 9) i = FL at *
            have hTsz : (bs FL).size = FL.length := bs_size _
            have HBY := Lib.hid hTsz
            clear hF hTsz
            generalize hbf : bs FL = F at *
            have HBF := Lib.hid hbf
            clear hbf
            by_cases hfs : F.size ≤ 4096
            · have d4 : decide ((4096 : Int) < (F.size : Int)) = false := by simp; omega
              have d4' : decide (4096 < F.size) = false := by simp; omega
              have hsp := HSX.out hfs
              unfold Spoilt at hsp
              rw [HBF.out] at hsp
              rcases hsp with ⟨p2, l2, t2, b2, x1, x2, x3, hpar, htp, htl⟩ | ⟨fa, hpar, hfa, hcut⟩
              · have HPR := Lib.hid hpar
                have HTP := Lib.hid htp
                have HTL := Lib.hid htl
                clear hpar htp htl
                go_wp2_with fail
                clear d4 d4'
                with_reducible refine (parse_at F _ wc HPR.out).mono ?_
                rintro e w9 ⟨vq, rfl, hlq, hb9⟩
                rw [show pfl (.ok (p2, l2)) = .agg #[.int .i64 0, .int .i64 0] from rfl]
                obtain ⟨qnm, qvl, qa1, qn1, qk1, qa2, qn2, qk2, qak, qxo, qxt, qxs, qxn, qxa, qxm, qxc, rfl⟩ := hlq.any
                have HLQ9 := Lib.hid (show LPg (From wc.heap.size) w9 _ p2 from hlq)
                have HB9 := Lib.hid (HB8.out.trans (hb9.mono HB8.out.size))
                clear hlq hb9 HB8
                go_upto_region 29 with (fail)
                obtain ⟨hbA, hPA, hFA, hs10⟩ := two_new w9 30 38 #[.string qnm, .int .i64 qvl, .slice qa1 qn1 qk1, .slice qa2 qn2 qk2, .int .i64 qak, .int .i64 qxo, .int .i64 qxt, .string qxs, .int .i64 qxn, .slice qxa qxm qxc] #[.int .i64 0, .int .i64 0]
                have HQ10 := Lib.hid hPA
                have HLQ10 := Lib.hid (HLQ9.out.below hbA)
                have HB10 := Lib.hid (HB9.out.trans (hbA.mono HB9.out.size))
                obtain ⟨⟨e0, e1, e2, e3, e4, e5, e6, e7, e8, e9⟩, _⟩ := ten_free hPA
                obtain ⟨f0, f1, _, _⟩ := two_free hFA
                clear hbA hPA hFA HLQ9 HB9
                generalize (w9.alloc (.cells #[.string qnm, .int .i64 qvl, .slice qa1 qn1 qk1, .slice qa2 qn2 qk2, .int .i64 qak, .int .i64 qxo, .int .i64 qxt, .string qxs, .int .i64 qxn, .slice qxa qxm qxc] 30)).alloc (.cells #[.int .i64 0, .int .i64 0] 38) = w10 at *
                go_wp2_with fail
                with_reducible refine (prog_text HTP.out HTL.out _ _ w10 HLQ10.out).mono ?_
                rintro e w11 ⟨rfl, hb11⟩
                have HQ11 := Lib.hid (HQ10.out.live' hb11)
                have HLQ11 := Lib.hid (HLQ10.out.below hb11)
                have HB11 := Lib.hid (HB10.out.trans (hb11.mono HB10.out.size))
                have hs11 := hb11.size
                clear hb11 HQ10 HLQ10 HB10 e0 e1 e2 e3 e4 e5 e6 e7 e8 e9 f0 f1
                by_cases ht2 : (bs t2).size ≤ 4096
                · obtain ⟨us2, _, _, _, _, hpar2, _⟩ := tp_lex HTP.out ht2
                  have HPR2 := Lib.hid hpar2
                  have HPT := Lib.hid (fun w' (h : LPg (From wc.heap.size) w' (.agg #[.string qnm, .int .i64 qvl, .slice qa1 qn1 qk1, .slice qa2 qn2 qk2, .int .i64 qak, .int .i64 qxo, .int .i64 qxt, .string qxs, .int .i64 qxn, .slice qxa qxm qxc]) p2) => prog_text HTP.out HTL.out _ _ w' h)
                  clear hpar2
                  generalize P.plc (0 :: (x1 ++ (x2 ++ x3))) (us2 ++ [⟨4, [], 0, t2.length⟩]) = L2 at *
                  clear HTP HTL
                  have d6 : decide ((4096 : Int) < ((bs t2).size : Int)) = false := by simp; omega
                  have d6' : decide (4096 < (bs t2).size) = false := by simp; omega
                  generalize bs t2 = T2 at *
                  go_wp2_with fail
                  with_reducible refine (parse_at T2 _ w11 HPR2.out).mono ?_
                  rintro e w12 ⟨vr, rfl, hlr, hb12⟩
                  rw [show pfl (.ok (p2, L2)) = .agg #[.int .i64 0, .int .i64 0] from rfl]
                  obtain ⟨rnm, rvl, ra1, rn1, rk1, ra2, rn2, rk2, rak, rxo, rxt, rxs, rxn, rxa, rxm, rxc, rfl⟩ := hlr.any
                  have HLR12 := Lib.hid (show LPg (From w11.heap.size) w12 _ p2 from hlr)
                  have HQ12 := Lib.hid (HQ11.out.live' hb12)
                  have HLQ12 := Lib.hid (HLQ11.out.below hb12)
                  have HB12 := Lib.hid (HB11.out.trans (hb12.mono HB11.out.size))
                  clear hlr hb12 HQ11 HLQ11 HB11
                  go_upto_region 31 with (fail)
                  obtain ⟨hbA, hPA, hFA, hs13⟩ := two_new w12 30 38 #[.string rnm, .int .i64 rvl, .slice ra1 rn1 rk1, .slice ra2 rn2 rk2, .int .i64 rak, .int .i64 rxo, .int .i64 rxt, .string rxs, .int .i64 rxn, .slice rxa rxm rxc] #[.int .i64 0, .int .i64 0]
                  have HQ13 := Lib.hid (HQ12.out.live' hbA)
                  have HR13 := Lib.hid hPA
                  have HF13 := Lib.hid hFA
                  have HLQ13 := Lib.hid (HLQ12.out.below hbA)
                  have HLR13 := Lib.hid (HLR12.out.below hbA)
                  have HB13 := Lib.hid (HB12.out.trans (hbA.mono HB12.out.size))
                  clear hbA hPA hFA HLQ12 HLR12 HB12 HQ12
                  generalize (w12.alloc (.cells #[.string rnm, .int .i64 rvl, .slice ra1 rn1 rk1, .slice ra2 rn2 rk2, .int .i64 rak, .int .i64 rxo, .int .i64 rxt, .string rxs, .int .i64 rxn, .slice rxa rxm rxc] 30)).alloc (.cells #[.int .i64 0, .int .i64 0] 38) = w13 at *
                  obtain ⟨⟨e0, e1, e2, e3, e4, e5, e6, e7, e8, e9⟩, _⟩ := ten_free HQ13.out
                  go_wp2_with fail
                  with_reducible refine (HPT.out w13 HLQ13.out).mono ?_
                  rintro e w14 ⟨rfl, hb14⟩
                  have HQ14 := Lib.hid (HQ13.out.live' hb14)
                  have HR14 := Lib.hid (HR13.out.live' hb14)
                  have HF14 := Lib.hid (HF13.out.live' hb14)
                  have HLQ14 := Lib.hid (HLQ13.out.below hb14)
                  have HLR14 := Lib.hid (HLR13.out.below hb14)
                  have HB14 := Lib.hid (HB13.out.trans (hb14.mono HB13.out.size))
                  clear hb14 HQ13 HR13 HF13 HLQ13 HLR13 HB13 e0 e1 e2 e3 e4 e5 e6 e7 e8 e9
                  obtain ⟨⟨e0, e1, e2, e3, e4, e5, e6, e7, e8, e9⟩, _⟩ := ten_free HQ14.out
                  obtain ⟨⟨c0, c1, c2, c3, c4, c5, c6, c7, c8, c9⟩, _⟩ := ten_free HR14.out
                  obtain ⟨f0, f1, _, _⟩ := two_free HF14.out
                  go_wp2_with fail
                  with_reducible refine (sameG p2 _ _ _ _ w14 HLQ14.out HLR14.out).mono ?_
                  rintro e w15 ⟨rfl, hb15⟩
                  go_wp2_with fail
                  go_ret
                  exact ⟨rfl, HB14.out.trans (hb15.mono HB14.out.size)⟩
                · have HPR2 := Lib.hid (parA_long ht2)
                  have HPT := Lib.hid (fun w' (h : LPg (From wc.heap.size) w' (.agg #[.string qnm, .int .i64 qvl, .slice qa1 qn1 qk1, .slice qa2 qn2 qk2, .int .i64 qak, .int .i64 qxo, .int .i64 qxt, .string qxs, .int .i64 qxn, .slice qxa qxm qxc]) p2) => prog_text HTP.out HTL.out _ _ w' h)
                  clear HTP HTL
                  have d6 : decide ((4096 : Int) < ((bs t2).size : Int)) = true := by simp; omega
                  have d6' : decide (4096 < (bs t2).size) = true := by simp; omega
                  generalize bs t2 = T2 at *
                  go_wp2_with fail
                  with_reducible refine (parse_at T2 _ w11 HPR2.out).mono ?_
                  rintro e w12 ⟨vr, rfl, hlr, hb12⟩
                  rw [show pfl (.error (3, 0)) = .agg #[.int .i64 3, .int .i64 0] from rfl]
                  obtain ⟨rnm, rvl, ra1, rn1, rk1, ra2, rn2, rk2, rak, rxo, rxt, rxs, rxn, rxa, rxm, rxc, rfl⟩ := hlr.any
                  have HQ12 := Lib.hid (HQ11.out.live' hb12)
                  have HLQ12 := Lib.hid (HLQ11.out.below hb12)
                  have HB12 := Lib.hid (HB11.out.trans (hb12.mono HB11.out.size))
                  clear hlr hb12 HQ11 HLQ11 HB11
                  go_upto_region 31 with (fail)
                  obtain ⟨hbA, hPA, hFA, hs13⟩ := two_new w12 30 38 #[.string rnm, .int .i64 rvl, .slice ra1 rn1 rk1, .slice ra2 rn2 rk2, .int .i64 rak, .int .i64 rxo, .int .i64 rxt, .string rxs, .int .i64 rxn, .slice rxa rxm rxc] #[.int .i64 3, .int .i64 0]
                  have HQ13 := Lib.hid (HQ12.out.live' hbA)
                  have HF13 := Lib.hid hFA
                  have HLQ13 := Lib.hid (HLQ12.out.below hbA)
                  have HB13 := Lib.hid (HB12.out.trans (hbA.mono HB12.out.size))
                  clear hbA hPA hFA HLQ12 HB12 HQ12
                  generalize (w12.alloc (.cells #[.string rnm, .int .i64 rvl, .slice ra1 rn1 rk1, .slice ra2 rn2 rk2, .int .i64 rak, .int .i64 rxo, .int .i64 rxt, .string rxs, .int .i64 rxn, .slice rxa rxm rxc] 30)).alloc (.cells #[.int .i64 3, .int .i64 0] 38) = w13 at *
                  obtain ⟨⟨e0, e1, e2, e3, e4, e5, e6, e7, e8, e9⟩, _⟩ := ten_free HQ13.out
                  go_wp2_with fail
                  with_reducible refine (HPT.out w13 HLQ13.out).mono ?_
                  rintro e w14 ⟨rfl, hb14⟩
                  go_wp2_with fail
                  go_ret
                  exact ⟨rfl, HB13.out.trans (hb14.mono HB13.out.size)⟩
              · have HPR := Lib.hid hpar
                have hfl : fa ≤ F.size := by
                  rw [HBY.out]
                  exact hfa
                have HCT := Lib.hid (show how % 4 = 3 → fa = F.size from fun h => by
                  rw [HBY.out]
                  exact hcut h)
                clear hpar hfa hcut
                go_wp2_with fail
                clear d4 d4'
                with_reducible refine (parse_at F _ wc HPR.out).mono ?_
                rintro e w9 ⟨vq, rfl, hlq, hb9⟩
                rw [show pfl (.error (2, fa)) = .agg #[.int .i64 2, .int .i64 (fa : Nat)] from rfl]
                obtain ⟨qnm, qvl, qa1, qn1, qk1, qa2, qn2, qk2, qak, qxo, qxt, qxs, qxn, qxa, qxm, qxc, rfl⟩ := hlq.any
                have HB9 := Lib.hid (HB8.out.trans (hb9.mono HB8.out.size))
                clear hlq hb9 HB8
                go_upto_region 29 with (fail)
                obtain ⟨hbA, hPA, hFA, hs10⟩ := two_new w9 30 38 #[.string qnm, .int .i64 qvl, .slice qa1 qn1 qk1, .slice qa2 qn2 qk2, .int .i64 qak, .int .i64 qxo, .int .i64 qxt, .string qxs, .int .i64 qxn, .slice qxa qxm qxc] #[.int .i64 2, .int .i64 (fa : Nat)]
                have HB10 := Lib.hid (HB9.out.trans (hbA.mono HB9.out.size))
                obtain ⟨f0, f1, _, _⟩ := two_free hFA
                clear hbA hPA hFA HB9
                generalize (w9.alloc (.cells #[.string qnm, .int .i64 qvl, .slice qa1 qn1 qk1, .slice qa2 qn2 qk2, .int .i64 qak, .int .i64 qxo, .int .i64 qxt, .string qxs, .int .i64 qxn, .slice qxa qxm qxc] 30)).alloc (.cells #[.int .i64 2, .int .i64 (fa : Nat)] 38) = w10 at *
                have k1 : decide ((0 : Int) ≤ (fa : Int)) = true := by simp
                have k2 : decide ((fa : Int) ≤ (F.size : Int)) = true := by simp; omega
                have k2' : decide (fa ≤ F.size) = true := by simp; omega
                by_cases h3 : how % 4 = 3
                · have hfe := HCT.out h3
                  have k3 : (((how : Int) % 4) != 3) = false := by simp; omega
                  have k4 : ((fa : Int) == (F.size : Int)) = true := by simp; omega
                  have k4' : (fa == F.size) = true := by simp; omega
                  clear hfe h3
                  go_wp2_with fail
                  go_ret
                  exact ⟨rfl, HB10.out⟩
                · have k3 : (((how : Int) % 4) != 3) = true := by simp; omega
                  clear h3
                  go_wp2_with fail
                  go_ret
                  exact ⟨rfl, HB10.out⟩
            · have d4 : decide ((4096 : Int) < (F.size : Int)) = true := by simp; omega
              have d4' : decide (4096 < F.size) = true := by simp; omega
              go_wp2_with fail
              go_ret
              exact ⟨rfl, HB8.out⟩
    · generalize bs t = T at *
      have hll := lexA_long hsz
      have HLL := Lib.hid hll
      clear hll HTP HTL
      go_wp2_with fail
      with_reducible refine (rlex_any T w5).mono ?_
      rintro e w6 ⟨vt, rfl, hown, hb6⟩
      rw [HLL.out] at hown ⊢
      rw [show flt (.error (.long, 0)) = .agg #[.int .i64 3, .int .i64 0] from rfl]
      obtain ⟨ax, ct, rfl⟩ := slice_of_own hown
      have HB6 := Lib.hid (HB5.out.trans (hb6.mono HB5.out.size))
      clear hown hb6
      go_wp2_with fail
      go_ret
      exact ⟨rfl, HB6.out.alloc HB6.out.size _⟩
  · have d8 : decide ((80 : Int) < (len : Int)) = true := by simp; omega
    have d8' : decide (80 < len) = true := by simp; omega
    go_wp2_with fail
    go_ret
    exact ⟨rfl, hb1⟩
theorem faults7_at (a : Option Addr) (len cap : Nat) (xs : List Nat) (z : Int) (how other : Nat) (w : World) (hx : IsBytes w a len xs) (hz : (Lit.int .u16 z).wf = true) (hh : how < 256) (ho : other < 256) : Calls Try.prog 5 #[.slice a len cap, .int .u16 z, .int .u8 (how : Nat), .int .u8 (other : Nat)] w (fun e w' => e = .returned (.bool true) ∧ Below w.heap.size w w') := by
  have hb : 0 ≤ z ∧ z ≤ 65535 := by
    simpa [Lit.wf, IntKind.min, IntKind.max, IntKind.signed, IntKind.bits] using hz
  obtain ⟨n, rfl⟩ : ∃ n : Nat, z = (n : Int) := ⟨z.toNat, by omega⟩
  exact faults7_law a len cap xs n how other w hx (by omega) hh ho
end Go.Proofs.Ytihhkppimeagfaa.Lx
