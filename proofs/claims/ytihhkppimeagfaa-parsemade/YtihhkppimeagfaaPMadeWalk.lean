/-
  ParseMade: its walk. A program's text is that program, whatever blanks and remarks stand in it.
-/
import Derived.Test.YtihhkppimeagfaaPMadeM
import Derived.Test.YtihhkppimeagfaaLBytes
import Derived.Deep.DeepCutAuto
namespace Go.Proofs.Ytihhkppimeagfaa.Lx
open Go.RowKit
open L (Tok)
open P (EX CO ST PG TP MP Bo)
set_option maxRecDepth 100000
set_option linter.unusedVariables false
set_option linter.unusedSimpArgs false
theorem btw_cell (j : Nat) (h : j < 4) : (#[.string ⟨#[10]⟩, .string ⟨#[32, 9, 32]⟩, .string ⟨#[32, 47, 47, 32, 125, 10]⟩, .string ⟨#[13, 10, 10]⟩] : Array Value)[j]? = some (.string (bs (P.btwL j))) := by
  match j, h with
  | 0, _ => rfl
  | 1, _ => rfl
  | 2, _ => rfl
  | 3, _ => rfl
  | n + 4, h => exact absurd h (by omega)
theorem btw_len (j : Nat) (h : j < 4) : (P.btwL j).length ≤ 6 := by
  have : ∀ j, j < 4 → (P.btwL j).length ≤ 6 := by decide
  exact this j h
def BtwR (j : Nat) (w0 : World) (s : Value) (wx : World) : Prop := s = .string (bs (P.btwL j)) ∧ Below w0.heap.size w0 wx
set_option maxHeartbeats 6400000 in
theorem made7_law (a : Option Addr) (len cap : Nat) (xs : List Nat) (how : Nat) (w : World) (hx : IsBytes w a len xs) (hh : how < 256) : Calls Try.prog 3 #[.slice a len cap, .int .u8 (how : Nat)] w (fun e w' => e = .returned (.bool true) ∧ Below w.heap.size w w') := by
  have hlm := hx.2.1
  have HX := Lib.hid hx
  have HEQ := Lib.hid (eqFlt_self 3 0)
  clear hx
  go_enter Try.func3, Try.ntmps3
  go_wp2_with fail
  with_reducible refine (begun7_any _).mono ?_
  rintro e w1 ⟨rfl, hb1⟩
  by_cases h80 : len ≤ 80
  · have d8 : decide ((80 : Int) < (len : Int)) = false := by simp; omega
    have d8' : decide (80 < len) = false := by simp; omega
    go_wp2_with fail
    clear d8 d8'
    with_reducible refine (made_any a len cap xs w1 (HX.out.below hb1)).mono ?_
    rintro e w2 ⟨M, rfl, hmk, hM, hb2⟩
    go_wp2_with fail
    with_reducible refine (prog7_any w2.heap.size M w2 hmk).mono ?_
    rintro e w3 ⟨vp, p, v, k, rfl, hlp, hmp, hv1, hv2, hk1, hk2, ht1, ht2, hmk3, ho3⟩
    obtain ⟨t, b, q1, q2, q3, htp, htl⟩ := made_tp hmp hv2 hk2 ht2
    have hs1 := hb1.size
    have hs2 := hb2.size
    have hs3 := ho3.size
    have HB3 := Lib.hid ((hb1.trans (hb2.mono hs1)).trans (ho3.below (B := w.heap.size) (by omega) (fun j hj e => by omega)))
    have HTP := Lib.hid htp
    have HTL := Lib.hid htl
    obtain ⟨pnm, pvl, pa1, pn1, pk1, pa2, pn2, pk2, pak, pxo, pxt, pxs, pxn, pxa, pxm, pxc, rfl⟩ := hlp.any
    have HLP3 := Lib.hid hlp
    clear hmp hmk hmk3 ho3 hb1 hb2 hlp htp htl hM hv1 hv2 hk1 hk2 ht1 ht2 hs1 hs2 hs3
    go_wp2_with fail
    obtain ⟨hbA, hPA, hs4⟩ := new_one w3 30 #[.string pnm, .int .i64 pvl, .slice pa1 pn1 pk1, .slice pa2 pn2 pk2, .int .i64 pak, .int .i64 pxo, .int .i64 pxt, .string pxs, .int .i64 pxn, .slice pxa pxm pxc]
    have HP4 := Lib.hid hPA
    have HLP4 := Lib.hid (HLP3.out.below hbA)
    have HB4 := Lib.hid (HB3.out.trans (hbA.mono HB3.out.size))
    clear hbA hPA HB3 HLP3
    generalize w3.alloc (.cells #[.string pnm, .int .i64 pvl, .slice pa1 pn1 pk1, .slice pa2 pn2 pk2, .int .i64 pak, .int .i64 pxo, .int .i64 pxt, .string pxs, .int .i64 pxn, .slice pxa pxm pxc] 30) = w4 at *
    have HCP := Lib.hid (prog_text HTP.out HTL.out _ _ w4 HLP4.out)
    with_reducible refine HCP.out.mono ?_
    rintro e w5 ⟨rfl, hb5⟩
    have HP5 := Lib.hid (HP4.out.live' hb5)
    have HLP5 := Lib.hid (HLP4.out.below hb5)
    have HB5 := Lib.hid (HB4.out.trans (hb5.mono HB4.out.size))
    have hs5 := hb5.size
    clear hb5 HP4 HLP4 HB4 HCP
    by_cases hsz : (bs t).size ≤ 4096
    · obtain ⟨us, hlx, hl0, hub, hin, hpar, _⟩ := tp_lex HTP.out hsz
      have hst : t.length ≤ 4096 := by rw [bs_size] at hsz; exact hsz
      obtain ⟨hts, htn⟩ := toks_short hst hin
      have HWD := Lib.hid (fun k => HTP.out.wide hl0 k)
      have HLX := Lib.hid hlx
      have HPR := Lib.hid hpar
      have HTS := Lib.hid hts
      have HTS' := Lib.hid hts
      have hen : 0 < (us ++ [(⟨4, [], 0, t.length⟩ : Tok)]).length := by simp
      clear hlx hl0 hub hin hpar hts HTP HTL hst
      generalize us ++ [(⟨4, [], 0, t.length⟩ : Tok)] = TS at *
      generalize P.plc (0 :: (q1 ++ (q2 ++ q3))) TS = PL at *
      have hsz' : (bs t).size ≤ maxLen := by unfold maxLen; omega
      generalize bs t = T at *
      go_wp2_with fail
      with_reducible refine (rlex_any T w5).mono ?_
      rintro e w6 ⟨vt, rfl, hown, hb6⟩
      rw [HLX.out] at hown ⊢
      rw [show flt (.ok TS) = .agg #[.int .i64 0, .int .i64 0] from rfl]
      obtain ⟨gt, ct, rfl, _, hgt, hrow⟩ := own_row (show Own w6 w5.heap.size vt TS from hown) hen
      have HRW := Lib.hid hrow
      have HP6 := Lib.hid (HP5.out.live' hb6)
      have HLP6 := Lib.hid (HLP5.out.below hb6)
      have HB6 := Lib.hid (HB5.out.trans (hb6.mono HB5.out.size))
      have hs6 := hb6.size
      clear hown hrow hb6 HP5 HLP5 HB5
      go_upto_region 11 with (fail)
      obtain ⟨hbA, hFA, hs7⟩ := new_one w6 38 #[.int .i64 0, .int .i64 0]
      have HRW7 := Lib.hid (show ∀ i, i < TS.length → Four (w6.alloc (.cells #[.int .i64 0, .int .i64 0] 38)) gt (i * 4) (tat TS i) from fun i hi => (HRW.out i hi).only (Only.of_below (S := fun _ => False) hbA) id)
      have HP7 := Lib.hid (HP6.out.live' hbA)
      have HLP7 := Lib.hid (HLP6.out.below hbA)
      have HB7 := Lib.hid (HB6.out.trans (hbA.mono HB6.out.size))
      clear hbA hFA HP6 HLP6 HB6 HRW
      generalize w6.alloc (.cells #[.int .i64 0, .int .i64 0] 38) = w7 at *
      go_cut [11] (fun s wx => BtwR (how % 4) w7 s wx)
      case first =>
        have h4 : how % 4 = 0 ∨ how % 4 = 1 ∨ how % 4 = 2 ∨ how % 4 = 3 := by omega
        rcases h4 with h | h | h | h
        all_goals
          have HR := Lib.hid h
          first | have m1 : (how : Int) % 4 = 0 := by omega | have m1 : (how : Int) % 4 = 1 := by omega | have m1 : (how : Int) % 4 = 2 := by omega | have m1 : (how : Int) % 4 = 3 := by omega
          clear h
          go_wp2_with fail
          go_meet
          case rel => exact ⟨by rw [HR.out]; rfl, (Below.refl _ _).alloc (Nat.le_refl _) _⟩
      case rest =>
        obtain ⟨rfl, hbc⟩ := hcut
        have hbl := btw_len (how % 4) (by omega)
        have HRW8 := Lib.hid (show ∀ i, i < TS.length → Four wc gt (i * 4) (tat TS i) from fun i hi => (HRW7.out i hi).only (Only.of_below (S := fun _ => False) hbc) id)
        have HP8 := Lib.hid (HP7.out.live' hbc)
        have HLP8 := Lib.hid (HLP7.out.below hbc)
        have HB8 := Lib.hid (HB7.out.trans (hbc.mono HB7.out.size))
        clear hbc HP7 HLP7 HB7 HRW7
        have HWD8 := Lib.hid (HWD.out (how % 4))
        have HTK := Lib.hid (fun i (h : i < TS.length) => joinW_take (btw := P.btwL (how % 4)) h)
        have HJL := Lib.hid (fun i => joinW_len hbl (TS.take i) (fun x hx => HTS.out x (List.mem_of_mem_take hx)))
        have hbsz : (bs (P.btwL (how % 4))).size ≤ 6 := by rw [bs_size]; exact hbl
        clear HWD HTS hbl
        generalize P.btwL (how % 4) = BL at *
        go_wp2_with fail
        go_loop [12, 13] (fun sv iv => ∃ k : Nat, iv = .int .i64 k ∧ k ≤ TS.length ∧ sv = .string (bs (P.joinW BL (TS.take k)))) (fun _ iv => TS.length - (intOf iv).toNat)
        case atStart => exact ⟨0, rfl, Nat.zero_le _, by simp [P.joinW]; rfl⟩
        case round =>
          obtain ⟨k, rfl, hk, rfl⟩ := hrel
          by_cases hlt : k < TS.length
          · obtain ⟨_, c1, _, _⟩ := HRW8.out k hlt
            have HTX := Lib.hid (show (bs (P.joinW BL (TS.take k)) ++ bs (tat TS k).text) ++ bs BL = bs (P.joinW BL (TS.take (k + 1))) by
              rw [t_join, HTK.out k hlt])
            have s1 : (bs (P.joinW BL (TS.take k))).size ≤ 4102 * (TS.take k).length := by rw [bs_size]; exact HJL.out k
            have s2 : (bs (tat TS k).text).size ≤ 4096 := by rw [bs_size]; exact HTS'.out _ (tat_mem hlt)
            rw [List.length_take] at s1
            generalize bs (P.joinW BL (TS.take k)) = O at *
            generalize bs (tat TS k).text = X at *
            generalize bs BL = BT at *
            have z1 : ¬ 9223372036854775807 < O.size + X.size := by omega
            have z2 : ¬ 9223372036854775807 < O.size + X.size + BT.size := by omega
            have m1 : (0 : Int) ≤ (k : Int) := by omega
            have m2 : (k : Int) < (TS.length : Int) := by omega
            clear s1 s2
            go_wp2_with fail
            go_round
            case rel => exact ⟨k + 1, by go_num, by omega, by rw [← HTX.out]⟩
            case measure => simp [intOf]; omega
          · obtain rfl : k = TS.length := by omega
            rw [List.take_length]
            have hWS : (bs (P.joinW BL TS)).size ≤ 4102 * TS.length := by
              rw [bs_size]
              have := HJL.out TS.length
              rw [List.take_length] at this
              exact this
            have HWP := Lib.hid (show (bs (P.joinW BL TS)).size ≤ 4096 → ∃ l, parA (bs (P.joinW BL TS)) = .ok (p, l) from fun h => by
              obtain ⟨ts, l, h1, h2⟩ := HWD8.out
              exact ⟨l, parA_of h (by rw [by_bs]; exact h1) h2⟩)
            generalize bs (P.joinW BL TS) = WD at *
            clear HWD8 HTK HJL HTS' hbsz HRW8 hlt hk
            go_wp2_with fail
            with_reducible refine (parse_at T _ wc HPR.out).mono ?_
            rintro e w9 ⟨vq, rfl, hlq, hb9⟩
            rw [show pfl (.ok (p, PL)) = .agg #[.int .i64 0, .int .i64 0] from rfl]
            obtain ⟨qnm, qvl, qa1, qn1, qk1, qa2, qn2, qk2, qak, qxo, qxt, qxs, qxn, qxa, qxm, qxc, rfl⟩ := hlq.any
            have HLQ9 := Lib.hid hlq
            have HP9 := Lib.hid (HP8.out.live' hb9)
            have HLP9 := Lib.hid (HLP8.out.below hb9)
            have HB9 := Lib.hid (HB8.out.trans (hb9.mono HB8.out.size))
            clear hlq hb9 HP8 HLP8 HB8
            go_upto_region 18 with (fail)
            obtain ⟨hbA, hPA, hFA, hs10⟩ := two_new w9 30 38 #[.string qnm, .int .i64 qvl, .slice qa1 qn1 qk1, .slice qa2 qn2 qk2, .int .i64 qak, .int .i64 qxo, .int .i64 qxt, .string qxs, .int .i64 qxn, .slice qxa qxm qxc] #[.int .i64 0, .int .i64 0]
            have HP10 := Lib.hid (HP9.out.live' hbA)
            have HLP10 := Lib.hid (HLP9.out.below hbA)
            have HLQ10 := Lib.hid (HLQ9.out.below hbA)
            have HB10 := Lib.hid (HB9.out.trans (hbA.mono HB9.out.size))
            obtain ⟨⟨e0, e1, e2, e3, e4, e5, e6, e7, e8, e9⟩, _⟩ := ten_free hPA
            obtain ⟨f0, f1, _, _⟩ := two_free hFA
            obtain ⟨⟨c0, c1, c2, c3, c4, c5, c6, c7, c8, c9⟩, _⟩ := ten_free HP10.out
            clear hbA hPA hFA HP9 HLP9 HB9 HLQ9
            generalize (w9.alloc (.cells #[.string qnm, .int .i64 qvl, .slice qa1 qn1 qk1, .slice qa2 qn2 qk2, .int .i64 qak, .int .i64 qxo, .int .i64 qxt, .string qxs, .int .i64 qxn, .slice qxa qxm qxc] 30)).alloc (.cells #[.int .i64 0, .int .i64 0] 38) = w10 at *
            go_wp2_with fail
            with_reducible refine (sameG p _ _ _ _ w10 HLP10.out HLQ10.out).mono ?_
            rintro e w11 ⟨rfl, hb11⟩
            have HP11 := Lib.hid (HP10.out.live' hb11)
            have HLP11 := Lib.hid (HLP10.out.below hb11)
            have HB11 := Lib.hid (HB10.out.trans (hb11.mono HB10.out.size))
            clear hb11 HP10 HLP10 HB10 HLQ10 c0 c1 c2 c3 c4 c5 c6 c7 c8 c9 e0 e1 e2 e3 e4 e5 e6 e7 e8 e9 f0 f1
            by_cases hws : WD.size ≤ 4096
            · have d4 : decide ((4096 : Int) < (WD.size : Int)) = false := by simp; omega
              have d4' : decide (4096 < WD.size) = false := by simp; omega
              obtain ⟨PL2, hpw⟩ := HWP.out hws
              have HPW := Lib.hid hpw
              clear hpw
              go_wp2_with fail
              clear d4 d4'
              with_reducible refine (parse_at WD _ w11 HPW.out).mono ?_
              rintro e w12 ⟨vr, rfl, hlr, hb12⟩
              rw [show pfl (.ok (p, PL2)) = .agg #[.int .i64 0, .int .i64 0] from rfl]
              obtain ⟨rnm, rvl, ra1, rn1, rk1, ra2, rn2, rk2, rak, rxo, rxt, rxs, rxn, rxa, rxm, rxc, rfl⟩ := hlr.any
              have HLR12 := Lib.hid hlr
              have HP12 := Lib.hid (HP11.out.live' hb12)
              have HLP12 := Lib.hid (HLP11.out.below hb12)
              have HB12 := Lib.hid (HB11.out.trans (hb12.mono HB11.out.size))
              clear hlr hb12 HP11 HLP11 HB11
              go_upto_region 23 with (fail)
              obtain ⟨hbA, hPA, hFA, hs13⟩ := two_new w12 30 38 #[.string rnm, .int .i64 rvl, .slice ra1 rn1 rk1, .slice ra2 rn2 rk2, .int .i64 rak, .int .i64 rxo, .int .i64 rxt, .string rxs, .int .i64 rxn, .slice rxa rxm rxc] #[.int .i64 0, .int .i64 0]
              have HP13 := Lib.hid (HP12.out.live' hbA)
              have HLP13 := Lib.hid (HLP12.out.below hbA)
              have HLR13 := Lib.hid (HLR12.out.below hbA)
              have HB13 := Lib.hid (HB12.out.trans (hbA.mono HB12.out.size))
              obtain ⟨⟨e0, e1, e2, e3, e4, e5, e6, e7, e8, e9⟩, _⟩ := ten_free hPA
              obtain ⟨f0, f1, _, _⟩ := two_free hFA
              obtain ⟨⟨c0, c1, c2, c3, c4, c5, c6, c7, c8, c9⟩, _⟩ := ten_free HP13.out
              clear hbA hPA hFA HP12 HLP12 HB12 HLR12
              generalize (w12.alloc (.cells #[.string rnm, .int .i64 rvl, .slice ra1 rn1 rk1, .slice ra2 rn2 rk2, .int .i64 rak, .int .i64 rxo, .int .i64 rxt, .string rxs, .int .i64 rxn, .slice rxa rxm rxc] 30)).alloc (.cells #[.int .i64 0, .int .i64 0] 38) = w13 at *
              go_wp2_with fail
              with_reducible refine (sameG p _ _ _ _ w13 HLP13.out HLR13.out).mono ?_
              rintro e w14 ⟨rfl, hb14⟩
              go_wp2_with fail
              go_ret
              exact ⟨rfl, HB13.out.trans (hb14.mono HB13.out.size)⟩
            · have d4 : decide ((4096 : Int) < (WD.size : Int)) = true := by simp; omega
              have d4' : decide (4096 < WD.size) = true := by simp; omega
              go_wp2_with fail
              go_ret
              exact ⟨rfl, HB11.out⟩
    · generalize bs t = T at *
      have hpl := parA_long hsz
      have hll := lexA_long hsz
      have HPL := Lib.hid hpl
      have HLL := Lib.hid hll
      clear hpl hll HTP HTL
      go_wp2_with fail
      with_reducible refine (rlex_any T w5).mono ?_
      rintro e w6 ⟨vt, rfl, hown, hb6⟩
      rw [HLL.out] at hown ⊢
      rw [show flt (.error (.long, 0)) = .agg #[.int .i64 3, .int .i64 0] from rfl]
      obtain ⟨at', ct, rfl⟩ := slice_of_own hown
      have HB6 := Lib.hid (HB5.out.trans (hb6.mono HB5.out.size))
      clear hown hb6
      go_wp2_with fail
      obtain ⟨hbA, hFA, hs7⟩ := new_one w6 38 #[.int .i64 3, .int .i64 0]
      have HF7 := Lib.hid hFA
      have HB7 := Lib.hid (HB6.out.trans (hbA.mono HB6.out.size))
      clear hbA hFA HB6
      generalize w6.alloc (.cells #[.int .i64 3, .int .i64 0] 38) = w7 at *
      with_reducible refine (parse_at T _ w7 HPL.out).mono ?_
      rintro e w8 ⟨vq, rfl, hlq, hb8⟩
      rw [show pfl (.error (3, 0)) = .agg #[.int .i64 3, .int .i64 0] from rfl]
      obtain ⟨qnm, qvl, qa1, qn1, qk1, qa2, qn2, qk2, qak, qxo, qxt, qxs, qxn, qxa, qxm, qxc, rfl⟩ := hlq.any
      have HB8 := Lib.hid (HB7.out.trans (hb8.mono HB7.out.size))
      obtain ⟨f0, f1, _, _⟩ := two_free (HF7.out.live' hb8)
      have heq := HEQ.out
      have hs8 := hb8.size
      clear hlq hb8 HB7
      go_upto_region 10 with (fail)
      obtain ⟨hbA, hPA, hFA, hs9⟩ := two_new w8 30 38 #[.string qnm, .int .i64 qvl, .slice qa1 qn1 qk1, .slice qa2 qn2 qk2, .int .i64 qak, .int .i64 qxo, .int .i64 qxt, .string qxs, .int .i64 qxn, .slice qxa qxm qxc] #[.int .i64 3, .int .i64 0]
      have g0 := (hbA.cell (p := ⟨w6.heap.size, 0, none⟩) (by show w6.heap.size < _; omega)).trans f0
      have g1 := (hbA.cell (p := ⟨w6.heap.size, 1, none⟩) (by show w6.heap.size < _; omega)).trans f1
      obtain ⟨k0, k1, _, _⟩ := two_free hFA
      have HB9 := Lib.hid (HB8.out.trans (hbA.mono HB8.out.size))
      clear hbA hPA hFA f0 f1 HB8 HF7
      generalize (w8.alloc (.cells #[.string qnm, .int .i64 qvl, .slice qa1 qn1 qk1, .slice qa2 qn2 qk2, .int .i64 qak, .int .i64 qxo, .int .i64 qxt, .string qxs, .int .i64 qxn, .slice qxa qxm qxc] 30)).alloc (.cells #[.int .i64 3, .int .i64 0] 38) = w9 at *
      go_wp2_with fail
      go_ret
      exact ⟨rfl, HB9.out⟩
  · have d8 : decide ((80 : Int) < (len : Int)) = true := by simp; omega
    have d8' : decide (80 < len) = true := by simp; omega
    go_wp2_with fail
    go_ret
    exact ⟨rfl, hb1⟩
end Go.Proofs.Ytihhkppimeagfaa.Lx
