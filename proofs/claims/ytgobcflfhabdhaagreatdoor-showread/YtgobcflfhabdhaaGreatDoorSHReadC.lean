/-
  ShowRead is proved: for every input the call returns true, and the arguments read afterwards as before. Its condition: the library's three tables start as the program's text lays them (the card ties them).
  ShowRead: its walk. Whatever text is read is shown, and read again as the same.
-/
import Derived.Test.YtgobcflfhabdhaaGreatDoorSHB
import Derived.Test.YtgobcflfhabdhaaGreatDoorSHFrame
namespace Go.Proofs.YtgobcflfhabdhaaGreatDoor.Lx
open Go.RowKit
open L (Tok)
open P (EX CO ST PG TP Bo)
set_option maxRecDepth 100000
set_option linter.unusedVariables false
set_option linter.unusedSimpArgs false
set_option maxHeartbeats 6400000 in
theorem read8_law (s : ByteArray) (w : World) (hs : s.size ≤ maxLen) (ht : Tb w.heap.size w) : Calls Tryz.prog 4 #[.string s] w (fun e w' => e = .returned (.bool true) ∧ Below w.heap.size w w') := by
  have HTB := Lib.hid ht
  have HEQ0 := Lib.hid (eqFlt_self 0 0)
  have HEQ3 := Lib.hid (eqFlt_self 3 0)
  clear ht hs
  go_enter Tryz.func4, Tryz.ntmps4
  go_wp2_with fail
  with_reducible refine (begun8_any w HTB.out).mono ?_
  rintro e w1 ⟨rfl, hb1⟩
  have HB1 := Lib.hid hb1
  clear hb1
  by_cases h1k : s.size ≤ 1000
  · have d8 : decide ((1000 : Int) < (s.size : Int)) = false := by simp; omega
    have d8' : decide (1000 < s.size) = false := by simp; omega
    go_wp2_with fail
    clear d8 d8'
    rcases P.read_all (s := s) (by omega) with ⟨p, l0, t, b, q1, q2, q3, hpar, htp, htl⟩ | ⟨en, pl, hpar, hal, hen⟩
    · have HPAR := Lib.hid hpar
      clear hpar
      have HOK := Lib.hid htp.okp
      have hxp := htp.xp
      have HSP := Lib.hid (show ∀ (Q : Nat → Prop) (v : Value) (w' : World), LPg Q w' v p → Tb w'.heap.size w' → Calls Tryz.prog 9 #[v] w' (fun e w'' => e = .returned (.string (bs t)) ∧ Below w'.heap.size w' w'') from by
        rw [hxp]
        exact fun Q v w' h1 h2 => show_prog p htp.okp (by rw [← hxp]; unfold big; omega) v w' h1 h2)
      obtain ⟨PL, hPL⟩ : ∃ PL, (bs t).size ≤ 4096 → parA (bs t) = .ok (p, PL) := by
        by_cases h : (bs t).size ≤ 4096
        · obtain ⟨us, _, _, _, _, hpar, _⟩ := tp_lex htp h
          exact ⟨_, fun _ => hpar⟩
        · exact ⟨[], fun h' => absurd h' h⟩
      have HTL := Lib.hid hPL
      clear hxp htp hPL HOK
      generalize bs t = T at *
      with_reducible refine (pparse_at s _ w1 HPAR.out).mono ?_
      rintro e w2 ⟨vp, rfl, hlp, hb2⟩
      rw [show pfl (.ok (p, l0)) = .agg #[.int .i64 0, .int .i64 0] from rfl]
      obtain ⟨pnm, pvl, pa1, pn1, pk1, pa2, pn2, pk2, pak, pxo, pxt, pxs, pxn, pxa, pxm, pxc, rfl⟩ := hlp.any
      have HLP2 := Lib.hid (show LPg (From w1.heap.size) w2 _ p from hlp)
      have HB2 := Lib.hid (HB1.out.trans (hb2.mono HB1.out.size))
      clear hlp hb2 HB1 htl
      go_upto_region 6 with (fail)
      obtain ⟨hbA, hPA, hFA, hs3⟩ := two_new w2 30 37 #[.string pnm, .int .i64 pvl, .slice pa1 pn1 pk1, .slice pa2 pn2 pk2, .int .i64 pak, .int .i64 pxo, .int .i64 pxt, .string pxs, .int .i64 pxn, .slice pxa pxm pxc] #[.int .i64 0, .int .i64 0]
      have HP3 := Lib.hid hPA
      have HLP3 := Lib.hid (HLP2.out.below hbA)
      have HB3 := Lib.hid (HB2.out.trans (hbA.mono HB2.out.size))
      obtain ⟨f0, f1, _, _⟩ := two_free hFA
      obtain ⟨⟨c0, c1, c2, c3, c4, c5, c6, c7, c8, c9⟩, _⟩ := ten_free hPA
      have hA3 : w2.heap.size < _ := hPA.lt
      clear hbA hPA hFA HLP2 HB2
      generalize (w2.alloc (.cells #[.string pnm, .int .i64 pvl, .slice pa1 pn1 pk1, .slice pa2 pn2 pk2, .int .i64 pak, .int .i64 pxo, .int .i64 pxt, .string pxs, .int .i64 pxn, .slice pxa pxm pxc] 30)).alloc (.cells #[.int .i64 0, .int .i64 0] 37) = w3 at *
      generalize w2.heap.size = A at *
      go_wp2_with fail
      clear c0 c1 c2 c3 c4 c5 c6 c7 c8 c9 f0 f1
      with_reducible refine (HSP.out _ _ w3 HLP3.out (HTB.out.from HB3.out HB3.out.size)).mono ?_
      rintro e w4 ⟨rfl, hb4⟩
      have HP4 := Lib.hid (HP3.out.live' hb4)
      have HLP4 := Lib.hid (HLP3.out.below hb4)
      have HB4 := Lib.hid (HB3.out.trans (hb4.mono HB3.out.size))
      have hs4 := hb4.size
      have hA4 : A < w4.heap.size := HP4.out.lt
      clear hb4 HP3 HLP3 HB3 hA3
      by_cases hsz : T.size ≤ 4096
      · have HPR := Lib.hid (HTL.out hsz)
        have d4 : decide ((4096 : Int) < (T.size : Int)) = false := by simp; omega
        have d4' : decide (4096 < T.size) = false := by simp; omega
        go_wp2_with fail
        with_reducible refine (pparse_at T _ w4 HPR.out).mono ?_
        rintro e w5 ⟨vq, rfl, hlq, hb5⟩
        rw [show pfl (.ok (p, PL)) = .agg #[.int .i64 0, .int .i64 0] from rfl]
        obtain ⟨qnm, qvl, qa1, qn1, qk1, qa2, qn2, qk2, qak, qxo, qxt, qxs, qxn, qxa, qxm, qxc, rfl⟩ := hlq.any
        have HLQ5 := Lib.hid hlq
        have HP5 := Lib.hid (HP4.out.live' hb5)
        have HLP5 := Lib.hid (HLP4.out.below hb5)
        have HB5 := Lib.hid (HB4.out.trans (hb5.mono HB4.out.size))
        clear hlq hb5 HP4 HLP4 HB4
        go_upto_region 10 with (fail)
        obtain ⟨hbA, hPA, hFA, hs6⟩ := two_new w5 30 37 #[.string qnm, .int .i64 qvl, .slice qa1 qn1 qk1, .slice qa2 qn2 qk2, .int .i64 qak, .int .i64 qxo, .int .i64 qxt, .string qxs, .int .i64 qxn, .slice qxa qxm qxc] #[.int .i64 0, .int .i64 0]
        have HP6 := Lib.hid (HP5.out.live' hbA)
        have HLP6 := Lib.hid (HLP5.out.below hbA)
        have HLQ6 := Lib.hid (HLQ5.out.below hbA)
        have HQ6 := Lib.hid hPA
        have HB6 := Lib.hid (HB5.out.trans (hbA.mono HB5.out.size))
        obtain ⟨⟨e0, e1, e2, e3, e4, e5, e6, e7, e8, e9⟩, _⟩ := ten_free hPA
        obtain ⟨f0, f1, _, _⟩ := two_free hFA
        obtain ⟨⟨c0, c1, c2, c3, c4, c5, c6, c7, c8, c9⟩, _⟩ := ten_free HP6.out
        clear hbA hPA hFA HP5 HLP5 HB5 HLQ5
        generalize (w5.alloc (.cells #[.string qnm, .int .i64 qvl, .slice qa1 qn1 qk1, .slice qa2 qn2 qk2, .int .i64 qak, .int .i64 qxo, .int .i64 qxt, .string qxs, .int .i64 qxn, .slice qxa qxm qxc] 30)).alloc (.cells #[.int .i64 0, .int .i64 0] 37) = w6 at *
        have heq := HEQ0.out
        go_wp2_with fail
        with_reducible refine (sameG p _ _ _ _ w6 HLP6.out HLQ6.out).mono ?_
        rintro e w7 ⟨rfl, hb7⟩
        have HQ7 := Lib.hid (HQ6.out.live' hb7)
        have HLQ7 := Lib.hid (HLQ6.out.below hb7)
        have HB7 := Lib.hid (HB6.out.trans (hb7.mono HB6.out.size))
        clear hb7 c0 c1 c2 c3 c4 c5 c6 c7 c8 c9 e0 e1 e2 e3 e4 e5 e6 e7 e8 e9 f0 f1 heq
        obtain ⟨⟨e0, e1, e2, e3, e4, e5, e6, e7, e8, e9⟩, _⟩ := ten_free HQ7.out
        go_wp2_with fail
        with_reducible refine (HSP.out _ _ w7 HLQ7.out (HTB.out.from HB7.out HB7.out.size)).mono ?_
        rintro e w8 ⟨rfl, hb8⟩
        go_wp2_with fail
        go_ret
        exact ⟨rfl, HB7.out.trans (hb8.mono HB7.out.size)⟩
      · have hpl := parA_long hsz
        have HPL := Lib.hid hpl
        have d4 : decide ((4096 : Int) < (T.size : Int)) = true := by simp; omega
        have d4' : decide (4096 < T.size) = true := by simp; omega
        clear hpl
        go_wp2_with fail
        with_reducible refine (pparse_at T _ w4 HPL.out).mono ?_
        rintro e w5 ⟨vq, rfl, hlq, hb5⟩
        rw [show pfl (.error (3, 0)) = .agg #[.int .i64 3, .int .i64 0] from rfl]
        obtain ⟨qnm, qvl, qa1, qn1, qk1, qa2, qn2, qk2, qak, qxo, qxt, qxs, qxn, qxa, qxm, qxc, rfl⟩ := hlq.any
        have HB5 := Lib.hid (HB4.out.trans (hb5.mono HB4.out.size))
        clear hlq hb5 HB4
        go_upto_region 10 with (fail)
        obtain ⟨hbA, hPA, hFA, hs6⟩ := two_new w5 30 37 #[.string qnm, .int .i64 qvl, .slice qa1 qn1 qk1, .slice qa2 qn2 qk2, .int .i64 qak, .int .i64 qxo, .int .i64 qxt, .string qxs, .int .i64 qxn, .slice qxa qxm qxc] #[.int .i64 3, .int .i64 0]
        have HB6 := Lib.hid (HB5.out.trans (hbA.mono HB5.out.size))
        obtain ⟨f0, f1, _, _⟩ := two_free hFA
        clear hbA hPA hFA HB5
        generalize (w5.alloc (.cells #[.string qnm, .int .i64 qvl, .slice qa1 qn1 qk1, .slice qa2 qn2 qk2, .int .i64 qak, .int .i64 qxo, .int .i64 qxt, .string qxs, .int .i64 qxn, .slice qxa qxm qxc] 30)).alloc (.cells #[.int .i64 3, .int .i64 0] 37) = w6 at *
        have heq := HEQ3.out
        go_wp2_with fail
        go_ret
        exact ⟨rfl, HB6.out⟩
    · have HPAR := Lib.hid hpar
      have HEN := Lib.hid hen
      have hne : ((en : Int) == 0) = false := by
        rcases HEN.out with rfl | rfl <;> rfl
      have hne' : ((en : Int) != 0) = true := by
        rcases HEN.out with rfl | rfl <;> rfl
      have hne'' : ¬ (en : Int) = 0 := by omega
      have p1 : decide ((0 : Int) ≤ (pl : Int)) = true := by simp
      have p2 : decide ((pl : Int) ≤ (s.size : Int)) = true := by simp; omega
      have p3 : decide (pl ≤ s.size) = true := by simp; omega
      clear hpar hen
      with_reducible refine (pparse_at s _ w1 HPAR.out).mono ?_
      rintro e w2 ⟨vp, rfl, hlp, hb2⟩
      rw [show pfl (.error (en, pl)) = .agg #[.int .i64 (en : Nat), .int .i64 (pl : Nat)] from rfl]
      obtain ⟨pnm, pvl, pa1, pn1, pk1, pa2, pn2, pk2, pak, pxo, pxt, pxs, pxn, pxa, pxm, pxc, rfl⟩ := hlp.any
      have HB2 := Lib.hid (HB1.out.trans (hb2.mono HB1.out.size))
      clear hlp hb2 HB1
      go_upto_region 6 with (fail)
      obtain ⟨hbA, hPA, hFA, hs3⟩ := two_new w2 30 37 #[.string pnm, .int .i64 pvl, .slice pa1 pn1 pk1, .slice pa2 pn2 pk2, .int .i64 pak, .int .i64 pxo, .int .i64 pxt, .string pxs, .int .i64 pxn, .slice pxa pxm pxc] #[.int .i64 (en : Nat), .int .i64 (pl : Nat)]
      have HB3 := Lib.hid (HB2.out.trans (hbA.mono HB2.out.size))
      obtain ⟨f0, f1, _, _⟩ := two_free hFA
      clear hbA hPA hFA HB2
      generalize (w2.alloc (.cells #[.string pnm, .int .i64 pvl, .slice pa1 pn1 pk1, .slice pa2 pn2 pk2, .int .i64 pak, .int .i64 pxo, .int .i64 pxt, .string pxs, .int .i64 pxn, .slice pxa pxm pxc] 30)).alloc (.cells #[.int .i64 (en : Nat), .int .i64 (pl : Nat)] 37) = w3 at *
      go_wp2_with fail
      go_ret
      exact ⟨rfl, HB3.out⟩
  · have d8 : decide ((1000 : Int) < (s.size : Int)) = true := by simp; omega
    have d8' : decide (1000 < s.size) = true := by simp; omega
    go_wp2_with fail
    go_ret
    exact ⟨rfl, HB1.out⟩
end Go.Proofs.YtgobcflfhabdhaaGreatDoor.Lx
namespace Go.Proofs.YtgobcflfhabdhaaGreatDoor
open Go.ChangeShapes Go.WideShapes Go.ChangeAt Go.RowKit

set_option maxRecDepth 100000 in
theorem showRead_lifted (os : Os) (started : os.Started) (H : Type) (enc : TypeId × Value → H) :
    ReturnsInHanded {} Tryz.checked os 4 .any (fun w args => (Rows.showReadSpec.pre enc Tryz.prog Tryz.f4 [] false w args ∧ laidMetH Tryz.prog Lx.laid3L w) ∧ sizedMet enc Tryz.prog Tryz.f4 (OpenSpec.ofChange Rows.showReadSpec) false w args)
      (Rows.showReadSpec.post enc Tryz.prog Tryz.f4 false true false false) := by
  refine returnsInHanded_of_change_and (C := Tryz.checked) (X := fun w _ => laidMetH Tryz.prog Lx.laid3L w) (fun _ _ _ hh h => h.of_heap hh) Lx.own started (by kernel_rfl) Tryz.func4
    (ChangeSpec.witness_shaped (enc := enc) (C := Tryz.checked) (os := os) (X := fun w _ => laidMetH Tryz.prog Lx.laid3L w) false (World.doorLaid Tryz.prog 400 os) #[.string ⟨#[]⟩] 8 rfl (World.shaped_of_RefB (by kernel_rfl) (by kernel_rfl)) (by kernel_rfl) (by kernel_rfl) (by kernel_rfl) (Lx.door3_met os _)) ?_
  intro W base args ds gs before hval0 hW _ hsz0 hL _
  have hval : ∀ (j : Nat) t v, Tryz.f4.params[j]? = some t → args[j]? = some v → Value.okWide Tryz.prog W .any base t v := hval0
  have hW' := hW
  obtain ⟨p, q, hA0, hV, rfl, hfz, hnd⟩ := hW
  have hA : DataW.TrodAll enc Tryz.prog W 0 (fun _ => true) true Tryz.f4.params.toList args.toList ds p := hA0
  rw [Tryz.params4] at hA hval
  obtain ⟨v0, vs0, d0, ds0, p0, q0, hargs, rfl, rfl, h0, r0⟩ := trodAll_cons hA
  obtain ⟨rfl, rfl, rfl⟩ := trodAll_nil r0
  obtain rfl : args = #[v0] := by cases args; simp_all
  obtain ⟨rfl, rfl⟩ := trodVars_none hV
  obtain ⟨s0, rfl, rfl, rfl, w0⟩ := Go.ChangeMaps.open_string Tryz.underlying9 (hval 0 9 v0 rfl rfl) h0
  have hT := Lx.tb_of_laid hL
  clear hA0 hval0
  refine (Lx.read8_law s0 W w0 hT).mono fun e W' ⟨he, bel⟩ => ?_
  subst he
  exact ⟨_, rfl, _, _, _, [], _, [], hW', trodAll_mk1 (shut_bool Tryz.underlying4 _), (trodAll_cons_mk (Go.ChangeMaps.shut_string Tryz.underlying9 w0) trodAll_mk0), rfl, bel.frame _, fun h => by cases h⟩

theorem showRead_row : Rows.ShowReadSaid :=
  OpenClaim.holds_of_wide 4 Tryz.f4 rfl rfl rfl rfl rfl rfl rfl ⟨rfl, rfl, rfl, rfl, rfl⟩ rfl rfl rfl rfl rfl (by kernel_rfl) Tryz.func4 (by kernel_rfl)
    (of_decide_eq_true (by kernel_rfl)) (by unfold Func.isWrapper; first | (rw [if_pos (by decide +kernel)]; kernel_rfl) | (rw [if_neg (by decide +kernel)]; exact ⟨rfl, rfl⟩))
    (fun os started H enc _ => showRead_lifted os started H enc)

theorem showRead_holds : Rows.ShowReadCardSaid :=
  Claim7.holds_tied_plain_at .later [] [.data, .data, .data] true (true, "db6cb718a49b90a129e6c6c9c486142552668b21b40b4605748ce9abae63bbc9") false
    showRead_row (fun _ h => by cases h) (by kernel_rfl) (fun _ h => by cases h) showRead_row_tie rfl ⟨rfl, rfl⟩ (by kernel_rfl) rfl
    (fun f fn hf hfn => by
      obtain rfl : f = 4 := Option.some.inj ((show Tryz.prog.funcNamed Rows.showReadRow.func = some 4 by kernel_rfl).symm.trans hf) |>.symm
      obtain rfl : fn = Tryz.f4 := (Option.some.inj (Tryz.func4.symm.trans hfn)).symm
      exact ⟨by kernel_rfl, fun j t ht => by
        rw [Tryz.params4] at ht
        rcases j with _ | j
        · obtain rfl : t = 9 := by simpa using ht.symm
          exact (show Tryz.prog.wantsStandIn 9 = false by kernel_rfl)
        · simp at ht⟩)
    (by kernel_rfl)
#print axioms showRead_holds
end Go.Proofs.YtgobcflfhabdhaaGreatDoor
