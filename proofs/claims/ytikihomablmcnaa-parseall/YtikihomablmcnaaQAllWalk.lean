/-
  ParseAll: its walk.
-/
import Derived.Test.YtikihomablmcnaaQParse
import Derived.Test.YtikihomablmcnaaQSame
import Derived.Test.YtikihomablmcnaaQBegun
namespace Go.Proofs.Ytikihomablmcnaa.Lx
open Go.RowKit
open L (Tok)
open P (EX CO ST PG)
set_option maxRecDepth 100000
set_option linter.unusedVariables false
set_option linter.unusedSimpArgs false
set_option maxHeartbeats 6400000 in
theorem all7_law (s : ByteArray) (w : World) (hs : s.size ≤ maxLen) : Calls Try.prog 3 #[.string s] w (fun e w' => e = .returned (.bool true) ∧ Below w.heap.size w w') := by
  unfold maxLen at hs
  have HP := Lib.hid (fun w => parse_any s w)
  have HL := Lib.hid (fun w => places_any s w)
  have HR := Lib.hid (fun w => rparse_any s w)
  generalize parA s = o at *
  obtain ⟨fa, fb, hpf⟩ := pfl_two o
  have HPF := Lib.hid hpf
  have heq := eqFlt_self fa fb
  have HEQ := Lib.hid heq
  clear hpf heq
  go_enter Try.func3, Try.ntmps3
  go_wp2_with fail
  with_reducible refine (begun7_any _).mono ?_
  rintro e w1 ⟨rfl, hb1⟩
  by_cases h5 : s.size ≤ 5000
  · have d5 : decide ((5000 : Int) < (s.size : Int)) = false := by simp; omega
    have d5' : decide (5000 < s.size) = false := by simp; omega
    go_wp2_with fail
    clear d5 d5'
    have hcall := HP.out w1
    with_reducible refine hcall.mono ?_
    rintro e w2 ⟨vp, rfl, hlp, hb2⟩
    clear hcall
    obtain ⟨pnm, pvl, pa1, pn1, pk1, pa2, pn2, pk2, pak, pxo, pxt, pxs, pxn, pxa, pxm, pxc, rfl⟩ := hlp.any
    rw [HPF.out]
    have HB2 := Lib.hid (hb1.trans (hb2.mono hb1.size))
    have HLP2 := Lib.hid hlp
    clear hb1 hb2 hlp
    go_wp2_with fail
    have hbA : Below w2.heap.size w2 ((w2.alloc (.cells #[.string pnm, .int .i64 pvl, .slice pa1 pn1 pk1, .slice pa2 pn2 pk2, .int .i64 pak, .int .i64 pxo, .int .i64 pxt, .string pxs, .int .i64 pxn, .slice pxa pxm pxc] 29)).alloc (.cells #[.int .i64 fa, .int .i64 fb] 32)) := ((Below.refl _ _).alloc (Nat.le_refl _) _).alloc (by simp) _
    have HP3 := Lib.hid ((Blk.new w2 29 #[.string pnm, .int .i64 pvl, .slice pa1 pn1 pk1, .slice pa2 pn2 pk2, .int .i64 pak, .int .i64 pxo, .int .i64 pxt, .string pxs, .int .i64 pxn, .slice pxa pxm pxc]).alloc (.cells #[.int .i64 fa, .int .i64 fb] 32))
    have hF0 := Blk.new (w2.alloc (.cells #[.string pnm, .int .i64 pvl, .slice pa1 pn1 pk1, .slice pa2 pn2 pk2, .int .i64 pak, .int .i64 pxo, .int .i64 pxt, .string pxs, .int .i64 pxn, .slice pxa pxm pxc] 29)) 32 #[.int .i64 fa, .int .i64 fb]
    rw [show (w2.alloc (.cells #[.string pnm, .int .i64 pvl, .slice pa1 pn1 pk1, .slice pa2 pn2 pk2, .int .i64 pak, .int .i64 pxo, .int .i64 pxt, .string pxs, .int .i64 pxn, .slice pxa pxm pxc] 29)).heap.size = w2.heap.size + 1 by simp] at hF0
    have HF3 := Lib.hid hF0
    have HLP3 := Lib.hid (HLP2.out.below hbA)
    have HB3 := Lib.hid (HB2.out.trans (hbA.mono HB2.out.size))
    have hs3 : w2.heap.size + 1 < ((w2.alloc (.cells #[.string pnm, .int .i64 pvl, .slice pa1 pn1 pk1, .slice pa2 pn2 pk2, .int .i64 pak, .int .i64 pxo, .int .i64 pxt, .string pxs, .int .i64 pxn, .slice pxa pxm pxc] 29)).alloc (.cells #[.int .i64 fa, .int .i64 fb] 32)).heap.size := HF3.out.lt
    clear hbA hF0 HLP2 HB2
    generalize ((w2.alloc (.cells #[.string pnm, .int .i64 pvl, .slice pa1 pn1 pk1, .slice pa2 pn2 pk2, .int .i64 pak, .int .i64 pxo, .int .i64 pxt, .string pxs, .int .i64 pxn, .slice pxa pxm pxc] 29)).alloc (.cells #[.int .i64 fa, .int .i64 fb] 32)) = w3 at *
    have hcall := HL.out w3
    with_reducible refine hcall.mono ?_
    rintro e w4 ⟨vl, rfl, hown, hb4⟩
    clear hcall
    rw [HPF.out]
    obtain ⟨la, lc, rfl⟩ := slice_of_own hown
    have HOW4 := Lib.hid hown
    have HP4 := Lib.hid (HP3.out.live' hb4)
    have HF4 := Lib.hid (HF3.out.live' hb4)
    have HLP4 := Lib.hid (HLP3.out.below hb4)
    have HB4 := Lib.hid (HB3.out.trans (hb4.mono HB3.out.size))
    have hs4 := hb4.size
    clear hown hb4 HP3 HF3 HLP3 HB3
    go_wp2_with fail
    have hbA : Below w4.heap.size w4 (w4.alloc (.cells #[.int .i64 fa, .int .i64 fb] 32)) := (Below.refl _ _).alloc (Nat.le_refl _) _
    have HG5 := Lib.hid (Blk.new w4 32 #[.int .i64 fa, .int .i64 fb])
    have HP5 := Lib.hid (HP4.out.live' hbA)
    have HF5 := Lib.hid (HF4.out.live' hbA)
    have HLP5 := Lib.hid (HLP4.out.below hbA)
    have HOW5 := Lib.hid (own_below HOW4.out hbA)
    have HB5 := Lib.hid (HB4.out.trans (hbA.mono HB4.out.size))
    have hs5 : w4.heap.size < (w4.alloc (.cells #[.int .i64 fa, .int .i64 fb] 32)).heap.size := HG5.out.lt
    clear hbA HP4 HF4 HLP4 HOW4 HB4
    generalize (w4.alloc (.cells #[.int .i64 fa, .int .i64 fb] 32)) = w5 at *
    have hcall := HR.out w5
    with_reducible refine hcall.mono ?_
    rintro e w6 ⟨vq, vm, rfl, hlq, hown, hb6⟩
    clear hcall
    rw [HPF.out]
    obtain ⟨qnm, qvl, qa1, qn1, qk1, qa2, qn2, qk2, qak, qxo, qxt, qxs, qxn, qxa, qxm, qxc, rfl⟩ := hlq.any
    obtain ⟨ma, mc, rfl⟩ := slice_of_own hown
    have HLQ6 := Lib.hid hlq
    have HOM6 := Lib.hid hown
    have HP6 := Lib.hid (HP5.out.live' hb6)
    have HF6 := Lib.hid (HF5.out.live' hb6)
    have HG6 := Lib.hid (HG5.out.live' hb6)
    have HLP6 := Lib.hid (HLP5.out.below hb6)
    have HOW6 := Lib.hid (own_below HOW5.out hb6)
    have HB6 := Lib.hid (HB5.out.trans (hb6.mono HB5.out.size))
    have hs6 := hb6.size
    clear hlq hown hb6 HP5 HF5 HG5 HLP5 HOW5 HB5
    go_upto_region 8 with (fail)
    have hbA : Below w6.heap.size w6 ((w6.alloc (.cells #[.string qnm, .int .i64 qvl, .slice qa1 qn1 qk1, .slice qa2 qn2 qk2, .int .i64 qak, .int .i64 qxo, .int .i64 qxt, .string qxs, .int .i64 qxn, .slice qxa qxm qxc] 29)).alloc (.cells #[.int .i64 fa, .int .i64 fb] 32)) := ((Below.refl _ _).alloc (Nat.le_refl _) _).alloc (by simp) _
    have HQ7 := Lib.hid ((Blk.new w6 29 #[.string qnm, .int .i64 qvl, .slice qa1 qn1 qk1, .slice qa2 qn2 qk2, .int .i64 qak, .int .i64 qxo, .int .i64 qxt, .string qxs, .int .i64 qxn, .slice qxa qxm qxc]).alloc (.cells #[.int .i64 fa, .int .i64 fb] 32))
    have hF0 := Blk.new (w6.alloc (.cells #[.string qnm, .int .i64 qvl, .slice qa1 qn1 qk1, .slice qa2 qn2 qk2, .int .i64 qak, .int .i64 qxo, .int .i64 qxt, .string qxs, .int .i64 qxn, .slice qxa qxm qxc] 29)) 32 #[.int .i64 fa, .int .i64 fb]
    rw [show (w6.alloc (.cells #[.string qnm, .int .i64 qvl, .slice qa1 qn1 qk1, .slice qa2 qn2 qk2, .int .i64 qak, .int .i64 qxo, .int .i64 qxt, .string qxs, .int .i64 qxn, .slice qxa qxm qxc] 29)).heap.size = w6.heap.size + 1 by simp] at hF0
    have HH7 := Lib.hid hF0
    have HP7 := Lib.hid (HP6.out.live' hbA)
    have HF7 := Lib.hid (HF6.out.live' hbA)
    have HG7 := Lib.hid (HG6.out.live' hbA)
    have HLP7 := Lib.hid (HLP6.out.below hbA)
    have HLQ7 := Lib.hid (HLQ6.out.below hbA)
    have HOW7 := Lib.hid (own_below HOW6.out hbA)
    have HOM7 := Lib.hid (own_below HOM6.out hbA)
    have HB7 := Lib.hid (HB6.out.trans (hbA.mono HB6.out.size))
    have hs7 : w6.heap.size + 1 < ((w6.alloc (.cells #[.string qnm, .int .i64 qvl, .slice qa1 qn1 qk1, .slice qa2 qn2 qk2, .int .i64 qak, .int .i64 qxo, .int .i64 qxt, .string qxs, .int .i64 qxn, .slice qxa qxm qxc] 29)).alloc (.cells #[.int .i64 fa, .int .i64 fb] 32)).heap.size := HH7.out.lt
    clear hbA hF0 HP6 HF6 HG6 HLP6 HLQ6 HOW6 HOM6 HB6
    generalize ((w6.alloc (.cells #[.string qnm, .int .i64 qvl, .slice qa1 qn1 qk1, .slice qa2 qn2 qk2, .int .i64 qak, .int .i64 qxo, .int .i64 qxt, .string qxs, .int .i64 qxn, .slice qxa qxm qxc] 29)).alloc (.cells #[.int .i64 fa, .int .i64 fb] 32)) = w7 at *
    obtain ⟨⟨c0, c1, c2, c3, c4, c5, c6, c7, c8, c9⟩, _⟩ := ten_free HP7.out
    obtain ⟨⟨e0, e1, e2, e3, e4, e5, e6, e7, e8, e9⟩, _⟩ := ten_free HQ7.out
    go_wp2_with fail
    have hcall := sameG (ppg o) _ _ _ _ w7 HLP7.out HLQ7.out
    with_reducible refine hcall.mono ?_
    rintro e w8 ⟨rfl, hb8⟩
    clear hcall c0 c1 c2 c3 c4 c5 c6 c7 c8 c9 e0 e1 e2 e3 e4 e5 e6 e7 e8 e9
    obtain ⟨f0, f1, _, _⟩ := two_free (HF7.out.live' hb8)
    obtain ⟨g0, g1, _, _⟩ := two_free (HG7.out.live' hb8)
    obtain ⟨h0, h1, _, _⟩ := two_free (HH7.out.live' hb8)
    have HOW8 := Lib.hid (own_below HOW7.out hb8)
    have HOM8 := Lib.hid (own_below HOM7.out hb8)
    have HB8 := Lib.hid (HB7.out.trans (hb8.mono HB7.out.size))
    have heq := HEQ.out
    clear hb8 HP7 HQ7 HF7 HG7 HH7 HLP7 HLQ7 HOW7 HOM7 HB7
    go_wp2_with fail
    with_reducible refine (sameP _ _ _ _ (ppl o) _ HOW8.out HOM8.out).mono ?_
    rintro e w9 ⟨rfl, nq, rfl⟩
    go_wp2_with fail
    go_ret
    exact ⟨rfl, below_drewN HB8.out nq⟩
  · have d5 : decide ((5000 : Int) < (s.size : Int)) = true := by simp; omega
    have d5' : decide (5000 < s.size) = true := by simp; omega
    go_wp2_with fail
    go_ret
    exact ⟨rfl, hb1⟩
end Go.Proofs.Ytikihomablmcnaa.Lx
