/-
  EvalMade's walk: for every input the call returns true.
-/
import Derived.Test.YtlgnagmmljdkiabEVMadeM
import Derived.Deep.DeepCutAuto
import Derived.Deep.CutBlock
import Derived.RegionTactic

namespace Go.Proofs.Ytlgnagmmljdkiab.Lx
open Go.RowKit
open P (EX MX ev ev2 plI jn evA askD askDs)
set_option maxRecDepth 100000
set_option linter.unusedVariables false
set_option linter.unusedSimpArgs false

/-- Names and values, each in a block of its own. -/
def TwoR (w : World) (r0 r1 : Nat) (s t : Value) (wx : World) : Prop := ∃ gn gi, s = .slice (some ⟨gn, 0, none⟩) 2 2 ∧ t = .slice (some ⟨gi, 0, none⟩) 2 2 ∧ Blk wx gn 9 #[.string ⟨#[97]⟩, .string ⟨#[98]⟩] ∧ Blk wx gi 3 #[.int .i64 (r0 : Nat), .int .i64 (r1 : Nat)] ∧ Below w.heap.size w wx
/-- What the walk keeps: names, values, two expressions in boxes. -/
structure EMS (W : World) (gn gi ax ay r0 r1 : Nat) (xo xm : Int) (xs : ByteArray) (xa : Option Addr) (xn xc : Nat) (yo ym : Int) (ys : ByteArray) (ya : Option Addr) (yn yc : Nat) (x y : EX) : Prop where
  names : Blk W gn 9 #[.string ⟨#[97]⟩, .string ⟨#[98]⟩]
  ints : Blk W gi 3 #[.int .i64 (r0 : Nat), .int .i64 (r1 : Nat)]
  bx : Blk W ax 47 #[.int .i64 xo, .int .i64 xm, .string xs, .slice xa xn xc]
  by' : Blk W ay 47 #[.int .i64 yo, .int .i64 ym, .string ys, .slice ya yn yc]
  lx : LX (fun _ => True) W (.agg #[.int .i64 xo, .int .i64 xm, .string xs, .slice xa xn xc]) x
  ly : LX (fun _ => True) W (.agg #[.int .i64 yo, .int .i64 ym, .string ys, .slice ya yn yc]) y
theorem EMS.below {W W' : World} {gn gi ax ay r0 r1 : Nat} {xo xm : Int} {xs : ByteArray} {xa : Option Addr} {xn xc : Nat} {yo ym : Int} {ys : ByteArray} {ya : Option Addr} {yn yc : Nat} {x y : EX} (h : EMS W gn gi ax ay r0 r1 xo xm xs xa xn xc yo ym ys ya yn yc x y) (hb : Below W.heap.size W W') : EMS W' gn gi ax ay r0 r1 xo xm xs xa xn xc yo ym ys ya yn yc x y :=
  ⟨h.names.live' hb, h.ints.live' hb, h.bx.live' hb, h.by'.live' hb, h.lx.low hb, h.ly.low hb⟩
theorem two_r1 (w1 : World) (r0 r1 : Nat) : TwoR w1 r0 r1 (.slice (some ⟨w1.heap.size, 0, none⟩) 2 2) (.slice (some ⟨w1.heap.size + 1, 0, none⟩) 2 2) ((w1.alloc (.cells #[.string ⟨#[97]⟩, .string ⟨#[98]⟩] 9)).alloc (.cells #[.int .i64 (r0 : Nat), .int .i64 (r1 : Nat)] 3)).drew := by
  obtain ⟨hb, h1, h2⟩ := two_newX w1 9 3 #[.string ⟨#[97]⟩, .string ⟨#[98]⟩] #[.int .i64 (r0 : Nat), .int .i64 (r1 : Nat)]
  exact ⟨_, _, rfl, rfl, h1, h2, hb.drew⟩
theorem two_r2 (w1 : World) (r0 r1 : Nat) : TwoR w1 r0 r1 (.slice (some ⟨w1.heap.size + 1, 0, none⟩) 2 2) (.slice (some ⟨w1.heap.size, 0, none⟩) 2 2) ((w1.alloc (.cells #[.int .i64 (r0 : Nat), .int .i64 (r1 : Nat)] 3)).alloc (.cells #[.string ⟨#[97]⟩, .string ⟨#[98]⟩] 9)).drew := by
  obtain ⟨hb, h1, h2⟩ := two_newX w1 3 9 #[.int .i64 (r0 : Nat), .int .i64 (r1 : Nat)] #[.string ⟨#[97]⟩, .string ⟨#[98]⟩]
  exact ⟨_, _, rfl, rfl, h2, h1, hb.drew⟩
theorem ems_call {W : World} {gn gi ax ay r0 r1 : Nat} {xo xm : Int} {xs : ByteArray} {xa : Option Addr} {xn xc : Nat} {yo ym : Int} {ys : ByteArray} {ya : Option Addr} {yn yc : Nat} {x y : EX} (h : EMS W gn gi ax ay r0 r1 xo xm xs xa xn xc yo ym ys ya yn yc x y) (hr0 : r0 < 256) (hr1 : r1 < 256) (n : Int) (e : EX) (v : Value) (p : Int) (hv : LX (fun _ => True) W v e) (hw : wfX e) (hp : evA ab [(r0 : Int), (r1 : Int)] n e = some p) :
    Calls Try.prog 17 #[v, .slice (some ⟨gn, 0, none⟩) 2 2, .slice (some ⟨gi, 0, none⟩) 2 2, .int .i64 n] W (fun e' w' => e' = .returned (.tuple #[.int .i64 p, .bool true]) ∧ Below W.heap.size W w') := by
  have hh := evalExpr_any (rv_ab h.names h.ints hr0 hr1) n e v hv hw
  rw [hp] at hh
  exact hh
theorem wf_pair {op : Int} (ho : 3 ≤ op ∧ op ≤ 6) {x y : EX} (hx : wfX x) (hy : wfX y) : wfX (.mk op 0 [] [x, y]) := ⟨w64_small (by omega) (by omega), w64_small (by omega) (by omega), by simp, hx, hy, trivial⟩
theorem only_low {w w' : World} {M B : Nat} (h : Only (· = M) w w') (hB : B ≤ M) (hBw : B ≤ w.heap.size) : Below B w w' := h.below hBw (fun k hk e => by omega)
set_option maxHeartbeats 12800000 in
theorem evalmade_walk (a : Option Addr) (len cap : Nat) (xs : List Nat) (a2 : Option Addr) (len2 cap2 : Nat) (xs2 : List Nat) (r0 r1 k : Nat) (w : World) (hx : IsBytes w a len xs) (hx2 : IsBytes w a2 len2 xs2) (hr0 : r0 < 256) (hr1 : r1 < 256) (hk : k < 256) :
    Calls Try.prog 8 #[.slice a len cap, .slice a2 len2 cap2, .agg #[.int .u8 (r0 : Nat), .int .u8 (r1 : Nat)], .int .u8 (k : Nat)] w fun e w' => e = .returned (.bool true) ∧ Below w.heap.size w w' := by
  have hl1 := hx.2.1
  have hl2 := hx2.2.1
  have HX := Lib.hid hx
  have HX2 := Lib.hid hx2
  have HB := Lib.hid (one_below w (.cells #[.int .u8 (r0 : Nat), .int .u8 (r1 : Nat)] 60))
  have HQ := Lib.hid (Blk.new w 60 #[.int .u8 (r0 : Nat), .int .u8 (r1 : Nat)])
  clear hx hx2
  go_enter Try.func8, Try.ntmps8
  go_wp2_with fail
  generalize hW : w.alloc (.cells #[.int .u8 (r0 : Nat), .int .u8 (r1 : Nat)] 60) = W at *
  clear hW
  with_reducible refine (begun10_any W).mono ?_
  rintro e w1 ⟨rfl, hb1⟩
  have HQ1 := Lib.hid (HQ.out.live' hb1)
  have HX1 := Lib.hid (HX.out.below (HB.out.trans (hb1.mono HB.out.size)))
  have HX21 := Lib.hid (HX2.out.below (HB.out.trans (hb1.mono HB.out.size)))
  have HB1 := Lib.hid (HB.out.trans (hb1.mono HB.out.size))
  clear hb1 HQ HX HX2 HB
  by_cases ha30 : 30 < len
  · have d1 : decide ((30 : Int) < (len : Int)) = true := decide_eq_true (by omega)
    have d2 : decide (30 < len) = true := decide_eq_true (by omega)
    go_wp2_with fail
    go_ret
    exact ⟨rfl, HB1.out⟩
  have d1 : decide ((30 : Int) < (len : Int)) = false := decide_eq_false (by omega)
  have d2 : decide (30 < len) = false := decide_eq_false (by omega)
  by_cases hb30 : 30 < len2
  · have d3 : decide ((30 : Int) < (len2 : Int)) = true := decide_eq_true (by omega)
    have d4 : decide (30 < len2) = true := decide_eq_true (by omega)
    go_wp2_with fail
    go_ret
    exact ⟨rfl, HB1.out⟩
  have d3 : decide ((30 : Int) < (len2 : Int)) = false := decide_eq_false (by omega)
  have d4 : decide (30 < len2) = false := decide_eq_false (by omega)
  have hR := Lib.hid (show ((k : Int) % 3 = ((k % 3 : Nat) : Int)) by omega)
  have hRb : k % 3 < 3 := by omega
  have m0 : (k : Int) % 3 = ((k % 3 : Nat) : Int) := hR.out
  generalize k % 3 = R at *
  obtain ⟨q0, q1⟩ := (show _ ∧ _ from ⟨HQ1.out.cell 0, HQ1.out.cell 1⟩)
  have q0' : w1.cell? ⟨w.heap.size, 0, none⟩ = some (.int .u8 (r0 : Nat)) := q0
  have q1' : w1.cell? ⟨w.heap.size, 1, none⟩ = some (.int .u8 (r1 : Nat)) := q1
  clear q0 q1
  have q0a : ∀ o, (w1.alloc o).cell? ⟨w.heap.size, 0, none⟩ = some (.int .u8 (r0 : Nat)) := fun o => (one_below w1 o).cell (p := ⟨w.heap.size, 0, none⟩) HQ1.out.lt |>.trans q0'
  have q1a : ∀ o, (w1.alloc o).cell? ⟨w.heap.size, 1, none⟩ = some (.int .u8 (r1 : Nat)) := fun o => (one_below w1 o).cell (p := ⟨w.heap.size, 1, none⟩) HQ1.out.lt |>.trans q1'
  go_upto_region 6 with (fail)
  go_cut [10, 11] (fun s t wx => TwoR w1 r0 r1 s t wx)
  case first =>
    go_region
    all_goals
      go_wp2_with fail
      go_meet
      case rel =>
        first
          | with_reducible exact two_r1 _ _ _
          | with_reducible exact two_r2 _ _ _
          | exact two_r1 _ _ _
          | exact two_r2 _ _ _
  case rest =>
    obtain ⟨gn, gi, rfl, rfl, hN, hI, hbc⟩ := hcut
    have hgn := hN.lt
    have hgi := hI.lt
    have HN := Lib.hid hN
    have HI := Lib.hid hI
    have HBc := Lib.hid (HB1.out.trans (hbc.mono HB1.out.size))
    have HXc := Lib.hid (HX1.out.below hbc)
    have HX2c := Lib.hid (HX21.out.below hbc)
    clear hN hI hbc q0' q1' q0a q1a HQ1 HX1 HX21 HB1
    go_wp2_with fail
    with_reducible refine (mkr_any a len cap xs wc HXc.out).mono ?_
    rintro e w2 ⟨M, rfl, hmk, hM, hb2⟩
    have HMK := Lib.hid hmk
    have HN2 := Lib.hid (HN.out.live' hb2)
    have HB2 := Lib.hid hb2
    have hs2 := hb2.size
    clear hmk hb2
    go_wp2_with fail
    with_reducible refine (mexpr_ab w2.heap.size M (2 + R) gn _ w2 (by omega) (by omega) (by omega) HMK.out HN2.out (by omega)).mono ?_
    rintro e w3 ⟨xo, xm, xs', xa, xn, xc, x, rfl, hlx, hmx, ho3⟩
    have HLX := Lib.hid hlx
    have HMX := Lib.hid hmx
    have HB3 := Lib.hid (HB2.out.trans (only_low ho3 hM hs2))
    have hs3 := ho3.size
    clear hlx hmx ho3 HMK HB2 HN2
    have HX23 := Lib.hid (HX2c.out.below HB3.out)
    go_wp2_with fail
    with_reducible refine (mkr_any a2 len2 cap2 xs2 w3 HX23.out).mono ?_
    rintro e w4 ⟨M2, rfl, hmk, hM2, hb4⟩
    have HMK := Lib.hid hmk
    have HN4 := Lib.hid ((HN.out.live' HB3.out).live' hb4)
    have HB4 := Lib.hid hb4
    have hs4 := hb4.size
    clear hmk hb4
    go_wp2_with fail
    with_reducible refine (mexpr_ab w4.heap.size M2 (2 + R) gn _ w4 (by omega) (by omega) (by omega) HMK.out HN4.out (by omega)).mono ?_
    rintro e w5 ⟨yo, ym, ys', ya, yn, yc, y, rfl, hly, hmy, ho5⟩
    have HLY := Lib.hid hly
    have HMY := Lib.hid hmy
    have HB35 := Lib.hid (HB4.out.trans (only_low ho5 hM2 hs4))
    have HB5 := Lib.hid (HB3.out.trans (HB35.out.mono (by omega)))
    have HLX5 := Lib.hid (HLX.out.low HB35.out)
    have HN5 := Lib.hid (HN.out.live' HB5.out)
    have HI5 := Lib.hid (HI.out.live' HB5.out)
    have HBw := Lib.hid (HBc.out.trans (HB5.out.mono HBc.out.size))
    have hs5 := ho5.size
    clear hly hmy ho5 HMK HB4 HB35 HN HI HN4 HX23 HX2c HXc HLX HB3 HB5 HBc
    go_upto_region 8 with (fail)
    obtain ⟨hb6, hbx, hby⟩ := two_newX w5 47 47 #[.int .i64 xo, .int .i64 xm, .string xs', .slice xa xn xc] #[.int .i64 yo, .int .i64 ym, .string ys', .slice ya yn yc]
    have HS := Lib.hid (show EMS _ gn gi w5.heap.size (w5.heap.size + 1) r0 r1 xo xm xs' xa xn xc yo ym ys' ya yn yc x y from ⟨HN5.out.live' hb6, HI5.out.live' hb6, hbx, hby, HLX5.out.low hb6, HLY.out.low hb6⟩)
    have HB6 := Lib.hid (HBw.out.trans (hb6.mono HBw.out.size))
    have hn : 2 ≤ 2 + (R : Int) ∧ 2 + (R : Int) ≤ 4 ∧ [(r0 : Int), (r1 : Int)].length = ab.length := ⟨by omega, by omega, rfl⟩
    obtain ⟨p, hp, hp0, hp1⟩ := made_some (vs := [(r0 : Int), (r1 : Int)]) hn HMX.out
    obtain ⟨q, hq, hq0, hq1⟩ := made_some (vs := [(r0 : Int), (r1 : Int)]) hn HMY.out
    have HP := Lib.hid hp
    have HQ := Lib.hid hq
    have hab : ∀ s ∈ ab, s.length ≤ 1000 := by
      intro s hs
      simp [ab] at hs
      rcases hs with rfl | rfl <;> simp
    have HWX := Lib.hid (made_wf (by omega) hab HMX.out)
    have HWY := Lib.hid (made_wf (by omega) hab HMY.out)
    have HN3 := Lib.hid hn
    have HP3 := Lib.hid (show evA ab [(r0 : Int), (r1 : Int)] (2 + (R : Int)) (.mk 3 0 [] [x, y]) = some (V.addI p q (2 + (R : Int))) from made_pair (by omega) hn HMX.out HMY.out hp hq)
    have HP4 := Lib.hid (show evA ab [(r0 : Int), (r1 : Int)] (2 + (R : Int)) (.mk 4 0 [] [x, y]) = some (V.subI p q (2 + (R : Int))) from made_pair (by omega) hn HMX.out HMY.out hp hq)
    have HP5 := Lib.hid (show evA ab [(r0 : Int), (r1 : Int)] (2 + (R : Int)) (.mk 5 0 [] [x, y]) = some (jn 5 p q (2 + (R : Int))) from made_pair (by omega) hn HMX.out HMY.out hp hq)
    have HP6 := Lib.hid (show evA ab [(r0 : Int), (r1 : Int)] (2 + (R : Int)) (.mk 6 0 [] [x, y]) = some (jn 6 p q (2 + (R : Int))) from made_pair (by omega) hn HMX.out HMY.out hp hq)
    have HP7 := Lib.hid (show evA ab [(r0 : Int), (r1 : Int)] (2 + (R : Int)) (.mk 6 0 [] [y, x]) = some (jn 6 q p (2 + (R : Int))) from made_pair (by omega) hn HMY.out HMX.out hq hp)
    have HBK := Lib.hid (back_is (q := q) ⟨hn.1, hn.2.1⟩ hp0 hp1)
    have HI64 := Lib.hid (show Wr.I64 p ∧ Wr.I64 q ∧ Wr.I64 (V.subI p q (2 + (R : Int))) from ⟨Wr.I64.mk (by omega) (by omega), Wr.I64.mk (by omega) (by omega), (by
      have := V.inI_in (p - q) (2 + (R : Int))
      have e : V.subI p q (2 + (R : Int)) = V.inI (p - q) (2 + (R : Int)) := rfl
      rw [e]
      exact Wr.I64.mk (by omega) (by omega))⟩)
    clear hp hq hn hab hb6 hbx hby HN5 HI5 HLX5 HLY HBw HMX HMY
    have hp1' : ¬ 2 + (R : Int) ≤ p := by omega
    have hq1' : ¬ 2 + (R : Int) ≤ q := by omega
    generalize hW7 : (w5.alloc (.cells #[.int .i64 xo, .int .i64 xm, .string xs', .slice xa xn xc] 47)).alloc (.cells #[.int .i64 yo, .int .i64 ym, .string ys', .slice ya yn yc] 47) = w7 at *
    clear hW7
    generalize w5.heap.size = ax at *
    obtain ⟨x0, x1, x2, x3, _, _, _, _⟩ := four_free HS.out.bx
    obtain ⟨y0, y1, y2, y3, _, _, _, _⟩ := four_free HS.out.by'
    have HA := Lib.hid (ems_call HS.out hr0 hr1 (2 + (R : Int)) x _ p HS.out.lx HWX.out HP.out)
    go_wp2_with fail
    with_reducible refine HA.out.mono ?_
    rintro e w8 ⟨rfl, hb8⟩
    have HS8 := Lib.hid (HS.out.below hb8)
    have HB8 := Lib.hid (HB6.out.trans (hb8.mono HB6.out.size))
    clear hb8 HA HS HB6 x0 x1 x2 x3 y0 y1 y2 y3
    obtain ⟨y0, y1, y2, y3, _, _, _, _⟩ := four_free HS8.out.by'
    have HA := Lib.hid (ems_call HS8.out hr0 hr1 (2 + (R : Int)) y _ q HS8.out.ly HWY.out HQ.out)
    go_wp2_with fail
    with_reducible refine HA.out.mono ?_
    rintro e w9 ⟨rfl, hb9⟩
    have HS9 := Lib.hid (HS8.out.below hb9)
    have HB9 := Lib.hid (HB8.out.trans (hb9.mono HB8.out.size))
    clear hb9 HA HS8 HB8 y0 y1 y2 y3
    obtain ⟨x0, x1, x2, x3, _, _, _, _⟩ := four_free HS9.out.bx
    obtain ⟨y0, y1, y2, y3, _, _, _, _⟩ := four_free HS9.out.by'
    have hK := Blk.new w9 47 #[.int .i64 xo, .int .i64 xm, .string xs', .slice xa xn xc, .int .i64 yo, .int .i64 ym, .string ys', .slice ya yn yc]
    have hb10 := one_below w9 (.cells #[.int .i64 xo, .int .i64 xm, .string xs', .slice xa xn xc, .int .i64 yo, .int .i64 ym, .string ys', .slice ya yn yc] 47)
    have HS10 := Lib.hid (HS9.out.below hb10)
    have HB10 := Lib.hid (HB9.out.trans (hb10.mono HB9.out.size))
    have HK := Lib.hid hK
    clear hK hb10
    go_upto_region 13 with (fail)
    generalize hW10 : w9.alloc (.cells #[.int .i64 xo, .int .i64 xm, .string xs', .slice xa xn xc, .int .i64 yo, .int .i64 ym, .string ys', .slice ya yn yc] 47) = w10 at *
    clear hW10 x0 x1 x2 x3 y0 y1 y2 y3 HS9 HB9
    generalize w9.heap.size = g2 at *
    clear hp1' hq1'
    have HC : Hid (      (p < q → jn 5 p q (2 + (R : Int)) = 0 ∧ jn 6 p q (2 + (R : Int)) = 1 ∧ jn 6 q p (2 + (R : Int)) = 0) ∧ (p = q → jn 5 p q (2 + (R : Int)) = 1 ∧ jn 6 p q (2 + (R : Int)) = 0 ∧ jn 6 q p (2 + (R : Int)) = 0) ∧ (q < p → jn 5 p q (2 + (R : Int)) = 0 ∧ jn 6 p q (2 + (R : Int)) = 0 ∧ jn 6 q p (2 + (R : Int)) = 1)) := Lib.hid ⟨fun h => ⟨by rw [jn_5, if_neg (by omega)], by rw [jn_6, if_pos h], by rw [jn_6, if_neg (by omega)]⟩, fun h => ⟨by rw [jn_5, if_pos h], by rw [jn_6, if_neg (by omega)], by rw [jn_6, if_neg (by omega)]⟩, fun h => ⟨by rw [jn_5, if_neg (by omega)], by rw [jn_6, if_neg (by omega)], by rw [jn_6, if_pos h]⟩⟩
    by_cases hc117 : p < q
    · obtain ⟨c5, c6, c7⟩ := HC.out.1 hc117
      rw [c5] at HP5
      rw [c6] at HP6
      rw [c7] at HP7
      have t1 : (p == q) = false := by simp <;> omega
      have t2 : decide (p < q) = true := by simp <;> omega
      clear c5 c6 c7 hc117
      have HA := Lib.hid (ems_call HS10.out hr0 hr1 (2 + (R : Int)) (.mk 3 0 [] [x, y]) (.agg #[.int .i64 3, .int .i64 0, .string ⟨#[]⟩, .slice (some ⟨g2, 0, none⟩) 2 2]) _ (lx_two (s := []) (o := 3) (m := 0) (c := 2) trivial HK.out HS10.out.lx HS10.out.ly) (wf_pair (by omega) HWX.out HWY.out) HP3.out)
      go_wp2_with fail
      with_reducible refine HA.out.mono ?_
      rintro e w11 ⟨rfl, hb11⟩
      have HK := Lib.hid (HK.out.live' hb11)
      have HS11 := Lib.hid (HS10.out.below hb11)
      have HB11 := Lib.hid (HB10.out.trans (hb11.mono HB10.out.size))
      clear hb11 HA HS10 HB10
      have HA := Lib.hid (ems_call HS11.out hr0 hr1 (2 + (R : Int)) (.mk 4 0 [] [x, y]) (.agg #[.int .i64 4, .int .i64 0, .string ⟨#[]⟩, .slice (some ⟨g2, 0, none⟩) 2 2]) _ (lx_two (s := []) (o := 4) (m := 0) (c := 2) trivial HK.out HS11.out.lx HS11.out.ly) (wf_pair (by omega) HWX.out HWY.out) HP4.out)
      go_wp2_with fail
      with_reducible refine HA.out.mono ?_
      rintro e w12 ⟨rfl, hb12⟩
      have HK := Lib.hid (HK.out.live' hb12)
      have HS12 := Lib.hid (HS11.out.below hb12)
      have HB12 := Lib.hid (HB11.out.trans (hb12.mono HB11.out.size))
      clear hb12 HA HS11 HB11
      have HA := Lib.hid (ems_call HS12.out hr0 hr1 (2 + (R : Int)) (.mk 5 0 [] [x, y]) (.agg #[.int .i64 5, .int .i64 0, .string ⟨#[]⟩, .slice (some ⟨g2, 0, none⟩) 2 2]) _ (lx_two (s := []) (o := 5) (m := 0) (c := 2) trivial HK.out HS12.out.lx HS12.out.ly) (wf_pair (by omega) HWX.out HWY.out) HP5.out)
      go_wp2_with fail
      with_reducible refine HA.out.mono ?_
      rintro e w13 ⟨rfl, hb13⟩
      have HK := Lib.hid (HK.out.live' hb13)
      have HS13 := Lib.hid (HS12.out.below hb13)
      have HB13 := Lib.hid (HB12.out.trans (hb13.mono HB12.out.size))
      clear hb13 HA HS12 HB12
      have HA := Lib.hid (ems_call HS13.out hr0 hr1 (2 + (R : Int)) (.mk 6 0 [] [x, y]) (.agg #[.int .i64 6, .int .i64 0, .string ⟨#[]⟩, .slice (some ⟨g2, 0, none⟩) 2 2]) _ (lx_two (s := []) (o := 6) (m := 0) (c := 2) trivial HK.out HS13.out.lx HS13.out.ly) (wf_pair (by omega) HWX.out HWY.out) HP6.out)
      go_wp2_with fail
      with_reducible refine HA.out.mono ?_
      rintro e w14 ⟨rfl, hb14⟩
      have HK := Lib.hid (HK.out.live' hb14)
      have HS14 := Lib.hid (HS13.out.below hb14)
      have HB14 := Lib.hid (HB13.out.trans (hb14.mono HB13.out.size))
      clear hb14 HA HS13 HB13
      obtain ⟨x0, x1, x2, x3, _, _, _, _⟩ := four_free HS14.out.bx
      obtain ⟨y0, y1, y2, y3, _, _, _, _⟩ := four_free HS14.out.by'
      have hK := Blk.new w14 47 #[.int .i64 yo, .int .i64 ym, .string ys', .slice ya yn yc, .int .i64 xo, .int .i64 xm, .string xs', .slice xa xn xc]
      have hb15 := one_below w14 (.cells #[.int .i64 yo, .int .i64 ym, .string ys', .slice ya yn yc, .int .i64 xo, .int .i64 xm, .string xs', .slice xa xn xc] 47)
      have HS15 := Lib.hid (HS14.out.below hb15)
      have HB15 := Lib.hid (HB14.out.trans (hb15.mono HB14.out.size))
      have HA := Lib.hid (ems_call HS15.out hr0 hr1 (2 + (R : Int)) (.mk 6 0 [] [y, x]) (.agg #[.int .i64 6, .int .i64 0, .string ⟨#[]⟩, .slice (some ⟨w14.heap.size, 0, none⟩) 2 2]) _ (lx_two (s := []) (o := 6) (m := 0) (c := 2) trivial hK HS15.out.ly HS15.out.lx) (wf_pair (by omega) HWY.out HWX.out) HP7.out)
      clear hK hb15
      go_wp2_with fail
      with_reducible refine HA.out.mono ?_
      rintro e w16 ⟨rfl, hb16⟩
      have HB16 := Lib.hid (HB15.out.trans (hb16.mono HB15.out.size))
      clear hb16 HA HS14 HS15 HB14 HB15 x0 x1 x2 x3 y0 y1 y2 y3
      go_wp2_with fail
      with_reducible refine (Wr.add_any _ _ _ _ HI64.out.2.2 HI64.out.2.1).mono ?_
      rintro e w17 ⟨rfl, rfl⟩
      rw [HBK.out]
      go_wp2_with fail
      with_reducible refine (Wr.add_any _ _ _ _ HI64.out.1 HI64.out.2.1).mono ?_
      rintro e w17 ⟨rfl, rfl⟩
      go_wp2_with fail
      go_ret
      exact ⟨rfl, HB16.out⟩
    by_cases hc623 : p = q
    · obtain ⟨c5, c6, c7⟩ := HC.out.2.1 hc623
      rw [c5] at HP5
      rw [c6] at HP6
      rw [c7] at HP7
      have t1 : (p == q) = true := by simp <;> omega
      have t2 : decide (p < q) = false := by simp <;> omega
      clear c5 c6 c7 hc623
      have HA := Lib.hid (ems_call HS10.out hr0 hr1 (2 + (R : Int)) (.mk 3 0 [] [x, y]) (.agg #[.int .i64 3, .int .i64 0, .string ⟨#[]⟩, .slice (some ⟨g2, 0, none⟩) 2 2]) _ (lx_two (s := []) (o := 3) (m := 0) (c := 2) trivial HK.out HS10.out.lx HS10.out.ly) (wf_pair (by omega) HWX.out HWY.out) HP3.out)
      go_wp2_with fail
      with_reducible refine HA.out.mono ?_
      rintro e w11 ⟨rfl, hb11⟩
      have HK := Lib.hid (HK.out.live' hb11)
      have HS11 := Lib.hid (HS10.out.below hb11)
      have HB11 := Lib.hid (HB10.out.trans (hb11.mono HB10.out.size))
      clear hb11 HA HS10 HB10
      have HA := Lib.hid (ems_call HS11.out hr0 hr1 (2 + (R : Int)) (.mk 4 0 [] [x, y]) (.agg #[.int .i64 4, .int .i64 0, .string ⟨#[]⟩, .slice (some ⟨g2, 0, none⟩) 2 2]) _ (lx_two (s := []) (o := 4) (m := 0) (c := 2) trivial HK.out HS11.out.lx HS11.out.ly) (wf_pair (by omega) HWX.out HWY.out) HP4.out)
      go_wp2_with fail
      with_reducible refine HA.out.mono ?_
      rintro e w12 ⟨rfl, hb12⟩
      have HK := Lib.hid (HK.out.live' hb12)
      have HS12 := Lib.hid (HS11.out.below hb12)
      have HB12 := Lib.hid (HB11.out.trans (hb12.mono HB11.out.size))
      clear hb12 HA HS11 HB11
      have HA := Lib.hid (ems_call HS12.out hr0 hr1 (2 + (R : Int)) (.mk 5 0 [] [x, y]) (.agg #[.int .i64 5, .int .i64 0, .string ⟨#[]⟩, .slice (some ⟨g2, 0, none⟩) 2 2]) _ (lx_two (s := []) (o := 5) (m := 0) (c := 2) trivial HK.out HS12.out.lx HS12.out.ly) (wf_pair (by omega) HWX.out HWY.out) HP5.out)
      go_wp2_with fail
      with_reducible refine HA.out.mono ?_
      rintro e w13 ⟨rfl, hb13⟩
      have HK := Lib.hid (HK.out.live' hb13)
      have HS13 := Lib.hid (HS12.out.below hb13)
      have HB13 := Lib.hid (HB12.out.trans (hb13.mono HB12.out.size))
      clear hb13 HA HS12 HB12
      have HA := Lib.hid (ems_call HS13.out hr0 hr1 (2 + (R : Int)) (.mk 6 0 [] [x, y]) (.agg #[.int .i64 6, .int .i64 0, .string ⟨#[]⟩, .slice (some ⟨g2, 0, none⟩) 2 2]) _ (lx_two (s := []) (o := 6) (m := 0) (c := 2) trivial HK.out HS13.out.lx HS13.out.ly) (wf_pair (by omega) HWX.out HWY.out) HP6.out)
      go_wp2_with fail
      with_reducible refine HA.out.mono ?_
      rintro e w14 ⟨rfl, hb14⟩
      have HK := Lib.hid (HK.out.live' hb14)
      have HS14 := Lib.hid (HS13.out.below hb14)
      have HB14 := Lib.hid (HB13.out.trans (hb14.mono HB13.out.size))
      clear hb14 HA HS13 HB13
      obtain ⟨x0, x1, x2, x3, _, _, _, _⟩ := four_free HS14.out.bx
      obtain ⟨y0, y1, y2, y3, _, _, _, _⟩ := four_free HS14.out.by'
      have hK := Blk.new w14 47 #[.int .i64 yo, .int .i64 ym, .string ys', .slice ya yn yc, .int .i64 xo, .int .i64 xm, .string xs', .slice xa xn xc]
      have hb15 := one_below w14 (.cells #[.int .i64 yo, .int .i64 ym, .string ys', .slice ya yn yc, .int .i64 xo, .int .i64 xm, .string xs', .slice xa xn xc] 47)
      have HS15 := Lib.hid (HS14.out.below hb15)
      have HB15 := Lib.hid (HB14.out.trans (hb15.mono HB14.out.size))
      have HA := Lib.hid (ems_call HS15.out hr0 hr1 (2 + (R : Int)) (.mk 6 0 [] [y, x]) (.agg #[.int .i64 6, .int .i64 0, .string ⟨#[]⟩, .slice (some ⟨w14.heap.size, 0, none⟩) 2 2]) _ (lx_two (s := []) (o := 6) (m := 0) (c := 2) trivial hK HS15.out.ly HS15.out.lx) (wf_pair (by omega) HWY.out HWX.out) HP7.out)
      clear hK hb15
      go_wp2_with fail
      with_reducible refine HA.out.mono ?_
      rintro e w16 ⟨rfl, hb16⟩
      have HB16 := Lib.hid (HB15.out.trans (hb16.mono HB15.out.size))
      clear hb16 HA HS14 HS15 HB14 HB15 x0 x1 x2 x3 y0 y1 y2 y3
      go_wp2_with fail
      with_reducible refine (Wr.add_any _ _ _ _ HI64.out.2.2 HI64.out.2.1).mono ?_
      rintro e w17 ⟨rfl, rfl⟩
      rw [HBK.out]
      go_wp2_with fail
      with_reducible refine (Wr.add_any _ _ _ _ HI64.out.1 HI64.out.2.1).mono ?_
      rintro e w17 ⟨rfl, rfl⟩
      go_wp2_with fail
      go_ret
      exact ⟨rfl, HB16.out⟩
    by_cases hc532 : q < p
    · obtain ⟨c5, c6, c7⟩ := HC.out.2.2 hc532
      rw [c5] at HP5
      rw [c6] at HP6
      rw [c7] at HP7
      have t1 : (p == q) = false := by simp <;> omega
      have t2 : decide (p < q) = false := by simp <;> omega
      clear c5 c6 c7 hc532
      have HA := Lib.hid (ems_call HS10.out hr0 hr1 (2 + (R : Int)) (.mk 3 0 [] [x, y]) (.agg #[.int .i64 3, .int .i64 0, .string ⟨#[]⟩, .slice (some ⟨g2, 0, none⟩) 2 2]) _ (lx_two (s := []) (o := 3) (m := 0) (c := 2) trivial HK.out HS10.out.lx HS10.out.ly) (wf_pair (by omega) HWX.out HWY.out) HP3.out)
      go_wp2_with fail
      with_reducible refine HA.out.mono ?_
      rintro e w11 ⟨rfl, hb11⟩
      have HK := Lib.hid (HK.out.live' hb11)
      have HS11 := Lib.hid (HS10.out.below hb11)
      have HB11 := Lib.hid (HB10.out.trans (hb11.mono HB10.out.size))
      clear hb11 HA HS10 HB10
      have HA := Lib.hid (ems_call HS11.out hr0 hr1 (2 + (R : Int)) (.mk 4 0 [] [x, y]) (.agg #[.int .i64 4, .int .i64 0, .string ⟨#[]⟩, .slice (some ⟨g2, 0, none⟩) 2 2]) _ (lx_two (s := []) (o := 4) (m := 0) (c := 2) trivial HK.out HS11.out.lx HS11.out.ly) (wf_pair (by omega) HWX.out HWY.out) HP4.out)
      go_wp2_with fail
      with_reducible refine HA.out.mono ?_
      rintro e w12 ⟨rfl, hb12⟩
      have HK := Lib.hid (HK.out.live' hb12)
      have HS12 := Lib.hid (HS11.out.below hb12)
      have HB12 := Lib.hid (HB11.out.trans (hb12.mono HB11.out.size))
      clear hb12 HA HS11 HB11
      have HA := Lib.hid (ems_call HS12.out hr0 hr1 (2 + (R : Int)) (.mk 5 0 [] [x, y]) (.agg #[.int .i64 5, .int .i64 0, .string ⟨#[]⟩, .slice (some ⟨g2, 0, none⟩) 2 2]) _ (lx_two (s := []) (o := 5) (m := 0) (c := 2) trivial HK.out HS12.out.lx HS12.out.ly) (wf_pair (by omega) HWX.out HWY.out) HP5.out)
      go_wp2_with fail
      with_reducible refine HA.out.mono ?_
      rintro e w13 ⟨rfl, hb13⟩
      have HK := Lib.hid (HK.out.live' hb13)
      have HS13 := Lib.hid (HS12.out.below hb13)
      have HB13 := Lib.hid (HB12.out.trans (hb13.mono HB12.out.size))
      clear hb13 HA HS12 HB12
      have HA := Lib.hid (ems_call HS13.out hr0 hr1 (2 + (R : Int)) (.mk 6 0 [] [x, y]) (.agg #[.int .i64 6, .int .i64 0, .string ⟨#[]⟩, .slice (some ⟨g2, 0, none⟩) 2 2]) _ (lx_two (s := []) (o := 6) (m := 0) (c := 2) trivial HK.out HS13.out.lx HS13.out.ly) (wf_pair (by omega) HWX.out HWY.out) HP6.out)
      go_wp2_with fail
      with_reducible refine HA.out.mono ?_
      rintro e w14 ⟨rfl, hb14⟩
      have HK := Lib.hid (HK.out.live' hb14)
      have HS14 := Lib.hid (HS13.out.below hb14)
      have HB14 := Lib.hid (HB13.out.trans (hb14.mono HB13.out.size))
      clear hb14 HA HS13 HB13
      obtain ⟨x0, x1, x2, x3, _, _, _, _⟩ := four_free HS14.out.bx
      obtain ⟨y0, y1, y2, y3, _, _, _, _⟩ := four_free HS14.out.by'
      have hK := Blk.new w14 47 #[.int .i64 yo, .int .i64 ym, .string ys', .slice ya yn yc, .int .i64 xo, .int .i64 xm, .string xs', .slice xa xn xc]
      have hb15 := one_below w14 (.cells #[.int .i64 yo, .int .i64 ym, .string ys', .slice ya yn yc, .int .i64 xo, .int .i64 xm, .string xs', .slice xa xn xc] 47)
      have HS15 := Lib.hid (HS14.out.below hb15)
      have HB15 := Lib.hid (HB14.out.trans (hb15.mono HB14.out.size))
      have HA := Lib.hid (ems_call HS15.out hr0 hr1 (2 + (R : Int)) (.mk 6 0 [] [y, x]) (.agg #[.int .i64 6, .int .i64 0, .string ⟨#[]⟩, .slice (some ⟨w14.heap.size, 0, none⟩) 2 2]) _ (lx_two (s := []) (o := 6) (m := 0) (c := 2) trivial hK HS15.out.ly HS15.out.lx) (wf_pair (by omega) HWY.out HWX.out) HP7.out)
      clear hK hb15
      go_wp2_with fail
      with_reducible refine HA.out.mono ?_
      rintro e w16 ⟨rfl, hb16⟩
      have HB16 := Lib.hid (HB15.out.trans (hb16.mono HB15.out.size))
      clear hb16 HA HS14 HS15 HB14 HB15 x0 x1 x2 x3 y0 y1 y2 y3
      go_wp2_with fail
      with_reducible refine (Wr.add_any _ _ _ _ HI64.out.2.2 HI64.out.2.1).mono ?_
      rintro e w17 ⟨rfl, rfl⟩
      rw [HBK.out]
      go_wp2_with fail
      with_reducible refine (Wr.add_any _ _ _ _ HI64.out.1 HI64.out.2.1).mono ?_
      rintro e w17 ⟨rfl, rfl⟩
      go_wp2_with fail
      go_ret
      exact ⟨rfl, HB16.out⟩
    omega
end Go.Proofs.Ytlgnagmmljdkiab.Lx
