/-
  EvalFirst's walk: for every input the call returns true.
-/
import Derived.Test.YtlgnagmmljdkiacEVMadeM

namespace Go.Proofs.Ytlgnagmmljdkiac.Lx
open Go.RowKit
open P (EX MX ev ev2 plI jn evA askD askDs)
set_option maxRecDepth 100000
set_option linter.unusedVariables false
set_option linter.unusedSimpArgs false

def caba : List (List UInt8) := [[99], [97], [98], [97]]
theorem first_same {r0 r1 r2 r3 : Int} {d : Nat} {e : EX} (h : MX 4 ab d e) : ∀ m, ev caba [r2, r0, r1, r3] 4 m e = ev ab [r0, r1] 4 m e := by
  induction h with
  | @num d k hk =>
    intro m
    cases m <;> rfl
  | @reg d s hs =>
    intro m
    cases m with
    | zero => rfl
    | succ m =>
      rw [P.ev_reg, P.ev_reg]
      simp [ab] at hs
      rcases hs with rfl | rfl
      · rfl
      · rfl
  | @bin d op s a b hs ha hb iha ihb =>
    intro m
    cases m with
    | zero => rfl
    | succ m =>
      rw [P.ev_two (sign_op hs), P.ev_two (sign_op hs)]
      unfold P.ev2
      rw [iha, ihb]
theorem nms_caba {w : World} {g : Nat} {t : TypeId} (h : Blk w g t #[.string ⟨#[99]⟩, .string ⟨#[97]⟩, .string ⟨#[98]⟩, .string ⟨#[97]⟩]) : Nms (fun _ => True) w (.slice (some ⟨g, 0, none⟩) 4 4) caba := by
  refine ⟨_, 4, rfl, .inr ⟨g, 0, rfl, trivial, fun i hi => ?_⟩⟩
  have hi2 : i < 4 := hi
  obtain rfl | rfl | rfl | rfl : i = 0 ∨ i = 1 ∨ i = 2 ∨ i = 3 := by omega
  · exact h.cell 0
  · exact h.cell 1
  · exact h.cell 2
  · exact h.cell 3
theorem rv_caba {w : World} {g g' : Nat} {t t' : TypeId} {r0 r1 r2 r3 : Nat} (h : Blk w g t #[.string ⟨#[99]⟩, .string ⟨#[97]⟩, .string ⟨#[98]⟩, .string ⟨#[97]⟩]) (h' : Blk w g' t' #[.int .i64 (r2 : Nat), .int .i64 (r0 : Nat), .int .i64 (r1 : Nat), .int .i64 (r3 : Nat)]) (h0 : r0 < 256) (h1 : r1 < 256) (h2 : r2 < 256) (h3 : r3 < 256) : RvIn w (some ⟨g, 0, none⟩) (some ⟨g', 0, none⟩) 4 4 caba [(r2 : Int), (r0 : Int), (r1 : Int), (r3 : Int)] := by
  refine ⟨nms_caba h, ⟨_, 4, rfl, .inr ⟨g', 0, rfl, trivial, fun i hi => ?_⟩⟩, by decide, by simp, fun i => ?_⟩
  · have hi2 : i < 4 := hi
    obtain rfl | rfl | rfl | rfl : i = 0 ∨ i = 1 ∨ i = 2 ∨ i = 3 := by omega
    · exact h'.cell 0
    · exact h'.cell 1
    · exact h'.cell 2
    · exact h'.cell 3
  · rcases i with _ | _ | _ | _ | i
    · exact w64_small (by simp) (by simp; omega)
    · exact w64_small (by simp) (by simp; omega)
    · exact w64_small (by simp) (by simp; omega)
    · exact w64_small (by simp) (by simp; omega)
    · exact w64_small (by simp) (by simp)
theorem rv_less {w : World} {g g' : Nat} {t t' : TypeId} {r : Nat} (h : Blk w g t #[.string ⟨#[97]⟩, .string ⟨#[98]⟩]) (h' : Blk w g' t' #[.int .i64 (r : Nat)]) (hr : r < 256) : RvIn w (some ⟨g, 0, none⟩) (some ⟨g', 0, none⟩) 2 1 ab [(r : Int)] := by
  refine ⟨(nms_ab h).mono (fun _ _ _ => trivial), ⟨_, 1, rfl, .inr ⟨g', 0, rfl, trivial, fun i hi => ?_⟩⟩, by decide, by simp, fun i => ?_⟩
  · obtain rfl : i = 0 := by simp at hi; omega
    exact h'.cell 0
  · rcases i with _ | i
    · exact w64_small (by simp) (by simp; omega)
    · exact w64_small (by simp) (by simp)
/-- What the walk keeps: four bytes, an expression in a box. -/
structure EFS (W : World) (br be r0 r1 r2 r3 : Nat) (xo xm : Int) (xs : ByteArray) (xa : Option Addr) (xn xc : Nat) (x : EX) : Prop where
  br : Blk W br 23 #[.int .u8 (r0 : Nat), .int .u8 (r1 : Nat), .int .u8 (r2 : Nat), .int .u8 (r3 : Nat)]
  bx : Blk W be 27 #[.int .i64 xo, .int .i64 xm, .string xs, .slice xa xn xc]
  lx : LX (fun _ => True) W (.agg #[.int .i64 xo, .int .i64 xm, .string xs, .slice xa xn xc]) x
theorem EFS.below {W W' : World} {br be r0 r1 r2 r3 : Nat} {xo xm : Int} {xs : ByteArray} {xa : Option Addr} {xn xc : Nat} {x : EX} (h : EFS W br be r0 r1 r2 r3 xo xm xs xa xn xc x) (hb : Below W.heap.size W W') : EFS W' br be r0 r1 r2 r3 xo xm xs xa xn xc x := ⟨h.br.live' hb, h.bx.live' hb, h.lx.low hb⟩
theorem ef_call {W : World} {g g' c c' l l' : Nat} {rs : List (List UInt8)} {vs : List Int} (h : RvIn W (some ⟨g, 0, none⟩) (some ⟨g', 0, none⟩) c c' rs vs) (hl : l = rs.length) (hl' : l' = vs.length) (n : Int) (e : EX) (v : Value) (o : Option Int) (hv : LX (fun _ => True) W v e) (hw : wfX e) (ho : evA rs vs n e = o) :
    Calls Try.prog 7 #[v, .slice (some ⟨g, 0, none⟩) l c, .slice (some ⟨g', 0, none⟩) l' c', .int .i64 n] W (fun e' w' => e' = .returned (evR o) ∧ Below W.heap.size W w') := by
  subst hl hl'
  have hh := evalExpr_any h n e v hv hw
  rw [ho] at hh
  exact hh
theorem only_lowF {w w' : World} {M B : Nat} (h : Only (· = M) w w') (hB : B ≤ M) (hBw : B ≤ w.heap.size) : Below B w w' := h.below hBw (fun k hk e => by omega)
set_option maxHeartbeats 12800000 in
theorem evalfirst_walk (a : Option Addr) (len cap : Nat) (xs : List Nat) (r0 r1 r2 r3 : Nat) (w : World) (hx : IsBytes w a len xs) (hr0 : r0 < 256) (hr1 : r1 < 256) (hr2 : r2 < 256) (hr3 : r3 < 256) :
    Calls Try.prog 3 #[.slice a len cap, .agg #[.int .u8 (r0 : Nat), .int .u8 (r1 : Nat), .int .u8 (r2 : Nat), .int .u8 (r3 : Nat)]] w fun e w' => e = .returned (.bool true) ∧ Below w.heap.size w w' := by
  have hl1 := hx.2.1
  have HX := Lib.hid hx
  have HB := Lib.hid (one_below w (.cells #[.int .u8 (r0 : Nat), .int .u8 (r1 : Nat), .int .u8 (r2 : Nat), .int .u8 (r3 : Nat)] 23))
  have HQ := Lib.hid (Blk.new w 23 #[.int .u8 (r0 : Nat), .int .u8 (r1 : Nat), .int .u8 (r2 : Nat), .int .u8 (r3 : Nat)])
  clear hx
  go_enter Try.func3, Try.ntmps3
  go_wp2_with fail
  generalize hW : w.alloc (.cells #[.int .u8 (r0 : Nat), .int .u8 (r1 : Nat), .int .u8 (r2 : Nat), .int .u8 (r3 : Nat)] 23) = W at *
  clear hW
  with_reducible refine (begun10_any W).mono ?_
  rintro e w1 ⟨rfl, hb1⟩
  have HQ1 := Lib.hid (HQ.out.live' hb1)
  have HX1 := Lib.hid (HX.out.below (HB.out.trans (hb1.mono HB.out.size)))
  have HB1 := Lib.hid (HB.out.trans (hb1.mono HB.out.size))
  have hQl := HQ1.out.lt
  clear hb1 HQ HX HB
  by_cases ha30 : 30 < len
  · have d1 : decide ((30 : Int) < (len : Int)) = true := decide_eq_true (by omega)
    have d2 : decide (30 < len) = true := decide_eq_true (by omega)
    go_wp2_with fail
    go_ret
    exact ⟨rfl, HB1.out⟩
  have d1 : decide ((30 : Int) < (len : Int)) = false := decide_eq_false (by omega)
  have d2 : decide (30 < len) = false := decide_eq_false (by omega)
  go_wp2_with fail
  with_reducible refine (mkr_any a len cap xs w1 HX1.out).mono ?_
  rintro e w2 ⟨M, rfl, hmk, hM, hb2⟩
  have hMl := hmk.le.1
  have hs2 := hb2.size
  have hb3 := one_below w2 (.cells #[.string ⟨#[97]⟩, .string ⟨#[98]⟩] 9)
  have HMK := Lib.hid (hmk.below hb3)
  have HNM := Lib.hid (Blk.new w2 9 #[.string ⟨#[97]⟩, .string ⟨#[98]⟩])
  have HB3 := Lib.hid (hb2.trans (hb3.mono hs2))
  have hs3 := hb3.size
  have HA := Lib.hid (mexpr_ab _ M 4 w2.heap.size 4 (w2.alloc (.cells #[.string ⟨#[97]⟩, .string ⟨#[98]⟩] 9)) (by omega) (by omega) rfl HMK.out HNM.out (by omega))
  clear hmk hb2 hb3 HMK HNM HX1
  go_wp2_with fail
  with_reducible refine HA.out.mono ?_
  rintro e w4 ⟨xo, xm, xs', xa, xn, xc, x, rfl, hlx, hmx, ho4⟩
  have HMX := Lib.hid hmx
  have hb4 := only_lowF ho4 (B := w1.heap.size) hM (by omega)
  have HB4 := Lib.hid (HB3.out.trans hb4)
  have hb5 := one_below w4 (.cells #[.int .i64 xo, .int .i64 xm, .string xs', .slice xa xn xc] 27)
  have hBX := Blk.new w4 27 #[.int .i64 xo, .int .i64 xm, .string xs', .slice xa xn xc]
  have HS := Lib.hid (show EFS _ w.heap.size w4.heap.size r0 r1 r2 r3 xo xm xs' xa xn xc x from ⟨(HQ1.out.live' HB4.out).live' hb5, hBX, hlx.low hb5⟩)
  have HB5 := Lib.hid (HB1.out.trans ((HB4.out.trans (hb5.mono HB4.out.size)).mono HB1.out.size))
  have hab : ∀ s ∈ ab, s.length ≤ 1000 := by
    intro s hs
    simp [ab] at hs
    rcases hs with rfl | rfl <;> simp
  have HWX := Lib.hid (made_wf (by omega) hab HMX.out)
  obtain ⟨p, hp, _, _⟩ := made_some (vs := [(r0 : Int), (r1 : Int)]) (n := 4) ⟨by omega, by omega, rfl⟩ HMX.out
  have HP1 := Lib.hid hp
  have HP2 := Lib.hid (show evA caba [(r2 : Int), (r0 : Int), (r1 : Int), (r3 : Int)] 4 x = some p by
    rw [evA_yes _ ⟨by omega, by omega, rfl⟩] at hp ⊢
    rw [first_same HMX.out]
    exact hp)
  have HP3 := Lib.hid (show evA ab [(r0 : Int)] 4 x = none from evA_no _ (by rintro ⟨_, _, h⟩; cases h))
  clear hlx hmx ho4 hb4 hb5 hBX hab hp HA HQ1 HB1 HB3 HB4
  go_upto_region 6 with (fail)
  generalize hW5 : w4.alloc (.cells #[.int .i64 xo, .int .i64 xm, .string xs', .slice xa xn xc] 27) = w5 at *
  clear hW5
  generalize w4.heap.size = be at *

  obtain ⟨s0, s1, s2, s3, _, _, _, _⟩ := four_free HS.out.bx
  obtain ⟨q0, q1, q2, q3, _, _, _, _⟩ := four_free HS.out.br
  obtain ⟨hb, hn, hi⟩ := two_newX w5 9 3 #[.string ⟨#[97]⟩, .string ⟨#[98]⟩] #[.int .i64 (r0 : Nat), .int .i64 (r1 : Nat)]
  have HA := Lib.hid (ef_call (l := 2) (l' := 2) (rv_ab hn hi hr0 hr1) rfl rfl 4 x _ (some p) (HS.out.below hb).lx HWX.out HP1.out)
  have HSn := Lib.hid (HS.out.below hb)
  have HBn := Lib.hid (HB5.out.trans (hb.mono HB5.out.size))
  have q0' : ∀ o, (w5.alloc o).cell? ⟨w.heap.size, 0, none⟩ = some (.int .u8 (r0 : Nat)) := fun o => (one_below w5 o).cell (p := ⟨w.heap.size, 0, none⟩) HS.out.br.lt |>.trans q0
  have q1' : ∀ o, (w5.alloc o).cell? ⟨w.heap.size, 1, none⟩ = some (.int .u8 (r1 : Nat)) := fun o => (one_below w5 o).cell (p := ⟨w.heap.size, 1, none⟩) HS.out.br.lt |>.trans q1
  have q2' : ∀ o, (w5.alloc o).cell? ⟨w.heap.size, 2, none⟩ = some (.int .u8 (r2 : Nat)) := fun o => (one_below w5 o).cell (p := ⟨w.heap.size, 2, none⟩) HS.out.br.lt |>.trans q2
  have q3' : ∀ o, (w5.alloc o).cell? ⟨w.heap.size, 3, none⟩ = some (.int .u8 (r3 : Nat)) := fun o => (one_below w5 o).cell (p := ⟨w.heap.size, 3, none⟩) HS.out.br.lt |>.trans q3
  unfold evR at HA
  clear hb hn hi
  go_wp2_with fail
  with_reducible refine HA.out.mono ?_
  rintro e w6 ⟨rfl, hb⟩
  clear s0 s1 s2 s3 q0 q1 q2 q3 q0' q1' q2' q3' HS HB5 HA
  have HS := Lib.hid (HSn.out.below hb)
  have HB5 := Lib.hid (HBn.out.trans (hb.mono HBn.out.size))
  clear hb HSn HBn
  obtain ⟨s0, s1, s2, s3, _, _, _, _⟩ := four_free HS.out.bx
  obtain ⟨q0, q1, q2, q3, _, _, _, _⟩ := four_free HS.out.br
  obtain ⟨hb, hn, hi⟩ := two_newX w6 9 3 #[.string ⟨#[99]⟩, .string ⟨#[97]⟩, .string ⟨#[98]⟩, .string ⟨#[97]⟩] #[.int .i64 (r2 : Nat), .int .i64 (r0 : Nat), .int .i64 (r1 : Nat), .int .i64 (r3 : Nat)]
  have HA := Lib.hid (ef_call (l := 4) (l' := 4) (rv_caba hn hi hr0 hr1 hr2 hr3) rfl rfl 4 x _ (some p) (HS.out.below hb).lx HWX.out HP2.out)
  have HSn := Lib.hid (HS.out.below hb)
  have HBn := Lib.hid (HB5.out.trans (hb.mono HB5.out.size))
  have q0' : ∀ o, (w6.alloc o).cell? ⟨w.heap.size, 0, none⟩ = some (.int .u8 (r0 : Nat)) := fun o => (one_below w6 o).cell (p := ⟨w.heap.size, 0, none⟩) HS.out.br.lt |>.trans q0
  have q1' : ∀ o, (w6.alloc o).cell? ⟨w.heap.size, 1, none⟩ = some (.int .u8 (r1 : Nat)) := fun o => (one_below w6 o).cell (p := ⟨w.heap.size, 1, none⟩) HS.out.br.lt |>.trans q1
  have q2' : ∀ o, (w6.alloc o).cell? ⟨w.heap.size, 2, none⟩ = some (.int .u8 (r2 : Nat)) := fun o => (one_below w6 o).cell (p := ⟨w.heap.size, 2, none⟩) HS.out.br.lt |>.trans q2
  have q3' : ∀ o, (w6.alloc o).cell? ⟨w.heap.size, 3, none⟩ = some (.int .u8 (r3 : Nat)) := fun o => (one_below w6 o).cell (p := ⟨w.heap.size, 3, none⟩) HS.out.br.lt |>.trans q3
  unfold evR at HA
  clear hb hn hi
  go_wp2_with fail
  with_reducible refine HA.out.mono ?_
  rintro e w7 ⟨rfl, hb⟩
  clear s0 s1 s2 s3 q0 q1 q2 q3 q0' q1' q2' q3' HS HB5 HA
  have HS := Lib.hid (HSn.out.below hb)
  have HB5 := Lib.hid (HBn.out.trans (hb.mono HBn.out.size))
  clear hb HSn HBn
  obtain ⟨s0, s1, s2, s3, _, _, _, _⟩ := four_free HS.out.bx
  obtain ⟨q0, q1, q2, q3, _, _, _, _⟩ := four_free HS.out.br
  obtain ⟨hb, hn, hi⟩ := two_newX w7 9 3 #[.string ⟨#[97]⟩, .string ⟨#[98]⟩] #[.int .i64 (r0 : Nat)]
  have HA := Lib.hid (ef_call (l := 2) (l' := 1) (rv_less hn hi hr0) rfl rfl 4 x _ (none) (HS.out.below hb).lx HWX.out HP3.out)
  have HSn := Lib.hid (HS.out.below hb)
  have HBn := Lib.hid (HB5.out.trans (hb.mono HB5.out.size))
  have q0' : ∀ o, (w7.alloc o).cell? ⟨w.heap.size, 0, none⟩ = some (.int .u8 (r0 : Nat)) := fun o => (one_below w7 o).cell (p := ⟨w.heap.size, 0, none⟩) HS.out.br.lt |>.trans q0
  have q1' : ∀ o, (w7.alloc o).cell? ⟨w.heap.size, 1, none⟩ = some (.int .u8 (r1 : Nat)) := fun o => (one_below w7 o).cell (p := ⟨w.heap.size, 1, none⟩) HS.out.br.lt |>.trans q1
  have q2' : ∀ o, (w7.alloc o).cell? ⟨w.heap.size, 2, none⟩ = some (.int .u8 (r2 : Nat)) := fun o => (one_below w7 o).cell (p := ⟨w.heap.size, 2, none⟩) HS.out.br.lt |>.trans q2
  have q3' : ∀ o, (w7.alloc o).cell? ⟨w.heap.size, 3, none⟩ = some (.int .u8 (r3 : Nat)) := fun o => (one_below w7 o).cell (p := ⟨w.heap.size, 3, none⟩) HS.out.br.lt |>.trans q3
  unfold evR at HA
  clear hb hn hi
  go_wp2_with fail
  with_reducible refine HA.out.mono ?_
  rintro e w8 ⟨rfl, hb⟩
  clear s0 s1 s2 s3 q0 q1 q2 q3 q0' q1' q2' q3' HS HB5 HA
  have HS := Lib.hid (HSn.out.below hb)
  have HB5 := Lib.hid (HBn.out.trans (hb.mono HBn.out.size))
  clear hb HSn HBn
  go_wp2_with fail
  go_ret
  exact ⟨rfl, HB5.out⟩
end Go.Proofs.Ytlgnagmmljdkiac.Lx
