/-
  ShowKids is proved: for every input the call returns true, and the arguments read afterwards as before. Its condition: the library's three tables start as the program's text lays them (the card ties them).
  The program of one thread that ShowKids reads: plain words. It proves nothing of Go by itself.
-/
import Derived.Test.YtgobcflfhabdhaaGreatDoorSHB
import Derived.Test.YtgobcflfhabdhaaGreatDoorMMD
import Derived.Test.YtgobcflfhabdhaaGreatDoorLBytes
import Derived.Deep.RegionHeld3
import Derived.Test.YtgobcflfhabdhaaGreatDoorSHFrame
namespace Go.Proofs.YtgobcflfhabdhaaGreatDoor.P
open L (Tok)
set_option maxRecDepth 100000
set_option linter.unusedVariables false
set_option linter.unusedSimpArgs false
/-- Whatever text has tokens of these bodies is read as that program, also if its last token stands at its end. -/
theorem TP.ends {p : PG} {t : List UInt8} {b : List Bo} {q1 q2 q3 : List Nat} (h : TP p t b q1 q2 q3) {a : List UInt8} (ha : Ea a b) : ∃ ts l, L.lexL 0 a = .ok ts ∧ pProg ts = .ok (p, l) := by
  obtain ⟨ts, h1, h2⟩ := ha
  have h3 := h1 0 [] rfl
  rw [List.append_nil, L.lex_nil] at h3
  exact ⟨_, _, h3, prog_reads h.sp ⟨ts 0, rfl, h2 0⟩ rfl⟩
/-- That program. -/
def pgK (e : EX) : PG := ⟨[97], 4, [], [[.mk 1 0 [114] [] [e] [] []]], 1, .mk 1 0 [120] 0 []⟩
def preK : List UInt8 := [108, 105, 116, 109, 117, 115, 32, 97, 32, 118, 97, 108, 117, 101, 115, 32, 52, 32, 116, 104, 114, 101, 97, 100, 32, 123, 32, 114, 32, 61, 32]
def sufK : List UInt8 := [59, 32, 125, 32, 101, 120, 105, 115, 116, 115, 32, 120, 32, 61, 61, 32, 48]
theorem na_one (b : UInt8) (h1 : L.letB b = true) (h2 : Lx.kwB [b] = false) : Na [b] := na_of ⟨b, [], rfl, h1, fun c hc => by cases hc⟩ h2
theorem kid_reads {e : EX} {t : List UInt8} {b : List Bo} (h : TX e t b) (hl : t.length ≤ 4000) : ∃ l, Lx.parA (Lx.bs (preK ++ (t ++ sufK))) = .ok (pgK e, l) := by
  have hp : TP (pgK e) _ _ _ _ _ := .mk (v := 4) (k := 1) (na_one 97 (by decide) (by decide)) (by decide) .nil (.cons (.cons (.set (na_one 114 (by decide) (by decide)) h) .nil) .nil) (.inl rfl) (.mem (n := 0) (na_one 120 (by decide) (by decide)) (by decide))
  have d4 : L.decL 4 = [52] := L.dec_small (by decide)
  have d0 : L.decL 0 = [48] := L.dec_small (by decide)
  have n4 : Ea [52] [nu 4] := by rw [← d4]; exact ea_num (by decide)
  have n0 : Ea [48] [nu 0] := by rw [← d0]; exact ea_num (by decide)
  have w (s : List UInt8) (hs : (match s with | [] => false | b :: r => L.letB b && r.all L.alnB) = true) : Un (s ++ [32]) [wd s] := un_word (wo_of hs)
  have sg1 (c : UInt8) (hc : L.signB c = true) (hn : c ≠ 61) : Un [c, 32] [sg [c]] := (un_sign hc hn).app un_sp
  have hA : Un preK [wd [108, 105, 116, 109, 117, 115], wd [97], wd [118, 97, 108, 117, 101, 115], nu 4, wd [116, 104, 114, 101, 97, 100], sg [123], wd [114], sg [61]] :=
    (w [108, 105, 116, 109, 117, 115] (by decide)).app ((w [97] (by decide)).app ((w [118, 97, 108, 117, 101, 115] (by decide)).app ((n4.un un_sp (front_cons (by decide))).app ((w [116, 104, 114, 101, 97, 100] (by decide)).app ((sg1 123 (by decide) (by decide)).app ((w [114] (by decide)).app un_set))))))
  have hC : Ea sufK [sg [59], sg [125], wd [101, 120, 105, 115, 116, 115], wd [120], sg [61, 61], nu 0] :=
    (sg1 59 (by decide) (by decide)).then ((sg1 125 (by decide) (by decide)).then ((w [101, 120, 105, 115, 116, 115] (by decide)).then ((w [120] (by decide)).then ((un_two.app un_sp).then n0))))
  have ha := hA.then (h.ea.app hC (front_cons (by decide)))
  have hb : Ea (preK ++ (t ++ sufK)) _ := ha
  obtain ⟨ts, l, h1, h2⟩ := hp.ends (a := preK ++ (t ++ sufK)) (by simpa [sh, askW] using ha)
  exact ⟨l, Lx.parA_of (by rw [Lx.bs_size]; simp [preK, sufK]; omega) (by rw [Lx.by_bs]; exact h1) h2⟩
end Go.Proofs.YtgobcflfhabdhaaGreatDoor.P
/-
  ShowKids: its walk. What stands within stands in the text, between brackets of its own.
-/
namespace Go.Proofs.YtgobcflfhabdhaaGreatDoor.Lx
open Go.RowKit
open L (Tok)
open P (EX CO ST PG TP TX Bo MX)
set_option maxRecDepth 100000
set_option linter.unusedVariables false
set_option linter.unusedSimpArgs false
def sgnT : Nat → List UInt8
  | 0 => [43]
  | 1 => [45]
  | 2 => [61, 61]
  | _ => [60]
theorem sgn_is (r : Nat) (h : r < 4) : P.Sign2 (3 + (r : Int)) (sgnT r) := by
  match r, h with
  | 0, _ => exact .plus
  | 1, _ => exact .minus
  | 2, _ => exact .eq
  | 3, _ => exact .less
  | n + 4, h => exact absurd h (by omega)
theorem mexpr_43 (B M : Nat) (Q : Nat → Prop) (vr : Value) (w : World) (h : Mk B w M) (hn : Nms Q w vr [[97], [98]]) (hq : ∀ g, Q g → g ≠ M) :
    Calls Tryz.prog 12 #[.pointer (some ⟨M, 0, none⟩), vr, .int .i64 4, .int .i64 3] w (MxTo B M 4 [[97], [98]] 3 w) :=
  mexpr_at B M 4 (by omega) (by omega) 3 3 rfl [[97], [98]] Q vr w (by omega) h hn hq (by decide)
theorem ones_ab : P.Ones [[97], [98]] := by
  intro s hs
  simp only [List.mem_cons, List.not_mem_nil, or_false] at hs
  rcases hs with rfl | rfl
  · exact ⟨P.na_one 97 (by decide) (by decide), rfl⟩
  · exact ⟨P.na_one 98 (by decide) (by decide), rfl⟩
theorem nms_ab {w : World} {g : Nat} {t : TypeId} (h : Blk w g t #[.string ⟨#[97]⟩, .string ⟨#[98]⟩]) : Nms (· = g) w (.slice (some ⟨g, 0, none⟩) 2 2) [[97], [98]] := by
  refine ⟨_, 2, rfl, .inr ⟨g, 0, rfl, rfl, fun i hi => ?_⟩⟩
  match i, hi with
  | 0, _ => exact h.cell 0
  | 1, _ => exact h.cell 1
  | n + 2, hi => exact absurd hi (by simp)
theorem cell_live {w w' : World} (hb : Below w.heap.size w w') {p : Addr} {v : Value} (h : w.cell? p = some v) : w'.cell? p = some v := (hb.cell (World.block_lt_of_cell? w p h)).trans h
theorem tx_ne {e : EX} {t : List UInt8} {b : List Bo} (h : TX e t b) : t ≠ [] := by
  cases h with
  | num hn => exact L.dec_ne _
  | reg hk =>
    obtain ⟨_, c, r, rfl, _⟩ := hk
    simp
  | bin h ha hb => simp
theorem lpk {Q : Nat → Prop} {w : World} {v : Value} {e : EX} (h : LPg Q w v (P.pgK e)) : ∃ (s0 : ByteArray) (ai : Option Addr) (ni ki gt ot kt gs os ks ga oa ka : Nat) (xo xt : Int) (xs : ByteArray) (xn : Int) (xa : Option Addr) (xm xc : Nat) (a0 a1 a2 a3 : Value), v = .agg #[.string s0, .int .i64 4, .slice ai ni ki, .slice (some ⟨gt, ot, none⟩) 1 kt, .int .i64 1, .int .i64 xo, .int .i64 xt, .string xs, .int .i64 xn, .slice xa xm xc] ∧
    w.cell? ⟨gt, ot, none⟩ = some (.slice (some ⟨gs, os, none⟩) 1 ks) ∧ w.cell? ⟨gs, os + 4, none⟩ = some (.slice (some ⟨ga, oa, none⟩) 1 ka) ∧ w.cell? ⟨ga, oa, none⟩ = some a0 ∧ w.cell? ⟨ga, oa + 1, none⟩ = some a1 ∧ w.cell? ⟨ga, oa + 2, none⟩ = some a2 ∧ w.cell? ⟨ga, oa + 3, none⟩ = some a3 ∧ LX Q w (.agg #[a0, a1, a2, a3]) e := by
  obtain ⟨vi, vt, o, t, s, n, a, m, c, rfl, ⟨a1, c1, rfl, _, _⟩, ⟨a2, c2, rfl, _, hr⟩, hc⟩ := h
  rcases hr with hr | ⟨gt, ot, rfl, _, ht⟩
  · cases hr
  obtain ⟨⟨v, hv, a3, c3, rfl, _, hs⟩, _⟩ := ht
  rcases hs with hs | ⟨g2, o2, rfl, _, hs⟩
  · cases hs
  unfold LSs at hs
  obtain ⟨⟨c0, c1', c2', c3', c4, c5, c6, _, _, _, _, h4, _, _, hl⟩, _⟩ := hs
  unfold LS at hl
  obtain ⟨aa, caa, at', ct, ae, ce, hl, _, _, _, hx, _⟩ := hl
  injection hl with hl
  simp only [Array.mk.injEq, List.cons.injEq, and_true] at hl
  obtain ⟨_, _, _, _, rfl, _⟩ := hl
  rcases hx with hx | ⟨ga, oa, rfl, _, hx⟩
  · cases hx
  unfold LXs at hx
  obtain ⟨⟨b0, b1, b2, b3, k0, k1, k2, k3, hlx⟩, _⟩ := hx
  exact ⟨_, _, _, _, _, _, _, _, _, _, _, _, _, _, _, _, _, _, _, _, _, _, _, _, rfl, hv, h4, k0, k1, k2, k3, hlx⟩
theorem lxk_two {Q Q' : Nat → Prop} {w : World} {g : Nat} {t : TypeId} {op : Int} {a0 a1 a2 a3 b0 b1 b2 b3 : Value} {x y : EX} (h : Blk w g t #[a0, a1, a2, a3, b0, b1, b2, b3]) (hx : LX Q w (.agg #[a0, a1, a2, a3]) x) (hy : LX Q' w (.agg #[b0, b1, b2, b3]) y) :
    LX (fun _ => True) w (.agg #[.int .i64 op, .int .i64 0, .string ⟨#[]⟩, .slice (some ⟨g, 0, none⟩) 2 2]) (.mk op 0 [] [x, y]) := by
  unfold LX
  refine ⟨some ⟨g, 0, none⟩, 2, rfl, show 2 ≤ maxLen by decide, .inr ⟨g, 0, rfl, trivial, ?_⟩⟩
  unfold LXs
  refine ⟨⟨_, _, _, _, h.cell 0, h.cell 1, h.cell 2, h.cell 3, LX.mono (fun _ _ _ => trivial) x hx⟩, ?_⟩
  unfold LXs
  refine ⟨⟨_, _, _, _, h.cell 4, h.cell 5, h.cell 6, h.cell 7, LX.mono (fun _ _ _ => trivial) y hy⟩, trivial⟩
theorem show_tx {x : EX} {t : List UInt8} {b : List Bo} (h : TX x t b) (hl : t.length ≤ 1000) (Q : Nat → Prop) (v : Value) (w : World) (hv : LX Q w v x) (ht : Tb w.heap.size w) : Calls Tryz.prog 13 #[v] w (fun e w' => e = .returned (.string (bs t)) ∧ Below w.heap.size w w') := by
  have h1 := h.xe
  have h4 := show_expr x h.okx (by rw [← h1]; exact tx_ne h) (by rw [← h1]; unfold big; omega) v w hv ht
  rw [← h1] at h4
  exact h4
set_option maxHeartbeats 12800000 in
theorem kids8_law (a : Option Addr) (la ca : Nat) (xs : List Nat) (b : Option Addr) (lb cb : Nat) (ys : List Nat) (k : Nat) (w : World) (hx : IsBytes w a la xs) (hy : IsBytes w b lb ys) (hk : k < 256) (ht : Tb w.heap.size w) : Calls Tryz.prog 5 #[.slice a la ca, .slice b lb cb, .int .u8 (k : Nat)] w (fun e w' => e = .returned (.bool true) ∧ Below w.heap.size w w') := by
  have hlm := hx.2.1
  have hlm2 := hy.2.1
  have HX := Lib.hid hx
  have HY := Lib.hid hy
  have HTB := Lib.hid ht
  clear ht hx hy
  go_enter Tryz.func5, Tryz.ntmps5
  go_wp2_with fail
  with_reducible refine (begun8_any w HTB.out).mono ?_
  rintro e w1 ⟨rfl, hb1⟩
  have HB1 := Lib.hid hb1
  have HX1 := Lib.hid (HX.out.below hb1)
  have HY1 := Lib.hid (HY.out.below hb1)
  clear hb1
  by_cases h30 : la ≤ 30
  · have d1 : decide ((30 : Int) < (la : Int)) = false := by simp; omega
    have d1' : decide (30 < la) = false := by simp; omega
    by_cases h31 : lb ≤ 30
    · have d2 : decide ((30 : Int) < (lb : Int)) = false := by simp; omega
      have d2' : decide (30 < lb) = false := by simp; omega
      go_upto_region 6 with (fail)
      clear d1 d1' d2 d2'
      obtain ⟨hbA, hG, hs2⟩ := new_one w1 9 #[.string ⟨#[97]⟩, .string ⟨#[98]⟩]
      have HG2 := Lib.hid hG
      have HB2 := Lib.hid (HB1.out.trans (hbA.mono HB1.out.size))
      have HX2 := Lib.hid (HX1.out.below hbA)
      have HY2 := Lib.hid (HY1.out.below hbA)
      clear hbA hG HB1 HX1 HY1
      generalize w1.alloc (.cells #[.string ⟨#[97]⟩, .string ⟨#[98]⟩] 9) = w2 at *
      generalize w1.heap.size = G at *
      go_wp2_with fail
      with_reducible refine (made_any a la ca xs w2 HX2.out).mono ?_
      rintro e w3 ⟨M, rfl, hmk, hM, hb3⟩
      have HMK3 := Lib.hid hmk
      have HB3 := Lib.hid (HB2.out.trans (hb3.mono HB2.out.size))
      have HG3 := Lib.hid (HG2.out.live' hb3)
      have HY3 := Lib.hid (HY2.out.below hb3)
      have HGM := Lib.hid (show G ≠ M by omega)
      have HWM := Lib.hid (show w.heap.size ≤ M from Nat.le_trans HB2.out.size hM)
      have HM2 := Lib.hid hM
      have HBB3 := Lib.hid hb3
      have hs3 := hb3.size
      clear hmk hb3 hM HG2 HB2 HX2
      go_wp2_with fail
      with_reducible refine (mexpr_43 w3.heap.size M (· = G) _ w3 HMK3.out (nms_ab HG3.out) (fun g hg e => absurd (hg.symm.trans e) HGM.out)).mono ?_
      rintro e w4 ⟨xo, xm, xs', xa, xn, xc, x, rfl, hlx, hmx, _, ho4⟩
      have HLX4 := Lib.hid hlx
      obtain ⟨tx, bx, htx, hltx⟩ := hmx.shown (by omega) ones_ab
      have HTX := Lib.hid htx
      have HTXL := Lib.hid hltx
      have HB4 := Lib.hid (HB3.out.trans (ho4.below (B := w.heap.size) (by have := HB3.out.size; omega) (fun j hj e => by have := HWM.out; omega)))
      have HG4 := Lib.hid (HG3.out.only ho4 HGM.out)
      have HY4 := Lib.hid (HY2.out.below (HBB3.out.trans (ho4.below (B := w2.heap.size) (by omega) (fun j hj e => by have := HM2.out; omega))))
      have hs4 := ho4.size
      clear hlx hmx htx hltx ho4 HMK3 HG3 HB3 HY3
      go_wp2_with fail
      with_reducible refine (made_any b lb cb ys w4 HY4.out).mono ?_
      rintro e w5 ⟨N, rfl, hmk, hM, hb5⟩
      have HMK5 := Lib.hid hmk
      have HB5 := Lib.hid (HB4.out.trans (hb5.mono HB4.out.size))
      have HG5 := Lib.hid (HG4.out.live' hb5)
      have hs5 := hb5.size
      have HGN := Lib.hid (show G ≠ N by have := HG4.out.lt; omega)
      have HWN := Lib.hid (show w.heap.size ≤ N from Nat.le_trans HB4.out.size hM)
      have HMN := Lib.hid hM
      have HBB5 := Lib.hid hb5
      clear hmk hb5 hM HG4 HB4 HY4
      go_wp2_with fail
      with_reducible refine (mexpr_43 w5.heap.size N (· = G) _ w5 HMK5.out (nms_ab HG5.out) (fun g hg e => absurd (hg.symm.trans e) HGN.out)).mono ?_
      rintro e w6 ⟨yo, ym, ys', ya, yn, yc, y, rfl, hly, hmy, _, ho6⟩
      have HLY6 := Lib.hid hly
      obtain ⟨ty, by9, hty, hlty⟩ := hmy.shown (by omega) ones_ab
      have HTY := Lib.hid hty
      have HTYL := Lib.hid hlty
      have HB6 := Lib.hid (HB5.out.trans (ho6.below (B := w.heap.size) (by have := HB5.out.size; omega) (fun j hj e => by have := HWN.out; omega)))
      have HLX6 := Lib.hid (HLX4.out.keep (fun g hg hl => (HBB5.out.trans (ho6.below (B := w4.heap.size) (by omega) (fun j hj e => by have := HMN.out; omega))).block g hl))
      have hs6 := ho6.size
      clear hly hmy hty hlty ho6 HMK5 HG5 HB5 HLX4 HBB5 HBB3 HY2 HGM HGN HWM HWN HMN HM2
      go_upto_region 7 with (fail)
      obtain ⟨hbA, hXA, hYA, hs7⟩ := two_new w6 46 46 #[.int .i64 xo, .int .i64 xm, .string xs', .slice xa xn xc] #[.int .i64 yo, .int .i64 ym, .string ys', .slice ya yn yc]
      have HX7 := Lib.hid hXA
      have HY7 := Lib.hid hYA
      have HB7 := Lib.hid (HB6.out.trans (hbA.mono HB6.out.size))
      have HLX7 := Lib.hid (HLX6.out.keep (fun g hg hl => hbA.block g hl))
      have HLY7 := Lib.hid (HLY6.out.keep (fun g hg hl => hbA.block g hl))
      clear hbA hXA hYA HLX6 HLY6 HB6
      generalize (w6.alloc (.cells #[.int .i64 xo, .int .i64 xm, .string xs', .slice xa xn xc] 46)).alloc (.cells #[.int .i64 yo, .int .i64 ym, .string ys', .slice ya yn yc] 46) = w7 at *
      generalize w6.heap.size = A at *
      have hr4 : k % 4 = 0 ∨ k % 4 = 1 ∨ k % 4 = 2 ∨ k % 4 = 3 := by omega
      have HR4 := Lib.hid hr4
      clear hr4
      go_cut [10] (fun s wx => s = .string (bs ([32] ++ (sgnT (k % 4) ++ [32]))) ∧ Below w7.heap.size w7 wx)
      case first =>
        rcases HR4.out with h | h | h | h
        all_goals
          have HR := Lib.hid h
          first | have m1 : (k : Int) % 4 = 0 := by omega | have m1 : (k : Int) % 4 = 1 := by omega | have m1 : (k : Int) % 4 = 2 := by omega | have m1 : (k : Int) % 4 = 3 := by omega
          clear h
          go_wp2_with fail
          go_meet
          case rel => exact ⟨by rw [HR.out]; rfl, (Below.refl _ _).alloc (Nat.le_refl _) _⟩
      obtain ⟨rfl, hbc⟩ := hcut
      generalize wc = w8 at *
      have HX8 := Lib.hid (HX7.out.live' hbc)
      have HY8 := Lib.hid (HY7.out.live' hbc)
      have HB8 := Lib.hid (HB7.out.trans (hbc.mono HB7.out.size))
      have HLX8 := Lib.hid (HLX7.out.keep (fun g hg hl => hbc.block g hl))
      have HLY8 := Lib.hid (HLY7.out.keep (fun g hg hl => hbc.block g hl))
      clear hbc HX7 HY7 HB7 HLX7 HLY7
      obtain ⟨x0, x1, x2, x3, _, _, _, _⟩ := four_free HX8.out
      obtain ⟨y0, y1, y2, y3, _, _, _, _⟩ := four_free HY8.out
      go_upto_region 8 with (fail)
      go_cut [11] (fun v wx => v = .pointer (some ⟨w8.heap.size + 1, 0, none⟩) ∧ Below w8.heap.size w8 wx ∧ Blk wx w8.heap.size 46 #[.int .i64 xo, .int .i64 xm, .string xs', .slice xa xn xc, .int .i64 yo, .int .i64 ym, .string ys', .slice ya yn yc] ∧ Blk wx (w8.heap.size + 1) 46 #[.int .i64 (3 + ((k % 4 : Nat) : Int)), .int .i64 0, .string ⟨#[]⟩, .slice (some ⟨w8.heap.size, 0, none⟩) 2 2] ∧ w8.heap.size + 1 < wx.heap.size)
      case first =>
        rcases HR4.out with h | h | h | h
        all_goals
          have HR := Lib.hid h
          first | have m1 : (k : Int) % 4 = 0 := by omega | have m1 : (k : Int) % 4 = 1 := by omega | have m1 : (k : Int) % 4 = 2 := by omega | have m1 : (k : Int) % 4 = 3 := by omega
          clear h
          go_wp2_with fail
          go_meet
          case rel =>
            rw [HR.out]
            exact ⟨rfl, two_new w8 _ _ _ _⟩
      obtain ⟨rfl, hbc, hKA, hEA, hs9⟩ := hcut
      generalize wc = w9 at *
      have HX9 := Lib.hid (HX8.out.live' hbc)
      have HY9 := Lib.hid (HY8.out.live' hbc)
      have HB9 := Lib.hid (HB8.out.trans (hbc.mono HB8.out.size))
      have HLX9 := Lib.hid (HLX8.out.keep (fun g hg hl => hbc.block g hl))
      have HLY9 := Lib.hid (HLY8.out.keep (fun g hg hl => hbc.block g hl))
      have HLE9 := Lib.hid (lxk_two (op := 3 + ((k % 4 : Nat) : Int)) hKA HLX9.out HLY9.out)
      have HE9 := Lib.hid hEA
      clear hbc hKA hEA HX8 HY8 HB8 HLX8 HLY8 x0 x1 x2 x3 y0 y1 y2 y3
      generalize w8.heap.size = KA at *
      obtain ⟨r, hr⟩ : ∃ r, r = k % 4 := ⟨_, rfl⟩
      rw [← hr] at HLE9 HE9
      rw [← hr]
      have hr4 : r < 4 := by omega
      have HRK := Lib.hid hr
      clear hr HR4
      have HTE := Lib.hid (TX.bin (sgn_is r hr4) HTX.out HTY.out)
      have HSG := Lib.hid (show (sgnT r).length ≤ 2 from by
        match r, hr4 with
        | 0, _ => decide
        | 1, _ => decide
        | 2, _ => decide
        | 3, _ => decide)
      have hlx3 : P.lx 3 ≤ 100 := by decide
      obtain ⟨te, hte⟩ : ∃ te, te = [40] ++ (tx ++ ([32] ++ (sgnT r ++ ([32] ++ (ty ++ [41]))))) := ⟨_, rfl⟩
      rw [← hte] at HTE
      have htel : te.length ≤ 300 := by
        have h1 := HTXL.out
        have h2 := HTYL.out
        have h3 := HSG.out
        rw [hte]
        simp only [List.length_append, List.length_cons, List.length_nil]
        omega
      obtain ⟨e0, e1, e2, e3, _, _, _, _⟩ := four_free HE9.out
      go_wp2_with fail
      with_reducible refine (show_tx HTE.out (by omega) _ _ w9 HLE9.out (HTB.out.from HB9.out HB9.out.size)).mono ?_
      rintro e w10 ⟨rfl, hb10⟩
      have HX10 := Lib.hid (HX9.out.live' hb10)
      have HY10 := Lib.hid (HY9.out.live' hb10)
      have HE10 := Lib.hid (HE9.out.live' hb10)
      have HB10 := Lib.hid (HB9.out.trans (hb10.mono HB9.out.size))
      have HLX10 := Lib.hid (HLX9.out.keep (fun g hg hl => hb10.block g hl))
      have HLY10 := Lib.hid (HLY9.out.keep (fun g hg hl => hb10.block g hl))
      have HLE10 := Lib.hid (HLE9.out.keep (fun g hg hl => hb10.block g hl))
      clear hb10 e0 e1 e2 e3 HX9 HY9 HE9 HB9 HLX9 HLY9 HLE9
      obtain ⟨l0, hpar⟩ := P.kid_reads HTE.out (by omega)
      have hts : (bs te).size ≤ 300 := by rw [bs_size]; exact htel
      have HPAR := Lib.hid (show parA ((⟨#[108, 105, 116, 109, 117, 115, 32, 97, 32, 118, 97, 108, 117, 101, 115, 32, 52, 32, 116, 104, 114, 101, 97, 100, 32, 123, 32, 114, 32, 61, 32]⟩ ++ bs te) ++ ⟨#[59, 32, 125, 32, 101, 120, 105, 115, 116, 115, 32, 120, 32, 61, 61, 32, 48]⟩) = .ok (P.pgK (.mk (3 + (r : Int)) 0 [] [x, y]), l0) from by
        rw [show (⟨#[108, 105, 116, 109, 117, 115, 32, 97, 32, 118, 97, 108, 117, 101, 115, 32, 52, 32, 116, 104, 114, 101, 97, 100, 32, 123, 32, 114, 32, 61, 32]⟩ : ByteArray) = bs P.preK from rfl, show (⟨#[59, 32, 125, 32, 101, 120, 105, 115, 116, 115, 32, 120, 32, 61, 61, 32, 48]⟩ : ByteArray) = bs P.sufK from rfl, bs_app, bs_app, List.append_assoc]
        exact hpar)
      have HTT := Lib.hid (show bs te = (((⟨#[40]⟩ ++ bs tx) ++ bs ([32] ++ (sgnT r ++ [32]))) ++ bs ty) ++ ⟨#[41]⟩ from by
        rw [hte, show (⟨#[40]⟩ : ByteArray) = bs [40] from rfl, show (⟨#[41]⟩ : ByteArray) = bs [41] from rfl, bs_app, bs_app, bs_app, bs_app]
        congr 1
        simp)
      clear hpar hte
      generalize bs te = T at *
      have z1 : ¬ 9223372036854775807 < 31 + T.size := by omega
      have z2 : ¬ 9223372036854775807 < 31 + T.size + 17 := by omega
      go_wp2_with fail
      with_reducible refine (pparse_at _ _ w10 HPAR.out).mono ?_
      rintro e w11 ⟨vp, rfl, hlp, hb11⟩
      rw [show pfl (.ok (P.pgK (.mk (3 + (r : Int)) 0 [] [x, y]), l0)) = .agg #[.int .i64 0, .int .i64 0] from rfl]
      obtain ⟨s0, ai, ni, ki, gt, ot, kt, gs, os, ks, ga, oa, ka, zo, zt, zs, zn, za, zm, zc, a0, a1, a2, a3, rfl, v0, v1, v2, v3, v4, v5, hlq⟩ := lpk hlp
      have HX11 := Lib.hid (HX10.out.live' hb11)
      have HY11 := Lib.hid (HY10.out.live' hb11)
      have HE11 := Lib.hid (HE10.out.live' hb11)
      have HB11 := Lib.hid (HB10.out.trans (hb11.mono HB10.out.size))
      have HLX11 := Lib.hid (HLX10.out.keep (fun g hg hl => hb11.block g hl))
      have HLY11 := Lib.hid (HLY10.out.keep (fun g hg hl => hb11.block g hl))
      have HLE11 := Lib.hid (HLE10.out.keep (fun g hg hl => hb11.block g hl))
      have HLQ11 := Lib.hid hlq
      have HV11 := Lib.hid (show w11.cell? ⟨gt, ot, none⟩ = some (.slice (some ⟨gs, os, none⟩) 1 ks) ∧ w11.cell? ⟨gs, os + 4, none⟩ = some (.slice (some ⟨ga, oa, none⟩) 1 ka) ∧ w11.cell? ⟨ga, oa, none⟩ = some a0 ∧ w11.cell? ⟨ga, oa + 1, none⟩ = some a1 ∧ w11.cell? ⟨ga, oa + 2, none⟩ = some a2 ∧ w11.cell? ⟨ga, oa + 3, none⟩ = some a3 from ⟨v0, v1, v2, v3, v4, v5⟩)
      clear hlp hlq hb11 v0 v1 v2 v3 v4 v5 z1 z2 HX10 HY10 HE10 HB10 HLX10 HLY10 HLE10
      go_upto_region 11 with (fail)
      obtain ⟨hbA, hPA, hFA, hs12⟩ := two_new w11 30 37 #[.string s0, .int .i64 4, .slice ai ni ki, .slice (some ⟨gt, ot, none⟩) 1 kt, .int .i64 1, .int .i64 zo, .int .i64 zt, .string zs, .int .i64 zn, .slice za zm zc] #[.int .i64 0, .int .i64 0]
      have HPP := Lib.hid hPA
      have HFF := Lib.hid hFA
      have HX12 := Lib.hid (HX11.out.live' hbA)
      have HY12 := Lib.hid (HY11.out.live' hbA)
      have HE12 := Lib.hid (HE11.out.live' hbA)
      have HB12 := Lib.hid (HB11.out.trans (hbA.mono HB11.out.size))
      have HLX12 := Lib.hid (HLX11.out.keep (fun g hg hl => hbA.block g hl))
      have HLY12 := Lib.hid (HLY11.out.keep (fun g hg hl => hbA.block g hl))
      have HLE12 := Lib.hid (HLE11.out.keep (fun g hg hl => hbA.block g hl))
      have HLQ12 := Lib.hid (HLQ11.out.keep (fun g hg hl => hbA.block g hl))
      have HV12 := Lib.hid (show _ ∧ _ ∧ _ ∧ _ ∧ _ ∧ _ from ⟨cell_live hbA HV11.out.1, cell_live hbA HV11.out.2.1, cell_live hbA HV11.out.2.2.1, cell_live hbA HV11.out.2.2.2.1, cell_live hbA HV11.out.2.2.2.2.1, cell_live hbA HV11.out.2.2.2.2.2⟩)
      clear hbA hPA hFA HX11 HY11 HE11 HB11 HLX11 HLY11 HLE11 HLQ11 HV11
      generalize (w11.alloc (.cells #[.string s0, .int .i64 4, .slice ai ni ki, .slice (some ⟨gt, ot, none⟩) 1 kt, .int .i64 1, .int .i64 zo, .int .i64 zt, .string zs, .int .i64 zn, .slice za zm zc] 30)).alloc (.cells #[.int .i64 0, .int .i64 0] 37) = w12 at *
      generalize w11.heap.size = PA at *
      have hxs : (bs tx).size ≤ 100 := by rw [bs_size]; have := HTXL.out; omega
      have hys : (bs ty).size ≤ 100 := by rw [bs_size]; have := HTYL.out; omega
      have hgs : (bs (32 :: (sgnT r ++ [32]))).size ≤ 4 := by
        rw [bs_size]
        have := HSG.out
        simp only [List.length_append, List.length_cons, List.length_nil]
        omega
      have htt : T = (((⟨#[40]⟩ ++ bs tx) ++ bs (32 :: (sgnT r ++ [32]))) ++ bs ty) ++ ⟨#[41]⟩ := HTT.out
      have HCX := Lib.hid (show ∀ w', Below w12.heap.size w12 w' → Calls Tryz.prog 13 #[.agg #[.int .i64 xo, .int .i64 xm, .string xs', .slice xa xn xc]] w' (fun e w'' => e = .returned (.string (bs tx)) ∧ Below w12.heap.size w12 w'') from fun w' hb7 => (show_tx HTX.out (by have := HTXL.out; omega) _ _ w' (HLX12.out.keep (fun g hg hl => hb7.block g hl)) (HTB.out.from (HB12.out.trans (hb7.mono HB12.out.size)) (Nat.le_trans HB12.out.size hb7.size))).mono (fun e w'' h => ⟨h.1, hb7.trans (h.2.mono hb7.size)⟩))
      have HCY := Lib.hid (show ∀ w', Below w12.heap.size w12 w' → Calls Tryz.prog 13 #[.agg #[.int .i64 yo, .int .i64 ym, .string ys', .slice ya yn yc]] w' (fun e w'' => e = .returned (.string (bs ty)) ∧ Below w12.heap.size w12 w'') from fun w' hb7 => (show_tx HTY.out (by have := HTYL.out; omega) _ _ w' (HLY12.out.keep (fun g hg hl => hb7.block g hl)) (HTB.out.from (HB12.out.trans (hb7.mono HB12.out.size)) (Nat.le_trans HB12.out.size hb7.size))).mono (fun e w'' h => ⟨h.1, hb7.trans (h.2.mono hb7.size)⟩))
      have HCS := Lib.hid (show ∀ w', Below w12.heap.size w12 w' → Calls Tryz.prog 14 #[.agg #[a0, a1, a2, a3], .agg #[.int .i64 (3 + (r : Int)), .int .i64 0, .string ⟨#[]⟩, .slice (some ⟨KA, 0, none⟩) 2 2]] w' (fun e w'' => e = .returned (.bool true) ∧ Below w12.heap.size w12 w'') from fun w' hb7 => (sameX _ (.mk (3 + (r : Int)) 0 [] [x, y]) (Nat.le_refl _) _ _ _ _ w' (HLQ12.out.keep (fun g hg hl => hb7.block g hl)) (HLE12.out.keep (fun g hg hl => hb7.block g hl))).mono (fun e w'' h => ⟨h.1, hb7.trans (h.2.mono hb7.size)⟩))
      have HK7 := Lib.hid (show ∀ w', Below w12.heap.size w12 w' → w'.cell? ⟨A, 0, none⟩ = some (.int .i64 xo) ∧ w'.cell? ⟨A, 1, none⟩ = some (.int .i64 xm) ∧ w'.cell? ⟨A, 2, none⟩ = some (.string xs') ∧ w'.cell? ⟨A, 3, none⟩ = some (.slice xa xn xc) ∧ w'.cell? ⟨A + 1, 0, none⟩ = some (.int .i64 yo) ∧ w'.cell? ⟨A + 1, 1, none⟩ = some (.int .i64 ym) ∧ w'.cell? ⟨A + 1, 2, none⟩ = some (.string ys') ∧ w'.cell? ⟨A + 1, 3, none⟩ = some (.slice ya yn yc) ∧ w'.cell? ⟨KA + 1, 0, none⟩ = some (.int .i64 (3 + (r : Int))) ∧ w'.cell? ⟨KA + 1, 1, none⟩ = some (.int .i64 0) ∧ w'.cell? ⟨KA + 1, 2, none⟩ = some (.string ⟨#[]⟩) ∧ w'.cell? ⟨KA + 1, 3, none⟩ = some (.slice (some ⟨KA, 0, none⟩) 2 2) ∧ w'.cell? ⟨PA + 1, 0, none⟩ = some (.int .i64 0) ∧ w'.cell? ⟨PA, 3, none⟩ = some (.slice (some ⟨gt, ot, none⟩) 1 kt) ∧ w'.cell? ⟨gt, ot, none⟩ = some (.slice (some ⟨gs, os, none⟩) 1 ks) ∧ w'.cell? ⟨gs, os + 4, none⟩ = some (.slice (some ⟨ga, oa, none⟩) 1 ka) ∧ w'.cell? ⟨ga, oa, none⟩ = some a0 ∧ w'.cell? ⟨ga, oa + 1, none⟩ = some a1 ∧ w'.cell? ⟨ga, oa + 2, none⟩ = some a2 ∧ w'.cell? ⟨ga, oa + 3, none⟩ = some a3 from fun w' hb7 => by
        have hx7 := HX12.out.live' hb7
        have hy7 := HY12.out.live' hb7
        have he7 := HE12.out.live' hb7
        have hf7 := HFF.out.live' hb7
        have hp7 := HPP.out.live' hb7
        exact ⟨hx7.cell 0, hx7.cell 1, hx7.cell 2, hx7.cell 3, hy7.cell 0, hy7.cell 1, hy7.cell 2, hy7.cell 3, he7.cell 0, he7.cell 1, he7.cell 2, he7.cell 3, hf7.cell 0, hp7.cell 3, cell_live hb7 HV12.out.1, cell_live hb7 HV12.out.2.1, cell_live hb7 HV12.out.2.2.1, cell_live hb7 HV12.out.2.2.2.1, cell_live hb7 HV12.out.2.2.2.2.1, cell_live hb7 HV12.out.2.2.2.2.2⟩)
      have hbD : Below w12.heap.size w12 w12.drew := (Below.refl _ _).drew
      have HK0 := Lib.hid (HK7.out w12 (Below.refl _ _))
      have HKD := Lib.hid (HK7.out w12.drew hbD)
      clear HTT HPAR HX12 HY12 HE12 HLX12 HLY12 HLE12 HLQ12 HV12 HPP HFF hts htel hlm hlm2 h30 h31
      generalize bs tx = TXB at *
      generalize bs ty = TYB at *
      generalize bs (32 :: (sgnT r ++ [32])) = SGB at *
      subst htt
      have z1 : ¬ 9223372036854775807 < 1 + TXB.size := by omega
      have z2 : ¬ 9223372036854775807 < 1 + TXB.size + SGB.size := by omega
      have z3 : ¬ 9223372036854775807 < 1 + TXB.size + SGB.size + TYB.size := by omega
      have z4 : ¬ 9223372036854775807 < 1 + TXB.size + SGB.size + TYB.size + 1 := by omega
      clear hxs hys hgs
      go_region_held3 (fun w' => w'.cell? ⟨A, 0, none⟩ = some (.int .i64 xo) ∧ w'.cell? ⟨A, 1, none⟩ = some (.int .i64 xm) ∧ w'.cell? ⟨A, 2, none⟩ = some (.string xs') ∧ w'.cell? ⟨A, 3, none⟩ = some (.slice xa xn xc) ∧ w'.cell? ⟨A + 1, 0, none⟩ = some (.int .i64 yo) ∧ w'.cell? ⟨A + 1, 1, none⟩ = some (.int .i64 ym) ∧ w'.cell? ⟨A + 1, 2, none⟩ = some (.string ys') ∧ w'.cell? ⟨A + 1, 3, none⟩ = some (.slice ya yn yc) ∧ w'.cell? ⟨KA + 1, 0, none⟩ = some (.int .i64 (3 + (r : Int))) ∧ w'.cell? ⟨KA + 1, 1, none⟩ = some (.int .i64 0) ∧ w'.cell? ⟨KA + 1, 2, none⟩ = some (.string ⟨#[]⟩) ∧ w'.cell? ⟨KA + 1, 3, none⟩ = some (.slice (some ⟨KA, 0, none⟩) 2 2) ∧ w'.cell? ⟨PA + 1, 0, none⟩ = some (.int .i64 0) ∧ w'.cell? ⟨PA, 3, none⟩ = some (.slice (some ⟨gt, ot, none⟩) 1 kt) ∧ w'.cell? ⟨gt, ot, none⟩ = some (.slice (some ⟨gs, os, none⟩) 1 ks) ∧ w'.cell? ⟨gs, os + 4, none⟩ = some (.slice (some ⟨ga, oa, none⟩) 1 ka) ∧ w'.cell? ⟨ga, oa, none⟩ = some a0 ∧ w'.cell? ⟨ga, oa + 1, none⟩ = some a1 ∧ w'.cell? ⟨ga, oa + 2, none⟩ = some a2 ∧ w'.cell? ⟨ga, oa + 3, none⟩ = some a3)
        (first
          | with_reducible exact HK0.out
          | with_reducible exact HKD.out
          | with_reducible assumption
          | go_keep)
        (first
          | (go_at_call 13; (with_reducible refine (HCX.out _ (by assumption)).mono ?_); rintro e w20 ⟨rfl, hb20⟩; have hS20 := HK7.out w20 hb20)
          | (go_at_call 13; (with_reducible refine (HCY.out _ (by assumption)).mono ?_); rintro e w21 ⟨rfl, hb21⟩; have hS21 := HK7.out w21 hb21)
          | (go_at_call 14; (with_reducible refine (HCS.out _ (by assumption)).mono ?_); rintro e w22 ⟨rfl, hb22⟩; have hS22 := HK7.out w22 hb22))
      all_goals
        go_wp2_with fail
        go_ret
        exact ⟨rfl, HB12.out.trans (Below.mono (by assumption) HB12.out.size)⟩
    · have d2 : decide ((30 : Int) < (lb : Int)) = true := by simp; omega
      have d2' : decide (30 < lb) = true := by simp; omega
      go_wp2_with fail
      go_ret
      exact ⟨rfl, HB1.out⟩
  · have d1 : decide ((30 : Int) < (la : Int)) = true := by simp; omega
    have d1' : decide (30 < la) = true := by simp; omega
    go_wp2_with fail
    go_ret
    exact ⟨rfl, HB1.out⟩
end Go.Proofs.YtgobcflfhabdhaaGreatDoor.Lx
namespace Go.Proofs.YtgobcflfhabdhaaGreatDoor
open Go.ChangeShapes Go.WideShapes Go.ChangeAt Go.RowKit

set_option maxRecDepth 100000 in
theorem showKids_lifted (os : Os) (started : os.Started) (H : Type) (enc : TypeId × Value → H) :
    ReturnsInHanded {} Tryz.checked os 5 .any (fun w args => (Rows.showKidsSpec.pre enc Tryz.prog Tryz.f5 [] false w args ∧ laidMetH Tryz.prog Lx.laid3L w) ∧ sizedMet enc Tryz.prog Tryz.f5 (OpenSpec.ofChange Rows.showKidsSpec) false w args)
      (Rows.showKidsSpec.post enc Tryz.prog Tryz.f5 false true false false) := by
  refine returnsInHanded_of_change_and (C := Tryz.checked) (X := fun w _ => laidMetH Tryz.prog Lx.laid3L w) (fun _ _ _ hh h => h.of_heap hh) Lx.own started (by kernel_rfl) Tryz.func5
    (ChangeSpec.witness_shaped (enc := enc) (C := Tryz.checked) (os := os) (X := fun w _ => laidMetH Tryz.prog Lx.laid3L w) false (World.doorLaid Tryz.prog 400 os) #[.slice none 0 0, .slice none 0 0, .int .u8 0] 8 rfl (World.shaped_of_RefB (by kernel_rfl) (by kernel_rfl)) (by kernel_rfl) (by kernel_rfl) (by kernel_rfl) (Lx.door3_met os _)) ?_
  intro W base args ds gs before hval0 hW _ hsz0 hL _
  have hval : ∀ (j : Nat) t v, Tryz.f5.params[j]? = some t → args[j]? = some v → Value.okWide Tryz.prog W .any base t v := hval0
  have hW' := hW
  obtain ⟨p, q, hA0, hV, rfl, hfz, hnd⟩ := hW
  have hA : DataW.TrodAll enc Tryz.prog W 0 (fun _ => true) true Tryz.f5.params.toList args.toList ds p := hA0
  rw [Tryz.params5] at hA hval
  have hsz : (DataW.weightsEach Tryz.prog (Tryz.f5.params.toList ++ Rows.showKidsSpec.plain.varTypes Tryz.prog) (ds ++ gs)).all (· ≤ reachBytes) = true := hsz0
  rw [Tryz.params5] at hsz
  obtain ⟨v0, vs0, d0, ds0, p0, q0, hargs, rfl, rfl, h0, r0⟩ := trodAll_cons hA
  obtain ⟨v1, vs1, d1, ds1, p1, q1, rfl, rfl, rfl, h1, r1⟩ := trodAll_cons r0
  obtain ⟨v2, vs2, d2, ds2, p2, q2, rfl, rfl, rfl, h2, r2⟩ := trodAll_cons r1
  obtain ⟨rfl, rfl, rfl⟩ := trodAll_nil r2
  obtain rfl : args = #[v0, v1, v2] := by cases args; simp_all
  obtain ⟨rfl, rfl⟩ := trodVars_none hV
  obtain ⟨a0, len0, cap0, rfl⟩ := okWide_slice Tryz.underlying22 (hval 0 22 v0 rfl rfl)
  have k0 := h0
  have lt0 : ∀ x ∈ p0, x.block < W.heap.size := by obtain ⟨m, hm⟩ := k0; exact DataW.trod_lt m _ _ _ hm
  obtain ⟨xs0, w0⟩ : ∃ xs, Lx.IsBytes W a0 len0 xs := by
    obtain ⟨fuel, hf⟩ := h0
    rcases open_ints Tryz.underlying22 Tryz.underlying5 (by kernel_rfl) hf with ⟨hcs, _⟩ | ⟨x, l, c, zs, hcs, _, hl, hm, hz, hx, hcell, hwz⟩
    · simp [Value.cells] at hcs
      obtain ⟨rfl, rfl, rfl⟩ := hcs
      exact ⟨[], rfl, by decide, fun i => by simp, .inl rfl⟩
    · simp [Value.cells] at hcs
      obtain ⟨rfl, rfl, rfl⟩ := hcs
      have hd := (Prod.mk.inj hx).1
      have hw := sized_slice hsz (j := 0) (t := 22) (e := 5) rfl (show _ = some _ by rw [hd]; rfl) Tryz.underlying22
      have hzl : zs.length = cap0 := by simpa using hz
      rw [show Tryz.prog.bytesOf 5 = 1 by kernel_rfl] at hw
      simp only [lits, List.length_map, List.length_take, List.length_drop, reachBytes] at hw
      exact ⟨_, Lx.bytes_of_cells x len0 zs hcell hwz (by omega) (by omega)⟩
  obtain ⟨a1, len1, cap1, rfl⟩ := okWide_slice Tryz.underlying22 (hval 1 22 v1 rfl rfl)
  have k1 := h1
  have lt1 : ∀ x ∈ p1, x.block < W.heap.size := by obtain ⟨m, hm⟩ := k1; exact DataW.trod_lt m _ _ _ hm
  obtain ⟨xs1, w1⟩ : ∃ xs, Lx.IsBytes W a1 len1 xs := by
    obtain ⟨fuel, hf⟩ := h1
    rcases open_ints Tryz.underlying22 Tryz.underlying5 (by kernel_rfl) hf with ⟨hcs, _⟩ | ⟨x, l, c, zs, hcs, _, hl, hm, hz, hx, hcell, hwz⟩
    · simp [Value.cells] at hcs
      obtain ⟨rfl, rfl, rfl⟩ := hcs
      exact ⟨[], rfl, by decide, fun i => by simp, .inl rfl⟩
    · simp [Value.cells] at hcs
      obtain ⟨rfl, rfl, rfl⟩ := hcs
      have hd := (Prod.mk.inj hx).1
      have hw := sized_slice hsz (j := 1) (t := 22) (e := 5) rfl (show _ = some _ by rw [hd]; rfl) Tryz.underlying22
      have hzl : zs.length = cap1 := by simpa using hz
      rw [show Tryz.prog.bytesOf 5 = 1 by kernel_rfl] at hw
      simp only [lits, List.length_map, List.length_take, List.length_drop, reachBytes] at hw
      exact ⟨_, Lx.bytes_of_cells x len1 zs hcell hwz (by omega) (by omega)⟩
  obtain ⟨a2, rfl, rfl, rfl, w2⟩ := open_int Tryz.underlying5 (hval 2 5 v2 rfl rfl) h2
  obtain ⟨n2, rfl, hn2⟩ := Lx.byte_of w2
  have hT := Lx.tb_of_laid hL
  clear hA0 hval0
  refine (Lx.kids8_law a0 len0 cap0 xs0 a1 len1 cap1 xs1 n2 W w0 w1 hn2 hT).mono fun e W' ⟨he, bel⟩ => ?_
  subst he
  exact ⟨_, rfl, _, _, _, [], _, [], hW', trodAll_mk1 (shut_bool Tryz.underlying4 _), (trodAll_cons_mk (Below.trod Lx.laidOut (by kernel_rfl) (of_decide_eq_true (by kernel_rfl)) k0 bel lt0) (trodAll_cons_mk (Below.trod Lx.laidOut (by kernel_rfl) (of_decide_eq_true (by kernel_rfl)) k1 bel lt1) (trodAll_cons_mk (shut_int Tryz.underlying5 w2) trodAll_mk0))), rfl, bel.frame _, fun h => by cases h⟩

theorem showKids_row : Rows.ShowKidsSaid :=
  OpenClaim.holds_of_wide 5 Tryz.f5 rfl rfl rfl rfl rfl rfl rfl ⟨rfl, rfl, rfl, rfl, rfl⟩ rfl rfl rfl rfl rfl (by kernel_rfl) Tryz.func5 (by kernel_rfl)
    (of_decide_eq_true (by kernel_rfl)) (by unfold Func.isWrapper; first | (rw [if_pos (by decide +kernel)]; kernel_rfl) | (rw [if_neg (by decide +kernel)]; exact ⟨rfl, rfl⟩))
    (fun os started H enc _ => showKids_lifted os started H enc)

theorem showKids_holds : Rows.ShowKidsCardSaid :=
  Claim7.holds_tied_plain_at .later [] [.data, .data, .data] true (true, "db6cb718a49b90a129e6c6c9c486142552668b21b40b4605748ce9abae63bbc9") false
    showKids_row (fun _ h => by cases h) (by kernel_rfl) (fun _ h => by cases h) showKids_row_tie rfl ⟨rfl, rfl⟩ (by kernel_rfl) rfl
    (fun f fn hf hfn => by
      obtain rfl : f = 5 := Option.some.inj ((show Tryz.prog.funcNamed Rows.showKidsRow.func = some 5 by kernel_rfl).symm.trans hf) |>.symm
      obtain rfl : fn = Tryz.f5 := (Option.some.inj (Tryz.func5.symm.trans hfn)).symm
      exact ⟨by kernel_rfl, fun j t ht => by
        rw [Tryz.params5] at ht
        rcases j with _ | _ | _ | j
        · obtain rfl : t = 22 := by simpa using ht.symm
          exact (show Tryz.prog.wantsStandIn 22 = false by kernel_rfl)
        · obtain rfl : t = 22 := by simpa using ht.symm
          exact (show Tryz.prog.wantsStandIn 22 = false by kernel_rfl)
        · obtain rfl : t = 5 := by simpa using ht.symm
          exact (show Tryz.prog.wantsStandIn 5 = false by kernel_rfl)
        · simp at ht⟩)
    (by kernel_rfl)
#print axioms showKids_holds
end Go.Proofs.YtgobcflfhabdhaaGreatDoor
