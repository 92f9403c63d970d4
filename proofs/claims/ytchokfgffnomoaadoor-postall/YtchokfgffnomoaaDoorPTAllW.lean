/-
  PostAll's walk: for every condition, names and outcomes the call returns true.
-/
import Derived.Test.YtchokfgffnomoaaDoorPTLight
import Derived.Test.YtchokfgffnomoaaDoorPTSize
import Derived.Test.YtchokfgffnomoaaDoorPTHoldR4
import Derived.Test.YtchokfgffnomoaaDoorPTLnR
namespace Go.Proofs.YtchokfgffnomoaaDoor.Lx
open Go.RowKit
open P (CO hd ordO czC cdp)
set_option maxRecDepth 100000
set_option linter.unusedVariables false
set_option linter.unusedSimpArgs false
/-- So many names are short. -/
def ShortTo (l : List (List UInt8)) (j : Nat) : Prop := ∀ i, i < j → (l.getD i []).length ≤ 40
theorem ShortTo.step {l : List (List UInt8)} {j : Nat} (h : ShortTo l j) (hj : (l.getD j []).length ≤ 40) : ShortTo l (j + 1) := fun i hi => by
  by_cases e : i = j
  · rw [e]; exact hj
  · exact h i (by omega)
theorem ShortTo.all {l : List (List UInt8)} (h : ShortTo l l.length) : ∀ i, (l.getD i []).length ≤ 100 := by
  intro i
  by_cases hi : i < l.length
  · have := h i hi
    omega
  · rw [List.getD_eq_getElem?_getD, List.getElem?_eq_none (by omega)]
    exact Nat.zero_le _
/-- So many rows of names are short. -/
def ShortsTo (g : List (List (List UInt8))) (j : Nat) : Prop := ∀ i, i < j → (g.getD i []).length ≤ 6 ∧ ShortTo (g.getD i []) (g.getD i []).length
theorem ShortsTo.step {l : List (List (List UInt8))} {j : Nat} (h : ShortsTo l j) (hj : (l.getD j []).length ≤ 6) (hk : ShortTo (l.getD j []) (l.getD j []).length) : ShortsTo l (j + 1) := fun i hi => by
  by_cases e : i = j
  · rw [e]; exact ⟨hj, hk⟩
  · exact h i (by omega)
theorem ShortsTo.len {g : List (List (List UInt8))} (h : ShortsTo g g.length) : ∀ i, (g.getD i []).length ≤ 1000 := by
  intro i
  by_cases hi : i < g.length
  · have := (h i hi).1
    omega
  · rw [List.getD_eq_getElem?_getD, List.getElem?_eq_none (by omega)]
    exact Nat.zero_le _
theorem ShortsTo.all {g : List (List (List UInt8))} (h : ShortsTo g g.length) : ∀ i k, ((g.getD i []).getD k []).length ≤ 100 := by
  intro i k
  by_cases hi : i < g.length
  · exact (h i hi).2.all k
  · have h0 : g.getD i [] = [] := by
      rw [List.getD_eq_getElem?_getD, List.getElem?_eq_none (by omega)]
      rfl
    rw [h0]
    simp
theorem LightP.smo {rv : List (List Int)} {mv : List Int} (h : LightP rv mv) : SmO rv mv := ⟨by have := h.1; omega, fun i => by have := h.all i; omega, by have := h.2.1; omega⟩
theorem three_newA (w : World) (A B C : Array Value) (ta tb tc : TypeId) :
    Below w.heap.size w (((w.alloc (.cells A ta)).alloc (.cells B tb)).alloc (.cells C tc)) ∧ Blk (((w.alloc (.cells A ta)).alloc (.cells B tb)).alloc (.cells C tc)) w.heap.size ta A ∧ Blk (((w.alloc (.cells A ta)).alloc (.cells B tb)).alloc (.cells C tc)) (w.heap.size + 1) tb B ∧ Blk (((w.alloc (.cells A ta)).alloc (.cells B tb)).alloc (.cells C tc)) (w.heap.size + 1 + 1) tc C :=
  ⟨(((Below.refl _ _).alloc (Nat.le_refl _) _).alloc (by simp) _).alloc (by simp; omega) _, ((Blk.new w ta A).alloc _).alloc _, (blk_at tb B (by simp)).alloc _, blk_at tc C (by simp)⟩
/-- What has come in, still there. -/
structure InAll (W w' : World) (v : Value) (e : CO) (la ga ra ma rb mb : Option Addr) (lc mc md : Nat) (locs : List (List UInt8)) (regs : List (List (List UInt8))) (rv rw : List (List Int)) (mv mw : List Int) : Prop where
  nam : NamIn w' la ga locs regs lc
  oa : OutIn w' ra ma rv mv mc
  ob : OutIn w' rb mb rw mw md
  lc : LC (fun _ => True) w' v e
set_option maxHeartbeats 25600000 in
theorem postall_walk (v : Value) (la : Option Addr) (ll lc : Nat) (ga : Option Addr) (gl gc : Nat) (ra ma : Option Addr) (rv : List (List Int)) (mv : List Int) (rc mc : Nat) (rb mb : Option Addr) (rw' : List (List Int)) (mw : List Int) (rd md : Nat) (w : World)
    (he : ∃ e, LC (fun _ => True) w v e ∧ wfK e) (hl : ∃ rs, Nms (fun _ => True) w (.slice la ll lc) rs ∧ rs.length ≤ maxLen) (hg : ∃ rg : List (List (List UInt8)), rg.length = gl ∧ NssA w ga rg ∧ NsOk rg) (ha : OutIn w ra ma rv mv mc) (hb : OutIn w rb mb rw' mw md) (ht : Tp w.heap.size w) :
    Calls Tryd.prog 4 #[v, .slice la ll lc, .slice ga gl gc, .agg #[.slice ra rv.length rc, .slice ma mv.length mc], .agg #[.slice rb rw'.length rd, .slice mb mw.length md]] w fun e w' => e = .returned (.bool true) ∧ Below w.heap.size w w' := by
  obtain ⟨⟨op, t, s, k, ks⟩, hv, hwf⟩ := he
  obtain ⟨locs, hnm, hll⟩ := hl
  obtain ⟨regs, rfl, hrg, hgo⟩ := hg
  have hnm0 := hnm
  obtain ⟨a', c', he1, _⟩ := hnm0
  injection he1 with e1 e2 e3
  subst e1 e2 e3
  have hv0 := hv
  unfold LC at hv0
  obtain ⟨a, cap, rfl, hkm, _⟩ := hv0
  have hgl := hgo.1
  unfold maxLen at hkm hll hgl
  obtain ⟨hb3, hA, hBo, hC⟩ := three_newA w #[.int .i64 op, .int .i64 t, .string (bs s), .int .i64 k, .slice a ks.length cap] #[.slice ra rv.length rc, .slice ma mv.length mc] #[.slice rb rw'.length rd, .slice mb mw.length md] 26 46 46
  have HB0 := Lib.hid hb3
  have HQA := Lib.hid hA
  have HQB := Lib.hid hBo
  have HQC := Lib.hid hC
  have hsz := hb3.size
  have HT := Lib.hid (ht.low (Nat.le_refl _) hb3)
  have HNM := Lib.hid (show NamIn _ la ga locs regs lc from ⟨hnm.keep (Keeps.below hb3 (Nat.le_refl _)), hrg.low hb3, by unfold maxLen; exact hll, hgo⟩)
  have HOA := Lib.hid (ha.low hb3)
  have HOB := Lib.hid (hb.low hb3)
  have HLC := Lib.hid (hv.low hb3)
  have HWF := Lib.hid hwf
  have hrl := ha.rok.1
  have hml := ha.mok.1
  have hrl' := hb.rok.1
  have hml' := hb.mok.1
  unfold maxLen at hrl hml hrl' hml'
  generalize hE : CO.mk op t s k ks = E at *
  have HCD := Lib.hid (fun h => P.cdp_le 13 0 E rfl h)
  have HEE := Lib.hid hE
  clear hE hv hwf hnm hrg hgo ha hb ht hb3 hA hBo hC
  generalize bs s = S at *
  go_enter Tryd.func4, Tryd.ntmps4
  go_wp2_with fail
  generalize ((w.alloc (.cells #[.int .i64 op, .int .i64 t, .string S, .int .i64 k, .slice a ks.length cap] 26)).alloc (.cells #[.slice ra rv.length rc, .slice ma mv.length mc] 46)).alloc (.cells #[.slice rb rw'.length rd, .slice mb mw.length md] 46) = W at *
  have HBG := Lib.hid (begun11_any (B := w.heap.size) W hsz HT.out)
  with_reducible refine HBG.out.mono ?_
  rintro e w1 ⟨rfl, hb1⟩
  have HB1 := Lib.hid hb1
  obtain ⟨p0, p1, p2, p3, p4⟩ := five_freeC (HQA.out.live' hb1)
  have HSZ := Lib.hid (csize_any 13 0 E (by omega) (by omega) 0 _ w1 rfl (HLC.out.low hb1) HWF.out)
  clear hb1 HBG
  go_wp2_with fail
  with_reducible refine HSZ.out.mono ?_
  rintro e w2 ⟨rfl, hb2⟩
  have HB2 := Lib.hid (HB1.out.trans (hb2.mono HB1.out.size))
  obtain ⟨a0, a1⟩ := two_freeP (HQB.out.live' HB2.out)
  obtain ⟨b0, b1⟩ := two_freeP (HQC.out.live' HB2.out)
  clear p0 p1 p2 p3 p4 hb2 HSZ HB1
  generalize czC 0 E = Z at *
  by_cases hz : 300 < Z
  · have d1 : decide ((300 : Int) < (Z : Int)) = true := decide_eq_true (by omega)
    have d2 : decide (300 < Z) = true := decide_eq_true (by omega)
    go_wp2_with fail
    go_ret
    exact ⟨rfl, HB0.out.trans (HB2.out.mono hsz)⟩
  have d1 : decide ((300 : Int) < (Z : Int)) = false := decide_eq_false (by omega)
  have d2 : decide (300 < Z) = false := decide_eq_false (by omega)
  by_cases hl6 : 6 < locs.length
  · have d3 : decide ((6 : Int) < (locs.length : Int)) = true := decide_eq_true (by omega)
    have d4 : decide (6 < locs.length) = true := decide_eq_true (by omega)
    go_wp2_with fail
    go_ret
    exact ⟨rfl, HB0.out.trans (HB2.out.mono hsz)⟩
  have d3 : decide ((6 : Int) < (locs.length : Int)) = false := decide_eq_false (by omega)
  have d4 : decide (6 < locs.length) = false := decide_eq_false (by omega)
  by_cases hg6 : 6 < regs.length
  · have d5 : decide ((6 : Int) < (regs.length : Int)) = true := decide_eq_true (by omega)
    have d6 : decide (6 < regs.length) = true := decide_eq_true (by omega)
    go_wp2_with fail
    go_ret
    exact ⟨rfl, HB0.out.trans (HB2.out.mono hsz)⟩
  have d5 : decide ((6 : Int) < (regs.length : Int)) = false := decide_eq_false (by omega)
  have d6 : decide (6 < regs.length) = false := decide_eq_false (by omega)
  have HL1 := Lib.hid (light_any (rc := rc) (HOA.out.low HB2.out))
  go_wp2_with fail
  with_reducible refine HL1.out.mono ?_
  rintro e w3 ⟨x1, rfl, hx1, hb3⟩
  have HX1 := Lib.hid hx1
  have HB3 := Lib.hid (HB2.out.trans (hb3.mono HB2.out.size))
  clear a0 a1 b0 b1 hx1 hb3 HL1 HB2
  obtain ⟨a0, a1⟩ := two_freeP (HQB.out.live' HB3.out)
  obtain ⟨b0, b1⟩ := two_freeP (HQC.out.live' HB3.out)
  cases x1
  · go_wp2_with fail
    go_ret
    exact ⟨rfl, HB0.out.trans (HB3.out.mono hsz)⟩
  have HLA := Lib.hid (HX1.out rfl)
  have HL2 := Lib.hid (light_any (rc := rd) (HOB.out.low HB3.out))
  go_wp2_with fail
  with_reducible refine HL2.out.mono ?_
  rintro e w4 ⟨x2, rfl, hx2, hb4⟩
  have HX2 := Lib.hid hx2
  have HB4 := Lib.hid (HB3.out.trans (hb4.mono HB3.out.size))
  clear a0 a1 b0 b1 hx2 hb4 HL2 HB3 HX1
  cases x2
  · go_wp2_with fail
    go_ret
    exact ⟨rfl, HB0.out.trans (HB4.out.mono hsz)⟩
  have HLB := Lib.hid (HX2.out rfl)
  clear HX2
  go_wp2_with fail
  go_loop [11] (fun t => ∃ j : Nat, t = .int .i64 j ∧ j ≤ locs.length ∧ Hid (ShortTo locs j)) (fun t => locs.length - (intOf t).toNat)
  case atStart => exact ⟨0, rfl, Nat.zero_le _, Lib.hid (fun i hi => by omega)⟩
  case round =>
    obtain ⟨j, rfl, hj, HS⟩ := hrel
    by_cases hlt : j < locs.length
    · obtain ⟨g, off, rfl, hcj⟩ := nms_at (HNM.out.low HB4.out).nlocs hlt
      have e1 : (0 : Int) ≤ (j : Int) := by omega
      have e2 : (j : Int) < (locs.length : Int) := by omega
      have HS2 := Lib.hid (show (bs (locs.getD j [])).size ≤ 40 → ShortTo locs (j + 1) from fun h => HS.out.step (by rw [bs_size] at h; exact h))
      generalize bs (locs.getD j []) = X at *
      by_cases h40 : 40 < X.size
      · have e3 : decide ((40 : Int) < (X.size : Int)) = true := decide_eq_true (by omega)
        have e4 : decide (40 < X.size) = true := decide_eq_true (by omega)
        go_wp2_with fail
        go_ret
        exact ⟨rfl, HB0.out.trans (HB4.out.mono hsz)⟩
      · have e3 : decide ((40 : Int) < (X.size : Int)) = false := decide_eq_false (by omega)
        have e4 : decide (40 < X.size) = false := decide_eq_false (by omega)
        have HS3 := Lib.hid (HS2.out (by omega))
        go_wp2_with fail
        go_round
        case rel => exact ⟨j + 1, by go_num, by omega, HS3⟩
        case measure => simp [intOf]; omega
    · obtain rfl : j = locs.length := by omega
      have HSL := Lib.hid HS.out.all
      clear hlt hj HS
      have e3 : decide ((locs.length : Int) < (locs.length : Int)) = false := by simp
      go_wp2_with fail
      clear e3
      go_loop [12] (fun t => ∃ j : Nat, t = .int .i64 j ∧ j ≤ regs.length ∧ Hid (ShortsTo regs j)) (fun t => regs.length - (intOf t).toNat)
      case atStart => exact ⟨0, rfl, Nat.zero_le _, Lib.hid (fun i hi => by omega)⟩
      case round =>
        obtain ⟨j, rfl, hj, HS⟩ := hrel
        by_cases hlt : j < regs.length
        · obtain ⟨g, off, va, vc, rfl, hcj, hnn⟩ := nss_at (HNM.out.low HB4.out).nregs hlt
          have HNN := Lib.hid hnn
          have e1 : (0 : Int) ≤ (j : Int) := by omega
          have e2 : (j : Int) < (regs.length : Int) := by omega
          have hrj := HNM.out.gok.2 j
          unfold maxLen at hrj
          have HSJ := Lib.hid (fun h1 h2 => HS.out.step (j := j) h1 h2)
          generalize regs.getD j [] = RJ at *
          clear hnn
          by_cases h6 : 6 < RJ.length
          · have e3 : decide ((6 : Int) < (RJ.length : Int)) = true := decide_eq_true (by omega)
            have e4 : decide (6 < RJ.length) = true := decide_eq_true (by omega)
            go_wp2_with fail
            go_ret
            exact ⟨rfl, HB0.out.trans (HB4.out.mono hsz)⟩
          have e3 : decide ((6 : Int) < (RJ.length : Int)) = false := decide_eq_false (by omega)
          have e4 : decide (6 < RJ.length) = false := decide_eq_false (by omega)
          go_wp2_with fail
          go_loop [13] (fun t => ∃ j : Nat, t = .int .i64 j ∧ j ≤ RJ.length ∧ Hid (ShortTo RJ j)) (fun t => RJ.length - (intOf t).toNat)
          case atStart => exact ⟨0, rfl, Nat.zero_le _, Lib.hid (fun i hi => by omega)⟩
          case round =>
            obtain ⟨i, rfl, hi, HS'⟩ := hrel
            by_cases hlti : i < RJ.length
            · obtain ⟨g', off', rfl, hci⟩ := nms_at HNN.out hlti
              have f1 : (0 : Int) ≤ (i : Int) := by omega
              have f2 : (i : Int) < (RJ.length : Int) := by omega
              have HS2 := Lib.hid (show (bs (RJ.getD i [])).size ≤ 40 → ShortTo RJ (i + 1) from fun h => HS'.out.step (by rw [bs_size] at h; exact h))
              generalize bs (RJ.getD i []) = X at *
              by_cases h40 : 40 < X.size
              · have f3 : decide ((40 : Int) < (X.size : Int)) = true := decide_eq_true (by omega)
                have f4 : decide (40 < X.size) = true := decide_eq_true (by omega)
                go_wp2_with fail
                go_ret
                exact ⟨rfl, HB0.out.trans (HB4.out.mono hsz)⟩
              · have f3 : decide ((40 : Int) < (X.size : Int)) = false := decide_eq_false (by omega)
                have f4 : decide (40 < X.size) = false := decide_eq_false (by omega)
                have HS3 := Lib.hid (HS2.out (by omega))
                go_wp2_with fail
                go_round
                case rel => exact ⟨i + 1, by go_num, by omega, HS3⟩
                case measure => simp [intOf]; omega
            · obtain rfl : i = RJ.length := by omega
              have HS3 := Lib.hid (HSJ.out (by omega) HS'.out)
              clear hlti hi HS'
              have f3 : decide ((RJ.length : Int) < (RJ.length : Int)) = false := by simp
              go_wp2_with fail
              go_round
              case rel => exact ⟨j + 1, by go_num, by omega, HS3⟩
              case measure => simp [intOf]; omega
        · obtain rfl : j = regs.length := by omega
          have HSG := Lib.hid HS.out.all
          have HSN := Lib.hid HS.out.len
          clear hlt hj HS
          have e3 : decide ((regs.length : Int) < (regs.length : Int)) = false := by simp
          have hsml : Sml locs regs rv mv := ⟨by omega, by omega, HSN.out, HLA.out.smo.r, HLA.out.smo.rs, HLA.out.smo.m⟩
          have HAK := Lib.hid (fun w' (hb : Below W.heap.size W w') => (⟨HNM.out.low hb, HOA.out.low hb, hsml⟩ : AkIn w' la ga ra ma lc mc locs regs rv mv))
          have HSH := Lib.hid (⟨HSL.out, HSG.out⟩ : ShN locs regs)
          obtain ⟨a0, a1⟩ := two_freeP (HQB.out.live' HB4.out)
          obtain ⟨p0, p1, p2, p3, p4⟩ := five_freeC (HQA.out.live' HB4.out)
          have HHO := Lib.hid (fun w' (hb : Below W.heap.size W w') => postHolds_any (gc := gc) (rc := rc) E w' _ _ _ _ _ _ _ (HAK.out w' hb) (HLC.out.low hb))
          have HRO := Lib.hid (fun w' (hb : Below W.heap.size W w') => rHolds_any (gc := gc) (rc := rc) E w' _ (HAK.out w' hb) (HLC.out.low hb) (by have := HCD.out (by omega); omega))
          generalize hd locs regs rv mv 6 E = R at *
          clear hsml
          have HLN := Lib.hid (fun w' (hb : Below W.heap.size W w') => postLine_any (B := w.heap.size) (gc := gc) (rc := rc) (HAK.out w' hb) HSH.out (by have := hb.size; omega) (HT.out.low hsz hb))
          have HRN := Lib.hid (fun w' (hb : Below W.heap.size W w') => rLine_any (gc := gc) (rc := rc) (HAK.out w' hb) HSH.out)
          generalize bs (Lib.join (lnp locs regs rv mv) [32]) = LN at *
          have HOO := Lib.hid (P.ordO_in rv mv rw' mw)
          have HSM := Lib.hid (fun b hh w' (hb : Below W.heap.size W w') => postSame_any (rc := rc) (rc' := rd) b (HOA.out.low hb) (HOB.out.low hb) HLA.out.smo HLB.out.smo hh)
          have HLS := Lib.hid (fun b hh w' (hb : Below W.heap.size W w') => postLess_any (rc := rc) (rc' := rd) b (HOA.out.low hb) (HOB.out.low hb) HLA.out.smo HLB.out.smo hh)
          have HOR := Lib.hid (fun w' (hb : Below W.heap.size W w') => rOrder_any (rc := rc) (rc' := rd) (HOA.out.low hb) (HOB.out.low hb) HLA.out.smo HLB.out.smo)
          generalize ordO rv mv rw' mw = O at *
          have hKS := Lib.hid (show ∀ w', Below W.heap.size W w' → (w'.cell? ⟨w.heap.size + 1, 0, none⟩ = some (.slice ra rv.length rc) ∧ w'.cell? ⟨w.heap.size + 1, 1, none⟩ = some (.slice ma mv.length mc) ∧ w'.cell? ⟨w.heap.size + 1 + 1, 0, none⟩ = some (.slice rb rw'.length rd) ∧ w'.cell? ⟨w.heap.size + 1 + 1, 1, none⟩ = some (.slice mb mw.length md)) from fun w' hb => ⟨(HQB.out.live' hb).cell 0, (HQB.out.live' hb).cell 1, (HQC.out.live' hb).cell 0, (HQC.out.live' hb).cell 1⟩)
          cases R
          all_goals
            have HH1 := Lib.hid (HHO.out w4 HB4.out)
            unfold HoTo holdR at HH1
            go_wp2_with fail
            with_reducible refine HH1.out.mono ?_
            rintro e w5 ⟨rfl, hb5⟩
            have HB5 := Lib.hid (HB4.out.trans (hb5.mono HB4.out.size))
            have HH2 := Lib.hid (HRO.out w5 HB5.out)
            unfold HoTo holdR at HH2
            clear a0 a1 p0 p1 p2 p3 p4 hb5 HH1
            obtain ⟨a0, a1⟩ := two_freeP (HQB.out.live' HB5.out)
            obtain ⟨p0, p1, p2, p3, p4⟩ := five_freeC (HQA.out.live' HB5.out)
            go_wp2_with fail
            with_reducible refine HH2.out.mono ?_
            rintro e w6 ⟨rfl, hb6⟩
            have HB6 := Lib.hid (HB5.out.trans (hb6.mono HB5.out.size))
            clear a0 a1 p0 p1 p2 p3 p4 hb6 HH2 HHO HRO
            have hb0 : Below W.heap.size W w6 := HB6.out
            have hbD : Below W.heap.size W w6.drew := HB6.out.trans ((Below.refl _ _).drew)
            have HK0 := Lib.hid (hKS.out w6 hb0)
            have HKD := Lib.hid (hKS.out w6.drew hbD)
            rcases HOO.out with hO | hO | hO
            all_goals
              subst hO
              have HSM1 := Lib.hid (fun w' (hb : Below W.heap.size W w') => (HSM.out _ rfl w' hb).mono fun e w'' (hh : BoolTo _ w' e w'') => (show e = .returned (.bool _) ∧ Below W.heap.size W w'' from ⟨hh.1, hb.trans (hh.2.mono hb.size)⟩))
              have HLS1 := Lib.hid (fun w' (hb : Below W.heap.size W w') => (HLS.out _ rfl w' hb).mono fun e w'' (hh : BoolTo _ w' e w'') => (show e = .returned (.bool _) ∧ Below W.heap.size W w'' from ⟨hh.1, hb.trans (hh.2.mono hb.size)⟩))
              have HOR1 := Lib.hid (fun w' (hb : Below W.heap.size W w') => (HOR.out w' hb).mono fun e w'' (hh : NumTo _ w' e w'') => (show e = .returned (.int .i64 _) ∧ Below W.heap.size W w'' from ⟨hh.1, hb.trans (hh.2.mono hb.size)⟩))
              have HLN1 := Lib.hid (fun w' (hb : Below W.heap.size W w') => (HLN.out w' hb).mono fun e w'' (hh : TextTo LN w' e w'') => (show e = .returned (.string LN) ∧ Below W.heap.size W w'' from ⟨hh.1, hb.trans (hh.2.mono hb.size)⟩))
              have HRN1 := Lib.hid (fun w' (hb : Below W.heap.size W w') => (HRN.out w' hb).mono fun e w'' (hh : TextTo LN w' e w'') => (show e = .returned (.string LN) ∧ Below W.heap.size W w'' from ⟨hh.1, hb.trans (hh.2.mono hb.size)⟩))
              try simp only [show ((-1 : Int) == 0) = false from rfl, show ((0 : Int) == 0) = true from rfl, show ((1 : Int) == 0) = false from rfl] at HSM1
              try simp only [show decide ((-1 : Int) < 0) = true from rfl, show decide ((0 : Int) < 0) = false from rfl, show decide ((1 : Int) < 0) = false from rfl] at HLS1
              clear HSM HLS HOR HLN HRN HOO
              go_wp2_with fail
              go_region_held3 (fun w' => (w'.cell? ⟨w.heap.size + 1, 0, none⟩ = some (.slice ra rv.length rc) ∧ w'.cell? ⟨w.heap.size + 1, 1, none⟩ = some (.slice ma mv.length mc) ∧ w'.cell? ⟨w.heap.size + 1 + 1, 0, none⟩ = some (.slice rb rw'.length rd) ∧ w'.cell? ⟨w.heap.size + 1 + 1, 1, none⟩ = some (.slice mb mw.length md)))
                (first
                  | with_reducible exact HK0.out
                  | with_reducible exact HKD.out
                  | with_reducible assumption
                  | go_keep)
                (first
                  | (go_at_call 24; (with_reducible refine (HSM1.out _ (by assumption)).mono ?_); rintro e w7 ⟨rfl, hb7⟩; have hS7 := hKS.out w7 hb7)
                  | (go_at_call 25; (with_reducible refine (HOR1.out _ (by assumption)).mono ?_); rintro e w8 ⟨rfl, hb8⟩; have hS8 := hKS.out w8 hb8)
                  | (go_at_call 26; (with_reducible refine (HLS1.out _ (by assumption)).mono ?_); rintro e w9 ⟨rfl, hb9⟩; have hS9 := hKS.out w9 hb9)
                  | (go_at_call 27; (with_reducible refine (HLN1.out _ (by assumption)).mono ?_); rintro e w10 ⟨rfl, hb10⟩; have hS10 := hKS.out w10 hb10)
                  | (go_at_call 28; (with_reducible refine (HRN1.out _ (by assumption)).mono ?_); rintro e w11 ⟨rfl, hb11⟩; have hS11 := hKS.out w11 hb11))
              all_goals
                go_wp2_with fail
                go_ret
                exact ⟨rfl, HB0.out.trans (hb11.mono hsz)⟩
end Go.Proofs.YtchokfgffnomoaaDoor.Lx
