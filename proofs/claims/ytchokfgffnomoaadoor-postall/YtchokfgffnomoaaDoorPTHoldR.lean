/-
  What the document's Holds tells, as a contract.
-/
import Derived.Test.YtchokfgffnomoaaDoorPTCond
import Derived.Test.YtchokfgffnomoaaDoorPTOrdR
namespace Go.Proofs.YtchokfgffnomoaaDoor.Lx
open Go.RowKit
open P (CO plI hasP hd cdp cdps)
set_option maxRecDepth 100000
set_option linter.unusedVariables false
set_option linter.unusedSimpArgs false
theorem quietC {P : Program} {f : FuncId} {args : Array Value} {w : World} {n : Nat} {v : Value}
    (h : Calls P f args (w.drewN n) fun e w' => e = .returned v ∧ w.drewN n = w') : Calls P f args (w.drewN n) fun e w'' => e = .returned v ∧ ∃ m, w'' = w.drewN m :=
  h.mono fun _ _ ⟨he, hm⟩ => ⟨he, n, hm.symm⟩
theorem cdps_takeC {ks : List CO} {j : Nat} {e : CO} (h : ks[j]? = some e) : cdps (ks.take (j + 1)) = max (cdps (ks.take j)) (cdp e) := by
  have hl : ∀ (xs : List CO), cdps (xs ++ [e]) = max (cdps xs) (cdp e) := by
    intro xs
    induction xs with
    | nil =>
      have h0 : cdps [] = 0 := by rw [P.cdps]
      rw [List.nil_append, h0, P.cdps, h0]
      omega
    | cons x xs ih =>
      rw [List.cons_append, P.cdps, P.cdps, ih]
      omega
  obtain ⟨hj, he⟩ := List.getElem?_eq_some_iff.1 h
  rw [List.take_succ_eq_append_getElem hj, he]
  exact hl _
set_option maxHeartbeats 6400000 in
theorem rdeepC_any : ∀ (m : Nat) (e : CO), m ≤ 1000 → cdp e ≤ m → ∀ (v : Value) (w : World), LC (fun _ => True) w v e → Calls Tryd.prog 42 #[v] w (fun e' w' => e' = .returned (.int .i64 (cdp e : Nat)) ∧ Below w.heap.size w w')
  | 0, .mk op t s k ks, _, hd, _, _, _ => by
    rw [P.cdp] at hd
    omega
  | m + 1, .mk op t s k ks, hm, hd, v, w, hv => by
    have hv0 := hv
    unfold LC at hv0
    obtain ⟨a, cap, rfl, hmx, hc⟩ := hv0
    unfold maxLen at hmx
    have HB := Lib.hid (one_belowC w (.cells #[.int .i64 op, .int .i64 t, .string (bs s), .int .i64 k, .slice a ks.length cap] 26))
    have HQ := Lib.hid (Blk.new w 26 #[.int .i64 op, .int .i64 t, .string (bs s), .int .i64 k, .slice a ks.length cap])
    rw [P.cdp] at hd ⊢
    have hd' : cdps ks ≤ m := by omega
    have HD := Lib.hid (show ∀ j, cdps (ks.take j) ≤ m from fun j => P.cdps_le (m := m) (fun e he => Nat.le_trans (P.cdps_mem (List.mem_of_mem_take he)) hd'))
    have HA := Lib.hid (show ∀ j e, ks[j]? = some e → ∀ v w, LC (fun _ => True) w v e → Calls Tryd.prog 42 #[v] w (fun e' w' => e' = .returned (.int .i64 (cdp e : Nat)) ∧ Below w.heap.size w w') from fun j e he v w hv => rdeepC_any m e (by omega) (Nat.le_trans (P.cdps_mem (List.mem_of_getElem? he)) hd') v w hv)
    have HC := Lib.hid hc
    clear hc hd hv hd'
    generalize bs s = S at *
    go_enter Tryd.func42, Tryd.ntmps42
    go_wp2_with fail
    generalize hW : w.alloc (.cells #[.int .i64 op, .int .i64 t, .string S, .int .i64 k, .slice a ks.length cap] 26) = W at *
    have hwl : w.heap.size < W.heap.size := HQ.out.lt
    clear hW
    go_loopw [3, 4] (fun d i wr => (∃ j : Nat, j ≤ ks.length ∧ i = .int .i64 (j : Nat) ∧ d = .int .i64 (cdps (ks.take j) : Nat)) ∧ Below W.heap.size W wr) (fun _ i _ => ks.length - (intOf i).toNat)
    case atStart => exact ⟨⟨0, Nat.zero_le _, rfl, by rw [List.take_zero, P.cdps]; rfl⟩, Below.refl _ _⟩
    case round =>
      obtain ⟨⟨j, hj, rfl, rfl⟩, hbr⟩ := hrel
      have HBR := Lib.hid hbr
      obtain ⟨p0, p1, p2, p3, p4⟩ := five_freeC (HQ.out.live' hbr)
      have hD := HD.out j
      clear hbr
      by_cases hlt : j < ks.length
      · obtain ⟨g, off, rfl, _, hs⟩ : ∃ g off, a = some ⟨g, off, none⟩ ∧ True ∧ LCs (fun _ => True) w g off ks := by
          rcases HC.out with h0 | h0
          · rw [h0] at hlt
            simp at hlt
          · exact h0
        obtain ⟨x, a0, a1, a2, a3, a4, hx, k0, k1, k2, k3, k4, hlx⟩ := LCs.at ks hs j hlt
        have hbw := HB.out.trans (HBR.out.mono HB.out.size)
        have hq : ∀ (o : Nat) (u : Value), w.cell? ⟨g, o, none⟩ = some u → wr.cell? ⟨g, o, none⟩ = some u := fun o u hu => (hbw.cell (p := ⟨g, o, none⟩) (World.block_lt_of_cell? w _ hu)).trans hu
        have c0 := hq _ _ k0
        have c1 := hq _ _ k1
        have c2 := hq _ _ k2
        have c3 := hq _ _ k3
        have c4 := hq _ _ k4
        have HX := Lib.hid (HA.out j x hx _ wr (LC.keep (Keeps.below hbw (Nat.le_refl _)) x hlx))
        have HT := Lib.hid (cdps_takeC hx)
        have hD1 := HD.out (j + 1)
        rw [cdps_takeC hx] at hD1
        have d1 : (0 : Int) ≤ (j : Int) := by omega
        have d2 : (j : Int) < (ks.length : Int) := by omega
        have d3 : decide ((j : Int) < (ks.length : Int)) = true := by simpa using hlt
        have d4 : decide (j < ks.length) = true := by simpa using hlt
        clear hs hx k0 k1 k2 k3 k4 hlx hbw hq
        generalize hAx : cdp x = AX at *
        generalize hAk : cdps (ks.take j) = AK at *
        clear hAx hAk
        by_cases hgt : AK < AX
        · have HM := Lib.hid (show AX = max AK AX by omega)
          have d5 : decide ((AK : Int) < (AX : Int)) = true := by simpa using hgt
          have d6 : decide (AK < AX) = true := by simpa using hgt
          go_wp2_with fail
          with_reducible refine HX.out.mono ?_
          rintro e w2 ⟨rfl, hb2⟩
          go_wp2_with fail
          go_roundw
          case rel => exact ⟨⟨j + 1, by omega, by go_num, by rw [HT.out, ← HM.out]⟩, HBR.out.trans (hb2.mono HBR.out.size)⟩
          case measure => simp [intOf]; omega
        · have HM := Lib.hid (show AK = max AK AX by omega)
          have d5 : decide ((AK : Int) < (AX : Int)) = false := by simpa using hgt
          have d6 : decide (AK < AX) = false := by simpa using hgt
          go_wp2_with fail
          with_reducible refine HX.out.mono ?_
          rintro e w2 ⟨rfl, hb2⟩
          go_wp2_with fail
          go_roundw
          case rel => exact ⟨⟨j + 1, by omega, by go_num, by rw [HT.out, ← HM.out]⟩, HBR.out.trans (hb2.mono HBR.out.size)⟩
          case measure => simp [intOf]; omega
      · obtain rfl : j = ks.length := by omega
        have d3 : decide ((ks.length : Int) < (ks.length : Int)) = false := by simp
        have d4 : decide (ks.length < ks.length) = false := by simp
        rw [List.take_length] at hD ⊢
        clear hlt
        generalize hAK : cdps ks = AK at *
        have HAK := Lib.hid hAK
        clear hAK
        go_wp2_with fail
        go_ret
        exact ⟨by rw [HAK.out]; go_num, HB.out.trans (HBR.out.mono HB.out.size)⟩

def RhIn (locs : List (List UInt8)) (regs : List (List (List UInt8))) (rv : List (List Int)) (mv : List Int) (m : Nat) : Prop := ∀ (e : CO) (w : World) (la ga ra ma : Option Addr) (lc gc rc mc : Nat) (v : Value), AkIn w la ga ra ma lc mc locs regs rv mv → LC (fun _ => True) w v e → cdp e ≤ m → Calls Tryd.prog 43 #[v, .slice la locs.length lc, .slice ga regs.length gc, .agg #[.slice ra rv.length rc, .slice ma mv.length mc]] w (HoTo (hd locs regs rv mv m e) w)
set_option maxHeartbeats 12800000 in
theorem rh_one {la ga ra ma : Option Addr} {lc gc rc mc : Nat} {locs : List (List UInt8)} {regs : List (List (List UInt8))} {rv : List (List Int)} {mv : List Int} (w : World) (h : AkIn w la ga ra ma lc mc locs regs rv mv) (v : Value) (t n : Int) (s : List UInt8) (ks : List CO) (hc : LC (fun _ => True) w v (.mk 1 t s n ks)) :
    Calls Tryd.prog 43 #[v, .slice la locs.length lc, .slice ga regs.length gc, .agg #[.slice ra rv.length rc, .slice ma mv.length mc]] w (HoTo (if ks.length = 0 then hasP locs mv s n else none) w) := by
  have hc0 := hc
  unfold LC at hc0
  obtain ⟨a, cap, rfl, hmx, hck⟩ := hc0
  unfold maxLen at hmx
  obtain ⟨hb2, hA, hC⟩ := two_newC w #[.int .i64 1, .int .i64 t, .string (bs s), .int .i64 n, .slice a ks.length cap] #[.slice ra rv.length rc, .slice ma mv.length mc] 26 46
  have HB := Lib.hid hb2
  have hbd := P.plI_bd s locs
  have hll := h.sml.l
  have hml := h.sml.m
  have HP := Lib.hid (rplace_any locs s (fun _ => True) _ _ (h.nam.low hb2).nlocs (by omega))
  by_cases h1 : plI s locs < 0
  · have hh : (if ks.length = 0 then hasP locs mv s n else none) = none := by
      have hq : hasP locs mv s n = none := by
        unfold P.hasP
        rw [if_pos (.inl h1)]
      rw [hq]
      split <;> rfl
    rw [hh]
    have hk : plI s locs = -1 := by omega
    rw [hk] at HP
    clear hh hk h1 hbd hc h hck hb2 hA hC
    generalize bs s = S at *
    go_enter Tryd.func43, Tryd.ntmps43
    go_wp2_with fail
    with_reducible refine HP.out.mono ?_
    rintro e w2 ⟨rfl, rfl⟩
    go_wp2_with fail
    go_ret2
    exact ⟨rfl, HB.out⟩
  obtain ⟨i, hi⟩ : ∃ i : Nat, plI s locs = i := ⟨(plI s locs).toNat, by omega⟩
  have d0 : decide ((i : Int) < 0) = false := by simp
  by_cases h2 : (mv.length : Int) ≤ plI s locs
  · have hh : (if ks.length = 0 then hasP locs mv s n else none) = none := by
      have hq : hasP locs mv s n = none := by
        unfold P.hasP
        rw [if_pos (.inr h2)]
      rw [hq]
      split <;> rfl
    rw [hh]
    rw [hi] at h2
    rw [hi] at HP
    have d1 : decide ((mv.length : Int) ≤ (i : Int)) = true := decide_eq_true h2
    have d2 : decide (mv.length ≤ i) = true := decide_eq_true (by omega)
    clear hh hi h1 h2 hbd hc h hck hb2 hA hC
    generalize bs s = S at *
    go_enter Tryd.func43, Tryd.ntmps43
    go_wp2_with fail
    with_reducible refine HP.out.mono ?_
    rintro e w2 ⟨rfl, rfl⟩
    go_wp2_with fail
    go_ret2
    exact ⟨rfl, HB.out⟩
  rw [hi] at h2
  have d1 : decide ((mv.length : Int) ≤ (i : Int)) = false := decide_eq_false h2
  have d2 : decide (mv.length ≤ i) = false := decide_eq_false (by omega)
  have d3 : (0 : Int) ≤ (i : Int) := by omega
  have d4 : (i : Int) < (mv.length : Int) := by omega
  by_cases hk : ks.length = 0
  · have hh : (if ks.length = 0 then hasP locs mv s n else none) = some (mv.getD i 0 == n) := by
      unfold P.hasP
      rw [if_pos hk, if_neg (by omega), hi]
      rfl
    rw [hh]
    rw [hi] at HP
    have d5 : decide ((0 : Int) < (ks.length : Int)) = false := decide_eq_false (by omega)
    have d6 : decide (0 < ks.length) = false := decide_eq_false (by omega)
    obtain ⟨g, off, rfl, hcell⟩ := ivs_at (h.out.low hb2).mem (i := i) (by omega)
    obtain ⟨q0, q1, q2, q3, q4⟩ := five_freeC hA
    obtain ⟨p0, p1⟩ := two_freeP hC
    clear hh hi h1 h2 hbd hc h hck hb2 hA hC hk
    generalize mv.getD i 0 = X at *
    generalize bs s = S at *
    go_enter Tryd.func43, Tryd.ntmps43
    go_wp2_with fail
    with_reducible refine HP.out.mono ?_
    rintro e w2 ⟨rfl, rfl⟩
    generalize hW : (w.alloc (.cells #[.int .i64 1, .int .i64 t, .string S, .int .i64 n, .slice a ks.length cap] 26)).alloc (.cells #[.slice ra rv.length rc, .slice (some ⟨g, off, none⟩) mv.length mc] 46) = W at *
    clear hW HP
    go_wp2_with fail
    go_quiet (fail)
    go_wp2_with fail
    go_ret2
    exact ⟨rfl, HB.out.trans ((bel_drewN _ _).mono HB.out.size)⟩
  · rw [if_neg hk]
    rw [hi] at HP
    have d5 : decide ((0 : Int) < (ks.length : Int)) = true := decide_eq_true (by omega)
    have d6 : decide (0 < ks.length) = true := decide_eq_true (by omega)
    clear hi h1 h2 hbd hc h hck hb2 hA hC hk
    generalize bs s = S at *
    go_enter Tryd.func43, Tryd.ntmps43
    go_wp2_with fail
    with_reducible refine HP.out.mono ?_
    rintro e w2 ⟨rfl, rfl⟩
    go_wp2_with fail
    go_ret2
    exact ⟨rfl, HB.out⟩
set_option maxHeartbeats 12800000 in
theorem rh_two {la ga ra ma : Option Addr} {lc gc rc mc : Nat} {locs : List (List UInt8)} {regs : List (List (List UInt8))} {rv : List (List Int)} {mv : List Int} (w : World) (h : AkIn w la ga ra ma lc mc locs regs rv mv) (v : Value) (t n : Int) (s : List UInt8) (ks : List CO) (hc : LC (fun _ => True) w v (.mk 2 t s n ks)) :
    Calls Tryd.prog 43 #[v, .slice la locs.length lc, .slice ga regs.length gc, .agg #[.slice ra rv.length rc, .slice ma mv.length mc]] w (HoTo (if ks.length = 0 ∧ 0 ≤ t ∧ t < regs.length ∧ t < rv.length then hasP (regs.getD t.toNat []) (rv.getD t.toNat []) s n else none) w) := by
  have hc0 := hc
  unfold LC at hc0
  obtain ⟨a, cap, rfl, hmx, hck⟩ := hc0
  unfold maxLen at hmx
  obtain ⟨hb2, hA, hC⟩ := two_newC w #[.int .i64 2, .int .i64 t, .string (bs s), .int .i64 n, .slice a ks.length cap] #[.slice ra rv.length rc, .slice ma mv.length mc] 26 46
  have HB := Lib.hid hb2
  have hgl := h.sml.g
  have hrl := h.sml.r
  by_cases ht : t < 0
  · rw [if_neg (by omega)]
    have d3 : decide (t < 0) = true := decide_eq_true (by omega)
    clear hc h hck hb2 hA hC
    generalize bs s = S at *
    go_enter Tryd.func43, Tryd.ntmps43
    go_wp2_with fail
    go_ret2
    exact ⟨rfl, HB.out⟩
  obtain ⟨j, rfl⟩ : ∃ j : Nat, t = (j : Nat) := ⟨t.toNat, by omega⟩
  have d3 : decide ((j : Int) < 0) = false := by simp
  clear ht
  by_cases hg : regs.length ≤ j
  · rw [if_neg (by omega)]
    have d4 : decide ((regs.length : Int) ≤ (j : Int)) = true := decide_eq_true (by omega)
    have d5 : decide (regs.length ≤ j) = true := decide_eq_true hg
    clear hg
    clear hc h hck hb2 hA hC
    generalize bs s = S at *
    go_enter Tryd.func43, Tryd.ntmps43
    go_wp2_with fail
    go_ret2
    exact ⟨rfl, HB.out⟩
  have d4 : decide ((regs.length : Int) ≤ (j : Int)) = false := decide_eq_false (by omega)
  have d5 : decide (regs.length ≤ j) = false := decide_eq_false hg
  by_cases hr : rv.length ≤ j
  · rw [if_neg (by omega)]
    have d6 : decide ((rv.length : Int) ≤ (j : Int)) = true := decide_eq_true (by omega)
    have d7 : decide (rv.length ≤ j) = true := decide_eq_true hr
    clear hr hg
    clear hc h hck hb2 hA hC
    generalize bs s = S at *
    go_enter Tryd.func43, Tryd.ntmps43
    go_wp2_with fail
    go_ret2
    exact ⟨rfl, HB.out⟩
  have d6 : decide ((rv.length : Int) ≤ (j : Int)) = false := decide_eq_false (by omega)
  have d7 : decide (rv.length ≤ j) = false := decide_eq_false hr
  by_cases hk : 0 < ks.length
  · rw [if_neg (by omega)]
    have d8 : decide ((0 : Int) < (ks.length : Int)) = true := decide_eq_true (by omega)
    have d9 : decide (0 < ks.length) = true := decide_eq_true (by omega)
    clear hr hg hk
    clear hc h hck hb2 hA hC
    generalize bs s = S at *
    go_enter Tryd.func43, Tryd.ntmps43
    go_wp2_with fail
    go_ret2
    exact ⟨rfl, HB.out⟩
  have d8 : decide ((0 : Int) < (ks.length : Int)) = false := decide_eq_false (by omega)
  have d9 : decide (0 < ks.length) = false := decide_eq_false (by omega)
  rw [if_pos (by omega), Int.toNat_natCast]
  have hjg : j < regs.length := by omega
  have hjr : j < rv.length := by omega
  obtain ⟨g1, o1, na, nc, rfl, hg1, hn1⟩ := nss_at (h.nam.low hb2).nregs hjg
  obtain ⟨g2, o2, va, vc, rfl, hg2, hn2⟩ := vss_at (h.out.low hb2).regs hjr
  have hl1 := h.sml.gs j
  have hl2 := h.sml.rs j
  generalize regs.getD j [] = names at *
  generalize rv.getD j [] = vals at *
  have e1 : (0 : Int) ≤ (j : Int) := by omega
  have e2 : (j : Int) < (regs.length : Int) := by omega
  have e3 : (j : Int) < (rv.length : Int) := by omega
  have hbd := P.plI_bd s names
  have HP := Lib.hid (fun k => quietC (rplace_any names s (fun _ => True) _ _ (hn1.drewN k) (by omega)))
  obtain ⟨q0, q1, q2, q3, q4⟩ := five_freeC hA
  obtain ⟨p0, p1⟩ := two_freeP hC
  have HN2 := Lib.hid hn2
  clear hc h hck hb2 hA hC hn1 hn2 hjg hjr hk hr hg
  by_cases h1 : plI s names < 0
  · have hh : hasP names vals s n = none := by
      unfold P.hasP
      rw [if_pos (.inl h1)]
    rw [hh]
    have hk : plI s names = -1 := by omega
    rw [hk] at HP
    clear hh hk h1 hbd
    generalize bs s = S at *
    go_enter Tryd.func43, Tryd.ntmps43
    go_wp2_with fail
    generalize hW : (w.alloc (.cells #[.int .i64 2, .int .i64 (j : Nat), .string S, .int .i64 n, .slice a ks.length cap] 26)).alloc (.cells #[.slice (some ⟨g2, o2, none⟩) rv.length rc, .slice ma mv.length mc] 46) = W at *
    clear hW
    go_quiet ((go_at_call 58; exact HP.out _))
    go_wp2_with fail
    go_ret2
    exact ⟨rfl, HB.out.trans ((bel_drewN _ _).mono HB.out.size)⟩
  obtain ⟨i, hi⟩ : ∃ i : Nat, plI s names = i := ⟨(plI s names).toNat, by omega⟩
  have d0 : decide ((i : Int) < 0) = false := by simp
  by_cases h2 : (vals.length : Int) ≤ plI s names
  · have hh : hasP names vals s n = none := by
      unfold P.hasP
      rw [if_pos (.inr h2)]
    rw [hh]
    rw [hi] at h2
    rw [hi] at HP
    have f1 : decide ((vals.length : Int) ≤ (i : Int)) = true := decide_eq_true h2
    have f2 : decide (vals.length ≤ i) = true := decide_eq_true (by omega)
    clear hh hi h1 h2 hbd
    generalize bs s = S at *
    go_enter Tryd.func43, Tryd.ntmps43
    go_wp2_with fail
    generalize hW : (w.alloc (.cells #[.int .i64 2, .int .i64 (j : Nat), .string S, .int .i64 n, .slice a ks.length cap] 26)).alloc (.cells #[.slice (some ⟨g2, o2, none⟩) rv.length rc, .slice ma mv.length mc] 46) = W at *
    clear hW
    go_quiet ((go_at_call 58; exact HP.out _))
    go_wp2_with fail
    go_ret2
    exact ⟨rfl, HB.out.trans ((bel_drewN _ _).mono HB.out.size)⟩
  · have hh : hasP names vals s n = some (vals.getD i 0 == n) := by
      unfold P.hasP
      rw [if_neg (by omega), hi]
      rfl
    rw [hh]
    rw [hi] at h2
    rw [hi] at HP
    have f1 : decide ((vals.length : Int) ≤ (i : Int)) = false := decide_eq_false h2
    have f2 : decide (vals.length ≤ i) = false := decide_eq_false (by omega)
    have f3 : (0 : Int) ≤ (i : Int) := by omega
    have f4 : (i : Int) < (vals.length : Int) := by omega
    obtain ⟨g, off, rfl, hcell⟩ := ivs_at HN2.out (i := i) (by omega)
    clear hh hi h1 h2 hbd HN2
    generalize vals.getD i 0 = X at *
    generalize bs s = S at *
    go_enter Tryd.func43, Tryd.ntmps43
    go_wp2_with fail
    generalize hW : (w.alloc (.cells #[.int .i64 2, .int .i64 (j : Nat), .string S, .int .i64 n, .slice a ks.length cap] 26)).alloc (.cells #[.slice (some ⟨g2, o2, none⟩) rv.length rc, .slice ma mv.length mc] 46) = W at *
    clear hW
    go_quiet ((go_at_call 58; exact HP.out _))
    clear HP
    go_wp2_with fail
    go_quiet (fail)
    go_wp2_with fail
    go_ret2
    exact ⟨rfl, HB.out.trans ((by rw [World.drewN_drewN]; exact bel_drewN W _ : Below W.heap.size W _).mono HB.out.size)⟩
end Go.Proofs.YtchokfgffnomoaaDoor.Lx
