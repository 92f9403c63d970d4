/-
  What cond and Holds of post tell, as contracts.
-/
import Derived.Test.YtchokfgffnomoaaDoorPTCond
namespace Go.Proofs.YtchokfgffnomoaaDoor.Lx
open Go.RowKit
open P (CO plI hasP hd)
set_option maxRecDepth 100000
set_option linter.unusedVariables false
set_option linter.unusedSimpArgs false
theorem hd_oneP {locs : List (List UInt8)} {regs : List (List (List UInt8))} {rv : List (List Int)} {mv : List Int} {m : Nat} {t n : Int} {s : List UInt8} {ks : List CO} : hd locs regs rv mv (m + 1) (.mk 1 t s n ks) = (if ks.length = 0 then hasP locs mv s n else none) := P.hd_one rfl
theorem hd_twoP {locs : List (List UInt8)} {regs : List (List (List UInt8))} {rv : List (List Int)} {mv : List Int} {m : Nat} {t n : Int} {s : List UInt8} {ks : List CO} : hd locs regs rv mv (m + 1) (.mk 2 t s n ks) = (if ks.length = 0 ∧ 0 ≤ t ∧ t < regs.length ∧ t < rv.length then hasP (regs.getD t.toNat []) (rv.getD t.toNat []) s n else none) := P.hd_two rfl
set_option maxHeartbeats 12800000 in
theorem cond_any {locs : List (List UInt8)} {regs : List (List (List UInt8))} {rv : List (List Int)} {mv : List Int} : ∀ (m : Nat), m ≤ 50 → CondIn locs regs rv mv m
  | 0, _ => fun e w la ga ra ma lc gc rc mc v h hc => by
    obtain ⟨o, t, s, n, ks⟩ := e
    unfold LC at hc
    obtain ⟨a, cap, rfl, _, _⟩ := hc
    rw [show hd locs regs rv mv 0 (.mk o t s n ks) = none from rfl]
    obtain ⟨hb2, hA, hC⟩ := two_newC w #[.slice la locs.length lc, .slice ga regs.length gc, .slice ra rv.length rc, .slice ma mv.length mc, .int .i64 ((0 : Nat) : Int)] #[.int .i64 o, .int .i64 t, .string (bs s), .int .i64 n, .slice a ks.length cap] 84 26
    have HB := Lib.hid hb2
    clear h hb2 hA hC
    generalize bs s = S at *
    rw [show ((0 : Nat) : Int) = 0 from rfl] at *
    go_enter Tryd.func41, Tryd.ntmps41
    go_wp2_with fail
    go_ret2
    exact ⟨rfl, HB.out⟩
  | m + 1, hm => fun e w la ga ra ma lc gc rc mc v h hc => by
    have IH := cond_any (locs := locs) (regs := regs) (rv := rv) (mv := mv) m (by omega)
    obtain ⟨o, t, s, n, ks⟩ := e
    have hc0 := hc
    unfold LC at hc0
    obtain ⟨a, cap, rfl, hmx, _⟩ := hc0
    unfold maxLen at hmx
    rw [show ((m + 1 : Nat) : Int) = (m : Int) + 1 by omega]
    have d1 : ((m : Int) + 1 == 0) = false := by simp; omega
    have d2 : (m : Int) + 1 - 1 = (m : Int) := by omega
    have d3 : decide ((m : Int) + 1 = 0) = false := decide_eq_false (by omega)
    by_cases h1 : o = 1
    · subst h1
      have HA := Lib.hid (show ∀ w', Below w.heap.size w w' → Calls Tryd.prog 76 #[.agg #[.slice la locs.length lc, .slice ga regs.length gc, .slice ra rv.length rc, .slice ma mv.length mc, .int .i64 (m : Nat)], .agg #[.int .i64 1, .int .i64 t, .string (bs s), .int .i64 n, .slice a ks.length cap]] w' (HoTo (hd locs regs rv mv (m + 1) (.mk 1 t s n ks)) w') from fun w' hb => by rw [hd_oneP]; exact mem_any (h.low hb) _ _ t n s ks (hc.low hb))
      generalize hd locs regs rv mv (m + 1) (.mk 1 t s n ks) = R at *
      clear hc h IH
      generalize bs s = S at *
      obtain ⟨hb2, hA, hC⟩ := two_newC w #[.slice la locs.length lc, .slice ga regs.length gc, .slice ra rv.length rc, .slice ma mv.length mc, .int .i64 (m : Nat)] #[.int .i64 1, .int .i64 t, .string S, .int .i64 n, .slice a ks.length cap] 84 26
      have HB := Lib.hid hb2
      have HC := Lib.hid hC
      clear hb2 hA hC
      cases R
      all_goals
        go_enter Tryd.func41, Tryd.ntmps41
        go_wp2_with fail
        with_reducible refine (askOf_any 1 _ _ _ _ _ _).mono ?_
        rintro e w2 ⟨rfl, hb2⟩
        rw [show fk 1 #[.slice la locs.length lc, .slice ga regs.length gc, .slice ra rv.length rc, .slice ma mv.length mc, .int .i64 (m : Nat)] = .func (.func 76) #[.agg #[.slice la locs.length lc, .slice ga regs.length gc, .slice ra rv.length rc, .slice ma mv.length mc, .int .i64 (m : Nat)]] #[] from rfl]
        obtain ⟨q0, q1, q2, q3, q4⟩ := five_freeC (HC.out.live' hb2)
        have HB2 := Lib.hid (HB.out.trans (hb2.mono HB.out.size))
        have HA2 := Lib.hid (HA.out w2 HB2.out)
        clear hb2 HA HB HC
        have hrun : Sem.run Tryd.prog (binOp BinOp.eql 85 (.func (.func 76) #[.agg #[.slice la locs.length lc, .slice ga regs.length gc, .slice ra rv.length rc, .slice ma mv.length mc, .int .i64 (m : Nat)]] #[]) .nilFunc) w2 = .ok (.bool false) w2 := by kernel_rfl
        go_wp2_with fail
        with_reducible refine HA2.out.mono ?_
        rintro e w3 ⟨rfl, hb3⟩
        unfold holdR
        go_wp2_with fail
        go_ret2
        exact ⟨rfl, HB2.out.trans (hb3.mono HB2.out.size)⟩
    by_cases h2 : o = 2
    · subst h2
      have HA := Lib.hid (show ∀ w', Below w.heap.size w w' → Calls Tryd.prog 77 #[.agg #[.slice la locs.length lc, .slice ga regs.length gc, .slice ra rv.length rc, .slice ma mv.length mc, .int .i64 (m : Nat)], .agg #[.int .i64 2, .int .i64 t, .string (bs s), .int .i64 n, .slice a ks.length cap]] w' (HoTo (hd locs regs rv mv (m + 1) (.mk 2 t s n ks)) w') from fun w' hb => by rw [hd_twoP]; exact regIs_any (h.low hb) _ _ t n s ks (hc.low hb))
      generalize hd locs regs rv mv (m + 1) (.mk 2 t s n ks) = R at *
      clear hc h IH
      generalize bs s = S at *
      obtain ⟨hb2, hA, hC⟩ := two_newC w #[.slice la locs.length lc, .slice ga regs.length gc, .slice ra rv.length rc, .slice ma mv.length mc, .int .i64 (m : Nat)] #[.int .i64 2, .int .i64 t, .string S, .int .i64 n, .slice a ks.length cap] 84 26
      have HB := Lib.hid hb2
      have HC := Lib.hid hC
      clear hb2 hA hC
      cases R
      all_goals
        go_enter Tryd.func41, Tryd.ntmps41
        go_wp2_with fail
        with_reducible refine (askOf_any 2 _ _ _ _ _ _).mono ?_
        rintro e w2 ⟨rfl, hb2⟩
        rw [show fk 2 #[.slice la locs.length lc, .slice ga regs.length gc, .slice ra rv.length rc, .slice ma mv.length mc, .int .i64 (m : Nat)] = .func (.func 77) #[.agg #[.slice la locs.length lc, .slice ga regs.length gc, .slice ra rv.length rc, .slice ma mv.length mc, .int .i64 (m : Nat)]] #[] from rfl]
        obtain ⟨q0, q1, q2, q3, q4⟩ := five_freeC (HC.out.live' hb2)
        have HB2 := Lib.hid (HB.out.trans (hb2.mono HB.out.size))
        have HA2 := Lib.hid (HA.out w2 HB2.out)
        clear hb2 HA HB HC
        have hrun : Sem.run Tryd.prog (binOp BinOp.eql 85 (.func (.func 77) #[.agg #[.slice la locs.length lc, .slice ga regs.length gc, .slice ra rv.length rc, .slice ma mv.length mc, .int .i64 (m : Nat)]] #[]) .nilFunc) w2 = .ok (.bool false) w2 := by kernel_rfl
        go_wp2_with fail
        with_reducible refine HA2.out.mono ?_
        rintro e w3 ⟨rfl, hb3⟩
        unfold holdR
        go_wp2_with fail
        go_ret2
        exact ⟨rfl, HB2.out.trans (hb3.mono HB2.out.size)⟩
    by_cases h3 : o = 3
    · subst h3
      have HA := Lib.hid (show ∀ w', Below w.heap.size w w' → Calls Tryd.prog 78 #[.agg #[.slice la locs.length lc, .slice ga regs.length gc, .slice ra rv.length rc, .slice ma mv.length mc, .int .i64 (m : Nat)], .agg #[.int .i64 3, .int .i64 t, .string (bs s), .int .i64 n, .slice a ks.length cap]] w' (HoTo (hd locs regs rv mv (m + 1) (.mk 3 t s n ks)) w') from fun w' hb => not_any m (by omega) IH w' (h.low hb) _ t n s ks (hc.low hb))
      generalize hd locs regs rv mv (m + 1) (.mk 3 t s n ks) = R at *
      clear hc h IH
      generalize bs s = S at *
      obtain ⟨hb2, hA, hC⟩ := two_newC w #[.slice la locs.length lc, .slice ga regs.length gc, .slice ra rv.length rc, .slice ma mv.length mc, .int .i64 (m : Nat)] #[.int .i64 3, .int .i64 t, .string S, .int .i64 n, .slice a ks.length cap] 84 26
      have HB := Lib.hid hb2
      have HC := Lib.hid hC
      clear hb2 hA hC
      cases R
      all_goals
        go_enter Tryd.func41, Tryd.ntmps41
        go_wp2_with fail
        with_reducible refine (askOf_any 3 _ _ _ _ _ _).mono ?_
        rintro e w2 ⟨rfl, hb2⟩
        rw [show fk 3 #[.slice la locs.length lc, .slice ga regs.length gc, .slice ra rv.length rc, .slice ma mv.length mc, .int .i64 (m : Nat)] = .func (.func 78) #[.agg #[.slice la locs.length lc, .slice ga regs.length gc, .slice ra rv.length rc, .slice ma mv.length mc, .int .i64 (m : Nat)]] #[] from rfl]
        obtain ⟨q0, q1, q2, q3, q4⟩ := five_freeC (HC.out.live' hb2)
        have HB2 := Lib.hid (HB.out.trans (hb2.mono HB.out.size))
        have HA2 := Lib.hid (HA.out w2 HB2.out)
        clear hb2 HA HB HC
        have hrun : Sem.run Tryd.prog (binOp BinOp.eql 85 (.func (.func 78) #[.agg #[.slice la locs.length lc, .slice ga regs.length gc, .slice ra rv.length rc, .slice ma mv.length mc, .int .i64 (m : Nat)]] #[]) .nilFunc) w2 = .ok (.bool false) w2 := by kernel_rfl
        go_wp2_with fail
        with_reducible refine HA2.out.mono ?_
        rintro e w3 ⟨rfl, hb3⟩
        unfold holdR
        go_wp2_with fail
        go_ret2
        exact ⟨rfl, HB2.out.trans (hb3.mono HB2.out.size)⟩
    by_cases h4 : o = 4
    · subst h4
      have HA := Lib.hid (show ∀ w', Below w.heap.size w w' → Calls Tryd.prog 79 #[.agg #[.slice la locs.length lc, .slice ga regs.length gc, .slice ra rv.length rc, .slice ma mv.length mc, .int .i64 (m : Nat)], .agg #[.int .i64 4, .int .i64 t, .string (bs s), .int .i64 n, .slice a ks.length cap]] w' (HoTo (hd locs regs rv mv (m + 1) (.mk 4 t s n ks)) w') from fun w' hb => andP_any m (by omega) IH w' (h.low hb) _ t n s ks (hc.low hb))
      generalize hd locs regs rv mv (m + 1) (.mk 4 t s n ks) = R at *
      clear hc h IH
      generalize bs s = S at *
      obtain ⟨hb2, hA, hC⟩ := two_newC w #[.slice la locs.length lc, .slice ga regs.length gc, .slice ra rv.length rc, .slice ma mv.length mc, .int .i64 (m : Nat)] #[.int .i64 4, .int .i64 t, .string S, .int .i64 n, .slice a ks.length cap] 84 26
      have HB := Lib.hid hb2
      have HC := Lib.hid hC
      clear hb2 hA hC
      cases R
      all_goals
        go_enter Tryd.func41, Tryd.ntmps41
        go_wp2_with fail
        with_reducible refine (askOf_any 4 _ _ _ _ _ _).mono ?_
        rintro e w2 ⟨rfl, hb2⟩
        rw [show fk 4 #[.slice la locs.length lc, .slice ga regs.length gc, .slice ra rv.length rc, .slice ma mv.length mc, .int .i64 (m : Nat)] = .func (.func 79) #[.agg #[.slice la locs.length lc, .slice ga regs.length gc, .slice ra rv.length rc, .slice ma mv.length mc, .int .i64 (m : Nat)]] #[] from rfl]
        obtain ⟨q0, q1, q2, q3, q4⟩ := five_freeC (HC.out.live' hb2)
        have HB2 := Lib.hid (HB.out.trans (hb2.mono HB.out.size))
        have HA2 := Lib.hid (HA.out w2 HB2.out)
        clear hb2 HA HB HC
        have hrun : Sem.run Tryd.prog (binOp BinOp.eql 85 (.func (.func 79) #[.agg #[.slice la locs.length lc, .slice ga regs.length gc, .slice ra rv.length rc, .slice ma mv.length mc, .int .i64 (m : Nat)]] #[]) .nilFunc) w2 = .ok (.bool false) w2 := by kernel_rfl
        go_wp2_with fail
        with_reducible refine HA2.out.mono ?_
        rintro e w3 ⟨rfl, hb3⟩
        unfold holdR
        go_wp2_with fail
        go_ret2
        exact ⟨rfl, HB2.out.trans (hb3.mono HB2.out.size)⟩
    by_cases h5 : o = 5
    · subst h5
      have HA := Lib.hid (show ∀ w', Below w.heap.size w w' → Calls Tryd.prog 80 #[.agg #[.slice la locs.length lc, .slice ga regs.length gc, .slice ra rv.length rc, .slice ma mv.length mc, .int .i64 (m : Nat)], .agg #[.int .i64 5, .int .i64 t, .string (bs s), .int .i64 n, .slice a ks.length cap]] w' (HoTo (hd locs regs rv mv (m + 1) (.mk 5 t s n ks)) w') from fun w' hb => orP_any m (by omega) IH w' (h.low hb) _ t n s ks (hc.low hb))
      generalize hd locs regs rv mv (m + 1) (.mk 5 t s n ks) = R at *
      clear hc h IH
      generalize bs s = S at *
      obtain ⟨hb2, hA, hC⟩ := two_newC w #[.slice la locs.length lc, .slice ga regs.length gc, .slice ra rv.length rc, .slice ma mv.length mc, .int .i64 (m : Nat)] #[.int .i64 5, .int .i64 t, .string S, .int .i64 n, .slice a ks.length cap] 84 26
      have HB := Lib.hid hb2
      have HC := Lib.hid hC
      clear hb2 hA hC
      cases R
      all_goals
        go_enter Tryd.func41, Tryd.ntmps41
        go_wp2_with fail
        with_reducible refine (askOf_any 5 _ _ _ _ _ _).mono ?_
        rintro e w2 ⟨rfl, hb2⟩
        rw [show fk 5 #[.slice la locs.length lc, .slice ga regs.length gc, .slice ra rv.length rc, .slice ma mv.length mc, .int .i64 (m : Nat)] = .func (.func 80) #[.agg #[.slice la locs.length lc, .slice ga regs.length gc, .slice ra rv.length rc, .slice ma mv.length mc, .int .i64 (m : Nat)]] #[] from rfl]
        obtain ⟨q0, q1, q2, q3, q4⟩ := five_freeC (HC.out.live' hb2)
        have HB2 := Lib.hid (HB.out.trans (hb2.mono HB.out.size))
        have HA2 := Lib.hid (HA.out w2 HB2.out)
        clear hb2 HA HB HC
        have hrun : Sem.run Tryd.prog (binOp BinOp.eql 85 (.func (.func 80) #[.agg #[.slice la locs.length lc, .slice ga regs.length gc, .slice ra rv.length rc, .slice ma mv.length mc, .int .i64 (m : Nat)]] #[]) .nilFunc) w2 = .ok (.bool false) w2 := by kernel_rfl
        go_wp2_with fail
        with_reducible refine HA2.out.mono ?_
        rintro e w3 ⟨rfl, hb3⟩
        unfold holdR
        go_wp2_with fail
        go_ret2
        exact ⟨rfl, HB2.out.trans (hb3.mono HB2.out.size)⟩
    rw [P.hd_odd h1 h2 h3 h4 h5]
    have hf : fk o #[.slice la locs.length lc, .slice ga regs.length gc, .slice ra rv.length rc, .slice ma mv.length mc, .int .i64 (m : Nat)] = .nilFunc := by simp [fk, h1, h2, h3, h4, h5]
    have HF := Lib.hid hf
    clear hc h IH h1 h2 h3 h4 h5 hf
    generalize bs s = S at *
    obtain ⟨hb2, hA, hC⟩ := two_newC w #[.slice la locs.length lc, .slice ga regs.length gc, .slice ra rv.length rc, .slice ma mv.length mc, .int .i64 (m : Nat)] #[.int .i64 o, .int .i64 t, .string S, .int .i64 n, .slice a ks.length cap] 84 26
    have HB := Lib.hid hb2
    clear hb2 hA hC
    go_enter Tryd.func41, Tryd.ntmps41
    go_wp2_with fail
    with_reducible refine (askOf_any o _ _ _ _ _ _).mono ?_
    rintro e w2 ⟨rfl, hb2⟩
    rw [HF.out]
    have HB2 := Lib.hid (HB.out.trans (hb2.mono HB.out.size))
    clear hb2 HB HF
    have hrun : Sem.run Tryd.prog (binOp BinOp.eql 85 .nilFunc .nilFunc) w2 = .ok (.bool true) w2 := by kernel_rfl
    go_wp2_with fail
    go_ret2
    exact ⟨rfl, HB2.out⟩
set_option maxHeartbeats 3200000 in
theorem postHolds_any {locs : List (List UInt8)} {regs : List (List (List UInt8))} {rv : List (List Int)} {mv : List Int} (e : CO) (w : World) (la ga ra ma : Option Addr) (lc gc rc mc : Nat) (v : Value) (h : AkIn w la ga ra ma lc mc locs regs rv mv) (hc : LC (fun _ => True) w v e) :
    Calls Tryd.prog 22 #[v, .slice la locs.length lc, .slice ga regs.length gc, .agg #[.slice ra rv.length rc, .slice ma mv.length mc]] w (HoTo (hd locs regs rv mv 6 e) w) := by
  obtain ⟨o, t, s, n, ks⟩ := e
  have hc0 := hc
  unfold LC at hc0
  obtain ⟨a, cap, rfl, _, _⟩ := hc0
  obtain ⟨hb2, hA, hC⟩ := two_newC w #[.int .i64 o, .int .i64 t, .string (bs s), .int .i64 n, .slice a ks.length cap] #[.slice ra rv.length rc, .slice ma mv.length mc] 26 46
  have HB := Lib.hid hb2
  have HA := Lib.hid (cond_any 6 (by decide) _ _ la ga ra ma lc gc rc mc _ (h.low hb2) (hc.low hb2))
  rw [show ((6 : Nat) : Int) = 6 from rfl] at HA
  generalize hd locs regs rv mv 6 (.mk o t s n ks) = R at *
  clear hc h hb2 hA hC
  generalize bs s = S at *
  cases R
  all_goals
    go_enter Tryd.func22, Tryd.ntmps22
    go_wp2_with fail
    with_reducible refine HA.out.mono ?_
    rintro e w3 ⟨rfl, hb3⟩
    unfold holdR
    go_wp2_with fail
    go_ret2
    exact ⟨rfl, HB.out.trans (hb3.mono HB.out.size)⟩
end Go.Proofs.YtchokfgffnomoaaDoor.Lx
