/-
  What CondSize tells, as a contract: how many parts a condition has; and how deep it is then at most.
-/
import Derived.Test.YtchokfgffnomoaaDoorOC
import Derived.Test.YtchokfgffnomoaaDoorPTHold

namespace Go.Proofs.YtchokfgffnomoaaDoor.P
set_option maxRecDepth 100000
set_option linter.unusedVariables false
set_option linter.unusedSimpArgs false
mutual
/-- How many parts an expression has, as it is counted. -/
def czC : Nat → CO → Nat
  | d, .mk o t s k ks => if 12 < d ∨ 20 < ks.length ∨ 40 < s.length then 301 else czL (d + 1) 1 ks
def czL : Nat → Nat → List CO → Nat
  | d, n, [] => n
  | d, n, e :: es => if 300 < n + czC d e then n + czC d e else czL d (n + czC d e) es
end
theorem czL_le : ∀ (d n : Nat) (es : List CO), n ≤ czL d n es
  | d, n, [] => by
    unfold czL
    exact Nat.le_refl _
  | d, n, e :: es => by
    unfold czL
    split
    · omega
    · have := czL_le d (n + czC d e) es
      omega
theorem czL_mem : ∀ {d n : Nat} {es : List CO}, czL d n es ≤ 300 → ∀ e ∈ es, czC d e ≤ 300
  | d, n, x :: es, h, e, he => by
    unfold czL at h
    split at h
    · omega
    · have h1 := czL_le d (n + czC d x) es
      rcases List.mem_cons.1 he with rfl | he
      · omega
      · exact czL_mem h e he
theorem czC_kids {d : Nat} {o t k : Int} {s : List UInt8} {ks : List CO} (h : czC d (.mk o t s k ks) ≤ 300) : d ≤ 12 ∧ ks.length ≤ 20 ∧ s.length ≤ 40 ∧ ∀ e ∈ ks, czC (d + 1) e ≤ 300 := by
  unfold czC at h
  split at h
  · omega
  · exact ⟨by omega, by omega, by omega, czL_mem h⟩
theorem cdp_le : ∀ (j d : Nat) (e : CO), 13 - d = j → czC d e ≤ 300 → cdp e ≤ j
  | 0, d, .mk o t s k ks, hj, h => by
    have := czC_kids h
    omega
  | j + 1, d, .mk o t s k ks, hj, h => by
    have ⟨h1, h2, h3, h4⟩ := czC_kids h
    rw [cdp]
    have h5 := cdps_le (m := j) (es := ks) (fun e he => cdp_le j (d + 1) e (by omega) (h4 e he))
    omega
theorem czC_bd : ∀ (j d : Nat) (e : CO), 13 - d = j → czC d e ≤ 301 + 300 * j
  | 0, d, .mk o t s k ks, hj => by
    unfold czC
    rw [if_pos (by omega)]
    omega
  | j + 1, d, .mk o t s k ks, hj => by
    unfold czC
    split
    · omega
    · have hl : ∀ (es : List CO) (n : Nat), n ≤ 300 → czL (d + 1) n es ≤ 301 + 300 * (j + 1) := by
        intro es
        induction es with
        | nil =>
          intro n hn
          unfold czL
          omega
        | cons e es ih =>
          intro n hn
          have h1 := czC_bd j (d + 1) e (by omega)
          unfold czL
          split
          · omega
          · exact ih _ (by omega)
      exact hl ks 1 (by omega)
theorem czC_le (d : Nat) (e : CO) : czC d e ≤ 5000 := by
  have := czC_bd (13 - d) d e rfl
  omega
end Go.Proofs.YtchokfgffnomoaaDoor.P
namespace Go.Proofs.YtchokfgffnomoaaDoor.Lx
open Go.RowKit
open P (CO czC czL cdp)
set_option maxRecDepth 100000
set_option linter.unusedVariables false
set_option linter.unusedSimpArgs false
theorem czL_nil (d n : Nat) : czL d n [] = n := by unfold P.czL; rfl
theorem czL_cons (d n : Nat) (e : CO) (es : List CO) : czL d n (e :: es) = if 300 < n + czC d e then n + czC d e else czL d (n + czC d e) es := by rw [P.czL]
theorem czC_no {d : Nat} {o t k : Int} {s : List UInt8} {ks : List CO} (h : 12 < d ∨ 20 < ks.length ∨ 40 < s.length) : czC d (.mk o t s k ks) = 301 := by
  unfold P.czC
  rw [if_pos h]
theorem czC_go {d : Nat} {o t k : Int} {s : List UInt8} {ks : List CO} (h : ¬ (12 < d ∨ 20 < ks.length ∨ 40 < s.length)) : czC d (.mk o t s k ks) = czL (d + 1) 1 ks := by
  unfold P.czC
  rw [if_neg h]
theorem czL_step {d n j : Nat} {ks : List CO} {x : CO} (h : ks[j]? = some x) : czL d n (ks.drop j) = if 300 < n + czC d x then n + czC d x else czL d (n + czC d x) (ks.drop (j + 1)) := by
  obtain ⟨hj, he⟩ := List.getElem?_eq_some_iff.1 h
  rw [List.drop_eq_getElem_cons hj, he]
  exact czL_cons d n x _
def CsTo (r : Nat) (w : World) (e : Ending) (w' : World) : Prop := e = .returned (.int .i64 (r : Nat)) ∧ Below w.heap.size w w'
set_option maxHeartbeats 6400000 in
theorem csize_step : ∀ (d : Nat) (e : CO), d ≤ 1000 → (∀ (x : CO), d ≤ 12 → wfK x → ∀ (v : Value) (w : World), LC (fun _ => True) w v x → Calls Tryd.prog 11 #[v, .int .i64 ((d : Int) + 1)] w (CsTo (czC (d + 1) x) w)) → ∀ (z : Int) (v : Value) (w : World), z = (d : Nat) → LC (fun _ => True) w v e → wfK e → Calls Tryd.prog 11 #[v, .int .i64 z] w (CsTo (czC d e) w)
  | d, .mk op t s k ks, hdm, IH, z, v, w, hz, hv, hw => by
    subst hz
    have hv0 := hv
    unfold LC at hv0
    obtain ⟨a, cap, rfl, hmx, hc⟩ := hv0
    unfold maxLen at hmx
    unfold wfK at hw
    obtain ⟨_, _, hsl, _, hks⟩ := hw
    unfold maxLen at hsl
    have HB := Lib.hid (one_belowC w (.cells #[.int .i64 op, .int .i64 t, .string (bs s), .int .i64 k, .slice a ks.length cap] 26))
    have hS : (bs s).size = s.length := bs_size s
    by_cases h1 : 12 < d
    · rw [czC_no (.inl h1)]
      have d1 : decide ((12 : Int) < (d : Int)) = true := decide_eq_true (by omega)
      have d2 : decide (12 < d) = true := decide_eq_true (by omega)
      clear hv hc hks hS hsl IH
      generalize bs s = S at *
      go_enter Tryd.func11, Tryd.ntmps11
      go_wp2_with fail
      go_ret
      exact ⟨rfl, HB.out⟩
    have d1 : decide ((12 : Int) < (d : Int)) = false := decide_eq_false (by omega)
    have d2 : decide (12 < d) = false := decide_eq_false (by omega)
    by_cases h2 : 20 < ks.length
    · rw [czC_no (.inr (.inl h2))]
      have d3 : decide ((20 : Int) < (ks.length : Int)) = true := decide_eq_true (by omega)
      have d4 : decide (20 < ks.length) = true := decide_eq_true (by omega)
      clear hv hc hks hS hsl IH
      generalize bs s = S at *
      go_enter Tryd.func11, Tryd.ntmps11
      go_wp2_with fail
      go_ret
      exact ⟨rfl, HB.out⟩
    have d3 : decide ((20 : Int) < (ks.length : Int)) = false := decide_eq_false (by omega)
    have d4 : decide (20 < ks.length) = false := decide_eq_false (by omega)
    by_cases h3 : 40 < s.length
    · rw [czC_no (.inr (.inr h3))]
      rw [← hS] at h3
      clear hv hc hks hS hsl IH
      generalize bs s = S at *
      have d5 : decide ((40 : Int) < (S.size : Int)) = true := decide_eq_true (by omega)
      have d6 : decide (40 < S.size) = true := decide_eq_true (by omega)
      go_enter Tryd.func11, Tryd.ntmps11
      go_wp2_with fail
      go_ret
      exact ⟨rfl, HB.out⟩
    rw [czC_go (by omega)]
    rw [← hS] at h3
    have HC := Lib.hid hc
    have HQ := Lib.hid (Blk.new w 26 #[.int .i64 op, .int .i64 t, .string (bs s), .int .i64 k, .slice a ks.length cap])
    have HA := Lib.hid (show ∀ j e, ks[j]? = some e → ∀ v w, LC (fun _ => True) w v e → Calls Tryd.prog 11 #[v, .int .i64 ((d : Int) + 1)] w (CsTo (czC (d + 1) e) w) from fun j e he v w hv => IH e (by omega) (wfKs_mem hks e (List.mem_of_getElem? he)) v w hv)
    clear IH
    clear hv hc hks hS hsl
    generalize bs s = S at *
    have d5 : decide ((40 : Int) < (S.size : Int)) = false := decide_eq_false (by omega)
    have d6 : decide (40 < S.size) = false := decide_eq_false (by omega)
    generalize hT : czL (d + 1) 1 ks = T at *
    have HT := Lib.hid hT
    clear hT
    go_enter Tryd.func11, Tryd.ntmps11
    go_wp2_with fail
    generalize hW : w.alloc (.cells #[.int .i64 op, .int .i64 t, .string S, .int .i64 k, .slice a ks.length cap] 26) = W at *
    have hwl : w.heap.size < W.heap.size := HQ.out.lt
    clear hW
    go_loopw [5, 6] (fun n i wr => (∃ j N : Nat, j ≤ ks.length ∧ N ≤ 300 ∧ i = .int .i64 (j : Nat) ∧ n = .int .i64 (N : Nat) ∧ czL (d + 1) N (ks.drop j) = T) ∧ Below W.heap.size W wr) (fun _ i _ => ks.length - (intOf i).toNat)
    case atStart => exact ⟨⟨0, 1, Nat.zero_le _, by omega, rfl, rfl, by rw [List.drop_zero]; exact HT.out⟩, Below.refl _ _⟩
    case round =>
      obtain ⟨⟨j, N, hj, hN, rfl, rfl, hrest⟩, hbr⟩ := hrel
      have HBR := Lib.hid hbr
      obtain ⟨p0, p1, p2, p3, p4⟩ := five_freeC (HQ.out.live' hbr)
      clear hbr
      by_cases hlt : j < ks.length
      · obtain ⟨g, off, rfl, _, hs⟩ : ∃ g off, a = some ⟨g, off, none⟩ ∧ True ∧ LCs (fun _ => True) w g off ks := by
          rcases HC.out with h0 | h0
          · rw [h0] at hlt
            simp at hlt
          · exact h0
        obtain ⟨x, a0, a1, a2, a3, a4, hx, k0, k1, k2, k3, k4, hlx⟩ := LCs.at ks hs j hlt
        have hbw := HB.out.trans (HBR.out.mono HB.out.size)
        have hq : ∀ (o : Nat) (u : Value), w.cell? ⟨g, o, none⟩ = some u → wr.cell? ⟨g, o, none⟩ = some u := fun o u hu => (hbw.cell (p := ⟨g, o, none⟩) (World.block_lt_of_cell? w _ hu)).trans hu
        have c0 := hq _ _ k0
        have c1 := hq _ _ k1
        have c2 := hq _ _ k2
        have c3 := hq _ _ k3
        have c4 := hq _ _ k4
        have HX := Lib.hid (HA.out j x hx _ wr (LC.keep (Keeps.below hbw (Nat.le_refl _)) x hlx))
        rw [czL_step hx] at hrest
        have hxb := P.czC_le (d + 1) x
        have d7 : (0 : Int) ≤ (j : Int) := by omega
        have d8 : (j : Int) < (ks.length : Int) := by omega
        have d9 : decide ((j : Int) < (ks.length : Int)) = true := by simpa using hlt
        have d10 : decide (j < ks.length) = true := by simpa using hlt
        clear hs hx k0 k1 k2 k3 k4 hlx hbw hq
        generalize czC (d + 1) x = R at *
        by_cases hbig : 300 < N + R
        · rw [if_pos hbig] at hrest
          have HRS := Lib.hid hrest
          have e1 : decide ((300 : Int) < (N : Int) + (R : Int)) = true := decide_eq_true (by omega)
          clear hrest
          go_wp2_with fail
          with_reducible refine HX.out.mono ?_
          rintro e w2 ⟨rfl, hb2⟩
          go_wp2_with fail
          go_ret
          exact ⟨congrArg (fun z => Ending.returned (.int .i64 z)) (by rw [← HRS.out]; omega), HB.out.trans ((HBR.out.trans (hb2.mono HBR.out.size)).mono HB.out.size)⟩
        · rw [if_neg hbig] at hrest
          have HRS := Lib.hid hrest
          have e1 : decide ((300 : Int) < (N : Int) + (R : Int)) = false := decide_eq_false (by omega)
          clear hrest
          go_wp2_with fail
          with_reducible refine HX.out.mono ?_
          rintro e w2 ⟨rfl, hb2⟩
          go_wp2_with fail
          go_roundw
          case rel => exact ⟨⟨j + 1, N + R, by omega, by omega, by go_num, by go_num, HRS.out⟩, HBR.out.trans (hb2.mono HBR.out.size)⟩
          case measure => simp [intOf]; omega
      · obtain rfl : j = ks.length := by omega
        have d9 : decide ((ks.length : Int) < (ks.length : Int)) = false := by simp
        have d10 : decide (ks.length < ks.length) = false := by simp
        rw [List.drop_length] at hrest
        have HRS := Lib.hid (show N = T by rw [← hrest]; exact (czL_nil (d + 1) N).symm)
        clear hlt hrest
        go_wp2_with fail
        go_ret
        exact ⟨congrArg (fun z : Nat => Ending.returned (.int .i64 (z : Nat))) HRS.out, HB.out.trans (HBR.out.mono HB.out.size)⟩
theorem csize_any : ∀ (f d : Nat) (e : CO), 13 - d ≤ f → d ≤ 1000 → ∀ (z : Int) (v : Value) (w : World), z = (d : Nat) → LC (fun _ => True) w v e → wfK e → Calls Tryd.prog 11 #[v, .int .i64 z] w (CsTo (czC d e) w)
  | 0, d, e, hf, hd => csize_step d e hd (fun x h => absurd h (by omega))
  | f + 1, d, e, hf, hd => csize_step d e hd (fun x h hw v w hv => csize_any f (d + 1) x (by omega) (by omega) _ v w (by omega) hv hw)
end Go.Proofs.YtchokfgffnomoaaDoor.Lx
