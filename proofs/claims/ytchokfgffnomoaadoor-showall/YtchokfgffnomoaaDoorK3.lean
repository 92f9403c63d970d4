import Derived.Test.YtchokfgffnomoaaDoorK2
import Derived.Test.YtchokfgffnomoaaDoorDP
import Derived.Test.YtchokfgffnomoaaDoorK1
import Derived.IntWalk

/-
  What CondSize tells, as a contract: how many parts a condition has; and how deep it is then at most.
-/

namespace Go.Proofs.YtchokfgffnomoaaDoor.P
set_option maxRecDepth 100000
set_option linter.unusedVariables false
set_option linter.unusedSimpArgs false
mutual
/-- How many parts an expression has, as it is counted. -/
def czC : Nat → CO → Nat
  | d, .mk o t s k ks => if 12 < d ∨ 20 < ks.length ∨ 40 < s.length then 301 else czL (d + 1) 1 ks
def czL : Nat → Nat → List CO → Nat
  | d, n, [] => n
  | d, n, e :: es => if 300 < n + czC d e then n + czC d e else czL d (n + czC d e) es
end
theorem czL_le : ∀ (d n : Nat) (es : List CO), n ≤ czL d n es
  | d, n, [] => by
    unfold czL
    exact Nat.le_refl _
  | d, n, e :: es => by
    unfold czL
    split
    · omega
    · have := czL_le d (n + czC d e) es
      omega
theorem czL_mem : ∀ {d n : Nat} {es : List CO}, czL d n es ≤ 300 → ∀ e ∈ es, czC d e ≤ 300
  | d, n, x :: es, h, e, he => by
    unfold czL at h
    split at h
    · omega
    · have h1 := czL_le d (n + czC d x) es
      rcases List.mem_cons.1 he with rfl | he
      · omega
      · exact czL_mem h e he
theorem czC_kids {d : Nat} {o t k : Int} {s : List UInt8} {ks : List CO} (h : czC d (.mk o t s k ks) ≤ 300) : d ≤ 12 ∧ ks.length ≤ 20 ∧ s.length ≤ 40 ∧ ∀ e ∈ ks, czC (d + 1) e ≤ 300 := by
  unfold czC at h
  split at h
  · omega
  · exact ⟨by omega, by omega, by omega, czL_mem h⟩
theorem cdp_le : ∀ (j d : Nat) (e : CO), 13 - d = j → czC d e ≤ 300 → cdp e ≤ j
  | 0, d, .mk o t s k ks, hj, h => by
    have := czC_kids h
    omega
  | j + 1, d, .mk o t s k ks, hj, h => by
    have ⟨h1, h2, h3, h4⟩ := czC_kids h
    rw [cdp]
    have h5 := cdps_le (m := j) (es := ks) (fun e he => cdp_le j (d + 1) e (by omega) (h4 e he))
    omega
theorem czC_bd : ∀ (j d : Nat) (e : CO), 13 - d = j → czC d e ≤ 301 + 300 * j
  | 0, d, .mk o t s k ks, hj => by
    unfold czC
    rw [if_pos (by omega)]
    omega
  | j + 1, d, .mk o t s k ks, hj => by
    unfold czC
    split
    · omega
    · have hl : ∀ (es : List CO) (n : Nat), n ≤ 300 → czL (d + 1) n es ≤ 301 + 300 * (j + 1) := by
        intro es
        induction es with
        | nil =>
          intro n hn
          unfold czL
          omega
        | cons e es ih =>
          intro n hn
          have h1 := czC_bd j (d + 1) e (by omega)
          unfold czL
          split
          · omega
          · exact ih _ (by omega)
      exact hl ks 1 (by omega)
theorem czC_le (d : Nat) (e : CO) : czC d e ≤ 5000 := by
  have := czC_bd (13 - d) d e rfl
  omega
end Go.Proofs.YtchokfgffnomoaaDoor.P
namespace Go.Proofs.YtchokfgffnomoaaDoor.Lx
open Go.RowKit
open P (CO czC czL cdp)
set_option maxRecDepth 100000
set_option linter.unusedVariables false
set_option linter.unusedSimpArgs false
theorem one_belowC (w : World) (o : Obj) : Below w.heap.size w (w.alloc o) := (Below.refl _ _).alloc (Nat.le_refl _) _
theorem five_freeC {w : World} {g : Nat} {t : TypeId} {a c d e f : Value} (h : Blk w g t #[a, c, d, e, f]) : w.cell? ⟨g, 0, none⟩ = some a ∧ w.cell? ⟨g, 1, none⟩ = some c ∧ w.cell? ⟨g, 2, none⟩ = some d ∧ w.cell? ⟨g, 3, none⟩ = some e ∧ w.cell? ⟨g, 4, none⟩ = some f := ⟨h.cell 0, h.cell 1, h.cell 2, h.cell 3, h.cell 4⟩
theorem czL_nil (d n : Nat) : czL d n [] = n := by unfold P.czL; rfl
theorem czL_cons (d n : Nat) (e : CO) (es : List CO) : czL d n (e :: es) = if 300 < n + czC d e then n + czC d e else czL d (n + czC d e) es := by rw [P.czL]
theorem czC_no {d : Nat} {o t k : Int} {s : List UInt8} {ks : List CO} (h : 12 < d ∨ 20 < ks.length ∨ 40 < s.length) : czC d (.mk o t s k ks) = 301 := by
  unfold P.czC
  rw [if_pos h]
theorem czC_go {d : Nat} {o t k : Int} {s : List UInt8} {ks : List CO} (h : ¬ (12 < d ∨ 20 < ks.length ∨ 40 < s.length)) : czC d (.mk o t s k ks) = czL (d + 1) 1 ks := by
  unfold P.czC
  rw [if_neg h]
theorem czL_step {d n j : Nat} {ks : List CO} {x : CO} (h : ks[j]? = some x) : czL d n (ks.drop j) = if 300 < n + czC d x then n + czC d x else czL d (n + czC d x) (ks.drop (j + 1)) := by
  obtain ⟨hj, he⟩ := List.getElem?_eq_some_iff.1 h
  rw [List.drop_eq_getElem_cons hj, he]
  exact czL_cons d n x _
def CsTo (r : Nat) (w : World) (e : Ending) (w' : World) : Prop := e = .returned (.int .i64 (r : Nat)) ∧ Below w.heap.size w w'
set_option maxHeartbeats 6400000 in
theorem csize_step : ∀ (d : Nat) (e : CO), d ≤ 1000 → (∀ (x : CO), d ≤ 12 → wfK x → ∀ (v : Value) (w : World), LC (fun _ => True) w v x → Calls Tryd.prog 11 #[v, .int .i64 ((d : Int) + 1)] w (CsTo (czC (d + 1) x) w)) → ∀ (z : Int) (v : Value) (w : World), z = (d : Nat) → LC (fun _ => True) w v e → wfK e → Calls Tryd.prog 11 #[v, .int .i64 z] w (CsTo (czC d e) w)
  | d, .mk op t s k ks, hdm, IH, z, v, w, hz, hv, hw => by
    subst hz
    have hv0 := hv
    unfold LC at hv0
    obtain ⟨a, cap, rfl, hmx, hc⟩ := hv0
    unfold maxLen at hmx
    unfold wfK at hw
    obtain ⟨_, _, hsl, _, hks⟩ := hw
    unfold maxLen at hsl
    have HB := Lib.hid (one_belowC w (.cells #[.int .i64 op, .int .i64 t, .string (bs s), .int .i64 k, .slice a ks.length cap] 26))
    have hS : (bs s).size = s.length := bs_size s
    by_cases h1 : 12 < d
    · rw [czC_no (.inl h1)]
      have d1 : decide ((12 : Int) < (d : Int)) = true := decide_eq_true (by omega)
      have d2 : decide (12 < d) = true := decide_eq_true (by omega)
      clear hv hc hks hS hsl IH
      generalize bs s = S at *
      go_enter Tryd.func11, Tryd.ntmps11
      go_wp2_with fail
      go_ret
      exact ⟨rfl, HB.out⟩
    have d1 : decide ((12 : Int) < (d : Int)) = false := decide_eq_false (by omega)
    have d2 : decide (12 < d) = false := decide_eq_false (by omega)
    by_cases h2 : 20 < ks.length
    · rw [czC_no (.inr (.inl h2))]
      have d3 : decide ((20 : Int) < (ks.length : Int)) = true := decide_eq_true (by omega)
      have d4 : decide (20 < ks.length) = true := decide_eq_true (by omega)
      clear hv hc hks hS hsl IH
      generalize bs s = S at *
      go_enter Tryd.func11, Tryd.ntmps11
      go_wp2_with fail
      go_ret
      exact ⟨rfl, HB.out⟩
    have d3 : decide ((20 : Int) < (ks.length : Int)) = false := decide_eq_false (by omega)
    have d4 : decide (20 < ks.length) = false := decide_eq_false (by omega)
    by_cases h3 : 40 < s.length
    · rw [czC_no (.inr (.inr h3))]
      rw [← hS] at h3
      clear hv hc hks hS hsl IH
      generalize bs s = S at *
      have d5 : decide ((40 : Int) < (S.size : Int)) = true := decide_eq_true (by omega)
      have d6 : decide (40 < S.size) = true := decide_eq_true (by omega)
      go_enter Tryd.func11, Tryd.ntmps11
      go_wp2_with fail
      go_ret
      exact ⟨rfl, HB.out⟩
    rw [czC_go (by omega)]
    rw [← hS] at h3
    have HC := Lib.hid hc
    have HQ := Lib.hid (Blk.new w 26 #[.int .i64 op, .int .i64 t, .string (bs s), .int .i64 k, .slice a ks.length cap])
    have HA := Lib.hid (show ∀ j e, ks[j]? = some e → ∀ v w, LC (fun _ => True) w v e → Calls Tryd.prog 11 #[v, .int .i64 ((d : Int) + 1)] w (CsTo (czC (d + 1) e) w) from fun j e he v w hv => IH e (by omega) (wfKs_mem hks e (List.mem_of_getElem? he)) v w hv)
    clear IH
    clear hv hc hks hS hsl
    generalize bs s = S at *
    have d5 : decide ((40 : Int) < (S.size : Int)) = false := decide_eq_false (by omega)
    have d6 : decide (40 < S.size) = false := decide_eq_false (by omega)
    generalize hT : czL (d + 1) 1 ks = T at *
    have HT := Lib.hid hT
    clear hT
    go_enter Tryd.func11, Tryd.ntmps11
    go_wp2_with fail
    generalize hW : w.alloc (.cells #[.int .i64 op, .int .i64 t, .string S, .int .i64 k, .slice a ks.length cap] 26) = W at *
    have hwl : w.heap.size < W.heap.size := HQ.out.lt
    clear hW
    go_loopw [5, 6] (fun n i wr => (∃ j N : Nat, j ≤ ks.length ∧ N ≤ 300 ∧ i = .int .i64 (j : Nat) ∧ n = .int .i64 (N : Nat) ∧ czL (d + 1) N (ks.drop j) = T) ∧ Below W.heap.size W wr) (fun _ i _ => ks.length - (intOf i).toNat)
    case atStart => exact ⟨⟨0, 1, Nat.zero_le _, by omega, rfl, rfl, by rw [List.drop_zero]; exact HT.out⟩, Below.refl _ _⟩
    case round =>
      obtain ⟨⟨j, N, hj, hN, rfl, rfl, hrest⟩, hbr⟩ := hrel
      have HBR := Lib.hid hbr
      obtain ⟨p0, p1, p2, p3, p4⟩ := five_freeC (HQ.out.live' hbr)
      clear hbr
      by_cases hlt : j < ks.length
      · obtain ⟨g, off, rfl, _, hs⟩ : ∃ g off, a = some ⟨g, off, none⟩ ∧ True ∧ LCs (fun _ => True) w g off ks := by
          rcases HC.out with h0 | h0
          · rw [h0] at hlt
            simp at hlt
          · exact h0
        obtain ⟨x, a0, a1, a2, a3, a4, hx, k0, k1, k2, k3, k4, hlx⟩ := LCs.at ks hs j hlt
        have hbw := HB.out.trans (HBR.out.mono HB.out.size)
        have hq : ∀ (o : Nat) (u : Value), w.cell? ⟨g, o, none⟩ = some u → wr.cell? ⟨g, o, none⟩ = some u := fun o u hu => (hbw.cell (p := ⟨g, o, none⟩) (World.block_lt_of_cell? w _ hu)).trans hu
        have c0 := hq _ _ k0
        have c1 := hq _ _ k1
        have c2 := hq _ _ k2
        have c3 := hq _ _ k3
        have c4 := hq _ _ k4
        have HX := Lib.hid (HA.out j x hx _ wr (LC.keep (Keeps.below hbw (Nat.le_refl _)) x hlx))
        rw [czL_step hx] at hrest
        have hxb := P.czC_le (d + 1) x
        have d7 : (0 : Int) ≤ (j : Int) := by omega
        have d8 : (j : Int) < (ks.length : Int) := by omega
        have d9 : decide ((j : Int) < (ks.length : Int)) = true := by simpa using hlt
        have d10 : decide (j < ks.length) = true := by simpa using hlt
        clear hs hx k0 k1 k2 k3 k4 hlx hbw hq
        generalize czC (d + 1) x = R at *
        by_cases hbig : 300 < N + R
        · rw [if_pos hbig] at hrest
          have HRS := Lib.hid hrest
          have e1 : decide ((300 : Int) < (N : Int) + (R : Int)) = true := decide_eq_true (by omega)
          clear hrest
          go_wp2_with fail
          with_reducible refine HX.out.mono ?_
          rintro e w2 ⟨rfl, hb2⟩
          go_wp2_with fail
          go_ret
          exact ⟨congrArg (fun z => Ending.returned (.int .i64 z)) (by rw [← HRS.out]; omega), HB.out.trans ((HBR.out.trans (hb2.mono HBR.out.size)).mono HB.out.size)⟩
        · rw [if_neg hbig] at hrest
          have HRS := Lib.hid hrest
          have e1 : decide ((300 : Int) < (N : Int) + (R : Int)) = false := decide_eq_false (by omega)
          clear hrest
          go_wp2_with fail
          with_reducible refine HX.out.mono ?_
          rintro e w2 ⟨rfl, hb2⟩
          go_wp2_with fail
          go_roundw
          case rel => exact ⟨⟨j + 1, N + R, by omega, by omega, by go_num, by go_num, HRS.out⟩, HBR.out.trans (hb2.mono HBR.out.size)⟩
          case measure => simp [intOf]; omega
      · obtain rfl : j = ks.length := by omega
        have d9 : decide ((ks.length : Int) < (ks.length : Int)) = false := by simp
        have d10 : decide (ks.length < ks.length) = false := by simp
        rw [List.drop_length] at hrest
        have HRS := Lib.hid (show N = T by rw [← hrest]; exact (czL_nil (d + 1) N).symm)
        clear hlt hrest
        go_wp2_with fail
        go_ret
        exact ⟨congrArg (fun z : Nat => Ending.returned (.int .i64 (z : Nat))) HRS.out, HB.out.trans (HBR.out.mono HB.out.size)⟩
theorem csize_any : ∀ (f d : Nat) (e : CO), 13 - d ≤ f → d ≤ 1000 → ∀ (z : Int) (v : Value) (w : World), z = (d : Nat) → LC (fun _ => True) w v e → wfK e → Calls Tryd.prog 11 #[v, .int .i64 z] w (CsTo (czC d e) w)
  | 0, d, e, hf, hd => csize_step d e hd (fun x h => absurd h (by omega))
  | f + 1, d, e, hf, hd => csize_step d e hd (fun x h hw v w hv => csize_any f (d + 1) x (by omega) (by omega) _ v w (by omega) hv hw)
end Go.Proofs.YtchokfgffnomoaaDoor.Lx
/-
  What Expr and Cond of the document's answer tell of any expression and condition that is not too great; and how long these texts are.
-/
namespace Go.Proofs.YtchokfgffnomoaaDoor.Lx
open Go.RowKit
open P (EX CO szX czC)
set_option maxRecDepth 100000
set_option linter.unusedVariables false
set_option linter.unusedSimpArgs false
theorem getD_le {α : Type} {f : α → List UInt8} {ks : List α} {B : Nat} (h : ∀ k ∈ ks, (f k).length ≤ B) (i : Nat) : ((ks.map f).getD i []).length ≤ B := by
  rw [List.getD_eq_getElem?_getD, List.getElem?_map]
  rcases Nat.lt_or_ge i ks.length with hi | hi
  · rw [List.getElem?_eq_getElem hi]
    exact h _ (List.getElem_mem hi)
  · rw [List.getElem?_eq_none hi]
    exact Nat.zero_le _
theorem xE_long : ∀ (j d : Nat) (e : EX), 13 - d ≤ j → szX d e ≤ 300 → wfX e → (P.xE e).length + 7 ≤ 67 * 2 ^ j
  | 0, d, .mk o n s ks, hj, h, hw => by
    have := P.szX_kids h
    omega
  | j + 1, d, .mk o n s ks, hj, h, hw => by
    have hk := P.szX_kids h
    unfold wfX at hw
    have hp : 67 * 2 ^ (j + 1) = 2 * (67 * 2 ^ j) := by rw [Nat.pow_succ]; omega
    have h1 : 1 ≤ 2 ^ j := Nat.one_le_two_pow
    have hl : ∀ k ∈ ks, (P.xE k).length ≤ 67 * 2 ^ j - 7 := fun k hk' => by
      have := xE_long j (d + 1) k (by omega) (hk.2.2.2 k hk') (wfXs_mem hw.2.2.2 k hk')
      omega
    have k0 := getD_le (f := P.xE) hl 0
    have k1 := getD_le (f := P.xE) hl 1
    have hn := xNum_len n hw.2.1
    have hB : 67 ≤ 67 * 2 ^ j := by omega
    rw [hp]
    clear hp h1
    generalize 67 * 2 ^ j = B at *
    by_cases o1 : o = 1
    · rw [P.xE, if_pos o1]
      omega
    by_cases o2 : o = 2
    · rw [P.xE, if_neg o1, if_pos o2]
      omega
    cases hm : P.midE o with
    | none =>
      rw [P.xE, if_neg o1, if_neg o2, hm]
      simp
      omega
    | some m =>
      have hml : m.length ≤ 2 := by
        unfold P.midE at hm
        split at hm
        · cases hm; decide
        split at hm
        · cases hm; decide
        split at hm
        · cases hm; decide
        split at hm
        · cases hm; decide
        · cases hm
      rw [xE_two hm o1 o2]
      simp only [kidT, List.length_append, List.length_cons, List.length_nil]
      omega
theorem xE_max {e : EX} (h : szX 0 e ≤ 300) (hw : wfX e) : (P.xE e).length ≤ 600000 := by
  have := xE_long 13 0 e (by omega) h hw
  have h2 : 67 * 2 ^ 13 = 548864 := by decide
  omega
/-- Of any expression that is not too great. -/
theorem rx_any : ∀ (j d : Nat) (e : EX), 13 - d ≤ j → szX d e ≤ 300 → wfX e → ∀ (Q : Nat → Prop) (v : Value) (w : World), LX Q w v e → Calls Tryd.prog 15 #[v] w (TextTo (bs (P.xE e)) w)
  | 0, d, .mk o n s ks, hj, h, hw => by
    have := P.szX_kids h
    omega
  | j + 1, d, e, hj, h, hw => by
    intro Q v w hv
    have hlen : (P.xE e).length ≤ 1000000000000 := by
      have h1 := xE_long (13 - d) d e (Nat.le_refl _) h hw
      have h2 : 2 ^ (13 - d) ≤ 2 ^ 13 := Nat.pow_le_pow_right (by decide) (by omega)
      have h3 : 2 ^ 13 = 8192 := by decide
      omega
    refine rx_step e hw hlen Q (fun k hk v' w' hv' => ?_) v w hv
    obtain ⟨o, n, s, ks, rfl, hk⟩ := hk
    have hkk := P.szX_kids h
    unfold wfX at hw
    exact rx_any j (d + 1) k (by omega) (hkk.2.2.2 k hk) (wfXs_mem hw.2.2.2 k hk) Q v' w' hv'
theorem xC_long : ∀ (j d : Nat) (e : CO), 13 - d ≤ j → czC d e ≤ 300 → wfK e → (P.xC e).length + 8 ≤ 93 * 2 ^ j
  | 0, d, .mk o t s n ks, hj, h, hw => by
    have := P.czC_kids h
    omega
  | j + 1, d, .mk o t s n ks, hj, h, hw => by
    have hk := P.czC_kids h
    unfold wfK at hw
    have hp : 93 * 2 ^ (j + 1) = 2 * (93 * 2 ^ j) := by rw [Nat.pow_succ]; omega
    have h1 : 1 ≤ 2 ^ j := Nat.one_le_two_pow
    have hl : ∀ k ∈ ks, (P.xC k).length ≤ 93 * 2 ^ j - 8 := fun k hk' => by
      have := xC_long j (d + 1) k (by omega) (hk.2.2.2 k hk') (wfKs_mem hw.2.2.2.2 k hk')
      omega
    have k0 := getD_le (f := P.xC) hl 0
    have k1 := getD_le (f := P.xC) hl 1
    have hn := xNum_len n hw.2.2.2.1
    have ht := xNum_len t hw.2.1
    have hB : 93 ≤ 93 * 2 ^ j := by omega
    rw [hp]
    clear hp h1
    generalize 93 * 2 ^ j = B at *
    rw [P.xC, xCs_mapK]
    split
    · simp only [List.length_append, List.length_cons, List.length_nil]; omega
    split
    · simp only [List.length_append, List.length_cons, List.length_nil]; omega
    split
    · simp only [List.length_append, List.length_cons, List.length_nil]; omega
    split
    · simp only [List.length_append, List.length_cons, List.length_nil]; omega
    split
    · simp only [List.length_append, List.length_cons, List.length_nil]; omega
    · simp; omega
theorem xC_max {e : CO} (h : czC 0 e ≤ 300) (hw : wfK e) : (P.xC e).length ≤ 800000 := by
  have := xC_long 13 0 e (by omega) h hw
  have h2 : 93 * 2 ^ 13 = 761856 := by decide
  omega
/-- Of any condition that is not too great. -/
theorem rc_any : ∀ (j d : Nat) (e : CO), 13 - d ≤ j → czC d e ≤ 300 → wfK e → ∀ (Q : Nat → Prop) (v : Value) (w : World), LC Q w v e → Calls Tryd.prog 17 #[v] w (TextTo (bs (P.xC e)) w)
  | 0, d, .mk o t s n ks, hj, h, hw => by
    have := P.czC_kids h
    omega
  | j + 1, d, e, hj, h, hw => by
    intro Q v w hv
    have hlen : (P.xC e).length ≤ 1000000000000 := by
      have h1 := xC_long (13 - d) d e (Nat.le_refl _) h hw
      have h2 : 2 ^ (13 - d) ≤ 2 ^ 13 := Nat.pow_le_pow_right (by decide) (by omega)
      have h3 : 2 ^ 13 = 8192 := by decide
      omega
    refine rc_step e hw hlen (fun z hz => by have := xNum_len z hz; omega) Q (fun k hk v' w' hv' => ?_) v w hv
    obtain ⟨o, t, s, n, ks, rfl, hk⟩ := hk
    have hkk := P.czC_kids h
    unfold wfK at hw
    exact rc_any j (d + 1) k (by omega) (hkk.2.2.2 k hk) (wfKs_mem hw.2.2.2.2 k hk) Q v' w' hv'
end Go.Proofs.YtchokfgffnomoaaDoor.Lx
/-
  How statements and programs that came in are opened: rows of any things, statements as trees, a program. It proves nothing of Go by itself.
-/
namespace Go.Proofs.YtchokfgffnomoaaDoor.Lx
open Go.RowKit
open P (EX CO ST PG)
set_option maxRecDepth 100000
set_option linter.unusedVariables false
set_option linter.unusedSimpArgs false
mutual
/-- Its numbers are ints, its names may be. -/
def wfO : ST → Prop
  | .mk k m r l a th el => W64 k ∧ W64 m ∧ r.length ≤ maxLen ∧ l.length ≤ maxLen ∧ wfXs a ∧ wfOs th ∧ wfOs el
def wfOs : List ST → Prop
  | [] => True
  | e :: es => wfO e ∧ wfOs es
end
theorem wfOs_mem : ∀ {es : List ST}, wfOs es → ∀ e ∈ es, wfO e
  | [], _, e, he => by cases he
  | x :: es, h, e, he => by
    unfold wfOs at h
    rcases List.mem_cons.1 he with rfl | he
    · exact h.1
    · exact wfOs_mem h.2 e he
theorem wfOs_of : ∀ {es : List ST}, (∀ e ∈ es, wfO e) → wfOs es
  | [], _ => by
    unfold wfOs
    trivial
  | x :: es, h => by
    unfold wfOs
    exact ⟨h x (.head _), wfOs_of (fun e he => h e (.tail _ he))⟩
theorem row_all {α : Type} {P : α → Prop} {es : List α} (h : ∀ i, i < es.length → ∃ e, es[i]? = some e ∧ P e) : ∀ e ∈ es, P e := by
  intro e he
  obtain ⟨i, hi⟩ := List.getElem?_of_mem he
  have hil : i < es.length := by
    rcases Nat.lt_or_ge i es.length with h | h
    · exact h
    · rw [List.getElem?_eq_none h] at hi
      cases hi
  obtain ⟨e', he', hp⟩ := h i hil
  obtain rfl : e = e' := by
    rw [hi] at he'
    exact Option.some.inj he'
  exact hp
theorem LSs.of {Q : Nat → Prop} {W : World} {g : Nat} : ∀ (es : List ST) (off : Nat), (∀ i, i < es.length → ∃ e c0 c1 c2 c3 c4 c5 c6, es[i]? = some e ∧ W.cell? ⟨g, off + i * 7, none⟩ = some c0 ∧ W.cell? ⟨g, off + i * 7 + 1, none⟩ = some c1 ∧ W.cell? ⟨g, off + i * 7 + 2, none⟩ = some c2 ∧ W.cell? ⟨g, off + i * 7 + 3, none⟩ = some c3 ∧ W.cell? ⟨g, off + i * 7 + 4, none⟩ = some c4 ∧ W.cell? ⟨g, off + i * 7 + 5, none⟩ = some c5 ∧ W.cell? ⟨g, off + i * 7 + 6, none⟩ = some c6 ∧ LS Q W (.agg #[c0, c1, c2, c3, c4, c5, c6]) e) → LSs Q W g off es
  | [], _, _ => by
    unfold LSs
    trivial
  | e :: es, off, h => by
    unfold LSs
    constructor
    · obtain ⟨e', c0, c1, c2, c3, c4, c5, c6, he, h0, h1, h2, h3, h4, h5, h6, hx⟩ := h 0 (by simp)
      obtain rfl : e = e' := by simpa using he
      rw [Nat.zero_mul, Nat.add_zero] at h0 h1 h2 h3 h4 h5 h6
      exact ⟨c0, c1, c2, c3, c4, c5, c6, h0, h1, h2, h3, h4, h5, h6, hx⟩
    · refine LSs.of es (off + 7) (fun i hi => ?_)
      have h1 := h (i + 1) (by simp; omega)
      rw [show off + (i + 1) * 7 = off + 7 + i * 7 by omega] at h1
      simpa using h1
theorem LEs.of {W : World} {g : Nat} : ∀ (es : List CE) (off : Nat), (∀ i, i < es.length → ∃ e : CE, es[i]? = some e ∧ W.cell? ⟨g, off + i * 2, none⟩ = some (.string (bs e.1)) ∧ W.cell? ⟨g, off + i * 2 + 1, none⟩ = some (.int .i64 e.2)) → LEs W g off es
  | [], _, _ => trivial
  | e :: es, off, h => by
    unfold LEs
    constructor
    · obtain ⟨e', he, h0, h1⟩ := h 0 (by simp)
      obtain rfl : e = e' := by simpa using he
      rw [Nat.zero_mul, Nat.add_zero] at h0 h1
      exact ⟨h0, h1⟩
    · refine LEs.of es (off + 2) (fun i hi => ?_)
      have h1 := h (i + 1) (by simp; omega)
      rw [show off + (i + 1) * 2 = off + 2 + i * 2 by omega] at h1
      simpa using h1
theorem LTs.of {Q : Nat → Prop} {W : World} {g : Nat} : ∀ (es : List (List ST)) (off : Nat), (∀ i, i < es.length → ∃ e v, es[i]? = some e ∧ W.cell? ⟨g, off + i, none⟩ = some v ∧ IsSs Q W v e) → LTs Q W g off es
  | [], _, _ => trivial
  | e :: es, off, h => by
    unfold LTs
    constructor
    · obtain ⟨e', v, he, h0, h1⟩ := h 0 (by simp)
      obtain rfl : e = e' := by simpa using he
      rw [Nat.add_zero] at h0
      exact ⟨v, h0, h1⟩
    · refine LTs.of es (off + 1) (fun i hi => ?_)
      have h1 := h (i + 1) (by simp; omega)
      rw [show off + (i + 1) = off + 1 + i by omega] at h1
      simpa using h1
theorem cellsT : Tryd.prog.cellsOf 68 = 7 := by kernel_rfl
theorem cellsTs : Tryd.prog.cellsOf 66 = 1 := by kernel_rfl
theorem cellsTss : Tryd.prog.cellsOf 23 = 1 := by kernel_rfl
theorem cellsE : Tryd.prog.cellsOf 65 = 2 := by kernel_rfl
theorem cellsEs : Tryd.prog.cellsOf 22 = 1 := by kernel_rfl
theorem cellsG : Tryd.prog.cellsOf 28 = 10 := by kernel_rfl
theorem list7 {α : Type} {cs : List α} (h : cs.length = 7) : ∃ c0 c1 c2 c3 c4 c5 c6, cs = [c0, c1, c2, c3, c4, c5, c6] := by
  match cs, h with
  | [c0, c1, c2, c3, c4, c5, c6], _ => exact ⟨c0, c1, c2, c3, c4, c5, c6, rfl⟩
theorem list10 {α : Type} {cs : List α} (h : cs.length = 10) : ∃ c0 c1 c2 c3 c4 c5 c6 c7 c8 c9, cs = [c0, c1, c2, c3, c4, c5, c6, c7, c8, c9] := by
  match cs, h with
  | [c0, c1, c2, c3, c4, c5, c6, c7, c8, c9], _ => exact ⟨c0, c1, c2, c3, c4, c5, c6, c7, c8, c9, rfl⟩
/-- A slice of any things that came in. -/
theorem open_row {H : Type} {enc : TypeId × Value → H} {W : World} {base : Nat} {spare : Nat → Bool} {held : Bool} {α : Type} {n : Nat} {t e : TypeId} {k : Nat} {c : Value} {x : DataW H × List MemPlace} (ht : Tryd.prog.underlying t = some (.slice e)) (hk : Tryd.prog.cellsOf e = k) (h0 : 0 < k) (R : List Value → α → Prop) (hR : ∀ ds y, ds.length = k → DataW.trod enc Tryd.prog W base spare held n e ds = some y → ∃ a, R ds a) (h : DataW.trod enc Tryd.prog W base spare held (n + 1) t [c] = some x) :
    ∃ (a : Option Addr) (cap : Nat) (es : List α), c = .slice a es.length cap ∧ es.length ≤ maxLen ∧ (es = [] ∨ ∃ g off, a = some ⟨g, off, none⟩ ∧ ∀ i, i < es.length → ∃ e, es[i]? = some e ∧ ∃ ds, ds.length = k ∧ R ds e ∧ ∀ j, j < k → W.cell? ⟨g, off + i * k + j, none⟩ = ds[j]?) := by
  obtain ⟨a, len, cap, rfl, hlc, hcm, hr⟩ := elems ht hk h0 h
  rcases hr with h1 | ⟨g, off, rfl, hr⟩
  · subst h1
    exact ⟨a, cap, [], rfl, Nat.zero_le _, .inl rfl⟩
  · obtain ⟨es, hl, hes⟩ := pick_list (R := fun i a => ∃ ds, ds.length = k ∧ R ds a ∧ ∀ j, j < k → W.cell? ⟨g, off + i * k + j, none⟩ = ds[j]?) len (fun i hi => by
      obtain ⟨ds, y, hd, hy, hc⟩ := hr i hi
      obtain ⟨b, hb⟩ := hR ds y hd hy
      exact ⟨b, ds, hd, hb, hc⟩)
    subst hl
    exact ⟨_, cap, es, rfl, by omega, .inr ⟨g, off, rfl, hes⟩⟩
section
variable {H : Type} {enc : TypeId × Value → H} {W : World} {base : Nat} {spare : Nat → Bool} {held : Bool}
/-- Expressions that came in, side by side. -/
theorem open_xs {n : Nat} {c : Value} {x : DataW H × List MemPlace} (h : DataW.trod enc Tryd.prog W base spare held (n + 1) 29 [c] = some x) : ∃ (a : Option Addr) (cap : Nat) (es : List EX), c = .slice a es.length cap ∧ es.length ≤ maxLen ∧ (es = [] ∨ ∃ g off, a = some ⟨g, off, none⟩ ∧ True ∧ LXs (fun _ => True) W g off es) ∧ wfXs es := by
  obtain ⟨a, cap, es, rfl, hm, hr⟩ := open_row Tryd.underlying29 cellsX (by decide) (fun ds e => LX (fun _ => True) W (.agg ds.toArray) e ∧ wfX e) (fun ds y hd hy => open_lx n ds y hy) h
  rcases hr with rfl | ⟨g, off, rfl, hr⟩
  · exact ⟨a, cap, [], rfl, hm, .inl rfl, by unfold wfXs; trivial⟩
  · refine ⟨_, cap, es, rfl, hm, .inr ⟨g, off, rfl, trivial, LXs.of es off (fun i hi => ?_)⟩, wfXs_of (row_all (fun i hi => ?_))⟩
    · obtain ⟨e, he, ds, hd, ⟨hx, _⟩, hc⟩ := hr i hi
      obtain ⟨d0, d1, d2, d3, rfl⟩ := list4 hd
      exact ⟨e, d0, d1, d2, d3, he, hc 0 (by decide), hc 1 (by decide), hc 2 (by decide), hc 3 (by decide), hx⟩
    · obtain ⟨e, he, ds, hd, ⟨_, hw⟩, hc⟩ := hr i hi
      exact ⟨e, he, hw⟩
theorem open_ss {n : Nat} {c : Value} {x : DataW H × List MemPlace} (hI : ∀ (cs : List Value) (x : DataW H × List MemPlace), DataW.trod enc Tryd.prog W base spare held n 68 cs = some x → ∃ e, LS (fun _ => True) W (.agg cs.toArray) e ∧ wfO e) (h : DataW.trod enc Tryd.prog W base spare held (n + 1) 66 [c] = some x) : ∃ (a : Option Addr) (cap : Nat) (es : List ST), c = .slice a es.length cap ∧ es.length ≤ maxLen ∧ (es = [] ∨ ∃ g off, a = some ⟨g, off, none⟩ ∧ True ∧ LSs (fun _ => True) W g off es) ∧ wfOs es := by
  obtain ⟨a, cap, es, rfl, hm, hr⟩ := open_row Tryd.underlying66 cellsT (by decide) (fun ds e => LS (fun _ => True) W (.agg ds.toArray) e ∧ wfO e) (fun ds y hd hy => hI ds y hy) h
  rcases hr with rfl | ⟨g, off, rfl, hr⟩
  · exact ⟨a, cap, [], rfl, hm, .inl rfl, by unfold wfOs; trivial⟩
  · refine ⟨_, cap, es, rfl, hm, .inr ⟨g, off, rfl, trivial, LSs.of es off (fun i hi => ?_)⟩, wfOs_of (row_all (fun i hi => ?_))⟩
    · obtain ⟨e, he, ds, hd, ⟨hx, _⟩, hc⟩ := hr i hi
      obtain ⟨d0, d1, d2, d3, d4, d5, d6, rfl⟩ := list7 hd
      exact ⟨e, d0, d1, d2, d3, d4, d5, d6, he, hc 0 (by decide), hc 1 (by decide), hc 2 (by decide), hc 3 (by decide), hc 4 (by decide), hc 5 (by decide), hc 6 (by decide), hx⟩
    · obtain ⟨e, he, ds, hd, ⟨_, hw⟩, hc⟩ := hr i hi
      exact ⟨e, he, hw⟩
set_option maxHeartbeats 1000000 in
/-- A statement that came in is one. -/
theorem open_ls : ∀ (n : Nat) (cs : List Value) (x : DataW H × List MemPlace), DataW.trod enc Tryd.prog W base spare held n 68 cs = some x → ∃ e, LS (fun _ => True) W (.agg cs.toArray) e ∧ wfO e
  | 0, cs, x, h => by simp [DataW.trod] at h
  | 1, cs, x, h => by
    obtain ⟨y, hy⟩ := fld Tryd.underlying68 h 0 _ rfl
    simp [DataW.trod] at hy
  | n + 2, cs, x, h => by
    obtain ⟨c0, c1, c2, c3, c4, c5, c6, rfl⟩ := list7 ((fld_len Tryd.underlying68 h).trans cellsT)
    obtain ⟨y0, h0⟩ := fldc Tryd.underlying68 h 0 _ rfl (t' := 3) rfl cellsI (cs' := [c0]) rfl
    obtain ⟨y1, h1⟩ := fldc Tryd.underlying68 h 1 _ rfl (t' := 3) rfl cellsI (cs' := [c1]) rfl
    obtain ⟨y2, h2⟩ := fldc Tryd.underlying68 h 2 _ rfl (t' := 9) rfl cellsS (cs' := [c2]) rfl
    obtain ⟨y3, h3⟩ := fldc Tryd.underlying68 h 3 _ rfl (t' := 9) rfl cellsS (cs' := [c3]) rfl
    obtain ⟨y4, h4⟩ := fldc Tryd.underlying68 h 4 _ rfl (t' := 29) rfl cellsXs (cs' := [c4]) rfl
    obtain ⟨y5, h5⟩ := fldc Tryd.underlying68 h 5 _ rfl (t' := 66) rfl cellsTs (cs' := [c5]) rfl
    obtain ⟨y6, h6⟩ := fldc Tryd.underlying68 h 6 _ rfl (t' := 66) rfl cellsTs (cs' := [c6]) rfl
    obtain ⟨k, hk, _, wk⟩ := DataW.trod_int Tryd.underlying3 h0
    obtain ⟨m, hm, _, wm⟩ := DataW.trod_int Tryd.underlying3 h1
    obtain ⟨r, hr, _, wr⟩ := DataW.trod_string Tryd.underlying9 h2
    obtain ⟨l, hl, _, wl⟩ := DataW.trod_string Tryd.underlying9 h3
    obtain ⟨aa, ca, xs, rfl, ma, ra, wa⟩ := open_xs h4
    obtain ⟨at', ct, th, rfl, mt, rt, wt⟩ := open_ss (open_ls n) h5
    obtain ⟨ae, ce, el, rfl, me, re, we⟩ := open_ss (open_ls n) h6
    simp at hk hm hr hl
    subst hk hm hr hl
    refine ⟨.mk k m (by' r) (by' l) xs th el, ?_, ?_⟩
    · unfold LS
      exact ⟨aa, ca, at', ct, ae, ce, rfl, ma, mt, me, ra, rt, re⟩
    · unfold wfO
      exact ⟨w64_of wk, w64_of wm, wr, wl, wa, wt, we⟩
/-- A program's numbers are ints, its names may be. -/
structure WfG (p : PG) : Prop where
  name : p.name.length ≤ maxLen
  vals : W64 p.vals
  ask : W64 p.ask
  init : ∀ c ∈ p.init, c.1.length ≤ maxLen ∧ W64 c.2
  thr : ∀ l ∈ p.threads, wfOs l
  cond : wfK p.cond
theorem open_es {n : Nat} {c : Value} {x : DataW H × List MemPlace} (h : DataW.trod enc Tryd.prog W base spare held (n + 1) 22 [c] = some x) : ∃ es : List CE, IsEs (fun _ => True) W c es ∧ ∀ e ∈ es, e.1.length ≤ maxLen ∧ W64 e.2 := by
  obtain ⟨a, cap, es, rfl, hm, hr⟩ := open_row (α := CE) Tryd.underlying22 cellsE (by decide) (fun ds e => ds = [.string (bs e.1), .int .i64 e.2] ∧ e.1.length ≤ maxLen ∧ W64 e.2) (fun ds y hd hy => by
    rcases n with _ | n
    · simp [DataW.trod] at hy
    obtain ⟨c0, c1, rfl⟩ := list2 hd
    obtain ⟨y0, h0⟩ := fldc Tryd.underlying65 hy 0 _ rfl (t' := 9) rfl cellsS (cs' := [c0]) rfl
    obtain ⟨y1, h1⟩ := fldc Tryd.underlying65 hy 1 _ rfl (t' := 3) rfl cellsI (cs' := [c1]) rfl
    obtain ⟨s, hs, _, ws⟩ := DataW.trod_string Tryd.underlying9 h0
    obtain ⟨k, hk, _, wk⟩ := DataW.trod_int Tryd.underlying3 h1
    simp at hs hk
    subst hs hk
    exact ⟨(by' s, k), rfl, ws, w64_of wk⟩) h
  rcases hr with rfl | ⟨g, off, rfl, hr⟩
  · exact ⟨[], ⟨a, cap, rfl, hm, .inl rfl⟩, fun e he => by cases he⟩
  · refine ⟨es, ⟨_, cap, rfl, hm, .inr ⟨g, off, rfl, trivial, LEs.of es off (fun i hi => ?_)⟩⟩, row_all (fun i hi => ?_)⟩
    · obtain ⟨e, he, ds, hd, ⟨rfl, _⟩, hc⟩ := hr i hi
      exact ⟨e, he, hc 0 (by decide), hc 1 (by decide)⟩
    · obtain ⟨e, he, ds, hd, ⟨_, hw⟩, hc⟩ := hr i hi
      exact ⟨e, he, hw⟩
theorem open_ts {n : Nat} {c : Value} {x : DataW H × List MemPlace} (h : DataW.trod enc Tryd.prog W base spare held (n + 1) 23 [c] = some x) : ∃ es : List (List ST), IsTs (fun _ => True) W c es ∧ ∀ l ∈ es, wfOs l := by
  obtain ⟨a, cap, es, rfl, hm, hr⟩ := open_row (α := List ST) Tryd.underlying23 cellsTs (by decide) (fun ds l => ∃ v, ds = [v] ∧ IsSs (fun _ => True) W v l ∧ wfOs l) (fun ds y hd hy => by
    match ds, hd with
    | [v], _ =>
      rcases n with _ | n
      · simp [DataW.trod] at hy
      obtain ⟨a', c', l, rfl, hml, hrl, hwl⟩ := open_ss (open_ls n) hy
      exact ⟨l, _, rfl, ⟨a', c', rfl, hml, hrl⟩, hwl⟩) h
  rcases hr with rfl | ⟨g, off, rfl, hr⟩
  · exact ⟨[], ⟨a, cap, rfl, hm, .inl rfl⟩, fun e he => by cases he⟩
  · refine ⟨es, ⟨_, cap, rfl, hm, .inr ⟨g, off, rfl, trivial, LTs.of es off (fun i hi => ?_)⟩⟩, row_all (fun i hi => ?_)⟩
    · obtain ⟨e, he, ds, hd, ⟨v, rfl, hs, _⟩, hc⟩ := hr i hi
      have h0 := hc 0 (by decide)
      exact ⟨e, v, he, by simpa using h0, hs⟩
    · obtain ⟨e, he, ds, hd, ⟨v, _, _, hw⟩, hc⟩ := hr i hi
      exact ⟨e, he, hw⟩
set_option maxHeartbeats 1000000 in
/-- A program that came in is one. -/
theorem open_lp : ∀ (n : Nat) (cs : List Value) (x : DataW H × List MemPlace), DataW.trod enc Tryd.prog W base spare held n 28 cs = some x → ∃ p, LPg (fun _ => True) W (.agg cs.toArray) p ∧ WfG p
  | 0, cs, x, h => by simp [DataW.trod] at h
  | 1, cs, x, h => by
    obtain ⟨y, hy⟩ := fld Tryd.underlying28 h 0 _ rfl
    simp [DataW.trod] at hy
  | n + 2, cs, x, h => by
    obtain ⟨c0, c1, c2, c3, c4, c5, c6, c7, c8, c9, rfl⟩ := list10 ((fld_len Tryd.underlying28 h).trans cellsG)
    obtain ⟨y0, h0⟩ := fldc Tryd.underlying28 h 0 _ rfl (t' := 9) rfl cellsS (cs' := [c0]) rfl
    obtain ⟨y1, h1⟩ := fldc Tryd.underlying28 h 1 _ rfl (t' := 3) rfl cellsI (cs' := [c1]) rfl
    obtain ⟨y2, h2⟩ := fldc Tryd.underlying28 h 2 _ rfl (t' := 22) rfl cellsEs (cs' := [c2]) rfl
    obtain ⟨y3, h3⟩ := fldc Tryd.underlying28 h 3 _ rfl (t' := 23) rfl cellsTss (cs' := [c3]) rfl
    obtain ⟨y4, h4⟩ := fldc Tryd.underlying28 h 4 _ rfl (t' := 3) rfl cellsI (cs' := [c4]) rfl
    obtain ⟨y5, h5⟩ := fldc Tryd.underlying28 h 5 _ rfl (t' := 26) rfl cellsC (cs' := [c5, c6, c7, c8, c9]) rfl
    obtain ⟨s, hs, _, ws⟩ := DataW.trod_string Tryd.underlying9 h0
    obtain ⟨k, hk, _, wk⟩ := DataW.trod_int Tryd.underlying3 h1
    obtain ⟨i, hi, wi⟩ := open_es h2
    obtain ⟨t, ht, wt⟩ := open_ts h3
    obtain ⟨q, hq, _, wq⟩ := DataW.trod_int Tryd.underlying3 h4
    obtain ⟨e, he, we⟩ := open_lk (n + 1) _ _ h5
    simp at hs hk hq
    subst hs hk hq
    have he0 := he
    obtain ⟨o, tt, ns, nn, ks⟩ := e
    unfold LC at he0
    obtain ⟨a, cap, hv, _, _⟩ := he0
    simp at hv
    obtain ⟨rfl, rfl, rfl, rfl, rfl⟩ := hv
    exact ⟨⟨by' s, k, i, t, q, .mk o tt ns nn ks⟩, ⟨c2, c3, o, tt, bs ns, nn, a, ks.length, cap, rfl, hi, ht, he⟩, ⟨ws, w64_of wk, w64_of wq, wi, wt, we⟩⟩
theorem open_g {v : Value} {d : DataW H} {p : List MemPlace} (hv : Value.okWide Tryd.prog W .any 0 28 v) (h : DataW.Trod enc Tryd.prog W base spare held 28 v d p) : ∃ q, LPg (fun _ => True) W v q ∧ WfG q := by
  obtain ⟨cs, rfl, _⟩ := Go.WideShapes.okWide_struct Tryd.underlying28 hv
  obtain ⟨n, hn⟩ := h
  obtain ⟨e, he, hw⟩ := open_lp n _ _ hn
  exact ⟨e, by simpa [Value.cells] using he, hw⟩
end
end Go.Proofs.YtchokfgffnomoaaDoor.Lx
/-
  What stmtsSize tells, as a contract: a count; where it is not too many, how statements are bounded.
-/
namespace Go.Proofs.YtchokfgffnomoaaDoor.P
set_option maxRecDepth 100000
mutual
/-- How many statements. -/
def ctS : ST → Nat
  | .mk _ _ _ _ _ th el => 1 + ctL th + ctL el
def ctL : List ST → Nat
  | [] => 0
  | s :: ss => ctS s + ctL ss
end
mutual
/-- A statement at that depth is not too long, nor what is within. -/
def ltT : Nat → ST → Prop
  | d, .mk _ _ r l a th el => r.length ≤ 40 ∧ l.length ≤ 40 ∧ a.length ≤ 20 ∧ (∀ e ∈ a, szX 0 e ≤ 300) ∧ (d + 1 ≤ 12 ∧ th.length ≤ 40 ∧ ltTs (d + 1) th) ∧ (el.length ≤ 40 ∧ ltTs (d + 1) el)
def ltTs : Nat → List ST → Prop
  | _, [] => True
  | d, s :: ss => ltT d s ∧ ltTs d ss
end
theorem ctL_take {ss : List ST} {j : Nat} {s : ST} (h : ss[j]? = some s) : ctL (ss.take (j + 1)) = ctL (ss.take j) + ctS s := by
  induction ss generalizing j with
  | nil => simp at h
  | cons x ss ih =>
    cases j with
    | zero =>
      simp at h
      subst h
      simp only [List.take_succ_cons, List.take_zero, ctL]
      omega
    | succ j =>
      rw [List.take_succ_cons, List.take_succ_cons, ctL, ctL, ih (by simpa using h)]
      omega
theorem ltTs_of {d : Nat} : ∀ {ss : List ST}, (∀ (i : Nat) (s : ST), ss[i]? = some s → ltT d s) → ltTs d ss
  | [], _ => by
    unfold ltTs
    trivial
  | x :: ss, h => by
    unfold ltTs
    exact ⟨h 0 x rfl, ltTs_of (fun i s hi => h (i + 1) s (by simpa using hi))⟩
theorem ltTs_mem {d : Nat} : ∀ {ss : List ST}, ltTs d ss → ∀ s ∈ ss, ltT d s
  | x :: ss, h, s, hs => by
    unfold ltTs at h
    rcases List.mem_cons.1 hs with rfl | hs
    · exact h.1
    · exact ltTs_mem h.2 s hs
end Go.Proofs.YtchokfgffnomoaaDoor.P
namespace Go.Proofs.YtchokfgffnomoaaDoor.Lx
open Go.RowKit
open P (EX CO ST PG szX ctS ctL ltT ltTs)
set_option maxRecDepth 100000
set_option linter.unusedVariables false
set_option linter.unusedSimpArgs false
/-- Statements side by side, or none. -/
def RowU (w : World) (a : Option Addr) (es : List ST) : Prop := es = [] ∨ ∃ g off, a = some ⟨g, off, none⟩ ∧ True ∧ LSs (fun _ => True) w g off es
theorem RowU.low {w w' : World} {a : Option Addr} {es : List ST} (h : RowU w a es) (hb : Below w.heap.size w w') : RowU w' a es := by
  rcases h with h | ⟨g, off, ha, hg, hs⟩
  · exact .inl h
  · exact .inr ⟨g, off, ha, hg, LSs.keep (Keeps.below hb (Nat.le_refl _)) es trivial hs⟩
def RowV (w : World) (a : Option Addr) (es : List EX) : Prop := es = [] ∨ ∃ g off, a = some ⟨g, off, none⟩ ∧ True ∧ LXs (fun _ => True) w g off es
theorem RowV.low {w w' : World} {a : Option Addr} {es : List EX} (h : RowV w a es) (hb : Below w.heap.size w w') : RowV w' a es := by
  rcases h with h | ⟨g, off, ha, hg, hs⟩
  · exact .inl h
  · exact .inr ⟨g, off, ha, hg, LXs.keep (Keeps.below hb (Nat.le_refl _)) es trivial hs⟩
/-- A count is told; if it is not too many, the statements are bounded. -/
def SzTo (d : Nat) (l : List ST) (w : World) (e : Ending) (w' : World) : Prop := ∃ N : Nat, e = .returned (.int .i64 (N : Nat)) ∧ N ≤ 6000 + 400 * (14 - d) ∧ (N ≤ 300 → d ≤ 12 ∧ l.length ≤ 40 ∧ ltTs d l ∧ ctL l ≤ N) ∧ Below w.heap.size w w'
set_option maxHeartbeats 25600000 in
theorem ssize_step (d : Nat) (es : List ST) (hd : d ≤ 1000) (IH : d ≤ 12 → ∀ (es' : List ST), es'.length ≤ maxLen → wfOs es' → ∀ (a : Option Addr) (c : Nat) (w : World), RowU w a es' → Calls Tryd.prog 32 #[.slice a es'.length c, .int .i64 ((d : Int) + 1)] w (SzTo (d + 1) es' w)) (a : Option Addr) (c : Nat) (w : World) (hr : RowU w a es) (hm : es.length ≤ maxLen) (hw : wfOs es) :
    Calls Tryd.prog 32 #[.slice a es.length c, .int .i64 (d : Nat)] w (SzTo d es w) := by
  unfold maxLen at hm
  have HR := Lib.hid hr
  have HW := Lib.hid hw
  clear hr hw
  by_cases h1 : 12 < d
  · have d1 : decide ((12 : Int) < (d : Int)) = true := decide_eq_true (by omega)
    have d2 : decide (12 < d) = true := decide_eq_true (by omega)
    clear IH
    go_enter Tryd.func32, Tryd.ntmps32
    go_wp2_with fail
    go_ret
    exact ⟨301, rfl, by omega, fun h => by omega, Below.refl _ _⟩
  have d1 : decide ((12 : Int) < (d : Int)) = false := decide_eq_false (by omega)
  have d2 : decide (12 < d) = false := decide_eq_false (by omega)
  by_cases h2 : 40 < es.length
  · have d3 : decide ((40 : Int) < (es.length : Int)) = true := decide_eq_true (by omega)
    have d4 : decide (40 < es.length) = true := decide_eq_true (by omega)
    clear IH
    go_enter Tryd.func32, Tryd.ntmps32
    go_wp2_with fail
    go_ret
    exact ⟨301, rfl, by omega, fun h => by omega, Below.refl _ _⟩
  have d3 : decide ((40 : Int) < (es.length : Int)) = false := decide_eq_false (by omega)
  have d4 : decide (40 < es.length) = false := decide_eq_false (by omega)
  have HI := Lib.hid (IH (by omega))
  clear IH
  go_enter Tryd.func32, Tryd.ntmps32
  go_wp2_with fail
  go_loopw [5, 6] (fun n i wr => (∃ j N : Nat, j ≤ es.length ∧ N ≤ 300 ∧ i = .int .i64 (j : Nat) ∧ n = .int .i64 (N : Nat) ∧ (∀ i s, i < j → es[i]? = some s → ltT d s) ∧ ctL (es.take j) ≤ N) ∧ Below w.heap.size w wr) (fun _ i _ => es.length - (intOf i).toNat)
  case atStart => exact ⟨⟨0, 0, Nat.zero_le _, by omega, rfl, rfl, fun i s h => absurd h (Nat.not_lt_zero _), by simp [ctL]⟩, Below.refl _ _⟩
  case round =>
    obtain ⟨⟨j, N, hj, hN, rfl, rfl, hlt0, hct0⟩, hbr⟩ := hrel
    have HBR := Lib.hid hbr
    have HL0 := Lib.hid hlt0
    have HC0 := Lib.hid hct0
    clear hlt0 hct0
    by_cases hlt : j < es.length
    · obtain ⟨g, off, rfl, _, hs⟩ : ∃ g off, a = some ⟨g, off, none⟩ ∧ True ∧ LSs (fun _ => True) wr g off es := by
        rcases HR.out.low hbr with h0 | h0
        · rw [h0] at hlt
          simp at hlt
        · exact h0
      obtain ⟨s, k0, k1, k2, k3, k4, k5, k6, hs0, c0, c1, c2, c3, c4, c5, c6, hls⟩ := LSs.at es hs j hlt
      have hwS := wfOs_mem HW.out s (List.mem_of_getElem? hs0)
      have HS0 := Lib.hid hs0
      have HCT := Lib.hid (P.ctL_take hs0)
      obtain ⟨kd, md, rg, lc, ar, th, el⟩ := s
      unfold LS at hls
      obtain ⟨aa, ca', at', ct, ae, ce, hv, m1, m2, m3, l1, l2, l3⟩ := hls
      injection hv with hv
      injection hv with hv
      injection hv with e0 hv
      injection hv with e1 hv
      injection hv with e2 hv
      injection hv with e3 hv
      injection hv with e4 hv
      injection hv with e5 hv
      injection hv with e6 hv
      subst e0 e1 e2 e3 e4 e5 e6
      clear hv
      unfold wfO at hwS
      obtain ⟨_, _, wr', wl', wa', wt', we'⟩ := hwS
      unfold maxLen at m1 m2 m3 wr' wl'
      have d5 : (0 : Int) ≤ (j : Int) := by omega
      have d6 : (j : Int) < (es.length : Int) := by omega
      have d7 : decide ((j : Int) < (es.length : Int)) = true := decide_eq_true (by omega)
      have d8 : decide (j < es.length) = true := decide_eq_true (by omega)
      have hbx : Below wr.heap.size wr (wr.alloc (.cells #[.int .i64 kd, .int .i64 md, .string (bs rg), .string (bs lc), .slice aa ar.length ca', .slice at' th.length ct, .slice ae el.length ce] 68)) := one_belowX _ _
      have HBX := Lib.hid (Blk.new wr 68 #[.int .i64 kd, .int .i64 md, .string (bs rg), .string (bs lc), .slice aa ar.length ca', .slice at' th.length ct, .slice ae el.length ce])
      have HBB := Lib.hid (hbr.trans (hbx.mono hbr.size))
      have HAR := Lib.hid ((show RowV wr aa ar from l1).low hbx)
      have HTH := Lib.hid ((show RowU wr at' th from l2).low hbx)
      have HEL := Lib.hid ((show RowU wr ae el from l3).low hbx)
      have HWA := Lib.hid wa'
      have HIT := Lib.hid (fun w' => HI.out th m2 wt' at' ct w')
      have HIE := Lib.hid (fun w' => HI.out el m3 we' ae ce w')
      have s1 : (bs rg).size = rg.length := bs_size rg
      have s2 : (bs lc).size = lc.length := bs_size lc
      clear hs hs0 l1 l2 l3 wa' wt' we' hbr hbx HI HR HW
      by_cases h3 : 40 < rg.length
      · have d9 : decide ((40 : Int) < ((bs rg).size : Int)) = true := decide_eq_true (by omega)
        have d10 : decide (40 < (bs rg).size) = true := decide_eq_true (by omega)
        go_wp2_with fail
        go_ret
        exact ⟨301, rfl, by omega, fun h => by omega, HBB.out⟩
      have d9 : decide ((40 : Int) < ((bs rg).size : Int)) = false := decide_eq_false (by omega)
      have d10 : decide (40 < (bs rg).size) = false := decide_eq_false (by omega)
      by_cases h4 : 40 < lc.length
      · have d11 : decide ((40 : Int) < ((bs lc).size : Int)) = true := decide_eq_true (by omega)
        have d12 : decide (40 < (bs lc).size) = true := decide_eq_true (by omega)
        go_wp2_with fail
        go_ret
        exact ⟨301, rfl, by omega, fun h => by omega, HBB.out⟩
      have d11 : decide ((40 : Int) < ((bs lc).size : Int)) = false := decide_eq_false (by omega)
      have d12 : decide (40 < (bs lc).size) = false := decide_eq_false (by omega)
      by_cases h5 : 20 < ar.length
      · have d13 : decide ((20 : Int) < (ar.length : Int)) = true := decide_eq_true (by omega)
        have d14 : decide (20 < ar.length) = true := decide_eq_true (by omega)
        go_wp2_with fail
        go_ret
        exact ⟨301, rfl, by omega, fun h => by omega, HBB.out⟩
      have d13 : decide ((20 : Int) < (ar.length : Int)) = false := decide_eq_false (by omega)
      have d14 : decide (20 < ar.length) = false := decide_eq_false (by omega)
      go_wp2_with fail
      generalize hW : wr.alloc (.cells #[.int .i64 kd, .int .i64 md, .string (bs rg), .string (bs lc), .slice aa ar.length ca', .slice at' th.length ct, .slice ae el.length ce] 68) = W at *
      clear hW d9 d10 d11 d12 d13 d14 c0 c1 c2 c3 c4 c5 c6
      go_loopw [5, 8] (fun n k wk => (∃ q M : Nat, q ≤ ar.length ∧ M ≤ 301 ∧ N + 1 ≤ M ∧ n = .int .i64 (M : Nat) ∧ k = .int .i64 (q : Nat) ∧ ∀ i e, i < q → ar[i]? = some e → szX 0 e ≤ 300) ∧ Below W.heap.size W wk) (fun _ k _ => ar.length - (intOf k).toNat)
      case atStart => exact ⟨⟨0, N + 1, Nat.zero_le _, by omega, by omega, by go_num, rfl, fun i e h => absurd h (Nat.not_lt_zero _)⟩, Below.refl _ _⟩
      case round =>
        obtain ⟨⟨q, M, hq, hM, hNM, rfl, rfl, hx0⟩, hbk⟩ := hrel
        have HBK := Lib.hid hbk
        have HX0 := Lib.hid hx0
        have p4 := (HBX.out.live' hbk).cell 4
        have p5 := (HBX.out.live' hbk).cell 5
        have p6 := (HBX.out.live' hbk).cell 6
        simp only [List.getElem?_toArray, List.getElem?_cons_zero, List.getElem?_cons_succ] at p4 p5 p6
        clear hx0
        by_cases hqt : q < ar.length
        · obtain ⟨gx, ox, rfl, _, hxs⟩ : ∃ g off, aa = some ⟨g, off, none⟩ ∧ True ∧ LXs (fun _ => True) wr g off ar := by
            rcases HAR.out.low hbk with h0 | h0
            · rw [h0] at hqt
              simp at hqt
            · exact h0
          obtain ⟨x, a0, a1, a2, a3, hx, k0, k1, k2, k3, hlx⟩ := LXs.at ar hxs q hqt
          have HX := Lib.hid (size_any 13 0 x (by omega) (by omega) 0 _ wr rfl hlx (wfXs_mem HWA.out x (List.mem_of_getElem? hx)))
          have hxb := P.szX_le 0 x
          have HXQ := Lib.hid hx
          have e5 : (0 : Int) ≤ (q : Int) := by omega
          have e6 : (q : Int) < (ar.length : Int) := by omega
          have e7 : decide ((q : Int) < (ar.length : Int)) = true := decide_eq_true (by omega)
          have e8 : decide (q < ar.length) = true := decide_eq_true (by omega)
          clear hxs hx hlx hbk
          generalize hsz : szX 0 x = R at *
          have HSZ := Lib.hid hsz
          clear hsz
          by_cases hbig : 300 < M + R
          · have e1 : decide ((300 : Int) < (M : Int) + (R : Int)) = true := decide_eq_true (by omega)
            go_wp2_with fail
            with_reducible refine HX.out.mono ?_
            rintro e w2 ⟨rfl, hb2⟩
            go_wp2_with fail
            go_ret
            exact ⟨M + R, congrArg (fun z => Ending.returned (.int .i64 z)) (by omega), by omega, fun h => by omega, HBB.out.trans ((HBK.out.trans (hb2.mono HBK.out.size)).mono HBB.out.size)⟩
          · have e1 : decide ((300 : Int) < (M : Int) + (R : Int)) = false := decide_eq_false (by omega)
            go_wp2_with fail
            with_reducible refine HX.out.mono ?_
            rintro e w2 ⟨rfl, hb2⟩
            go_wp2_with fail
            go_roundw
            case rel =>
              refine ⟨⟨q + 1, M + R, by omega, by omega, by omega, by go_num, by go_num, fun i e hi he => ?_⟩, HBK.out.trans (hb2.mono HBK.out.size)⟩
              by_cases hiq : i = q
              · subst hiq
                rw [HXQ.out] at he
                obtain rfl := Option.some.inj he
                have := HSZ.out
                omega
              · exact HX0.out i e (by omega) he
            case measure => simp [intOf]; omega
        · obtain rfl : q = ar.length := by omega
          have e7 : decide ((ar.length : Int) < (ar.length : Int)) = false := by simp
          have e8 : decide (ar.length < ar.length) = false := by simp
          have HIT2 := Lib.hid (HIT.out wr (HTH.out.low hbk))
          have HEL2 := Lib.hid (HEL.out.low hbk)
          have HQ2 := Lib.hid (HBX.out.live' hbk)
          clear hqt hbk
          go_wp2_with fail
          with_reducible refine HIT2.out.mono ?_
          rintro e w3 ⟨N2, rfl, hN2, hL2, hb3⟩
          have HB3 := Lib.hid (HBK.out.trans (hb3.mono HBK.out.size))
          have HIE2 := Lib.hid (HIE.out w3 (HEL2.out.low hb3))
          have HL2 := Lib.hid hL2
          have p4 := (HQ2.out.live' hb3).cell 4
          have p5 := (HQ2.out.live' hb3).cell 5
          have p6 := (HQ2.out.live' hb3).cell 6
          simp only [List.getElem?_toArray, List.getElem?_cons_zero, List.getElem?_cons_succ] at p4 p5 p6
          have hN2b : N2 ≤ 12000 := by omega
          clear hb3 hL2
          by_cases hbig : 300 < M + N2
          · have e1 : decide ((300 : Int) < (M : Int) + (N2 : Int)) = true := decide_eq_true (by omega)
            go_wp2_with fail
            go_ret
            exact ⟨M + N2, congrArg (fun z => Ending.returned (.int .i64 z)) (by omega), by omega, fun h => by omega, HBB.out.trans (HB3.out.mono HBB.out.size)⟩
          have e1 : decide ((300 : Int) < (M : Int) + (N2 : Int)) = false := decide_eq_false (by omega)
          go_wp2_with fail
          with_reducible refine HIE2.out.mono ?_
          rintro e w4 ⟨N3, rfl, hN3, hL3, hb4⟩
          have HB4 := Lib.hid (HB3.out.trans (hb4.mono HB3.out.size))
          have HL3 := Lib.hid hL3
          have hN3b : N3 ≤ 12000 := by omega
          clear hb4 hL3
          by_cases hbig3 : 300 < M + N2 + N3
          · have e1 : decide ((300 : Int) < (M : Int) + (N2 : Int) + (N3 : Int)) = true := decide_eq_true (by omega)
            go_wp2_with fail
            go_ret
            exact ⟨M + N2 + N3, congrArg (fun z => Ending.returned (.int .i64 z)) (by omega), by omega, fun h => by omega, HBB.out.trans (HB4.out.mono HBB.out.size)⟩
          have e1 : decide ((300 : Int) < (M : Int) + (N2 : Int) + (N3 : Int)) = false := decide_eq_false (by omega)
          have HNX := Lib.hid (show (∀ i s, i < j + 1 → es[i]? = some s → ltT d s) ∧ ctL (es.take (j + 1)) ≤ M + N2 + N3 from by
            have t2 := HL2.out (by omega)
            have t3 := HL3.out (by omega)
            refine ⟨fun i s hi he => ?_, ?_⟩
            · by_cases hij : i = j
              · subst hij
                rw [HS0.out] at he
                obtain rfl := Option.some.inj he
                unfold P.ltT
                refine ⟨by omega, by omega, by omega, fun e he => ?_, ⟨t2.1, t2.2.1, t2.2.2.1⟩, t3.2.1, t3.2.2.1⟩
                obtain ⟨i', hi'⟩ := List.getElem?_of_mem he
                have hil : i' < ar.length := by
                  rcases Nat.lt_or_ge i' ar.length with h | h
                  · exact h
                  · rw [List.getElem?_eq_none h] at hi'
                    cases hi'
                exact HX0.out i' e hil hi'
              · exact HL0.out i s (by omega) he
            · have h1 := HCT.out
              have h2 := HC0.out
              rw [P.ctS] at h1
              omega)
          go_wp2_with fail
          go_roundw
          case rel => exact ⟨⟨j + 1, M + N2 + N3, by omega, by omega, by go_num, by go_num, HNX.out.1, HNX.out.2⟩, HBB.out.trans (HB4.out.mono HBB.out.size)⟩
          case measure => simp [intOf]; omega
    · obtain rfl : j = es.length := by omega
      have d9 : decide ((es.length : Int) < (es.length : Int)) = false := by simp
      have d10 : decide (es.length < es.length) = false := by simp
      have HE := Lib.hid (show ltTs d es ∧ ctL es ≤ N from ⟨P.ltTs_of (fun i s he => HL0.out i s (by
        rcases Nat.lt_or_ge i es.length with h | h
        · exact h
        · rw [List.getElem?_eq_none h] at he
          cases he) he), by have h1 := HC0.out; rw [List.take_length] at h1; exact h1⟩)
      clear hlt
      go_wp2_with fail
      go_ret
      exact ⟨N, rfl, by omega, fun _ => ⟨by omega, by omega, HE.out.1, HE.out.2⟩, HBR.out⟩
theorem ssize_any : ∀ (f d : Nat) (es : List ST), 13 - d ≤ f → d ≤ 1000 → ∀ (z : Int) (a : Option Addr) (c : Nat) (w : World), z = (d : Nat) → RowU w a es → es.length ≤ maxLen → wfOs es → Calls Tryd.prog 32 #[.slice a es.length c, .int .i64 z] w (SzTo d es w)
  | 0, d, es, hf, hd, z, a, c, w, hz, hr, hm, hw => by
    subst hz
    exact ssize_step d es hd (fun h => absurd h (by omega)) a c w hr hm hw
  | f + 1, d, es, hf, hd, z, a, c, w, hz, hr, hm, hw => by
    subst hz
    exact ssize_step d es hd (fun h es' hm' hw' a' c' w' hr' => ssize_any f (d + 1) es' (by omega) (by omega) _ a' c' w' (by omega) hr' hm' hw') a c w hr hm hw
end Go.Proofs.YtchokfgffnomoaaDoor.Lx
/-
  What Heavy tells, as a contract: where it says no, how a program is bounded.
-/
namespace Go.Proofs.YtchokfgffnomoaaDoor.Lx
open Go.RowKit
open P (EX CO ST PG szX ctS ctL ltT ltTs czC)
set_option maxRecDepth 100000
set_option linter.unusedVariables false
set_option linter.unusedSimpArgs false
/-- A program is not too great. -/
structure LightG (p : PG) : Prop where
  name : p.name.length ≤ 40
  init : p.init.length ≤ 10
  thrs : p.threads.length ≤ 10
  loc : ∀ c ∈ p.init, c.1.length ≤ 40
  cond : czC 0 p.cond ≤ 300
  thr : ∀ l ∈ p.threads, l.length ≤ 40 ∧ ltTs 0 l ∧ ctL l ≤ 300
def HvTo (p : PG) (w : World) (e : Ending) (w' : World) : Prop := ∃ b : Bool, e = .returned (.bool b) ∧ (b = false → LightG p) ∧ Below w.heap.size w w'
theorem LEs.nth {w : World} : ∀ (es : List CE) {g off : Nat}, LEs w g off es → ∀ i, i < es.length → ∃ e : CE, es[i]? = some e ∧ w.cell? ⟨g, off + i * 2, none⟩ = some (.string (bs e.1)) ∧ w.cell? ⟨g, off + i * 2 + 1, none⟩ = some (.int .i64 e.2)
  | [], g, off, h, i, hi => absurd hi (Nat.not_lt_zero _)
  | e :: es, g, off, h, i, hi => by
    unfold LEs at h
    obtain ⟨⟨h0, h1⟩, h2⟩ := h
    cases i with
    | zero => exact ⟨e, rfl, by simpa using h0, by simpa using h1⟩
    | succ i =>
      obtain ⟨e', he, k0, k1⟩ := LEs.nth es h2 i (by simpa using hi)
      rw [show off + 2 + i * 2 = off + (i + 1) * 2 by omega] at k0 k1
      exact ⟨e', by simpa using he, k0, k1⟩
theorem LTs.nth {Q : Nat → Prop} {w : World} : ∀ (es : List (List ST)) {g off : Nat}, LTs Q w g off es → ∀ i, i < es.length → ∃ e v, es[i]? = some e ∧ w.cell? ⟨g, off + i, none⟩ = some v ∧ IsSs Q w v e
  | [], g, off, h, i, hi => absurd hi (Nat.not_lt_zero _)
  | e :: es, g, off, h, i, hi => by
    unfold LTs at h
    obtain ⟨⟨v, h0, h1⟩, h2⟩ := h
    cases i with
    | zero => exact ⟨e, v, rfl, by simpa using h0, h1⟩
    | succ i =>
      obtain ⟨e', v', he, k0, k1⟩ := LTs.nth es h2 i (by simpa using hi)
      rw [show off + 1 + i = off + (i + 1) by omega] at k0
      exact ⟨e', v', by simpa using he, k0, k1⟩
theorem mem_nth {α : Type} {es : List α} {P : α → Prop} (h : ∀ (i : Nat) (e : α), es[i]? = some e → P e) : ∀ e ∈ es, P e := fun e he => by
  obtain ⟨i, hi⟩ := List.getElem?_of_mem he
  exact h i e hi
theorem lt_of_nth {α : Type} {es : List α} {i : Nat} {e : α} (h : es[i]? = some e) : i < es.length := by
  rcases Nat.lt_or_ge i es.length with h' | h'
  · exact h'
  · rw [List.getElem?_eq_none h'] at h
    cases h
theorem cells_low {w w' : World} {g o : Nat} {v : Value} (hb : Below w.heap.size w w') (h : w.cell? ⟨g, o, none⟩ = some v) : w'.cell? ⟨g, o, none⟩ = some v := (hb.cell (p := ⟨g, o, none⟩) (World.block_lt_of_cell? w _ h)).trans h
set_option maxHeartbeats 25600000 in
theorem heavy_any (p : PG) (v : Value) (w : World) (hv : LPg (fun _ => True) w v p) (hw : WfG p) : Calls Tryd.prog 9 #[v] w (HvTo p w) := by
  obtain ⟨vi, vt, o, t, s, n, a, m, c, rfl, ⟨ai, ci, rfl, hmi, hri⟩, ⟨at', ct, rfl, hmt, hrt⟩, hlc⟩ := hv
  have hm0 := hw.name
  unfold maxLen at hmi hmt hm0
  have hS : (bs p.name).size = p.name.length := bs_size p.name
  have hlc0 := hlc
  have hbx : Below w.heap.size w (w.alloc (.cells #[.string (bs p.name), .int .i64 p.vals, .slice ai p.init.length ci, .slice at' p.threads.length ct, .int .i64 p.ask, .int .i64 o, .int .i64 t, .string s, .int .i64 n, .slice a m c] 28)) := one_belowX _ _
  have HB := Lib.hid hbx
  have HQ := Lib.hid (Blk.new w 28 #[.string (bs p.name), .int .i64 p.vals, .slice ai p.init.length ci, .slice at' p.threads.length ct, .int .i64 p.ask, .int .i64 o, .int .i64 t, .string s, .int .i64 n, .slice a m c])
  have HCS := Lib.hid (csize_any 13 0 p.cond (by omega) (by omega) 0 _ _ rfl (LC.keep (Keeps.below hbx (Nat.le_refl _)) p.cond hlc) hw.cond)
  have HI := Lib.hid hri
  have HT := Lib.hid hrt
  have HW := Lib.hid hw
  clear hlc hlc0 hri hrt hw hbx
  by_cases h1 : 40 < p.name.length
  · have d1 : decide ((40 : Int) < ((bs p.name).size : Int)) = true := decide_eq_true (by omega)
    have d2 : decide (40 < (bs p.name).size) = true := decide_eq_true (by omega)
    go_enter Tryd.func9, Tryd.ntmps9
    go_wp2_with fail
    go_ret
    exact ⟨true, rfl, (fun h => by cases h), HB.out⟩
  have d1 : decide ((40 : Int) < ((bs p.name).size : Int)) = false := decide_eq_false (by omega)
  have d2 : decide (40 < (bs p.name).size) = false := decide_eq_false (by omega)
  by_cases h2 : 10 < p.init.length
  · have d3 : decide ((10 : Int) < (p.init.length : Int)) = true := decide_eq_true (by omega)
    have d4 : decide (10 < p.init.length) = true := decide_eq_true (by omega)
    go_enter Tryd.func9, Tryd.ntmps9
    go_wp2_with fail
    go_ret
    exact ⟨true, rfl, (fun h => by cases h), HB.out⟩
  have d3 : decide ((10 : Int) < (p.init.length : Int)) = false := decide_eq_false (by omega)
  have d4 : decide (10 < p.init.length) = false := decide_eq_false (by omega)
  by_cases h3 : 10 < p.threads.length
  · have d5 : decide ((10 : Int) < (p.threads.length : Int)) = true := decide_eq_true (by omega)
    have d6 : decide (10 < p.threads.length) = true := decide_eq_true (by omega)
    go_enter Tryd.func9, Tryd.ntmps9
    go_wp2_with fail
    go_ret
    exact ⟨true, rfl, (fun h => by cases h), HB.out⟩
  have d5 : decide ((10 : Int) < (p.threads.length : Int)) = false := decide_eq_false (by omega)
  have d6 : decide (10 < p.threads.length) = false := decide_eq_false (by omega)
  have HNM := Lib.hid h1
  have HZ := Lib.hid (P.czC_le 0 p.cond)
  go_enter Tryd.func9, Tryd.ntmps9
  go_wp2_with fail
  generalize hW : w.alloc (.cells #[.string (bs p.name), .int .i64 p.vals, .slice ai p.init.length ci, .slice at' p.threads.length ct, .int .i64 p.ask, .int .i64 o, .int .i64 t, .string s, .int .i64 n, .slice a m c] 28) = W at *
  clear hW d1 d2 d3 d4 d5 d6 h1 hS hm0
  with_reducible refine HCS.out.mono ?_
  rintro e w2 ⟨rfl, hb2⟩
  have HB2 := Lib.hid hb2
  have HQ2 := Lib.hid (HQ.out.live' hb2)
  have HBB := Lib.hid (HB.out.trans (hb2.mono HB.out.size))
  have hZ := HZ.out
  generalize hzz : czC 0 p.cond = Z at *
  have HZZ := Lib.hid hzz
  clear hzz hb2
  go_wp2_with fail
  go_loopw [4] (fun i wr => (∃ j : Nat, j ≤ p.init.length ∧ i = .int .i64 (j : Nat) ∧ ∀ (i : Nat) (e : CE), i < j → p.init[i]? = some e → e.1.length ≤ 40) ∧ Below w2.heap.size w2 wr) (fun i _ => p.init.length - (intOf i).toNat)
  case atStart => exact ⟨⟨0, Nat.zero_le _, rfl, fun i e h => absurd h (Nat.not_lt_zero _)⟩, Below.refl _ _⟩
  case round =>
    obtain ⟨⟨j, hj, rfl, hl0⟩, hbr⟩ := hrel
    have HBR := Lib.hid hbr
    have HL0 := Lib.hid hl0
    have p2 := (HQ2.out.live' hbr).cell 2
    have p3 := (HQ2.out.live' hbr).cell 3
    simp only [List.getElem?_toArray, List.getElem?_cons_zero, List.getElem?_cons_succ] at p2 p3
    clear hl0
    by_cases hlt : j < p.init.length
    · obtain ⟨g, off, rfl, hs⟩ : ∃ g off, ai = some ⟨g, off, none⟩ ∧ LEs w g off p.init := by
        rcases HI.out with h0 | ⟨g, off, ha, _, hs⟩
        · rw [h0] at hlt
          simp at hlt
        · exact ⟨g, off, ha, hs⟩
      obtain ⟨e, he, k0, _⟩ := LEs.nth p.init hs j hlt
      have q0 := cells_low (HBB.out.trans (hbr.mono HBB.out.size)) k0
      have hwl := (HW.out.init e (List.mem_of_getElem? he)).1
      unfold maxLen at hwl
      have hse : (bs e.1).size = e.1.length := bs_size e.1
      have HE := Lib.hid he
      have d1 : (0 : Int) ≤ (j : Int) := by omega
      have d2 : (j : Int) < (p.init.length : Int) := by omega
      have d3 : decide ((j : Int) < (p.init.length : Int)) = true := decide_eq_true (by omega)
      have d4 : decide (j < p.init.length) = true := decide_eq_true (by omega)
      clear hs he k0 hbr
      by_cases hbig : 40 < e.1.length
      · have d5 : decide ((40 : Int) < ((bs e.1).size : Int)) = true := decide_eq_true (by omega)
        have d6 : decide (40 < (bs e.1).size) = true := decide_eq_true (by omega)
        go_wp2_with fail
        go_ret
        exact ⟨true, rfl, (fun h => by cases h), HBB.out.trans (HBR.out.mono HBB.out.size)⟩
      have d5 : decide ((40 : Int) < ((bs e.1).size : Int)) = false := decide_eq_false (by omega)
      have d6 : decide (40 < (bs e.1).size) = false := decide_eq_false (by omega)
      go_wp2_with fail
      go_roundw
      case rel =>
        refine ⟨⟨j + 1, by omega, by go_num, fun i e' hi he' => ?_⟩, HBR.out⟩
        by_cases hij : i = j
        · subst hij
          rw [HE.out] at he'
          obtain rfl := Option.some.inj he'
          omega
        · exact HL0.out i e' (by omega) he'
      case measure => simp [intOf]; omega
    · obtain rfl : j = p.init.length := by omega
      have HL1 := Lib.hid (mem_nth (fun i e he => HL0.out i e (lt_of_nth he) he))
      have HQ3 := Lib.hid (HQ2.out.live' hbr)
      have HBC := Lib.hid (HBB.out.trans (hbr.mono HBB.out.size))
      have d3 : decide ((p.init.length : Int) < (p.init.length : Int)) = false := by simp
      have d4 : decide (p.init.length < p.init.length) = false := by simp
      clear hlt hbr HL0 HQ2 HBB HBR HQ HB HCS HB2
      go_wp2_with fail
      clear d3 d4 p2 p3
      generalize hV : wr = V at *
      clear hV
      go_loopw [3, 5] (fun n i wr => (∃ j N : Nat, j ≤ p.threads.length ∧ N ≤ 20000 ∧ n = .int .i64 (N : Nat) ∧ i = .int .i64 (j : Nat) ∧ (N ≤ 300 → Z ≤ 300 ∧ ∀ (i : Nat) (l : List ST), i < j → p.threads[i]? = some l → l.length ≤ 40 ∧ ltTs 0 l ∧ ctL l ≤ 300)) ∧ Below V.heap.size V wr) (fun _ i _ => p.threads.length - (intOf i).toNat)
      case atStart => exact ⟨⟨0, Z, Nat.zero_le _, by omega, rfl, rfl, fun h => ⟨h, fun i l h => absurd h (Nat.not_lt_zero _)⟩⟩, Below.refl _ _⟩
      case round =>
        obtain ⟨⟨j, N, hj, hN, rfl, rfl, hl0⟩, hbr⟩ := hrel
        have HBR := Lib.hid hbr
        have HL0 := Lib.hid hl0
        have p3 := (HQ3.out.live' hbr).cell 3
        simp only [List.getElem?_toArray, List.getElem?_cons_zero, List.getElem?_cons_succ] at p3
        clear hl0
        by_cases hlt : j < p.threads.length
        · have d1 : (0 : Int) ≤ (j : Int) := by omega
          have d2 : (j : Int) < (p.threads.length : Int) := by omega
          have d3 : decide ((j : Int) < (p.threads.length : Int)) = true := decide_eq_true (by omega)
          have d4 : decide (j < p.threads.length) = true := decide_eq_true (by omega)
          by_cases hbig : 300 < N
          · have d5 : decide ((N : Int) ≤ (300 : Int)) = false := decide_eq_false (by omega)
            have d6 : decide ((300 : Int) < (N : Int)) = true := decide_eq_true (by omega)
            have d7 : decide (N ≤ 300) = false := decide_eq_false (by omega)
            have d8 : decide (300 < N) = true := decide_eq_true (by omega)
            clear hbr
            go_wp2_with fail
            go_ret
            exact ⟨true, rfl, (fun h => by cases h), HBC.out.trans (HBR.out.mono HBC.out.size)⟩
          have d5 : decide ((N : Int) ≤ (300 : Int)) = true := decide_eq_true (by omega)
          have d7 : decide (N ≤ 300) = true := decide_eq_true (by omega)
          obtain ⟨g, off, rfl, hs⟩ : ∃ g off, at' = some ⟨g, off, none⟩ ∧ LTs (fun _ => True) w g off p.threads := by
            rcases HT.out with h0 | ⟨g, off, ha, _, hs⟩
            · rw [h0] at hlt
              simp at hlt
            · exact ⟨g, off, ha, hs⟩
          obtain ⟨l, u, he, k0, hss⟩ := LTs.nth p.threads hs j hlt
          obtain ⟨al, cl, rfl, hml, hrl⟩ := hss
          have hbw := HBC.out.trans (hbr.mono HBC.out.size)
          have q0 := cells_low hbw k0
          have HX := Lib.hid (ssize_any 13 0 l (by omega) (by omega) 0 al cl wr rfl ((show RowU w al l from hrl).low hbw) hml (HW.out.thr l (List.mem_of_getElem? he)))
          have HE := Lib.hid he
          unfold maxLen at hml
          clear hs he k0 hbr hrl hbw
          go_wp2_with fail
          with_reducible refine HX.out.mono ?_
          rintro e w3 ⟨N2, rfl, hN2, hL2, hb3⟩
          have HL2 := Lib.hid hL2
          have HB3 := Lib.hid (HBR.out.trans (hb3.mono HBR.out.size))
          clear hb3 hL2
          have hN2b : N2 ≤ 12000 := by omega
          go_wp2_with fail
          go_roundw
          case rel =>
            refine ⟨⟨j + 1, N + N2, by omega, by omega, by go_num, by go_num, fun hs => ⟨(HL0.out (by omega)).1, fun i l' hi hl' => ?_⟩⟩, HB3.out⟩
            by_cases hij : i = j
            · subst hij
              rw [HE.out] at hl'
              obtain rfl := Option.some.inj hl'
              have t := HL2.out (by omega)
              exact ⟨t.2.1, t.2.2.1, by have := t.2.2.2; omega⟩
            · exact (HL0.out (by omega)).2 i l' (by omega) hl'
          case measure => simp [intOf]; omega
        · obtain rfl : j = p.threads.length := by omega
          have d3 : decide ((p.threads.length : Int) < (p.threads.length : Int)) = false := by simp
          have d4 : decide (p.threads.length < p.threads.length) = false := by simp
          clear hlt hbr
          by_cases hbig : 300 < N
          · have d6 : decide ((300 : Int) < (N : Int)) = true := decide_eq_true (by omega)
            have d8 : decide (300 < N) = true := decide_eq_true (by omega)
            go_wp2_with fail
            go_ret
            exact ⟨true, rfl, (fun h => by cases h), HBC.out.trans (HBR.out.mono HBC.out.size)⟩
          have d6 : decide ((300 : Int) < (N : Int)) = false := decide_eq_false (by omega)
          have d8 : decide (300 < N) = false := decide_eq_false (by omega)
          go_wp2_with fail
          go_ret
          have t := HL0.out (by omega)
          exact ⟨false, rfl, fun _ => ⟨by have := HNM.out; omega, by omega, by omega, HL1.out, by rw [HZZ.out]; exact t.1, mem_nth (fun i l he => t.2 i l (lt_of_nth he) he)⟩, HBC.out.trans (HBR.out.mono HBC.out.size)⟩
end Go.Proofs.YtchokfgffnomoaaDoor.Lx
