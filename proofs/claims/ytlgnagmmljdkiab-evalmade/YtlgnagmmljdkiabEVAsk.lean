/-
  What the document's answer tells of what expressions come to, as contracts.
-/
import Derived.Test.YtlgnagmmljdkiabEVal3
import Derived.Test.YtlgnagmmljdkiabVRef

namespace Go.Proofs.Ytlgnagmmljdkiab.Lx
open Go.RowKit
open P (EX ev ev2 plI jn evA askD askDs szX szL)
set_option maxRecDepth 100000
set_option linter.unusedVariables false
set_option linter.unusedSimpArgs false

theorem askL_take {ks : List EX} {j : Nat} {e : EX} (h : ks[j]? = some e) : askDs (ks.take (j + 1)) = max (askDs (ks.take j)) (askD e) := by
  have hl : ∀ (xs : List EX), askDs (xs ++ [e]) = max (askDs xs) (askD e) := by
    intro xs
    induction xs with
    | nil =>
      have h0 : askDs [] = 0 := by rw [P.askDs]
      rw [List.nil_append, h0, P.askDs, h0]
      omega
    | cons x xs ih =>
      rw [List.cons_append, P.askDs, P.askDs, ih]
      omega
  obtain ⟨hj, he⟩ := List.getElem?_eq_some_iff.1 h
  rw [List.take_succ_eq_append_getElem hj, he]
  exact hl _
theorem ask_leaf {o k : Int} {s : List UInt8} {ks : List EX} (h : o = 1 ∨ o = 2) : askD (.mk o k s ks) = 1 := by
  unfold P.askD
  rw [if_pos h]
theorem ask_in {o k : Int} {s : List UInt8} {ks : List EX} (h : ¬ (o = 1 ∨ o = 2)) : askD (.mk o k s ks) = askDs ks + 1 := by
  unfold P.askD
  rw [if_neg h]
/-- What asked tells. -/
def AskTo (d : Nat) (w : World) (e : Ending) (w' : World) : Prop := e = .returned (.int .i64 (d : Nat)) ∧ Below w.heap.size w w'
set_option maxHeartbeats 6400000 in
theorem asked_any : ∀ (m : Nat) (e : EX), m ≤ 1000 → askD e ≤ m → ∀ (v : Value) (w : World), LX (fun _ => True) w v e → Calls Try.prog 31 #[v] w (AskTo (askD e) w)
  | 0, e, _, hd, _, _, _ => by
    have := P.ask_pos e
    omega
  | m + 1, .mk op k s ks, hm, hd, v, w, hv => by
    have hv0 := hv
    unfold LX at hv0
    obtain ⟨a, cap, rfl, hmx, hc⟩ := hv0
    unfold maxLen at hmx
    have hb := one_below w (.cells #[.int .i64 op, .int .i64 k, .string (bs s), .slice a ks.length cap] 47)
    have HB := Lib.hid hb
    have HQ := Lib.hid (Blk.new w 47 #[.int .i64 op, .int .i64 k, .string (bs s), .slice a ks.length cap])
    clear hb
    by_cases hop : op = 1 ∨ op = 2
    · rw [ask_leaf hop]
      clear hc hd hv
      generalize bs s = S at *
      rcases hop with rfl | rfl
      all_goals
        go_enter Try.func31, Try.ntmps31
        go_wp2_with fail
        generalize hW : w.alloc (.cells _ _) = W at *
        have HWe := Lib.hid hW
        clear hW
        obtain ⟨p0, p1, p2, p3, _, _, _, _⟩ := four_free HQ.out
        by_cases h0 : ks.length = 0
        · have e1 : decide ((0 : Int) < (ks.length : Int)) = false := decide_eq_false (by omega)
          have e2 : decide (0 < ks.length) = false := decide_eq_false (by omega)
          go_loop [3, 4] (fun d i => d = .int .i64 0 ∧ i = .int .i64 0) (fun _ _ => 0)
          case atStart => exact ⟨rfl, rfl⟩
          case round =>
            obtain ⟨rfl, rfl⟩ := hrel
            go_wp2_with fail
            go_ret
            exact ⟨rfl, HB.out⟩
        · have e1 : decide ((0 : Int) < (ks.length : Int)) = true := decide_eq_true (by omega)
          have e2 : decide (0 < ks.length) = true := decide_eq_true (by omega)
          go_loop [3, 4] (fun d i => d = .int .i64 0 ∧ i = .int .i64 0) (fun _ _ => 0)
          case atStart => exact ⟨rfl, rfl⟩
          case round =>
            obtain ⟨rfl, rfl⟩ := hrel
            go_wp2_with fail
            go_ret
            exact ⟨rfl, HB.out⟩
    · rw [ask_in hop]
      have hd' : askDs ks ≤ m := by
        rw [ask_in hop] at hd
        omega
      have HD := Lib.hid (show ∀ j, askDs (ks.take j) ≤ m from fun j => by
        refine Nat.le_trans (P.askL_le (m := m) (fun e he => ?_)) (Nat.le_refl _)
        exact Nat.le_trans (P.askL_mem (List.mem_of_mem_take he)) hd')
      have HA := Lib.hid (show ∀ j e, ks[j]? = some e → ∀ v w, LX (fun _ => True) w v e → Calls Try.prog 31 #[v] w (AskTo (askD e) w) from fun j e he v w hv => asked_any m e (by omega) (Nat.le_trans (P.askL_mem (List.mem_of_getElem? he)) hd') v w hv)
      have HV := Lib.hid hv
      have HC := Lib.hid hc
      have t1 : (op == 1) = false := by simp; omega
      have t1' : (op != 1) = true := by simp; omega
      have t2 : (op == 2) = false := by simp; omega
      have t2' : (op != 2) = true := by simp; omega
      clear hc hd hv hop hd'
      generalize bs s = S at *
      go_enter Try.func31, Try.ntmps31
      go_wp2_with fail
      generalize hW : w.alloc (.cells #[.int .i64 op, .int .i64 k, .string S, .slice a ks.length cap] 47) = W at *
      have hwl : w.heap.size < W.heap.size := HQ.out.lt
      clear hW
      go_loopw [3, 4] (fun d i wr => (∃ j : Nat, j ≤ ks.length ∧ i = .int .i64 (j : Nat) ∧ d = .int .i64 (askDs (ks.take j) : Nat)) ∧ Below W.heap.size W wr) (fun _ i _ => ks.length - (intOf i).toNat)
      case atStart => exact ⟨⟨0, Nat.zero_le _, rfl, rfl⟩, Below.refl _ _⟩
      case round =>
        obtain ⟨⟨j, hj, rfl, rfl⟩, hbr⟩ := hrel
        have HBR := Lib.hid hbr
        obtain ⟨p0, p1, p2, p3, _, _, _, _⟩ := four_free (HQ.out.live' hbr)
        have hD := HD.out j
        clear hbr
        by_cases hlt : j < ks.length
        · obtain ⟨g, off, rfl, _, hs⟩ : ∃ g off, a = some ⟨g, off, none⟩ ∧ True ∧ LXs (fun _ => True) w g off ks := by
            rcases HC.out with h0 | h0
            · rw [h0] at hlt
              simp at hlt
            · exact h0
          obtain ⟨x, a0, a1, a2, a3, hx, k0, k1, k2, k3, hlx⟩ := LXs.at ks hs j hlt
          have hbw := HB.out.trans (HBR.out.mono HB.out.size)
          have hq : ∀ (o : Nat) (u : Value), w.cell? ⟨g, o, none⟩ = some u → wr.cell? ⟨g, o, none⟩ = some u := fun o u hu => (hbw.cell (p := ⟨g, o, none⟩) (World.block_lt_of_cell? w _ hu)).trans hu
          have c0 := hq _ _ k0
          have c1 := hq _ _ k1
          have c2 := hq _ _ k2
          have c3 := hq _ _ k3
          have HX := Lib.hid (HA.out j x hx _ wr (hlx.low hbw))
          have HT := Lib.hid (askL_take hx)
          have hD1 := HD.out (j + 1)
          rw [askL_take hx] at hD1
          have d1 : (0 : Int) ≤ (j : Int) := by omega
          have d2 : (j : Int) < (ks.length : Int) := by omega
          have d3 : decide ((j : Int) < (ks.length : Int)) = true := by simpa using hlt
          have d4 : decide (j < ks.length) = true := by simpa using hlt
          clear hs hx k0 k1 k2 k3 hlx hbw hq
          generalize hAx : askD x = AX at *
          generalize hAk : askDs (ks.take j) = AK at *
          clear hAx hAk
          by_cases hgt : AK < AX
          · have HM := Lib.hid (show AX = max AK AX by omega)
            have d5 : decide ((AK : Int) < (AX : Int)) = true := by simpa using hgt
            have d6 : decide (AK < AX) = true := by simpa using hgt
            go_wp2_with fail
            with_reducible refine HX.out.mono ?_
            rintro e w2 ⟨rfl, hb2⟩
            go_wp2_with fail
            go_roundw
            case rel => exact ⟨⟨j + 1, by omega, by go_num, by rw [HT.out, ← HM.out]⟩, HBR.out.trans (hb2.mono HBR.out.size)⟩
            case measure => simp [intOf]; omega
          · have HM := Lib.hid (show AK = max AK AX by omega)
            have d5 : decide ((AK : Int) < (AX : Int)) = false := by simpa using hgt
            have d6 : decide (AK < AX) = false := by simpa using hgt
            go_wp2_with fail
            with_reducible refine HX.out.mono ?_
            rintro e w2 ⟨rfl, hb2⟩
            go_wp2_with fail
            go_roundw
            case rel => exact ⟨⟨j + 1, by omega, by go_num, by rw [HT.out, ← HM.out]⟩, HBR.out.trans (hb2.mono HBR.out.size)⟩
            case measure => simp [intOf]; omega
        · obtain rfl : j = ks.length := by omega
          have d3 : decide ((ks.length : Int) < (ks.length : Int)) = false := by simp
          have d4 : decide (ks.length < ks.length) = false := by simp
          rw [List.take_length] at hD ⊢
          clear hlt
          generalize askDs ks = AK at *
          go_wp2_with fail
          go_ret
          exact ⟨by go_num, HB.out.trans (HBR.out.mono HB.out.size)⟩
end Go.Proofs.Ytlgnagmmljdkiab.Lx
