/-
  What ExprSize tells, as a contract: how many parts an expression has.
-/
import Derived.Test.YtlgnagmmljdkiabOX
import Derived.Test.YtlgnagmmljdkiabEVMath
import Derived.Test.YtlgnagmmljdkiabPSame
import Derived.Test.YtlgnagmmljdkiabLDig

namespace Go.Proofs.Ytlgnagmmljdkiab.Lx
open Go.RowKit
open P (EX ev ev2 plI jn evA askD askDs szX szL)
set_option maxRecDepth 100000
set_option linter.unusedVariables false
set_option linter.unusedSimpArgs false

theorem szL_nil (d n : Nat) : szL d n [] = n := by unfold P.szL; rfl
theorem szL_cons (d n : Nat) (e : EX) (es : List EX) : szL d n (e :: es) = if 300 < n + szX d e then n + szX d e else szL d (n + szX d e) es := by rw [P.szL]
theorem szX_no {d : Nat} {o k : Int} {s : List UInt8} {ks : List EX} (h : 12 < d ∨ 20 < ks.length ∨ 40 < s.length) : szX d (.mk o k s ks) = 301 := by
  unfold P.szX
  rw [if_pos h]
theorem szX_go {d : Nat} {o k : Int} {s : List UInt8} {ks : List EX} (h : ¬ (12 < d ∨ 20 < ks.length ∨ 40 < s.length)) : szX d (.mk o k s ks) = szL (d + 1) 1 ks := by
  unfold P.szX
  rw [if_neg h]
theorem szL_step {d n j : Nat} {ks : List EX} {x : EX} (h : ks[j]? = some x) : szL d n (ks.drop j) = if 300 < n + szX d x then n + szX d x else szL d (n + szX d x) (ks.drop (j + 1)) := by
  obtain ⟨hj, he⟩ := List.getElem?_eq_some_iff.1 h
  rw [List.drop_eq_getElem_cons hj, he]
  exact szL_cons d n x _
def SizeTo (r : Nat) (w : World) (e : Ending) (w' : World) : Prop := e = .returned (.int .i64 (r : Nat)) ∧ Below w.heap.size w w'
theorem one_belowX (w : World) (o : Obj) : Below w.heap.size w (w.alloc o) := (Below.refl _ _).alloc (Nat.le_refl _) _
set_option maxHeartbeats 6400000 in
theorem size_step : ∀ (d : Nat) (e : EX), d ≤ 1000 → (∀ (x : EX), d ≤ 12 → wfX x → ∀ (v : Value) (w : World), LX (fun _ => True) w v x → Calls Try.prog 16 #[v, .int .i64 ((d : Int) + 1)] w (SizeTo (szX (d + 1) x) w)) → ∀ (z : Int) (v : Value) (w : World), z = (d : Nat) → LX (fun _ => True) w v e → wfX e → Calls Try.prog 16 #[v, .int .i64 z] w (SizeTo (szX d e) w)
  | d, .mk op k s ks, hdm, IH, z, v, w, hz, hv, hw => by
    subst hz
    have hv0 := hv
    unfold LX at hv0
    obtain ⟨a, cap, rfl, hmx, hc⟩ := hv0
    unfold maxLen at hmx
    unfold wfX at hw
    obtain ⟨_, _, hsl, hks⟩ := hw
    unfold maxLen at hsl
    have HB := Lib.hid (one_belowX w (.cells #[.int .i64 op, .int .i64 k, .string (bs s), .slice a ks.length cap] 47))
    have hS : (bs s).size = s.length := bs_size s
    by_cases h1 : 12 < d
    · rw [szX_no (.inl h1)]
      have d1 : decide ((12 : Int) < (d : Int)) = true := decide_eq_true (by omega)
      have d2 : decide (12 < d) = true := decide_eq_true (by omega)
      clear hv hc hks hS hsl IH
      generalize bs s = S at *
      go_enter Try.func16, Try.ntmps16
      go_wp2_with fail
      go_ret
      exact ⟨rfl, HB.out⟩
    have d1 : decide ((12 : Int) < (d : Int)) = false := decide_eq_false (by omega)
    have d2 : decide (12 < d) = false := decide_eq_false (by omega)
    by_cases h2 : 20 < ks.length
    · rw [szX_no (.inr (.inl h2))]
      have d3 : decide ((20 : Int) < (ks.length : Int)) = true := decide_eq_true (by omega)
      have d4 : decide (20 < ks.length) = true := decide_eq_true (by omega)
      clear hv hc hks hS hsl IH
      generalize bs s = S at *
      go_enter Try.func16, Try.ntmps16
      go_wp2_with fail
      go_ret
      exact ⟨rfl, HB.out⟩
    have d3 : decide ((20 : Int) < (ks.length : Int)) = false := decide_eq_false (by omega)
    have d4 : decide (20 < ks.length) = false := decide_eq_false (by omega)
    by_cases h3 : 40 < s.length
    · rw [szX_no (.inr (.inr h3))]
      rw [← hS] at h3
      clear hv hc hks hS hsl IH
      generalize bs s = S at *
      have d5 : decide ((40 : Int) < (S.size : Int)) = true := decide_eq_true (by omega)
      have d6 : decide (40 < S.size) = true := decide_eq_true (by omega)
      go_enter Try.func16, Try.ntmps16
      go_wp2_with fail
      go_ret
      exact ⟨rfl, HB.out⟩
    rw [szX_go (by omega)]
    rw [← hS] at h3
    have HC := Lib.hid hc
    have HQ := Lib.hid (Blk.new w 47 #[.int .i64 op, .int .i64 k, .string (bs s), .slice a ks.length cap])
    have HA := Lib.hid (show ∀ j e, ks[j]? = some e → ∀ v w, LX (fun _ => True) w v e → Calls Try.prog 16 #[v, .int .i64 ((d : Int) + 1)] w (SizeTo (szX (d + 1) e) w) from fun j e he v w hv => IH e (by omega) (wfXs_mem hks e (List.mem_of_getElem? he)) v w hv)
    clear IH
    clear hv hc hks hS hsl
    generalize bs s = S at *
    have d5 : decide ((40 : Int) < (S.size : Int)) = false := decide_eq_false (by omega)
    have d6 : decide (40 < S.size) = false := decide_eq_false (by omega)
    generalize hT : szL (d + 1) 1 ks = T at *
    have HT := Lib.hid hT
    clear hT
    go_enter Try.func16, Try.ntmps16
    go_wp2_with fail
    generalize hW : w.alloc (.cells #[.int .i64 op, .int .i64 k, .string S, .slice a ks.length cap] 47) = W at *
    have hwl : w.heap.size < W.heap.size := HQ.out.lt
    clear hW
    go_loopw [5, 6] (fun n i wr => (∃ j N : Nat, j ≤ ks.length ∧ N ≤ 300 ∧ i = .int .i64 (j : Nat) ∧ n = .int .i64 (N : Nat) ∧ szL (d + 1) N (ks.drop j) = T) ∧ Below W.heap.size W wr) (fun _ i _ => ks.length - (intOf i).toNat)
    case atStart => exact ⟨⟨0, 1, Nat.zero_le _, by omega, rfl, rfl, by rw [List.drop_zero]; exact HT.out⟩, Below.refl _ _⟩
    case round =>
      obtain ⟨⟨j, N, hj, hN, rfl, rfl, hrest⟩, hbr⟩ := hrel
      have HBR := Lib.hid hbr
      obtain ⟨p0, p1, p2, p3, _, _, _, _⟩ := four_free (HQ.out.live' hbr)
      clear hbr
      by_cases hlt : j < ks.length
      · obtain ⟨g, off, rfl, _, hs⟩ : ∃ g off, a = some ⟨g, off, none⟩ ∧ True ∧ LXs (fun _ => True) w g off ks := by
          rcases HC.out with h0 | h0
          · rw [h0] at hlt
            simp at hlt
          · exact h0
        obtain ⟨x, a0, a1, a2, a3, hx, k0, k1, k2, k3, hlx⟩ := LXs.at ks hs j hlt
        have hbw := HB.out.trans (HBR.out.mono HB.out.size)
        have hq : ∀ (o : Nat) (u : Value), w.cell? ⟨g, o, none⟩ = some u → wr.cell? ⟨g, o, none⟩ = some u := fun o u hu => (hbw.cell (p := ⟨g, o, none⟩) (World.block_lt_of_cell? w _ hu)).trans hu
        have c0 := hq _ _ k0
        have c1 := hq _ _ k1
        have c2 := hq _ _ k2
        have c3 := hq _ _ k3
        have HX := Lib.hid (HA.out j x hx _ wr (LX.keep (Keeps.below hbw (Nat.le_refl _)) x hlx))
        rw [szL_step hx] at hrest
        have hxb := P.szX_le (d + 1) x
        have d7 : (0 : Int) ≤ (j : Int) := by omega
        have d8 : (j : Int) < (ks.length : Int) := by omega
        have d9 : decide ((j : Int) < (ks.length : Int)) = true := by simpa using hlt
        have d10 : decide (j < ks.length) = true := by simpa using hlt
        clear hs hx k0 k1 k2 k3 hlx hbw hq
        generalize szX (d + 1) x = R at *
        by_cases hbig : 300 < N + R
        · rw [if_pos hbig] at hrest
          have HRS := Lib.hid hrest
          have e1 : decide ((300 : Int) < (N : Int) + (R : Int)) = true := decide_eq_true (by omega)
          clear hrest
          go_wp2_with fail
          with_reducible refine HX.out.mono ?_
          rintro e w2 ⟨rfl, hb2⟩
          go_wp2_with fail
          go_ret
          exact ⟨congrArg (fun z => Ending.returned (.int .i64 z)) (by rw [← HRS.out]; omega), HB.out.trans ((HBR.out.trans (hb2.mono HBR.out.size)).mono HB.out.size)⟩
        · rw [if_neg hbig] at hrest
          have HRS := Lib.hid hrest
          have e1 : decide ((300 : Int) < (N : Int) + (R : Int)) = false := decide_eq_false (by omega)
          clear hrest
          go_wp2_with fail
          with_reducible refine HX.out.mono ?_
          rintro e w2 ⟨rfl, hb2⟩
          go_wp2_with fail
          go_roundw
          case rel => exact ⟨⟨j + 1, N + R, by omega, by omega, by go_num, by go_num, HRS.out⟩, HBR.out.trans (hb2.mono HBR.out.size)⟩
          case measure => simp [intOf]; omega
      · obtain rfl : j = ks.length := by omega
        have d9 : decide ((ks.length : Int) < (ks.length : Int)) = false := by simp
        have d10 : decide (ks.length < ks.length) = false := by simp
        rw [List.drop_length] at hrest
        have HRS := Lib.hid (show N = T by rw [← hrest]; exact (szL_nil (d + 1) N).symm)
        clear hlt hrest
        go_wp2_with fail
        go_ret
        exact ⟨congrArg (fun z : Nat => Ending.returned (.int .i64 (z : Nat))) HRS.out, HB.out.trans (HBR.out.mono HB.out.size)⟩
theorem size_any : ∀ (f d : Nat) (e : EX), 13 - d ≤ f → d ≤ 1000 → ∀ (z : Int) (v : Value) (w : World), z = (d : Nat) → LX (fun _ => True) w v e → wfX e → Calls Try.prog 16 #[v, .int .i64 z] w (SizeTo (szX d e) w)
  | 0, d, e, hf, hd => size_step d e hd (fun x h => absurd h (by omega))
  | f + 1, d, e, hf, hd => size_step d e hd (fun x h hw v w hv => size_any f (d + 1) x (by omega) (by omega) _ v w (by omega) hv hw)
end Go.Proofs.Ytlgnagmmljdkiab.Lx
