/-
  What the document's Holds tells, as a contract.
-/
import Derived.Test.YtchokfgffnomoaaDoorPTHoldR
namespace Go.Proofs.YtchokfgffnomoaaDoor.Lx
open Go.RowKit
open P (CO plI hasP hd cdp cdps)
set_option maxRecDepth 100000
set_option linter.unusedVariables false
set_option linter.unusedSimpArgs false
set_option maxHeartbeats 12800000 in
theorem rh_not (m : Nat) {la ga ra ma : Option Addr} {lc gc rc mc : Nat} {locs : List (List UInt8)} {regs : List (List (List UInt8))} {rv : List (List Int)} {mv : List Int} (IH : RhIn locs regs rv mv m) (w : World) (h : AkIn w la ga ra ma lc mc locs regs rv mv) (v : Value) (t n : Int) (s : List UInt8) (ks : List CO) (hc : LC (fun _ => True) w v (.mk 3 t s n ks)) (hdp : cdps ks ≤ m) :
    Calls Tryd.prog 43 #[v, .slice la locs.length lc, .slice ga regs.length gc, .agg #[.slice ra rv.length rc, .slice ma mv.length mc]] w (HoTo (hd locs regs rv mv (m + 1) (.mk 3 t s n ks)) w) := by
  have hc0 := hc
  unfold LC at hc0
  obtain ⟨a, cap, rfl, hmx, hck⟩ := hc0
  unfold maxLen at hmx
  obtain ⟨hb2, hA, hC⟩ := two_newC w #[.int .i64 3, .int .i64 t, .string (bs s), .int .i64 n, .slice a ks.length cap] #[.slice ra rv.length rc, .slice ma mv.length mc] 26 46
  have HB := Lib.hid hb2
  by_cases hk : ks.length = 1
  · rcases ks with _ | ⟨x, _ | ⟨y, r⟩⟩ <;> simp at hk
    clear hk hb2 hA hC HB
    rw [P.hd_not rfl]
    rcases hck with hc' | ⟨g, off, rfl, _, hs⟩
    · cases hc'
    rw [show ([x] : List CO).length = 1 from rfl] at *
    obtain ⟨x', a0, a1, a2, a3, a4, hx, k0, k1, k2, k3, k4, hlx⟩ := LCs.at _ hs 0 (by simp)
    obtain rfl : x = x' := by simpa using hx
    rw [show off + 0 * 5 = off by omega] at k0 k1 k2 k3 k4
    generalize bs s = S at *
    obtain ⟨hb2, hA, hC⟩ := two_newC w #[.int .i64 3, .int .i64 t, .string S, .int .i64 n, .slice (some ⟨g, off, none⟩) 1 cap] #[.slice ra rv.length rc, .slice ma mv.length mc] 26 46
    have HB := Lib.hid hb2
    have HS := Lib.hid (show ∀ w', Below w.heap.size w w' → (w'.cell? ⟨g, off, none⟩ = some a0 ∧ w'.cell? ⟨g, off + 1, none⟩ = some a1 ∧ w'.cell? ⟨g, off + 2, none⟩ = some a2 ∧ w'.cell? ⟨g, off + 3, none⟩ = some a3 ∧ w'.cell? ⟨g, off + 4, none⟩ = some a4) from fun w' hb => by
      have hq : ∀ (o : Nat) (u : Value), w.cell? ⟨g, o, none⟩ = some u → w'.cell? ⟨g, o, none⟩ = some u := fun o u hu => (hb.cell (p := ⟨g, o, none⟩) (World.block_lt_of_cell? w _ hu)).trans hu
      exact ⟨hq _ _ k0, hq _ _ k1, hq _ _ k2, hq _ _ k3, hq _ _ k4⟩)
    have HX := Lib.hid (fun w' (hb : Below w.heap.size w w') => IH x w' la ga ra ma lc gc rc mc _ (h.low hb) (hlx.low hb) (Nat.le_trans (P.cdps_mem (by simp)) hdp))
    clear hx k0 k1 k2 k3 k4 hlx hs IH h hc hmx hdp
    go_enter Tryd.func43, Tryd.ntmps43
    go_wp2_with fail
    generalize hW : ((w.alloc (.cells #[.int .i64 3, .int .i64 t, .string S, .int .i64 n, .slice (some ⟨g, off, none⟩) 1 cap] 26)).alloc (.cells #[.slice ra rv.length rc, .slice ma mv.length mc] 46)) = W at *
    have hz := hC.lt
    clear hW
    have HK := Lib.hid (show ∀ w', Below W.heap.size W w' → (w'.cell? ⟨w.heap.size, 0, none⟩ = some (.int .i64 3) ∧ w'.cell? ⟨w.heap.size, 1, none⟩ = some (.int .i64 t) ∧ w'.cell? ⟨w.heap.size, 2, none⟩ = some (.string S) ∧ w'.cell? ⟨w.heap.size, 3, none⟩ = some (.int .i64 n) ∧ w'.cell? ⟨w.heap.size, 4, none⟩ = some (.slice (some ⟨g, off, none⟩) 1 cap) ∧ w'.cell? ⟨w.heap.size + 1, 0, none⟩ = some (.slice ra rv.length rc) ∧ w'.cell? ⟨w.heap.size + 1, 1, none⟩ = some (.slice ma mv.length mc) ∧ w'.cell? ⟨g, off, none⟩ = some a0 ∧ w'.cell? ⟨g, off + 1, none⟩ = some a1 ∧ w'.cell? ⟨g, off + 2, none⟩ = some a2 ∧ w'.cell? ⟨g, off + 3, none⟩ = some a3 ∧ w'.cell? ⟨g, off + 4, none⟩ = some a4) from fun w' hb => by
      have hA' := hA.below hb (by omega)
      have hC' := hC.below hb hz
      exact ⟨hA'.cell 0, hA'.cell 1, hA'.cell 2, hA'.cell 3, hA'.cell 4, hC'.cell 0, hC'.cell 1, HS.out w' (HB.out.trans (hb.mono HB.out.size))⟩)
    have HX1 := Lib.hid (fun w' (hb : Below W.heap.size W w') => (HX.out w' (HB.out.trans (hb.mono HB.out.size))).mono fun e w'' (hh : HoTo (hd locs regs rv mv m x) w' e w'') => (show e = .returned (holdR (hd locs regs rv mv m x)) ∧ Below W.heap.size W w'' from ⟨hh.1, hb.trans (hh.2.mono hb.size)⟩))
    have HK0 := Lib.hid (HK.out W (Below.refl _ _))
    have HKD := Lib.hid (HK.out W.drew (Below.refl _ _).drew)
    have hbD : Below W.heap.size W W.drew := (Below.refl _ _).drew
    clear HX HS hA hC hb2
    generalize hd locs regs rv mv m x = R at *
    cases R
    all_goals
      have HX2 := Lib.hid HX1.out
      unfold holdR at HX2
      clear HX1
      go_region_held3 (fun w' => (w'.cell? ⟨w.heap.size, 0, none⟩ = some (.int .i64 3) ∧ w'.cell? ⟨w.heap.size, 1, none⟩ = some (.int .i64 t) ∧ w'.cell? ⟨w.heap.size, 2, none⟩ = some (.string S) ∧ w'.cell? ⟨w.heap.size, 3, none⟩ = some (.int .i64 n) ∧ w'.cell? ⟨w.heap.size, 4, none⟩ = some (.slice (some ⟨g, off, none⟩) 1 cap) ∧ w'.cell? ⟨w.heap.size + 1, 0, none⟩ = some (.slice ra rv.length rc) ∧ w'.cell? ⟨w.heap.size + 1, 1, none⟩ = some (.slice ma mv.length mc) ∧ w'.cell? ⟨g, off, none⟩ = some a0 ∧ w'.cell? ⟨g, off + 1, none⟩ = some a1 ∧ w'.cell? ⟨g, off + 2, none⟩ = some a2 ∧ w'.cell? ⟨g, off + 3, none⟩ = some a3 ∧ w'.cell? ⟨g, off + 4, none⟩ = some a4))
        (first
          | with_reducible exact HK0.out
          | with_reducible exact HKD.out
          | with_reducible assumption
          | go_keep)
        ((go_at_call 43; (with_reducible refine (HX2.out _ (by assumption)).mono ?_); rintro e w7 ⟨rfl, hb7⟩; have hS7 := HK.out w7 hb7))
      all_goals
        go_wp2_with fail
        go_ret2
        exact ⟨rfl, HB.out.trans (hb7.mono HB.out.size)⟩
  · rw [P.hd_nots rfl hk]
    have d1 : ((ks.length : Int) != 1) = true := by simp; omega
    have d2 : ((ks.length : Int) == 1) = false := by simp; omega
    have d3 : (ks.length == 1) = false := by simp; omega
    clear h hk IH hc hck hb2 hA hC hdp
    generalize bs s = S at *
    go_enter Tryd.func43, Tryd.ntmps43
    go_wp2_with fail
    go_ret2
    exact ⟨rfl, HB.out⟩
set_option maxHeartbeats 12800000 in
theorem rh_and (m : Nat) {la ga ra ma : Option Addr} {lc gc rc mc : Nat} {locs : List (List UInt8)} {regs : List (List (List UInt8))} {rv : List (List Int)} {mv : List Int} (IH : RhIn locs regs rv mv m) (w : World) (h : AkIn w la ga ra ma lc mc locs regs rv mv) (v : Value) (t n : Int) (s : List UInt8) (ks : List CO) (hc : LC (fun _ => True) w v (.mk 4 t s n ks)) (hdp : cdps ks ≤ m) :
    Calls Tryd.prog 43 #[v, .slice la locs.length lc, .slice ga regs.length gc, .agg #[.slice ra rv.length rc, .slice ma mv.length mc]] w (HoTo (hd locs regs rv mv (m + 1) (.mk 4 t s n ks)) w) := by
  have hc0 := hc
  unfold LC at hc0
  obtain ⟨a, cap, rfl, hmx, hck⟩ := hc0
  unfold maxLen at hmx
  obtain ⟨hb2, hA, hC⟩ := two_newC w #[.int .i64 4, .int .i64 t, .string (bs s), .int .i64 n, .slice a ks.length cap] #[.slice ra rv.length rc, .slice ma mv.length mc] 26 46
  have HB := Lib.hid hb2
  by_cases hk : ks.length = 2
  · rcases ks with _ | ⟨x, _ | ⟨y, _ | ⟨z, r⟩⟩⟩ <;> simp at hk
    clear hk hb2 hA hC HB
    rw [P.hd_two' (by decide)]
    rcases hck with hc' | ⟨g, off, rfl, _, hs⟩
    · cases hc'
    rw [show ([x, y] : List CO).length = 2 from rfl] at *
    obtain ⟨x', a0, a1, a2, a3, a4, hx, k0, k1, k2, k3, k4, hlx⟩ := LCs.at _ hs 0 (by simp)
    obtain rfl : x = x' := by simpa using hx
    obtain ⟨y', b0, b1, b2, b3, b4, hy, k5, k6, k7, k8, k9, hly⟩ := LCs.at _ hs 1 (by simp)
    obtain rfl : y = y' := by simpa using hy
    rw [show off + 0 * 5 = off by omega] at k0 k1 k2 k3 k4
    rw [show off + 1 * 5 = off + 5 by omega] at k5 k6 k7 k8 k9
    generalize bs s = S at *
    obtain ⟨hb2, hA, hC⟩ := two_newC w #[.int .i64 4, .int .i64 t, .string S, .int .i64 n, .slice (some ⟨g, off, none⟩) 2 cap] #[.slice ra rv.length rc, .slice ma mv.length mc] 26 46
    have HB := Lib.hid hb2
    have HS := Lib.hid (show ∀ w', Below w.heap.size w w' → (w'.cell? ⟨g, off, none⟩ = some a0 ∧ w'.cell? ⟨g, off + 1, none⟩ = some a1 ∧ w'.cell? ⟨g, off + 2, none⟩ = some a2 ∧ w'.cell? ⟨g, off + 3, none⟩ = some a3 ∧ w'.cell? ⟨g, off + 4, none⟩ = some a4 ∧ w'.cell? ⟨g, off + 5, none⟩ = some b0 ∧ w'.cell? ⟨g, off + 6, none⟩ = some b1 ∧ w'.cell? ⟨g, off + 7, none⟩ = some b2 ∧ w'.cell? ⟨g, off + 8, none⟩ = some b3 ∧ w'.cell? ⟨g, off + 9, none⟩ = some b4) from fun w' hb => by
      have hq : ∀ (o : Nat) (u : Value), w.cell? ⟨g, o, none⟩ = some u → w'.cell? ⟨g, o, none⟩ = some u := fun o u hu => (hb.cell (p := ⟨g, o, none⟩) (World.block_lt_of_cell? w _ hu)).trans hu
      exact ⟨hq _ _ k0, hq _ _ k1, hq _ _ k2, hq _ _ k3, hq _ _ k4, hq _ _ k5, hq _ _ k6, hq _ _ k7, hq _ _ k8, hq _ _ k9⟩)
    have HX := Lib.hid (fun w' (hb : Below w.heap.size w w') => IH x w' la ga ra ma lc gc rc mc _ (h.low hb) (hlx.low hb) (Nat.le_trans (P.cdps_mem (by simp)) hdp))
    have HY := Lib.hid (fun w' (hb : Below w.heap.size w w') => IH y w' la ga ra ma lc gc rc mc _ (h.low hb) (hly.low hb) (Nat.le_trans (P.cdps_mem (by simp)) hdp))
    clear hx hy k0 k1 k2 k3 k4 k5 k6 k7 k8 k9 hlx hly hs IH h hc hmx hdp
    go_enter Tryd.func43, Tryd.ntmps43
    go_wp2_with fail
    generalize hW : ((w.alloc (.cells #[.int .i64 4, .int .i64 t, .string S, .int .i64 n, .slice (some ⟨g, off, none⟩) 2 cap] 26)).alloc (.cells #[.slice ra rv.length rc, .slice ma mv.length mc] 46)) = W at *
    have hz := hC.lt
    clear hW
    have HK := Lib.hid (show ∀ w', Below W.heap.size W w' → (w'.cell? ⟨w.heap.size, 0, none⟩ = some (.int .i64 4) ∧ w'.cell? ⟨w.heap.size, 1, none⟩ = some (.int .i64 t) ∧ w'.cell? ⟨w.heap.size, 2, none⟩ = some (.string S) ∧ w'.cell? ⟨w.heap.size, 3, none⟩ = some (.int .i64 n) ∧ w'.cell? ⟨w.heap.size, 4, none⟩ = some (.slice (some ⟨g, off, none⟩) 2 cap) ∧ w'.cell? ⟨w.heap.size + 1, 0, none⟩ = some (.slice ra rv.length rc) ∧ w'.cell? ⟨w.heap.size + 1, 1, none⟩ = some (.slice ma mv.length mc) ∧ w'.cell? ⟨g, off, none⟩ = some a0 ∧ w'.cell? ⟨g, off + 1, none⟩ = some a1 ∧ w'.cell? ⟨g, off + 2, none⟩ = some a2 ∧ w'.cell? ⟨g, off + 3, none⟩ = some a3 ∧ w'.cell? ⟨g, off + 4, none⟩ = some a4 ∧ w'.cell? ⟨g, off + 5, none⟩ = some b0 ∧ w'.cell? ⟨g, off + 6, none⟩ = some b1 ∧ w'.cell? ⟨g, off + 7, none⟩ = some b2 ∧ w'.cell? ⟨g, off + 8, none⟩ = some b3 ∧ w'.cell? ⟨g, off + 9, none⟩ = some b4) from fun w' hb => by
      have hA' := hA.below hb (by omega)
      have hC' := hC.below hb hz
      exact ⟨hA'.cell 0, hA'.cell 1, hA'.cell 2, hA'.cell 3, hA'.cell 4, hC'.cell 0, hC'.cell 1, HS.out w' (HB.out.trans (hb.mono HB.out.size))⟩)
    have HX1 := Lib.hid (fun w' (hb : Below W.heap.size W w') => (HX.out w' (HB.out.trans (hb.mono HB.out.size))).mono fun e w'' (hh : HoTo (hd locs regs rv mv m x) w' e w'') => (show e = .returned (holdR (hd locs regs rv mv m x)) ∧ Below W.heap.size W w'' from ⟨hh.1, hb.trans (hh.2.mono hb.size)⟩))
    have HY1 := Lib.hid (fun w' (hb : Below W.heap.size W w') => (HY.out w' (HB.out.trans (hb.mono HB.out.size))).mono fun e w'' (hh : HoTo (hd locs regs rv mv m y) w' e w'') => (show e = .returned (holdR (hd locs regs rv mv m y)) ∧ Below W.heap.size W w'' from ⟨hh.1, hb.trans (hh.2.mono hb.size)⟩))
    have HK0 := Lib.hid (HK.out W (Below.refl _ _))
    have HKD := Lib.hid (HK.out W.drew (Below.refl _ _).drew)
    have hbD : Below W.heap.size W W.drew := (Below.refl _ _).drew
    clear HX HY HS hA hC hb2
    generalize hd locs regs rv mv m x = R at *
    generalize hd locs regs rv mv m y = R' at *
    rcases R with _ | (_ | _)
    all_goals
      have HX2 := Lib.hid HX1.out
      unfold holdR at HX2
      clear HX1
      rcases R' with _ | (_ | _)
      all_goals
        have HY2 := Lib.hid HY1.out
        unfold holdR at HY2
        clear HY1
        go_region_held3 (fun w' => (w'.cell? ⟨w.heap.size, 0, none⟩ = some (.int .i64 4) ∧ w'.cell? ⟨w.heap.size, 1, none⟩ = some (.int .i64 t) ∧ w'.cell? ⟨w.heap.size, 2, none⟩ = some (.string S) ∧ w'.cell? ⟨w.heap.size, 3, none⟩ = some (.int .i64 n) ∧ w'.cell? ⟨w.heap.size, 4, none⟩ = some (.slice (some ⟨g, off, none⟩) 2 cap) ∧ w'.cell? ⟨w.heap.size + 1, 0, none⟩ = some (.slice ra rv.length rc) ∧ w'.cell? ⟨w.heap.size + 1, 1, none⟩ = some (.slice ma mv.length mc) ∧ w'.cell? ⟨g, off, none⟩ = some a0 ∧ w'.cell? ⟨g, off + 1, none⟩ = some a1 ∧ w'.cell? ⟨g, off + 2, none⟩ = some a2 ∧ w'.cell? ⟨g, off + 3, none⟩ = some a3 ∧ w'.cell? ⟨g, off + 4, none⟩ = some a4 ∧ w'.cell? ⟨g, off + 5, none⟩ = some b0 ∧ w'.cell? ⟨g, off + 6, none⟩ = some b1 ∧ w'.cell? ⟨g, off + 7, none⟩ = some b2 ∧ w'.cell? ⟨g, off + 8, none⟩ = some b3 ∧ w'.cell? ⟨g, off + 9, none⟩ = some b4))
          (first
            | with_reducible exact HK0.out
            | with_reducible exact HKD.out
            | with_reducible assumption
            | go_keep)
          ((go_at_call 43; (with_reducible refine (HX2.out _ (by assumption)).mono ?_); rintro e w7 ⟨rfl, hb7⟩; have hS7 := HK.out w7 hb7))
        all_goals
          go_wp2_with fail
          have HK7 := Lib.hid (HK.out w7 hb7)
          have HKD7 := Lib.hid (HK.out w7.drew hb7.drew)
          have hbD7 : Below W.heap.size W w7.drew := hb7.drew
          clear HX2 HK0 HKD hbD hS7
          go_region_held3 (fun w' => (w'.cell? ⟨w.heap.size, 0, none⟩ = some (.int .i64 4) ∧ w'.cell? ⟨w.heap.size, 1, none⟩ = some (.int .i64 t) ∧ w'.cell? ⟨w.heap.size, 2, none⟩ = some (.string S) ∧ w'.cell? ⟨w.heap.size, 3, none⟩ = some (.int .i64 n) ∧ w'.cell? ⟨w.heap.size, 4, none⟩ = some (.slice (some ⟨g, off, none⟩) 2 cap) ∧ w'.cell? ⟨w.heap.size + 1, 0, none⟩ = some (.slice ra rv.length rc) ∧ w'.cell? ⟨w.heap.size + 1, 1, none⟩ = some (.slice ma mv.length mc) ∧ w'.cell? ⟨g, off, none⟩ = some a0 ∧ w'.cell? ⟨g, off + 1, none⟩ = some a1 ∧ w'.cell? ⟨g, off + 2, none⟩ = some a2 ∧ w'.cell? ⟨g, off + 3, none⟩ = some a3 ∧ w'.cell? ⟨g, off + 4, none⟩ = some a4 ∧ w'.cell? ⟨g, off + 5, none⟩ = some b0 ∧ w'.cell? ⟨g, off + 6, none⟩ = some b1 ∧ w'.cell? ⟨g, off + 7, none⟩ = some b2 ∧ w'.cell? ⟨g, off + 8, none⟩ = some b3 ∧ w'.cell? ⟨g, off + 9, none⟩ = some b4))
            (first
              | with_reducible exact HK7.out
              | with_reducible exact HKD7.out
              | with_reducible assumption
              | go_keep)
            ((go_at_call 43; (with_reducible refine (HY2.out _ (by assumption)).mono ?_); rintro e w8 ⟨rfl, hb8⟩; have hS8 := HK.out w8 hb8))
          all_goals
            have HB8 := Lib.hid (HB.out.trans (hb8.mono HB.out.size))
            go_wp2_with fail
            go_ret2
            exact ⟨rfl, HB8.out⟩
  · rw [P.hd_twos (by decide) hk]
    have d1 : ((ks.length : Int) != 2) = true := by simp; omega
    have d2 : ((ks.length : Int) == 2) = false := by simp; omega
    have d3 : (ks.length == 2) = false := by simp; omega
    clear h hk IH hc hck hb2 hA hC hdp
    generalize bs s = S at *
    go_enter Tryd.func43, Tryd.ntmps43
    go_wp2_with fail
    go_ret2
    exact ⟨rfl, HB.out⟩
end Go.Proofs.YtchokfgffnomoaaDoor.Lx
