/-
  What not, both, and, or, askOf, cond and Holds of post tell, as contracts.
-/
import Derived.Test.YtchokfgffnomoaaDoorPTHold
namespace Go.Proofs.YtchokfgffnomoaaDoor.Lx
open Go.RowKit
open P (CO plI hasP hd)
set_option maxRecDepth 100000
set_option linter.unusedVariables false
set_option linter.unusedSimpArgs false
/-- What cond tells, with so many steps left. -/
def CondIn (locs : List (List UInt8)) (regs : List (List (List UInt8))) (rv : List (List Int)) (mv : List Int) (m : Nat) : Prop := ∀ (e : CO) (w : World) (la ga ra ma : Option Addr) (lc gc rc mc : Nat) (v : Value), AkIn w la ga ra ma lc mc locs regs rv mv → LC (fun _ => True) w v e → Calls Tryd.prog 41 #[.agg #[.slice la locs.length lc, .slice ga regs.length gc, .slice ra rv.length rc, .slice ma mv.length mc, .int .i64 (m : Nat)], v] w (HoTo (hd locs regs rv mv m e) w)
/-- What both tells of two. -/
def bothR (r1 r2 : Option Bool) : Value := match r1 with
  | none => .tuple #[.bool false, .bool false, .bool false]
  | some x => match r2 with
    | none => .tuple #[.bool false, .bool false, .bool false]
    | some y => .tuple #[.bool x, .bool y, .bool true]
def BoTo (v : Value) (w : World) (e : Ending) (w' : World) : Prop := e = .returned v ∧ Below w.heap.size w w'
theorem holdR_none : holdR none = .tuple #[.bool false, .bool false] := rfl
theorem holdR_some (b : Bool) : holdR (some b) = .tuple #[.bool b, .bool true] := rfl
set_option maxHeartbeats 6400000 in
theorem not_any (m : Nat) (hm : m ≤ 100) {la ga ra ma : Option Addr} {lc gc rc mc : Nat} {locs : List (List UInt8)} {regs : List (List (List UInt8))} {rv : List (List Int)} {mv : List Int} (IH : CondIn locs regs rv mv m) (w : World) (h : AkIn w la ga ra ma lc mc locs regs rv mv) (v : Value) (t n : Int) (s : List UInt8) (ks : List CO) (hc : LC (fun _ => True) w v (.mk 3 t s n ks)) :
    Calls Tryd.prog 78 #[.agg #[.slice la locs.length lc, .slice ga regs.length gc, .slice ra rv.length rc, .slice ma mv.length mc, .int .i64 (m : Nat)], v] w (HoTo (hd locs regs rv mv (m + 1) (.mk 3 t s n ks)) w) := by
  unfold LC at hc
  obtain ⟨a, cap, rfl, hmx, hc⟩ := hc
  unfold maxLen at hmx
  by_cases hk : ks.length = 1
  · rcases ks with _ | ⟨x, _ | ⟨y, r⟩⟩ <;> simp at hk
    clear hk
    rw [P.hd_not rfl]
    rcases hc with hc | ⟨g, off, rfl, _, hs⟩
    · cases hc
    obtain ⟨x', a0, a1, a2, a3, a4, hx, k0, k1, k2, k3, k4, hlx⟩ := LCs.at _ hs 0 (by simp)
    obtain rfl : x = x' := by simpa using hx
    rw [show off + 0 * 5 = off by omega] at k0 k1 k2 k3 k4
    generalize bs s = S at *
    obtain ⟨hb2, hA, hC⟩ := two_newC w #[.slice la locs.length lc, .slice ga regs.length gc, .slice ra rv.length rc, .slice ma mv.length mc, .int .i64 (m : Nat)] #[.int .i64 3, .int .i64 t, .string S, .int .i64 n, .slice (some ⟨g, off, none⟩) 1 cap] 84 26
    have HS := Lib.hid (show ∀ w', Below w.heap.size w w' → (w'.cell? ⟨g, off, none⟩ = some a0 ∧ w'.cell? ⟨g, off + 1, none⟩ = some a1 ∧ w'.cell? ⟨g, off + 2, none⟩ = some a2 ∧ w'.cell? ⟨g, off + 3, none⟩ = some a3 ∧ w'.cell? ⟨g, off + 4, none⟩ = some a4) from fun w' hb => by
      have hq : ∀ (o : Nat) (u : Value), w.cell? ⟨g, o, none⟩ = some u → w'.cell? ⟨g, o, none⟩ = some u := fun o u hu => (hb.cell (p := ⟨g, o, none⟩) (World.block_lt_of_cell? w _ hu)).trans hu
      exact ⟨hq _ _ k0, hq _ _ k1, hq _ _ k2, hq _ _ k3, hq _ _ k4⟩)
    have HX := Lib.hid (fun w' (hb : Below w.heap.size w w') => IH x w' la ga ra ma lc gc rc mc _ (h.low hb) (hlx.low hb))
    clear hx k0 k1 k2 k3 k4 hlx hs IH h
    go_enter Tryd.func78, Tryd.ntmps78
    go_wp2_with fail
    generalize hW : ((w.alloc (.cells #[.slice la locs.length lc, .slice ga regs.length gc, .slice ra rv.length rc, .slice ma mv.length mc, .int .i64 (m : Nat)] 84)).alloc (.cells #[.int .i64 3, .int .i64 t, .string S, .int .i64 n, .slice (some ⟨g, off, none⟩) 1 cap] 26)) = W at *
    have hz := hC.lt
    clear hW
    have HBL := Lib.hid hb2
    have HK := Lib.hid (show ∀ w', Below W.heap.size W w' → (w'.cell? ⟨w.heap.size, 0, none⟩ = some (.slice la locs.length lc) ∧ w'.cell? ⟨w.heap.size, 1, none⟩ = some (.slice ga regs.length gc) ∧ w'.cell? ⟨w.heap.size, 2, none⟩ = some (.slice ra rv.length rc) ∧ w'.cell? ⟨w.heap.size, 3, none⟩ = some (.slice ma mv.length mc) ∧ w'.cell? ⟨w.heap.size, 4, none⟩ = some (.int .i64 (m : Nat)) ∧ w'.cell? ⟨w.heap.size + 1, 4, none⟩ = some (.slice (some ⟨g, off, none⟩) 1 cap) ∧ w'.cell? ⟨g, off, none⟩ = some a0 ∧ w'.cell? ⟨g, off + 1, none⟩ = some a1 ∧ w'.cell? ⟨g, off + 2, none⟩ = some a2 ∧ w'.cell? ⟨g, off + 3, none⟩ = some a3 ∧ w'.cell? ⟨g, off + 4, none⟩ = some a4) from fun w' hb => by
      have hA' := hA.below hb (by omega)
      have hC' := hC.below hb hz
      exact ⟨hA'.cell 0, hA'.cell 1, hA'.cell 2, hA'.cell 3, hA'.cell 4, hC'.cell 4, HS.out w' (HBL.out.trans (hb.mono HBL.out.size))⟩)
    have HX1 := Lib.hid (fun w' (hb : Below W.heap.size W w') => (HX.out w' (HBL.out.trans (hb.mono HBL.out.size))).mono fun e w'' (hh : HoTo (hd locs regs rv mv m x) w' e w'') => (show e = .returned (holdR (hd locs regs rv mv m x)) ∧ Below W.heap.size W w'' from ⟨hh.1, hb.trans (hh.2.mono hb.size)⟩))
    have HK0 := Lib.hid (HK.out W (Below.refl _ _))
    have HKD := Lib.hid (HK.out W.drew (Below.refl _ _).drew)
    have hbD : Below W.heap.size W W.drew := (Below.refl _ _).drew
    clear HX HS hA hC hb2
    generalize hd locs regs rv mv m x = R at *
    cases R
    all_goals
      have HX2 := Lib.hid HX1.out
      unfold holdR at HX2
      clear HX1
      go_region_held3 (fun w' => (w'.cell? ⟨w.heap.size, 0, none⟩ = some (.slice la locs.length lc) ∧ w'.cell? ⟨w.heap.size, 1, none⟩ = some (.slice ga regs.length gc) ∧ w'.cell? ⟨w.heap.size, 2, none⟩ = some (.slice ra rv.length rc) ∧ w'.cell? ⟨w.heap.size, 3, none⟩ = some (.slice ma mv.length mc) ∧ w'.cell? ⟨w.heap.size, 4, none⟩ = some (.int .i64 (m : Nat)) ∧ w'.cell? ⟨w.heap.size + 1, 4, none⟩ = some (.slice (some ⟨g, off, none⟩) 1 cap) ∧ w'.cell? ⟨g, off, none⟩ = some a0 ∧ w'.cell? ⟨g, off + 1, none⟩ = some a1 ∧ w'.cell? ⟨g, off + 2, none⟩ = some a2 ∧ w'.cell? ⟨g, off + 3, none⟩ = some a3 ∧ w'.cell? ⟨g, off + 4, none⟩ = some a4))
        (first
          | with_reducible exact HK0.out
          | with_reducible exact HKD.out
          | with_reducible assumption
          | go_keep)
        ((go_at_call 41; (with_reducible refine (HX2.out _ (by assumption)).mono ?_); rintro e w7 ⟨rfl, hb7⟩; have hS7 := HK.out w7 hb7))
      all_goals
        go_wp2_with fail
        go_ret2
        exact ⟨rfl, HBL.out.trans (hb7.mono HBL.out.size)⟩
  · rw [P.hd_nots rfl hk]
    have d1 : ((ks.length : Int) != 1) = true := by simp; omega
    have d2 : ((ks.length : Int) == 1) = false := by simp; omega
    have d3 : (ks.length == 1) = false := by simp; omega
    have HB := Lib.hid (two_newC w #[.slice la locs.length lc, .slice ga regs.length gc, .slice ra rv.length rc, .slice ma mv.length mc, .int .i64 (m : Nat)] #[.int .i64 3, .int .i64 t, .string (bs s), .int .i64 n, .slice a ks.length cap] 84 26).1
    clear h hk IH hc
    generalize bs s = S at *
    go_enter Tryd.func78, Tryd.ntmps78
    go_wp2_with fail
    go_ret2
    exact ⟨rfl, HB.out⟩
set_option maxHeartbeats 12800000 in
theorem bothP_any (m : Nat) (hm : m ≤ 100) {la ga ra ma : Option Addr} {lc gc rc mc : Nat} {locs : List (List UInt8)} {regs : List (List (List UInt8))} {rv : List (List Int)} {mv : List Int} (IH : CondIn locs regs rv mv m) (w : World) (h : AkIn w la ga ra ma lc mc locs regs rv mv) (v : Value) (o t n : Int) (s : List UInt8) (x y : CO) (hc : LC (fun _ => True) w v (.mk o t s n [x, y])) :
    Calls Tryd.prog 91 #[.agg #[.slice la locs.length lc, .slice ga regs.length gc, .slice ra rv.length rc, .slice ma mv.length mc, .int .i64 (m : Nat)], v] w (BoTo (bothR (hd locs regs rv mv m x) (hd locs regs rv mv m y)) w) := by
  unfold LC at hc
  obtain ⟨a, cap, rfl, hmx, hc⟩ := hc
  rcases hc with hc | ⟨g, off, rfl, _, hs⟩
  · cases hc
  · clear hmx
    obtain ⟨x', a0, a1, a2, a3, a4, hx, k0, k1, k2, k3, k4, hlx⟩ := LCs.at _ hs 0 (by simp)
    obtain rfl : x = x' := by simpa using hx
    obtain ⟨y', b0, b1, b2, b3, b4, hy, k5, k6, k7, k8, k9, hly⟩ := LCs.at _ hs 1 (by simp)
    obtain rfl : y = y' := by simpa using hy
    rw [show off + 0 * 5 = off by omega] at k0 k1 k2 k3 k4
    rw [show off + 1 * 5 = off + 5 by omega] at k5 k6 k7 k8 k9
    generalize bs s = S at *
    obtain ⟨hb2, hA, hC⟩ := two_newC w #[.slice la locs.length lc, .slice ga regs.length gc, .slice ra rv.length rc, .slice ma mv.length mc, .int .i64 (m : Nat)] #[.int .i64 o, .int .i64 t, .string S, .int .i64 n, .slice (some ⟨g, off, none⟩) 2 cap] 84 26
    have HS := Lib.hid (show ∀ w', Below w.heap.size w w' → (w'.cell? ⟨g, off, none⟩ = some a0 ∧ w'.cell? ⟨g, off + 1, none⟩ = some a1 ∧ w'.cell? ⟨g, off + 2, none⟩ = some a2 ∧ w'.cell? ⟨g, off + 3, none⟩ = some a3 ∧ w'.cell? ⟨g, off + 4, none⟩ = some a4 ∧ w'.cell? ⟨g, off + 5, none⟩ = some b0 ∧ w'.cell? ⟨g, off + 6, none⟩ = some b1 ∧ w'.cell? ⟨g, off + 7, none⟩ = some b2 ∧ w'.cell? ⟨g, off + 8, none⟩ = some b3 ∧ w'.cell? ⟨g, off + 9, none⟩ = some b4) from fun w' hb => by
      have hq : ∀ (o : Nat) (u : Value), w.cell? ⟨g, o, none⟩ = some u → w'.cell? ⟨g, o, none⟩ = some u := fun o u hu => (hb.cell (p := ⟨g, o, none⟩) (World.block_lt_of_cell? w _ hu)).trans hu
      exact ⟨hq _ _ k0, hq _ _ k1, hq _ _ k2, hq _ _ k3, hq _ _ k4, hq _ _ k5, hq _ _ k6, hq _ _ k7, hq _ _ k8, hq _ _ k9⟩)
    have HX := Lib.hid (fun w' (hb : Below w.heap.size w w') => IH x w' la ga ra ma lc gc rc mc _ (h.low hb) (hlx.low hb))
    have HY := Lib.hid (fun w' (hb : Below w.heap.size w w') => IH y w' la ga ra ma lc gc rc mc _ (h.low hb) (hly.low hb))
    clear hx hy k0 k1 k2 k3 k4 k5 k6 k7 k8 k9 hlx hly hs IH h
    rw [show ([x, y] : List CO).length = 2 from rfl]
    go_enter Tryd.func91, Tryd.ntmps91
    go_wp2_with fail
    generalize hW : ((w.alloc (.cells #[.slice la locs.length lc, .slice ga regs.length gc, .slice ra rv.length rc, .slice ma mv.length mc, .int .i64 (m : Nat)] 84)).alloc (.cells #[.int .i64 o, .int .i64 t, .string S, .int .i64 n, .slice (some ⟨g, off, none⟩) 2 cap] 26)) = W at *
    have hz := hC.lt
    clear hW
    have HBL := Lib.hid hb2
    have HK := Lib.hid (show ∀ w', Below W.heap.size W w' → (w'.cell? ⟨w.heap.size, 0, none⟩ = some (.slice la locs.length lc) ∧ w'.cell? ⟨w.heap.size, 1, none⟩ = some (.slice ga regs.length gc) ∧ w'.cell? ⟨w.heap.size, 2, none⟩ = some (.slice ra rv.length rc) ∧ w'.cell? ⟨w.heap.size, 3, none⟩ = some (.slice ma mv.length mc) ∧ w'.cell? ⟨w.heap.size, 4, none⟩ = some (.int .i64 (m : Nat)) ∧ w'.cell? ⟨w.heap.size + 1, 4, none⟩ = some (.slice (some ⟨g, off, none⟩) 2 cap) ∧ w'.cell? ⟨g, off, none⟩ = some a0 ∧ w'.cell? ⟨g, off + 1, none⟩ = some a1 ∧ w'.cell? ⟨g, off + 2, none⟩ = some a2 ∧ w'.cell? ⟨g, off + 3, none⟩ = some a3 ∧ w'.cell? ⟨g, off + 4, none⟩ = some a4 ∧ w'.cell? ⟨g, off + 5, none⟩ = some b0 ∧ w'.cell? ⟨g, off + 6, none⟩ = some b1 ∧ w'.cell? ⟨g, off + 7, none⟩ = some b2 ∧ w'.cell? ⟨g, off + 8, none⟩ = some b3 ∧ w'.cell? ⟨g, off + 9, none⟩ = some b4) from fun w' hb => by
      have hA' := hA.below hb (by omega)
      have hC' := hC.below hb hz
      exact ⟨hA'.cell 0, hA'.cell 1, hA'.cell 2, hA'.cell 3, hA'.cell 4, hC'.cell 4, HS.out w' (HBL.out.trans (hb.mono HBL.out.size))⟩)
    have HX1 := Lib.hid (fun w' (hb : Below W.heap.size W w') => (HX.out w' (HBL.out.trans (hb.mono HBL.out.size))).mono fun e w'' (hh : HoTo (hd locs regs rv mv m x) w' e w'') => (show e = .returned (holdR (hd locs regs rv mv m x)) ∧ Below W.heap.size W w'' from ⟨hh.1, hb.trans (hh.2.mono hb.size)⟩))
    have HY1 := Lib.hid (fun w' (hb : Below W.heap.size W w') => (HY.out w' (HBL.out.trans (hb.mono HBL.out.size))).mono fun e w'' (hh : HoTo (hd locs regs rv mv m y) w' e w'') => (show e = .returned (holdR (hd locs regs rv mv m y)) ∧ Below W.heap.size W w'' from ⟨hh.1, hb.trans (hh.2.mono hb.size)⟩))
    have HK0 := Lib.hid (HK.out W (Below.refl _ _))
    have HKD := Lib.hid (HK.out W.drew (Below.refl _ _).drew)
    have hbD : Below W.heap.size W W.drew := (Below.refl _ _).drew
    clear HX HY HS hA hC hb2
    generalize hd locs regs rv mv m x = R at *
    generalize hd locs regs rv mv m y = R' at *
    cases R with
    | none =>
      have HX2 := Lib.hid HX1.out
      rw [holdR_none] at HX2
      clear HX1 HY1
      go_region_held3 (fun w' => (w'.cell? ⟨w.heap.size, 0, none⟩ = some (.slice la locs.length lc) ∧ w'.cell? ⟨w.heap.size, 1, none⟩ = some (.slice ga regs.length gc) ∧ w'.cell? ⟨w.heap.size, 2, none⟩ = some (.slice ra rv.length rc) ∧ w'.cell? ⟨w.heap.size, 3, none⟩ = some (.slice ma mv.length mc) ∧ w'.cell? ⟨w.heap.size, 4, none⟩ = some (.int .i64 (m : Nat)) ∧ w'.cell? ⟨w.heap.size + 1, 4, none⟩ = some (.slice (some ⟨g, off, none⟩) 2 cap) ∧ w'.cell? ⟨g, off, none⟩ = some a0 ∧ w'.cell? ⟨g, off + 1, none⟩ = some a1 ∧ w'.cell? ⟨g, off + 2, none⟩ = some a2 ∧ w'.cell? ⟨g, off + 3, none⟩ = some a3 ∧ w'.cell? ⟨g, off + 4, none⟩ = some a4 ∧ w'.cell? ⟨g, off + 5, none⟩ = some b0 ∧ w'.cell? ⟨g, off + 6, none⟩ = some b1 ∧ w'.cell? ⟨g, off + 7, none⟩ = some b2 ∧ w'.cell? ⟨g, off + 8, none⟩ = some b3 ∧ w'.cell? ⟨g, off + 9, none⟩ = some b4))
        (first
          | with_reducible exact HK0.out
          | with_reducible exact HKD.out
          | with_reducible assumption
          | go_keep)
        ((go_at_call 41; (with_reducible refine (HX2.out _ (by assumption)).mono ?_); rintro e w7 ⟨rfl, hb7⟩; have hS7 := HK.out w7 hb7))
      all_goals
        go_wp2_with fail
        go_ret3
        exact ⟨rfl, HBL.out.trans (hb7.mono HBL.out.size)⟩
    | some b =>
      have HX2 := Lib.hid HX1.out
      rw [holdR_some] at HX2
      clear HX1
      cases R'
      all_goals
        have HY2 := Lib.hid HY1.out
        unfold holdR at HY2
        clear HY1
        go_region_held3 (fun w' => (w'.cell? ⟨w.heap.size, 0, none⟩ = some (.slice la locs.length lc) ∧ w'.cell? ⟨w.heap.size, 1, none⟩ = some (.slice ga regs.length gc) ∧ w'.cell? ⟨w.heap.size, 2, none⟩ = some (.slice ra rv.length rc) ∧ w'.cell? ⟨w.heap.size, 3, none⟩ = some (.slice ma mv.length mc) ∧ w'.cell? ⟨w.heap.size, 4, none⟩ = some (.int .i64 (m : Nat)) ∧ w'.cell? ⟨w.heap.size + 1, 4, none⟩ = some (.slice (some ⟨g, off, none⟩) 2 cap) ∧ w'.cell? ⟨g, off, none⟩ = some a0 ∧ w'.cell? ⟨g, off + 1, none⟩ = some a1 ∧ w'.cell? ⟨g, off + 2, none⟩ = some a2 ∧ w'.cell? ⟨g, off + 3, none⟩ = some a3 ∧ w'.cell? ⟨g, off + 4, none⟩ = some a4 ∧ w'.cell? ⟨g, off + 5, none⟩ = some b0 ∧ w'.cell? ⟨g, off + 6, none⟩ = some b1 ∧ w'.cell? ⟨g, off + 7, none⟩ = some b2 ∧ w'.cell? ⟨g, off + 8, none⟩ = some b3 ∧ w'.cell? ⟨g, off + 9, none⟩ = some b4))
          (first
            | with_reducible exact HK0.out
            | with_reducible exact HKD.out
            | with_reducible assumption
            | go_keep)
          ((go_at_call 41; (with_reducible refine (HX2.out _ (by assumption)).mono ?_); rintro e w7 ⟨rfl, hb7⟩; have hS7 := HK.out w7 hb7))
        all_goals
          go_wp2_with fail
          have HK7 := Lib.hid (HK.out w7 hb7)
          have HKD7 := Lib.hid (HK.out w7.drew hb7.drew)
          have hbD7 : Below W.heap.size W w7.drew := hb7.drew
          clear HX2 HK0 HKD hbD hS7
          go_region_held3 (fun w' => (w'.cell? ⟨w.heap.size, 0, none⟩ = some (.slice la locs.length lc) ∧ w'.cell? ⟨w.heap.size, 1, none⟩ = some (.slice ga regs.length gc) ∧ w'.cell? ⟨w.heap.size, 2, none⟩ = some (.slice ra rv.length rc) ∧ w'.cell? ⟨w.heap.size, 3, none⟩ = some (.slice ma mv.length mc) ∧ w'.cell? ⟨w.heap.size, 4, none⟩ = some (.int .i64 (m : Nat)) ∧ w'.cell? ⟨w.heap.size + 1, 4, none⟩ = some (.slice (some ⟨g, off, none⟩) 2 cap) ∧ w'.cell? ⟨g, off, none⟩ = some a0 ∧ w'.cell? ⟨g, off + 1, none⟩ = some a1 ∧ w'.cell? ⟨g, off + 2, none⟩ = some a2 ∧ w'.cell? ⟨g, off + 3, none⟩ = some a3 ∧ w'.cell? ⟨g, off + 4, none⟩ = some a4 ∧ w'.cell? ⟨g, off + 5, none⟩ = some b0 ∧ w'.cell? ⟨g, off + 6, none⟩ = some b1 ∧ w'.cell? ⟨g, off + 7, none⟩ = some b2 ∧ w'.cell? ⟨g, off + 8, none⟩ = some b3 ∧ w'.cell? ⟨g, off + 9, none⟩ = some b4))
            (first
              | with_reducible exact HK7.out
              | with_reducible exact HKD7.out
              | with_reducible assumption
              | go_keep)
            ((go_at_call 41; (with_reducible refine (HY2.out _ (by assumption)).mono ?_); rintro e w8 ⟨rfl, hb8⟩; have hS8 := HK.out w8 hb8))
          all_goals
            go_wp2_with fail
            go_ret3
            exact ⟨rfl, HBL.out.trans (hb8.mono HBL.out.size)⟩
set_option maxHeartbeats 3200000 in
theorem bothP_no (m : Nat) {la ga ra ma : Option Addr} {lc gc rc mc : Nat} {locs : List (List UInt8)} {regs : List (List (List UInt8))} {rv : List (List Int)} {mv : List Int} (w : World) (h : AkIn w la ga ra ma lc mc locs regs rv mv) (v : Value) (o t n : Int) (s : List UInt8) (ks : List CO) (hk : ks.length ≠ 2) (hc : LC (fun _ => True) w v (.mk o t s n ks)) :
    Calls Tryd.prog 91 #[.agg #[.slice la locs.length lc, .slice ga regs.length gc, .slice ra rv.length rc, .slice ma mv.length mc, .int .i64 (m : Nat)], v] w (BoTo (bothR none none) w) := by
  unfold LC at hc
  obtain ⟨a, cap, rfl, hmx, hc⟩ := hc
  unfold maxLen at hmx
  have d1 : ((ks.length : Int) != 2) = true := by simp; omega
  have d2 : ((ks.length : Int) == 2) = false := by simp; omega
  have d3 : (ks.length == 2) = false := by simp; omega
  have HB := Lib.hid (two_newC w #[.slice la locs.length lc, .slice ga regs.length gc, .slice ra rv.length rc, .slice ma mv.length mc, .int .i64 (m : Nat)] #[.int .i64 o, .int .i64 t, .string (bs s), .int .i64 n, .slice a ks.length cap] 84 26).1
  clear h hk hc
  generalize bs s = S at *
  go_enter Tryd.func91, Tryd.ntmps91
  go_wp2_with fail
  go_ret3
  exact ⟨rfl, HB.out⟩
set_option maxHeartbeats 3200000 in
theorem andP_any (m : Nat) (hm : m ≤ 100) {la ga ra ma : Option Addr} {lc gc rc mc : Nat} {locs : List (List UInt8)} {regs : List (List (List UInt8))} {rv : List (List Int)} {mv : List Int} (IH : CondIn locs regs rv mv m) (w : World) (h : AkIn w la ga ra ma lc mc locs regs rv mv) (v : Value) (t n : Int) (s : List UInt8) (ks : List CO) (hc : LC (fun _ => True) w v (.mk 4 t s n ks)) :
    Calls Tryd.prog 79 #[.agg #[.slice la locs.length lc, .slice ga regs.length gc, .slice ra rv.length rc, .slice ma mv.length mc, .int .i64 (m : Nat)], v] w (HoTo (hd locs regs rv mv (m + 1) (.mk 4 t s n ks)) w) := by
  have hc0 := hc
  unfold LC at hc0
  obtain ⟨a, cap, rfl, hmx, _⟩ := hc0
  obtain ⟨hb2, hA, hC⟩ := two_newC w #[.slice la locs.length lc, .slice ga regs.length gc, .slice ra rv.length rc, .slice ma mv.length mc, .int .i64 (m : Nat)] #[.int .i64 4, .int .i64 t, .string (bs s), .int .i64 n, .slice a ks.length cap] 84 26
  have HB := Lib.hid hb2
  by_cases hk : ks.length = 2
  · rcases ks with _ | ⟨x, _ | ⟨y, _ | ⟨z, r⟩⟩⟩ <;> simp at hk
    clear hk
    rw [P.hd_two' (by decide)]
    have HX := Lib.hid (bothP_any m hm IH _ (h.low hb2) _ 4 t n s x y (hc.low hb2) (gc := gc) (rc := rc))
    rw [show ([x, y] : List CO).length = 2 from rfl] at *
    clear hc h hb2 hA hC hmx IH
    generalize hd locs regs rv mv m x = R at *
    generalize hd locs regs rv mv m y = R' at *
    generalize bs s = S at *
    have fin : ∀ (r : Option Bool) (W : World) (w' : World), Below W.heap.size W w' → HoTo r W (.returned (holdR r)) w' := fun r W w' hb => ⟨rfl, hb⟩
    cases R with
    | none =>
      go_enter Tryd.func79, Tryd.ntmps79
      go_wp2_with fail
      with_reducible refine HX.out.mono ?_
      rintro e w7 ⟨rfl, hb7⟩
      unfold bothR
      go_wp2_with fail
      go_ret2
      exact ⟨rfl, HB.out.trans (hb7.mono HB.out.size)⟩
    | some b =>
      cases R' with
      | none =>
        go_enter Tryd.func79, Tryd.ntmps79
        go_wp2_with fail
        with_reducible refine HX.out.mono ?_
        rintro e w7 ⟨rfl, hb7⟩
        unfold bothR
        go_wp2_with fail
        go_ret2
        exact ⟨rfl, HB.out.trans (hb7.mono HB.out.size)⟩
      | some c =>
        cases b
        all_goals
          cases c
          all_goals
            go_enter Tryd.func79, Tryd.ntmps79
            go_wp2_with fail
            with_reducible refine HX.out.mono ?_
            rintro e w7 ⟨rfl, hb7⟩
            unfold bothR
            go_wp2_with fail
            go_ret2
            exact ⟨rfl, HB.out.trans (hb7.mono HB.out.size)⟩
  · rw [P.hd_twos (by decide) hk]
    have HX := Lib.hid (bothP_no m _ (h.low hb2) _ 4 t n s ks hk (hc.low hb2) (lc := lc) (gc := gc) (rc := rc) (mc := mc))
    clear hc h hb2 hA hC hmx IH hk
    generalize bs s = S at *
    go_enter Tryd.func79, Tryd.ntmps79
    go_wp2_with fail
    with_reducible refine HX.out.mono ?_
    rintro e w7 ⟨rfl, hb7⟩
    unfold bothR
    go_wp2_with fail
    go_ret2
    exact ⟨rfl, HB.out.trans (hb7.mono HB.out.size)⟩
set_option maxHeartbeats 3200000 in
theorem orP_any (m : Nat) (hm : m ≤ 100) {la ga ra ma : Option Addr} {lc gc rc mc : Nat} {locs : List (List UInt8)} {regs : List (List (List UInt8))} {rv : List (List Int)} {mv : List Int} (IH : CondIn locs regs rv mv m) (w : World) (h : AkIn w la ga ra ma lc mc locs regs rv mv) (v : Value) (t n : Int) (s : List UInt8) (ks : List CO) (hc : LC (fun _ => True) w v (.mk 5 t s n ks)) :
    Calls Tryd.prog 80 #[.agg #[.slice la locs.length lc, .slice ga regs.length gc, .slice ra rv.length rc, .slice ma mv.length mc, .int .i64 (m : Nat)], v] w (HoTo (hd locs regs rv mv (m + 1) (.mk 5 t s n ks)) w) := by
  have hc0 := hc
  unfold LC at hc0
  obtain ⟨a, cap, rfl, hmx, _⟩ := hc0
  obtain ⟨hb2, hA, hC⟩ := two_newC w #[.slice la locs.length lc, .slice ga regs.length gc, .slice ra rv.length rc, .slice ma mv.length mc, .int .i64 (m : Nat)] #[.int .i64 5, .int .i64 t, .string (bs s), .int .i64 n, .slice a ks.length cap] 84 26
  have HB := Lib.hid hb2
  by_cases hk : ks.length = 2
  · rcases ks with _ | ⟨x, _ | ⟨y, _ | ⟨z, r⟩⟩⟩ <;> simp at hk
    clear hk
    rw [P.hd_two' (by decide)]
    have HX := Lib.hid (bothP_any m hm IH _ (h.low hb2) _ 5 t n s x y (hc.low hb2) (gc := gc) (rc := rc))
    rw [show ([x, y] : List CO).length = 2 from rfl] at *
    clear hc h hb2 hA hC hmx IH
    generalize hd locs regs rv mv m x = R at *
    generalize hd locs regs rv mv m y = R' at *
    generalize bs s = S at *
    have fin : ∀ (r : Option Bool) (W : World) (w' : World), Below W.heap.size W w' → HoTo r W (.returned (holdR r)) w' := fun r W w' hb => ⟨rfl, hb⟩
    cases R with
    | none =>
      go_enter Tryd.func80, Tryd.ntmps80
      go_wp2_with fail
      with_reducible refine HX.out.mono ?_
      rintro e w7 ⟨rfl, hb7⟩
      unfold bothR
      go_wp2_with fail
      go_ret2
      exact ⟨rfl, HB.out.trans (hb7.mono HB.out.size)⟩
    | some b =>
      cases R' with
      | none =>
        go_enter Tryd.func80, Tryd.ntmps80
        go_wp2_with fail
        with_reducible refine HX.out.mono ?_
        rintro e w7 ⟨rfl, hb7⟩
        unfold bothR
        go_wp2_with fail
        go_ret2
        exact ⟨rfl, HB.out.trans (hb7.mono HB.out.size)⟩
      | some c =>
        cases b
        all_goals
          cases c
          all_goals
            go_enter Tryd.func80, Tryd.ntmps80
            go_wp2_with fail
            with_reducible refine HX.out.mono ?_
            rintro e w7 ⟨rfl, hb7⟩
            unfold bothR
            go_wp2_with fail
            go_ret2
            exact ⟨rfl, HB.out.trans (hb7.mono HB.out.size)⟩
  · rw [P.hd_twos (by decide) hk]
    have HX := Lib.hid (bothP_no m _ (h.low hb2) _ 5 t n s ks hk (hc.low hb2) (lc := lc) (gc := gc) (rc := rc) (mc := mc))
    clear hc h hb2 hA hC hmx IH hk
    generalize bs s = S at *
    go_enter Tryd.func80, Tryd.ntmps80
    go_wp2_with fail
    with_reducible refine HX.out.mono ?_
    rintro e w7 ⟨rfl, hb7⟩
    unfold bothR
    go_wp2_with fail
    go_ret2
    exact ⟨rfl, HB.out.trans (hb7.mono HB.out.size)⟩
/-- What asks conditions of that Op. -/
def fk (op : Int) (A : Array Value) : Value := if op = 1 then .func (.func 76) #[.agg A] #[] else if op = 2 then .func (.func 77) #[.agg A] #[] else if op = 3 then .func (.func 78) #[.agg A] #[] else if op = 4 then .func (.func 79) #[.agg A] #[] else if op = 5 then .func (.func 80) #[.agg A] #[] else .nilFunc
set_option maxHeartbeats 3200000 in
theorem askOf_any (op z0 : Int) (u0 u1 u2 u3 : Value) (w : World) : Calls Tryd.prog 57 #[.agg #[u0, u1, u2, u3, .int .i64 z0], .int .i64 op] w (fun e w' => e = .returned (fk op #[u0, u1, u2, u3, .int .i64 z0]) ∧ Below w.heap.size w w') := by
  have HB := Lib.hid (one_belowC w (.cells #[u0, u1, u2, u3, .int .i64 z0] 84))
  by_cases h1 : op = 1
  · subst h1
    show Calls Tryd.prog 57 #[.agg #[u0, u1, u2, u3, .int .i64 z0], .int .i64 1] w (fun e w' => e = .returned (.func (.func 76) #[.agg #[u0, u1, u2, u3, .int .i64 z0]] #[]) ∧ Below w.heap.size w w')
    go_enter Tryd.func57, Tryd.ntmps57
    go_wp2_with fail
    go_ret
    exact ⟨rfl, HB.out⟩
  by_cases h2 : op = 2
  · subst h2
    show Calls Tryd.prog 57 #[.agg #[u0, u1, u2, u3, .int .i64 z0], .int .i64 2] w (fun e w' => e = .returned (.func (.func 77) #[.agg #[u0, u1, u2, u3, .int .i64 z0]] #[]) ∧ Below w.heap.size w w')
    go_enter Tryd.func57, Tryd.ntmps57
    go_wp2_with fail
    go_ret
    exact ⟨rfl, HB.out⟩
  by_cases h3 : op = 3
  · subst h3
    show Calls Tryd.prog 57 #[.agg #[u0, u1, u2, u3, .int .i64 z0], .int .i64 3] w (fun e w' => e = .returned (.func (.func 78) #[.agg #[u0, u1, u2, u3, .int .i64 z0]] #[]) ∧ Below w.heap.size w w')
    go_enter Tryd.func57, Tryd.ntmps57
    go_wp2_with fail
    go_ret
    exact ⟨rfl, HB.out⟩
  by_cases h4 : op = 4
  · subst h4
    show Calls Tryd.prog 57 #[.agg #[u0, u1, u2, u3, .int .i64 z0], .int .i64 4] w (fun e w' => e = .returned (.func (.func 79) #[.agg #[u0, u1, u2, u3, .int .i64 z0]] #[]) ∧ Below w.heap.size w w')
    go_enter Tryd.func57, Tryd.ntmps57
    go_wp2_with fail
    go_ret
    exact ⟨rfl, HB.out⟩
  by_cases h5 : op = 5
  · subst h5
    show Calls Tryd.prog 57 #[.agg #[u0, u1, u2, u3, .int .i64 z0], .int .i64 5] w (fun e w' => e = .returned (.func (.func 80) #[.agg #[u0, u1, u2, u3, .int .i64 z0]] #[]) ∧ Below w.heap.size w w')
    go_enter Tryd.func57, Tryd.ntmps57
    go_wp2_with fail
    go_ret
    exact ⟨rfl, HB.out⟩
  have hf : fk op #[u0, u1, u2, u3, .int .i64 z0] = .nilFunc := by simp [fk, h1, h2, h3, h4, h5]
  rw [hf]
  clear hf
  have e1 : (op == 1) = false := by simpa using h1
  have e2 : (op == 2) = false := by simpa using h2
  have e3 : (op == 3) = false := by simpa using h3
  have e4 : (op == 4) = false := by simpa using h4
  have e5 : (op == 5) = false := by simpa using h5
  clear h1 h2 h3 h4 h5
  go_enter Tryd.func57, Tryd.ntmps57
  go_wp2_with fail
  go_ret
  exact ⟨rfl, HB.out⟩
end Go.Proofs.YtchokfgffnomoaaDoor.Lx
