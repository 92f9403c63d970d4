/-
  What the document's answer tells an expression comes to, as contracts.
-/
import Derived.Test.YtlgnagmmljdkiabEVAsk

namespace Go.Proofs.Ytlgnagmmljdkiab.Lx
open Go.RowKit
open P (EX ev ev2 plI jn evA askD askDs szX szL)
set_option maxRecDepth 100000
set_option linter.unusedVariables false
set_option linter.unusedSimpArgs false

set_option maxHeartbeats 3200000 in
theorem rval_num {w : World} {ar av : Option Addr} {cr cv : Nat} {rs : List (List UInt8)} {vs : List Int} {n : Int} (h : EvIn w ar av cr cv rs vs n) (k : Int) (s : List UInt8) (ks : List EX) (hk : W64 k) (v : Value) (hv : LX (fun _ => True) w v (.mk 1 k s ks)) :
    Calls Try.prog 32 #[v, .slice ar rs.length cr, .slice av vs.length cv, .int .i64 n] w (EvTo (some (V.inI k n)) w) := by
  unfold LX at hv
  obtain ⟨a, cap, rfl, _, _⟩ := hv
  have HI := Lib.hid (wi64 hk)
  clear h hk
  generalize bs s = S at *
  go_enter Try.func32, Try.ntmps32
  go_wp2_with fail
  with_reducible refine (Wr.rin_any _ _ _ HI.out).mono ?_
  rintro e w2 ⟨rfl, rfl⟩
  go_wp2_with fail
  go_ret2
  exact ⟨rfl, one_below _ _⟩
set_option maxHeartbeats 3200000 in
theorem rval_reg {w : World} {ar av : Option Addr} {cr cv : Nat} {rs : List (List UInt8)} {vs : List Int} {n : Int} (h : EvIn w ar av cr cv rs vs n) (k : Int) (s : List UInt8) (ks : List EX) (v : Value) (hv : LX (fun _ => True) w v (.mk 2 k s ks)) :
    Calls Try.prog 32 #[v, .slice ar rs.length cr, .slice av vs.length cv, .int .i64 n] w (EvTo (if plI s rs < 0 then none else some (V.inI (vs.getD (plI s rs).toNat 0) n)) w) := by
  unfold LX at hv
  obtain ⟨a, cap, rfl, _, _⟩ := hv
  have hbd := P.plI_bd s rs
  have hb2 := one_below w (.cells #[.int .i64 2, .int .i64 k, .string (bs s), .slice a ks.length cap] 47)
  have HP := Lib.hid (fun w' (hb : Below w.heap.size w w') => rplace_any rs s (fun _ => True) _ w' (h.nms.keep (Keeps.below hb (Nat.le_refl _))) (by have := h.max; omega))
  have HL := Lib.hid h.len
  by_cases hn : plI s rs < 0
  · rw [if_pos hn]
    have HPv := Lib.hid (show plI s rs = -1 by omega)
    clear h hbd hn
    go_enter Try.func32, Try.ntmps32
    go_wp2_with fail
    with_reducible refine (HP.out _ hb2).mono ?_
    rw [HPv.out]
    rintro e w2 ⟨rfl, rfl⟩
    go_wp2_with fail
    go_ret2
    exact ⟨rfl, one_below _ _⟩
  · rw [if_neg hn]
    obtain ⟨g, off, rfl, hcell⟩ := at_vals h (i := plI s rs) (by omega) hbd.2
    have HC := Lib.hid (hb2.cell (p := ⟨g, off + (plI s rs).toNat, none⟩) (World.block_lt_of_cell? w _ hcell) |>.trans hcell)
    have HI := Lib.hid (wi64 (h.i64 (plI s rs).toNat))
    obtain ⟨i, hi⟩ : ∃ i : Nat, plI s rs = i := ⟨(plI s rs).toNat, by omega⟩
    have hil : i < rs.length := by omega
    rw [hi] at HC HI HP ⊢
    rw [Int.toNat_natCast] at HC HI ⊢
    have d1 : (0 : Int) ≤ (i : Int) := by omega
    have hlen := HL.out
    have d2 : (i : Int) < (vs.length : Int) := by omega
    have d3 : decide ((i : Int) < 0) = false := by simp
    clear hlen h hbd hn hcell hi
    generalize vs.getD i 0 = X at *
    generalize bs s = S at *
    go_enter Try.func32, Try.ntmps32
    go_wp2_with fail
    with_reducible refine (HP.out _ hb2).mono ?_
    rintro e w2 ⟨rfl, rfl⟩
    have hc1 := HC.out
    have HBL := Lib.hid hb2
    clear hb2 HP
    generalize (w.alloc (.cells #[.int .i64 2, .int .i64 k, .string S, .slice a ks.length cap] 47)) = W at *
    go_wp2_with fail
    with_reducible refine (Wr.rin_any _ _ _ HI.out).mono ?_
    rintro e w3 ⟨rfl, rfl⟩
    go_wp2_with fail
    go_ret2
    exact ⟨rfl, HBL.out⟩
theorem jn_3 (x y n : Int) : jn 3 x y n = V.inI (x + y) n := rfl
theorem jn_4 (x y n : Int) : jn 4 x y n = V.inI (x - y) n := rfl
theorem jn_5 (x y n : Int) : jn 5 x y n = if x = y then 1 else 0 := rfl
theorem jn_6 (x y n : Int) : jn 6 x y n = if x < y then 1 else 0 := rfl

set_option maxHeartbeats 12800000 in
theorem rval_3 (m : Nat) {ar av : Option Addr} {cr cv : Nat} {rs : List (List UInt8)} {vs : List Int} {n : Int} (IH : ∀ (e : EX) (w : World) (v : Value), askD e ≤ m → EvIn w ar av cr cv rs vs n → LX (fun _ => True) w v e → wfX e → Calls Try.prog 32 #[v, .slice ar rs.length cr, .slice av vs.length cv, .int .i64 n] w (EvTo (ev rs vs n m e) w))
    (w : World) (h : EvIn w ar av cr cv rs vs n) (k : Int) (s : List UInt8) (ks : List EX) (hks : wfXs ks) (hd : askD (.mk 3 k s ks) ≤ m + 1) (v : Value) (hv : LX (fun _ => True) w v (.mk 3 k s ks)) :
    Calls Try.prog 32 #[v, .slice ar rs.length cr, .slice av vs.length cv, .int .i64 n] w (EvTo (ev rs vs n (m + 1) (.mk 3 k s ks)) w) := by
  unfold LX at hv
  obtain ⟨a, cap, rfl, hmax, hc⟩ := hv
  unfold maxLen at hmax
  have hn2 := h.n2
  have hn4 := h.n4
  by_cases hk2 : ks.length = 2
  · rcases ks with _ | ⟨x, _ | ⟨y, _ | ⟨z, r⟩⟩⟩ <;> simp at hk2
    clear hk2
    rw [P.ask_two (by omega)] at hd
    rw [P.ev_two (by omega)]
    generalize hR : ev2 rs vs n m 3 x y = R
    have HR := Lib.hid hR
    clear hR
    rcases hc with hc | ⟨g, off, rfl, _, hs⟩
    · cases hc
    obtain ⟨x', a0, a1, a2, a3, hx, k0, k1, k2, k3, hlx⟩ := LXs.at _ hs 0 (by simp)
    obtain ⟨y', b0, b1, b2, b3, hy, k4, k5, k6, k7, hly⟩ := LXs.at _ hs 1 (by simp)
    obtain rfl : x = x' := by simpa using hx
    obtain rfl : y = y' := by simpa using hy
    have hwx : wfX x := wfXs_mem hks x (.head _)
    have hwy : wfX y := wfXs_mem hks y (.tail _ (.head _))
    rw [show off + 0 * 4 = off by omega] at k0 k1 k2 k3
    rw [show off + 1 * 4 = off + 4 by omega] at k4 k5 k6 k7
    generalize bs s = S at *
    have hb2 := one_below w (.cells #[.int .i64 3, .int .i64 k, .string S, .slice (some ⟨g, off, none⟩) 2 cap] 47)
    have hB := Blk.new w 47 #[.int .i64 3, .int .i64 k, .string S, .slice (some ⟨g, off, none⟩) 2 cap]
    have HS := Lib.hid (show ∀ w', Below w.heap.size w w' → (w'.cell? ⟨g, off, none⟩ = some a0 ∧ w'.cell? ⟨g, off + 1, none⟩ = some a1 ∧ w'.cell? ⟨g, off + 2, none⟩ = some a2 ∧ w'.cell? ⟨g, off + 3, none⟩ = some a3 ∧ w'.cell? ⟨g, off + 4, none⟩ = some b0 ∧ w'.cell? ⟨g, off + 5, none⟩ = some b1 ∧ w'.cell? ⟨g, off + 6, none⟩ = some b2 ∧ w'.cell? ⟨g, off + 7, none⟩ = some b3) from fun w' hb => by
      have hq : ∀ (o : Nat) (u : Value), w.cell? ⟨g, o, none⟩ = some u → w'.cell? ⟨g, o, none⟩ = some u := fun o u hu => (hb.cell (p := ⟨g, o, none⟩) (World.block_lt_of_cell? w _ hu)).trans hu
      exact ⟨hq _ _ k0, hq _ _ k1, hq _ _ k2, hq _ _ k3, hq _ _ k4, hq _ _ k5, hq _ _ k6, hq _ _ k7⟩)
    have HX := Lib.hid (fun w' (hb : Below w.heap.size w w') => IH x w' _ (by omega) (h.below hb) (hlx.low hb) hwx)
    have HY := Lib.hid (fun w' (hb : Below w.heap.size w w') => IH y w' _ (by omega) (h.below hb) (hly.low hb) hwy)
    have hbx := P.ev_bd (rs := rs) (vs := vs) ⟨h.n2, h.n4⟩ m x
    have hby := P.ev_bd (rs := rs) (vs := vs) ⟨h.n2, h.n4⟩ m y
    have HBX := Lib.hid hbx
    have HBY := Lib.hid hby
    clear hx hy k0 k1 k2 k3 k4 k5 k6 k7 hlx hly hs hwx hwy hks IH h hbx hby hd
    go_enter Try.func32, Try.ntmps32
    go_upto_region 11 with (fail)
    generalize hW : (w.alloc (.cells #[.int .i64 3, .int .i64 k, .string S, .slice (some ⟨g, off, none⟩) 2 cap] 47)) = W at *
    have hz := hB.lt
    clear hW
    have HBL := Lib.hid hb2
    have HK := Lib.hid (show ∀ w', Below W.heap.size W w' → (w'.cell? ⟨w.heap.size, 0, none⟩ = some (.int .i64 3) ∧ w'.cell? ⟨w.heap.size, 1, none⟩ = some (.int .i64 k) ∧ w'.cell? ⟨w.heap.size, 2, none⟩ = some (.string S) ∧ w'.cell? ⟨w.heap.size, 3, none⟩ = some (.slice (some ⟨g, off, none⟩) 2 cap) ∧ w'.cell? ⟨g, off, none⟩ = some a0 ∧ w'.cell? ⟨g, off + 1, none⟩ = some a1 ∧ w'.cell? ⟨g, off + 2, none⟩ = some a2 ∧ w'.cell? ⟨g, off + 3, none⟩ = some a3 ∧ w'.cell? ⟨g, off + 4, none⟩ = some b0 ∧ w'.cell? ⟨g, off + 5, none⟩ = some b1 ∧ w'.cell? ⟨g, off + 6, none⟩ = some b2 ∧ w'.cell? ⟨g, off + 7, none⟩ = some b3) from fun w' hb => by
      have hB' := hB.below hb hz
      exact ⟨hB'.cell 0, hB'.cell 1, hB'.cell 2, hB'.cell 3, HS.out w' (HBL.out.trans (hb.mono HBL.out.size))⟩)
    have HX1 := Lib.hid (fun w' (hb : Below W.heap.size W w') => (HX.out w' (HBL.out.trans (hb.mono HBL.out.size))).mono fun e w'' (hh : EvTo (ev rs vs n m x) w' e w'') => (show e = .returned (evR (ev rs vs n m x)) ∧ Below W.heap.size W w'' from ⟨hh.1, hb.trans (hh.2.mono hb.size)⟩))
    have HY1 := Lib.hid (fun w' (hb : Below W.heap.size W w') => (HY.out w' (HBL.out.trans (hb.mono HBL.out.size))).mono fun e w'' (hh : EvTo (ev rs vs n m y) w' e w'') => (show e = .returned (evR (ev rs vs n m y)) ∧ Below W.heap.size W w'' from ⟨hh.1, hb.trans (hh.2.mono hb.size)⟩))
    clear HX HY HS hB hb2
    obtain ⟨p0, p1, p2, p3, p4, p5, p6, p7, p8, p9, p10, p11⟩ := HK.out W (Below.refl _ _)
    cases hex : ev rs vs n m x with
    | none =>
      rw [hex, evR_none] at HX1
      have HE := Lib.hid (show R = none by rw [← HR.out]; unfold P.ev2; rw [hex])
      clear hex
      cases hey : ev rs vs n m y with
      | none =>
        rw [hey, evR_none] at HY1
        clear hey
        go_wp2_with fail
        with_reducible refine (HX1.out W (Below.refl _ _)).mono ?_
        rintro e w7 ⟨rfl, hb7⟩
        clear p0 p1 p2 p3 p4 p5 p6 p7 p8 p9 p10 p11
        obtain ⟨q0, q1, q2, q3, q4, q5, q6, q7, q8, q9, q10, q11⟩ := HK.out w7 hb7
        go_wp2_with fail
        with_reducible refine (HY1.out w7 hb7).mono ?_
        rintro e w8 ⟨rfl, hb8⟩
        obtain ⟨s0, s1, s2, s3, s4, s5, s6, s7, s8, s9, s10, s11⟩ := HK.out w8 hb8
        clear q0 q1 q2 q3 q4 q5 q6 q7 q8 q9 q10 q11
        go_wp2_with fail
        go_ret2
        rw [HE.out]
        exact ⟨rfl, HBL.out.trans (hb8.mono HBL.out.size)⟩
      | some yv =>
        rw [hey, evR_some] at HY1
        clear hey
        go_wp2_with fail
        with_reducible refine (HX1.out W (Below.refl _ _)).mono ?_
        rintro e w7 ⟨rfl, hb7⟩
        clear p0 p1 p2 p3 p4 p5 p6 p7 p8 p9 p10 p11
        obtain ⟨q0, q1, q2, q3, q4, q5, q6, q7, q8, q9, q10, q11⟩ := HK.out w7 hb7
        go_wp2_with fail
        with_reducible refine (HY1.out w7 hb7).mono ?_
        rintro e w8 ⟨rfl, hb8⟩
        obtain ⟨s0, s1, s2, s3, s4, s5, s6, s7, s8, s9, s10, s11⟩ := HK.out w8 hb8
        clear q0 q1 q2 q3 q4 q5 q6 q7 q8 q9 q10 q11
        go_wp2_with fail
        go_ret2
        rw [HE.out]
        exact ⟨rfl, HBL.out.trans (hb8.mono HBL.out.size)⟩
    | some xv =>
      have hxb := HBX.out xv hex
      rw [hex, evR_some] at HX1
      cases hey : ev rs vs n m y with
      | none =>
        rw [hey, evR_none] at HY1
        have HE := Lib.hid (show R = none by rw [← HR.out]; unfold P.ev2; rw [hex, hey])
        clear hey hex
        go_wp2_with fail
        with_reducible refine (HX1.out W (Below.refl _ _)).mono ?_
        rintro e w7 ⟨rfl, hb7⟩
        clear p0 p1 p2 p3 p4 p5 p6 p7 p8 p9 p10 p11
        obtain ⟨q0, q1, q2, q3, q4, q5, q6, q7, q8, q9, q10, q11⟩ := HK.out w7 hb7
        go_wp2_with fail
        with_reducible refine (HY1.out w7 hb7).mono ?_
        rintro e w8 ⟨rfl, hb8⟩
        obtain ⟨s0, s1, s2, s3, s4, s5, s6, s7, s8, s9, s10, s11⟩ := HK.out w8 hb8
        clear q0 q1 q2 q3 q4 q5 q6 q7 q8 q9 q10 q11
        go_wp2_with fail
        go_ret2
        rw [HE.out]
        exact ⟨rfl, HBL.out.trans (hb8.mono HBL.out.size)⟩
      | some yv =>
        have hyb := HBY.out yv hey
        rw [hey, evR_some] at HY1
        have HE := Lib.hid (show R = some (jn 3 xv yv n) by rw [← HR.out]; unfold P.ev2; rw [hex, hey])
        clear hey hex
        go_wp2_with fail
        with_reducible refine (HX1.out W (Below.refl _ _)).mono ?_
        rintro e w7 ⟨rfl, hb7⟩
        clear p0 p1 p2 p3 p4 p5 p6 p7 p8 p9 p10 p11
        obtain ⟨q0, q1, q2, q3, q4, q5, q6, q7, q8, q9, q10, q11⟩ := HK.out w7 hb7
        go_wp2_with fail
        with_reducible refine (HY1.out w7 hb7).mono ?_
        rintro e w8 ⟨rfl, hb8⟩
        obtain ⟨s0, s1, s2, s3, s4, s5, s6, s7, s8, s9, s10, s11⟩ := HK.out w8 hb8
        clear q0 q1 q2 q3 q4 q5 q6 q7 q8 q9 q10 q11
        have hS64 : Wr.I64 (xv + yv) := Wr.I64.mk (by omega) (by omega)
        go_wp2_with fail
        with_reducible refine (Wr.rin_any _ _ _ hS64).mono ?_
        rintro e w9 ⟨rfl, rfl⟩
        go_wp2_with fail
        go_ret2
        rw [HE.out]
        exact ⟨rfl, HBL.out.trans (hb8.mono HBL.out.size)⟩
  · rw [P.ev_kids (by omega) _ _ _ _ _ _ _ hk2]
    have e1 : ((ks.length : Int) != 2) = true := by simp; omega
    have e2 : ((ks.length : Int) == 2) = false := by simp; omega
    have e3 : (ks.length == 2) = false := by simpa using hk2
    clear hk2 hc IH h hd
    generalize bs s = S at *
    go_enter Try.func32, Try.ntmps32
    go_wp2_with fail
    go_ret2
    exact ⟨rfl, one_below _ _⟩

set_option maxHeartbeats 12800000 in
theorem rval_4 (m : Nat) {ar av : Option Addr} {cr cv : Nat} {rs : List (List UInt8)} {vs : List Int} {n : Int} (IH : ∀ (e : EX) (w : World) (v : Value), askD e ≤ m → EvIn w ar av cr cv rs vs n → LX (fun _ => True) w v e → wfX e → Calls Try.prog 32 #[v, .slice ar rs.length cr, .slice av vs.length cv, .int .i64 n] w (EvTo (ev rs vs n m e) w))
    (w : World) (h : EvIn w ar av cr cv rs vs n) (k : Int) (s : List UInt8) (ks : List EX) (hks : wfXs ks) (hd : askD (.mk 4 k s ks) ≤ m + 1) (v : Value) (hv : LX (fun _ => True) w v (.mk 4 k s ks)) :
    Calls Try.prog 32 #[v, .slice ar rs.length cr, .slice av vs.length cv, .int .i64 n] w (EvTo (ev rs vs n (m + 1) (.mk 4 k s ks)) w) := by
  unfold LX at hv
  obtain ⟨a, cap, rfl, hmax, hc⟩ := hv
  unfold maxLen at hmax
  have hn2 := h.n2
  have hn4 := h.n4
  by_cases hk2 : ks.length = 2
  · rcases ks with _ | ⟨x, _ | ⟨y, _ | ⟨z, r⟩⟩⟩ <;> simp at hk2
    clear hk2
    rw [P.ask_two (by omega)] at hd
    rw [P.ev_two (by omega)]
    generalize hR : ev2 rs vs n m 4 x y = R
    have HR := Lib.hid hR
    clear hR
    rcases hc with hc | ⟨g, off, rfl, _, hs⟩
    · cases hc
    obtain ⟨x', a0, a1, a2, a3, hx, k0, k1, k2, k3, hlx⟩ := LXs.at _ hs 0 (by simp)
    obtain ⟨y', b0, b1, b2, b3, hy, k4, k5, k6, k7, hly⟩ := LXs.at _ hs 1 (by simp)
    obtain rfl : x = x' := by simpa using hx
    obtain rfl : y = y' := by simpa using hy
    have hwx : wfX x := wfXs_mem hks x (.head _)
    have hwy : wfX y := wfXs_mem hks y (.tail _ (.head _))
    rw [show off + 0 * 4 = off by omega] at k0 k1 k2 k3
    rw [show off + 1 * 4 = off + 4 by omega] at k4 k5 k6 k7
    generalize bs s = S at *
    have hb2 := one_below w (.cells #[.int .i64 4, .int .i64 k, .string S, .slice (some ⟨g, off, none⟩) 2 cap] 47)
    have hB := Blk.new w 47 #[.int .i64 4, .int .i64 k, .string S, .slice (some ⟨g, off, none⟩) 2 cap]
    have HS := Lib.hid (show ∀ w', Below w.heap.size w w' → (w'.cell? ⟨g, off, none⟩ = some a0 ∧ w'.cell? ⟨g, off + 1, none⟩ = some a1 ∧ w'.cell? ⟨g, off + 2, none⟩ = some a2 ∧ w'.cell? ⟨g, off + 3, none⟩ = some a3 ∧ w'.cell? ⟨g, off + 4, none⟩ = some b0 ∧ w'.cell? ⟨g, off + 5, none⟩ = some b1 ∧ w'.cell? ⟨g, off + 6, none⟩ = some b2 ∧ w'.cell? ⟨g, off + 7, none⟩ = some b3) from fun w' hb => by
      have hq : ∀ (o : Nat) (u : Value), w.cell? ⟨g, o, none⟩ = some u → w'.cell? ⟨g, o, none⟩ = some u := fun o u hu => (hb.cell (p := ⟨g, o, none⟩) (World.block_lt_of_cell? w _ hu)).trans hu
      exact ⟨hq _ _ k0, hq _ _ k1, hq _ _ k2, hq _ _ k3, hq _ _ k4, hq _ _ k5, hq _ _ k6, hq _ _ k7⟩)
    have HX := Lib.hid (fun w' (hb : Below w.heap.size w w') => IH x w' _ (by omega) (h.below hb) (hlx.low hb) hwx)
    have HY := Lib.hid (fun w' (hb : Below w.heap.size w w') => IH y w' _ (by omega) (h.below hb) (hly.low hb) hwy)
    have hbx := P.ev_bd (rs := rs) (vs := vs) ⟨h.n2, h.n4⟩ m x
    have hby := P.ev_bd (rs := rs) (vs := vs) ⟨h.n2, h.n4⟩ m y
    have HBX := Lib.hid hbx
    have HBY := Lib.hid hby
    clear hx hy k0 k1 k2 k3 k4 k5 k6 k7 hlx hly hs hwx hwy hks IH h hbx hby hd
    go_enter Try.func32, Try.ntmps32
    go_upto_region 11 with (fail)
    generalize hW : (w.alloc (.cells #[.int .i64 4, .int .i64 k, .string S, .slice (some ⟨g, off, none⟩) 2 cap] 47)) = W at *
    have hz := hB.lt
    clear hW
    have HBL := Lib.hid hb2
    have HK := Lib.hid (show ∀ w', Below W.heap.size W w' → (w'.cell? ⟨w.heap.size, 0, none⟩ = some (.int .i64 4) ∧ w'.cell? ⟨w.heap.size, 1, none⟩ = some (.int .i64 k) ∧ w'.cell? ⟨w.heap.size, 2, none⟩ = some (.string S) ∧ w'.cell? ⟨w.heap.size, 3, none⟩ = some (.slice (some ⟨g, off, none⟩) 2 cap) ∧ w'.cell? ⟨g, off, none⟩ = some a0 ∧ w'.cell? ⟨g, off + 1, none⟩ = some a1 ∧ w'.cell? ⟨g, off + 2, none⟩ = some a2 ∧ w'.cell? ⟨g, off + 3, none⟩ = some a3 ∧ w'.cell? ⟨g, off + 4, none⟩ = some b0 ∧ w'.cell? ⟨g, off + 5, none⟩ = some b1 ∧ w'.cell? ⟨g, off + 6, none⟩ = some b2 ∧ w'.cell? ⟨g, off + 7, none⟩ = some b3) from fun w' hb => by
      have hB' := hB.below hb hz
      exact ⟨hB'.cell 0, hB'.cell 1, hB'.cell 2, hB'.cell 3, HS.out w' (HBL.out.trans (hb.mono HBL.out.size))⟩)
    have HX1 := Lib.hid (fun w' (hb : Below W.heap.size W w') => (HX.out w' (HBL.out.trans (hb.mono HBL.out.size))).mono fun e w'' (hh : EvTo (ev rs vs n m x) w' e w'') => (show e = .returned (evR (ev rs vs n m x)) ∧ Below W.heap.size W w'' from ⟨hh.1, hb.trans (hh.2.mono hb.size)⟩))
    have HY1 := Lib.hid (fun w' (hb : Below W.heap.size W w') => (HY.out w' (HBL.out.trans (hb.mono HBL.out.size))).mono fun e w'' (hh : EvTo (ev rs vs n m y) w' e w'') => (show e = .returned (evR (ev rs vs n m y)) ∧ Below W.heap.size W w'' from ⟨hh.1, hb.trans (hh.2.mono hb.size)⟩))
    clear HX HY HS hB hb2
    obtain ⟨p0, p1, p2, p3, p4, p5, p6, p7, p8, p9, p10, p11⟩ := HK.out W (Below.refl _ _)
    cases hex : ev rs vs n m x with
    | none =>
      rw [hex, evR_none] at HX1
      have HE := Lib.hid (show R = none by rw [← HR.out]; unfold P.ev2; rw [hex])
      clear hex
      cases hey : ev rs vs n m y with
      | none =>
        rw [hey, evR_none] at HY1
        clear hey
        go_wp2_with fail
        with_reducible refine (HX1.out W (Below.refl _ _)).mono ?_
        rintro e w7 ⟨rfl, hb7⟩
        clear p0 p1 p2 p3 p4 p5 p6 p7 p8 p9 p10 p11
        obtain ⟨q0, q1, q2, q3, q4, q5, q6, q7, q8, q9, q10, q11⟩ := HK.out w7 hb7
        go_wp2_with fail
        with_reducible refine (HY1.out w7 hb7).mono ?_
        rintro e w8 ⟨rfl, hb8⟩
        obtain ⟨s0, s1, s2, s3, s4, s5, s6, s7, s8, s9, s10, s11⟩ := HK.out w8 hb8
        clear q0 q1 q2 q3 q4 q5 q6 q7 q8 q9 q10 q11
        go_wp2_with fail
        go_ret2
        rw [HE.out]
        exact ⟨rfl, HBL.out.trans (hb8.mono HBL.out.size)⟩
      | some yv =>
        rw [hey, evR_some] at HY1
        clear hey
        go_wp2_with fail
        with_reducible refine (HX1.out W (Below.refl _ _)).mono ?_
        rintro e w7 ⟨rfl, hb7⟩
        clear p0 p1 p2 p3 p4 p5 p6 p7 p8 p9 p10 p11
        obtain ⟨q0, q1, q2, q3, q4, q5, q6, q7, q8, q9, q10, q11⟩ := HK.out w7 hb7
        go_wp2_with fail
        with_reducible refine (HY1.out w7 hb7).mono ?_
        rintro e w8 ⟨rfl, hb8⟩
        obtain ⟨s0, s1, s2, s3, s4, s5, s6, s7, s8, s9, s10, s11⟩ := HK.out w8 hb8
        clear q0 q1 q2 q3 q4 q5 q6 q7 q8 q9 q10 q11
        go_wp2_with fail
        go_ret2
        rw [HE.out]
        exact ⟨rfl, HBL.out.trans (hb8.mono HBL.out.size)⟩
    | some xv =>
      have hxb := HBX.out xv hex
      rw [hex, evR_some] at HX1
      cases hey : ev rs vs n m y with
      | none =>
        rw [hey, evR_none] at HY1
        have HE := Lib.hid (show R = none by rw [← HR.out]; unfold P.ev2; rw [hex, hey])
        clear hey hex
        go_wp2_with fail
        with_reducible refine (HX1.out W (Below.refl _ _)).mono ?_
        rintro e w7 ⟨rfl, hb7⟩
        clear p0 p1 p2 p3 p4 p5 p6 p7 p8 p9 p10 p11
        obtain ⟨q0, q1, q2, q3, q4, q5, q6, q7, q8, q9, q10, q11⟩ := HK.out w7 hb7
        go_wp2_with fail
        with_reducible refine (HY1.out w7 hb7).mono ?_
        rintro e w8 ⟨rfl, hb8⟩
        obtain ⟨s0, s1, s2, s3, s4, s5, s6, s7, s8, s9, s10, s11⟩ := HK.out w8 hb8
        clear q0 q1 q2 q3 q4 q5 q6 q7 q8 q9 q10 q11
        go_wp2_with fail
        go_ret2
        rw [HE.out]
        exact ⟨rfl, HBL.out.trans (hb8.mono HBL.out.size)⟩
      | some yv =>
        have hyb := HBY.out yv hey
        rw [hey, evR_some] at HY1
        have HE := Lib.hid (show R = some (jn 4 xv yv n) by rw [← HR.out]; unfold P.ev2; rw [hex, hey])
        clear hey hex
        go_wp2_with fail
        with_reducible refine (HX1.out W (Below.refl _ _)).mono ?_
        rintro e w7 ⟨rfl, hb7⟩
        clear p0 p1 p2 p3 p4 p5 p6 p7 p8 p9 p10 p11
        obtain ⟨q0, q1, q2, q3, q4, q5, q6, q7, q8, q9, q10, q11⟩ := HK.out w7 hb7
        go_wp2_with fail
        with_reducible refine (HY1.out w7 hb7).mono ?_
        rintro e w8 ⟨rfl, hb8⟩
        obtain ⟨s0, s1, s2, s3, s4, s5, s6, s7, s8, s9, s10, s11⟩ := HK.out w8 hb8
        clear q0 q1 q2 q3 q4 q5 q6 q7 q8 q9 q10 q11
        have hS64 : Wr.I64 (xv - yv) := Wr.I64.mk (by omega) (by omega)
        go_wp2_with fail
        with_reducible refine (Wr.rin_any _ _ _ hS64).mono ?_
        rintro e w9 ⟨rfl, rfl⟩
        go_wp2_with fail
        go_ret2
        rw [HE.out]
        exact ⟨rfl, HBL.out.trans (hb8.mono HBL.out.size)⟩
  · rw [P.ev_kids (by omega) _ _ _ _ _ _ _ hk2]
    have e1 : ((ks.length : Int) != 2) = true := by simp; omega
    have e2 : ((ks.length : Int) == 2) = false := by simp; omega
    have e3 : (ks.length == 2) = false := by simpa using hk2
    clear hk2 hc IH h hd
    generalize bs s = S at *
    go_enter Try.func32, Try.ntmps32
    go_wp2_with fail
    go_ret2
    exact ⟨rfl, one_below _ _⟩

set_option maxHeartbeats 12800000 in
theorem rval_5 (m : Nat) {ar av : Option Addr} {cr cv : Nat} {rs : List (List UInt8)} {vs : List Int} {n : Int} (IH : ∀ (e : EX) (w : World) (v : Value), askD e ≤ m → EvIn w ar av cr cv rs vs n → LX (fun _ => True) w v e → wfX e → Calls Try.prog 32 #[v, .slice ar rs.length cr, .slice av vs.length cv, .int .i64 n] w (EvTo (ev rs vs n m e) w))
    (w : World) (h : EvIn w ar av cr cv rs vs n) (k : Int) (s : List UInt8) (ks : List EX) (hks : wfXs ks) (hd : askD (.mk 5 k s ks) ≤ m + 1) (v : Value) (hv : LX (fun _ => True) w v (.mk 5 k s ks)) :
    Calls Try.prog 32 #[v, .slice ar rs.length cr, .slice av vs.length cv, .int .i64 n] w (EvTo (ev rs vs n (m + 1) (.mk 5 k s ks)) w) := by
  unfold LX at hv
  obtain ⟨a, cap, rfl, hmax, hc⟩ := hv
  unfold maxLen at hmax
  have hn2 := h.n2
  have hn4 := h.n4
  by_cases hk2 : ks.length = 2
  · rcases ks with _ | ⟨x, _ | ⟨y, _ | ⟨z, r⟩⟩⟩ <;> simp at hk2
    clear hk2
    rw [P.ask_two (by omega)] at hd
    rw [P.ev_two (by omega)]
    generalize hR : ev2 rs vs n m 5 x y = R
    have HR := Lib.hid hR
    clear hR
    rcases hc with hc | ⟨g, off, rfl, _, hs⟩
    · cases hc
    obtain ⟨x', a0, a1, a2, a3, hx, k0, k1, k2, k3, hlx⟩ := LXs.at _ hs 0 (by simp)
    obtain ⟨y', b0, b1, b2, b3, hy, k4, k5, k6, k7, hly⟩ := LXs.at _ hs 1 (by simp)
    obtain rfl : x = x' := by simpa using hx
    obtain rfl : y = y' := by simpa using hy
    have hwx : wfX x := wfXs_mem hks x (.head _)
    have hwy : wfX y := wfXs_mem hks y (.tail _ (.head _))
    rw [show off + 0 * 4 = off by omega] at k0 k1 k2 k3
    rw [show off + 1 * 4 = off + 4 by omega] at k4 k5 k6 k7
    generalize bs s = S at *
    have hb2 := one_below w (.cells #[.int .i64 5, .int .i64 k, .string S, .slice (some ⟨g, off, none⟩) 2 cap] 47)
    have hB := Blk.new w 47 #[.int .i64 5, .int .i64 k, .string S, .slice (some ⟨g, off, none⟩) 2 cap]
    have HS := Lib.hid (show ∀ w', Below w.heap.size w w' → (w'.cell? ⟨g, off, none⟩ = some a0 ∧ w'.cell? ⟨g, off + 1, none⟩ = some a1 ∧ w'.cell? ⟨g, off + 2, none⟩ = some a2 ∧ w'.cell? ⟨g, off + 3, none⟩ = some a3 ∧ w'.cell? ⟨g, off + 4, none⟩ = some b0 ∧ w'.cell? ⟨g, off + 5, none⟩ = some b1 ∧ w'.cell? ⟨g, off + 6, none⟩ = some b2 ∧ w'.cell? ⟨g, off + 7, none⟩ = some b3) from fun w' hb => by
      have hq : ∀ (o : Nat) (u : Value), w.cell? ⟨g, o, none⟩ = some u → w'.cell? ⟨g, o, none⟩ = some u := fun o u hu => (hb.cell (p := ⟨g, o, none⟩) (World.block_lt_of_cell? w _ hu)).trans hu
      exact ⟨hq _ _ k0, hq _ _ k1, hq _ _ k2, hq _ _ k3, hq _ _ k4, hq _ _ k5, hq _ _ k6, hq _ _ k7⟩)
    have HX := Lib.hid (fun w' (hb : Below w.heap.size w w') => IH x w' _ (by omega) (h.below hb) (hlx.low hb) hwx)
    have HY := Lib.hid (fun w' (hb : Below w.heap.size w w') => IH y w' _ (by omega) (h.below hb) (hly.low hb) hwy)
    have hbx := P.ev_bd (rs := rs) (vs := vs) ⟨h.n2, h.n4⟩ m x
    have hby := P.ev_bd (rs := rs) (vs := vs) ⟨h.n2, h.n4⟩ m y
    have HBX := Lib.hid hbx
    have HBY := Lib.hid hby
    clear hx hy k0 k1 k2 k3 k4 k5 k6 k7 hlx hly hs hwx hwy hks IH h hbx hby hd
    go_enter Try.func32, Try.ntmps32
    go_upto_region 11 with (fail)
    generalize hW : (w.alloc (.cells #[.int .i64 5, .int .i64 k, .string S, .slice (some ⟨g, off, none⟩) 2 cap] 47)) = W at *
    have hz := hB.lt
    clear hW
    have HBL := Lib.hid hb2
    have HK := Lib.hid (show ∀ w', Below W.heap.size W w' → (w'.cell? ⟨w.heap.size, 0, none⟩ = some (.int .i64 5) ∧ w'.cell? ⟨w.heap.size, 1, none⟩ = some (.int .i64 k) ∧ w'.cell? ⟨w.heap.size, 2, none⟩ = some (.string S) ∧ w'.cell? ⟨w.heap.size, 3, none⟩ = some (.slice (some ⟨g, off, none⟩) 2 cap) ∧ w'.cell? ⟨g, off, none⟩ = some a0 ∧ w'.cell? ⟨g, off + 1, none⟩ = some a1 ∧ w'.cell? ⟨g, off + 2, none⟩ = some a2 ∧ w'.cell? ⟨g, off + 3, none⟩ = some a3 ∧ w'.cell? ⟨g, off + 4, none⟩ = some b0 ∧ w'.cell? ⟨g, off + 5, none⟩ = some b1 ∧ w'.cell? ⟨g, off + 6, none⟩ = some b2 ∧ w'.cell? ⟨g, off + 7, none⟩ = some b3) from fun w' hb => by
      have hB' := hB.below hb hz
      exact ⟨hB'.cell 0, hB'.cell 1, hB'.cell 2, hB'.cell 3, HS.out w' (HBL.out.trans (hb.mono HBL.out.size))⟩)
    have HX1 := Lib.hid (fun w' (hb : Below W.heap.size W w') => (HX.out w' (HBL.out.trans (hb.mono HBL.out.size))).mono fun e w'' (hh : EvTo (ev rs vs n m x) w' e w'') => (show e = .returned (evR (ev rs vs n m x)) ∧ Below W.heap.size W w'' from ⟨hh.1, hb.trans (hh.2.mono hb.size)⟩))
    have HY1 := Lib.hid (fun w' (hb : Below W.heap.size W w') => (HY.out w' (HBL.out.trans (hb.mono HBL.out.size))).mono fun e w'' (hh : EvTo (ev rs vs n m y) w' e w'') => (show e = .returned (evR (ev rs vs n m y)) ∧ Below W.heap.size W w'' from ⟨hh.1, hb.trans (hh.2.mono hb.size)⟩))
    clear HX HY HS hB hb2
    obtain ⟨p0, p1, p2, p3, p4, p5, p6, p7, p8, p9, p10, p11⟩ := HK.out W (Below.refl _ _)
    cases hex : ev rs vs n m x with
    | none =>
      rw [hex, evR_none] at HX1
      have HE := Lib.hid (show R = none by rw [← HR.out]; unfold P.ev2; rw [hex])
      clear hex
      cases hey : ev rs vs n m y with
      | none =>
        rw [hey, evR_none] at HY1
        clear hey
        go_wp2_with fail
        with_reducible refine (HX1.out W (Below.refl _ _)).mono ?_
        rintro e w7 ⟨rfl, hb7⟩
        clear p0 p1 p2 p3 p4 p5 p6 p7 p8 p9 p10 p11
        obtain ⟨q0, q1, q2, q3, q4, q5, q6, q7, q8, q9, q10, q11⟩ := HK.out w7 hb7
        go_wp2_with fail
        with_reducible refine (HY1.out w7 hb7).mono ?_
        rintro e w8 ⟨rfl, hb8⟩
        obtain ⟨s0, s1, s2, s3, s4, s5, s6, s7, s8, s9, s10, s11⟩ := HK.out w8 hb8
        clear q0 q1 q2 q3 q4 q5 q6 q7 q8 q9 q10 q11
        go_wp2_with fail
        go_ret2
        rw [HE.out]
        exact ⟨rfl, HBL.out.trans (hb8.mono HBL.out.size)⟩
      | some yv =>
        rw [hey, evR_some] at HY1
        clear hey
        go_wp2_with fail
        with_reducible refine (HX1.out W (Below.refl _ _)).mono ?_
        rintro e w7 ⟨rfl, hb7⟩
        clear p0 p1 p2 p3 p4 p5 p6 p7 p8 p9 p10 p11
        obtain ⟨q0, q1, q2, q3, q4, q5, q6, q7, q8, q9, q10, q11⟩ := HK.out w7 hb7
        go_wp2_with fail
        with_reducible refine (HY1.out w7 hb7).mono ?_
        rintro e w8 ⟨rfl, hb8⟩
        obtain ⟨s0, s1, s2, s3, s4, s5, s6, s7, s8, s9, s10, s11⟩ := HK.out w8 hb8
        clear q0 q1 q2 q3 q4 q5 q6 q7 q8 q9 q10 q11
        go_wp2_with fail
        go_ret2
        rw [HE.out]
        exact ⟨rfl, HBL.out.trans (hb8.mono HBL.out.size)⟩
    | some xv =>
      have hxb := HBX.out xv hex
      rw [hex, evR_some] at HX1
      cases hey : ev rs vs n m y with
      | none =>
        rw [hey, evR_none] at HY1
        have HE := Lib.hid (show R = none by rw [← HR.out]; unfold P.ev2; rw [hex, hey])
        clear hey hex
        go_wp2_with fail
        with_reducible refine (HX1.out W (Below.refl _ _)).mono ?_
        rintro e w7 ⟨rfl, hb7⟩
        clear p0 p1 p2 p3 p4 p5 p6 p7 p8 p9 p10 p11
        obtain ⟨q0, q1, q2, q3, q4, q5, q6, q7, q8, q9, q10, q11⟩ := HK.out w7 hb7
        go_wp2_with fail
        with_reducible refine (HY1.out w7 hb7).mono ?_
        rintro e w8 ⟨rfl, hb8⟩
        obtain ⟨s0, s1, s2, s3, s4, s5, s6, s7, s8, s9, s10, s11⟩ := HK.out w8 hb8
        clear q0 q1 q2 q3 q4 q5 q6 q7 q8 q9 q10 q11
        go_wp2_with fail
        go_ret2
        rw [HE.out]
        exact ⟨rfl, HBL.out.trans (hb8.mono HBL.out.size)⟩
      | some yv =>
        have hyb := HBY.out yv hey
        rw [hey, evR_some] at HY1
        have HE := Lib.hid (show R = some (jn 5 xv yv n) by rw [← HR.out]; unfold P.ev2; rw [hex, hey])
        clear hey hex
        go_wp2_with fail
        with_reducible refine (HX1.out W (Below.refl _ _)).mono ?_
        rintro e w7 ⟨rfl, hb7⟩
        clear p0 p1 p2 p3 p4 p5 p6 p7 p8 p9 p10 p11
        obtain ⟨q0, q1, q2, q3, q4, q5, q6, q7, q8, q9, q10, q11⟩ := HK.out w7 hb7
        go_wp2_with fail
        with_reducible refine (HY1.out w7 hb7).mono ?_
        rintro e w8 ⟨rfl, hb8⟩
        obtain ⟨s0, s1, s2, s3, s4, s5, s6, s7, s8, s9, s10, s11⟩ := HK.out w8 hb8
        clear q0 q1 q2 q3 q4 q5 q6 q7 q8 q9 q10 q11
        by_cases hxy : xv = yv
        · have HJ := Lib.hid (show jn 5 xv yv n = 1 by rw [jn_5, if_pos hxy])
          have e1 : (xv == yv) = true := by simpa using hxy
          clear hxy
          go_wp2_with fail
          go_ret2
          rw [HE.out, HJ.out]
          exact ⟨rfl, HBL.out.trans (hb8.mono HBL.out.size)⟩
        · have HJ := Lib.hid (show jn 5 xv yv n = 0 by rw [jn_5, if_neg hxy])
          have e1 : (xv == yv) = false := by simpa using hxy
          clear hxy
          go_wp2_with fail
          go_ret2
          rw [HE.out, HJ.out]
          exact ⟨rfl, HBL.out.trans (hb8.mono HBL.out.size)⟩
  · rw [P.ev_kids (by omega) _ _ _ _ _ _ _ hk2]
    have e1 : ((ks.length : Int) != 2) = true := by simp; omega
    have e2 : ((ks.length : Int) == 2) = false := by simp; omega
    have e3 : (ks.length == 2) = false := by simpa using hk2
    clear hk2 hc IH h hd
    generalize bs s = S at *
    go_enter Try.func32, Try.ntmps32
    go_wp2_with fail
    go_ret2
    exact ⟨rfl, one_below _ _⟩

set_option maxHeartbeats 12800000 in
theorem rval_6 (m : Nat) {ar av : Option Addr} {cr cv : Nat} {rs : List (List UInt8)} {vs : List Int} {n : Int} (IH : ∀ (e : EX) (w : World) (v : Value), askD e ≤ m → EvIn w ar av cr cv rs vs n → LX (fun _ => True) w v e → wfX e → Calls Try.prog 32 #[v, .slice ar rs.length cr, .slice av vs.length cv, .int .i64 n] w (EvTo (ev rs vs n m e) w))
    (w : World) (h : EvIn w ar av cr cv rs vs n) (k : Int) (s : List UInt8) (ks : List EX) (hks : wfXs ks) (hd : askD (.mk 6 k s ks) ≤ m + 1) (v : Value) (hv : LX (fun _ => True) w v (.mk 6 k s ks)) :
    Calls Try.prog 32 #[v, .slice ar rs.length cr, .slice av vs.length cv, .int .i64 n] w (EvTo (ev rs vs n (m + 1) (.mk 6 k s ks)) w) := by
  unfold LX at hv
  obtain ⟨a, cap, rfl, hmax, hc⟩ := hv
  unfold maxLen at hmax
  have hn2 := h.n2
  have hn4 := h.n4
  by_cases hk2 : ks.length = 2
  · rcases ks with _ | ⟨x, _ | ⟨y, _ | ⟨z, r⟩⟩⟩ <;> simp at hk2
    clear hk2
    rw [P.ask_two (by omega)] at hd
    rw [P.ev_two (by omega)]
    generalize hR : ev2 rs vs n m 6 x y = R
    have HR := Lib.hid hR
    clear hR
    rcases hc with hc | ⟨g, off, rfl, _, hs⟩
    · cases hc
    obtain ⟨x', a0, a1, a2, a3, hx, k0, k1, k2, k3, hlx⟩ := LXs.at _ hs 0 (by simp)
    obtain ⟨y', b0, b1, b2, b3, hy, k4, k5, k6, k7, hly⟩ := LXs.at _ hs 1 (by simp)
    obtain rfl : x = x' := by simpa using hx
    obtain rfl : y = y' := by simpa using hy
    have hwx : wfX x := wfXs_mem hks x (.head _)
    have hwy : wfX y := wfXs_mem hks y (.tail _ (.head _))
    rw [show off + 0 * 4 = off by omega] at k0 k1 k2 k3
    rw [show off + 1 * 4 = off + 4 by omega] at k4 k5 k6 k7
    generalize bs s = S at *
    have hb2 := one_below w (.cells #[.int .i64 6, .int .i64 k, .string S, .slice (some ⟨g, off, none⟩) 2 cap] 47)
    have hB := Blk.new w 47 #[.int .i64 6, .int .i64 k, .string S, .slice (some ⟨g, off, none⟩) 2 cap]
    have HS := Lib.hid (show ∀ w', Below w.heap.size w w' → (w'.cell? ⟨g, off, none⟩ = some a0 ∧ w'.cell? ⟨g, off + 1, none⟩ = some a1 ∧ w'.cell? ⟨g, off + 2, none⟩ = some a2 ∧ w'.cell? ⟨g, off + 3, none⟩ = some a3 ∧ w'.cell? ⟨g, off + 4, none⟩ = some b0 ∧ w'.cell? ⟨g, off + 5, none⟩ = some b1 ∧ w'.cell? ⟨g, off + 6, none⟩ = some b2 ∧ w'.cell? ⟨g, off + 7, none⟩ = some b3) from fun w' hb => by
      have hq : ∀ (o : Nat) (u : Value), w.cell? ⟨g, o, none⟩ = some u → w'.cell? ⟨g, o, none⟩ = some u := fun o u hu => (hb.cell (p := ⟨g, o, none⟩) (World.block_lt_of_cell? w _ hu)).trans hu
      exact ⟨hq _ _ k0, hq _ _ k1, hq _ _ k2, hq _ _ k3, hq _ _ k4, hq _ _ k5, hq _ _ k6, hq _ _ k7⟩)
    have HX := Lib.hid (fun w' (hb : Below w.heap.size w w') => IH x w' _ (by omega) (h.below hb) (hlx.low hb) hwx)
    have HY := Lib.hid (fun w' (hb : Below w.heap.size w w') => IH y w' _ (by omega) (h.below hb) (hly.low hb) hwy)
    have hbx := P.ev_bd (rs := rs) (vs := vs) ⟨h.n2, h.n4⟩ m x
    have hby := P.ev_bd (rs := rs) (vs := vs) ⟨h.n2, h.n4⟩ m y
    have HBX := Lib.hid hbx
    have HBY := Lib.hid hby
    clear hx hy k0 k1 k2 k3 k4 k5 k6 k7 hlx hly hs hwx hwy hks IH h hbx hby hd
    go_enter Try.func32, Try.ntmps32
    go_upto_region 11 with (fail)
    generalize hW : (w.alloc (.cells #[.int .i64 6, .int .i64 k, .string S, .slice (some ⟨g, off, none⟩) 2 cap] 47)) = W at *
    have hz := hB.lt
    clear hW
    have HBL := Lib.hid hb2
    have HK := Lib.hid (show ∀ w', Below W.heap.size W w' → (w'.cell? ⟨w.heap.size, 0, none⟩ = some (.int .i64 6) ∧ w'.cell? ⟨w.heap.size, 1, none⟩ = some (.int .i64 k) ∧ w'.cell? ⟨w.heap.size, 2, none⟩ = some (.string S) ∧ w'.cell? ⟨w.heap.size, 3, none⟩ = some (.slice (some ⟨g, off, none⟩) 2 cap) ∧ w'.cell? ⟨g, off, none⟩ = some a0 ∧ w'.cell? ⟨g, off + 1, none⟩ = some a1 ∧ w'.cell? ⟨g, off + 2, none⟩ = some a2 ∧ w'.cell? ⟨g, off + 3, none⟩ = some a3 ∧ w'.cell? ⟨g, off + 4, none⟩ = some b0 ∧ w'.cell? ⟨g, off + 5, none⟩ = some b1 ∧ w'.cell? ⟨g, off + 6, none⟩ = some b2 ∧ w'.cell? ⟨g, off + 7, none⟩ = some b3) from fun w' hb => by
      have hB' := hB.below hb hz
      exact ⟨hB'.cell 0, hB'.cell 1, hB'.cell 2, hB'.cell 3, HS.out w' (HBL.out.trans (hb.mono HBL.out.size))⟩)
    have HX1 := Lib.hid (fun w' (hb : Below W.heap.size W w') => (HX.out w' (HBL.out.trans (hb.mono HBL.out.size))).mono fun e w'' (hh : EvTo (ev rs vs n m x) w' e w'') => (show e = .returned (evR (ev rs vs n m x)) ∧ Below W.heap.size W w'' from ⟨hh.1, hb.trans (hh.2.mono hb.size)⟩))
    have HY1 := Lib.hid (fun w' (hb : Below W.heap.size W w') => (HY.out w' (HBL.out.trans (hb.mono HBL.out.size))).mono fun e w'' (hh : EvTo (ev rs vs n m y) w' e w'') => (show e = .returned (evR (ev rs vs n m y)) ∧ Below W.heap.size W w'' from ⟨hh.1, hb.trans (hh.2.mono hb.size)⟩))
    clear HX HY HS hB hb2
    obtain ⟨p0, p1, p2, p3, p4, p5, p6, p7, p8, p9, p10, p11⟩ := HK.out W (Below.refl _ _)
    cases hex : ev rs vs n m x with
    | none =>
      rw [hex, evR_none] at HX1
      have HE := Lib.hid (show R = none by rw [← HR.out]; unfold P.ev2; rw [hex])
      clear hex
      cases hey : ev rs vs n m y with
      | none =>
        rw [hey, evR_none] at HY1
        clear hey
        go_wp2_with fail
        with_reducible refine (HX1.out W (Below.refl _ _)).mono ?_
        rintro e w7 ⟨rfl, hb7⟩
        clear p0 p1 p2 p3 p4 p5 p6 p7 p8 p9 p10 p11
        obtain ⟨q0, q1, q2, q3, q4, q5, q6, q7, q8, q9, q10, q11⟩ := HK.out w7 hb7
        go_wp2_with fail
        with_reducible refine (HY1.out w7 hb7).mono ?_
        rintro e w8 ⟨rfl, hb8⟩
        obtain ⟨s0, s1, s2, s3, s4, s5, s6, s7, s8, s9, s10, s11⟩ := HK.out w8 hb8
        clear q0 q1 q2 q3 q4 q5 q6 q7 q8 q9 q10 q11
        go_wp2_with fail
        go_ret2
        rw [HE.out]
        exact ⟨rfl, HBL.out.trans (hb8.mono HBL.out.size)⟩
      | some yv =>
        rw [hey, evR_some] at HY1
        clear hey
        go_wp2_with fail
        with_reducible refine (HX1.out W (Below.refl _ _)).mono ?_
        rintro e w7 ⟨rfl, hb7⟩
        clear p0 p1 p2 p3 p4 p5 p6 p7 p8 p9 p10 p11
        obtain ⟨q0, q1, q2, q3, q4, q5, q6, q7, q8, q9, q10, q11⟩ := HK.out w7 hb7
        go_wp2_with fail
        with_reducible refine (HY1.out w7 hb7).mono ?_
        rintro e w8 ⟨rfl, hb8⟩
        obtain ⟨s0, s1, s2, s3, s4, s5, s6, s7, s8, s9, s10, s11⟩ := HK.out w8 hb8
        clear q0 q1 q2 q3 q4 q5 q6 q7 q8 q9 q10 q11
        go_wp2_with fail
        go_ret2
        rw [HE.out]
        exact ⟨rfl, HBL.out.trans (hb8.mono HBL.out.size)⟩
    | some xv =>
      have hxb := HBX.out xv hex
      rw [hex, evR_some] at HX1
      cases hey : ev rs vs n m y with
      | none =>
        rw [hey, evR_none] at HY1
        have HE := Lib.hid (show R = none by rw [← HR.out]; unfold P.ev2; rw [hex, hey])
        clear hey hex
        go_wp2_with fail
        with_reducible refine (HX1.out W (Below.refl _ _)).mono ?_
        rintro e w7 ⟨rfl, hb7⟩
        clear p0 p1 p2 p3 p4 p5 p6 p7 p8 p9 p10 p11
        obtain ⟨q0, q1, q2, q3, q4, q5, q6, q7, q8, q9, q10, q11⟩ := HK.out w7 hb7
        go_wp2_with fail
        with_reducible refine (HY1.out w7 hb7).mono ?_
        rintro e w8 ⟨rfl, hb8⟩
        obtain ⟨s0, s1, s2, s3, s4, s5, s6, s7, s8, s9, s10, s11⟩ := HK.out w8 hb8
        clear q0 q1 q2 q3 q4 q5 q6 q7 q8 q9 q10 q11
        go_wp2_with fail
        go_ret2
        rw [HE.out]
        exact ⟨rfl, HBL.out.trans (hb8.mono HBL.out.size)⟩
      | some yv =>
        have hyb := HBY.out yv hey
        rw [hey, evR_some] at HY1
        have HE := Lib.hid (show R = some (jn 6 xv yv n) by rw [← HR.out]; unfold P.ev2; rw [hex, hey])
        clear hey hex
        go_wp2_with fail
        with_reducible refine (HX1.out W (Below.refl _ _)).mono ?_
        rintro e w7 ⟨rfl, hb7⟩
        clear p0 p1 p2 p3 p4 p5 p6 p7 p8 p9 p10 p11
        obtain ⟨q0, q1, q2, q3, q4, q5, q6, q7, q8, q9, q10, q11⟩ := HK.out w7 hb7
        go_wp2_with fail
        with_reducible refine (HY1.out w7 hb7).mono ?_
        rintro e w8 ⟨rfl, hb8⟩
        obtain ⟨s0, s1, s2, s3, s4, s5, s6, s7, s8, s9, s10, s11⟩ := HK.out w8 hb8
        clear q0 q1 q2 q3 q4 q5 q6 q7 q8 q9 q10 q11
        by_cases hxy : xv < yv
        · have HJ := Lib.hid (show jn 6 xv yv n = 1 by rw [jn_6, if_pos hxy])
          have e1 : decide (xv < yv) = true := by simpa using hxy
          clear hxy
          go_wp2_with fail
          go_ret2
          rw [HE.out, HJ.out]
          exact ⟨rfl, HBL.out.trans (hb8.mono HBL.out.size)⟩
        · have HJ := Lib.hid (show jn 6 xv yv n = 0 by rw [jn_6, if_neg hxy])
          have e1 : decide (xv < yv) = false := by simpa using hxy
          clear hxy
          go_wp2_with fail
          go_ret2
          rw [HE.out, HJ.out]
          exact ⟨rfl, HBL.out.trans (hb8.mono HBL.out.size)⟩
  · rw [P.ev_kids (by omega) _ _ _ _ _ _ _ hk2]
    have e1 : ((ks.length : Int) != 2) = true := by simp; omega
    have e2 : ((ks.length : Int) == 2) = false := by simp; omega
    have e3 : (ks.length == 2) = false := by simpa using hk2
    clear hk2 hc IH h hd
    generalize bs s = S at *
    go_enter Try.func32, Try.ntmps32
    go_wp2_with fail
    go_ret2
    exact ⟨rfl, one_below _ _⟩

set_option maxHeartbeats 3200000 in
theorem rval_odd {op : Int} (h1 : op ≠ 1) (h2 : op ≠ 2) (ho : ¬ (3 ≤ op ∧ op ≤ 6)) (w : World) (ar av : Option Addr) (cr cv lr lv : Nat) (n k : Int) (s : List UInt8) (ks : List EX) (v : Value) (hv : LX (fun _ => True) w v (.mk op k s ks)) :
    Calls Try.prog 32 #[v, .slice ar lr cr, .slice av lv cv, .int .i64 n] w (EvTo none w) := by
  unfold LX at hv
  obtain ⟨a, cap, rfl, hmax, hc⟩ := hv
  clear hc hmax
  have e1 : (op == 1) = false := by simp; omega
  have e2 : (op == 2) = false := by simp; omega
  generalize bs s = S at *
  by_cases h3 : op < 3
  · clear h1 h2 ho
    go_enter Try.func32, Try.ntmps32
    go_wp2_with fail
    go_ret2
    exact ⟨rfl, one_below _ _⟩
  · have h6 : 6 < op := by omega
    clear h1 h2 ho
    go_enter Try.func32, Try.ntmps32
    go_wp2_with fail
    go_ret2
    exact ⟨rfl, one_below _ _⟩
theorem rval_any {ar av : Option Addr} {cr cv : Nat} {rs : List (List UInt8)} {vs : List Int} {n : Int} : ∀ (m : Nat) (e : EX) (w : World) (v : Value), askD e ≤ m → EvIn w ar av cr cv rs vs n → LX (fun _ => True) w v e → wfX e → Calls Try.prog 32 #[v, .slice ar rs.length cr, .slice av vs.length cv, .int .i64 n] w (EvTo (ev rs vs n m e) w)
  | 0, e, w, v, hd, _, _, _ => by
    have := P.ask_pos e
    omega
  | m + 1, .mk op k s ks, w, v, hd, h, hv, hw => by
    unfold wfX at hw
    obtain ⟨ho, hk, hs, hks⟩ := hw
    by_cases h1 : op = 1
    · subst h1
      exact rval_num h k s ks hk v hv
    by_cases h2 : op = 2
    · subst h2
      exact rval_reg h k s ks v hv
    by_cases h3 : op = 3
    · subst h3
      exact rval_3 m (rval_any m) w h k s ks hks hd v hv
    by_cases h4 : op = 4
    · subst h4
      exact rval_4 m (rval_any m) w h k s ks hks hd v hv
    by_cases h5 : op = 5
    · subst h5
      exact rval_5 m (rval_any m) w h k s ks hks hd v hv
    by_cases h6 : op = 6
    · subst h6
      exact rval_6 m (rval_any m) w h k s ks hks hd v hv
    rw [P.ev_odd h1 h2 (by omega)]
    exact rval_odd h1 h2 (by omega) w ar av cr cv rs.length vs.length n k s ks v hv

set_option maxHeartbeats 3200000 in
theorem rExpr_any {w : World} {ar av : Option Addr} {cr cv : Nat} {rs : List (List UInt8)} {vs : List Int} (h : RvIn w ar av cr cv rs vs) (n : Int) (e : EX) (v : Value) (hv : LX (fun _ => True) w v e) (hw : wfX e) (hd : askD e ≤ 1000) :
    Calls Try.prog 18 #[v, .slice ar rs.length cr, .slice av vs.length cv, .int .i64 n] w (EvTo (evA rs vs n e) w) := by
  obtain ⟨op, k, s, ks⟩ := e
  have hv0 := hv
  unfold LX at hv0
  obtain ⟨a, cap, rfl, _, _⟩ := hv0
  have hb := one_below w (.cells #[.int .i64 op, .int .i64 k, .string (bs s), .slice a ks.length cap] 47)
  have HB := Lib.hid hb
  by_cases h2 : n < 2
  · rw [evA_no _ (by omega)]
    clear h hv hw hb hd
    generalize bs s = S at *
    go_enter Try.func18, Try.ntmps18
    go_wp2_with fail
    go_ret2
    exact ⟨rfl, HB.out⟩
  by_cases h4 : 4 < n
  · rw [evA_no _ (by omega)]
    clear h hv hw hb hd
    generalize bs s = S at *
    go_enter Try.func18, Try.ntmps18
    go_wp2_with fail
    go_ret2
    exact ⟨rfl, HB.out⟩
  by_cases hl : vs.length = rs.length
  · rw [evA_yes _ ⟨by omega, by omega, hl⟩]
    obtain ⟨t1, t2, t3, t4⟩ := lens_eq hl
    have hAK := asked_any 1000 (.mk op k s ks) (Nat.le_refl _) hd _ _ (hv.low hb)
    have HAK := Lib.hid hAK
    by_cases hdeep : askD (.mk op k s ks) ≤ 6
    · have HA := Lib.hid (fun w' (hb' : Below w.heap.size w w') => rval_any 6 (.mk op k s ks) w' _ hdeep ((h.below hb').evIn hl (n := n) (by omega) (by omega)) (hv.low hb') hw)
      have hbx := Blk.new w 47 #[.int .i64 op, .int .i64 k, .string (bs s), .slice a ks.length cap]
      have HBX := Lib.hid hbx
      clear h hv hw hb hl hbx hAK hd
      generalize ev rs vs n 6 (.mk op k s ks) = R at *
      generalize askD (.mk op k s ks) = D at *
      generalize bs s = S at *
      have d1 : decide ((6 : Int) < (D : Int)) = false := decide_eq_false (by omega)
      have d2 : decide (6 < D) = false := decide_eq_false (by omega)
      go_enter Try.func18, Try.ntmps18
      go_wp2_with fail
      with_reducible refine HAK.out.mono ?_
      rintro e w2 ⟨rfl, hb2⟩
      obtain ⟨p0, p1, p2, p3, _, _, _, _⟩ := four_free (HBX.out.live' hb2)
      have hbw := HB.out.trans (hb2.mono HB.out.size)
      have HA2 := Lib.hid (HA.out w2 hbw)
      have HBW := Lib.hid hbw
      clear hbw hb2
      go_wp2_with fail
      with_reducible refine HA2.out.mono ?_
      rintro e w3 ⟨rfl, hb3⟩
      unfold evR
      go_wp2_with fail
      go_ret2
      exact ⟨rfl, HBW.out.trans (hb3.mono HBW.out.size)⟩
    · rw [P.ev_deep 6 _ (by omega)]
      clear h hv hw hb hl hAK hd
      generalize askD (.mk op k s ks) = D at *
      generalize bs s = S at *
      have d1 : decide ((6 : Int) < (D : Int)) = true := decide_eq_true (by omega)
      have d2 : decide (6 < D) = true := decide_eq_true (by omega)
      go_enter Try.func18, Try.ntmps18
      go_wp2_with fail
      with_reducible refine HAK.out.mono ?_
      rintro e w2 ⟨rfl, hb2⟩
      go_wp2_with fail
      go_ret2
      exact ⟨rfl, HB.out.trans (hb2.mono HB.out.size)⟩
  · rw [evA_no _ (fun hh => hl hh.2.2)]
    obtain ⟨t1, t2, t3, t4⟩ := lens_ne hl
    clear h hv hw hb hl hd
    generalize bs s = S at *
    go_enter Try.func18, Try.ntmps18
    go_wp2_with fail
    go_ret2
    exact ⟨rfl, HB.out⟩

end Go.Proofs.Ytlgnagmmljdkiab.Lx
