/-
  What has, mem, regIs, not, both, and, or, cond and Holds of post tell, as contracts.
-/
import Derived.Test.YtchokfgffnomoaaDoorPTMem
namespace Go.Proofs.YtchokfgffnomoaaDoor.Lx
open Go.RowKit
open P (CO plI hasP hd)
set_option maxRecDepth 100000
set_option linter.unusedVariables false
set_option linter.unusedSimpArgs false
theorem one_belowC (w : World) (o : Obj) : Below w.heap.size w (w.alloc o) := (Below.refl _ _).alloc (Nat.le_refl _) _
theorem five_freeC {w : World} {g : Nat} {t : TypeId} {a c d e f : Value} (h : Blk w g t #[a, c, d, e, f]) : w.cell? ⟨g, 0, none⟩ = some a ∧ w.cell? ⟨g, 1, none⟩ = some c ∧ w.cell? ⟨g, 2, none⟩ = some d ∧ w.cell? ⟨g, 3, none⟩ = some e ∧ w.cell? ⟨g, 4, none⟩ = some f := ⟨h.cell 0, h.cell 1, h.cell 2, h.cell 3, h.cell 4⟩
/-- What is asked is small. -/
structure Sml (locs : List (List UInt8)) (regs : List (List (List UInt8))) (rv : List (List Int)) (mv : List Int) : Prop where
  l : locs.length ≤ 1000
  g : regs.length ≤ 1000
  gs : ∀ i, (regs.getD i []).length ≤ 1000
  r : rv.length ≤ 1000
  rs : ∀ i, (rv.getD i []).length ≤ 1000
  m : mv.length ≤ 1000
/-- An outcome with the names of its places. -/
structure AkIn (w : World) (la ga ra ma : Option Addr) (lc mc : Nat) (locs : List (List UInt8)) (regs : List (List (List UInt8))) (rv : List (List Int)) (mv : List Int) : Prop where
  nam : NamIn w la ga locs regs lc
  out : OutIn w ra ma rv mv mc
  sml : Sml locs regs rv mv
theorem AkIn.low {w w' : World} {la ga ra ma : Option Addr} {lc mc : Nat} {locs : List (List UInt8)} {regs : List (List (List UInt8))} {rv : List (List Int)} {mv : List Int} (h : AkIn w la ga ra ma lc mc locs regs rv mv) (hb : Below w.heap.size w w') : AkIn w' la ga ra ma lc mc locs regs rv mv := ⟨h.nam.low hb, h.out.low hb, h.sml⟩
theorem LC.low {w w' : World} {v : Value} {e : CO} (h : LC (fun _ => True) w v e) (hb : Below w.heap.size w w') : LC (fun _ => True) w' v e := LC.keep (Keeps.below hb (Nat.le_refl _)) e h
set_option maxHeartbeats 3200000 in
theorem has_any (names : List (List UInt8)) (vals : List Int) (na va : Option Addr) (nc vc : Nat) (v : Value) (o t n : Int) (s : List UInt8) (ks : List CO) (w : World) (hn : Nms (fun _ => True) w (.slice na names.length nc) names) (hv : Ivs (fun _ => True) w (.slice va vals.length vc) vals) (hc : LC (fun _ => True) w v (.mk o t s n ks)) (hl : names.length ≤ 1000) (hl' : vals.length ≤ 1000) :
    Calls Tryd.prog 90 #[.slice na names.length nc, .slice va vals.length vc, v] w (HoTo (hasP names vals s n) w) := by
  unfold LC at hc
  obtain ⟨a, cap, rfl, _, _⟩ := hc
  have hbd := P.plI_bd s names
  have HB := Lib.hid (one_belowC w (.cells #[.int .i64 o, .int .i64 t, .string (bs s), .int .i64 n, .slice a ks.length cap] 26))
  have HQ := Lib.hid (Blk.new w 26 #[.int .i64 o, .int .i64 t, .string (bs s), .int .i64 n, .slice a ks.length cap])
  have HP := Lib.hid (sindex_any names s (fun _ => True) _ _ (hn.keep (Keeps.below HB.out (Nat.le_refl _))) (by omega))
  by_cases h1 : plI s names < 0
  · have hh : hasP names vals s n = none := by
      unfold P.hasP
      rw [if_pos (.inl h1)]
    rw [hh]
    have hk : plI s names = -1 := by omega
    rw [hk] at HP
    clear hk hh h1 hbd hn hv hl hl'
    generalize bs s = S at *
    go_enter Tryd.func90, Tryd.ntmps90
    go_wp2_with fail
    with_reducible refine HP.out.mono ?_
    rintro e w2 ⟨rfl, rfl⟩
    go_wp2_with fail
    go_ret2
    exact ⟨rfl, HB.out⟩
  obtain ⟨i, hi⟩ : ∃ i : Nat, plI s names = i := ⟨(plI s names).toNat, by omega⟩
  have d0 : decide ((i : Int) < 0) = false := by simp
  by_cases h2 : (vals.length : Int) ≤ plI s names
  · have hh : hasP names vals s n = none := by
      unfold P.hasP
      rw [if_pos (.inr h2)]
    rw [hh]
    rw [hi] at h2
    rw [hi] at HP
    have d1 : decide ((vals.length : Int) ≤ (i : Int)) = true := decide_eq_true h2
    have d2 : decide (vals.length ≤ i) = true := decide_eq_true (by omega)
    clear hi hh h1 h2 hbd hn hv hl hl'
    generalize bs s = S at *
    go_enter Tryd.func90, Tryd.ntmps90
    go_wp2_with fail
    with_reducible refine HP.out.mono ?_
    rintro e w2 ⟨rfl, rfl⟩
    go_wp2_with fail
    go_ret2
    exact ⟨rfl, HB.out⟩
  · have hh : hasP names vals s n = some (vals.getD i 0 == n) := by
      unfold P.hasP
      rw [if_neg (by omega), hi]
      rfl
    rw [hh]
    rw [hi] at h2
    rw [hi] at HP
    have d1 : decide ((vals.length : Int) ≤ (i : Int)) = false := decide_eq_false h2
    have d2 : decide (vals.length ≤ i) = false := decide_eq_false (by omega)
    have d3 : (0 : Int) ≤ (i : Int) := by omega
    have d4 : (i : Int) < (vals.length : Int) := by omega
    obtain ⟨g, off, rfl, hcell⟩ := ivs_at hv (i := i) (by omega)
    have hc1 := (HB.out.cell (p := ⟨g, off + i, none⟩) (World.block_lt_of_cell? w _ hcell)).trans hcell
    obtain ⟨q0, q1, q2, q3, q4⟩ := five_freeC HQ.out
    clear hi hh h1 h2 hbd hn hv hl hl' hcell
    generalize vals.getD i 0 = X at *
    generalize bs s = S at *
    go_enter Tryd.func90, Tryd.ntmps90
    go_wp2_with fail
    with_reducible refine HP.out.mono ?_
    rintro e w2 ⟨rfl, rfl⟩
    generalize hW : w.alloc (.cells #[.int .i64 o, .int .i64 t, .string S, .int .i64 n, .slice a ks.length cap] 26) = W at *
    clear hW HP HQ
    go_wp2_with fail
    go_quiet (fail)
    go_wp2_with fail
    go_ret2
    exact ⟨rfl, HB.out.trans ((bel_drewN _ _).mono HB.out.size)⟩
theorem two_newC (w : World) (A C : Array Value) (ta tc : TypeId) :
    Below w.heap.size w ((w.alloc (.cells A ta)).alloc (.cells C tc)) ∧ Blk ((w.alloc (.cells A ta)).alloc (.cells C tc)) w.heap.size ta A ∧ Blk ((w.alloc (.cells A ta)).alloc (.cells C tc)) (w.heap.size + 1) tc C := by
  have h2 := Blk.new (w.alloc (.cells A ta)) tc C
  rw [show (w.alloc (.cells A ta)).heap.size = w.heap.size + 1 by simp] at h2
  exact ⟨((Below.refl _ _).alloc (Nat.le_refl _) _).alloc (by simp) _, (Blk.new w ta A).alloc _, h2⟩

set_option maxHeartbeats 3200000 in
theorem mem_any {w : World} {la ga ra ma : Option Addr} {lc gc rc mc : Nat} {locs : List (List UInt8)} {regs : List (List (List UInt8))} {rv : List (List Int)} {mv : List Int} (h : AkIn w la ga ra ma lc mc locs regs rv mv) (z : Int) (v : Value) (t n : Int) (s : List UInt8) (ks : List CO) (hc : LC (fun _ => True) w v (.mk 1 t s n ks)) :
    Calls Tryd.prog 76 #[.agg #[.slice la locs.length lc, .slice ga regs.length gc, .slice ra rv.length rc, .slice ma mv.length mc, .int .i64 z], v] w (HoTo (if ks.length = 0 then hasP locs mv s n else none) w) := by
  have hc0 := hc
  unfold LC at hc0
  obtain ⟨a, cap, rfl, hmx, _⟩ := hc0
  unfold maxLen at hmx
  obtain ⟨hb2, hA, hC⟩ := two_newC w #[.slice la locs.length lc, .slice ga regs.length gc, .slice ra rv.length rc, .slice ma mv.length mc, .int .i64 z] #[.int .i64 1, .int .i64 t, .string (bs s), .int .i64 n, .slice a ks.length cap] 84 26
  have HB := Lib.hid hb2
  have HA := Lib.hid (has_any locs mv la ma lc mc _ 1 t n s ks _ (h.nam.low hb2).nlocs (h.out.low hb2).mem (hc.low hb2) (by have := h.sml.l; omega) (by have := h.sml.m; omega))
  by_cases hk : ks.length = 0
  · rw [if_pos hk]
    have d1 : decide ((0 : Int) < (ks.length : Int)) = false := decide_eq_false (by omega)
    have d2 : decide (0 < ks.length) = false := decide_eq_false (by omega)
    clear hc h hb2 hA hC hk
    generalize hasP locs mv s n = R at *
    generalize bs s = S at *
    cases R
    all_goals
      go_enter Tryd.func76, Tryd.ntmps76
      go_wp2_with fail
      with_reducible refine HA.out.mono ?_
      rintro e w2 ⟨rfl, hb⟩
      unfold holdR
      go_wp2_with fail
      go_ret2
      exact ⟨rfl, HB.out.trans (hb.mono HB.out.size)⟩
  · rw [if_neg hk]
    have d1 : decide ((0 : Int) < (ks.length : Int)) = true := decide_eq_true (by omega)
    have d2 : decide (0 < ks.length) = true := decide_eq_true (by omega)
    clear hc h hb2 hA hC hk HA
    generalize bs s = S at *
    go_enter Tryd.func76, Tryd.ntmps76
    go_wp2_with fail
    go_ret2
    exact ⟨rfl, HB.out⟩

set_option maxHeartbeats 6400000 in
theorem regIs_any {w : World} {la ga ra ma : Option Addr} {lc gc rc mc : Nat} {locs : List (List UInt8)} {regs : List (List (List UInt8))} {rv : List (List Int)} {mv : List Int} (h : AkIn w la ga ra ma lc mc locs regs rv mv) (z : Int) (v : Value) (t n : Int) (s : List UInt8) (ks : List CO) (hc : LC (fun _ => True) w v (.mk 2 t s n ks)) :
    Calls Tryd.prog 77 #[.agg #[.slice la locs.length lc, .slice ga regs.length gc, .slice ra rv.length rc, .slice ma mv.length mc, .int .i64 z], v] w (HoTo (if ks.length = 0 ∧ 0 ≤ t ∧ t < regs.length ∧ t < rv.length then hasP (regs.getD t.toNat []) (rv.getD t.toNat []) s n else none) w) := by
  have hc0 := hc
  unfold LC at hc0
  obtain ⟨a, cap, rfl, hmx, _⟩ := hc0
  unfold maxLen at hmx
  have hgl := h.sml.g
  have hrl := h.sml.r
  obtain ⟨hb2, hA, hC⟩ := two_newC w #[.slice la locs.length lc, .slice ga regs.length gc, .slice ra rv.length rc, .slice ma mv.length mc, .int .i64 z] #[.int .i64 2, .int .i64 t, .string (bs s), .int .i64 n, .slice a ks.length cap] 84 26
  have HB := Lib.hid hb2
  by_cases hle : rv.length < regs.length
  all_goals
    by_cases hk : 0 < ks.length
    · rw [if_neg (by omega)]
      have d1 : decide ((0 : Int) < (ks.length : Int)) = true := decide_eq_true (by omega)
      have d2 : decide (0 < ks.length) = true := decide_eq_true (by omega)
      clear hc h hb2 hA hC hk
      generalize bs s = S at *
      go_enter Tryd.func77, Tryd.ntmps77
      go_wp2_with fail
      go_ret2
      exact ⟨rfl, HB.out⟩
    have d1 : decide ((0 : Int) < (ks.length : Int)) = false := decide_eq_false (by omega)
    have d2 : decide (0 < ks.length) = false := decide_eq_false (by omega)
    by_cases ht : t < 0
    · rw [if_neg (by omega)]
      have d3 : decide (t < 0) = true := decide_eq_true (by omega)
      clear hc h hb2 hA hC hk
      generalize bs s = S at *
      go_enter Tryd.func77, Tryd.ntmps77
      go_wp2_with fail
      go_ret2
      exact ⟨rfl, HB.out⟩
    obtain ⟨j, rfl⟩ : ∃ j : Nat, t = (j : Nat) := ⟨t.toNat, by omega⟩
    have d3 : decide ((j : Int) < 0) = false := by simp
    by_cases hj : regs.length ≤ j ∨ rv.length ≤ j
    · rw [if_neg (by omega)]
      first
        | (have d5 : decide ((regs.length : Int) ≤ (j : Int)) = true := decide_eq_true (by omega)
           have d6 : decide (regs.length ≤ j) = true := decide_eq_true (by omega))
        | (have d5 : decide ((rv.length : Int) ≤ (j : Int)) = true := decide_eq_true (by omega)
           have d6 : decide (rv.length ≤ j) = true := decide_eq_true (by omega))
      clear hc h hb2 hA hC hk hj ht
      generalize bs s = S at *
      go_enter Tryd.func77, Tryd.ntmps77
      go_wp2_with fail
      go_ret2
      exact ⟨rfl, HB.out⟩
    rw [if_pos (by omega)]
    rw [Int.toNat_natCast]
    have d5 : decide ((regs.length : Int) ≤ (j : Int)) = false := decide_eq_false (by omega)
    have d6 : decide (regs.length ≤ j) = false := decide_eq_false (by omega)
    have d5' : decide ((rv.length : Int) ≤ (j : Int)) = false := decide_eq_false (by omega)
    have d6' : decide (rv.length ≤ j) = false := decide_eq_false (by omega)
    have hjg : j < regs.length := by omega
    have hjr : j < rv.length := by omega
    obtain ⟨g1, o1, na, nc, rfl, hg1, hn1⟩ := nss_at (h.nam.low hb2).nregs hjg
    obtain ⟨g2, o2, va, vc, rfl, hg2, hn2⟩ := vss_at (h.out.low hb2).regs hjr
    have hl1 := h.sml.gs j
    have hl2 := h.sml.rs j
    generalize regs.getD j [] = names at *
    generalize rv.getD j [] = vals at *
    have hcl := hc.low hb2
    have d7 : (0 : Int) ≤ (j : Int) := by omega
    have d8 : (j : Int) < (regs.length : Int) := by omega
    have d9 : (j : Int) < (rv.length : Int) := by omega
    clear hc h hk hj ht hb2 hjg hjr
    generalize hR : hasP names vals s n = R at *
    have HRR := Lib.hid hR
    clear hR
    generalize hS : bs s = S at *
    have HSS := Lib.hid hS
    clear hS
    go_enter Tryd.func77, Tryd.ntmps77
    go_wp2_with fail
    generalize hW : (w.alloc (.cells #[.slice la locs.length lc, .slice (some ⟨g1, o1, none⟩) regs.length gc, .slice (some ⟨g2, o2, none⟩) rv.length rc, .slice ma mv.length mc, .int .i64 z] 84)).alloc (.cells #[.int .i64 2, .int .i64 (j : Nat), .string S, .int .i64 n, .slice a ks.length cap] 26) = W at *
    have hz := hC.lt
    clear hW
    have HK := Lib.hid (show ∀ w', Below W.heap.size W w' → (w'.cell? ⟨w.heap.size, 1, none⟩ = some (.slice (some ⟨g1, o1, none⟩) regs.length gc) ∧ w'.cell? ⟨w.heap.size, 2, none⟩ = some (.slice (some ⟨g2, o2, none⟩) rv.length rc) ∧ w'.cell? ⟨w.heap.size + 1, 0, none⟩ = some (.int .i64 2) ∧ w'.cell? ⟨w.heap.size + 1, 1, none⟩ = some (.int .i64 (j : Nat)) ∧ w'.cell? ⟨w.heap.size + 1, 2, none⟩ = some (.string S) ∧ w'.cell? ⟨w.heap.size + 1, 3, none⟩ = some (.int .i64 n) ∧ w'.cell? ⟨w.heap.size + 1, 4, none⟩ = some (.slice a ks.length cap) ∧ w'.cell? ⟨g1, o1 + j, none⟩ = some (.slice na names.length nc) ∧ w'.cell? ⟨g2, o2 + j, none⟩ = some (.slice va vals.length vc)) from fun w' hb => by
      have hA' := hA.below hb (by omega)
      have hC' := hC.below hb hz
      exact ⟨hA'.cell 1, hA'.cell 2, hC'.cell 0, hC'.cell 1, hC'.cell 2, hC'.cell 3, hC'.cell 4, (hb.cell (p := ⟨g1, o1 + j, none⟩) (World.block_lt_of_cell? W _ hg1)).trans hg1, (hb.cell (p := ⟨g2, o2 + j, none⟩) (World.block_lt_of_cell? W _ hg2)).trans hg2⟩)
    have HX1 := Lib.hid (fun w' (hb : Below W.heap.size W w') => (has_any names vals na va nc vc _ 2 (j : Int) n s ks w' (hn1.keep (Keeps.below hb (Nat.le_refl _))) (hn2.keep (Keeps.below hb (Nat.le_refl _))) (hcl.low hb) hl1 hl2).mono fun e w'' (hh : HoTo (hasP names vals s n) w' e w'') => (show e = .returned (holdR R) ∧ Below W.heap.size W w'' from ⟨by rw [← HRR.out]; exact hh.1, hb.trans (hh.2.mono hb.size)⟩))
    have HK0 := Lib.hid (HK.out W (Below.refl _ _))
    have HKD := Lib.hid (HK.out W.drew (Below.refl _ _).drew)
    have hbD : Below W.heap.size W W.drew := (Below.refl _ _).drew
    clear hA hC hg1 hg2 hn1 hn2 hcl HSS
    cases R
    all_goals
      have HX2 := Lib.hid HX1.out
      unfold holdR at HX2
      clear HX1 HRR
      go_region_held3 (fun w' => (w'.cell? ⟨w.heap.size, 1, none⟩ = some (.slice (some ⟨g1, o1, none⟩) regs.length gc) ∧ w'.cell? ⟨w.heap.size, 2, none⟩ = some (.slice (some ⟨g2, o2, none⟩) rv.length rc) ∧ w'.cell? ⟨w.heap.size + 1, 0, none⟩ = some (.int .i64 2) ∧ w'.cell? ⟨w.heap.size + 1, 1, none⟩ = some (.int .i64 (j : Nat)) ∧ w'.cell? ⟨w.heap.size + 1, 2, none⟩ = some (.string S) ∧ w'.cell? ⟨w.heap.size + 1, 3, none⟩ = some (.int .i64 n) ∧ w'.cell? ⟨w.heap.size + 1, 4, none⟩ = some (.slice a ks.length cap) ∧ w'.cell? ⟨g1, o1 + j, none⟩ = some (.slice na names.length nc) ∧ w'.cell? ⟨g2, o2 + j, none⟩ = some (.slice va vals.length vc)))
        (first
          | with_reducible exact HK0.out
          | with_reducible exact HKD.out
          | with_reducible assumption
          | go_keep)
        ((go_at_call 90; (with_reducible refine (HX2.out _ (by assumption)).mono ?_); rintro e w7 ⟨rfl, hb7⟩; have hS7 := HK.out w7 hb7))
      all_goals
        go_wp2_with fail
        go_ret2
        exact ⟨rfl, HB.out.trans (hb7.mono HB.out.size)⟩
end Go.Proofs.YtchokfgffnomoaaDoor.Lx
