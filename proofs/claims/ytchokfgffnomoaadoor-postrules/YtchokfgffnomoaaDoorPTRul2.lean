/-
  What the statements' maker of conditions tells, as a contract.
-/
import Derived.Test.YtchokfgffnomoaaDoorPTRul
namespace Go.Proofs.YtchokfgffnomoaaDoor.Lx
open Go.RowKit
open P (CO hd)
set_option maxRecDepth 100000
set_option linter.unusedVariables false
set_option linter.unusedSimpArgs false
set_option maxHeartbeats 12800000 in
theorem cond11_inT2 (d : Nat) (hdd : d ≤ 100) (IH : ∀ (u w : World) (a : Option Addr) (n c : Nat) (xs : List Nat), Below u.heap.size u w → Bts u a n c xs → Calls Tryd.prog 31 #[.slice a n c, .int .i64 (d : Nat)] w (CondTo d u w)) (u w : World) (hbu : Below u.heap.size u w) (g off n c : Nat) (x : Nat) (xs : List Nat) (hu : Bts u (some ⟨g, off, none⟩) n c (x :: xs)) (hc : ¬ c = 1) (hd : x % 5 = 2) :
    Calls Tryd.prog 31 #[.slice (some ⟨g, off, none⟩) n c, .int .i64 ((d : Int) + 1)] w (CondTo (d + 1) u w) := by
  have h := hu.low hbu
  have hn : 0 < n := by have := h.1.1; rw [List.length_cons] at this; omega
  obtain ⟨b, o, hb, hcell⟩ := h.1.at hn
  cases hb
  have hx := hcell 0 hn
  have hcn := h.2.1
  have hcm := h.2.2
  rw [Nat.add_zero, List.getD_cons_zero] at hx
  have hx256 : x < 256 := h.1.2.2.1 0
  have hxa : ∀ o, (w.alloc o).cell? ⟨g, off, none⟩ = some (.int .u8 (x : Nat)) := fun o => ((one_belowC w o).cell (p := ⟨g, off, none⟩) (World.block_lt_of_cell? w _ hx)).trans hx
  have HBT := Lib.hid (bts_tail hu)
  have e1 : ((n : Int) == 0) = false := by simp; omega
  have e2 : (1 : Int) ≤ (n : Int) := by omega
  have d1 : decide ((0 : Int) < (d : Int) + 1) = true := decide_eq_true (by omega)
  have d1' : decide (0 < d + 1) = true := decide_eq_true (by omega)
  have d2 : ((x : Nat) : Int) % 5 = 2 := by omega
  have d3 : (d : Int) + 1 - 1 = (d : Int) := by omega
  have HB0 := Lib.hid (one_belowC w (.cells #[.int .i64 0, .int .i64 0, .string ⟨#[]⟩, .int .i64 0, .slice none 0 0] 26))
  have HQ0 := Lib.hid (Blk.new w 26 #[.int .i64 0, .int .i64 0, .string ⟨#[]⟩, .int .i64 0, .slice none 0 0])
  have hs0 : (w.alloc (.cells #[.int .i64 0, .int .i64 0, .string ⟨#[]⟩, .int .i64 0, .slice none 0 0] 26)).heap.size = w.heap.size + 1 := by simp
  have HIH := Lib.hid IH
  have HBU := Lib.hid hbu
  clear hcell h hu hd IH hbu
  go_enter Tryd.func31, Tryd.ntmps31
  go_wp2_with fail
  generalize hW : w.alloc (.cells #[.int .i64 0, .int .i64 0, .string ⟨#[]⟩, .int .i64 0, .slice none 0 0] 26) = W at *
  have HC1 := Lib.hid (HIH.out u W _ _ _ _ (HBU.out.trans (HB0.out.mono HBU.out.size)) HBT.out)
  clear hW hxa
  with_reducible refine HC1.out.mono ?_
  rintro e w2 ⟨o1, t1, S1, n1, ka1, kl1, kc1, c1, ra1, rn1, rc1, ys1, rfl, hlc1, hok1, hbt1, hb2⟩
  have HL1 := Lib.hid hlc1
  have HO1 := Lib.hid hok1
  have HT1 := Lib.hid hbt1
  have HB2 := Lib.hid (HB0.out.trans (hb2.mono HB0.out.size))
  have HW2 := Lib.hid hb2
  have hs2 := hb2.size
  have HQ2 := Lib.hid (HQ0.out.live' hb2)
  obtain ⟨p0, p1, p2, p3, p4, f0, f1, f2, f3, f4⟩ := five_free HQ2.out
  have hlt : w.heap.size < w2.heap.size := by omega
  clear hlc1 hok1 hbt1 hb2 HC1 HQ0
  go_wp2_with fail
  have hP : Only (fun b => b = w.heap.size) w2 _ := Only.put5 (Only.refl (fun b => b = w.heap.size) w2) (R := w.heap.size) (.inl rfl) (.int .i64 3) (.int .i64 0) (.string ⟨#[]⟩) (.int .i64 0) (.slice (some ⟨w2.heap.size + 1, 0, none⟩) 1 1)
  have hF := (hP.alloc (.cells #[.int .i64 o1, .int .i64 t1, .string S1, .int .i64 n1, .slice ka1 kl1 kc1] 26)).alloc (.cells #[.int .i64 o1, .int .i64 t1, .string S1, .int .i64 n1, .slice ka1 kl1 kc1] 26)
  have hR := ((put5 (a' := .int .i64 3) (b' := .int .i64 0) (c' := .string ⟨#[]⟩) (d' := .int .i64 0) (f' := .slice (some ⟨w2.heap.size + 1, 0, none⟩) 1 1) HQ2.out).alloc (.cells #[.int .i64 o1, .int .i64 t1, .string S1, .int .i64 n1, .slice ka1 kl1 kc1] 26)).alloc (.cells #[.int .i64 o1, .int .i64 t1, .string S1, .int .i64 n1, .slice ka1 kl1 kc1] 26)
  have hk := LC.keep (Keeps.only (Q := fun g => w.heap.size < g) hF (fun g hg e => by omega)) _ (LC.mono (Q' := fun g => w.heap.size < g) (fun g hg _ => by omega) _ HL1.out)
  refine bodyPost_ret (results_ct (q := 5) (p := 4) rfl _ _ _ w.heap.size 26 #[.int .i64 3, .int .i64 0, .string ⟨#[]⟩, .int .i64 0, .slice (some ⟨w2.heap.size + 1, 0, none⟩) 1 1] (0, 0) _ rfl rfl hR Tryd.underlying26 rfl (by kernel_rfl)) rfl ?_
  exact ⟨_, _, _, _, _, _, _, .mk 3 0 [] 0 [c1], _, _, _, ys1, rfl, lc_one (show w.heap.size < w2.heap.size + 1 by omega) (blk_at _ _ (by simp)) hk, okc_not HO1.out _ _ _, HT1.out, HB2.out.trans (hF.below (by omega) (fun k hk e => by omega))⟩
set_option maxHeartbeats 12800000 in
theorem cond11_inE2 (d : Nat) (hdd : d ≤ 100) (IH : ∀ (u w : World) (a : Option Addr) (n c : Nat) (xs : List Nat), Below u.heap.size u w → Bts u a n c xs → Calls Tryd.prog 31 #[.slice a n c, .int .i64 (d : Nat)] w (CondTo d u w)) (u w : World) (hbu : Below u.heap.size u w) (g off n c : Nat) (x : Nat) (xs : List Nat) (hu : Bts u (some ⟨g, off, none⟩) n c (x :: xs)) (hc : c = 1) (hd : x % 5 = 2) :
    Calls Tryd.prog 31 #[.slice (some ⟨g, off, none⟩) n c, .int .i64 ((d : Int) + 1)] w (CondTo (d + 1) u w) := by
  have h := hu.low hbu
  have hn : 0 < n := by have := h.1.1; rw [List.length_cons] at this; omega
  obtain ⟨b, o, hb, hcell⟩ := h.1.at hn
  cases hb
  have hx := hcell 0 hn
  have hcn := h.2.1
  have hcm := h.2.2
  rw [Nat.add_zero, List.getD_cons_zero] at hx
  have hx256 : x < 256 := h.1.2.2.1 0
  have hxa : ∀ o, (w.alloc o).cell? ⟨g, off, none⟩ = some (.int .u8 (x : Nat)) := fun o => ((one_belowC w o).cell (p := ⟨g, off, none⟩) (World.block_lt_of_cell? w _ hx)).trans hx
  obtain ⟨hxs, hn1⟩ := bts_end h hc
  subst hxs hc hn1
  have HBT := Lib.hid (bts_nil u (some ⟨g, off, none⟩))
  have d1 : decide ((0 : Int) < (d : Int) + 1) = true := decide_eq_true (by omega)
  have d1' : decide (0 < d + 1) = true := decide_eq_true (by omega)
  have d2 : ((x : Nat) : Int) % 5 = 2 := by omega
  have d3 : (d : Int) + 1 - 1 = (d : Int) := by omega
  have HB0 := Lib.hid (one_belowC w (.cells #[.int .i64 0, .int .i64 0, .string ⟨#[]⟩, .int .i64 0, .slice none 0 0] 26))
  have HQ0 := Lib.hid (Blk.new w 26 #[.int .i64 0, .int .i64 0, .string ⟨#[]⟩, .int .i64 0, .slice none 0 0])
  have hs0 : (w.alloc (.cells #[.int .i64 0, .int .i64 0, .string ⟨#[]⟩, .int .i64 0, .slice none 0 0] 26)).heap.size = w.heap.size + 1 := by simp
  have HIH := Lib.hid IH
  have HBU := Lib.hid hbu
  clear hcell h hu hd IH hbu
  go_enter Tryd.func31, Tryd.ntmps31
  go_wp2_with fail
  generalize hW : w.alloc (.cells #[.int .i64 0, .int .i64 0, .string ⟨#[]⟩, .int .i64 0, .slice none 0 0] 26) = W at *
  have HC1 := Lib.hid (HIH.out u W _ _ _ _ (HBU.out.trans (HB0.out.mono HBU.out.size)) HBT.out)
  clear hW hxa
  with_reducible refine HC1.out.mono ?_
  rintro e w2 ⟨o1, t1, S1, n1, ka1, kl1, kc1, c1, ra1, rn1, rc1, ys1, rfl, hlc1, hok1, hbt1, hb2⟩
  have HL1 := Lib.hid hlc1
  have HO1 := Lib.hid hok1
  have HT1 := Lib.hid hbt1
  have HB2 := Lib.hid (HB0.out.trans (hb2.mono HB0.out.size))
  have HW2 := Lib.hid hb2
  have hs2 := hb2.size
  have HQ2 := Lib.hid (HQ0.out.live' hb2)
  obtain ⟨p0, p1, p2, p3, p4, f0, f1, f2, f3, f4⟩ := five_free HQ2.out
  have hlt : w.heap.size < w2.heap.size := by omega
  clear hlc1 hok1 hbt1 hb2 HC1 HQ0
  go_wp2_with fail
  have hP : Only (fun b => b = w.heap.size) w2 _ := Only.put5 (Only.refl (fun b => b = w.heap.size) w2) (R := w.heap.size) (.inl rfl) (.int .i64 3) (.int .i64 0) (.string ⟨#[]⟩) (.int .i64 0) (.slice (some ⟨w2.heap.size + 1, 0, none⟩) 1 1)
  have hF := (hP.alloc (.cells #[.int .i64 o1, .int .i64 t1, .string S1, .int .i64 n1, .slice ka1 kl1 kc1] 26)).alloc (.cells #[.int .i64 o1, .int .i64 t1, .string S1, .int .i64 n1, .slice ka1 kl1 kc1] 26)
  have hR := ((put5 (a' := .int .i64 3) (b' := .int .i64 0) (c' := .string ⟨#[]⟩) (d' := .int .i64 0) (f' := .slice (some ⟨w2.heap.size + 1, 0, none⟩) 1 1) HQ2.out).alloc (.cells #[.int .i64 o1, .int .i64 t1, .string S1, .int .i64 n1, .slice ka1 kl1 kc1] 26)).alloc (.cells #[.int .i64 o1, .int .i64 t1, .string S1, .int .i64 n1, .slice ka1 kl1 kc1] 26)
  have hk := LC.keep (Keeps.only (Q := fun g => w.heap.size < g) hF (fun g hg e => by omega)) _ (LC.mono (Q' := fun g => w.heap.size < g) (fun g hg _ => by omega) _ HL1.out)
  refine bodyPost_ret (results_ct (q := 5) (p := 4) rfl _ _ _ w.heap.size 26 #[.int .i64 3, .int .i64 0, .string ⟨#[]⟩, .int .i64 0, .slice (some ⟨w2.heap.size + 1, 0, none⟩) 1 1] (0, 0) _ rfl rfl hR Tryd.underlying26 rfl (by kernel_rfl)) rfl ?_
  exact ⟨_, _, _, _, _, _, _, .mk 3 0 [] 0 [c1], _, _, _, ys1, rfl, lc_one (show w.heap.size < w2.heap.size + 1 by omega) (blk_at _ _ (by simp)) hk, okc_not HO1.out _ _ _, HT1.out, HB2.out.trans (hF.below (by omega) (fun k hk e => by omega))⟩
end Go.Proofs.YtchokfgffnomoaaDoor.Lx
