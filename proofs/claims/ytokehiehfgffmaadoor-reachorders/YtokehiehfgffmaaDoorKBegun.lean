/-
  The first look of the statements of layer 3 ('begun') answers true, and leaves what was there as it was.
-/
import Derived.Test.YtokehiehfgffmaaDoorKLaw2
namespace Go.Proofs.YtokehiehfgffmaaDoor
open Go.RowKit
set_option linter.unusedVariables false
set_option linter.unusedSimpArgs false

def k0 : List Nat := [4, 0, 2]
def kp : List Nat := [6, 0, 2]
def ks : List Nat := [7, 2, 6]
theorem kq_from : fromR 3 [(0, 2), (2, 1)] = k0 := by decide +kernel
theorem kq_fromOk : fromOk 3 [(0, 2), (2, 1)] = true := by decide +kernel
theorem kq_ord : ordL k0 = [0, 2, 1] := by decide +kernel
theorem kq_ordOk : ordOk k0 = true := by decide +kernel
theorem kq_deep : deepL k0 = [0, 2, 1] := by decide +kernel
theorem kq_acy : acyB k0 = true := by decide +kernel
theorem kq_plus : plusR k0 = kp := by decide +kernel
theorem kq_has : R.hasR kp 0 1 = true := by decide +kernel
theorem kq_star : starR k0 = ks := by decide +kernel
theorem kq_has2 : R.hasR ks 1 1 = true := by decide +kernel
theorem kq_acy1 : acyB [1] = false := by decide +kernel
theorem kq_tot : totB kp 7 = true := by decide +kernel
theorem kq_tot2 : totB k0 7 = false := by decide +kernel
theorem kq_down : downR k0 2 = 7 := by decide +kernel
theorem kq_up : upR k0 4 = 6 := by decide +kernel

def KFrom3 (w : World) (e : Ending) (w' : World) : Prop := ∃ b off cap, e = .returned (.tuple #[.slice (some ⟨b, off, none⟩) 3 cap, .bool true]) ∧ IsWords w' (some ⟨b, off, none⟩) 3 k0 ∧ Below w.heap.size w w'
theorem k_from (g : Nat) (w : World) (h : Blk w g 48 #[.int .i64 0, .int .i64 2, .int .i64 2, .int .i64 1]) : Calls Tryd.prog 37 #[.int .i64 3, .slice (some ⟨g, 0, none⟩) 2 2] w (KFrom3 w) := by
  refine (from_any 3 (some ⟨g, 0, none⟩) 2 2 _ w (isPairs_two h)).mono ?_
  rintro e w' ⟨a, cap, rfl, hx, hb⟩
  rw [kq_from] at hx ⊢
  rw [kq_fromOk]
  obtain ⟨b, off, rfl, _⟩ := hx.at (by decide)
  exact ⟨b, off, cap, rfl, hx, hb⟩
def KList3 (w : World) (e : Ending) (w' : World) : Prop := ∃ b off cap, e = .returned (.tuple #[.slice (some ⟨b, off, none⟩) 3 cap, .bool true]) ∧ w'.cell? ⟨b, off + 1, none⟩ = some (.int .i64 2) ∧ Below w.heap.size w w'
theorem klist3 {w w' : World} {e : Ending} (h : GivesI [0, 2, 1] true w e w') : KList3 w e w' := by
  obtain ⟨a, cap, rfl, ⟨_, _, h | ⟨b, off, rfl, hc⟩⟩, hb⟩ := h
  · cases h
  · exact ⟨b, off, cap, rfl, hc 1 (by decide), hb⟩
theorem k_order (b off cap : Nat) (w : World) (h : IsWords w (some ⟨b, off, none⟩) 3 k0) (hT : Tb w) : Calls Tryd.prog 12 #[.slice (some ⟨b, off, none⟩) 3 cap] w (KList3 w) := by
  refine (order_any _ 3 cap k0 w h hT).mono ?_
  rw [kq_ord, kq_ordOk]
  intro e w' h
  exact klist3 h
theorem k_deep (b off cap : Nat) (w : World) (h : IsWords w (some ⟨b, off, none⟩) 3 k0) (hT : Tb w) : Calls Tryd.prog 14 #[.slice (some ⟨b, off, none⟩) 3 cap] w (KList3 w) := by
  refine (deep_any _ 3 cap k0 w h hT).mono ?_
  rw [kq_deep, kq_acy]
  intro e w' h
  exact klist3 h
def KRows (xs : List Nat) (w : World) (e : Ending) (w' : World) : Prop := ∃ a cap, e = .returned (.slice a 3 cap) ∧ IsWords w' a 3 xs ∧ Below w.heap.size w w'
theorem k_plus (b off cap : Nat) (w : World) (h : IsWords w (some ⟨b, off, none⟩) 3 k0) (hT : Tb w) : Calls Tryd.prog 16 #[.slice (some ⟨b, off, none⟩) 3 cap] w (KRows kp w) := by
  refine (plusR_gives _ 3 cap k0 w h hT (fun _ => by decide)).mono ?_
  rw [kq_plus]
  rintro e w' ⟨a, c, rfl, hx, hb⟩
  exact ⟨a, c, rfl, hx, hb⟩
theorem k_star (b off cap : Nat) (w : World) (h : IsWords w (some ⟨b, off, none⟩) 3 k0) (hT : Tb w) : Calls Tryd.prog 23 #[.slice (some ⟨b, off, none⟩) 3 cap] w (KRows ks w) := by
  refine (starR_gives _ 3 cap k0 w h hT (fun _ => by decide)).mono ?_
  rw [kq_star]
  rintro e w' ⟨a, c, rfl, hx, hb⟩
  exact ⟨a, c, rfl, hx, hb⟩
set_option maxHeartbeats 2000000 in
set_option maxRecDepth 100000 in
theorem begun3_any (w : World) (hT : Tb w) :
    Calls Tryd.prog 8 #[] w (Ans (.bool true) w) := by
  go_enter Tryd.func8, Tryd.ntmps8
  go_wp2_with fail
  refine (k_from _ _ (Blk.new _ _ _)).mono ?_
  rintro e w1 ⟨b, off, cap, rfl, hr1, hb1⟩
  have hB1 : Below w.heap.size w w1 := ((Below.refl _ _).alloc (Nat.le_refl _) _).trans (hb1.mono (by simp))
  have hT1 := hT.below hB1
  have HR : Hid (∀ w5 : World, Below w1.heap.size w1 w5 → IsWords w5 (some ⟨b, off, none⟩) 3 k0) := fun _ h => hr1.below h
  clear hb1
  go_wp2_with fail
  refine (k_order _ _ _ _ hr1 hT1).mono ?_
  rintro e w2 ⟨bo, oo, co, rfl, co1, hb2⟩
  clear hr1
  go_wp2_with fail
  refine (k_deep _ _ _ _ (HR.out _ hb2) (hT1.below hb2)).mono ?_
  rintro e w3 ⟨bd, od, cd, rfl, cd1, hb3⟩
  have co3 : w3.cell? ⟨bo, oo + 1, none⟩ = some (.int .i64 2) := (hb3.cell (p := ⟨bo, oo + 1, none⟩) (World.block_lt_of_cell? w2 _ co1)).trans co1
  have hb3' := hb2.trans (hb3.mono hb2.size)
  clear co1 hb2 hb3
  go_wp2_with fail
  refine (k_plus _ _ _ _ (HR.out _ hb3') (hT1.below hb3')).mono ?_
  rintro e w4 ⟨ap, cp, rfl, hp4, hb4⟩
  have co4 : w4.cell? ⟨bo, oo + 1, none⟩ = some (.int .i64 2) := (hb4.cell (p := ⟨bo, oo + 1, none⟩) (World.block_lt_of_cell? w3 _ co3)).trans co3
  have cd4 : w4.cell? ⟨bd, od + 1, none⟩ = some (.int .i64 2) := (hb4.cell (p := ⟨bd, od + 1, none⟩) (World.block_lt_of_cell? w3 _ cd1)).trans cd1
  have hb4' := hb3'.trans (hb4.mono hb3'.size)
  have HP : Hid (∀ w5 : World, Below w4.heap.size w4 w5 → IsWords w5 ap 3 kp) := fun _ h => hp4.below h
  clear co3 cd1 hb3' hb4
  have hT4 := hT1.below hb4'
  have HR4 : Hid (∀ w5 : World, Below w4.heap.size w4 w5 → IsWords w5 (some ⟨b, off, none⟩) 3 k0) := fun _ h => HR.out _ (hb4'.trans (h.mono hb4'.size))
  have hB4 : Below w.heap.size w w4 := hB1.trans (hb4'.mono hB1.size)
  clear HR hb4' hB1 hT1
  go_wp2_with fail
  refine (hasR_any _ _ _ _ _ kp _ hp4 hT4).mono ?_
  rw [kq_has]
  rintro e w5 ⟨rfl, hb5⟩
  clear co4 cd4 hp4
  go_wp2_with fail
  refine (k_star _ _ _ _ (HR4.out _ hb5) (hT4.below hb5)).mono ?_
  rintro e w6 ⟨a6, c6, rfl, hs6, hb6⟩
  have hb6 := hb5.trans (hb6.mono hb5.size)
  clear hb5
  go_wp2_with fail
  refine (hasR_any _ _ _ _ _ ks _ hs6 (hT4.below hb6)).mono ?_
  rw [kq_has2]
  rintro e w7 ⟨rfl, hb7⟩
  have hb7 := hb6.trans (hb7.mono hb6.size)
  clear hb6 hs6
  go_wp2_with fail
  refine (acyclic_any _ _ _ k0 _ (HR4.out _ hb7) (hT4.below hb7)).mono ?_
  rw [kq_acy]
  rintro e w8 ⟨rfl, hb8⟩
  have hb8 := hb7.trans (hb8.mono hb7.size)
  clear hb7
  go_wp2_with fail
  refine (acyclic_any _ _ _ [1] _ (isWords_one (by decide) (Blk.new _ _ _)) (hT4.below (hb8.alloc hb8.size _))).mono ?_
  rw [kq_acy1]
  rintro e w9 ⟨rfl, hb9⟩
  have hb9 := (hb8.alloc hb8.size _).trans (hb9.mono (hb8.alloc hb8.size _).size)
  clear hb8
  go_wp2_with fail
  refine (total_any _ _ _ 7 kp _ (HP.out _ hb9) (hT4.below hb9) (by decide)).mono ?_
  rw [kq_tot]
  rintro e w10 ⟨rfl, hb10⟩
  have hb10 := hb9.trans (hb10.mono hb9.size)
  clear hb9
  go_wp2_with fail
  refine (total_any _ _ _ 7 k0 _ (HR4.out _ hb10) (hT4.below hb10) (by decide)).mono ?_
  rw [kq_tot2]
  rintro e w11 ⟨rfl, hb11⟩
  have hb11 := hb10.trans (hb11.mono hb10.size)
  clear hb10
  go_wp2_with fail
  refine (down_any _ _ _ 2 k0 _ (HR4.out _ hb11) (hT4.below hb11) (by decide)).mono ?_
  rw [kq_down]
  rintro e w12 ⟨rfl, hb12⟩
  have hb12 := hb11.trans (hb12.mono hb11.size)
  clear hb11
  go_wp2_with fail
  refine (up_any _ _ _ 4 k0 _ (HR4.out _ hb12) (hT4.below hb12) (by decide)).mono ?_
  rw [kq_up]
  rintro e w13 ⟨rfl, hb13⟩
  have hb13 := hb12.trans (hb13.mono hb12.size)
  clear hb12
  go_wp2
  go_ret
  exact ⟨rfl, hB4.trans (hb13.mono hB4.size)⟩
end Go.Proofs.YtokehiehfgffmaaDoor
